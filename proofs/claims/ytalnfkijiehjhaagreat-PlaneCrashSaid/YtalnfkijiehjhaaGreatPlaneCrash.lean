/- roundhouselaw9.PlaneCrash answers true for every three rows, any two numbers; no condition. -/
import Derived.Test.YtalnfkijiehjhaaGreatGa
import Derived.Test.YtalnfkijiehjhaaGreatPkn
import Derived.Test.YtalnfkijiehjhaaGreatSom
import Derived.Deep.LoopGhost
import Derived.Deep.CutRange
import Derived.Deep.CutBlock
import Derived.IntWalk
import Derived.BigQuiet
import Derived.Deep.RegionHeld3
import Derived.Deep.Cut
namespace Go.Proofs.YtalnfkijiehjhaaGreat.planeCrash
open List renaming setIfInBounds_toArray→zA,set_cons_zero→zB,set_cons_succ→zC
set_option linter.unusedVariables false
set_option linter.unusedSimpArgs false
open Go.RowKit Go.ChangeShapes Go.WideShapes Go.ChangeAt
attribute [local irreducible] FA FL iL
set_option maxRecDepth 100000 in
set_option maxHeartbeats 8000000 in
theorem walk (W:World)(A1:Option Addr)(n1 c1:Nat)(g1:Nat→Int)(hn1:n1≤c1)(hc1:c1≤maxLen)(hr1:Is W A1 n1 g1)(hg1:wJ g1)(hl1:∀ad,A1=some ad→0<n1→ad.block<W.heap.size)(tB:c1*8≤140737488351232)(A2:Option Addr)(n2 c2:Nat)(g2:Nat→Int)(hn2:n2≤c2)(hc2:c2≤maxLen)(hr2:Is W A2 n2 g2)(hg2:wJ g2)(hl2:∀ad,A2=some ad→0<n2→ad.block<W.heap.size)(tq:c2*8≤140737488351232)(A3:Option Addr)(n3 c3:Nat)(g3:Nat→Int)(GY:n3≤c3)(hc3:c3≤maxLen)(hr3:Is W A3 n3 g3)(hg3:wJ g3)(hl3:∀ad,A3=some ad→0<n3→ad.block<W.heap.size)(Q9:c3*8≤140737488351232)(a0:Int)(CH: -9223372036854775808≤a0∧a0≤9223372036854775807)(b0:Int)(zE: -9223372036854775808≤b0∧b0≤9223372036854775807) :
 Calls Tryz.prog 6 #[.slice A1 n1 c1,.slice A2 n2 c2,.slice A3 n3 c3,a0,b0] W fun e w'=>e =.returned (.bool true)∧Below W.heap.size W w':=by
 obtain ⟨p,hp⟩:∃p,p=fP g1 (min n1 60):=⟨_,rfl⟩
 have Ry:=hid (show jG p 60 from by rw[hp];exact(rS g1 _).mono (by omega))
 have Rz:=hid (show p.a=10∧p.p=80 from by rw[hp];exact ug g1 _)
 have OP:=hid (show Pt p from by rw[hp];exact Gz g1 _ (by omega))
 have mU:=hid (show Pw p from by rw[hp];exact xv g1 _)
 have MK:=hid (fun (w:World) (hb:Below W.heap.size W w)=>(show Calls Tryz.prog 9 #[.slice A1 n1 c1,.int .i64 60] w fun x w'=>x =.returned (.agg (FA 330 (pc p)))∧Below w.heap.size w w' from by rw[hp];exact MZ W A1 n1 c1 g1 hr1 hl1 hn1 hc1 60 (by decide) w hb))
 clear hp hr1 hl1 hg1 tB hn1 hc1
 have S0:Hid (HS [] W W []):=hid HS.start
 have HR2:=hid (show ∀(w:World),Below W.heap.size W w→Is w A2 n2 g2 from fun w h=>hr2.below h (Nat.le_refl _))
 have HG2:=hid hg2
 unfold maxLen at hc2
 have Rk:(n2:Int)≤9223372036854775807:=by have:=hn2;omega
 clear hr2 hg2 hl2 tq hn2 hc2
 have HR3:=hid (show ∀(w:World),Below W.heap.size W w→Is w A3 n3 g3 from fun w h=>hr3.below h (Nat.le_refl _))
 have Re:=hid hg3
 unfold maxLen at hc3
 have Rj:(n3:Int)≤9223372036854775807:=by have:=GY;omega
 clear hr3 hg3 hl3 Q9 GY hc3
 have OT:=hid (show mB (fun _=>none) from fun j v h=>by cases h)
 go_enter Tryz.func6,Tryz.ntmps6
 go_wp2_with fail
 refine(Mv _).mono ?_
 rintro e w1 ⟨rfl,hb⟩
 have S1:Hid (HS [] W w1 []):=hid (S0.out.below hb)
 clear hb S0
 go_simp
 go_wp2_with fail
 refine(MK.out _ S1.out.bl).mono ?_
 rintro e w2 ⟨rfl,hb⟩
 have S2:Hid (HS [] W w2 []):=hid (S1.out.below hb)
 clear hb S1 MK
 go_simp
 go_upto_region 4 with (first | ((with_reducible refine ay ?_);refine aS rfl (t9 rfl (LD _) (by omega) S2.out ?_);intro P w_ hZ _;have SA:=hid hZ;clear hZ) | ((with_reducible refine ay ?_);refine aS rfl (lk (A:=[]) 0 330 (pc p) (pc p) rfl rfl rfl SA.out (by omega) (fun j hj=>nY _ _ _ j hj) lp (t5 _) ?_);intro w_ hZ;have SX:=hid hZ;clear hZ))
 have S3:Hid (HS [] W _ [aP P 330 (pc p)]):=hid (SX.out)
 clear SX SA S2
 go_wp2_with fail
 refine(plane_new S3.out).mono ?_
 rintro e QY ⟨pb,rfl,hz⟩
 have S4:Hid (HS [] W QY [aP pb 130 (fO none false js),aP P 330 (pc p)]):=hid (hz)
 clear hz S3
 go_simp
 go_wp2_with fail
 refine(plane_new S4.out).mono ?_
 rintro e QX ⟨qb,rfl,hz⟩
 have S5:Hid (HS [] W QX [aP qb 130 (fO none false js),aP pb 130 (fO none false js),aP P 330 (pc p)]):=hid (hz)
 clear hz S4
 go_simp
 go_upto_region 7 with (fail)
 go_wp2_with ((with_reducible refine ay ?_);refine aS rfl (vQ 2 rfl 0 330 (pc p) rfl rfl S5.out (by omega) (fun j hj=>by rw[Nat.zero_add]) Tryz.underlying34 rfl lp ?_))
 refine(Aa (A:=[aP qb 130 (fO none false js)]) (B:=[aP P 330 (pc p)]) (nr:=fun _=>none) S5.out p mU.out).mono ?_
 rintro e QW ⟨rfl,sb,wb,hne,hz⟩
 have S6:Hid (HS [] W QW [kg sb wb p,aP qb 130 (fO none false js),aP pb 130 (dD sb (fun _=>none)),aP P 330 (pc p)]):=hid (hz)
 clear hz S5
 have OQ:=hid hne
 clear hne
 go_simp
 go_wp2_with fail
 go_loopg [14] 20 (fun gh i wx=>∃(k:Nat) (nr:Nat→Option Int),gh=20-k∧k≤20∧i =.int .i64 (k:Int)∧mB nr∧HS [] W wx [kg sb wb p,aP qb 130 (fO none false js),aP pb 130 (dD sb (nr)),aP P 330 (pc p)])
 case atStart=>exact⟨0,fun _=>none,by omega,by omega,rfl,OT.out,S6.out⟩
 clear S6
 obtain ⟨k,nr,hgh,hk,rfl,hnr,hS⟩:=hrel
 have U0:=hid hS
 have IW:=hid hnr
 clear hS hnr
 go_upto_region 9 with (fail)
 obtain ⟨bb,hbb⟩:∃bb:Bool,bb=(decide (k<n2)&&decide (k<n3)&&decide (k<20)):=⟨_,rfl⟩
 have eE:=hid hbb
 clear hbb
 go_cut [52] from 39 to 52 (fun x wx=>x =.bool bb∧wr=wx)
 case first=>
  by_cases h1:(k:Int)<n2
  ·by_cases h2:(k:Int)<n3
   ·by_cases h3:(k:Int)<20
    ·go_wp2_with fail
     go_meet
     exact⟨by rw[eE.out];simp;omega,rfl⟩
    go_wp2_with fail
    go_meet
    exact⟨by rw[eE.out];simp;omega,rfl⟩
   go_wp2_with fail
   go_meet
   exact⟨by rw[eE.out];simp;omega,rfl⟩
  go_wp2_with fail
  go_meet
  exact⟨by rw[eE.out];simp;omega,rfl⟩
 obtain ⟨rfl,rfl⟩:=hcut
 cases bb
 ·clear eE
  go_wp2_with fail
  refine(E7 (A:=[kg sb wb p,aP qb 130 (fO none false js)]) (B:=[aP P 330 (pc p)]) U0.out).mono ?_
  rintro e Q8 ⟨rfl,hz⟩
  have nI:Hid (HS [] W Q8 [kg sb wb p,aP qb 130 (fO none false js),aP pb 130 (fO none false js),aP P 330 (pc p)]):=hid (hz)
  clear hz U0
  go_simp
  go_wp2_with ((with_reducible refine ay ?_);refine aS rfl (vQ 3 rfl 0 330 (pc p) rfl rfl nI.out (by omega) (fun j hj=>by rw[Nat.zero_add]) Tryz.underlying34 rfl lp ?_))
  refine(g5 nI.out p OP.out a0 b0 CH zE).mono ?_
  rintro e Q7 ⟨AB,nb,cb,gb,rfl,hcb,hnb,hgb,hz⟩
  have nx:Hid (HS [] W Q7 [dx (.slice AB nb cb) nb gb,kg sb wb p,aP qb 130 (fO none false js),aP pb 130 (fO none false js),aP P 330 (pc p)]):=hid (hz)
  clear hz nI
  have I_:=hid hgb
  clear hgb
  go_simp
  go_wp2_with fail
  refine(Eh (nx.out.fb 3 rfl) _).mono ?_
  rintro e w32 ⟨rfl,hb⟩
  have t4:Hid (HS [] W w32 [dx (.slice AB nb cb) nb gb,kg sb wb p,aP qb 130 (fO none false js),aP pb 130 (fO none false js),aP P 330 (pc p)]):=hid (nx.out.below hb)
  clear hb nx
  go_simp
  go_upto_region 15 with (first | ((with_reducible refine ay ?_);refine aS rfl (bZ rfl (px _) (by simp) t4.out ?_);intro O1 w_ hZ _;have SY:=hid hZ;clear hZ) | ((with_reducible refine ay ?_);refine aS rfl (aT (A:=[]) [.int .i64 10,.int .i64 (-1),false,.slice none 0 0] rfl rfl (rfl) SY.out rfl dY rfl ?_);intro w_ hZ;have SX:=hid hZ;clear hZ))
  have nm:Hid (HS [] W _ [aB O1 [.int .i64 10,.int .i64 (-1),false,.slice none 0 0],dx (.slice AB nb cb) nb gb,kg sb wb p,aP qb 130 (fO none false js),aP pb 130 (fO none false js),aP P 330 (pc p)]):=hid (SX.out)
  clear SX SY t4
  go_wp2_with fail
  refine(FG (nm.out.fb 4 rfl)).mono ?_
  rintro e Q6 ⟨rfl,hb⟩
  have t3:Hid (HS [] W Q6 [aB O1 [.int .i64 10,.int .i64 (-1),false,.slice none 0 0],dx (.slice AB nb cb) nb gb,kg sb wb p,aP qb 130 (fO none false js),aP pb 130 (fO none false js),aP P 330 (pc p)]):=hid (nm.out.below hb)
  clear hb nm
  go_simp
  go_wp2_with fail
  go_loopg [19] 64 (fun gh i wx=>∃(k:Nat),gh=64-k∧k≤64∧i =.int .i64 (k:Int)∧HS [] W wx [aB O1 [.int .i64 10,.int .i64 (-1),false,.slice none 0 0],dx (.slice AB nb cb) nb gb,kg sb wb p,aP qb 130 (fO none false js),aP pb 130 (fO none false js),aP P 330 (pc p)])
  case atStart=>exact⟨0,by omega,by omega,rfl,t3.out⟩
  clear t3
  obtain ⟨k,hgh,hk,rfl,hS⟩:=hrel
  have db:Hid (HS [] W _ [aB O1 [.int .i64 10,.int .i64 (-1),false,.slice none 0 0],dx (.slice AB nb cb) nb gb,kg sb wb p,aP qb 130 (fO none false js),aP pb 130 (fO none false js),aP P 330 (pc p)]):=hid (hS)
  clear hS
  by_cases Rc:k<64
  ·have k1:(k:Int)<64:=by omega
   go_wp2_with fail
   refine(tX (db.out.fb 4 rfl) k Rc).mono ?_
   rintro e Q5 ⟨rfl,hb⟩
   have cw:Hid (HS [] W Q5 [aB O1 [.int .i64 10,.int .i64 (-1),false,.slice none 0 0],dx (.slice AB nb cb) nb gb,kg sb wb p,aP qb 130 (fO none false js),aP pb 130 (fO none false js),aP P 330 (pc p)]):=hid (db.out.below hb)
   clear hb
   go_simp
   go_wp2_with fail
   go_roundg (64-(k+1))
   case rel=>exact⟨k+1,by omega,by omega,by go_num,cw.out⟩
   omega
  have k1:¬(k:Int)<64:=by omega
  go_upto_region 22 with (fail)
  go_wp2_with ((with_reducible refine ay ?_);refine aS rfl (vQ 5 rfl 0 330 (pc p) rfl rfl db.out (by omega) (fun j hj=>by rw[Nat.zero_add]) Tryz.underlying34 rfl lp ?_))
  refine(Aa (A:=[aB O1 [.int .i64 10,.int .i64 (-1),false,.slice none 0 0],dx (.slice AB nb cb) nb gb,kg sb wb p,aP qb 130 (fO none false js)]) (B:=[aP P 330 (pc p)]) (nr:=fun _=>none) db.out p mU.out).mono ?_
  rintro e QV ⟨rfl,sc,wc,hne,hz⟩
  have cw:Hid (HS [] W QV [kg sc wc p,aB O1 [.int .i64 10,.int .i64 (-1),false,.slice none 0 0],dx (.slice AB nb cb) nb gb,kg sb wb p,aP qb 130 (fO none false js),aP pb 130 (dD sc (fun _=>none)),aP P 330 (pc p)]):=hid (hz)
  clear hz db
  have N9:=hid hne
  clear hne
  go_simp
  go_wp2_with ((with_reducible refine ay ?_);refine aS rfl (vQ 6 rfl 0 330 (pc p) rfl rfl cw.out (by omega) (fun j hj=>by rw[Nat.zero_add]) Tryz.underlying34 rfl lp ?_))
  refine(Aa (A:=[kg sc wc p,aB O1 [.int .i64 10,.int .i64 (-1),false,.slice none 0 0],dx (.slice AB nb cb) nb gb,kg sb wb p]) (B:=[aP pb 130 (dD sc (fun _=>none)),aP P 330 (pc p)]) (nr:=fun _=>none) cw.out p mU.out).mono ?_
  rintro e QU ⟨rfl,sd,wd,hne,hz⟩
  have gZ:Hid (HS [] W QU [kg sd wd p,kg sc wc p,aB O1 [.int .i64 10,.int .i64 (-1),false,.slice none 0 0],dx (.slice AB nb cb) nb gb,kg sb wb p,aP qb 130 (dD sd (fun _=>none)),aP pb 130 (dD sc (fun _=>none)),aP P 330 (pc p)]):=hid (hz)
  clear hz cw
  have N6:=hid hne
  clear hne
  go_simp
  obtain ⟨tt,ht⟩:∃t,df p true (fun _=>none) gb nb=t:=⟨_,rfl⟩
  have HT:=hid ht
  clear ht
  go_wp2_with fail
  refine(Mx (A:=[kg sd wd p,kg sc wc p,aB O1 [.int .i64 10,.int .i64 (-1),false,.slice none 0 0],dx (.slice AB nb cb) nb gb,kg sb wb p,aP qb 130 (dD sd (fun _=>none))]) (B:=[aP P 330 (pc p)]) gZ.out (gZ.out.st 1 rfl) N9.out OP.out OT.out gb nb cb AB I_.out (by omega) (gZ.out.gP 3 rfl) hcb _ HT.out).mono ?_
  rintro e Q0 ⟨e9,b9,rfl,hz,Rh⟩
  have gy:Hid (HS [] W Q0 [dx (.slice e9 tt.n b9) tt.n tt.f,kg sd wd p,kg sc wc p,aB O1 [.int .i64 10,.int .i64 (-1),false,.slice none 0 0],dx (.slice AB nb cb) nb gb,kg sb wb p,aP qb 130 (dD sd (fun _=>none)),aP pb 130 (dD sc tt.nr),aP P 330 (pc p)]):=hid (hz)
  clear hz gZ
  go_simp
  go_wp2_with fail
  refine(Mx (A:=[dx (.slice e9 tt.n b9) tt.n tt.f,kg sd wd p,kg sc wc p,aB O1 [.int .i64 10,.int .i64 (-1),false,.slice none 0 0],dx (.slice AB nb cb) nb gb,kg sb wb p]) (B:=[aP pb 130 (dD sc tt.nr),aP P 330 (pc p)]) gy.out (gy.out.st 1 rfl) N6.out OP.out OT.out gb nb cb AB I_.out (by omega) (gy.out.gP 4 rfl) hcb _ HT.out).mono ?_
  rintro e QZ ⟨qZ,g6,rfl,hz,Rf⟩
  have NS:Hid (HS [] W QZ [dx (.slice qZ tt.n g6) tt.n tt.f,dx (.slice e9 tt.n b9) tt.n tt.f,kg sd wd p,kg sc wc p,aB O1 [.int .i64 10,.int .i64 (-1),false,.slice none 0 0],dx (.slice AB nb cb) nb gb,kg sb wb p,aP qb 130 (dD sd tt.nr),aP pb 130 (dD sc tt.nr),aP P 330 (pc p)]):=hid (hz)
  clear hz gy
  go_simp
  go_upto_region 25 with (first | ((with_reducible refine ay ?_);refine aS rfl (bZ rfl (px _) (by simp) NS.out ?_);intro O2 w_ hZ _;have SA:=hid hZ;clear hZ) | ((with_reducible refine ay ?_);refine aS rfl (bZ rfl (px _) (by simp) SA.out ?_);intro O3 w_ hZ _;have SB:=hid hZ;clear hZ) | ((with_reducible refine ay ?_);refine aS rfl (aT (A:=[aB O3 [(),(),false,.slice none 0 0]]) [tt.d,tt.s,tt.c,.slice e9 tt.n b9] rfl rfl (rfl) SB.out rfl dY rfl ?_);intro w_ hZ;have SC:=hid hZ;clear hZ) | ((with_reducible refine ay ?_);refine aS rfl (aT (A:=[]) [tt.d,tt.s,tt.c,.slice qZ tt.n g6] rfl rfl (rfl) SC.out rfl dY rfl ?_);intro w_ hZ;have SD:=hid hZ;clear hZ))
  have aw:Hid (HS [] W _ [aB O3 [tt.d,tt.s,tt.c,.slice qZ tt.n g6],aB O2 [tt.d,tt.s,tt.c,.slice e9 tt.n b9],dx (.slice qZ tt.n g6) tt.n tt.f,dx (.slice e9 tt.n b9) tt.n tt.f,kg sd wd p,kg sc wc p,aB O1 [.int .i64 10,.int .i64 (-1),false,.slice none 0 0],dx (.slice AB nb cb) nb gb,kg sb wb p,aP qb 130 (dD sd tt.nr),aP pb 130 (dD sc tt.nr),aP P 330 (pc p)]):=hid (SD.out)
  clear SA SB SC SD
  obtain ⟨a0,a1,a2,a3⟩:=(aw.out.ce 0 rfl).c4
  obtain ⟨b0,b1,b2,b3⟩:=(aw.out.ce 1 rfl).c4
  obtain ⟨d0,d1,d2,d3⟩:=(aw.out.ce 6 rfl).c4
  have x1:=b5 b9 (aw.out.gP 3 rfl)
  have x2:=b5 g6 (aw.out.gP 2 rfl)
  go_wp2_with fail
  go_ret
  exact⟨by simp,aw.out.bl⟩
 have hkn2:k<n2∧k<n3∧k<20:=by have:=eE.out;simp at this;exact⟨this.1.1,this.1.2,this.2⟩
 obtain ⟨hl1,hl2,hl3⟩:=hkn2
 clear eE
 have i1:(k:Int)<n2:=by omega
 have i2:(k:Int)<n3:=by omega
 have i3:(k:Int)<20:=by omega
 have z1:(0:Int)≤k:=by omega
 obtain ⟨bb2,off2,rfl⟩:=Sl.addr (HR2.out _ U0.out.bl) (by omega)
 have xY:=hid (fun (w:World) (h:Below W.heap.size W w)=>Sl.at_ (show Sl w (some ⟨bb2,off2,none⟩) n2 (fun j=>.int .i64 (g2 j)) from HR2.out w h) (j:=k) (by omega))
 have xp:=HG2.out k
 obtain ⟨kv,hkv⟩:∃v,v=g2 k:=⟨_,rfl⟩
 rw[←hkv]at xY xp
 clear hkv
 obtain ⟨bb3,CW,rfl⟩:=Sl.addr (HR3.out _ U0.out.bl) (by omega)
 have xK:=hid (fun (w:World) (h:Below W.heap.size W w)=>Sl.at_ (show Sl w (some ⟨bb3,CW,none⟩) n3 (fun j=>.int .i64 (g3 j)) from HR3.out w h) (j:=k) (by omega))
 have xl:=Re.out k
 obtain ⟨mv,hmv⟩:∃v,v=g3 k:=⟨_,rfl⟩
 rw[←hmv]at xK xl
 clear hmv
 go_upto_region 11 with (fail)
 refine wp_region_held_drew (S:=fun (w':World)=>∃nr:Nat→Option Int,mB nr∧HS [] W w' [kg sb wb p,aP qb 130 (fO none false js),aP pb 130 (dD sb (nr)),aP P 330 (pc p)]) (by kernel_rfl) ?_ (fun hHeld=>?_)
 ·exact⟨nr,IW.out,U0.out.drew⟩
 refine ae 0 hHeld ?_
 refine tk 1 (v:=.agg (FA 330 (pc p))) rfl (by kernel_rfl) (by kernel_rfl) (by kernel_rfl) (fun _ _ _ h=>h) rfl (fun w hSw=>by obtain ⟨_,_,hSw⟩:=hSw;exact jR rfl rfl ((hSw.fb 3 rfl).load 0 330 (pc p) (by omega) (fun j hj=>by rw[Nat.zero_add]) Tryz.underlying34 rfl lp)) hHeld ?_;(try simp only[Act.put,List.setIfInBounds_toArray,List.set_cons_zero,List.set_cons_succ])
 refine ae 2 hHeld ?_
 refine ae 3 hHeld ?_
 refine ae 4 hHeld ?_
 refine ae 5 hHeld ?_ (hy:=by intro w hSw;(try dsimp only at hSw);obtain ⟨_,_,hS2⟩:=hSw;have xc:=xY.out _ hS2.bl;go_simp;(try with_reducible rfl))
 refine ae 6 hHeld ?_
 refine ae 7 hHeld ?_
 refine ae 8 hHeld ?_
 refine ae 9 hHeld ?_ (hy:=by intro w hSw;(try dsimp only at hSw);obtain ⟨_,_,hS2⟩:=hSw;have xc:=xK.out _ hS2.bl;go_simp;(try with_reducible rfl))
 obtain ⟨Rb,hn2,hH⟩:=hHeld
 refine only 10 rfl (by kernel_rfl) rfl (fun K hK=>?_)
 go_simp
 refine(g5 hH p OP.out kv mv xp xl).mono ?_
 rintro e jH ⟨AB,nb,cb,gb,rfl,hcb,hnb,hgb,hz⟩
 try go_wp2_with fail
 refine hK.out _ _ ⟨Rb,hn2,hz.tail⟩ (fun h2=>?_)
 clear hK hH
 try simp only[Act.put,List.setIfInBounds_toArray,List.set_cons_zero,List.set_cons_succ]
 refine only 11 rfl (by kernel_rfl) rfl (fun K hK=>?_)
 go_simp
 refine(Mx (A:=[_,kg sb wb p,aP qb 130 (fO none false js)]) (B:=[aP P 330 (pc p)]) hz (hz.st 1 rfl) OQ.out OP.out hn2 gb nb cb AB hgb (by omega) (hz.gP 0 rfl) hcb _ rfl).mono ?_
 rintro e qo ⟨X',c',rfl,hz2,hc2⟩
 try go_wp2_with fail
 refine hK.out _ _ ⟨_,rp (p:=p) (n:=nb) hn2 hgb,hz2.tail.tail⟩ (fun h3=>?_)
 clear hK h2 hz hz2 hc2 hcb
 try simp only[Act.put,List.setIfInBounds_toArray,List.set_cons_zero,List.set_cons_succ]
 obtain ⟨Ra,GY,h3⟩:=h3
 have IY:=hid GY
 clear GY
 have U1:=hid h3
 clear h3 U0
 refine wpAnyH_done (by kernel_rfl) ?_ _
 go_wp2_with fail
 go_roundg (20-(k+1))
 case rel=>exact⟨k+1,Ra,by omega,by omega,by go_num,IY.out,U1.out⟩
 omega
set_option maxRecDepth 100000 in
theorem lifted (os:Os)(started:os.Started)(H:Type)(enc:TypeId×Value→H) :
 ReturnsInHanded {} Tryz.checked os 6 .any (Rows.planeCrashSpec.pre6 enc Tryz.prog Tryz.f6 [] false) (Rows.planeCrashSpec.post enc Tryz.prog Tryz.f6 false true false false):=
 L6 (s:=Rows.planeCrashSpec) started (by kernel_rfl) Tryz.func6
  (ChangeSpec.witness6 (s:=Rows.planeCrashSpec) (enc:=enc) (C:=Tryz.checked) false ⟨#[],#[.slice none 0 0,.slice none 0 0,.slice none 0 0,(),()],[]⟩ 8 (by kernel_rfl) (by kernel_rfl) (by kernel_rfl) (by kernel_rfl))
  rfl (by rw[Tryz.params6];decide +kernel) rfl Tryz.underlying4
  (fun ds h=>by
   rw[Tryz.params6]at h
   match ds,h with
   | [_,_,_,_,_],_=>rfl)
  (fun W base args ds ps hval hA hsz=>by
   rw[Tryz.params6]at hA hval hsz
   obtain ⟨v0,Rp,d0,ds0,p0,q0,hargs,rfl,rfl,h0,r0⟩:=trodAll_cons hA
   obtain ⟨v1,vs1,d1,ds1,p1,q1,rfl,rfl,rfl,h1,r1⟩:=trodAll_cons r0
   obtain ⟨v2,vs2,d2,Ru,p2,q2,rfl,rfl,rfl,h2,r2⟩:=trodAll_cons r1
   obtain ⟨v3,vs3,d3,ds3,p3,q3,rfl,rfl,rfl,h3,r3⟩:=trodAll_cons r2
   obtain ⟨v4,Ro,d4,Rt,p4,q4,rfl,rfl,rfl,h4,r4⟩:=trodAll_cons r3
   obtain ⟨rfl,rfl,rfl⟩:=trodAll_nil r4
   obtain rfl:args =#[v0,v1,v2,v3,v4]:=by cases args;simp_all
   obtain ⟨A0,n0,c0,g0,rfl,hn0,hc0,hs0,hw0,hl0,hd0⟩:=open_row Tryz.underlying22 Tryz.underlying3 (by kernel_rfl) (hval 0 22 v0 rfl rfl) h0
   have Q_:c0*8≤140737488351232:=by
    rcases hd0 with ⟨_,h0⟩ |⟨xs,ys,h1,h2⟩
    ·omega
    have:=sized_slice hsz (j:=0) (t:=22) (e:=3) rfl (by rw[h1];rfl) Tryz.underlying22
    rw[h2,show Tryz.prog.bytesOf 3=8 from by kernel_rfl]at this
    simpa [reachBytes]using this
   obtain ⟨A1,n1,c1,g1,rfl,hn1,hc1,hs1,hw1,hl1,hd1⟩:=open_row Tryz.underlying22 Tryz.underlying3 (by kernel_rfl) (hval 1 22 v1 rfl rfl) h1
   have tB:c1*8≤140737488351232:=by
    rcases hd1 with ⟨_,h0⟩ |⟨xs,ys,h1,h2⟩
    ·omega
    have:=sized_slice hsz (j:=1) (t:=22) (e:=3) rfl (by rw[h1];rfl) Tryz.underlying22
    rw[h2,show Tryz.prog.bytesOf 3=8 from by kernel_rfl]at this
    simpa [reachBytes]using this
   obtain ⟨A2,n2,c2,g2,rfl,hn2,hc2,hs2,hw2,hl2,hd2⟩:=open_row Tryz.underlying22 Tryz.underlying3 (by kernel_rfl) (hval 2 22 v2 rfl rfl) h2
   have tq:c2*8≤140737488351232:=by
    rcases hd2 with ⟨_,h0⟩ |⟨xs,ys,h1,h2⟩
    ·omega
    have:=sized_slice hsz (j:=2) (t:=22) (e:=3) rfl (by rw[h1];rfl) Tryz.underlying22
    rw[h2,show Tryz.prog.bytesOf 3=8 from by kernel_rfl]at this
    simpa [reachBytes]using this
   obtain ⟨a3,rfl,rfl,rfl,w3⟩:=open_int Tryz.underlying3 (hval 3 3 v3 rfl rfl) h3
   obtain ⟨a4,rfl,rfl,rfl,w4⟩:=open_int Tryz.underlying3 (hval 4 3 v4 rfl rfl) h4
   exact walk W A0 n0 c0 g0 hn0 hc0 hs0 (fun j=>bounds_i64 (hw0 j)) hl0 Q_ A1 n1 c1 g1 hn1 hc1 hs1 (fun j=>bounds_i64 (hw1 j)) hl1 tB A2 n2 c2 g2 hn2 hc2 hs2 (fun j=>bounds_i64 (hw2 j)) hl2 tq a3 (bounds_i64 w3) a4 (bounds_i64 w4))
theorem proved:Rows.PlaneCrashSaid:=
 OpenClaim.holds_of_wide 6 Tryz.f6 rfl rfl rfl rfl rfl rfl rfl ⟨rfl,rfl,rfl,rfl,rfl⟩ rfl rfl rfl rfl rfl (by kernel_rfl) Tryz.func6 (by kernel_rfl)
  (of_decide_eq_true (by kernel_rfl)) (by unfold Func.isWrapper;first | (rw[if_pos (by decide +kernel)];kernel_rfl) | (rw[if_neg (by decide +kernel)];exact⟨rfl,rfl⟩))
  (fun os started H enc _=>lifted os started H enc)
end Go.Proofs.YtalnfkijiehjhaaGreat.planeCrash
