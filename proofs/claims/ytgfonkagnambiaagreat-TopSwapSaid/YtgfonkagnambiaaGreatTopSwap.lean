/- roundhousetop.TopSwap answers true for every three rows, any two numbers; no condition. -/
import Derived.Test.YtgfonkagnambiaaGreatGa
import Derived.Test.YtgfonkagnambiaaGreatGu
import Derived.Test.YtgfonkagnambiaaGreatSom
import Derived.Test.YtgfonkagnambiaaGreatTopSwM
import Derived.Test.YtgfonkagnambiaaGreatTth
import Derived.Deep.LoopGhost
import Derived.Deep.CutRange
import Derived.Deep.CutBlock
import Derived.IntWalk
import Derived.BigQuiet
import Derived.Deep.RegionHeld3
import Derived.Deep.Cut
namespace Go.Proofs.YtgfonkagnambiaaGreat.topSwap
open List renaming setIfInBounds_toArray→zA,set_cons_zero→zB,set_cons_succ→zC
set_option linter.unusedVariables false
set_option linter.unusedSimpArgs false
open Go.RowKit Go.ChangeShapes Go.WideShapes Go.ChangeAt
attribute [local irreducible] FA FL lE
set_option maxRecDepth 100000
set_option maxRecDepth 100000 in
set_option maxHeartbeats 8000000 in
theorem walk (W:World)(A1:Option Addr)(n1 c1:Nat)(g1:Nat→Int)(hn1:n1≤c1)(hc1:c1≤maxLen)(hr1:Is W A1 n1 g1)(hg1:pC g1)(hl1:∀ad,A1=some ad→0<n1→ad.block<W.heap.size)(DX:c1*8≤140737488351232)(A2:Option Addr)(n2 c2:Nat)(g2:Nat→Int)(hn2:n2≤c2)(hc2:c2≤maxLen)(hr2:Is W A2 n2 g2)(hg2:pC g2)(hl2:∀ad,A2=some ad→0<n2→ad.block<W.heap.size)(DW:c2*8≤140737488351232)(A3:Option Addr)(n3 c3:Nat)(g3:Nat→Int)(uq:n3≤c3)(hc3:c3≤maxLen)(hr3:Is W A3 n3 g3)(hg3:pC g3)(hl3:∀ad,A3=some ad→0<n3→ad.block<W.heap.size)(Ke:c3*8≤140737488351232)(a0:Int)(Jp: -9223372036854775808≤a0∧a0≤9223372036854775807)(b0:Int)(Jo: -9223372036854775808≤b0∧b0≤9223372036854775807) :
 Calls Tryz.prog 3 #[.slice A1 n1 c1,.slice A2 n2 c2,.slice A3 n3 c3,a0,b0] W fun e w'=>e =.returned (.bool true)∧Below W.heap.size W w':=by
 obtain ⟨p,hp⟩:∃p,p=eJ g1 (min n1 60):=⟨_,rfl⟩
 have Ny:=hid (show gY p 60 from by rw[hp];exact(ny g1 _).mono (by omega))
 have Nz:=hid (show p.a=10∧p.p=80 from by rw[hp];exact rU g1 _)
 have yt:=hid (show Pt p from by rw[hp];exact xv g1 _ (by omega))
 have qQ:=hid (show Pw p from by rw[hp];exact rh g1 _)
 have MK:=hid (fun (w:World) (hb:Below W.heap.size W w)=>(show Calls Tryz.prog 5 #[.slice A1 n1 c1,.int .i64 60] w fun x w'=>x =.returned (.agg (FA 330 (pc p)))∧Below w.heap.size w w' from by rw[hp];exact xu W A1 n1 c1 g1 hr1 hl1 hn1 hc1 60 (by decide) w hb))
 obtain ⟨q,hq⟩:∃q,q=eJ g1 (min n1 10):=⟨_,rfl⟩
 have IN:=hid (show Pw q from by rw[hq];exact rh g1 _)
 have IP:=hid (show Pt q from by rw[hq];exact xv g1 _ (by omega))
 have MQ:=hid (fun (w:World) (hb:Below W.heap.size W w)=>(show Calls Tryz.prog 5 #[.slice A1 n1 c1,.int .i64 10] w fun x w'=>x =.returned (.agg (FA 330 (pc q)))∧Below w.heap.size w w' from by rw[hq];exact xu W A1 n1 c1 g1 hr1 hl1 hn1 hc1 10 (by decide) w hb))
 clear hq
 clear hp hr1 hl1 hg1 DX hn1 hc1
 have S0:Hid (HS [] W W []):=hid HS.start
 have HR2:=hid (show ∀(w:World),Below W.heap.size W w→Is w A2 n2 g2 from fun w h=>hr2.below h (Nat.le_refl _))
 have HG2:=hid hg2
 unfold maxLen at hc2
 have Mi:(n2:Int)≤9223372036854775807:=by have:=hn2;omega
 clear hr2 hg2 hl2 DW hn2 hc2
 have HR3:=hid (show ∀(w:World),Below W.heap.size W w→Is w A3 n3 g3 from fun w h=>hr3.below h (Nat.le_refl _))
 have LU:=hid hg3
 unfold maxLen at hc3
 have Mh:(n3:Int)≤9223372036854775807:=by have:=uq;omega
 clear hr3 hg3 hl3 Ke uq hc3
 have IV:=hid (show kN (fun _=>none) from fun j v h=>by cases h)
 obtain ⟨l,hl⟩:∃l,l=wi b0 65536:=⟨_,rfl⟩
 have bl:=gR b0 65536 (by omega)
 rw[←hl]at bl
 have WL:=hid (fun (w:World)=>cq (uO b0 65536 w (by omega) (by omega)) hl.symm)
 clear hl
 have HL:=hid (show 0≤l∧l≤65535 from by omega)
 clear bl
 go_enter Tryz.func3,Tryz.ntmps3
 go_wp2_with fail
 refine(Cz _).mono ?_
 rintro e w1 ⟨rfl,hb⟩
 have S1:=hid (S0.out.below hb)
 clear hb S0
 go_simp
 go_wp2_with fail
 refine(MK.out _ S1.out.bl).mono ?_
 rintro e w2 ⟨rfl,hb⟩
 have S2:=hid (S1.out.below hb)
 clear hb S1 MK
 go_simp
 go_upto_region 4 with (first | ((with_reducible refine ak ?_);refine aF rfl (oo rfl (Dj _) (by omega) S2.out ?_);intro P w_ hZ _;have SA:=hid hZ;clear hZ) | ((with_reducible refine ak ?_);refine aF rfl (jX (A:=[]) 0 330 (pc p) (pc p) rfl rfl rfl SA.out (by omega) (fun j hj=>mE _ _ _ j hj) eB (rP _) ?_);intro w_ hZ;have SX:=hid hZ;clear hZ))
 have S3:=hid (SX.out)
 clear SX SA S2
 go_wp2_with fail
 refine(plane_new S3.out).mono ?_
 rintro e MH ⟨pb,rfl,hz⟩
 have S4:=hid (hz)
 clear hz S3
 go_simp
 go_wp2_with fail
 refine(plane_new S4.out).mono ?_
 rintro e MG ⟨qb,rfl,hz⟩
 have S5:=hid (hz)
 clear hz S4
 go_simp
 go_upto_region 7 with (fail)
 go_wp2_with fail
 refine(MQ.out _ S5.out.bl).mono ?_
 rintro e MF ⟨rfl,hb⟩
 have S6:=hid (S5.out.below hb)
 clear hb S5 MQ
 go_simp
 go_wp2_with fail
 refine(sF (A:=[aM qb 130 (g6 none false nT)]) (B:=[aM P 330 (pc p)]) (nr:=fun _=>none) S6.out q IN.out).mono ?_
 rintro e ME ⟨rfl,sb,wb,hne,hz⟩
 have S7:=hid (hz)
 clear hz S6
 have F6:=hid hne
 clear hne
 go_simp
 go_wp2_with fail
 go_loopg [14] 10 (fun gh i wx=>∃(k:Nat) (nr:Nat→Option Int),gh=10-k∧k≤10∧i =.int .i64 (k:Int)∧kN nr∧HS [] W wx [jD sb wb q,aM qb 130 (g6 none false nT),aM pb 130 (dv sb (nr)),aM P 330 (pc p)])
 case atStart=>exact⟨0,fun _=>none,by omega,by omega,rfl,IV.out,S7.out⟩
 clear S7
 obtain ⟨k,nr,hgh,hk,rfl,hnr,hS⟩:=hrel
 have U0:=hid hS
 have uI:=hid hnr
 clear hS hnr
 go_upto_region 9 with (fail)
 obtain ⟨bb,hbb⟩:∃bb:Bool,bb=(decide (k<n2)&&decide (k<n3)&&decide (k<10)):=⟨_,rfl⟩
 have ti:=hid hbb
 clear hbb
 go_cut [49] from 36 to 49 (fun x wx=>x =.bool bb∧wr=wx)
 case first=>
  by_cases h1:(k:Int)<n2
  ·by_cases h2:(k:Int)<n3
   ·by_cases h3:(k:Int)<10
    ·go_wp2_with fail
     go_meet
     exact⟨by rw[ti.out];simp;omega,rfl⟩
    go_wp2_with fail
    go_meet
    exact⟨by rw[ti.out];simp;omega,rfl⟩
   go_wp2_with fail
   go_meet
   exact⟨by rw[ti.out];simp;omega,rfl⟩
  go_wp2_with fail
  go_meet
  exact⟨by rw[ti.out];simp;omega,rfl⟩
 obtain ⟨rfl,rfl⟩:=hcut
 cases bb
 ·clear ti IN IP
  go_upto_region 12 with (fail)
  go_wp2_with ((with_reducible refine ak ?_);refine aF rfl (iQ 3 rfl 0 330 (pc p) rfl rfl U0.out (by omega) (fun j hj=>by rw[Nat.zero_add]) Tryz.underlying33 rfl eB ?_))
  have U1:=hid (show HS [] W _ [jD sb wb q,aM qb 130 (g6 none false nT),aM pb 130 (g6 (some ⟨sb,0,none⟩) true (nS nr)),aM P 330 (pc p)] from U0.out)
  refine(sF (A:=[jD sb wb q,aM qb 130 (g6 none false nT)]) (B:=[aM P 330 (pc p)]) U1.out p qQ.out).mono ?_
  rintro e J7 ⟨rfl,sc,wc,hne,hz⟩
  have U2:=hid (show HS [] W J7 [jD sc wc p,aM qb 130 (g6 none false nT),aM pb 130 (dv sc nr),aM P 330 (pc p)] from HS.drop1 hz)
  have JR:=hid hne
  clear hne hz U0 U1
  go_simp
  go_upto_region 13 with (fail)
  go_wp2_with ((with_reducible refine ak ?_);refine aF rfl (iQ 3 rfl 0 330 (pc p) rfl rfl U2.out (by omega) (fun j hj=>by rw[Nat.zero_add]) Tryz.underlying33 rfl eB ?_))
  refine(sF (A:=[jD sc wc p]) (B:=[aM pb 130 (dv sc nr),aM P 330 (pc p)]) (nr:=fun _=>none) U2.out p qQ.out).mono ?_
  rintro e MN ⟨rfl,sd,wd,hne,hz⟩
  have Al:=hid (hz)
  have JQ:=hid hne
  clear hne hz U2
  go_simp
  go_upto_region 14 with (fail)
  go_wp2_with ((with_reducible refine ak ?_);refine aF rfl (iQ 4 rfl 0 330 (pc p) rfl rfl Al.out (by omega) (fun j hj=>by rw[Nat.zero_add]) Tryz.underlying33 rfl eB ?_))
  refine(Ad Al.out p yt.out a0 b0 Jp Jo).mono ?_
  rintro e w32 ⟨x,AO,cO,AD,cD,bD,rfl,jE,hI,hz⟩
  have FH:=hid (hz)
  clear hz jE Al
  have HI:=hid hI
  clear hI
  go_simp
  go_upto_region 15 with (first | ((with_reducible refine ak ?_);refine aF rfl (bH rfl (mm _) (by simp) FH.out ?_);intro X w_ hZ _;have SY:=hid hZ;clear hZ) | ((with_reducible refine ak ?_);refine aF rfl (aH (A:=[]) [x.kind,x.life,x.piece,x.src,x.dst,x.fp,x.tp,x.flags,x.label,x.bare,x.code,.slice AO x.no cO,.slice AD x.nd cD] rfl rfl (rfl) SY.out rfl h_ rfl ?_);intro w_ hZ;have SX:=hid hZ;clear hZ))
  have iY:=hid (SX.out)
  clear SX SY FH
  have yl:=(iY.out.ce 0 rfl).1
  have J2:=(iY.out.ce 0 rfl).2.2 0
  have JZ:=(iY.out.ce 0 rfl).2.1 0 _ rfl
  have Ji:=(iY.out.ce 0 rfl).2.2 11
  have Jh:=(iY.out.ce 0 rfl).2.1 11 _ rfl
  have vM:=(iY.out.ce 0 rfl).2.2 7
  have JX:=(iY.out.ce 0 rfl).2.1 7 _ rfl
  have J1:=(iY.out.ce 0 rfl).2.2 1
  have JY:=(iY.out.ce 0 rfl).2.1 1 _ rfl
  have vK:=(iY.out.ce 0 rfl).2.2 9
  have JV:=(iY.out.ce 0 rfl).2.1 9 _ rfl
  go_upto_region 16 with (fail)
  have SX:=hid (show HS [] W ((((((w_).setCell ⟨X,0,none⟩ (.int .i64 2)).setCell ⟨X,11,none⟩ (.slice none 0 0)).setCell ⟨X,7,none⟩ (.int .i64 0)).setCell ⟨X,1,none⟩ (.int .i64 7)).setCell ⟨X,9,none⟩ (.bool false)) [ao X [.int .i64 2,.int .i64 7,x.piece,x.src,x.dst,x.fp,x.tp,(),x.label,false,x.code,.slice none 0 0,.slice AD x.nd cD],cT (.slice AO x.no cO) x.no x.go,ji bD AD x.nd x.gd,jD sd wd p,jD sc wc p,aM qb 130 (dv sd (fun _=>none)),aM pb 130 (dv sc nr),aM P 330 (pc p)] from HS.f9 (A:=[]) (HS.f9 (A:=[]) (HS.f9 (A:=[]) (HS.f9 (A:=[]) (HS.f9 (A:=[]) (iY.out) 0 (.int .i64 2) (by simp)) 11 (.slice none 0 0) (by simp)) 7 (.int .i64 0) (by simp)) 1 (.int .i64 7) (by simp)) 9 (.bool false) (by simp))
  clear yl J2 JZ Ji Jh vM JX J1 JY vK JV iY
  generalize (((((w_).setCell ⟨X,0,none⟩ (.int .i64 2)).setCell ⟨X,11,none⟩ (.slice none 0 0)).setCell ⟨X,7,none⟩ (.int .i64 0)).setCell ⟨X,1,none⟩ (.int .i64 7)).setCell ⟨X,9,none⟩ (.bool false)=Hg at *
  have sU:=hid (SX.out)
  clear SX
  go_wp2_with fail
  refine(WL.out _).mono ?_
  rintro e w' ⟨rfl,rfl⟩
  have yl:=(sU.out.ce 0 rfl).1
  have vL:=(sU.out.ce 0 rfl).2.2 8
  have JW:=(sU.out.ce 0 rfl).2.1 8 _ rfl
  go_upto_region 17 with (fail)
  have SX:=hid (show HS [] W ((Hg).setCell ⟨X,8,none⟩ (.int .i64 l)) [ao X [.int .i64 2,.int .i64 7,x.piece,x.src,x.dst,x.fp,x.tp,(),l,false,x.code,.slice none 0 0,.slice AD x.nd cD],cT (.slice AO x.no cO) x.no x.go,ji bD AD x.nd x.gd,jD sd wd p,jD sc wc p,aM qb 130 (dv sd (fun _=>none)),aM pb 130 (dv sc nr),aM P 330 (pc p)] from HS.f9 (A:=[]) (sU.out) 8 (.int .i64 l) (by simp))
  clear yl vL JW sU
  generalize (Hg).setCell ⟨X,8,none⟩ (.int .i64 l)=MM at *
  have vI:=hid (SX.out)
  clear SX
  obtain ⟨hE,hB,hL,tt,hT⟩:=yV yt.out HI.out HL.out
  obtain ⟨G,hG⟩:∃G,G=aD (xS x l):=⟨_,rfl⟩
  obtain ⟨n,hn⟩:∃n,n=aG (xS x l):=⟨_,rfl⟩
  rw[←hG,←hn]at hT
  rw[←hG]at hB
  rw[←hn]at hL
  have Bq:=hid (fun (w:World) (L:List Th) (h:HS [] W w L) (HD:By w AD x.nd x.gd)=>(show Calls Tryz.prog 12 #[.agg #[.int .i64 2,.int .i64 7,x.piece,x.src,x.dst,x.fp,x.tp,(),l,false,x.code,.slice none 0 0,.slice AD x.nd cD]] w fun e w'=>∃A c,e =.returned (.tuple #[.slice A n c,()])∧HS [] W w' (cT (.slice A n c) n G::L)∧n≤c from CZ h (xS x l) n G hn hG hE j9 HI.out.md.gd (by show 0≤1000000;decide) (Nat.le_trans HI.out.md.nd (by decide)) none 0 AD cD (fun h=>absurd h (by show ¬0<0;decide)) HD))
  have HT:=hid hT
  have HB:=hid hB
  clear hE hB hT hG hn HI WL
  obtain ⟨y0,y1,y2,y3,y4,y5,y6,y7,y8,y9,aj,ah,ag⟩:=(vI.out.ce 0 rfl).c13
  go_wp2_with fail
  refine(Bq.out _ _ vI.out (vI.out.Lp 2 rfl)).mono ?_
  rintro e ML ⟨AB,cb,rfl,hz,hcb⟩
  clear y0 y1 y2 y3 y4 y5 y6 y7 y8 y9 aj ah ag
  have vH:=hid (hz)
  clear hz vI Bq
  go_simp
  go_upto_region 18 with (fail)
  go_wp2_with fail
  refine(pY (A:=[_,_,_,_,_,_,_]) (B:=[_]) vH.out (vH.out.st 5 rfl) JR.out yt.out uI.out G n cb AB HB.out (by omega) (vH.out.fe 0 rfl) hcb _ (HT.out (nr))).mono ?_
  rintro e MJ ⟨Lr,Il,rfl,hz,GN⟩
  dsimp only[List.cons_append,List.nil_append]at hz GN ⊢
  have vG:=hid (hz)
  clear hz vH
  go_simp
  go_wp2_with fail
  refine(pY (A:=[_,_,_,_,_,_,_]) (B:=[_,_]) vG.out (vG.out.st 5 rfl) JQ.out yt.out IV.out G n cb AB HB.out (by omega) (vG.out.fe 1 rfl) hcb _ (HT.out (fun _=>none))).mono ?_
  rintro e MI ⟨Lq,Ik,rfl,hz,GM⟩
  dsimp only[List.cons_append,List.nil_append]at hz GM ⊢
  have JP:=hid (hz)
  clear hz vG
  go_simp
  go_upto_region 19 with (first | ((with_reducible refine ak ?_);refine aF rfl (bH rfl (nF _) (by simp) JP.out ?_);intro O2 w_ hZ _;have SA:=hid hZ;clear hZ) | ((with_reducible refine ak ?_);refine aF rfl (bH rfl (nF _) (by simp) SA.out ?_);intro O3 w_ hZ _;have SB:=hid hZ;clear hZ) | ((with_reducible refine ak ?_);refine aF rfl (aH (A:=[ao O3 [(),(),false,.slice none 0 0]]) [tt.d,tt.s,tt.c,.slice Lr tt.n Il] rfl rfl (rfl) SB.out rfl dr rfl ?_);intro w_ hZ;have SC:=hid hZ;clear hZ) | ((with_reducible refine ak ?_);refine aF rfl (aH (A:=[]) [tt.d,tt.s,tt.c,.slice Lq tt.n Ik] rfl rfl (rfl) SC.out rfl dr rfl ?_);intro w_ hZ;have SD:=hid hZ;clear hZ))
  have sS:=hid (SD.out)
  clear SA SB SC SD
  obtain ⟨e0,e1,e2,e3⟩:=(sS.out.ce 0 rfl).c4
  obtain ⟨f0,f1,f2,f3⟩:=(sS.out.ce 1 rfl).c4
  have x1:=oG Il (sS.out.fe 3 rfl)
  have x2:=oG Ik (sS.out.fe 2 rfl)
  go_wp2_with fail
  go_ret
  exact⟨by simp,sS.out.bl⟩
 have hkn2:k<n2∧k<n3∧k<10:=by have:=ti.out;simp at this;exact⟨this.1.1,this.1.2,this.2⟩
 obtain ⟨hl1,hl2,hl3⟩:=hkn2
 clear ti
 have i1:(k:Int)<n2:=by omega
 have i2:(k:Int)<n3:=by omega
 have i3:(k:Int)<10:=by omega
 have z1:(0:Int)≤k:=by omega
 obtain ⟨bb2,off2,rfl⟩:=Sl.addr (HR2.out _ U0.out.bl) (by omega)
 have Iv:=hid (fun (w:World) (h:Below W.heap.size W w)=>Sl.at_ (show Sl w (some ⟨bb2,off2,none⟩) n2 (fun j=>.int .i64 (g2 j)) from HR2.out w h) (j:=k) (by omega))
 have Ht:=HG2.out k
 obtain ⟨kv,hkv⟩:∃v,v=g2 k:=⟨_,rfl⟩
 rw[←hkv]at Iv Ht
 clear hkv
 obtain ⟨bb3,Ju,rfl⟩:=Sl.addr (HR3.out _ U0.out.bl) (by omega)
 have Iu:=hid (fun (w:World) (h:Below W.heap.size W w)=>Sl.at_ (show Sl w (some ⟨bb3,Ju,none⟩) n3 (fun j=>.int .i64 (g3 j)) from HR3.out w h) (j:=k) (by omega))
 have Ho:=LU.out k
 obtain ⟨mv,hmv⟩:∃v,v=g3 k:=⟨_,rfl⟩
 rw[←hmv]at Iu Ho
 clear hmv
 go_upto_region 11 with (fail)
 refine wp_region_held_drew (S:=fun (w':World)=>∃nr:Nat→Option Int,kN nr∧HS [] W w' [jD sb wb q,aM qb 130 (g6 none false nT),aM pb 130 (dv sb (nr)),aM P 330 (pc p)]) (by kernel_rfl) ?_ (fun hHeld=>?_)
 ·exact⟨nr,uI.out,U0.out.drew⟩
 refine ae 0 hHeld ?_
 refine tk 1 (v:=.agg (FA 330 (pc p))) rfl (by kernel_rfl) (by kernel_rfl) (by kernel_rfl) (fun _ _ _ h=>h) rfl (fun w hSw=>by obtain ⟨_,_,hSw⟩:=hSw;exact jR rfl rfl ((hSw.fb 3 rfl).load 0 330 (pc p) (by omega) (fun j hj=>by rw[Nat.zero_add]) Tryz.underlying33 rfl eB)) hHeld ?_;(try simp only[Act.put,zA,zB,zC])
 refine ae 2 hHeld ?_
 refine ae 3 hHeld ?_
 refine ae 4 hHeld ?_
 refine ae 5 hHeld ?_ (hy:=by intro w hSw;(try dsimp only at hSw);obtain ⟨_,_,hS2⟩:=hSw;have xc:=Iv.out _ hS2.bl;go_simp;(try with_reducible rfl))
 refine ae 6 hHeld ?_
 refine ae 7 hHeld ?_
 refine ae 8 hHeld ?_
 refine ae 9 hHeld ?_ (hy:=by intro w hSw;(try dsimp only at hSw);obtain ⟨_,_,hS2⟩:=hSw;have xc:=Iu.out _ hS2.bl;go_simp;(try with_reducible rfl))
 obtain ⟨Kl,hn2,hH⟩:=hHeld
 refine only 10 rfl (by kernel_rfl) rfl (fun K hK=>?_)
 go_simp
 refine(Fg hH p yt.out kv mv Ht Ho).mono ?_
 rintro e iq ⟨AB,nb,cb,gb,rfl,hcb,hnb,hgb,hz⟩
 try go_wp2_with fail
 refine hK.out _ _ ⟨Kl,hn2,hz.tail⟩ (fun h2=>?_)
 clear hK hH
 try simp only[Act.put,zA,zB,zC]
 refine only 11 rfl (by kernel_rfl) rfl (fun K hK=>?_)
 go_simp
 refine(pY (A:=[_,jD sb wb q,aM qb 130 (g6 none false nT)]) (B:=[aM P 330 (pc p)]) hz (hz.st 1 rfl) F6.out IP.out hn2 gb nb cb AB hgb (by omega) (hz.fe 0 rfl) hcb _ rfl).mono ?_
 rintro e nJ ⟨X',c',rfl,hz2,hc2⟩
 try go_wp2_with fail
 refine hK.out _ _ ⟨_,BH (p:=q) (n:=nb) hn2 hgb,hz2.tail.tail⟩ (fun h3=>?_)
 clear hK h2 hz hz2 hc2 hcb
 try simp only[Act.put,zA,zB,zC]
 obtain ⟨Kk,uq,h3⟩:=h3
 have yu:=hid uq
 clear uq
 have U1:=hid h3
 clear h3 U0
 refine wpAnyH_done (by kernel_rfl) ?_ _
 go_wp2_with fail
 go_roundg (10-(k+1))
 case rel=>exact⟨k+1,Kk,by omega,by omega,by go_num,yu.out,U1.out⟩
 omega
set_option maxRecDepth 100000 in
theorem lifted (os:Os)(started:os.Started)(H:Type)(enc:TypeId×Value→H) :
 ReturnsInHanded {} Tryz.checked os 3 .any (Rows.topSwapSpec.pre6 enc Tryz.prog Tryz.f3 [] false) (Rows.topSwapSpec.post enc Tryz.prog Tryz.f3 false true false false):=
 zt (s:=Rows.topSwapSpec) started (by kernel_rfl) Tryz.func3
  (ChangeSpec.witness6 (s:=Rows.topSwapSpec) (enc:=enc) (C:=Tryz.checked) false ⟨#[],#[.slice none 0 0,.slice none 0 0,.slice none 0 0,(),()],[]⟩ 8 (by kernel_rfl) (by kernel_rfl) (by kernel_rfl) (by kernel_rfl))
  rfl (by rw[Tryz.params3];decide +kernel) rfl Tryz.underlying4
  (fun ds h=>by
   rw[Tryz.params3]at h
   match ds,h with
   | [_,_,_,_,_],_=>rfl)
  (fun W base args ds ps hval hA hsz=>by
   rw[Tryz.params3]at hA hval hsz
   obtain ⟨v0,MR,d0,ds0,p0,q0,hargs,rfl,rfl,h0,r0⟩:=trodAll_cons hA
   obtain ⟨v1,vs1,d1,ds1,p1,q1,rfl,rfl,rfl,h1,r1⟩:=trodAll_cons r0
   obtain ⟨v2,vs2,d2,Nm,p2,q2,rfl,rfl,rfl,h2,r2⟩:=trodAll_cons r1
   obtain ⟨v3,vs3,d3,ds3,p3,q3,rfl,rfl,rfl,h3,r3⟩:=trodAll_cons r2
   obtain ⟨v4,MO,d4,Nl,p4,q4,rfl,rfl,rfl,h4,r4⟩:=trodAll_cons r3
   obtain ⟨rfl,rfl,rfl⟩:=trodAll_nil r4
   obtain rfl:args =#[v0,v1,v2,v3,v4]:=by cases args;simp_all
   obtain ⟨A0,n0,c0,g0,rfl,hn0,hc0,hs0,hw0,hl0,hd0⟩:=open_row Tryz.underlying22 Tryz.underlying3 (by kernel_rfl) (hval 0 22 v0 rfl rfl) h0
   have Kf:c0*8≤140737488351232:=by
    rcases hd0 with ⟨_,h0⟩ |⟨xs,ys,h1,h2⟩
    ·omega
    have:=sized_slice hsz (j:=0) (t:=22) (e:=3) rfl (by rw[h1];rfl) Tryz.underlying22
    rw[h2,show Tryz.prog.bytesOf 3=8 from by kernel_rfl]at this
    simpa [reachBytes]using this
   obtain ⟨A1,n1,c1,g1,rfl,hn1,hc1,hs1,hw1,hl1,hd1⟩:=open_row Tryz.underlying22 Tryz.underlying3 (by kernel_rfl) (hval 1 22 v1 rfl rfl) h1
   have DX:c1*8≤140737488351232:=by
    rcases hd1 with ⟨_,h0⟩ |⟨xs,ys,h1,h2⟩
    ·omega
    have:=sized_slice hsz (j:=1) (t:=22) (e:=3) rfl (by rw[h1];rfl) Tryz.underlying22
    rw[h2,show Tryz.prog.bytesOf 3=8 from by kernel_rfl]at this
    simpa [reachBytes]using this
   obtain ⟨A2,n2,c2,g2,rfl,hn2,hc2,hs2,hw2,hl2,hd2⟩:=open_row Tryz.underlying22 Tryz.underlying3 (by kernel_rfl) (hval 2 22 v2 rfl rfl) h2
   have DW:c2*8≤140737488351232:=by
    rcases hd2 with ⟨_,h0⟩ |⟨xs,ys,h1,h2⟩
    ·omega
    have:=sized_slice hsz (j:=2) (t:=22) (e:=3) rfl (by rw[h1];rfl) Tryz.underlying22
    rw[h2,show Tryz.prog.bytesOf 3=8 from by kernel_rfl]at this
    simpa [reachBytes]using this
   obtain ⟨a3,rfl,rfl,rfl,w3⟩:=open_int Tryz.underlying3 (hval 3 3 v3 rfl rfl) h3
   obtain ⟨a4,rfl,rfl,rfl,w4⟩:=open_int Tryz.underlying3 (hval 4 3 v4 rfl rfl) h4
   exact walk W A0 n0 c0 g0 hn0 hc0 hs0 (fun j=>bounds_i64 (hw0 j)) hl0 Kf A1 n1 c1 g1 hn1 hc1 hs1 (fun j=>bounds_i64 (hw1 j)) hl1 DX A2 n2 c2 g2 hn2 hc2 hs2 (fun j=>bounds_i64 (hw2 j)) hl2 DW a3 (bounds_i64 w3) a4 (bounds_i64 w4))
theorem proved:Rows.TopSwapSaid:=
 OpenClaim.holds_of_wide 3 Tryz.f3 rfl rfl rfl rfl rfl rfl rfl ⟨rfl,rfl,rfl,rfl,rfl⟩ rfl rfl rfl rfl rfl (by kernel_rfl) Tryz.func3 (by kernel_rfl)
  (of_decide_eq_true (by kernel_rfl)) (by unfold Func.isWrapper;first | (rw[if_pos (by decide +kernel)];kernel_rfl) | (rw[if_neg (by decide +kernel)];exact⟨rfl,rfl⟩))
  (fun os started H enc _=>lifted os started H enc)
end Go.Proofs.YtgfonkagnambiaaGreat.topSwap
