/- roundhouselaw9.PlaneTakes answers true for every three rows, any bytes; no condition. -/
import Derived.Test.YtalnfkijiehjhaaGreatGa
import Derived.Test.YtalnfkijiehjhaaGreatPkn
import Derived.Test.YtalnfkijiehjhaaGreatSom
import Derived.Test.YtalnfkijiehjhaaGreatRyk
import Derived.Deep.LoopGhost
import Derived.Deep.CutRange
import Derived.Deep.CutBlock
import Derived.IntWalk
import Derived.BigQuiet
import Derived.Deep.RegionHeld3
import Derived.Deep.Cut
namespace Go.Proofs.YtalnfkijiehjhaaGreat.planeTakes
open List renaming setIfInBounds_toArray→zA,set_cons_zero→zB,set_cons_succ→zC
set_option linter.unusedVariables false
set_option linter.unusedSimpArgs false
open Go.RowKit Go.ChangeShapes Go.WideShapes Go.ChangeAt
attribute [local irreducible] FA FL mO
set_option maxRecDepth 100000
theorem HS.last {S:List Nat}{W w:World}{L L2:List Th}(n:Nat)(h:HS S W w L)(hl:L.drop n=L2):HS S W w L2:=by
 rw[←hl]
 exact HS.sub h (List.drop_sublist _ _)
set_option maxRecDepth 100000 in
set_option maxHeartbeats 8000000 in
theorem walk (W:World)(A1:Option Addr)(n1 c1:Nat)(g1:Nat→Int)(hn1:n1≤c1)(hc1:c1≤maxLen)(hr1:Is W A1 n1 g1)(hg1:qH g1)(hl1:∀ad,A1=some ad→0<n1→ad.block<W.heap.size)(Af:c1*8≤140737488351232)(A2:Option Addr)(n2 c2:Nat)(g2:Nat→Int)(hn2:n2≤c2)(hc2:c2≤maxLen)(hr2:Is W A2 n2 g2)(hg2:qH g2)(hl2:∀ad,A2=some ad→0<n2→ad.block<W.heap.size)(Hk:c2*8≤140737488351232)(A3:Option Addr)(n3 c3:Nat)(g3:Nat→Int)(A6:n3≤c3)(hc3:c3≤maxLen)(hr3:Is W A3 n3 g3)(hg3:qH g3)(hl3:∀ad,A3=some ad→0<n3→ad.block<W.heap.size)(Hj:c3*8≤140737488351232)(A4:Option Addr)(n4 c4:Nat)(g4:Nat→Int)(Lr:n4≤c4)(hc4:c4≤maxLen)(hr4:By W A4 n4 g4)(hg4:aC g4)(hl4:∀ad,A4=some ad→0<n4→ad.block<W.heap.size)(Ny:c4*1≤140737488351232) :
 Calls Tryz.prog 3 #[.slice A1 n1 c1,.slice A2 n2 c2,.slice A3 n3 c3,.slice A4 n4 c4] W fun e w'=>e =.returned (.bool true)∧Below W.heap.size W w':=by
 obtain ⟨p,hp⟩:∃p,p=fP g1 (min n1 60):=⟨_,rfl⟩
 have Ps:=hid (show i6 p 60 from by rw[hp];exact(m5 g1 _).mono (by omega))
 have JZ:=hid (show p.a=10∧p.p=80 from by rw[hp];exact oX g1 _)
 have nu:=hid (show Pt p from by rw[hp];exact vd g1 _ (by omega))
 have g8:=hid (show Pw p from by rw[hp];exact rQ g1 _)
 have MK:=hid (fun (w:World) (hb:Below W.heap.size W w)=>(show Calls Tryz.prog 9 #[.slice A1 n1 c1,.int .i64 60] w fun x w'=>x =.returned (.agg (FA 330 (pc p)))∧Below w.heap.size w w' from by rw[hp];exact AL W A1 n1 c1 g1 hr1 hl1 hn1 hc1 60 (by decide) w hb))
 clear hp hr1 hl1 hg1 Af hn1 hc1
 have S0:Hid (HS [] W W []):=hid HS.start
 have HR2:=hid (show ∀(w:World),Below W.heap.size W w→Is w A2 n2 g2 from fun w h=>hr2.below h (Nat.le_refl _))
 have HG2:=hid hg2
 unfold maxLen at hc2
 have Qi:(n2:Int)≤9223372036854775807:=by have:=hn2;omega
 clear hr2 hg2 hl2 Hk hn2 hc2
 have HR3:=hid (show ∀(w:World),Below W.heap.size W w→Is w A3 n3 g3 from fun w h=>hr3.below h (Nat.le_refl _))
 have Px:=hid hg3
 unfold maxLen at hc3
 have Qh:(n3:Int)≤9223372036854775807:=by have:=A6;omega
 clear hr3 hg3 hl3 Hj A6 hc3
 have HR4:=hid (show ∀(w:World),Below W.heap.size W w→By w A4 n4 g4 from fun w h=>hr4.below h (Nat.le_refl _))
 have Mp:=hid hg4
 have xO:=hid Lr
 clear hr4 hg4 hl4 Ny Lr hc4
 have vU:=hid (show iP (fun _=>none) from fun j v h=>by cases h)
 have vV:=hid (show p.a%65536≤65534 from by rw[JZ.out.1];decide)
 rcases Nat.lt_or_ge 1500 n4 with na |na
 ·have Ll:(1500:Int)<n4:=by omega
  go_enter Tryz.func3,Tryz.ntmps3
  go_wp2_with fail
  refine(sW _).mono ?_
  rintro e w1 ⟨rfl,hb⟩
  have S1:=hid (S0.out.below hb)
  clear hb S0
  go_simp
  go_wp2_with fail
  go_ret
  exact⟨rfl,S1.out.bl⟩
 have Ll:¬(1500:Int)<n4:=by omega
 go_enter Tryz.func3,Tryz.ntmps3
 go_wp2_with fail
 refine(sW _).mono ?_
 rintro e w1 ⟨rfl,hb⟩
 have S1:=hid (S0.out.below hb)
 clear hb S0
 go_simp
 go_wp2_with fail
 refine(MK.out _ S1.out.bl).mono ?_
 rintro e w2 ⟨rfl,hb⟩
 have S2:=hid (S1.out.below hb)
 clear hb S1 MK Ll
 go_simp
 go_upto_region 6 with (first | ((with_reducible refine ah ?_);refine ay rfl (nO rfl (Cp _) (by omega) S2.out ?_);intro P w_ hZ _;have SA:=hid hZ;clear hZ) | ((with_reducible refine ah ?_);refine ay rfl (ji (A:=[]) 0 330 (pc p) (pc p) rfl rfl rfl SA.out (by omega) (fun j hj=>kM _ _ _ j hj) dE (oR _) ?_);intro w_ hZ;have SX:=hid hZ;clear hZ))
 have S3:=hid (SX.out)
 clear SX SA S2
 go_wp2_with fail
 refine(plane_new S3.out).mono ?_
 rintro e Nn ⟨pb,rfl,hz⟩
 have S4:=hid (hz)
 clear hz S3
 go_simp
 go_wp2_with fail
 refine(wX S4.out).mono ?_
 rintro e Nm ⟨qb,rfl,hz⟩
 have S5:=hid (hz)
 clear hz S4
 go_simp
 go_upto_region 9 with (fail)
 go_wp2_with ((with_reducible refine ah ?_);refine ay rfl (iz 2 rfl 0 330 (pc p) rfl rfl S5.out (by omega) (fun j hj=>by rw[Nat.zero_add]) Tryz.underlying34 rfl dE ?_))
 refine(vD (A:=[aD qb 460 (rpc false cm (.slice none 0 0))]) (B:=[aD P 330 (pc p)]) (nr:=fun _=>none) S5.out p g8.out).mono ?_
 rintro e QB ⟨rfl,sb,wb,hne,hz⟩
 have S6:=hid (hz)
 clear hz S5
 have vT:=hid hne
 clear hne
 go_simp
 go_upto_region 10 with (fail)
 go_wp2_with ((with_reducible refine ah ?_);refine ay rfl (iz 3 rfl 0 330 (pc p) rfl rfl S6.out (by omega) (fun j hj=>by rw[Nat.zero_add]) Tryz.underlying34 rfl dE ?_))
 refine(vC (A:=[fX sb wb p]) (B:=[aD pb 130 (dw sb (fun _=>none)),aD P 330 (pc p)]) S6.out p g8.out).mono ?_
 rintro e Nl ⟨wq,rfl,hnq,hz⟩
 have S7:=hid (hz)
 clear hz S6
 have Cc:=hid hnq
 clear hnq
 go_simp
 go_wp2_with fail
 go_loopg [12] 30 (fun gh i wx=>∃(k:Nat) (nr:Nat→Option Int),gh=30-k∧k≤30∧i =.int .i64 (k:Int)∧iP nr∧HS [] W wx [fM wq (cF p),fX sb wb p,aD qb 460 (fN true p (gU wq) (nr)),aD pb 130 (dw sb (nr)),aD P 330 (pc p)])
 case atStart=>exact⟨0,fun _=>none,by omega,by omega,rfl,vU.out,S7.out⟩
 clear S7
 obtain ⟨k,nr,hgh,hk,rfl,hnr,hS⟩:=hrel
 have U0:=hid hS
 have pK:=hid hnr
 clear hS hnr
 go_upto_region 12 with (fail)
 obtain ⟨bb,hbb⟩:∃bb:Bool,bb=(decide (k<n2)&&decide (k<n3)&&decide (k<30)):=⟨_,rfl⟩
 have vZ:=hid hbb
 clear hbb
 go_cut [44] from 31 to 44 (fun x wx=>x =.bool bb∧wr=wx)
 case first=>
  by_cases h1:(k:Int)<n2
  ·by_cases h2:(k:Int)<n3
   ·by_cases h3:(k:Int)<30
    ·go_wp2_with fail
     go_meet
     exact⟨by rw[vZ.out];simp;omega,rfl⟩
    go_wp2_with fail
    go_meet
    exact⟨by rw[vZ.out];simp;omega,rfl⟩
   go_wp2_with fail
   go_meet
   exact⟨by rw[vZ.out];simp;omega,rfl⟩
  go_wp2_with fail
  go_meet
  exact⟨by rw[vZ.out];simp;omega,rfl⟩
 obtain ⟨rfl,rfl⟩:=hcut
 cases bb
 ·clear vZ hgh
  obtain ⟨tt,ht⟩:∃t,cY p true nr g4 n4=t:=⟨_,rfl⟩
  have HT:=hid ht
  clear ht
  have rr:=hid (U0.out)
  clear U0
  go_wp2_with fail
  refine(p_ (A:=[fM wq (cF p),fX sb wb p,aD qb 460 (fN true p (gU wq) (nr))]) (B:=[aD P 330 (pc p)]) rr.out (rr.out.st 1 rfl) vT.out nu.out pK.out g4 n4 c4 A4 Mp.out (by omega) (HR4.out _ rr.out.bl) xO.out _ HT.out).mono ?_
  rintro e QF ⟨X,c,rfl,hz,hcc⟩
  have pG:=hid (hz)
  clear hz rr
  go_simp
  go_wp2_with fail
  refine(qd (A:=[bS (.slice X tt.n c) tt.n tt.f,fM wq (cF p),fX sb wb p]) (B:=[aD pb 130 (dw sb tt.nr),aD P 330 (pc p)]) pG.out (pG.out.nth 1 rfl) Cc.out nu.out vV.out pK.out g4 n4 c4 A4 Mp.out (by omega) (HR4.out _ pG.out.bl) xO.out _ HT.out).mono ?_
  rintro e Nq ⟨Y,cy,rfl,hz,hcy⟩
  have mQ:=hid (hz)
  clear hz pG
  go_simp
  go_wp2_with fail
  refine(nH tt.d tt.s tt.c tt.n X Y c cy tt.f _ (mQ.out.fh 1 rfl) (mQ.out.fh 0 rfl)).mono ?_
  rintro e Nr ⟨rfl,hb⟩
  have pF:=hid (mQ.out.below hb)
  clear hb mQ
  go_simp
  go_wp2_with fail
  refine(Az (pF.out.fb 5 rfl) ⟨pF.out.fb 4 rfl,pF.out.nth 2 rfl⟩).mono ?_
  rintro e QE ⟨rfl,hb⟩
  have vM:=hid (pF.out.below hb)
  clear hb pF
  go_simp
  go_wp2_with fail
  go_ret
  exact⟨rfl,vM.out.bl⟩
 have hkn2:k<n2∧k<n3∧k<30:=by have:=vZ.out;simp at this;exact⟨this.1.1,this.1.2,this.2⟩
 obtain ⟨hl1,hl2,hl3⟩:=hkn2
 clear vZ
 have i1:(k:Int)<n2:=by omega
 have i2:(k:Int)<n3:=by omega
 have i3:(k:Int)<30:=by omega
 have z1:(0:Int)≤k:=by omega
 obtain ⟨bb2,off2,rfl⟩:=Sl.addr (HR2.out _ U0.out.bl) (by omega)
 have L6:=hid (fun (w:World) (h:Below W.heap.size W w)=>Sl.at_ (show Sl w (some ⟨bb2,off2,none⟩) n2 (fun j=>.int .i64 (g2 j)) from HR2.out w h) (j:=k) (by omega))
 have Lj:=HG2.out k
 obtain ⟨kv,hkv⟩:∃v,v=g2 k:=⟨_,rfl⟩
 rw[←hkv]at L6 Lj
 clear hkv
 obtain ⟨bb3,MN,rfl⟩:=Sl.addr (HR3.out _ U0.out.bl) (by omega)
 have L5:=hid (fun (w:World) (h:Below W.heap.size W w)=>Sl.at_ (show Sl w (some ⟨bb3,MN,none⟩) n3 (fun j=>.int .i64 (g3 j)) from HR3.out w h) (j:=k) (by omega))
 have Le:=Px.out k
 obtain ⟨mv,hmv⟩:∃v,v=g3 k:=⟨_,rfl⟩
 rw[←hmv]at L5 Le
 clear hmv
 go_upto_region 14 with (fail)
 refine wp_region_held_drew (S:=fun (w':World)=>HS [] W w' [fM wq (cF p),fX sb wb p,aD qb 460 (fN true p (gU wq) (nr)),aD pb 130 (dw sb (nr)),aD P 330 (pc p)]) (by kernel_rfl) ?_ (fun hHeld=>?_)
 ·exact U0.out.drew
 refine tk 0 (v:=.agg (FA 330 (pc p))) rfl (by kernel_rfl) (by kernel_rfl) (by kernel_rfl) (fun _ _ _ h=>h) rfl (fun w hSw=>iV rfl rfl ((hSw.fb 4 rfl).load 0 330 (pc p) (by omega) (fun j hj=>by rw[Nat.zero_add]) Tryz.underlying34 rfl dE)) hHeld ?_;(try simp only[Act.put,zA,zB,zC])
 refine ae 1 hHeld ?_
 refine ae 2 hHeld ?_
 refine ae 3 hHeld ?_
 refine ae 4 hHeld ?_ (hy:=by intro w hSw;(try dsimp only at hSw);have xc:=L6.out _ hSw.bl;go_simp;(try with_reducible rfl))
 refine ae 5 hHeld ?_
 refine ae 6 hHeld ?_
 refine ae 7 hHeld ?_
 refine ae 8 hHeld ?_ (hy:=by intro w hSw;(try dsimp only at hSw);have xc:=L5.out _ hSw.bl;go_simp;(try with_reducible rfl))
 refine only 9 rfl (by kernel_rfl) rfl (fun K hK=>?_)
 go_simp
 refine(Bw hHeld p nu.out kv mv Lj Le).mono ?_
 rintro e gL ⟨AB,nb,cb,gb,rfl,hcb,hnb,hgb,hz⟩
 try go_wp2_with fail
 refine hK.out _ _ hz.tail (fun h2=>?_)
 clear hK hHeld
 try simp only[Act.put,zA,zB,zC]
 refine ae 10 h2 ?_
 have yS:=hid (hz)
 have mc:=hid hgb
 clear h2 hz hgb U0
 refine wpAnyH_done (by kernel_rfl) ?_ _
 obtain ⟨tt,ht⟩:∃t,cY p true nr gb nb=t:=⟨_,rfl⟩
 have HT:=hid ht
 have sn:Hid (iP tt.nr):=hid (by rw[←ht];exact wW (p:=p) (n:=nb) pK.out mc.out)
 clear ht
 go_wp2_with fail
 refine(p_ (A:=[bS (.slice AB nb cb) nb gb,fM wq (cF p),fX sb wb p,aD qb 460 (fN true p (gU wq) (nr))]) (B:=[aD P 330 (pc p)]) yS.out (yS.out.st 2 rfl) vT.out nu.out pK.out gb nb cb AB mc.out (by omega) (yS.out.fh 0 rfl) hcb _ HT.out).mono ?_
 rintro e qj ⟨X,c,rfl,hz,hcc⟩
 have yR:=hid (hz)
 clear hz yS
 go_simp
 go_wp2_with fail
 refine(qd (A:=[bS (.slice X tt.n c) tt.n tt.f,bS (.slice AB nb cb) nb gb,fM wq (cF p),fX sb wb p]) (B:=[aD pb 130 (dw sb tt.nr),aD P 330 (pc p)]) yR.out (yR.out.nth 2 rfl) Cc.out nu.out vV.out pK.out gb nb cb AB mc.out (by omega) (yR.out.fh 1 rfl) hcb _ HT.out).mono ?_
 rintro e Ek ⟨Y,cy,rfl,hz,hcy⟩
 have yQ:=hid (hz)
 clear hz yR
 go_simp
 go_wp2_with fail
 refine(nH tt.d tt.s tt.c tt.n X Y c cy tt.f _ (yQ.out.fh 1 rfl) (yQ.out.fh 0 rfl)).mono ?_
 rintro e Nr ⟨rfl,hb⟩
 have M_:=hid (yQ.out.below hb)
 clear hb yQ
 go_simp
 go_wp2_with fail
 go_roundg (30-(k+1))
 case rel=>exact⟨k+1,tt.nr,by omega,by omega,by go_num,sn.out,HS.last 3 M_.out rfl⟩
 omega
set_option maxRecDepth 100000 in
theorem lifted (os:Os)(started:os.Started)(H:Type)(enc:TypeId×Value→H) :
 ReturnsInHanded {} Tryz.checked os 3 .any (Rows.planeTakesSpec.pre6 enc Tryz.prog Tryz.f3 [] false) (Rows.planeTakesSpec.post enc Tryz.prog Tryz.f3 false true false false):=
 vf (s:=Rows.planeTakesSpec) started (by kernel_rfl) Tryz.func3
  (ChangeSpec.witness6 (s:=Rows.planeTakesSpec) (enc:=enc) (C:=Tryz.checked) false ⟨#[],#[.slice none 0 0,.slice none 0 0,.slice none 0 0,.slice none 0 0],[]⟩ 8 (by kernel_rfl) (by kernel_rfl) (by kernel_rfl) (by kernel_rfl))
  rfl (by rw[Tryz.params3];decide +kernel) rfl Tryz.underlying4
  (fun ds h=>by
   rw[Tryz.params3]at h
   match ds,h with
   | [_,_,_,_],_=>rfl)
  (fun W base args ds ps hval hA hsz=>by
   rw[Tryz.params3]at hA hval hsz
   obtain ⟨v0,Ns,d0,ds0,p0,q0,hargs,rfl,rfl,h0,r0⟩:=trodAll_cons hA
   obtain ⟨v1,vs1,d1,ds1,p1,q1,rfl,rfl,rfl,h1,r1⟩:=trodAll_cons r0
   obtain ⟨v2,vs2,d2,OA,p2,q2,rfl,rfl,rfl,h2,r2⟩:=trodAll_cons r1
   obtain ⟨v3,vs3,d3,ds3,p3,q3,rfl,rfl,rfl,h3,r3⟩:=trodAll_cons r2
   obtain ⟨rfl,rfl,rfl⟩:=trodAll_nil r3
   obtain rfl:args =#[v0,v1,v2,v3]:=by cases args;simp_all
   obtain ⟨A0,n0,c0,g0,rfl,hn0,hc0,hs0,hw0,hl0,hd0⟩:=open_row Tryz.underlying22 Tryz.underlying3 (by kernel_rfl) (hval 0 22 v0 rfl rfl) h0
   have Hl:c0*8≤140737488351232:=by
    exact qJF
   obtain ⟨A1,n1,c1,g1,rfl,hn1,hc1,hs1,hw1,hl1,hd1⟩:=open_row Tryz.underlying22 Tryz.underlying3 (by kernel_rfl) (hval 1 22 v1 rfl rfl) h1
   have Af:c1*8≤140737488351232:=by
    rcases hd1 with ⟨_,h0⟩ |⟨xs,ys,h1,h2⟩
    ·omega
    have:=sized_slice hsz (j:=1) (t:=22) (e:=3) rfl (by rw[h1];rfl) Tryz.underlying22
    exact qZB
   obtain ⟨A2,n2,c2,g2,rfl,hn2,hc2,hs2,hw2,hl2,hd2⟩:=open_row Tryz.underlying22 Tryz.underlying3 (by kernel_rfl) (hval 2 22 v2 rfl rfl) h2
   have Hk:c2*8≤140737488351232:=by
    rcases hd2 with ⟨_,h0⟩ |⟨xs,ys,h1,h2⟩
    ·omega
    have:=sized_slice hsz (j:=2) (t:=22) (e:=3) rfl (by rw[h1];rfl) Tryz.underlying22
    exact qZB
   obtain ⟨A3,n3,c3,g3,rfl,A6,hc3,hs3,hw3,hl3,hd3⟩:=open_row Tryz.underlying23 Tryz.underlying5 (by kernel_rfl) (hval 3 23 v3 rfl rfl) h3
   have Hj:c3*1≤140737488351232:=by
    rcases hd3 with ⟨_,h0⟩ |⟨xs,ys,h1,h2⟩
    ·omega
    have:=sized_slice hsz (j:=3) (t:=23) (e:=5) rfl (by rw[h1];rfl) Tryz.underlying23
    rw[h2,show Tryz.prog.bytesOf 5=1 from by kernel_rfl]at this
    simpa [reachBytes]using this
   exact walk W A0 n0 c0 g0 hn0 hc0 hs0 (fun j=>bounds_i64 (hw0 j)) hl0 Hl A1 n1 c1 g1 hn1 hc1 hs1 (fun j=>bounds_i64 (hw1 j)) hl1 Af A2 n2 c2 g2 hn2 hc2 hs2 (fun j=>bounds_i64 (hw2 j)) hl2 Hk A3 n3 c3 g3 A6 hc3 hs3 (fun j=>bounds_u8 (hw3 j)) hl3 Hj)
theorem proved:Rows.PlaneTakesSaid:=
 OpenClaim.holds_of_wide 3 Tryz.f3 rfl rfl rfl rfl rfl rfl rfl ⟨rfl,rfl,rfl,rfl,rfl⟩ rfl rfl rfl rfl rfl (by kernel_rfl) Tryz.func3 (by kernel_rfl)
  (of_decide_eq_true (by kernel_rfl)) (by unfold Func.isWrapper;first | (rw[if_pos (by decide +kernel)];kernel_rfl) | (rw[if_neg (by decide +kernel)];exact⟨rfl,rfl⟩))
  (fun os started H enc _=>lifted os started H enc)
end Go.Proofs.YtalnfkijiehjhaaGreat.planeTakes
