/- roundhouselaw9.PlaneOwn answers true for every row, any two numbers; no condition. -/
import Derived.Test.YtalnfkijiehjhaaGreatGa
import Derived.Test.YtalnfkijiehjhaaGreatPkn
import Derived.Test.YtalnfkijiehjhaaGreatSom
import Derived.Test.YtalnfkijiehjhaaGreatRyk
import Derived.Deep.LoopGhost
import Derived.Deep.CutRange
import Derived.Deep.CutBlock
import Derived.IntWalk
import Derived.BigQuiet
import Derived.Deep.RegionHeld3
import Derived.Deep.Cut
namespace Go.Proofs.YtalnfkijiehjhaaGreat.planeOwn
set_option linter.unusedVariables false
set_option linter.unusedSimpArgs false
open Go.RowKit Go.ChangeShapes Go.WideShapes Go.ChangeAt
attribute [local irreducible] FA FL mO
set_option maxRecDepth 100000
theorem HS.last {S:List Nat}{W w:World}{L L2:List Th}(n:Nat)(h:HS S W w L)(hl:L.drop n=L2):HS S W w L2:=by
 rw[←hl]
 exact HS.sub h (List.drop_sublist _ _)
theorem HS.Kj {S:List Nat}{W w:World}{A B:List Th}{g n c:Nat}{f:Nat→Int}(h:HS S W w (A++bS (.slice (some ⟨g,0,none⟩) n c) n f::B))(i:Nat)(v:Int):HS S W (w.setCell ⟨g,i,none⟩ (.int .u8 v)) (A++bS (.slice (some ⟨g,0,none⟩) n c) n (set1 f i v)::B):=by
 have h0:OB w 0 (.slice (some ⟨g,0,none⟩) n c) n f:=h.1 (bS (.slice (some ⟨g,0,none⟩) n c) n f) (by simp)
 refine HS.upd (A:=A) h (bS (.slice (some ⟨g,0,none⟩) n c) n (set1 f i v)) rfl ((Ch.refl _ _).set1 (.inl (by simp[bS,bU,Value.ownBlock]))) ?_
 exact qYD
theorem HS.Jj {S:List Nat}{W w:World}{L:List Th}{g n c:Nat}{f:Nat→Int}(h:HS S W w L)(k:Nat)(hk:L[k]? = some (bS (.slice (some ⟨g,0,none⟩) n c) n f))(hn:0<n):g<w.heap.size∧(∀j,j<n→w.cell? ⟨g,j,none⟩=some (.int .u8 (f j)))∧∀j,w.frozen? ⟨g,j,none⟩=false:=by
 obtain ⟨b,e,_,h1,h2,h3⟩:=Ow.block_ (show OB w 0 (.slice (some ⟨g,0,none⟩) n c) n f from h.nth k hk) hn
 injection e with e
 injection e with e
 subst e
 exact⟨h1,fun j hj=>h2 j (by omega),h3⟩
theorem HS.G0 {S:List Nat}{W w:World}{L:List Th}{A:Option Addr}{n c:Nat}{f:Nat→Int}(h:HS S W w L)(k:Nat)(hk:L[k]? = some (bS (.slice A n c) n f))(hn:0<n):∃g:Nat,A=some ⟨g,0,none⟩:=by
 obtain ⟨b,e,_⟩:=Ow.block_ (show OB w 0 (.slice A n c) n f from h.nth k hk) hn
 exact⟨b,e⟩
set_option maxRecDepth 100000 in
set_option maxHeartbeats 8000000 in
theorem walk (W:World)(A1:Option Addr)(n1 c1:Nat)(g1:Nat→Int)(hn1:n1≤c1)(hc1:c1≤maxLen)(hr1:Is W A1 n1 g1)(hg1:qH g1)(hl1:∀ad,A1=some ad→0<n1→ad.block<W.heap.size)(Af:c1*8≤140737488351232)(a0:Int)(ML: -9223372036854775808≤a0∧a0≤9223372036854775807)(b0:Int)(MJ: -9223372036854775808≤b0∧b0≤9223372036854775807) :
 Calls Tryz.prog 7 #[.slice A1 n1 c1,a0,b0] W fun e w'=>e =.returned (.bool true)∧Below W.heap.size W w':=by
 obtain ⟨p,hp⟩:∃p,p=fP g1 (min n1 60):=⟨_,rfl⟩
 have Ps:=hid (show i6 p 60 from by rw[hp];exact(m5 g1 _).mono (by omega))
 have JZ:=hid (show p.a=10∧p.p=80 from by rw[hp];exact oX g1 _)
 have nu:=hid (show Pt p from by rw[hp];exact vd g1 _ (by omega))
 have g8:=hid (show Pw p from by rw[hp];exact rQ g1 _)
 have MK:=hid (fun (w:World) (hb:Below W.heap.size W w)=>(show Calls Tryz.prog 9 #[.slice A1 n1 c1,.int .i64 60] w fun x w'=>x =.returned (.agg (FA 330 (pc p)))∧Below w.heap.size w w' from by rw[hp];exact AL W A1 n1 c1 g1 hr1 hl1 hn1 hc1 60 (by decide) w hb))
 clear hp hr1 hl1 hg1 Af hn1 hc1
 have S0:Hid (HS [] W W []):=hid HS.start
 have vU:=hid (show iP (fun _=>none) from fun j v h=>by cases h)
 have vV:=hid (show p.a%65536≤65534 from by rw[JZ.out.1];decide)
 go_enter Tryz.func7,Tryz.ntmps7
 go_wp2_with fail
 refine(sW _).mono ?_
 rintro e w1 ⟨rfl,hb⟩
 have S1:=hid (S0.out.below hb)
 clear hb S0
 go_simp
 go_wp2_with fail
 refine(MK.out _ S1.out.bl).mono ?_
 rintro e w2 ⟨rfl,hb⟩
 have S2:=hid (S1.out.below hb)
 clear hb S1 MK
 go_simp
 go_upto_region 4 with (first | ((with_reducible refine ah ?_);refine ay rfl (nO rfl (Cp _) (by omega) S2.out ?_);intro P w_ hZ _;have SA:=hid hZ;clear hZ) | ((with_reducible refine ah ?_);refine ay rfl (ji (A:=[]) 0 330 (pc p) (pc p) rfl rfl rfl SA.out (by omega) (fun j hj=>kM _ _ _ j hj) dE (oR _) ?_);intro w_ hZ;have SX:=hid hZ;clear hZ))
 have S3:=hid (SX.out)
 clear SX SA S2
 go_wp2_with ((with_reducible refine ah ?_);refine ay rfl (iz 0 rfl 0 330 (pc p) rfl rfl S3.out (by omega) (fun j hj=>by rw[Nat.zero_add]) Tryz.underlying34 rfl dE ?_))
 refine(MB S3.out p g8.out).mono ?_
 rintro e Nn ⟨pb,sb,wb,rfl,hne,hz⟩
 have S4:=hid (hz)
 clear hz S3
 have vT:=hid hne
 clear hne
 go_simp
 go_wp2_with fail
 refine(wX S4.out).mono ?_
 rintro e Nm ⟨qb,rfl,hz⟩
 have S5:=hid (hz)
 clear hz S4
 go_simp
 go_upto_region 7 with (fail)
 go_wp2_with ((with_reducible refine ah ?_);refine ay rfl (iz 3 rfl 0 330 (pc p) rfl rfl S5.out (by omega) (fun j hj=>by rw[Nat.zero_add]) Tryz.underlying34 rfl dE ?_))
 refine(vC (A:=[]) (B:=[fX sb wb p,aD pb 130 (dw sb (fun _=>none)),aD P 330 (pc p)]) S5.out p g8.out).mono ?_
 rintro e Nl ⟨wq,rfl,hnq,hz⟩
 have S6:=hid (hz)
 clear hz S5
 have Cc:=hid hnq
 clear hnq
 go_simp
 go_upto_region 8 with (fail)
 go_wp2_with ((with_reducible refine ah ?_);refine ay rfl (iz 4 rfl 0 330 (pc p) rfl rfl S6.out (by omega) (fun j hj=>by rw[Nat.zero_add]) Tryz.underlying34 rfl dE ?_))
 refine(Bw S6.out p nu.out a0 b0 ML MJ).mono ?_
 rintro e QH ⟨AB,nb,cb,gb,rfl,hcb,hnb,hgb,hz⟩
 have S7:=hid (hz)
 clear hz S6
 have mc:=hid hgb
 have vY:=hid hcb
 clear hgb hcb
 go_simp
 obtain ⟨tt,ht⟩:∃t,cY p true (fun _=>none) gb nb=t:=⟨_,rfl⟩
 have HT:=hid ht
 have sn:Hid (iP tt.nr):=hid (by rw[←ht];exact wW (p:=p) (n:=nb) vU.out mc.out)
 clear ht
 have e1:=nY cb (S7.out.fh 0 rfl)
 go_upto_region 10 with (fail)
 clear e1
 go_wp2_with fail
 refine(p_ (A:=[bS (.slice AB nb cb) nb gb,fM wq (cF p),aD qb 460 (fN true p (gU wq) (fun _=>none)),fX sb wb p]) (B:=[aD P 330 (pc p)]) S7.out (S7.out.st 3 rfl) vT.out nu.out vU.out gb nb cb AB mc.out (by omega) (S7.out.fh 0 rfl) vY.out _ HT.out).mono ?_
 rintro e QG ⟨X,c,rfl,hz,hcc⟩
 have S8:=hid (hz)
 clear hz S7
 go_simp
 go_upto_region 11 with (first | ((with_reducible refine ah ?_);refine ay rfl (bw rfl (oC _) (by simp) S8.out ?_);intro O w_ hZ _;have SY:=hid hZ;clear hZ) | ((with_reducible refine ah ?_);refine ay rfl (aB (A:=[]) [tt.d,tt.s,tt.c,.slice X tt.n c] rfl rfl (rfl) SY.out rfl d9 rfl ?_);intro w_ hZ;have SX:=hid hZ;clear hZ))
 have S9:=hid (SX.out)
 clear SX SY S8
 go_wp2_with fail
 go_loopg [13] tt.n (fun gh i wx=>∃(k:Nat) (f:Nat→Int),gh=tt.n-k∧k≤tt.n∧i =.int .i64 (k:Int)∧HS [] W wx [aw O [tt.d,tt.s,tt.c,.slice X tt.n c],bS (.slice X tt.n c) tt.n f,bS (.slice AB nb cb) nb gb,fM wq (cF p),aD qb 460 (fN true p (gU wq) (fun _=>none)),fX sb wb p,aD pb 130 (dw sb tt.nr),aD P 330 (pc p)])
 case atStart=>exact⟨0,tt.f,by omega,by omega,rfl,S9.out⟩
 clear S9
 obtain ⟨k,f,hgh,hk,rfl,hS⟩:=hrel
 have U0:=hid hS
 clear hS
 obtain ⟨o0,o1,o2,o3⟩:=(U0.out.ce 0 rfl).c4
 by_cases hkn:k<tt.n
 ·have i1:(k:Int)<(tt.n:Int):=by omega
  have z1:(0:Int)≤k:=by omega
  obtain ⟨G,hG⟩:=HS.G0 U0.out 1 rfl (by omega)
  subst hG
  obtain ⟨x1,x2,x3⟩:=HS.Jj U0.out 1 rfl (by omega)
  have y2:=x2 k hkn
  have y3:=x3 k
  clear x2 x3
  have hK:=HS.Kj (A:=[aw O [tt.d,tt.s,tt.c,.slice (some ⟨G,0,none⟩) tt.n c]]) U0.out k 0
  have LN:Hid (tt.n≤nb∧nb≤1500):=hid ⟨by rw[←HT.out];exact Fy,by omega⟩
  have q9:IntKind.i64.wrap ((k:Int)+1)=(k:Int)+1:=IntWalk.i64_in _ (by have:=LN.out;omega)
  go_upto_region 13 with (fail)
  generalize wr.setCell ⟨G,k,none⟩ (.int .u8 0)=w9 at *
  have U1:=hid hK
  clear hK U0 y2 y3 x1 o0 o1 o2 o3
  go_wp2_with fail
  go_roundg (tt.n-(k+1))
  case rel=>exact⟨k+1,_,by omega,by omega,by go_num,U1.out⟩
  omega
 have i1:¬(k:Int)<(tt.n:Int):=by omega
 go_upto_region 15 with (fail)
 clear o0 o1 o2 o3
 have rr:=hid (U0.out)
 clear U0
 obtain ⟨cs,ws,e2,hb2,hB2,hc2⟩:=tC wr gb nb mc.out
 have pG:=hid (rr.out.below hb2)
 have Ci:=hid hB2
 have Cg:=hid hc2
 clear hb2 hB2 hc2
 go_wp2_with fail
 clear e2 rr
 refine(qd (A:=[aw O [tt.d,tt.s,tt.c,.slice X tt.n c],bS (.slice X tt.n c) tt.n f,bS (.slice AB nb cb) nb gb,fM wq (cF p)]) (B:=[fX sb wb p,aD pb 130 (dw sb tt.nr),aD P 330 (pc p)]) pG.out (pG.out.nth 3 rfl) Cc.out nu.out vV.out vU.out gb nb cs _ mc.out (by omega) Ci.out Cg.out _ HT.out).mono ?_
 rintro e Nq ⟨Y,cy,rfl,hz,hcy⟩
 have mQ:=hid (hz)
 clear hz pG Ci Cg hcy
 go_simp
 have Rr:=hid sn.out
 obtain ⟨t2,ht⟩:∃t,cY p true tt.nr gb nb=t:=⟨_,rfl⟩
 have HT2:=hid ht
 clear ht
 have e1:=nY cb (mQ.out.fh 3 rfl)
 go_wp2_with fail
 clear e1
 refine(p_ (A:=[bS (.slice Y tt.n cy) tt.n tt.f,aw O [tt.d,tt.s,tt.c,.slice X tt.n c],bS (.slice X tt.n c) tt.n f,bS (.slice AB nb cb) nb gb,fM wq (cF p),aD qb 460 (fN true p (gU wq) tt.nr),fX sb wb p]) (B:=[aD P 330 (pc p)]) mQ.out (mQ.out.st 6 rfl) vT.out nu.out sn.out gb nb cb AB mc.out (by omega) (mQ.out.fh 3 rfl) vY.out _ HT2.out).mono ?_
 rintro e Np ⟨X2,c2,rfl,hz,Qk⟩
 have pF:=hid (hz)
 clear hz mQ
 go_simp
 obtain ⟨cs2,Qy,e2,hb2,hB2,hc2⟩:=tC Np gb nb mc.out
 have vM:=hid (pF.out.below hb2)
 have Ci:=hid hB2
 have Cg:=hid hc2
 clear hb2 hB2 hc2
 go_wp2_with fail
 clear e2 pF
 refine(qd (A:=[bS (.slice X2 t2.n c2) t2.n t2.f,bS (.slice Y tt.n cy) tt.n tt.f,aw O [tt.d,tt.s,tt.c,.slice X tt.n c],bS (.slice X tt.n c) tt.n f,bS (.slice AB nb cb) nb gb,fM wq (cF p)]) (B:=[fX sb wb p,aD pb 130 (dw sb t2.nr),aD P 330 (pc p)]) vM.out (vM.out.nth 5 rfl) Cc.out nu.out vV.out sn.out gb nb cs2 _ mc.out (by omega) Ci.out Cg.out _ HT2.out).mono ?_
 rintro e QD ⟨Y2,OS,rfl,hz,hcy⟩
 have yT:=hid (hz)
 clear hz vM Ci Cg hcy
 go_simp
 go_wp2_with fail
 refine(nH t2.d t2.s t2.c t2.n X2 Y2 c2 OS t2.f _ (yT.out.fh 1 rfl) (yT.out.fh 0 rfl)).mono ?_
 rintro e QC ⟨rfl,hb⟩
 have Na:=hid (yT.out.below hb)
 clear hb yT
 go_simp
 go_wp2_with fail
 go_ret
 exact⟨rfl,Na.out.bl⟩
set_option maxRecDepth 100000 in
theorem lifted (os:Os)(started:os.Started)(H:Type)(enc:TypeId×Value→H) :
 ReturnsInHanded {} Tryz.checked os 7 .any (Rows.planeOwnSpec.pre6 enc Tryz.prog Tryz.f7 [] false) (Rows.planeOwnSpec.post enc Tryz.prog Tryz.f7 false true false false):=
 vf (s:=Rows.planeOwnSpec) started (by kernel_rfl) Tryz.func7
  (ChangeSpec.witness6 (s:=Rows.planeOwnSpec) (enc:=enc) (C:=Tryz.checked) false ⟨#[],#[.slice none 0 0,(),()],[]⟩ 8 (by kernel_rfl) (by kernel_rfl) (by kernel_rfl) (by kernel_rfl))
  rfl (by rw[Tryz.params7];decide +kernel) rfl Tryz.underlying4
  (fun ds h=>by
   rw[Tryz.params7]at h
   match ds,h with
   | [_,_,_],_=>rfl)
  (fun W base args ds ps hval hA hsz=>by
   rw[Tryz.params7]at hA hval hsz
   obtain ⟨v0,Ns,d0,ds0,p0,q0,hargs,rfl,rfl,h0,r0⟩:=trodAll_cons hA
   obtain ⟨v1,vs1,d1,ds1,p1,q1,rfl,rfl,rfl,h1,r1⟩:=trodAll_cons r0
   obtain ⟨v2,vs2,d2,OA,p2,q2,rfl,rfl,rfl,h2,r2⟩:=trodAll_cons r1
   obtain ⟨rfl,rfl,rfl⟩:=trodAll_nil r2
   obtain rfl:args =#[v0,v1,v2]:=by cases args;simp_all
   obtain ⟨A0,n0,c0,g0,rfl,hn0,hc0,hs0,hw0,hl0,hd0⟩:=open_row Tryz.underlying22 Tryz.underlying3 (by kernel_rfl) (hval 0 22 v0 rfl rfl) h0
   have Hl:c0*8≤140737488351232:=by
    exact qJF
   obtain ⟨a1,rfl,rfl,rfl,w1⟩:=open_int Tryz.underlying3 (hval 1 3 v1 rfl rfl) h1
   obtain ⟨a2,rfl,rfl,rfl,w2⟩:=open_int Tryz.underlying3 (hval 2 3 v2 rfl rfl) h2
   exact walk W A0 n0 c0 g0 hn0 hc0 hs0 (fun j=>bounds_i64 (hw0 j)) hl0 Hl a1 (bounds_i64 w1) a2 (bounds_i64 w2))
theorem proved:Rows.PlaneOwnSaid:=
 OpenClaim.holds_of_wide 7 Tryz.f7 rfl rfl rfl rfl rfl rfl rfl ⟨rfl,rfl,rfl,rfl,rfl⟩ rfl rfl rfl rfl rfl (by kernel_rfl) Tryz.func7 (by kernel_rfl)
  (of_decide_eq_true (by kernel_rfl)) (by unfold Func.isWrapper;first | (rw[if_pos (by decide +kernel)];kernel_rfl) | (rw[if_neg (by decide +kernel)];exact⟨rfl,rfl⟩))
  (fun os started H enc _=>lifted os started H enc)
end Go.Proofs.YtalnfkijiehjhaaGreat.planeOwn
