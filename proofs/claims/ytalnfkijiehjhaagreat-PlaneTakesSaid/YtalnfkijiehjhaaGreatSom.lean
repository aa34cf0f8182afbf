/- Two rows as one thing; Build of any kind, Nat, stage 3's Make by things. Some bytes of stage 9's statements. What laws with many packets share. -/
import Derived.Test.YtalnfkijiehjhaaGreatGa
import Derived.Test.YtalnfkijiehjhaaGreatTth
import Derived.Test.YtalnfkijiehjhaaGreatTio
import Derived.Test.YtalnfkijiehjhaaGreatWirBld4
import Derived.Test.YtalnfkijiehjhaaGreatWirBld5
import Derived.Test.YtalnfkijiehjhaaGreatWirBld6
import Derived.Test.YtalnfkijiehjhaaGreatWirRef3
import Derived.Test.YtalnfkijiehjhaaGreatWirMk
import Derived.Test.YtalnfkijiehjhaaGreatWrf
import Derived.Test.YtalnfkijiehjhaaGreatTpk
import Derived.BigQuiet
import Derived.Deep.RegionHeld3
import Derived.Deep.Cut
import Derived.IntWalk
import Derived.Deep.CutBlock
import Derived.Deep.CutRange
import Derived.Test.YtalnfkijiehjhaaGreatPkn
import Derived.Test.YtalnfkijiehjhaaGreatPlt
import Derived.Test.YtalnfkijiehjhaaGreatGy
namespace Go.Proofs.YtalnfkijiehjhaaGreat
set_option linter.unusedVariables false
set_option linter.unusedSimpArgs false
open Go.RowKit Go.ChangeShapes Go.WideShapes Go.ChangeAt
set_option maxRecDepth 100000
section
variable {S:List Nat}{W w w':World}{L:List Th}
def lJ (bs:List Nat)(A:Option Addr)(n:Nat)(f:Nat→Int)(B:Option Addr)(m:Nat)(g:Nat→Int):Th:=
 ⟨fun w=>(∀b,b∈bs→b<w.heap.size)∧(0<n→∃b off,A=some ⟨b,off,none⟩∧b∈bs∧∀j,j<n→w.cell? ⟨b,off+j,none⟩=some (.int .u8 (f j)))∧(0<m→∃b off,B=some ⟨b,off,none⟩∧b∈bs∧∀j,j<m→w.cell? ⟨b,off+j,none⟩=some (.int .u8 (g j))),bs,
 fun w w' h e=>⟨fun b hb=>gp (h.1 b hb) (e b hb),fun hn=>by
  obtain ⟨b,off,h1,h2,h3⟩:=h.2.1 hn
  exact⟨b,off,h1,h2,fun j hj=>(World.cell?_of_block (a:=⟨b,off+j,none⟩) (e b h2)).trans (h3 j hj)⟩,fun hn=>by
  obtain ⟨b,off,h1,h2,h3⟩:=h.2.2 hn
  exact⟨b,off,h1,h2,fun j hj=>(World.cell?_of_block (a:=⟨b,off+j,none⟩) (e b h2)).trans (h3 j hj)⟩⟩,
 fun w h b hb=>h.1 b hb⟩
theorem qYY{P:Prop}(h:P:=by
 refine⟨fun x hx=>?_,h.2.1,by rw[e];exact h.2.2.1,fun b hb=>h.2.2.2 b (by rw[←e];exact hb)⟩
 rcases List.mem_cons.1 hx with rfl |hx
 ·exact ht
 exact h.1 x (by simp[hx])
 ):P:=h
theorem HS.two {t u t':Th}(h:HS S W w (t::u::L))(hbs:t'.bs=t.bs++u.bs)(ht:t'.at_ w):HS S W w (t'::L):=by
 have e:(t'::L).flatMap Th.bs=(t::u::L).flatMap Th.bs:=by simp[hbs]
 exact qYY
theorem HS.one {t t':Th}(h:HS S W w (t::L))(hbs:t'.bs=t.bs)(ht:t'.at_ w):HS S W w (t'::L):=by
 have e:(t'::L).flatMap Th.bs=(t::L).flatMap Th.bs:=by simp[hbs]
 exact qYY
theorem uk {A:Option Addr}{n c:Nat}{f:Nat→Int}(h:OB w 0 (.slice A n c) n f)(hn:0<n):∃b off,A=some ⟨b,off,none⟩∧b∈(Value.slice A n c).ownBlock.toList∧∀j,j<n→w.cell? ⟨b,off+j,none⟩=some (.int .u8 (f j)):=by
 obtain ⟨b,rfl,_,_,hc,_⟩:=Ow.block_ h hn
 exact⟨b,0,rfl,by simp[Value.ownBlock],fun j hj=>by rw[Nat.zero_add];exact hc j (by omega)⟩
theorem HS.z2 {AO AD:Option Addr}{no nd cO bD:Nat}{go gd:Nat→Int}(h:HS S W w (bS (.slice AO no cO) no go::mS bD AD nd gd::L)):HS S W w (lJ ((Value.slice AO no cO).ownBlock.toList ++ [bD]) AO no go AD nd gd::L):=by
 have h0:=h.nth 0 rfl
 have h1:(mS bD AD nd gd).at_ w:=h.nth 1 rfl
 refine HS.two h rfl ⟨fun b hb=>?_,fun hn=>?_,fun hn=>?_⟩
 ·rcases List.mem_append.1 hb with hb |hb
  ·exact(bS (.slice AO no cO) no go).lt w h0 b hb
  exact(mS bD AD nd gd).lt w h1 b hb
 ·obtain ⟨b,off,a1,a2,a3⟩:=uk h0 hn
  exact⟨b,off,a1,List.mem_append.2 (.inl a2),a3⟩
 obtain ⟨off,a1,a2⟩:=h1.2 hn
 exact⟨bD,off,a1,List.mem_append.2 (.inr (by simp)),a2⟩
theorem HS.z1 {A:Option Addr}{n c:Nat}{f:Nat→Int}(h:HS S W w (bS (.slice A n c) n f::L)):HS S W w (lJ (Value.slice A n c).ownBlock.toList none 0 (fun _=>0) A n f::L):=by
 have h0:=h.nth 0 rfl
 exact HS.one h rfl ⟨fun b hb=>(bS (.slice A n c) n f).lt w h0 b hb,fun hn=>absurd hn (by omega),fun hn=>uk h0 hn⟩
theorem HS.zO {AO AD:Option Addr}{no nd cO cD:Nat}{go gd:Nat→Int}(h:HS S W w (dN 0 (.slice AO no cO) (.slice AD nd cD) no nd go gd::L)):HS S W w (lJ (dN 0 (.slice AO no cO) (.slice AD nd cD) no nd go gd).bs AO no go AD nd gd::L):=by
 have h0:(dN 0 (.slice AO no cO) (.slice AD nd cD) no nd go gd).at_ w:=h.nth 0 rfl
 refine HS.one h rfl ⟨fun b hb=>(dN 0 (.slice AO no cO) (.slice AD nd cD) no nd go gd).lt w h0 b hb,fun hn=>?_,fun hn=>?_⟩
 ·obtain ⟨b,off,a1,a2,a3⟩:=uk h0.1 hn
  refine⟨b,off,a1,?_,a3⟩
  dsimp only[dN]
  split
  ·exact a2
  exact List.mem_append.2 (.inl a2)
 obtain ⟨b,off,a1,a2,a3⟩:=uk h0.2 hn
 refine⟨b,off,a1,?_,a3⟩
 dsimp only[dN]
 split
 ·rename_i e;rw[e];exact a2
 exact List.mem_append.2 (.inr a2)
theorem HS.EW {bs:List Nat}{AO AD:Option Addr}{no nd:Nat}{go gd:Nat→Int}(h:HS S W w L)(k:Nat)(hk:L[k]? = some (lJ bs AO no go AD nd gd)):By w AO no go∧By w AD nd gd:=by
 have h0:(lJ bs AO no go AD nd gd).at_ w:=h.nth k hk
 refine⟨fun hn=>?_,fun hn=>?_⟩
 ·obtain ⟨b,off,a1,a2,a3⟩:=h0.2.1 hn
  exact⟨b,off,a1,h0.1 b a2,a3⟩
 obtain ⟨b,off,a1,a2,a3⟩:=h0.2.2 hn
 exact⟨b,off,a1,h0.1 b a2,a3⟩
theorem HS.Hs {E:Int}{n:Nat}{F:Nat→Int}{e:Ending}(h:HS S W w L)(k:ij w E n F e w')(hF:E=0→aC F):∃A m c G,e =.returned (.tuple #[.slice A m c,E])∧HS S W w' (bS (.slice A m c) m G::L)∧m≤c∧(m=if E=0 then n else 0)∧aC G:=by
 obtain ⟨v,rfl,hO,hb⟩:=k
 obtain ⟨A,c,rfl,hc,_⟩:=hO.aF
 by_cases h0:E=0
 ·exact⟨A,_,c,F,rfl,h.qZ hb hO,hc,rfl,hF h0⟩
 refine⟨A,_,c,fun _=>0,rfl,h.qZ hb (hO.fQ fun j hj=>?_),hc,rfl,lh⟩
 rw[if_neg h0]at hj
 omega
theorem Ge {p:Pk}(h:aG p=0):aU p≤1500:=by
 unfold aG at h
 split at h
 ·cases h
 split at h
 ·cases h
 split at h
 ·cases h
 split at h
 ·cases h
 omega
theorem EV (hS:HS S W w L)(p:Pk)(hk:p.kind=1∨p.kind=2∨p.kind=3)(hgo:aC p.go)(hgd:aC p.gd)(h1:p.no≤1000000)(h2:p.nd≤1000000)(AO:Option Addr)(cO:Nat)(AD:Option Addr)(cD:Nat)(HO:By w AO p.no p.go)(HD:By w AD p.nd p.gd) :
 Calls Tryz.prog 28 #[.agg #[p.kind,p.life,p.piece,p.src,p.dst,p.fp,p.tp,p.flags,p.label,p.bare,p.code,.slice AO p.no cO,.slice AD p.nd cD]] w fun e w'=>∃A m c G E,e =.returned (.tuple #[.slice A m c,E])∧HS S W w' (bS (.slice A m c) m G::L)∧m≤c∧m≤1500∧aC G:=by
 have h:Calls Tryz.prog 28 #[.agg #[p.kind,p.life,p.piece,p.src,p.dst,p.fp,p.tp,p.flags,p.label,p.bare,p.code,.slice AO p.no cO,.slice AD p.nd cD]] w (ij w (aG p) (aU p) (aP p)):=by
  rcases hk with hk |hk |hk
  ·exact qo p AO cO AD cD w HO HD hgo hgd h1 h2 (hid hk)
  ·exact qn p AO cO AD cD w HO HD hgo hgd h1 h2 (hid hk)
  exact wF p AO cO AD cD w HO HD hgo hgd h1 h2 (hid hk)
 refine h.mono ?_
 rintro e w' k
 obtain ⟨A,m,c,G,he,hz,hc,hm,hG⟩:=hS.Hs k (fun hE=>nZ hgd hgo hE)
 refine⟨A,m,c,G,_,he,hz,hc,?_,hG⟩
 rw[hm]
 split
 ·exact Ge (by assumption)
 omega
theorem KV (hS:HS S W w L)(g:Nat→Int)(n c:Nat)(A:Option Addr)(hg:aC g)(hn:n≤1000000)(hc:n≤c)(h:By w A n g)(s:Bool)(ad po:Int) :
 Calls Tryz.prog 39 #[.slice A n c,s,ad,po] w fun e w'=>∃A m c G E,e =.returned (.tuple #[.slice A m c,E])∧HS S W w' (bS (.slice A m c) m G::L)∧m≤c∧m≤n∧aC G:=by
 refine(qU A n c g w h hg hc hn s ad po).mono ?_
 rintro e w' k
 obtain ⟨A,m,c,G,he,hz,hc,hm,hG⟩:=hS.Hs k (fun _=>sU hg _ _ _ _)
 refine⟨A,m,c,G,_,he,hz,hc,?_,hG⟩
 rw[hm]
 split <;> omega
theorem KX (hS:HS S W w L)(kind:Int)(A1:Option Addr)(c1:Nat)(g1:Nat→Int)(hr1:Is w A1 8 g1) :
 Calls Tryz.prog 40 #[kind,.slice A1 8 c1,.slice none 0 0] w fun e w'=>∃(p:Pk) (AO:Option Addr) (cO:Nat) (AD:Option Addr) (cD:Nat) (bs:List Nat),e =.returned (.agg #[p.kind,p.life,p.piece,p.src,p.dst,p.fp,p.tp,p.flags,p.label,p.bare,p.code,.slice AO p.no cO,.slice AD p.nd cD])∧HS S W w' (lJ bs AO p.no p.go AD p.nd p.gd::L)∧(p.kind=1∨p.kind=2∨p.kind=3)∧aC p.go∧aC p.gd∧p.no≤1000∧p.nd≤2000:=by
 obtain ⟨f1,f2,f3,f4,f5,f6⟩:=Dr kind (nv g1 8) (fun _=>0) 0 lh
 refine(AS kind A1 8 c1 g1 none 0 0 (fun _=>0) w hr1 (fun h=>absurd h (by omega)) lh (by decide) (by omega) (by decide)).mono ?_
 generalize ib kind (nv g1 8) (fun _=>0) 0=p at *
 rintro e w' ⟨O,D,rfl,hO,hD,hb⟩
 obtain ⟨AO,cO,rfl,_,_⟩:=hO.aF
 obtain ⟨AD,cD,rfl,_,_⟩:=hD.aF
 refine⟨p,AO,cO,AD,cD,_,rfl,HS.zO (hS.newP hb hO hD),?_,f3,f4,by omega,by omega⟩
 refine oZ ?_
 unfold aG at f1
 split at f1
 ·cases f1
 rename_i h
 cases e:isK p.kind
 ·exact absurd e h
 rfl
end
end Go.Proofs.YtalnfkijiehjhaaGreat
namespace Go.Proofs.YtalnfkijiehjhaaGreat
set_option linter.unusedVariables false
set_option linter.unusedSimpArgs false
open Go.RowKit Go.ChangeShapes Go.WideShapes Go.ChangeAt
set_option maxRecDepth 100000
theorem MU {w:World}{b:Nat}{a0 a1 a2 a3 a4 a5 a6 a7:Int}(h:Ce w b [a0,a1,a2,a3,a4,a5,a6,a7]):Is w (some ⟨b,0,none⟩) 8 (fun j=>if j=0 then a0 else if j=1 then a1 else if j=2 then a2 else if j=3 then a3 else if j=4 then a4 else if j=5 then a5 else if j=6 then a6 else a7):=by
 intro _
 refine⟨b,0,rfl,h.1,fun j hj=>?_⟩
 rw[Nat.zero_add]
 match j,hj with
 |0,_=>exact h.2.1 0 _ rfl
 |1,_=>exact h.2.1 1 _ rfl
 |2,_=>exact h.2.1 2 _ rfl
 |3,_=>exact h.2.1 3 _ rfl
 |4,_=>exact h.2.1 4 _ rfl
 |5,_=>exact h.2.1 5 _ rfl
 |6,_=>exact h.2.1 6 _ rfl
 |7,_=>exact h.2.1 7 _ rfl
theorem qYD{P:Prop}(h:P:=by
 show OB _ 0 _ n (set1 f i v)
 refine(Ow.store_ h0 i (.int .u8 v)).fQ (fun j _=>?_)
 unfold qY set1
 split <;> rfl
 ):P:=h
theorem HS.MF {S:List Nat}{W w:World}{L:List Th}{g n c:Nat}{f:Nat→Int}(h:HS S W w (bS (.slice (some ⟨g,0,none⟩) n c) n f::L))(i:Nat)(v:Int):HS S W (w.setCell ⟨g,i,none⟩ (.int .u8 v)) (bS (.slice (some ⟨g,0,none⟩) n c) n (set1 f i v)::L):=by
 have h0:OB w 0 (.slice (some ⟨g,0,none⟩) n c) n f:=h.nth 0 rfl
 refine HS.upd (A:=[]) h (bS (.slice (some ⟨g,0,none⟩) n c) n (set1 f i v)) rfl ((Ch.refl _ _).set1 (.inl (by simp[bS,bU,Value.ownBlock]))) ?_
 exact qYD
structure LZ (x:Pk):Prop where
 kd:x.kind=1∨x.kind=2∨x.kind=3
 go:aC x.go
 gd:aC x.gd
 no:x.no≤1000000
 nd:x.nd≤1000000
def K5 (w:World)(e:Ending)(w':World):Prop:=∃A nb c g,e =.returned (.slice A nb c)∧nb≤c∧nb≤1500∧aC g∧HS [] w w' [bS (.slice A nb c) nb g]
attribute [local irreducible] FA FL mO
theorem qXD{P:Prop}(h:P:=by
 rintro e w7 ⟨x,AO,cO,AD,cD,bD,rfl,gI,hI,hz⟩
 have U1:=hid (HS.z2 hz)
 clear hz
 have HI:=hid hI.md
 clear hI
 go_simp
 go_wp2_with ((with_reducible refine ah ?_);refine ay rfl (aB (A:=[lJ _ AO x.no x.go AD x.nd x.gd]) [x.kind,x.life,x.piece,x.src,x.dst,x.fp,x.tp,x.flags,x.label,x.bare,x.code,.slice AO x.no cO,.slice AD x.nd cD] rfl rfl (rfl) U1.out rfl jt rfl ?_);intro w_ hZ;have U2:=hid hZ;clear hZ)
 go_meet
 exact⟨x,AO,cO,AD,cD,_,⟨by have:=HI.out.kd;omega,HI.out.go,HI.out.gd,by have:=HI.out.no;omega,by have:=HI.out.nd;omega⟩,U2.out⟩
 ):P:=h
set_option maxHeartbeats 8000000 in
theorem yx (p:Pl)(hp:Pt p)(n m:Int)(hn: -9223372036854775808≤n∧n≤9223372036854775807)(hm: -9223372036854775808≤m∧m≤9223372036854775807)(w:World):Calls Tryz.prog 14 #[.agg (FA 330 (pc p)),n,m] w (K5 w):=by
 obtain ⟨k,hk⟩:∃k,k=wi n 1125899906842624:=⟨_,rfl⟩
 have kb:=jE n 1125899906842624 (by omega)
 rw[←hk]at kb
 have WK:=hid (fun (w:World)=>c_ (gA n 1125899906842624 w (by omega) (by omega)) hk.symm)
 clear hk
 obtain ⟨jN,Ih⟩:=kb
 obtain ⟨r,hr⟩:∃r,Int.tmod k 8=r:=⟨_,rfl⟩
 have QU:0≤r∧r<8:=by rw[←hr,Int.tmod_eq_emod_of_nonneg jN];omega
 obtain ⟨k8,Ix⟩:∃x,IntKind.i64.wrap (Int.tdiv k 8)=x:=⟨_,rfl⟩
 obtain ⟨k3,hk3⟩:∃x,IntKind.i64.wrap (Int.tdiv k 3)=x:=⟨_,rfl⟩
 obtain ⟨m3,Oa⟩:∃x,IntKind.i64.wrap (Int.tdiv m 3)=x:=⟨_,rfl⟩
 obtain ⟨n5,QW⟩:∃x,IntKind.i64.wrap (Int.tdiv n 5)=x:=⟨_,rfl⟩
 obtain ⟨k7,A_⟩:∃x,IntKind.i64.wrap (Int.tdiv k 7)=x:=⟨_,rfl⟩
 obtain ⟨m7,QY⟩:∃x,IntKind.i64.wrap (Int.tdiv m 7)=x:=⟨_,rfl⟩
 obtain ⟨tO,M6⟩:∃x,IntKind.i64.wrap (Int.tdiv k 40)=x:=⟨_,rfl⟩
 obtain ⟨yz,KF⟩:∃x,IntKind.i64.wrap (Int.tdiv k 360)=x:=⟨_,rfl⟩
 obtain ⟨EI,M5⟩:∃x,IntKind.i64.wrap (Int.tdiv k 64)=x:=⟨_,rfl⟩
 have Rl:0≤k8∧k8<1125899906842624:=by rw[←Ix,Int.tdiv_eq_ediv_of_nonneg jN,IntWalk.i64_in _ (by omega)];omega
 have Qv:0≤tO∧tO<1125899906842624:=by rw[←M6,Int.tdiv_eq_ediv_of_nonneg jN,IntWalk.i64_in _ (by omega)];omega
 have Qb:0≤yz∧yz<1125899906842624:=by rw[←KF,Int.tdiv_eq_ediv_of_nonneg jN,IntWalk.i64_in _ (by omega)];omega
 have Qu:0≤EI∧EI<1125899906842624:=by rw[←M5,Int.tdiv_eq_ediv_of_nonneg jN,IntWalk.i64_in _ (by omega)];omega
 have S0:Hid (HS [] w w []):=hid HS.start
 go_enter Tryz.func14,Tryz.ntmps14
 go_upto_region 1 with ((with_reducible refine ah ?_);refine ay rfl (kN rfl rfl (by omega) S0.out ?_);intro P w_ hZ _;have SX:=hid hZ;clear hZ)
 have S1:Hid (HS [] w _ [aD P 330 (pc p)]):=hid (SX.out)
 clear SX S0
 go_wp2_with fail
 refine(WK.out _).mono ?_
 rintro e w' ⟨rfl,rfl⟩
 go_upto_region 3 with ((with_reducible refine ah ?_);refine ay rfl (bw rfl (oB _) (by simp) S1.out ?_);intro X w_ hZ _;have SY:=hid hZ;clear hZ)
 have S2:Hid (HS [] w _ [aw X [(),(),(),(),(),(),(),(),(),false,(),.slice none 0 0,.slice none 0 0],aD P 330 (pc p)]):=hid (SY.out)
 clear SY S1 WK
 try simp only[Act.put,List.setIfInBounds_toArray,List.set_cons_zero,List.set_cons_succ]
 go_upto_block 0 with (fail)
 go_cut [9,10,11,12] from 19 to 89 (fun _ _ _ _ wx=>∃x AO cO AD cD bs,LZ x∧HS [] w wx [lJ bs AO x.no x.go AD x.nd x.gd,aw X [x.kind,x.life,x.piece,x.src,x.dst,x.fp,x.tp,x.flags,x.label,x.bare,x.code,.slice AO x.no cO,.slice AD x.nd cD],aD P 330 (pc p)])
 case first=>
  rcases (show (r=0∨r=1∨r=2)∨(r=3∨r=4∨r=5)∨r=6∨r=7 by omega) with h |h |h |h
  ·rcases h with rfl |rfl |rfl
   all_goals
    go_upto_region 8 with (fail)
    go_wp2_with ((with_reducible refine ah ?_);refine ay rfl (iz 1 rfl 0 330 (pc p) rfl rfl S2.out (by omega) (fun j hj=>by rw[Nat.zero_add]) Tryz.underlying34 rfl dE ?_))
    refine(Jl S2.out p hp k8 m (by omega) hm).mono ?_
    exact qXD
  ·rcases h with rfl |rfl |rfl
   all_goals
    go_upto_region 12 with (fail)
    go_wp2_with ((with_reducible refine ah ?_);refine ay rfl (iz 1 rfl 0 330 (pc p) rfl rfl S2.out (by omega) (fun j hj=>by rw[Nat.zero_add]) Tryz.underlying34 rfl dE ?_))
    refine(KW S2.out p hp k8 m (by omega) hm).mono ?_
    exact qXD
  ·subst h
   go_upto_region 14 with (fail)
   go_wp2_with ((with_reducible refine ah ?_);refine ay rfl (iz 1 rfl 0 330 (pc p) rfl rfl S2.out (by omega) (fun j hj=>by rw[Nat.zero_add]) Tryz.underlying34 rfl dE ?_))
   refine(Jl S2.out p hp k8 m (by omega) hm).mono ?_
   rintro e w7 ⟨x,AO,cO,AD,cD,bD,rfl,gI,hI,hz⟩
   have U1:=hid (HS.z2 hz)
   clear hz
   have HI:=hid hI.md
   clear hI
   go_simp
   go_wp2_with fail
   refine(EV U1.out x (by have:=HI.out.kd;omega) HI.out.go HI.out.gd (by have:=HI.out.no;omega) (by have:=HI.out.nd;omega) AO cO AD cD (U1.out.EW 0 rfl).1 (U1.out.EW 0 rfl).2).mono ?_
   rintro e w8 ⟨A,nb,c,g,E,rfl,hz,hc,hnb,hg⟩
   have U2:=hid (HS.drop1 hz)
   clear hz U1
   have HG:=hid hg
   clear hg
   go_simp
   have pq:=(iy (U2.out.fb 2 rfl)).c1
   have pr:=(iy (U2.out.fb 2 rfl)).c2
   go_wp2_with fail
   refine(KV U2.out g nb c A HG.out (by omega) hc (U2.out.fh 0 rfl) true p.a p.p).mono ?_
   rintro e w9 ⟨A',nc,c',g',E',rfl,hz,hc',hnc,hg'⟩
   have U3:=hid hz
   clear hz U2 pq pr
   have Mq:=hid hg'
   clear hg'
   go_simp
   go_upto_if 77 with (fail)
   go_cut [9] from 74 to 78 (fun v wx=>∃A n c f,v =.slice A n c∧n≤c∧n≤1500∧aC f∧HS [] w wx [bS (.slice A n c) n f,aw X [(),(),(),(),(),(),(),(),(),false,(),.slice none 0 0,.slice none 0 0],aD P 330 (pc p)])
   case first=>
    cases e5:decide (0<k8%5)
    ·go_wp2_with fail
     go_meet
     exact⟨A,nb,c,g,rfl,hc,hnb,HG.out,HS.tail U3.out⟩
    go_wp2_with fail
    go_meet
    exact⟨A',nc,c',g',rfl,hc',by omega,Mq.out,HS.drop1 U3.out⟩
   obtain ⟨A,nb,c,g,rfl,hc,hnb,hg,hz⟩:=hcut
   have HG:=hid hg
   have U4:=hid hz
   clear hg hz U3 Mq
   have pq:=(iy (U4.out.fb 2 rfl)).c1
   have U5:=hid (HS.z1 U4.out)
   clear U4
   go_wp2_with ((with_reducible refine ah ?_);refine ay rfl (aB (A:=[lJ _ none 0 (fun _=>0) A nb g]) [.int .i64 3,.int .i64 (1+tO%9),(),.int .i64 77,p.a,(),(),(),(),false,.int .i64 (yz%9),.slice none 0 0,.slice A nb c] rfl rfl (rfl) U5.out rfl jt rfl ?_);intro w_ hZ;have U6:=hid hZ;clear hZ)
   go_meet
   exact⟨{ kind:=3,life:=1+tO%9,src:=77,dst:=p.a,code:=yz%9,nd:=nb,gd:=g },none,0,A,c,_,⟨.inr (.inr rfl),lh,HG.out,by show 0≤1000000;decide,by show nb≤1000000;omega⟩,U6.out⟩
  subst h
  go_upto_region 4 with (fail)
  go_wp2_with fail
  refine(KX (S2.out.cells (T:=3) [k,m,n,k3,m3,n5,k7,m7]) k8 _ 8 _ (MU ((S2.out.cells (T:=3) [k,m,n,k3,m3,n5,k7,m7]).ce 0 rfl))).mono ?_
  rintro e w8 ⟨x,AO,cO,AD,cD,bs,rfl,hz,h1,h2,h3,h4,h5⟩
  have U1:=hid (HS.drop1 hz)
  clear hz
  have HX:=hid (show LZ x from ⟨h1,h2,h3,by omega,by omega⟩)
  clear h1 h2 h3
  go_simp
  go_wp2_with ((with_reducible refine ah ?_);refine ay rfl (aB (A:=[lJ _ AO x.no x.go AD x.nd x.gd]) [x.kind,x.life,x.piece,x.src,x.dst,x.fp,x.tp,x.flags,x.label,x.bare,x.code,.slice AO x.no cO,.slice AD x.nd cD] rfl rfl (rfl) U1.out rfl jt rfl ?_);intro w_ hZ;have U2:=hid hZ;clear hZ)
  go_meet
  exact⟨x,AO,cO,AD,cD,_,HX.out,U2.out⟩
 obtain ⟨x,AO,cO,AD,cD,bs,hx,hz⟩:=hcut
 have HX:=hid hx
 clear hx
 have S3:Hid (HS [] w _ [lJ bs AO x.no x.go AD x.nd x.gd,aw X [x.kind,x.life,x.piece,x.src,x.dst,x.fp,x.tp,x.flags,x.label,x.bare,x.code,.slice AO x.no cO,.slice AD x.nd cD],aD P 330 (pc p)]):=hid (hz)
 clear hz S2
 go_upto_if 93 with (fail)
 go_cut [] from 90 to 94 (fun wx=>∃Ew:Int,HS [] w wx [lJ bs AO x.no x.go AD x.nd x.gd,aw X [x.kind,x.life,Ew,x.src,x.dst,x.fp,x.tp,x.flags,x.label,x.bare,x.code,.slice AO x.no cO,.slice AD x.nd cD],aD P 330 (pc p)])
 case first=>
  cases e5:(EI%23==0)
  ·go_wp2_with fail
   go_meet
   exact⟨x.piece,S3.out⟩
  have yf:=(S3.out.ce 1 rfl).2.2 2
  have yy:=(S3.out.ce 1 rfl).2.1 2 _ rfl
  have yl:=(S3.out.ce 1 rfl).1
  go_wp2_with fail
  go_meet
  exact⟨1,HS.lg (A:=[lJ bs AO x.no x.go AD x.nd x.gd]) S3.out 2 (.int .i64 1) (by simp)⟩
 obtain ⟨Ew,hz⟩:=hcut
 have S4:Hid (HS [] w _ [lJ bs AO x.no x.go AD x.nd x.gd,aw X [x.kind,x.life,Ew,x.src,x.dst,x.fp,x.tp,x.flags,x.label,x.bare,x.code,.slice AO x.no cO,.slice AD x.nd cD],aD P 330 (pc p)]):=hid (hz)
 clear hz S3
 obtain ⟨y0,y1,y2,y3,y4,y5,y6,y7,y8,y9,al,ak,aj⟩:=(S4.out.ce 1 rfl).c13
 go_wp2_with fail
 refine(EV S4.out { x with piece:=Ew } HX.out.kd HX.out.go HX.out.gd HX.out.no HX.out.nd AO cO AD cD (S4.out.EW 0 rfl).1 (S4.out.EW 0 rfl).2).mono ?_
 rintro e w8 ⟨A,nb,c,g,E,rfl,hz,hc,hnb,hg⟩
 have U1:=hid (show HS [] w w8 [bS (.slice A nb c) nb g] from HS.sub hz (by repeat (first |exact List.Sublist.slnil |with_reducible apply List.Sublist.cons_cons |with_reducible apply List.Sublist.cons)))
 clear hz S4 y0 y1 y2 y3 y4 y5 y6 y7 y8 y9 al ak aj
 have HG:=hid hg
 clear hg
 go_simp
 cases e11:(EI%11==0)
 ·go_wp2_with fail
  go_ret
  exact⟨A,nb,c,g,rfl,hc,hnb,HG.out,U1.out⟩
 rcases Nat.eq_zero_or_pos nb with h0 |h0
 ·subst h0
  have z0:¬(0:Int)<((0:Nat):Int):=by omega
  go_wp2_with fail
  go_ret
  exact⟨A,0,c,g,rfl,hc,hnb,HG.out,U1.out⟩
 have z0:(0:Int)<(nb:Int):=by omega
 obtain ⟨j,hj⟩:∃j:Nat,(j:Int)=wi m nb:=⟨(wi m nb).toNat,by have:=jE m nb (by omega);omega⟩
 have bj:=jE m nb (by omega)
 rw[←hj]at bj
 have WJ:=hid (fun (w:World)=>c_ (gA m nb w (by omega) (by omega)) hj.symm)
 clear hj
 obtain ⟨Rn,Rm⟩:=bj
 obtain ⟨G,rfl,_,Qm,xu,LC⟩:=Ow.block_ (show OB w8 0 (.slice A nb c) nb g from U1.out.nth 0 rfl) h0
 have xc:=xu j (by omega)
 have xf:=LC j
 clear xu LC
 go_wp2_with fail
 refine(WJ.out _).mono ?_
 rintro e w' ⟨rfl,rfl⟩
 go_simp
 go_wp2_with fail
 go_ret
 exact⟨some ⟨G,0,none⟩,nb,c,_,rfl,hc,hnb,mW HG.out j _ (mo (g j+1)).1 (mo (g j+1)).2,HS.MF U1.out j _⟩
theorem Bw {S:List Nat}{W w:World}{L:List Th}(hS:HS S W w L)(p:Pl)(hp:Pt p)(n m:Int)(hn: -9223372036854775808≤n∧n≤9223372036854775807)(hm: -9223372036854775808≤m∧m≤9223372036854775807):Calls Tryz.prog 14 #[.agg (FA 330 (pc p)),n,m] w fun e w'=>∃A nb c g,e =.returned (.slice A nb c)∧nb≤c∧nb≤1500∧aC g∧HS S W w' (bS (.slice A nb c) nb g::L):=by
 refine(yx p hp n m hn hm w).mono ?_
 rintro e w' ⟨A,nb,c,g,rfl,h1,h2,h3,h4⟩
 exact⟨A,nb,c,g,rfl,h1,h2,h3,hS.join h4⟩
end Go.Proofs.YtalnfkijiehjhaaGreat
namespace Go.Proofs.YtalnfkijiehjhaaGreat
set_option linter.unusedVariables false
set_option linter.unusedSimpArgs false
open Go.RowKit Go.ChangeShapes Go.WideShapes Go.ChangeAt
theorem wW {p:Pl}{nr:Nat→Option Int}{g:Nat→Int}{n:Nat}(h:iP nr)(hg:aC g):iP (cY p true nr g n).nr:=by
 unfold cY
 dsimp only
 rw[if_neg (by decide)]
 by_cases hp:az g n=0
 ·rw[if_neg (by simp[hp])]
  split
  ·exact h
  split
  ·exact h
  split
  ·unfold fS
   split
   ·exact h
   split <;> exact h
  split
  ·unfold inT
   split <;> exact h
  split
  ·exact h
  split
  ·exact h
  unfold outT
  dsimp only
  split
  ·exact h
  split
  ·intro j v hj
   dsimp only at hj
   unfold jG at hj
   split at hj
   ·injection hj with hj;rw[←hj];exact(lK (kr hg hp).2.2.2.2.2.1).1
   exact h j v hj
  exact h
 rw[if_pos hp];exact h
theorem Fy {p:Pl}{nr:Nat→Option Int}{g:Nat→Int}{n:Nat}:(cY p true nr g n).n≤n:=by
 unfold cY
 dsimp only
 rw[if_neg (by decide)]
 split
 ·exact Nat.zero_le _
 split
 ·exact Nat.zero_le _
 split
 ·exact Nat.zero_le _
 split
 ·unfold fS
  split
  ·exact Nat.zero_le _
  split
  ·exact Nat.zero_le _
  exact Nat.le_refl _
 split
 ·unfold inT
  split
  ·exact Nat.zero_le _
  exact Nat.le_refl _
 split
 ·exact Nat.zero_le _
 split
 ·exact Nat.zero_le _
 unfold outT
 dsimp only
 split
 ·exact Nat.le_refl _
 split <;> exact Nat.le_refl _
end Go.Proofs.YtalnfkijiehjhaaGreat
