/- Build and Parse of packets that are told by their fields. Stamps are made. Units, rows of bytes and packets as things; the functions by things. -/
import Derived.Test.YtalnfkijiehjhaaGreatGa
import Derived.Test.YtalnfkijiehjhaaGreatTpk
import Derived.Test.YtalnfkijiehjhaaGreatGwd
import Derived.BigQuiet
import Derived.Deep.RegionHeld3
import Derived.Deep.Cut
import Derived.Test.YtalnfkijiehjhaaGreatGo
import Derived.IntWalk
namespace Go.Proofs.YtalnfkijiehjhaaGreat
set_option linter.unusedVariables false
set_option linter.unusedSimpArgs false
open Go.RowKit Go.ChangeShapes Go.WideShapes Go.ChangeAt
theorem FK (k:IntKind)(l:List Int){w:World}{t:TypeId}{b:Nat}{cs:Array Value}{n:Nat}(hcs:cs=(l.map (Value.int k)).toArray)(hn:n=l.length)(hb:w.heap.size=b):Sl (w.alloc (.cells cs t)) (some ⟨b,0,none⟩) n (fun j=>.int k (l.getD j 0)):=by
 subst hcs;subst hn;exact gl k l hb
theorem rI (z:Int)(w:World)(hz:eH z)(k:Nat)(hk:w.heap.size=k) :
 Calls Tryz.prog 115 #[.int .u32 z] w fun e w'=>e =.returned (.slice (some ⟨k,0,none⟩) 4 4)∧Sl w' (some ⟨k,0,none⟩) 4 (fun j=>.int .u8 (b4 z j))∧Below w.heap.size w w':=by
 subst hk
 unfold eH at hz
 obtain ⟨hz1,hz2⟩:=hz
 go_enter Tryz.func115,Tryz.ntmps115
 go_wp2
 go_ret
 exact⟨rfl,FK .u8 (BM z) rfl rfl rfl,(Below.refl _ _).alloc (Nat.le_refl _) _⟩
def Stamped (v e:Int)(w:World)(r:Ending)(w':World):Prop:=
 ∃(A':Option Addr) (c':Nat),r =.returned (.slice A' 12 c')∧Ow w' w.heap.size 5 1 (.slice A' 12 c') 12 (fun j=>.int .u8 (mO v e j))∧Below w.heap.size w w'
theorem mk_eq (v e:Int)(j:Nat)(hj:j<12):(if j<4+4 then (if j<4 then ([1,1,8,10]:List Int).getD j 0 else b4 v (j-4)) else b4 e (j-(4+4)))=mO v e j:=by
 rcases (by omega:j=0∨j=1∨j=2∨j=3∨j=4∨j=5∨j=6∨j=7∨j=8∨j=9∨j=10∨j=11) with rfl |rfl |rfl |rfl |rfl |rfl |rfl |rfl |rfl |rfl |rfl |rfl <;> rfl
theorem Ow.MO {w:World}{B g:Nat}{e:TypeId}{k:IntKind}(l:List Int){cs:Array Value}{n:Nat}(hcs:cs=(l.map (Value.int k)).toArray)(hn:n=l.length)(hg:w.heap.size=g)(hB:B≤g)(hm:l.length≤maxLen) :
 Ow (w.alloc (.cells cs e)) B e 1 (.slice (some ⟨g,0,none⟩) n n) n (fun j=>.int k (l.getD j 0)):=by
 subst hcs;subst hn;exact Ow.lit l hg hB hm
theorem nK (v e:Int)(w:World)(hv:eH v)(he:eH e):Calls Tryz.prog 76 #[.int .u32 v,.int .u32 e] w (Stamped v e w):=by
 have h0:=hid (Ow.MO (w:=w) (B:=w.heap.size) (g:=w.heap.size) (e:=5) (k:=.u8) [1,1,8,10] (cs:=#[.int .u8 1,.int .u8 1,.int .u8 8,.int .u8 10]) (n:=4) rfl rfl rfl (Nat.le_refl _) (by decide))
 go_enter Tryz.func76,Tryz.ntmps76
 go_wp2_with fail
 refine(rI v _ hv (w.heap.size+1) (by simp)).mono ?_
 rintro r w1 ⟨rfl,s1,hb1⟩
 have B1:=hid (((Below.refl w.heap.size w).alloc (Nat.le_refl _) _).trans (hb1.mono (by simp)))
 have H1:=hid (Ow.keep h0.out hb1 (Nat.le_refl _))
 have S1:=hid s1
 clear h0 hb1 s1
 go_wp2_with (at_builtin;refine dM rfl (.tmp 5) (.tmp 7) rfl w.heap.size _ 4 (fun j=>([1,1,8,10]:List Int).getD j 0) rfl H1.out _ 4 4 (b4 v) rfl S1.out (by omega) B1.out.size ?_;intro A' c' w3 h1 h2 h3 h4 h5 h6;have H3:=hid h1;have B3:=hid (B1.out.trans h4);clear h1 h2 h3 h4 h5 h6 H1 S1 B1)
 refine(rI e _ he _ rfl).mono ?_
 rintro r w4 ⟨rfl,s4,hb4⟩
 have B4:=hid (B3.out.trans (hb4.mono B3.out.size))
 have H4:=hid (Ow.keep H3.out hb4 (Nat.le_refl _))
 have S4:=hid s4
 clear hb4 s4 H3 B3
 go_wp2_with (at_builtin;refine dM rfl (.tmp 8) (.tmp 10) rfl w.heap.size _ 8 _ rfl H4.out _ 4 4 (b4 e) rfl S4.out (by omega) B4.out.size ?_;intro A2 c2 w5 h1 h2 h3 h4 h5 h6;have H5:=hid h1;have B5:=hid (B4.out.trans h4);clear h1 h2 h3 h4 h5 h6 H4 S4 B4)
 go_ret
 exact⟨A2,c2,rfl,H5.out.fQ fun j hj=>congrArg _ (mk_eq v e j hj),B5.out⟩
section
variable {S:List Nat}{W w w':World}{L A B:List Th}{t:Th}
theorem HS.sB (h:HS S W w (A++t::B))(t' u:Th)(hbs:t'.bs=t.bs)(hc:Ch t.bs w w')(ht:t'.at_ w')(hu:u.at_ w')(hn:u.bs.Nodup)(hg:∀b,b∈u.bs→w.heap.size≤b):HS S W w' (u::(A++t'::B)):=by
 have h1:=h.upd t' hbs hc ht
 have hb2:(A++t'::B).flatMap Th.bs=(A++t::B).flatMap Th.bs:=by simp[hbs]
 have hlt:∀b,b∈(A++t'::B).flatMap Th.bs→b<w.heap.size:=fun b hb=>by
  rw[hb2]at hb
  obtain ⟨x,hx,hxb⟩:=List.mem_flatMap.1 hb
  exact x.lt w (h.1 x hx) b hxb
 refine⟨fun x hx=>?_,h1.2.1,?_,fun b hb=>?_⟩
 ·rcases List.mem_cons.1 hx with rfl |hx
  ·exact hu
  exact h1.1 x hx
 ·rw[List.flatMap_cons,List.nodup_append]
  refine⟨hn,h1.2.2.1,fun a ha b hb e=>?_⟩
  subst e
  have:=hlt a hb
  have:=hg a ha
  omega
 rw[List.flatMap_cons]at hb
 rcases List.mem_append.1 hb with hb |hb
 ·exact .inr (Nat.le_trans h.jf (hg b hb))
 exact h1.2.2.2 b hb
theorem uP {w:World}{k n c:Nat}{A:Option Addr}{e:TypeId}{z:Nat}{f:Nat→Value}(h:Ow w k e z (.slice A n c) n f):n≤c:=by
 obtain ⟨A',c',e,h1,_,_⟩:=h.aF
 injection e with e1 e2 e3
 omega
def bS (v:Value)(n:Nat)(f:Nat→Int):Th:=bU 0 5 1 v n (fun j=>.int .u8 (f j))
theorem rv (v:Value)(n:Nat)(f:Nat→Int):(bS v n f).bs.Nodup:=by
 unfold bS bU
 dsimp only
 cases v.ownBlock <;> simp
theorem rx {v:Value}{n:Nat}{f:Nat→Int}{k:Nat}(hO:OB w' k v n f):∀b,b∈(bS v n f).bs→k≤b:=fun b hb=>(World.ownsRow.lt hO b (by simpa [bS,bU]using hb)).1
theorem HS.qZ {v:Value}{n:Nat}{f:Nat→Int}(h:HS S W w L)(hb:Below w.heap.size w w')(hO:OB w' w.heap.size v n f):HS S W w' (bS v n f::L):=
 h.new (bS v n f) hb (OB.base hO (Nat.zero_le _)) (rv v n f) (rx hO)
theorem HS.fh {X:Option Addr}{n c:Nat}{f:Nat→Int}(h:HS S W w L)(k:Nat)(hk:L[k]? = some (bS (.slice X n c) n f)):By w X n f:=Ow.sl1 (show Ow w 0 5 1 (.slice X n c) n (fun j=>.int .u8 (f j)) from h.nth k hk)
theorem Fx {k:Nat}{O D:Value}{no nd:Nat}{go gd:Nat→Int}:(dN k O D no nd go gd).bs.Nodup:=by
 dsimp only[dN]
 exact qYP
theorem HS.newP {O D:Value}{no nd:Nat}{go gd:Nat→Int}(h:HS S W w L)(hb:Below w.heap.size w w')(hO:OB w' w.heap.size O no go)(hD:OB w' w.heap.size D nd gd):HS S W w' (dN 0 O D no nd go gd::L):=by
 refine h.new (dN 0 O D no nd go gd) hb ⟨OB.base hO (Nat.zero_le _),OB.base hD (Nat.zero_le _)⟩ Fx (fun b hbb=>?_)
 dsimp only[dN]at hbb
 split at hbb
 ·exact(World.ownsRow.lt hO b (by simpa using hbb)).1
 rcases List.mem_append.1 hbb with hbb |hbb
 ·exact(World.ownsRow.lt hO b (by simpa using hbb)).1
 exact(World.ownsRow.lt hD b (by simpa using hbb)).1
theorem HS.Jp {X Y:Option Addr}{no nd c d:Nat}{go gd:Nat→Int}(h:HS S W w L)(k:Nat)(hk:L[k]? = some (dN 0 (.slice X no c) (.slice Y nd d) no nd go gd)):By w X no go∧By w Y nd gd:=
 ⟨Ow.sl1 (show Ow w 0 5 1 (.slice X no c) no (fun j=>.int .u8 (go j)) from (h.nth k hk).1),Ow.sl1 (show Ow w 0 5 1 (.slice Y nd d) nd (fun j=>.int .u8 (gd j)) from (h.nth k hk).2)⟩
def fX (sb wb:Nat)(p:Pl):Th:=⟨fun w=>iM w sb wb p,if sb=wb then [sb] else [sb,wb],
 fun w w' h e=>by
  have e1:w'.heap[sb]? = w.heap[sb]? :=e sb (by split <;> simp)
  have e2:w'.heap[wb]? = w.heap[wb]? :=e wb (by split;rename_i h;rw[h];simp;simp)
  exact⟨(aD sb 330 (pc p)).keep w w' h.pl (fun b hb=>by simp[aD]at hb;subst hb;exact e1),(World.cell?_of_block (a:=⟨sb,330,none⟩) e1).trans h.sl,(fM wb (cF p)).keep w w' h.wh (fun b hb=>by simp[fM]at hb;subst hb;exact e2)⟩,
 fun w h b hb=>by
  split at hb
  ·simp at hb;subst hb;exact h.pl.1
  simp at hb
  rcases hb with rfl |rfl
  ·exact h.pl.1
  exact h.wh.1⟩
theorem HS.st {sb wb:Nat}{p:Pl}(h:HS S W w L)(k:Nat)(hk:L[k]? = some (fX sb wb p)):iM w sb wb p:=h.nth k hk
end
theorem vD {S:List Nat}{W w:World}{A B:List Th}{pb:Nat}{X:Option Addr}{up:Bool}{nr:Nat→Option Int}(hS:HS S W w (A++aD pb 130 (fY X up (rO nr))::B))(q:Pl)(hq:Pw q) :
 Calls Tryz.prog 12 #[.pointer (some ⟨pb,0,none⟩),.agg (FA 330 (pc q))] w fun x w'=>x =.returned (.tuple #[])∧∃sb wb,(pb≠sb∧pb≠wb)∧HS S W w' (fX sb wb q::(A++aD pb 130 (dw sb nr)::B)):=by
 have hF:Fb w pb 130 (fY X up (rO nr)):=hS.1 (aD pb 130 (fY X up (rO nr))) (by simp)
 refine(Dy hF q hq).mono ?_
 rintro x w' ⟨rfl,sb,wb,hF2,hSt,hne,hch,g1,g2⟩
 refine⟨rfl,sb,wb,hne,hS.sB (aD pb 130 (dw sb nr)) (fX sb wb q) rfl hch hF2 hSt ?_ ?_⟩
 ·dsimp only[fX]
  split
  ·simp
  rename_i h;simp[h]
 intro b hb
 dsimp only[fX]at hb
 split at hb
 ·simp at hb;omega
 simp at hb;rcases hb with rfl |rfl <;> omega
theorem qYQ{P:Prop}(h:P:=by
 rintro e w' ⟨X',c',rfl,hO,hc',hF2,hch⟩
 exact⟨X',c',rfl,hS.sB (aD pb 130 (dw sb (cY p true nr g n).nr)) (bS _ _ _) rfl hch hF2 (OB.base hO (Nat.zero_le _)) (rv _ _ _) (rx hO),hc'⟩
 ):P:=h
theorem Jk {S:List Nat}{W w:World}{A B:List Th}{pb sb wb:Nat}{nr:Nat→Option Int}{p:Pl}(hS:HS S W w (A++aD pb 130 (dw sb nr)::B))(hSt:iM w sb wb p)(hne:pb≠sb∧pb≠wb)(hp:Pt p)(hnr:iP nr)(g:Nat→Int)(n c:Nat)(X:Option Addr)(hg:aC g)(hn:n≤1000000)(h3:az g n=0→g 0≠3)(hX:By w X n g)(hc:n≤c)(t:To)(ht:cY p true nr g n=t) :
 Calls Tryz.prog 16 #[.pointer (some ⟨pb,0,none⟩),.slice X n c] w fun e w'=>∃X' c',e =.returned (.agg #[t.d,t.s,t.c,.slice X' t.n c'])∧HS S W w' (bS (.slice X' t.n c') t.n t.f::(A++aD pb 130 (dw sb t.nr)::B))∧t.n≤c':=by
 have hF:Fb w pb 130 (dw sb nr):=hS.1 (aD pb 130 (dw sb nr)) (by simp)
 subst ht
 refine(uJ p pb sb wb nr g n c X w hg hn h3 hp hnr hF hne hSt hX hc).mono ?_
 exact qYQ
end Go.Proofs.YtalnfkijiehjhaaGreat
