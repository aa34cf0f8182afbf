/- Build and Parse of packets that are told by their fields. Stamps are made. Units, rows of bytes and packets as things; the functions by things. -/
import Derived.Test.YtgfonkagnambiaaGreatGa
import Derived.Test.YtgfonkagnambiaaGreatTpk
import Derived.Test.YtgfonkagnambiaaGreatGwd
import Derived.BigQuiet
import Derived.Deep.RegionHeld3
import Derived.Deep.Cut
import Derived.Test.YtgfonkagnambiaaGreatGo
import Derived.IntWalk
namespace Go.Proofs.YtgfonkagnambiaaGreat
set_option linter.unusedVariables false
set_option linter.unusedSimpArgs false
open Go.RowKit Go.ChangeShapes Go.WideShapes Go.ChangeAt
theorem Da (p:Pk)(L:Nat)(F:Nat→Int)(hL:L=aG p)(hF:F=aD p)(hE:ax p=0)(hgo:az p.go)(hgd:az p.gd)(h1:p.no≤1000000)(h2:p.nd≤1000000)(AO:Option Addr)(cO:Nat)(AD:Option Addr)(cD:Nat)(w:World)(HO:By w AO p.no p.go)(HD:By w AD p.nd p.gd) :
 Calls Tryz.prog 12 #[.agg #[p.kind,p.life,p.piece,p.src,p.dst,p.fp,p.tp,p.flags,p.label,p.bare,p.code,.slice AO p.no cO,.slice AD p.nd cD]] w fun e w'=>∃A c,e =.returned (.tuple #[.slice A L c,()])∧OB w' w.heap.size (.slice A L c) L F∧L≤c∧Below w.heap.size w w':=by
 subst hL hF
 have h:=mX p AO cO AD cD w HO HD hgo hgd h1 h2
 rw[hE]at h
 exact h.mono fun e w' h=>nu h
theorem BX (k:IntKind)(l:List Int){w:World}{t:TypeId}{b:Nat}{cs:Array Value}{n:Nat}(hcs:cs=(l.map (Value.int k)).toArray)(hn:n=l.length)(hb:w.heap.size=b):Sl (w.alloc (.cells cs t)) (some ⟨b,0,none⟩) n (fun j=>.int k (l.getD j 0)):=by
 subst hcs;subst hn;exact fW k l hb
theorem oW (z:Int)(w:World)(hz:eA z)(k:Nat)(hk:w.heap.size=k) :
 Calls Tryz.prog 95 #[.int .u32 z] w fun e w'=>e =.returned (.slice (some ⟨k,0,none⟩) 4 4)∧Sl w' (some ⟨k,0,none⟩) 4 (fun j=>.int .u8 (b4 z j))∧Below w.heap.size w w':=by
 subst hk
 unfold eA at hz
 obtain ⟨hz1,hz2⟩:=hz
 go_enter Tryz.func95,Tryz.ntmps95
 go_wp2
 go_ret
 exact⟨rfl,BX .u8 (yi z) rfl rfl rfl,(Below.refl _ _).alloc (Nat.le_refl _) _⟩
def Stamped (v e:Int)(w:World)(r:Ending)(w':World):Prop:=
 ∃(A':Option Addr) (c':Nat),r =.returned (.slice A' 12 c')∧Ow w' w.heap.size 5 1 (.slice A' 12 c') 12 (fun j=>.int .u8 (lE v e j))∧Below w.heap.size w w'
theorem mk_eq (v e:Int)(j:Nat)(hj:j<12):(if j<4+4 then (if j<4 then ([1,1,8,10]:List Int).getD j 0 else b4 v (j-4)) else b4 e (j-(4+4)))=lE v e j:=by
 rcases (by omega:j=0∨j=1∨j=2∨j=3∨j=4∨j=5∨j=6∨j=7∨j=8∨j=9∨j=10∨j=11) with rfl |rfl |rfl |rfl |rfl |rfl |rfl |rfl |rfl |rfl |rfl |rfl <;> rfl
theorem Ow.Jv {w:World}{B g:Nat}{e:TypeId}{k:IntKind}(l:List Int){cs:Array Value}{n:Nat}(hcs:cs=(l.map (Value.int k)).toArray)(hn:n=l.length)(hg:w.heap.size=g)(hB:B≤g)(hm:l.length≤maxLen) :
 Ow (w.alloc (.cells cs e)) B e 1 (.slice (some ⟨g,0,none⟩) n n) n (fun j=>.int k (l.getD j 0)):=by
 subst hcs;subst hn;exact Ow.lit l hg hB hm
theorem lr (v e:Int)(w:World)(hv:eA v)(he:eA e):Calls Tryz.prog 37 #[.int .u32 v,.int .u32 e] w (Stamped v e w):=by
 have h0:=hid (Ow.Jv (w:=w) (B:=w.heap.size) (g:=w.heap.size) (e:=5) (k:=.u8) [1,1,8,10] (cs:=#[.int .u8 1,.int .u8 1,.int .u8 8,.int .u8 10]) (n:=4) rfl rfl rfl (Nat.le_refl _) (by decide))
 go_enter Tryz.func37,Tryz.ntmps37
 go_wp2_with fail
 refine(oW v _ hv (w.heap.size+1) (by simp)).mono ?_
 rintro r w1 ⟨rfl,s1,hb1⟩
 have B1:=hid (((Below.refl w.heap.size w).alloc (Nat.le_refl _) _).trans (hb1.mono (by simp)))
 have H1:=hid (Ow.keep h0.out hb1 (Nat.le_refl _))
 have S1:=hid s1
 clear h0 hb1 s1
 go_wp2_with (at_builtin;refine cX rfl (.tmp 5) (.tmp 7) rfl w.heap.size _ 4 (fun j=>([1,1,8,10]:List Int).getD j 0) rfl H1.out _ 4 4 (b4 v) rfl S1.out (by omega) B1.out.size ?_;intro A' c' w3 h1 h2 h3 h4 h5 h6;have H3:=hid h1;have B3:=hid (B1.out.trans h4);clear h1 h2 h3 h4 h5 h6 H1 S1 B1)
 refine(oW e _ he _ rfl).mono ?_
 rintro r w4 ⟨rfl,s4,hb4⟩
 have B4:=hid (B3.out.trans (hb4.mono B3.out.size))
 have H4:=hid (Ow.keep H3.out hb4 (Nat.le_refl _))
 have S4:=hid s4
 clear hb4 s4 H3 B3
 go_wp2_with (at_builtin;refine cX rfl (.tmp 8) (.tmp 10) rfl w.heap.size _ 8 _ rfl H4.out _ 4 4 (b4 e) rfl S4.out (by omega) B4.out.size ?_;intro A2 c2 w5 h1 h2 h3 h4 h5 h6;have H5:=hid h1;have B5:=hid (B4.out.trans h4);clear h1 h2 h3 h4 h5 h6 H4 S4 B4)
 go_ret
 exact⟨A2,c2,rfl,H5.out.fN fun j hj=>congrArg _ (mk_eq v e j hj),B5.out⟩
section
variable {S:List Nat}{W w w':World}{L A B:List Th}{t:Th}
theorem HS.Dv (h:HS S W w (A++t::B))(t' u:Th)(hbs:t'.bs=t.bs)(hc:Ch t.bs w w')(ht:t'.at_ w')(hu:u.at_ w')(hn:u.bs.Nodup)(hg:∀b,b∈u.bs→w.heap.size≤b):HS S W w' (u::(A++t'::B)):=by
 have h1:=h.upd t' hbs hc ht
 have hb2:(A++t'::B).flatMap Th.bs=(A++t::B).flatMap Th.bs:=by simp[hbs]
 have hlt:∀b,b∈(A++t'::B).flatMap Th.bs→b<w.heap.size:=fun b hb=>by
  rw[hb2]at hb
  obtain ⟨x,hx,hxb⟩:=List.mem_flatMap.1 hb
  exact x.lt w (h.1 x hx) b hxb
 refine⟨fun x hx=>?_,h1.2.1,?_,fun b hb=>?_⟩
 ·rcases List.mem_cons.1 hx with rfl |hx
  ·exact hu
  exact h1.1 x hx
 ·rw[List.flatMap_cons,List.nodup_append]
  refine⟨hn,h1.2.2.1,fun a ha b hb e=>?_⟩
  subst e
  have:=hlt a hb
  have:=hg a ha
  omega
 rw[List.flatMap_cons]at hb
 rcases List.mem_append.1 hb with hb |hb
 ·exact .inr (Nat.le_trans h.i6 (hg b hb))
 exact h1.2.2.2 b hb
theorem rG {w:World}{k n c:Nat}{A:Option Addr}{e:TypeId}{z:Nat}{f:Nat→Value}(h:Ow w k e z (.slice A n c) n f):n≤c:=by
 obtain ⟨A',c',e,h1,_,_⟩:=h.bp
 injection e with e1 e2 e3
 omega
def cT (v:Value)(n:Nat)(f:Nat→Int):Th:=cI 0 5 1 v n (fun j=>.int .u8 (f j))
theorem wD (v:Value)(n:Nat)(f:Nat→Int):(cT v n f).bs.Nodup:=by
 unfold cT cI
 dsimp only
 cases v.ownBlock <;> simp
theorem wE {v:Value}{n:Nat}{f:Nat→Int}{k:Nat}(hO:OB w' k v n f):∀b,b∈(cT v n f).bs→k≤b:=fun b hb=>(World.ownsRow.lt hO b (by simpa [cT,cI]using hb)).1
theorem HS.ou {v:Value}{n:Nat}{f:Nat→Int}(h:HS S W w L)(hb:Below w.heap.size w w')(hO:OB w' w.heap.size v n f):HS S W w' (cT v n f::L):=
 h.new (cT v n f) hb (OB.base hO (Nat.zero_le _)) (wD v n f) (wE hO)
theorem HS.fe {X:Option Addr}{n c:Nat}{f:Nat→Int}(h:HS S W w L)(k:Nat)(hk:L[k]? = some (cT (.slice X n c) n f)):By w X n f:=Ow.sl1 (show Ow w 0 5 1 (.slice X n c) n (fun j=>.int .u8 (f j)) from h.nth k hk)
theorem BG {k:Nat}{O D:Value}{no nd:Nat}{go gd:Nat→Int}:(ey k O D no nd go gd).bs.Nodup:=by
 dsimp only[ey]
 split
 ·cases O.ownBlock <;> simp
 rename_i hne
 cases h1:O.ownBlock <;> cases h2:D.ownBlock <;> simp
 intro e;exact hne (by rw[h1,h2,e])
theorem HS.newP {O D:Value}{no nd:Nat}{go gd:Nat→Int}(h:HS S W w L)(hb:Below w.heap.size w w')(hO:OB w' w.heap.size O no go)(hD:OB w' w.heap.size D nd gd):HS S W w' (ey 0 O D no nd go gd::L):=by
 refine h.new (ey 0 O D no nd go gd) hb ⟨OB.base hO (Nat.zero_le _),OB.base hD (Nat.zero_le _)⟩ BG (fun b hbb=>?_)
 dsimp only[ey]at hbb
 split at hbb
 ·exact(World.ownsRow.lt hO b (by simpa using hbb)).1
 rcases List.mem_append.1 hbb with hbb |hbb
 ·exact(World.ownsRow.lt hO b (by simpa using hbb)).1
 exact(World.ownsRow.lt hD b (by simpa using hbb)).1
def jD (sb wb:Nat)(p:Pl):Th:=⟨fun w=>gG w sb wb p,if sb=wb then [sb] else [sb,wb],
 fun w w' h e=>by
  have e1:w'.heap[sb]? = w.heap[sb]? :=e sb (by split <;> simp)
  have e2:w'.heap[wb]? = w.heap[wb]? :=e wb (by split;rename_i h;rw[h];simp;simp)
  exact⟨(aM sb 330 (pc p)).keep w w' h.pl (fun b hb=>by simp[aM]at hb;subst hb;exact e1),(World.cell?_of_block (a:=⟨sb,330,none⟩) e1).trans h.sl,(qa wb (fi p)).keep w w' h.wh (fun b hb=>by simp[qa]at hb;subst hb;exact e2)⟩,
 fun w h b hb=>by
  split at hb
  ·simp at hb;subst hb;exact h.pl.1
  simp at hb
  rcases hb with rfl |rfl
  ·exact h.pl.1
  exact h.wh.1⟩
theorem HS.st {sb wb:Nat}{p:Pl}(h:HS S W w L)(k:Nat)(hk:L[k]? = some (jD sb wb p)):gG w sb wb p:=h.nth k hk
end
theorem sF {S:List Nat}{W w:World}{A B:List Th}{pb:Nat}{X:Option Addr}{up:Bool}{nr:Nat→Option Int}(hS:HS S W w (A++aM pb 130 (g6 X up (nS nr))::B))(q:Pl)(hq:Pw q) :
 Calls Tryz.prog 7 #[.pointer (some ⟨pb,0,none⟩),.agg (FA 330 (pc q))] w fun x w'=>x =.returned (.tuple #[])∧∃sb wb,(pb≠sb∧pb≠wb)∧HS S W w' (jD sb wb q::(A++aM pb 130 (dv sb nr)::B)):=by
 have hF:Fb w pb 130 (g6 X up (nS nr)):=hS.1 (aM pb 130 (g6 X up (nS nr))) (by simp)
 refine(rW hF q hq).mono ?_
 rintro x w' ⟨rfl,sb,wb,hF2,hSt,hne,hch,g1,g2⟩
 refine⟨rfl,sb,wb,hne,hS.Dv (aM pb 130 (dv sb nr)) (jD sb wb q) rfl hch hF2 hSt ?_ ?_⟩
 ·dsimp only[jD]
  split
  ·simp
  rename_i h;simp[h]
 intro b hb
 dsimp only[jD]at hb
 split at hb
 ·simp at hb;omega
 simp at hb;rcases hb with rfl |rfl <;> omega
theorem CZ {S:List Nat}{W w:World}{L:List Th}(hS:HS S W w L)(p:Pk)(n:Nat)(F:Nat→Int)(hL:n=aG p)(hF:F=aD p)(hE:ax p=0)(hgo:az p.go)(hgd:az p.gd)(h1:p.no≤1000000)(h2:p.nd≤1000000)(AO:Option Addr)(cO:Nat)(AD:Option Addr)(cD:Nat)(HO:By w AO p.no p.go)(HD:By w AD p.nd p.gd) :
 Calls Tryz.prog 12 #[.agg #[p.kind,p.life,p.piece,p.src,p.dst,p.fp,p.tp,p.flags,p.label,p.bare,p.code,.slice AO p.no cO,.slice AD p.nd cD]] w fun e w'=>∃A c,e =.returned (.tuple #[.slice A n c,()])∧HS S W w' (cT (.slice A n c) n F::L)∧n≤c:=by
 refine(Da p n F hL hF hE hgo hgd h1 h2 AO cO AD cD w HO HD).mono ?_
 rintro e w' ⟨A,c,rfl,hO,hc,hb⟩
 exact⟨A,c,rfl,hS.ou hb hO,hc⟩
end Go.Proofs.YtgfonkagnambiaaGreat
