/- The reference's All. Pools and rows of entries that are held while an order is open. Pools and blocks of cells that are held; an entry that is an argument. Rows of entries of the call's own. Blocks of cells told by a function; what changes in some blocks alone. Things that lie in blocks of their own, and what each operation does to them. A row of the call's own as a thing; append as an operation on things. Small blocks, cell by cell, as things. -/
import Derived.Test.YtalnfkijiehjhaaGreatGa
import Derived.Test.YtalnfkijiehjhaaGreatPolMake
import Derived.Deep.CutRange
import Derived.BigQuiet
import Derived.Deep.RegionHeld3
import Derived.Deep.Cut
import Derived.Deep.Upon
import Derived.IntWalk
namespace Go.Proofs.YtalnfkijiehjhaaGreat
set_option linter.unusedVariables false
set_option linter.unusedSimpArgs false
open Go.RowKit Go.ChangeShapes Go.WideShapes Go.ChangeAt
def TS (W w:World)(L:List (Nat×Pl))(A:Option Addr)(n:Nat)(g:Nat→En):Prop:=(∀x,x∈L→au w x.1 x.2)∧Se w A n g∧Below W.heap.size W w
section
variable {W w w':World}{L:List (Nat×Pl)}{A:Option Addr}{n:Nat}{g:Nat→En}
theorem TS.get (h:TS W w L A n g){b:Nat}{p:Pl}(hx:(b,p)∈L):au w b p:=h.1 (b,p) hx
theorem TS.below (h:TS W w L A n g)(hb:Below w.heap.size w w'):TS W w' L A n g:=⟨fun x hx=>(h.1 x hx).below hb,Se.below h.2.1 hb (Nat.le_refl _),h.2.2.trans (hb.mono h.2.2.size)⟩
theorem TS.alloc (h:TS W w L A n g)(o:Obj):TS W (w.alloc o) L A n g:=h.below ((Below.refl _ _).alloc (Nat.le_refl _) o)
theorem TS.drew (h:TS W w L A n g):TS W w.drew L A n g:=⟨fun x hx=>(h.1 x hx).drew,Sl.drew h.2.1,h.2.2.drew⟩
theorem TS.cons (h:TS W w L A n g){b:Nat}{p:Pl}(hp:au w b p):TS W w ((b,p)::L) A n g:=
 ⟨fun x hx=>by rcases List.mem_cons.1 hx with e |hx;(rw[e];exact hp);exact h.1 x hx,h.2.1,h.2.2⟩
theorem TS.less (h:TS W w L A n g){L':List (Nat×Pl)}(hl:∀x,x∈L'→x∈L):TS W w L' A n g:=⟨fun x hx=>h.1 x (hl x hx),h.2.1,h.2.2⟩
theorem TS.sets {b off:Nat}(h:TS W w L (some ⟨b,off,none⟩) n g){c o:Nat}{vs:List Value}(hL:∀x,x∈L→c≠x.1)(hb:b≠c)(hc:W.heap.size≤c):TS W (w.setCells c o vs) L (some ⟨b,off,none⟩) n g:=
 ⟨fun x hx=>(h.1 x hx).others (hL x hx),Sl.sets h.2.1 (fun ad e _=>by injection e with e;subst e;exact hb),h.2.2.trans (aH c vs o w _ hc)⟩
theorem TS.ne (h:TS W w L A n g):∀x,x∈L→w.heap.size≠x.1:=fun x hx=>Nat.ne_of_gt (h.1 x hx).1
end
attribute [local irreducible] PA
end Go.Proofs.YtalnfkijiehjhaaGreat
namespace Go.Proofs.YtalnfkijiehjhaaGreat
set_option linter.unusedVariables false
set_option linter.unusedSimpArgs false
open Go.RowKit Go.ChangeShapes Go.WideShapes Go.ChangeAt
def SG (W w:World)(L:List (Nat×Pl))(E:List (Nat×Nat×(Nat→En))):Prop:=(∀x,x∈L→au w x.1 x.2)∧(∀x,x∈E→Se w (some ⟨x.1,0,none⟩) x.2.1 x.2.2)∧Below W.heap.size W w
section
variable {W w w':World}{L:List (Nat×Pl)}{E:List (Nat×Nat×(Nat→En))}
theorem SG.get (h:SG W w L E){b:Nat}{p:Pl}(hx:(b,p)∈L):au w b p:=h.1 (b,p) hx
theorem SG.bl (h:SG W w L E):Below W.heap.size W w:=h.2.2
theorem SG.start (h:Below W.heap.size W w):SG W w [] []:=⟨fun x hx=>absurd hx (by simp),fun x hx=>absurd hx (by simp),h⟩
theorem SG.below (h:SG W w L E)(hb:Below w.heap.size w w'):SG W w' L E:=⟨fun x hx=>(h.1 x hx).below hb,fun x hx=>Se.below (h.2.1 x hx) hb (Nat.le_refl _),h.2.2.trans (hb.mono h.2.2.size)⟩
theorem SG.alloc (h:SG W w L E)(o:Obj):SG W (w.alloc o) L E:=h.below ((Below.refl _ _).alloc (Nat.le_refl _) o)
theorem SG.drew (h:SG W w L E):SG W w.drew L E:=⟨fun x hx=>(h.1 x hx).drew,fun x hx=>Sl.drew (h.2.1 x hx),h.2.2.drew⟩
theorem SG.cons (h:SG W w L E){b:Nat}{p:Pl}(hp:au w b p):SG W w ((b,p)::L) E:=
 ⟨fun x hx=>by rcases List.mem_cons.1 hx with e |hx;(rw[e];exact hp);exact h.1 x hx,h.2.1,h.2.2⟩
theorem SG.row (h:SG W w L E){b n:Nat}{g:Nat→En}(hp:Se w (some ⟨b,0,none⟩) n g):SG W w L ((b,n,g)::E):=
 ⟨h.1,fun x hx=>by rcases List.mem_cons.1 hx with e |hx;(rw[e];exact hp);exact h.2.1 x hx,h.2.2⟩
theorem SG.less (h:SG W w L E){L':List (Nat×Pl)}(hl:∀x,x∈L'→x∈L):SG W w L' E:=⟨fun x hx=>h.1 x (hl x hx),h.2.1,h.2.2⟩
theorem SG.sets (h:SG W w L E){c o:Nat}{vs:List Value}(hL:∀x,x∈L→c≠x.1)(hE:∀x,x∈E→c≠x.1)(hc:W.heap.size≤c):SG W (w.setCells c o vs) L E:=
 ⟨fun x hx=>(h.1 x hx).others (hL x hx),fun x hx=>Sl.sets (h.2.1 x hx) (fun ad e _=>by injection e with e;subst e;exact fun e=>hE x hx e.symm),h.2.2.trans (aH c vs o w _ hc)⟩
theorem SG.ne (h:SG W w L E):∀x,x∈L→w.heap.size≠x.1:=fun x hx=>Nat.ne_of_gt (h.1 x hx).1
theorem SG.NB (h:SG W w L E)(hp:∀x,x∈E→0<x.2.1):∀x,x∈E→w.heap.size≠x.1:=fun x hx=>Nat.ne_of_gt (Sl.lt (h.2.1 x hx) (by have:=hp x hx;omega))
theorem SG.made (h:SG W w L E){T:TypeId}(p:Pl):SG W (w.alloc (.cells (PA p) T)) ((w.heap.size,p)::L) E:=(h.alloc _).cons (au.made rfl)
theorem SG.put (h:SG W w L E){T:TypeId}(p q:Pl)(hE:∀x,x∈E→0<x.2.1):SG W ((w.alloc (.cells (PA p) T)).setCells w.heap.size 0 (PA q).toList) ((w.heap.size,q)::L) E:=
 (SG.sets (h.alloc _) (SG.ne h) (SG.NB h hE) h.2.2.size).cons ((au.made rfl).whole q)
end
def SH (W w:World)(L:List (Nat×Pl))(C:List (Nat×List Value)):Prop:=(∀x,x∈L→au w x.1 x.2)∧(∀x,x∈C→Ce w x.1 x.2)∧Below W.heap.size W w
section
variable {W w w':World}{L:List (Nat×Pl)}{C:List (Nat×List Value)}{b:Nat}{l:List Value}
theorem SH.get (h:SH W w L C){b:Nat}{p:Pl}(hx:(b,p)∈L):au w b p:=h.1 (b,p) hx
theorem SH.ce (h:SH W w L C){b:Nat}{l:List Value}(hx:(b,l)∈C):Ce w b l:=h.2.1 (b,l) hx
theorem SH.bl (h:SH W w L C):Below W.heap.size W w:=h.2.2
theorem SH.start (h:Below W.heap.size W w):SH W w [] []:=⟨fun x hx=>absurd hx (by simp),fun x hx=>absurd hx (by simp),h⟩
theorem SH.below (h:SH W w L C)(hb:Below w.heap.size w w'):SH W w' L C:=⟨fun x hx=>(h.1 x hx).below hb,fun x hx=>(h.2.1 x hx).below hb,h.2.2.trans (hb.mono h.2.2.size)⟩
theorem SH.alloc (h:SH W w L C)(o:Obj):SH W (w.alloc o) L C:=h.below ((Below.refl _ _).alloc (Nat.le_refl _) o)
theorem SH.drew (h:SH W w L C):SH W w.drew L C:=⟨fun x hx=>(h.1 x hx).drew,fun x hx=>h.2.1 x hx,h.2.2.drew⟩
theorem SH.cons (h:SH W w L C){b:Nat}{p:Pl}(hp:au w b p):SH W w ((b,p)::L) C:=
 ⟨fun x hx=>by rcases List.mem_cons.1 hx with e |hx;(rw[e];exact hp);exact h.1 x hx,h.2.1,h.2.2⟩
theorem SH.cell (h:SH W w L C){b:Nat}{l:List Value}(hp:Ce w b l):SH W w L ((b,l)::C):=
 ⟨h.1,fun x hx=>by rcases List.mem_cons.1 hx with e |hx;(rw[e];exact hp);exact h.2.1 x hx,h.2.2⟩
theorem SH.less (h:SH W w L C){L':List (Nat×Pl)}(hl:∀x,x∈L'→x∈L):SH W w L' C:=⟨fun x hx=>h.1 x (hl x hx),h.2.1,h.2.2⟩
theorem SH.sets (h:SH W w L C){c o:Nat}{vs:List Value}(hL:∀x,x∈L→c≠x.1)(hC:∀x,x∈C→c≠x.1)(hc:W.heap.size≤c):SH W (w.setCells c o vs) L C:=
 ⟨fun x hx=>(h.1 x hx).others (hL x hx),fun x hx=>(h.2.1 x hx).sQ (hC x hx),h.2.2.trans (aH c vs o w _ hc)⟩
theorem SH.ne (h:SH W w L C):∀x,x∈L→w.heap.size≠x.1:=fun x hx=>Nat.ne_of_gt (h.1 x hx).1
theorem SH.NC (h:SH W w L C):∀x,x∈C→w.heap.size≠x.1:=fun x hx=>Nat.ne_of_gt (h.2.1 x hx).1
theorem SH.put (h:SH W w L C){T:TypeId}(p q:Pl):SH W ((w.alloc (.cells (PA p) T)).setCells w.heap.size 0 (PA q).toList) ((w.heap.size,q)::L) C:=
 (SH.sets (h.alloc _) (SH.ne h) (SH.NC h) h.2.2.size).cons ((au.made rfl).whole q)
theorem SH.set1 (h:SH W w [] ((b,l)::C))(j:Nat)(v:Value)(hj:j<l.length)(hC:∀x,x∈C→b≠x.1)(hc:W.heap.size≤b):SH W (w.setCell ⟨b,j,none⟩ v) [] ((b,l.set j v)::C):=
 ⟨fun x hx=>absurd hx (by simp),fun x hx=>by
  rcases List.mem_cons.1 hx with e |hx
  ·rw[e];exact Ce.set (h.2.1 (b,l) (by simp)) j v hj
  exact Ce.i_ (h.2.1 x (List.mem_cons_of_mem _ hx)) (hC x hx),h.2.2.trans (aH b [v] j w _ hc)⟩
end
section
variable {H:Type}{enc:TypeId×Value→H}{w:World}{base:Nat}{spare:Nat→Bool}{held:Bool}
end
def vP (w:World)(B:Nat)(v:Value)(m:Nat)(g:Nat→En):Prop:=Ow w B 77 7 v m (fun j=>enc (g (j/7)) (j%7))
section
variable {W w w':World}{B m:Nat}{v:Value}{g:Nat→En}{L:List (Nat×Pl)}
theorem vP.keep (h:vP w B v m g){D:Nat}(hb:Below D w w')(hD:w.heap.size≤D):vP w' B v m g:=Ow.keep h hb hD
theorem vP.cap {A:Option Addr}{c:Nat}(h:vP w B (.slice A m c) m g):m≤c:=by
 obtain ⟨A',c',hv,hc,_⟩:=Ow.aF h
 injection hv with _ _ h3
 omega
theorem vP.nil:vP w B (.slice none 0 0) 0 g:=Ow.none_
theorem SG.grown (h:SG W w L []){row:Option Nat}{D:Nat}(hg:w.grownBy w' row)(hne:∀x,x∈L→row≠some x.1)(hb:Below D w w')(hD:W.heap.size≤D):SG W w' L []:=
 ⟨fun x hx=>(h.1 x hx).grown hg (hne x hx),fun x hx=>absurd hx (by simp),h.2.2.trans (hb.mono hD)⟩
end
section
variable {w:World}{ops:Array Oper}{rest:List Oper}{o:Oper}{a:Act}{Q:Exit→Act→World→Prop}
end
theorem uN {p:Pl}{g:Nat→En}{k:Nat}{b:Pl}(hb:qT p g k=some b):∀j:Nat,qT p g (k+j)=qT b (fun i=>g (k+i)) j
 |0=>hb
 |j+1=>by
  show qT p g (k+j+1)=_
  unfold qT
  rw[uN hb j]
theorem pS.cut {p:Pl}{g:Nat→En}{n t m:Nat}{b:Pl}{f:Int}(ht:t≤n)(h1:pS p g t b m f):(f≠0→pS p g n b m f)∧∀{c:Pl} {o:Nat} {e:Int},f=0→pS b (fun i=>g (t+i)) (n-t) c o e→pS p g n c (m+o) e:=by
 refine⟨fun hf=>?_,fun {c o e} hf h2=>?_⟩
 ·rcases h1.2 with ⟨_,e⟩ |⟨h3,h4,h5⟩
  ·exact absurd e hf
  exact⟨h1.1,.inr ⟨by omega,h4,h5⟩⟩
 have hm:m=t:=by
  rcases h1.2 with ⟨e,_⟩ |⟨_,_,e⟩
  ·exact e
  exact absurd hf e
 subst hm
 refine⟨by rw[uN h1.1];exact h2.1,?_⟩
 rcases h2.2 with ⟨e1,e2⟩ |⟨h3,h4,h5⟩
 ·exact .inl ⟨by omega,e2⟩
 exact .inr ⟨by omega,h4,h5⟩
def FL (n:Nat)(f:Nat→Value):List Value:=(List.range n).map f
def FA (n:Nat)(f:Nat→Value):Array Value:=(FL n f).toArray
theorem jT (n:Nat)(f:Nat→Value):(FL n f).length=n:=by unfold FL;simp
theorem p9 (n:Nat)(f:Nat→Value):(FA n f).size=n:=by unfold FA;simp[jT]
theorem uv {n:Nat}(f:Nat→Value){j:Nat}(h:j<n):(FL n f)[j]? = some (f j):=by unfold FL;simp[h]
theorem IZ {n:Nat}{f:Nat→Value}(h:∀j,(f j).oneCell'=true):(FA n f).all (·.oneCell')=true:=by
 unfold FA
 refine all_oneCell_toArray fun v hv=>?_
 unfold FL at hv
 simp only[List.mem_map]at hv
 obtain ⟨j,_,rfl⟩:=hv
 exact h j
def Fb (w:World)(b n:Nat)(f:Nat→Value):Prop:=b<w.heap.size∧(∀j,j<n→w.cell? ⟨b,j,none⟩=some (f j))∧∀j,w.frozen? ⟨b,j,none⟩=false
def patch (f:Nat→Value)(o k:Nat)(g:Nat→Value)(j:Nat):Value:=if o≤j∧j<o+k then g (j-o) else f j
theorem gp {w w':World}{b:Nat}(h:b<w.heap.size)(e:w'.heap[b]? = w.heap[b]?):b<w'.heap.size:=by
 rcases Nat.lt_or_ge b w'.heap.size with h2 |h2
 ·exact h2
 rw[Array.getElem?_eq_none h2,Array.getElem?_eq_getElem h]at e;cases e
section
variable {w w':World}{b n:Nat}{f g:Nat→Value}
theorem Fb.same (h:Fb w b n f)(e:w'.heap[b]? = w.heap[b]?):Fb w' b n f:=
 ⟨gp h.1 e,fun j hj=>(World.cell?_of_block (a:=⟨b,j,none⟩) e).trans (h.2.1 j hj),fun j=>(World.frozen?_of_block (a:=⟨b,j,none⟩) e).trans (h.2.2 j)⟩
theorem Fb.below (h:Fb w b n f)(hb:Below w.heap.size w w'):Fb w' b n f:=h.same (hb.block b h.1)
theorem Fb.alloc (h:Fb w b n f)(o:Obj):Fb (w.alloc o) b n f:=h.below ((Below.refl _ _).alloc (Nat.le_refl _) o)
theorem Fb.drewN (h:Fb w b n f)(k:Nat):Fb (w.drewN k) b n f:=h
theorem Fb.drew (h:Fb w b n f):Fb w.drew b n f:=h
theorem Fb.as (h:Fb w b n f)(hg:∀j,j<n→f j=g j):Fb w b n g:=⟨h.1,fun j hj=>by rw[h.2.1 j hj,hg j hj],h.2.2⟩
theorem Fb.made {T:TypeId}{x:Nat}(hx:w.heap.size=x):Fb (w.alloc (.cells (FA n f) T)) x n f:=by
 subst hx
 have h:(w.alloc (.cells (FA n f) T)).heap[w.heap.size]? = some (.cells (FA n f) T (0,0)):=heap_alloc_new w _
 refine⟨by simp,fun j hj=>?_,fun j=>frozen_of_row _ _ _ _ _ h⟩
 rw[cell_of_row _ w.heap.size j _ T (0,0) h]
 unfold FA
 rw[List.getElem?_toArray,uv f hj]
theorem Fb.other (h:Fb w b n f){c o:Nat}{vs:List Value}(hne:c≠b):Fb (w.setCells c o vs) b n f:=
 ⟨by rw[size_setCells];exact h.1,fun i hi=>by rw[World.cell?_setCells_out c vs o w _ (fun e _=>absurd e.symm hne)];exact h.2.1 i hi,fun i=>by rw[World.frozen?_setCells];exact h.2.2 i⟩
theorem Fb.set (h:Fb w b n f)(o k:Nat)(g:Nat→Value)(ho:o+k≤n):Fb (w.setCells b o (FL k g)) b n (patch f o k g):=by
 refine⟨by rw[size_setCells];exact h.1,fun j hj=>?_,fun i=>by rw[World.frozen?_setCells];exact h.2.2 i⟩
 unfold patch
 by_cases hjo:o≤j∧j<o+k
 ·rw[if_pos hjo]
  have:=World.cell?_setCells_in b (FL k g) o w (fun i hi=>by rw[jT]at hi;rw[h.2.1 (o+i) (by omega)];rfl) (j-o) (by rw[jT];omega)
  rw[show o+(j-o)=j by omega]at this
  rw[this]
  have h3:=uv g (show j-o<k by omega)
  rw[List.getElem?_eq_getElem (by rw[jT];omega)]at h3
  exact h3
 rw[if_neg hjo,World.cell?_setCells_out b (FL k g) o w _ (fun _ _=>by rw[jT]at *;simp only;omega),h.2.1 j hj]
theorem Fb.set1 (h:Fb w b n f)(o:Nat)(v:Value)(ho:o<n):Fb (w.setCell ⟨b,o,none⟩ v) b n (patch f o 1 fun _=>v):=h.set o 1 (fun _=>v) ho
theorem qYG{P:Prop}(h:P:=by
 have hl:j<k:=by
  have:=(List.getElem?_eq_some_iff.1 hj).1
  rwa [jT]at this
 rw[uv g hl]at hj
 rw[h.2.1 (o+j) (by omega),hg j hl,hj]
 ):P:=h
theorem Fb.load {T:TypeId}{d:TypeDesc}(h:Fb w b n f)(o k:Nat)(g:Nat→Value)(hok:o+k≤n)(hg:∀j,j<k→f (o+j)=g j)(hu:Tryz.prog.underlying T=some d)(hd:d.isRow=true)(hi:(Tryz.prog.info? T).map (·.size)=some k) :
 (Instr.loadAt T (.pointer (some ⟨b,o,none⟩))).run Tryz.prog w =.ok (.agg (FA k g)) w:=by
 refine run_loadAt_mid w b o T (FL k g) _ (fun j v hj=>?_) hu hd (by rw[jT];exact hi)
 exact qYG
theorem Fb.pY {T:TypeId}{d:TypeDesc}(h:Fb w b n f)(o k:Nat)(g:Nat→Value)(hok:o+k≤n)(hg:∀j,j<k→f (o+j)=g j)(hu:Tryz.prog.underlying T=some d)(hd:d.isRow=true)(hi:(Tryz.prog.info? T).map (·.size)=some k) :
 (loadVar T ⟨b,o,none⟩).run Tryz.prog w =.ok (.agg (FA k g)) w:=by
 refine run_loadVar_mid w b o T (FL k g) _ (fun j v hj=>?_) hu hd (by rw[jT];exact hi)
 exact qYG
theorem Fb.store {T:TypeId}(h:Fb w b n f)(o k:Nat)(g:Nat→Value)(hok:o+k≤n)(hi:(Tryz.prog.info? T).map (·.size)=some k)(h1:∀j,(g j).oneCell'=true) :
 (Instr.storeAt T (.pointer (some ⟨b,o,none⟩)) (.agg (FA k g))).run Tryz.prog w =.ok () (w.setCells b o (FL k g)):=by
 refine run_storeAt_mid w b o T (FA k g) (fun j hj=>?_) (by rw[p9];exact hi) (IZ h1)
 rw[p9]at hj
 rw[h.2.1 (o+j) (by omega)]
 exact⟨rfl,h.2.2 _⟩
theorem Fb.sl (h:Fb w b n f):Sl w (some ⟨b,0,none⟩) n f:=Sl.mk h.1 fun j hj=>by rw[Nat.zero_add];exact h.2.1 j hj
theorem Fb.ce (h:Fb w b n f){l:List Value}(hl:∀j v,l[j]? = some v→j<n∧f j=v):Ce w b l:=⟨h.1,fun j v hj=>by obtain ⟨h1,h2⟩:=hl j v hj;rw[h.2.1 j h1,h2],h.2.2⟩
end
def Ch (S:List Nat)(w w':World):Prop:=(w'.os=w.os∧w'.tape=w.tape∧w'.output=w.output)∧w.heap.size≤w'.heap.size∧∀k,k<w.heap.size→k ∉ S→w'.heap[k]? = w.heap[k]?
section
variable {w w' w2:World}{S:List Nat}
theorem Ch.refl (S:List Nat)(w:World):Ch S w w:=⟨⟨rfl,rfl,rfl⟩,Nat.le_refl _,fun _ _ _=>rfl⟩
theorem Ch.trans (h:Ch S w w')(k:Ch S w' w2):Ch S w w2:=
 ⟨⟨k.1.1.trans h.1.1,k.1.2.1.trans h.1.2.1,k.1.2.2.trans h.1.2.2⟩,Nat.le_trans h.2.1 k.2.1,fun i hi hs=>(k.2.2 i (Nat.lt_of_lt_of_le hi h.2.1) hs).trans (h.2.2 i hi hs)⟩
theorem Ch.of_below (h:Below w.heap.size w w'):Ch S w w':=⟨⟨h.os,h.tape,h.output⟩,h.size,fun k hk _=>h.block k hk⟩
theorem Ch.step {T:List Nat}(h:Ch S w w')(k:Ch T w' w2)(hT:∀i,i∈T→i∈S∨w.heap.size≤i):Ch S w w2:=
 ⟨⟨k.1.1.trans h.1.1,k.1.2.1.trans h.1.2.1,k.1.2.2.trans h.1.2.2⟩,Nat.le_trans h.2.1 k.2.1,fun i hi hs=>(k.2.2 i (Nat.lt_of_lt_of_le hi h.2.1) (fun hm=>by rcases hT i hm with h1 |h1;exact hs h1;omega)).trans (h.2.2 i hi hs)⟩
theorem Ch.then (h:Ch S w w')(k:Below w'.heap.size w' w2):Ch S w w2:=h.trans (.of_below k)
theorem Ch.drewN (h:Ch S w w')(k:Nat):Ch S w (w'.drewN k):=h
theorem Ch.drew (h:Ch S w w'):Ch S w w'.drew:=h
theorem Ch.alloc (h:Ch S w w')(o:Obj):Ch S w (w'.alloc o):=h.then ((Below.refl _ _).alloc (Nat.le_refl _) o)
theorem Ch.below {B:Nat}(h:Ch S w w')(hS:∀k,k∈S→B≤k)(hB:B≤w.heap.size):Below B w w':=
 ⟨h.1.1,h.1.2.1,h.1.2.2,h.2.1,fun k hk=>h.2.2 k (by omega) (fun hs=>by have:=hS k hs;omega)⟩
theorem Ch.mono {S2:List Nat}(h:Ch S w w')(hS:∀k,k∈S→k∈S2∨w.heap.size≤k):Ch S2 w w':=
 ⟨h.1,h.2.1,fun k hk hs=>h.2.2 k hk (fun hm=>by rcases hS k hm with h1 |h1;exact hs h1;omega)⟩
theorem Ch.sets (h:Ch S w w'){c o:Nat}{vs:List Value}(hc:c∈S∨w.heap.size≤c):Ch S w (w'.setCells c o vs):=by
 have k:=aH c vs o w' c (Nat.le_refl _)
 refine⟨⟨k.os.trans h.1.1,k.tape.trans h.1.2.1,k.output.trans h.1.2.2⟩,by rw[size_setCells];exact h.2.1,fun i hi hs=>?_⟩
 have hne:i≠c:=fun e=>by subst e;rcases hc with h1 |h1;exact hs h1;omega
 rw[World.heap_setCells_other w' c o vs (Nat.lt_of_lt_of_le hi h.2.1) hne]
 exact h.2.2 i hi hs
theorem Ch.set1 (h:Ch S w w'){c o:Nat}{v:Value}(hc:c∈S∨w.heap.size≤c):Ch S w (w'.setCell ⟨c,o,none⟩ v):=h.sets (vs:=[v]) hc
theorem Ch.grown (h:Ch S w w'){row:Option Nat}(hg:w'.grownBy w2 row)(hr:∀c,row=some c→c∈S∨w.heap.size≤c):Ch S w w2:=by
 refine⟨⟨hg.os.trans h.1.1,hg.tape.trans h.1.2.1,hg.output.trans h.1.2.2⟩,Nat.le_trans h.2.1 hg.size,fun i hi hs=>?_⟩
 rw[hg.block i (Nat.lt_of_lt_of_le hi h.2.1) (fun e=>by rcases hr i e.symm with h1 |h1;exact hs h1;omega)]
 exact h.2.2 i hi hs
theorem Ch.fb (h:Ch S w w'){b n:Nat}{f:Nat→Value}(hf:Fb w b n f)(hb:b ∉ S):Fb w' b n f:=hf.same (h.2.2 b hf.1 hb)
theorem Ch.pool (h:Ch S w w'){b:Nat}{p:Pl}(hf:au w b p)(hb:b ∉ S):au w' b p:=Fb.same (n:=330) (f:=pc p) hf (h.2.2 b hf.1 hb)
theorem Ch.ce (h:Ch S w w'){b:Nat}{l:List Value}(hf:Ce w b l)(hb:b ∉ S):Ce w' b l:=
 have e:=h.2.2 b hf.1 hb
 ⟨gp hf.1 e,fun j v hj=>(World.cell?_of_block (a:=⟨b,j,none⟩) e).trans (hf.2.1 j v hj),fun j=>(World.frozen?_of_block (a:=⟨b,j,none⟩) e).trans (hf.2.2 j)⟩
theorem Ch.sl (h:Ch S w w'){A:Option Addr}{n:Nat}{f:Nat→Value}(hf:Sl w A n f)(hA:∀ad,A=some ad→0<n→ad.block ∉ S):Sl w' A n f:=by
 intro hn
 obtain ⟨b,off,rfl,hlt,hc⟩:=hf hn
 have e:=h.2.2 b hlt (hA _ rfl hn)
 exact⟨b,off,rfl,gp hlt e,fun j hj=>(World.cell?_of_block (a:=⟨b,off+j,none⟩) e).trans (hc j hj)⟩
end
structure Th where
 at_:World→Prop
 bs:List Nat
 keep:∀w w':World,at_ w→(∀b,b∈bs→w'.heap[b]? = w.heap[b]?)→at_ w'
 lt:∀w:World,at_ w→∀b,b∈bs→b<w.heap.size
def aD (b n:Nat)(f:Nat→Value):Th:=⟨fun w=>Fb w b n f,[b],fun _ _ h e=>h.same (e b (by simp)),fun _ h x hx=>by simp at hx;subst hx;exact h.1⟩
def aw (b:Nat)(l:List Value):Th:=⟨fun w=>Ce w b l,[b],fun _ _ h e=>⟨gp h.1 (e b (by simp)),fun j v hj=>(World.cell?_of_block (a:=⟨b,j,none⟩) (e b (by simp))).trans (h.2.1 j v hj),fun j=>(World.frozen?_of_block (a:=⟨b,j,none⟩) (e b (by simp))).trans (h.2.2 j)⟩,fun _ h x hx=>by simp at hx;subst hx;exact h.1⟩
def HS (S:List Nat)(W w:World)(L:List Th):Prop:=(∀t,t∈L→t.at_ w)∧Ch S W w∧(L.flatMap Th.bs).Nodup∧∀b,b∈L.flatMap Th.bs→b∈S∨W.heap.size≤b
section
variable {S:List Nat}{W w w':World}{L A B:List Th}{t t':Th}
theorem HS.start:HS S W W []:=⟨fun _ h=>(by cases h),Ch.refl _ _,by simp,fun _ h=>(by simp at h)⟩
theorem HS.zv (t:Th)(ht:t.at_ W)(hn:t.bs.Nodup)(hS:∀b,b∈t.bs→b∈S):HS S W W [t]:=
 ⟨fun x hx=>by simp at hx;subst hx;exact ht,Ch.refl _ _,by simpa using hn,fun b hb=>.inl (hS b (by simpa using hb))⟩
theorem HS.ch (h:HS S W w L):Ch S W w:=h.2.1
theorem HS.nth (h:HS S W w L)(k:Nat)(hk:L[k]? = some t):t.at_ w:=h.1 t (List.mem_of_getElem? hk)
theorem HS.fb {b n:Nat}{f:Nat→Value}(h:HS S W w L)(k:Nat)(hk:L[k]? = some (aD b n f)):Fb w b n f:=h.nth k hk
theorem HS.below (h:HS S W w L)(hb:Below w.heap.size w w'):HS S W w' L:=
 ⟨fun t ht=>t.keep w w' (h.1 t ht) fun b hbb=>hb.block b (t.lt w (h.1 t ht) b hbb),h.2.1.then hb,h.2.2⟩
theorem HS.alloc (h:HS S W w L)(o:Obj):HS S W (w.alloc o) L:=h.below ((Below.refl _ _).alloc (Nat.le_refl _) o)
theorem HS.drew (h:HS S W w L):HS S W w.drew L:=h.below ⟨rfl,rfl,rfl,Nat.le_refl _,fun _ _=>rfl⟩
theorem HS.drewN (h:HS S W w L)(k:Nat):HS S W (w.drewN k) L:=h.below ⟨rfl,rfl,rfl,Nat.le_refl _,fun _ _=>rfl⟩
theorem HS.bl (h:HS [] W w L):Below W.heap.size W w:=h.2.1.below (by simp) (Nat.le_refl _)
theorem HS.jf (h:HS S W w L):W.heap.size≤w.heap.size:=h.2.1.2.1
theorem HS.new (h:HS S W w L)(t:Th)(hb:Below w.heap.size w w')(ht:t.at_ w')(hn:t.bs.Nodup)(hg:∀b,b∈t.bs→w.heap.size≤b):HS S W w' (t::L):=by
 have h':=h.below hb
 refine⟨fun x hx=>?_,h'.2.1,?_,fun b hbb=>?_⟩
 ·rcases List.mem_cons.1 hx with rfl |hx
  ·exact ht
  exact h'.1 x hx
 ·rw[List.flatMap_cons,List.nodup_append]
  refine⟨hn,h.2.2.1,fun a ha b hbb e=>?_⟩
  subst e
  obtain ⟨x,hx,hxa⟩:=List.mem_flatMap.1 hbb
  have h1:=x.lt w (h.1 x hx) a hxa
  have h2:=hg a ha
  omega
 rw[List.flatMap_cons]at hbb
 rcases List.mem_append.1 hbb with h1 |h1
 ·exact .inr (Nat.le_trans h.jf (hg b h1))
 exact h.2.2.2 b h1
theorem HS.upd (h:HS S W w (A++t::B))(t':Th)(hbs:t'.bs=t.bs)(hc:Ch t.bs w w')(ht:t'.at_ w'):HS S W w' (A++t'::B):=by
 obtain ⟨h1,h2,h3,h4⟩:=h
 have hb2:(A++t'::B).flatMap Th.bs=(A++t::B).flatMap Th.bs:=by simp[hbs]
 have hd:∀x,x∈A++B→∀b,b∈x.bs→b ∉ t.bs:=by
  intro x hx b hb hbt
  rw[List.flatMap_append,List.flatMap_cons,List.nodup_append]at h3
  obtain ⟨_,h5,h6⟩:=h3
  rcases List.mem_append.1 hx with hx |hx
  ·exact h6 b (List.mem_flatMap.2 ⟨x,hx,hb⟩) b (List.mem_append.2 (.inl hbt)) rfl
  rw[List.nodup_append]at h5
  exact h5.2.2 b hbt b (List.mem_flatMap.2 ⟨x,hx,hb⟩) rfl
 have hk:∀x,x∈A++B→x.at_ w→x.at_ w':=fun x hx hat=>x.keep w w' hat fun b hb=>hc.2.2 b (x.lt w hat b hb) (hd x hx b hb)
 refine⟨fun x hx=>?_,?_,by rw[hb2];exact h3,by rw[hb2];exact h4⟩
 ·rcases List.mem_append.1 hx with hx |hx
  ·exact hk x (List.mem_append.2 (.inl hx)) (h1 x (List.mem_append.2 (.inl hx)))
  rcases List.mem_cons.1 hx with rfl |hx
  ·exact ht
  exact hk x (List.mem_append.2 (.inr hx)) (h1 x (List.mem_append.2 (.inr (List.mem_cons_of_mem _ hx))))
 exact h2.step hc fun k hk=>h4 k (List.mem_flatMap.2 ⟨t,by simp,hk⟩)
theorem HS.set {b n:Nat}{f:Nat→Value}(h:HS S W w (A++aD b n f::B))(o k:Nat)(g:Nat→Value)(ho:o+k≤n)(f':Nat→Value)(hf:∀j,j<n→patch f o k g j=f' j):HS S W (w.setCells b o (FL k g)) (A++aD b n f'::B):=by
 have hF:Fb w b n f:=h.1 (aD b n f) (by simp)
 exact h.upd (aD b n f') rfl ((Ch.refl _ _).sets (.inl (by simp[aD]))) ((hF.set o k g ho).as hf)
theorem HS.cells (h:HS S W w L)(l:List Value){T:TypeId}:HS S W (w.alloc (.cells l.toArray T)) (aw w.heap.size l::L):=
 h.new (aw w.heap.size l) ((Below.refl _ _).alloc (Nat.le_refl _) _) (Ce.made rfl) (by simp[aw]) (fun b hb=>by simp[aw]at hb;omega)
theorem HS.ce {b:Nat}{l:List Value}(h:HS S W w L)(k:Nat)(hk:L[k]? = some (aw b l)):Ce w b l:=h.nth k hk
theorem HS.lg {b:Nat}{l:List Value}(h:HS S W w (A++aw b l::B))(j:Nat)(v:Value)(hj:j<l.length):HS S W (w.setCell ⟨b,j,none⟩ v) (A++aw b (l.set j v)::B):=by
 have hF:Ce w b l:=h.1 (aw b l) (by simp)
 exact h.upd (aw b (l.set j v)) rfl ((Ch.refl _ _).set1 (.inl (by simp[aw]))) (Ce.set hF j v hj)
theorem HS.drop (h:HS S W w (A++t::B)):HS S W w (A++B):=by
 obtain ⟨h1,h2,h3,h4⟩:=h
 have hm:∀x,x∈A++B→x∈A++t::B:=fun x hx=>by
  rcases List.mem_append.1 hx with hx |hx
  ·exact List.mem_append.2 (.inl hx)
  exact List.mem_append.2 (.inr (List.mem_cons_of_mem _ hx))
 refine⟨fun x hx=>h1 x (hm x hx),h2,?_,fun b hb=>?_⟩
 ·refine h3.sublist ?_
  rw[List.flatMap_append,List.flatMap_append,List.flatMap_cons]
  exact List.Sublist.append (List.Sublist.refl _) (List.sublist_append_right _ _)
 obtain ⟨x,hx,hxb⟩:=List.mem_flatMap.1 hb
 exact h4 b (List.mem_flatMap.2 ⟨x,hm x hx,hxb⟩)
theorem HS.tail (h:HS S W w (t::L)):HS S W w L:=HS.drop (A:=[]) h
theorem HS.drop2 {a b:Th}(h:HS S W w (a::b::t::L)):HS S W w (a::b::L):=HS.drop (A:=[a,b]) h
theorem HS.drop1 {a:Th}(h:HS S W w (a::t::L)):HS S W w (a::L):=HS.drop (A:=[a]) h
theorem kM (f:Nat→Value)(k:Nat)(g:Nat→Value)(j:Nat)(hj:j<k):patch f 0 k g j=g j:=by unfold patch;rw[if_pos ⟨by omega,by omega⟩];rfl
end
section
variable {S:List Nat}{W w:World}{L A B:List Th}{ops:Array Oper}{rest:List Oper}{Q:Exit→Act→World→Prop}{o:Oper}{a:Act}{K:Act→World→Prop}
theorem ay (hw:Region.wanted o (yielded ops a.tmps)=true)(h:o.wp Tryz.prog a w (wpList Tryz.prog ops Q rest) Q):wpList Tryz.prog ops Q (o::rest) a w:=by
 unfold wpList
 rw[if_pos hw]
 exact .inl h
theorem rJ {v:Value}{w':World}(he:(execOp a.eval o).run Tryz.prog w =.ok (.value v) w')(h:K (a.put o.dst v) w'):o.wp Tryz.prog a w K Q:=by
 unfold Oper.wp;rw[he];exact h
theorem D5 {T:TypeId}{n:Nat}{f:Nat→Value}(ho:o.op =.alloc T)(hz:(zeroValue T).run Tryz.prog w =.ok (.agg (FA n f)) w)(hn:0<n):(execOp a.eval o).run Tryz.prog w =.ok (.value (.pointer (some ⟨w.heap.size,0,none⟩))) (w.alloc (.cells (FA n f) T)):=by
 have h1:(FA n f).size=n:=p9 _ _
 have h2:(FA n f =#[])=False:=eq_false fun h=>by rw[h]at h1;simp at h1;omega
 unfold execOp
 simp only[ho]
 go_simp
theorem I_ {T:TypeId}{x:Operand}{n:Nat}{f:Nat→Value}(ho:o.op =.box T x)(hx:a.eval x =.agg (FA n f))(hn:0<n):(execOp a.eval o).run Tryz.prog w =.ok (.value (.pointer (some ⟨w.heap.size,0,none⟩))) (w.alloc (.cells (FA n f) T)):=by
 have h1:(FA n f).size=n:=p9 _ _
 have h2:(FA n f =#[])=False:=eq_false fun h=>by rw[h]at h1;simp at h1;omega
 unfold execOp
 simp only[ho,hx]
 go_simp
theorem nO {T:TypeId}{n:Nat}{f:Nat→Value}(ho:o.op =.alloc T)(hz:(zeroValue T).run Tryz.prog w =.ok (.agg (FA n f)) w)(hn:0<n)(hS:HS S W w L)
 (h:∀U w',HS S W w' (aD U n f::L)→W.heap.size≤U→K (a.put o.dst (.pointer (some ⟨U,0,none⟩))) w'):o.wp Tryz.prog a w K Q:=
 rJ (D5 ho hz hn) (h _ _ (hS.new (aD w.heap.size n f) ((Below.refl _ _).alloc (Nat.le_refl _) _) (Fb.made rfl) (by simp[aD]) (fun b hb=>by simp[aD]at hb;omega)) hS.jf)
theorem kN {T:TypeId}{x:Operand}{n:Nat}{f:Nat→Value}(ho:o.op =.box T x)(hx:a.eval x =.agg (FA n f))(hn:0<n)(hS:HS S W w L)
 (h:∀U w',HS S W w' (aD U n f::L)→W.heap.size≤U→K (a.put o.dst (.pointer (some ⟨U,0,none⟩))) w'):o.wp Tryz.prog a w K Q:=
 rJ (I_ ho hx hn) (h _ _ (hS.new (aD w.heap.size n f) ((Below.refl _ _).alloc (Nat.le_refl _) _) (Fb.made rfl) (by simp[aD]) (fun b hb=>by simp[aD]at hb;omega)) hS.jf)
theorem iz {T:TypeId}{x:Operand}{d:TypeDesc}{b n:Nat}{f:Nat→Value}(i:Nat)(Oi:L[i]? = some (aD b n f))(off k:Nat)(g:Nat→Value)(ho:o.op =.load T x)(hx:a.eval x =.pointer (some ⟨b,off,none⟩))(hS:HS S W w L)(hok:off+k≤n)(hg:∀j,j<k→f (off+j)=g j)
 (hu:Tryz.prog.underlying T=some d) (hd:d.isRow=true) (hi:(Tryz.prog.info? T).map (·.size)=some k) (h:K (a.put o.dst (.agg (FA k g))) w):o.wp Tryz.prog a w K Q:=
 An (iV ho hx ((hS.fb i Oi).load off k g hok hg hu hd hi)) h
theorem ji {T:TypeId}{x y:Operand}{b n:Nat}{f:Nat→Value}(off k:Nat)(g f':Nat→Value)(ho:o.op =.store T x y)(hx:a.eval x =.pointer (some ⟨b,off,none⟩))(hy:a.eval y =.agg (FA k g))(hS:HS S W w (A++aD b n f::B))(hok:off+k≤n)(hf:∀j,j<n→patch f off k g j=f' j)
 (hi:(Tryz.prog.info? T).map (·.size)=some k) (h1:∀j,(g j).oneCell'=true) (h:∀w',HS S W w' (A++aD b n f'::B)→K (a.put o.dst undef) w'):o.wp Tryz.prog a w K Q:=
 have hF:Fb w b n f:=hS.1 (aD b n f) (by simp)
 eZ ho hx hy (hF.store off k g hok hi h1) (h _ (hS.set off k g hok f' hf))
end
def bU (B:Nat)(e:TypeId)(size:Nat)(v:Value)(n:Nat)(f:Nat→Value):Th:=⟨fun w=>Ow w B e size v n f,v.ownBlock.toList,fun w w' h hb=>by
    refine⟨h.1,?_⟩
    rcases h.2 with hn |⟨g,cap,cur,rfl,hg,hgg,rest⟩
    ·exact .inl hn
    exact .inr ⟨g,cap,cur,rfl,hg,(hb g (by simp[Value.ownBlock])).trans hgg,rest⟩,fun w h b hb=>(World.ownsRow.lt h b (by simpa using hb)).2⟩
section
variable {S:List Nat}{W w w':World}{L A:List Th}{B:Nat}{e:TypeId}{size n n':Nat}{v v':Value}{f f':Nat→Value}
theorem HS.row (h:HS S W w (A++bU B e size v n f::L)):Ow w B e size v n f:=h.1 (bU B e size v n f) (by simp)
variable {Q:Exit→Act→World→Prop}{o:Oper}{a:Act}{K:Act→World→Prop}
end
section
variable {S:List Nat}{W w w':World}{L A:List Th}{m:Nat}{v:Value}{g:Nat→En}{Q:Exit→Act→World→Prop}{o:Oper}{a:Act}{K:Act→World→Prop}
end
set_option maxRecDepth 100000
theorem Ce.store_ {w:World}{b:Nat}{l:List Value}{T:TypeId}(h:Ce w b l)(vs:List Value)(hl:vs.length=l.length)(hi:(Tryz.prog.info? T).map (·.size)=some vs.length)(h1:vs.all (·.oneCell')=true) :
 (Instr.storeAt T (.pointer (some ⟨b,0,none⟩)) (.agg vs.toArray)).run Tryz.prog w =.ok () (w.setCells b 0 vs)∧Ce (w.setCells b 0 vs) b vs:=by
 have hc:∀j,j<vs.length→∃v,w.cell? ⟨b,j,none⟩=some v:=fun j hj=>⟨l[j]'(by omega),h.2.1 j _ (List.getElem?_eq_getElem (by omega))⟩
 refine⟨run_storeAt_mid w b 0 T vs.toArray (fun j hj=>?_) (by simpa using hi) (by simpa using h1),by rw[size_setCells];exact h.1,fun j v hj=>?_,fun i=>by rw[World.frozen?_setCells];exact h.2.2 i⟩
 ·obtain ⟨v,hv⟩:=hc j (by simpa using hj)
  rw[Nat.zero_add,hv]
  exact⟨rfl,h.2.2 _⟩
 have hj':=(List.getElem?_eq_some_iff.1 hj).1
 have:=World.cell?_setCells_in b vs 0 w (fun i hi=>by obtain ⟨v,hv⟩:=hc i hi;rw[Nat.zero_add,hv];rfl) j hj'
 rw[Nat.zero_add]at this
 rw[this]
 exact(List.getElem?_eq_getElem hj').symm.trans hj
theorem aS {w:World}{fn:Func}{r:Tmp}{T:TypeId}{d:TypeDesc}{b:Nat}{l:List Value}(h:fn.results =#[.cell r T])(tmps:Array Value)(hp:tmps.getD r undef =.pointer (some ⟨b,0,none⟩))(hC:Ce w b l)(hu:Tryz.prog.underlying T=some d)(hd:d.isRow=true)(hi:(Tryz.prog.info? T).map (·.size)=some l.length) :
 (results fn tmps).run Tryz.prog w =.ok (.agg l.toArray) w:=by
 have hp':tmps[r]?.getD undef =.pointer (some ⟨b,0,none⟩):=by simpa using hp
 have hl:(loadVar T ⟨b,0,none⟩).run Tryz.prog w =.ok (.agg l.toArray) w:=run_loadVar_mid w b 0 T l _ (fun j v hj=>by rw[Nat.zero_add];exact hC.2.1 j v hj) hu hd hi
 simp[results,h,hp',asAddr,hl]
theorem aR {K:Act→World→Prop}{Q:Exit→Act→World→Prop}{a:Act}{w:World}(h:K a w):Exit.then K Q .normal a w:=h
theorem oC (w:World):(zeroValue 45).run Tryz.prog w =.ok (.agg ([(),(),false,.slice none 0 0]:List Value).toArray) w:=by kernel_rfl
theorem Ei (w:World):(zeroValue 141).run Tryz.prog w =.ok (.agg ([(),(),(),()]:List Value).toArray) w:=by kernel_rfl
theorem d9:(Tryz.prog.info? 45).map (·.size)=some 4:=by kernel_rfl
theorem AX:(Tryz.prog.info? 141).map (·.size)=some 4:=by kernel_rfl
section
variable {S:List Nat}{W w:World}{L A B:List Th}{Q:Exit→Act→World→Prop}{o:Oper}{a:Act}{K:Act→World→Prop}
theorem bw {T:TypeId}{l:List Value}(ho:o.op =.alloc T)(hz:(zeroValue T).run Tryz.prog w =.ok (.agg l.toArray) w)(hn:l.toArray =#[]→False)(hS:HS S W w L)
 (h:∀U w',HS S W w' (aw U l::L)→w.heap.size≤U→K (a.put o.dst (.pointer (some ⟨U,0,none⟩))) w'):o.wp Tryz.prog a w K Q:=by
 refine rJ (w':=w.alloc (.cells l.toArray T)) ?_ (h _ _ (hS.cells l) (Nat.le_refl _))
 have h2:(l.toArray =#[])=False:=eq_false hn
 unfold execOp
 simp only[ho]
 go_simp
theorem fi {T:TypeId}{x:Operand}{l:List Value}(ho:o.op =.box T x)(hx:a.eval x =.agg l.toArray)(hn:l.toArray =#[]→False)(hS:HS S W w L)
 (h:∀U w',HS S W w' (aw U l::L)→w.heap.size≤U→K (a.put o.dst (.pointer (some ⟨U,0,none⟩))) w'):o.wp Tryz.prog a w K Q:=by
 refine rJ (w':=w.alloc (.cells l.toArray T)) ?_ (h _ _ (hS.cells l) (Nat.le_refl _))
 have h2:(l.toArray =#[])=False:=eq_false hn
 unfold execOp
 simp only[ho,hx]
 go_simp
theorem aB {T:TypeId}{x y:Operand}{b:Nat}{l:List Value}(vs:List Value)(ho:o.op =.store T x y)(hx:a.eval x =.pointer (some ⟨b,0,none⟩))(hy:a.eval y =.agg vs.toArray)(hS:HS S W w (A++aw b l::B))(hl:vs.length=l.length)(hi:(Tryz.prog.info? T).map (·.size)=some vs.length)(h1:vs.all (·.oneCell')=true)
 (h:∀w',HS S W w' (A++aw b vs::B)→K (a.put o.dst undef) w'):o.wp Tryz.prog a w K Q:=
 have hC:Ce w b l:=hS.1 (aw b l) (by simp)
 have hs:=hC.store_ vs hl hi h1
 eZ ho hx hy hs.1 (h _ (hS.upd (aw b vs) rfl ((Ch.refl _ _).sets (.inl (by simp[aw]))) hs.2))
end
theorem Ce.c2 {w:World}{b:Nat}{x y:Value}(h:Ce w b [x,y]):w.cell? ⟨b,0,none⟩=some x∧w.cell? ⟨b,1,none⟩=some y:=⟨h.2.1 0 _ rfl,h.2.1 1 _ rfl⟩
theorem Ce.c4 {w:World}{b:Nat}{x y z u:Value}(h:Ce w b [x,y,z,u]):w.cell? ⟨b,0,none⟩=some x∧w.cell? ⟨b,1,none⟩=some y∧w.cell? ⟨b,2,none⟩=some z∧w.cell? ⟨b,3,none⟩=some u:=⟨h.2.1 0 _ rfl,h.2.1 1 _ rfl,h.2.1 2 _ rfl,h.2.1 3 _ rfl⟩
theorem Ce.c13 {w:World}{b:Nat}{v0 v1 v2 v3 v4 v5 v6 v7 v8 v9 v10 v11 v12:Value}(h:Ce w b [v0,v1,v2,v3,v4,v5,v6,v7,v8,v9,v10,v11,v12]):w.cell? ⟨b,0,none⟩=some v0∧w.cell? ⟨b,1,none⟩=some v1∧w.cell? ⟨b,2,none⟩=some v2∧w.cell? ⟨b,3,none⟩=some v3∧w.cell? ⟨b,4,none⟩=some v4∧w.cell? ⟨b,5,none⟩=some v5∧w.cell? ⟨b,6,none⟩=some v6∧w.cell? ⟨b,7,none⟩=some v7∧w.cell? ⟨b,8,none⟩=some v8∧w.cell? ⟨b,9,none⟩=some v9∧w.cell? ⟨b,10,none⟩=some v10∧w.cell? ⟨b,11,none⟩=some v11∧w.cell? ⟨b,12,none⟩=some v12:=⟨h.2.1 0 _ rfl,h.2.1 1 _ rfl,h.2.1 2 _ rfl,h.2.1 3 _ rfl,h.2.1 4 _ rfl,h.2.1 5 _ rfl,h.2.1 6 _ rfl,h.2.1 7 _ rfl,h.2.1 8 _ rfl,h.2.1 9 _ rfl,h.2.1 10 _ rfl,h.2.1 11 _ rfl,h.2.1 12 _ rfl⟩
end Go.Proofs.YtalnfkijiehjhaaGreat
