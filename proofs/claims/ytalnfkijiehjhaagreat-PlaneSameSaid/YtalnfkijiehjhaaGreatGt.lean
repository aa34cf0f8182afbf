import Derived.Test.YtalnfkijiehjhaaGreatGa
import Derived.Test.YtalnfkijiehjhaaGreatPolMake
import Derived.Deep.CutRange
import Derived.BigQuiet
import Derived.Deep.RegionHeld3
import Derived.Deep.Cut
import Derived.Deep.Upon
import Derived.IntWalk
namespace Go.Proofs.YtalnfkijiehjhaaGreat
set_option linter.unusedVariables false
set_option linter.unusedSimpArgs false
open Go.RowKit Go.ChangeShapes Go.WideShapes Go.ChangeAt
section
variable {W w w':World}{L:List (Nat×Pl)}{A:Option Addr}{n:Nat}{g:Nat→En}
end
attribute [local irreducible] PA
end Go.Proofs.YtalnfkijiehjhaaGreat
namespace Go.Proofs.YtalnfkijiehjhaaGreat
set_option linter.unusedVariables false
set_option linter.unusedSimpArgs false
open Go.RowKit Go.ChangeShapes Go.WideShapes Go.ChangeAt
section
variable {W w w':World}{L:List (Nat×Pl)}{E:List (Nat×Nat×(Nat→En))}
end
section
variable {W w w':World}{L:List (Nat×Pl)}{C:List (Nat×List Value)}{b:Nat}{l:List Value}
end
section
variable {H:Type}{enc:TypeId×Value→H}{w:World}{base:Nat}{spare:Nat→Bool}{held:Bool}
end
section
variable {W w w':World}{B m:Nat}{v:Value}{g:Nat→En}{L:List (Nat×Pl)}
end
section
variable {w:World}{ops:Array Oper}{rest:List Oper}{o:Oper}{a:Act}{Q:Exit→Act→World→Prop}
end
def FL (n:Nat)(f:Nat→Value):List Value:=(List.range n).map f
def FA (n:Nat)(f:Nat→Value):Array Value:=(FL n f).toArray
theorem jz (n:Nat)(f:Nat→Value):(FL n f).length=n:=by unfold FL;simp
theorem pv (n:Nat)(f:Nat→Value):(FA n f).size=n:=by unfold FA;simp[jz]
theorem tg {n:Nat}(f:Nat→Value){j:Nat}(h:j<n):(FL n f)[j]? = some (f j):=by unfold FL;simp[h]
theorem Hs {n:Nat}{f:Nat→Value}(h:∀j,(f j).oneCell'=true):(FA n f).all (·.oneCell')=true:=by
 unfold FA
 refine all_oneCell_toArray fun v hv=>?_
 unfold FL at hv
 simp only[List.mem_map]at hv
 obtain ⟨j,_,rfl⟩:=hv
 exact h j
def Fb (w:World)(b n:Nat)(f:Nat→Value):Prop:=b<w.heap.size∧(∀j,j<n→w.cell? ⟨b,j,none⟩=some (f j))∧∀j,w.frozen? ⟨b,j,none⟩=false
def patch (f:Nat→Value)(o k:Nat)(g:Nat→Value)(j:Nat):Value:=if o≤j∧j<o+k then g (j-o) else f j
theorem iG {w w':World}{b:Nat}(h:b<w.heap.size)(e:w'.heap[b]? = w.heap[b]?):b<w'.heap.size:=by
 rcases Nat.lt_or_ge b w'.heap.size with h2 |h2
 ·exact h2
 rw[Array.getElem?_eq_none h2,Array.getElem?_eq_getElem h]at e;cases e
section
variable {w w':World}{b n:Nat}{f g:Nat→Value}
theorem Fb.same (h:Fb w b n f)(e:w'.heap[b]? = w.heap[b]?):Fb w' b n f:=
 ⟨iG h.1 e,fun j hj=>(World.cell?_of_block (a:=⟨b,j,none⟩) e).trans (h.2.1 j hj),fun j=>(World.frozen?_of_block (a:=⟨b,j,none⟩) e).trans (h.2.2 j)⟩
theorem Fb.below (h:Fb w b n f)(hb:Below w.heap.size w w'):Fb w' b n f:=h.same (hb.block b h.1)
theorem Fb.as (h:Fb w b n f)(hg:∀j,j<n→f j=g j):Fb w b n g:=⟨h.1,fun j hj=>by rw[h.2.1 j hj,hg j hj],h.2.2⟩
theorem Fb.made {T:TypeId}{x:Nat}(hx:w.heap.size=x):Fb (w.alloc (.cells (FA n f) T)) x n f:=by
 subst hx
 have h:(w.alloc (.cells (FA n f) T)).heap[w.heap.size]? = some (.cells (FA n f) T (0,0)):=heap_alloc_new w _
 refine⟨by simp,fun j hj=>?_,fun j=>frozen_of_row _ _ _ _ _ h⟩
 rw[cell_of_row _ w.heap.size j _ T (0,0) h]
 unfold FA
 rw[List.getElem?_toArray,tg f hj]
theorem Fb.set (h:Fb w b n f)(o k:Nat)(g:Nat→Value)(ho:o+k≤n):Fb (w.setCells b o (FL k g)) b n (patch f o k g):=by
 refine⟨by rw[size_setCells];exact h.1,fun j hj=>?_,fun i=>by rw[World.frozen?_setCells];exact h.2.2 i⟩
 unfold patch
 by_cases hjo:o≤j∧j<o+k
 ·rw[if_pos hjo]
  have:=World.cell?_setCells_in b (FL k g) o w (fun i hi=>by rw[jz]at hi;rw[h.2.1 (o+i) (by omega)];rfl) (j-o) (by rw[jz];omega)
  rw[show o+(j-o)=j by omega]at this
  rw[this]
  have h3:=tg g (show j-o<k by omega)
  rw[List.getElem?_eq_getElem (by rw[jz];omega)]at h3
  exact h3
 rw[if_neg hjo,World.cell?_setCells_out b (FL k g) o w _ (fun _ _=>by rw[jz]at *;simp only;omega),h.2.1 j hj]
theorem Fb.load {T:TypeId}{d:TypeDesc}(h:Fb w b n f)(o k:Nat)(g:Nat→Value)(hok:o+k≤n)(hg:∀j,j<k→f (o+j)=g j)(hu:Tryz.prog.underlying T=some d)(hd:d.isRow=true)(hi:(Tryz.prog.info? T).map (·.size)=some k) :
 (Instr.loadAt T (.pointer (some ⟨b,o,none⟩))).run Tryz.prog w =.ok (.agg (FA k g)) w:=by
 refine run_loadAt_mid w b o T (FL k g) _ (fun j v hj=>?_) hu hd (by rw[jz];exact hi)
 have hl:j<k:=by
  have:=(List.getElem?_eq_some_iff.1 hj).1
  rwa [jz]at this
 rw[tg g hl]at hj
 rw[h.2.1 (o+j) (by omega),hg j hl,hj]
theorem Fb.pq {T:TypeId}{d:TypeDesc}(h:Fb w b n f)(o k:Nat)(g:Nat→Value)(hok:o+k≤n)(hg:∀j,j<k→f (o+j)=g j)(hu:Tryz.prog.underlying T=some d)(hd:d.isRow=true)(hi:(Tryz.prog.info? T).map (·.size)=some k) :
 (loadVar T ⟨b,o,none⟩).run Tryz.prog w =.ok (.agg (FA k g)) w:=by
 refine run_loadVar_mid w b o T (FL k g) _ (fun j v hj=>?_) hu hd (by rw[jz];exact hi)
 have hl:j<k:=by
  have:=(List.getElem?_eq_some_iff.1 hj).1
  rwa [jz]at this
 rw[tg g hl]at hj
 rw[h.2.1 (o+j) (by omega),hg j hl,hj]
theorem Fb.store {T:TypeId}(h:Fb w b n f)(o k:Nat)(g:Nat→Value)(hok:o+k≤n)(hi:(Tryz.prog.info? T).map (·.size)=some k)(h1:∀j,(g j).oneCell'=true) :
 (Instr.storeAt T (.pointer (some ⟨b,o,none⟩)) (.agg (FA k g))).run Tryz.prog w =.ok () (w.setCells b o (FL k g)):=by
 refine run_storeAt_mid w b o T (FA k g) (fun j hj=>?_) (by rw[pv];exact hi) (Hs h1)
 rw[pv]at hj
 rw[h.2.1 (o+j) (by omega)]
 exact⟨rfl,h.2.2 _⟩
end
def Ch (S:List Nat)(w w':World):Prop:=(w'.os=w.os∧w'.tape=w.tape∧w'.output=w.output)∧w.heap.size≤w'.heap.size∧∀k,k<w.heap.size→k ∉ S→w'.heap[k]? = w.heap[k]?
section
variable {w w' w2:World}{S:List Nat}
theorem Ch.refl (S:List Nat)(w:World):Ch S w w:=⟨⟨rfl,rfl,rfl⟩,Nat.le_refl _,fun _ _ _=>rfl⟩
theorem Ch.trans (h:Ch S w w')(k:Ch S w' w2):Ch S w w2:=
 ⟨⟨k.1.1.trans h.1.1,k.1.2.1.trans h.1.2.1,k.1.2.2.trans h.1.2.2⟩,Nat.le_trans h.2.1 k.2.1,fun i hi hs=>(k.2.2 i (Nat.lt_of_lt_of_le hi h.2.1) hs).trans (h.2.2 i hi hs)⟩
theorem Ch.of_below (h:Below w.heap.size w w'):Ch S w w':=⟨⟨h.os,h.tape,h.output⟩,h.size,fun k hk _=>h.block k hk⟩
theorem Ch.step {T:List Nat}(h:Ch S w w')(k:Ch T w' w2)(hT:∀i,i∈T→i∈S∨w.heap.size≤i):Ch S w w2:=
 ⟨⟨k.1.1.trans h.1.1,k.1.2.1.trans h.1.2.1,k.1.2.2.trans h.1.2.2⟩,Nat.le_trans h.2.1 k.2.1,fun i hi hs=>(k.2.2 i (Nat.lt_of_lt_of_le hi h.2.1) (fun hm=>by rcases hT i hm with h1 |h1;exact hs h1;omega)).trans (h.2.2 i hi hs)⟩
theorem Ch.then (h:Ch S w w')(k:Below w'.heap.size w' w2):Ch S w w2:=h.trans (.of_below k)
theorem Ch.below {B:Nat}(h:Ch S w w')(hS:∀k,k∈S→B≤k)(hB:B≤w.heap.size):Below B w w':=
 ⟨h.1.1,h.1.2.1,h.1.2.2,h.2.1,fun k hk=>h.2.2 k (by omega) (fun hs=>by have:=hS k hs;omega)⟩
theorem Ch.mono {S2:List Nat}(h:Ch S w w')(hS:∀k,k∈S→k∈S2∨w.heap.size≤k):Ch S2 w w':=
 ⟨h.1,h.2.1,fun k hk hs=>h.2.2 k hk (fun hm=>by rcases hS k hm with h1 |h1;exact hs h1;omega)⟩
theorem Ch.sets (h:Ch S w w'){c o:Nat}{vs:List Value}(hc:c∈S∨w.heap.size≤c):Ch S w (w'.setCells c o vs):=by
 have k:=aK c vs o w' c (Nat.le_refl _)
 refine⟨⟨k.os.trans h.1.1,k.tape.trans h.1.2.1,k.output.trans h.1.2.2⟩,by rw[size_setCells];exact h.2.1,fun i hi hs=>?_⟩
 have hne:i≠c:=fun e=>by subst e;rcases hc with h1 |h1;exact hs h1;omega
 rw[World.heap_setCells_other w' c o vs (Nat.lt_of_lt_of_le hi h.2.1) hne]
 exact h.2.2 i hi hs
theorem Ch.set1 (h:Ch S w w'){c o:Nat}{v:Value}(hc:c∈S∨w.heap.size≤c):Ch S w (w'.setCell ⟨c,o,none⟩ v):=h.sets (vs:=[v]) hc
end
structure Th where
 at_:World→Prop
 bs:List Nat
 keep:∀w w':World,at_ w→(∀b,b∈bs→w'.heap[b]? = w.heap[b]?)→at_ w'
 lt:∀w:World,at_ w→∀b,b∈bs→b<w.heap.size
def aP (b n:Nat)(f:Nat→Value):Th:=⟨fun w=>Fb w b n f,[b],fun _ _ h e=>h.same (e b (by simp)),fun _ h x hx=>by simp at hx;subst hx;exact h.1⟩
def aB (b:Nat)(l:List Value):Th:=⟨fun w=>Ce w b l,[b],fun _ _ h e=>⟨iG h.1 (e b (by simp)),fun j v hj=>(World.cell?_of_block (a:=⟨b,j,none⟩) (e b (by simp))).trans (h.2.1 j v hj),fun j=>(World.frozen?_of_block (a:=⟨b,j,none⟩) (e b (by simp))).trans (h.2.2 j)⟩,fun _ h x hx=>by simp at hx;subst hx;exact h.1⟩
def HS (S:List Nat)(W w:World)(L:List Th):Prop:=(∀t,t∈L→t.at_ w)∧Ch S W w∧(L.flatMap Th.bs).Nodup∧∀b,b∈L.flatMap Th.bs→b∈S∨W.heap.size≤b
section
variable {S:List Nat}{W w w':World}{L A B:List Th}{t t':Th}
theorem HS.start:HS S W W []:=⟨fun _ h=>(by cases h),Ch.refl _ _,by simp,fun _ h=>(by simp at h)⟩
theorem HS.yx (t:Th)(ht:t.at_ W)(hn:t.bs.Nodup)(hS:∀b,b∈t.bs→b∈S):HS S W W [t]:=
 ⟨fun x hx=>by simp at hx;subst hx;exact ht,Ch.refl _ _,by simpa using hn,fun b hb=>.inl (hS b (by simpa using hb))⟩
theorem HS.ch (h:HS S W w L):Ch S W w:=h.2.1
theorem HS.nth (h:HS S W w L)(k:Nat)(hk:L[k]? = some t):t.at_ w:=h.1 t (List.mem_of_getElem? hk)
theorem HS.fb {b n:Nat}{f:Nat→Value}(h:HS S W w L)(k:Nat)(hk:L[k]? = some (aP b n f)):Fb w b n f:=h.nth k hk
theorem HS.below (h:HS S W w L)(hb:Below w.heap.size w w'):HS S W w' L:=
 ⟨fun t ht=>t.keep w w' (h.1 t ht) fun b hbb=>hb.block b (t.lt w (h.1 t ht) b hbb),h.2.1.then hb,h.2.2⟩
theorem HS.drew (h:HS S W w L):HS S W w.drew L:=h.below ⟨rfl,rfl,rfl,Nat.le_refl _,fun _ _=>rfl⟩
theorem HS.bl (h:HS [] W w L):Below W.heap.size W w:=h.2.1.below (by simp) (Nat.le_refl _)
theorem HS.kJ (h:HS S W w L):W.heap.size≤w.heap.size:=h.2.1.2.1
theorem HS.new (h:HS S W w L)(t:Th)(hb:Below w.heap.size w w')(ht:t.at_ w')(hn:t.bs.Nodup)(hg:∀b,b∈t.bs→w.heap.size≤b):HS S W w' (t::L):=by
 have h':=h.below hb
 refine⟨fun x hx=>?_,h'.2.1,?_,fun b hbb=>?_⟩
 ·rcases List.mem_cons.1 hx with rfl |hx
  ·exact ht
  exact h'.1 x hx
 ·rw[List.flatMap_cons,List.nodup_append]
  refine⟨hn,h.2.2.1,fun a ha b hbb e=>?_⟩
  subst e
  obtain ⟨x,hx,hxa⟩:=List.mem_flatMap.1 hbb
  have h1:=x.lt w (h.1 x hx) a hxa
  have h2:=hg a ha
  omega
 rw[List.flatMap_cons]at hbb
 rcases List.mem_append.1 hbb with h1 |h1
 ·exact .inr (Nat.le_trans h.kJ (hg b h1))
 exact h.2.2.2 b h1
theorem HS.upd (h:HS S W w (A++t::B))(t':Th)(hbs:t'.bs=t.bs)(hc:Ch t.bs w w')(ht:t'.at_ w'):HS S W w' (A++t'::B):=by
 obtain ⟨h1,h2,h3,h4⟩:=h
 have hb2:(A++t'::B).flatMap Th.bs=(A++t::B).flatMap Th.bs:=by simp[hbs]
 have hd:∀x,x∈A++B→∀b,b∈x.bs→b ∉ t.bs:=by
  intro x hx b hb hbt
  rw[List.flatMap_append,List.flatMap_cons,List.nodup_append]at h3
  obtain ⟨_,h5,h6⟩:=h3
  rcases List.mem_append.1 hx with hx |hx
  ·exact h6 b (List.mem_flatMap.2 ⟨x,hx,hb⟩) b (List.mem_append.2 (.inl hbt)) rfl
  rw[List.nodup_append]at h5
  exact h5.2.2 b hbt b (List.mem_flatMap.2 ⟨x,hx,hb⟩) rfl
 have hk:∀x,x∈A++B→x.at_ w→x.at_ w':=fun x hx hat=>x.keep w w' hat fun b hb=>hc.2.2 b (x.lt w hat b hb) (hd x hx b hb)
 refine⟨fun x hx=>?_,?_,by rw[hb2];exact h3,by rw[hb2];exact h4⟩
 ·rcases List.mem_append.1 hx with hx |hx
  ·exact hk x (List.mem_append.2 (.inl hx)) (h1 x (List.mem_append.2 (.inl hx)))
  rcases List.mem_cons.1 hx with rfl |hx
  ·exact ht
  exact hk x (List.mem_append.2 (.inr hx)) (h1 x (List.mem_append.2 (.inr (List.mem_cons_of_mem _ hx))))
 exact h2.step hc fun k hk=>h4 k (List.mem_flatMap.2 ⟨t,by simp,hk⟩)
theorem HS.set {b n:Nat}{f:Nat→Value}(h:HS S W w (A++aP b n f::B))(o k:Nat)(g:Nat→Value)(ho:o+k≤n)(f':Nat→Value)(hf:∀j,j<n→patch f o k g j=f' j):HS S W (w.setCells b o (FL k g)) (A++aP b n f'::B):=by
 have hF:Fb w b n f:=h.1 (aP b n f) (by simp)
 exact h.upd (aP b n f') rfl ((Ch.refl _ _).sets (.inl (by simp[aP]))) ((hF.set o k g ho).as hf)
theorem HS.cells (h:HS S W w L)(l:List Value){T:TypeId}:HS S W (w.alloc (.cells l.toArray T)) (aB w.heap.size l::L):=
 h.new (aB w.heap.size l) ((Below.refl _ _).alloc (Nat.le_refl _) _) (Ce.made rfl) (by simp[aB]) (fun b hb=>by simp[aB]at hb;omega)
theorem HS.ce {b:Nat}{l:List Value}(h:HS S W w L)(k:Nat)(hk:L[k]? = some (aB b l)):Ce w b l:=h.nth k hk
theorem HS.li {b:Nat}{l:List Value}(h:HS S W w (A++aB b l::B))(j:Nat)(v:Value)(hj:j<l.length):HS S W (w.setCell ⟨b,j,none⟩ v) (A++aB b (l.set j v)::B):=by
 have hF:Ce w b l:=h.1 (aB b l) (by simp)
 exact h.upd (aB b (l.set j v)) rfl ((Ch.refl _ _).set1 (.inl (by simp[aB]))) (Ce.set hF j v hj)
theorem HS.drop (h:HS S W w (A++t::B)):HS S W w (A++B):=by
 obtain ⟨h1,h2,h3,h4⟩:=h
 have hm:∀x,x∈A++B→x∈A++t::B:=fun x hx=>by
  rcases List.mem_append.1 hx with hx |hx
  ·exact List.mem_append.2 (.inl hx)
  exact List.mem_append.2 (.inr (List.mem_cons_of_mem _ hx))
 refine⟨fun x hx=>h1 x (hm x hx),h2,?_,fun b hb=>?_⟩
 ·refine h3.sublist ?_
  rw[List.flatMap_append,List.flatMap_append,List.flatMap_cons]
  exact List.Sublist.append (List.Sublist.refl _) (List.sublist_append_right _ _)
 obtain ⟨x,hx,hxb⟩:=List.mem_flatMap.1 hb
 exact h4 b (List.mem_flatMap.2 ⟨x,hm x hx,hxb⟩)
theorem HS.tail (h:HS S W w (t::L)):HS S W w L:=HS.drop (A:=[]) h
theorem HS.drop1 {a:Th}(h:HS S W w (a::t::L)):HS S W w (a::L):=HS.drop (A:=[a]) h
theorem nY (f:Nat→Value)(k:Nat)(g:Nat→Value)(j:Nat)(hj:j<k):patch f 0 k g j=g j:=by unfold patch;rw[if_pos ⟨by omega,by omega⟩];rfl
end
section
variable {S:List Nat}{W w:World}{L A B:List Th}{ops:Array Oper}{rest:List Oper}{Q:Exit→Act→World→Prop}{o:Oper}{a:Act}{K:Act→World→Prop}
theorem aS (hw:Region.wanted o (yielded ops a.tmps)=true)(h:o.wp Tryz.prog a w (wpList Tryz.prog ops Q rest) Q):wpList Tryz.prog ops Q (o::rest) a w:=by
 unfold wpList
 rw[if_pos hw]
 exact .inl h
theorem qP {v:Value}{w':World}(he:(execOp a.eval o).run Tryz.prog w =.ok (.value v) w')(h:K (a.put o.dst v) w'):o.wp Tryz.prog a w K Q:=by
 unfold Oper.wp;rw[he];exact h
theorem Ck {T:TypeId}{n:Nat}{f:Nat→Value}(ho:o.op =.alloc T)(hz:(zeroValue T).run Tryz.prog w =.ok (.agg (FA n f)) w)(hn:0<n):(execOp a.eval o).run Tryz.prog w =.ok (.value (.pointer (some ⟨w.heap.size,0,none⟩))) (w.alloc (.cells (FA n f) T)):=by
 have h1:(FA n f).size=n:=pv _ _
 have h2:(FA n f =#[])=False:=eq_false fun h=>by rw[h]at h1;simp at h1;omega
 unfold execOp
 simp only[ho]
 go_simp
theorem Hu {T:TypeId}{x:Operand}{n:Nat}{f:Nat→Value}(ho:o.op =.box T x)(hx:a.eval x =.agg (FA n f))(hn:0<n):(execOp a.eval o).run Tryz.prog w =.ok (.value (.pointer (some ⟨w.heap.size,0,none⟩))) (w.alloc (.cells (FA n f) T)):=by
 have h1:(FA n f).size=n:=pv _ _
 have h2:(FA n f =#[])=False:=eq_false fun h=>by rw[h]at h1;simp at h1;omega
 unfold execOp
 simp only[ho,hx]
 go_simp
theorem t9 {T:TypeId}{n:Nat}{f:Nat→Value}(ho:o.op =.alloc T)(hz:(zeroValue T).run Tryz.prog w =.ok (.agg (FA n f)) w)(hn:0<n)(hS:HS S W w L)
 (h:∀U w',HS S W w' (aP U n f::L)→W.heap.size≤U→K (a.put o.dst (.pointer (some ⟨U,0,none⟩))) w'):o.wp Tryz.prog a w K Q:=
 qP (Ck ho hz hn) (h _ _ (hS.new (aP w.heap.size n f) ((Below.refl _ _).alloc (Nat.le_refl _) _) (Fb.made rfl) (by simp[aP]) (fun b hb=>by simp[aP]at hb;omega)) hS.kJ)
theorem ll {T:TypeId}{x:Operand}{n:Nat}{f:Nat→Value}(ho:o.op =.box T x)(hx:a.eval x =.agg (FA n f))(hn:0<n)(hS:HS S W w L)
 (h:∀U w',HS S W w' (aP U n f::L)→W.heap.size≤U→K (a.put o.dst (.pointer (some ⟨U,0,none⟩))) w'):o.wp Tryz.prog a w K Q:=
 qP (Hu ho hx hn) (h _ _ (hS.new (aP w.heap.size n f) ((Below.refl _ _).alloc (Nat.le_refl _) _) (Fb.made rfl) (by simp[aP]) (fun b hb=>by simp[aP]at hb;omega)) hS.kJ)
theorem vQ {T:TypeId}{x:Operand}{d:TypeDesc}{b n:Nat}{f:Nat→Value}(i:Nat)(Nr:L[i]? = some (aP b n f))(off k:Nat)(g:Nat→Value)(ho:o.op =.load T x)(hx:a.eval x =.pointer (some ⟨b,off,none⟩))(hS:HS S W w L)(hok:off+k≤n)(hg:∀j,j<k→f (off+j)=g j)
 (hu:Tryz.prog.underlying T=some d) (hd:d.isRow=true) (hi:(Tryz.prog.info? T).map (·.size)=some k) (h:K (a.put o.dst (.agg (FA k g))) w):o.wp Tryz.prog a w K Q:=
 yX (jR ho hx ((hS.fb i Nr).load off k g hok hg hu hd hi)) h
theorem lk {T:TypeId}{x y:Operand}{b n:Nat}{f:Nat→Value}(off k:Nat)(g f':Nat→Value)(ho:o.op =.store T x y)(hx:a.eval x =.pointer (some ⟨b,off,none⟩))(hy:a.eval y =.agg (FA k g))(hS:HS S W w (A++aP b n f::B))(hok:off+k≤n)(hf:∀j,j<n→patch f off k g j=f' j)
 (hi:(Tryz.prog.info? T).map (·.size)=some k) (h1:∀j,(g j).oneCell'=true) (h:∀w',HS S W w' (A++aP b n f'::B)→K (a.put o.dst undef) w'):o.wp Tryz.prog a w K Q:=
 have hF:Fb w b n f:=hS.1 (aP b n f) (by simp)
 fI ho hx hy (hF.store off k g hok hi h1) (h _ (hS.set off k g hok f' hf))
end
def cB (B:Nat)(e:TypeId)(size:Nat)(v:Value)(n:Nat)(f:Nat→Value):Th:=⟨fun w=>Ow w B e size v n f,v.ownBlock.toList,fun w w' h hb=>by
    refine⟨h.1,?_⟩
    rcases h.2 with hn |⟨g,cap,cur,rfl,hg,hgg,rest⟩
    ·exact .inl hn
    exact .inr ⟨g,cap,cur,rfl,hg,(hb g (by simp[Value.ownBlock])).trans hgg,rest⟩,fun w h b hb=>(World.ownsRow.lt h b (by simpa using hb)).2⟩
section
variable {S:List Nat}{W w w':World}{L A:List Th}{B:Nat}{e:TypeId}{size n n':Nat}{v v':Value}{f f':Nat→Value}
variable {Q:Exit→Act→World→Prop}{o:Oper}{a:Act}{K:Act→World→Prop}
end
section
variable {S:List Nat}{W w w':World}{L A:List Th}{m:Nat}{v:Value}{g:Nat→En}{Q:Exit→Act→World→Prop}{o:Oper}{a:Act}{K:Act→World→Prop}
end
set_option maxRecDepth 100000
theorem Ce.store_ {w:World}{b:Nat}{l:List Value}{T:TypeId}(h:Ce w b l)(vs:List Value)(hl:vs.length=l.length)(hi:(Tryz.prog.info? T).map (·.size)=some vs.length)(h1:vs.all (·.oneCell')=true) :
 (Instr.storeAt T (.pointer (some ⟨b,0,none⟩)) (.agg vs.toArray)).run Tryz.prog w =.ok () (w.setCells b 0 vs)∧Ce (w.setCells b 0 vs) b vs:=by
 have hc:∀j,j<vs.length→∃v,w.cell? ⟨b,j,none⟩=some v:=fun j hj=>⟨l[j]'(by omega),h.2.1 j _ (List.getElem?_eq_getElem (by omega))⟩
 refine⟨run_storeAt_mid w b 0 T vs.toArray (fun j hj=>?_) (by simpa using hi) (by simpa using h1),by rw[size_setCells];exact h.1,fun j v hj=>?_,fun i=>by rw[World.frozen?_setCells];exact h.2.2 i⟩
 ·obtain ⟨v,hv⟩:=hc j (by simpa using hj)
  rw[Nat.zero_add,hv]
  exact⟨rfl,h.2.2 _⟩
 have hj':=(List.getElem?_eq_some_iff.1 hj).1
 have:=World.cell?_setCells_in b vs 0 w (fun i hi=>by obtain ⟨v,hv⟩:=hc i hi;rw[Nat.zero_add,hv];rfl) j hj'
 rw[Nat.zero_add]at this
 rw[this]
 exact(List.getElem?_eq_getElem hj').symm.trans hj
theorem bQ {w:World}{fn:Func}{r:Tmp}{T:TypeId}{d:TypeDesc}{b:Nat}{l:List Value}(h:fn.results =#[.cell r T])(tmps:Array Value)(hp:tmps.getD r undef =.pointer (some ⟨b,0,none⟩))(hC:Ce w b l)(hu:Tryz.prog.underlying T=some d)(hd:d.isRow=true)(hi:(Tryz.prog.info? T).map (·.size)=some l.length) :
 (results fn tmps).run Tryz.prog w =.ok (.agg l.toArray) w:=by
 have hp':tmps[r]?.getD undef =.pointer (some ⟨b,0,none⟩):=by simpa using hp
 have hl:(loadVar T ⟨b,0,none⟩).run Tryz.prog w =.ok (.agg l.toArray) w:=run_loadVar_mid w b 0 T l _ (fun j v hj=>by rw[Nat.zero_add];exact hC.2.1 j v hj) hu hd hi
 simp[results,h,hp',asAddr,hl]
theorem bP {K:Act→World→Prop}{Q:Exit→Act→World→Prop}{a:Act}{w:World}(h:K a w):Exit.then K Q .normal a w:=h
theorem px (w:World):(zeroValue 45).run Tryz.prog w =.ok (.agg ([(),(),false,.slice none 0 0]:List Value).toArray) w:=by kernel_rfl
theorem Fs (w:World):(zeroValue 141).run Tryz.prog w =.ok (.agg ([(),(),(),()]:List Value).toArray) w:=by kernel_rfl
theorem dY:(Tryz.prog.info? 45).map (·.size)=some 4:=by kernel_rfl
theorem Dv:(Tryz.prog.info? 141).map (·.size)=some 4:=by kernel_rfl
section
variable {S:List Nat}{W w:World}{L A B:List Th}{Q:Exit→Act→World→Prop}{o:Oper}{a:Act}{K:Act→World→Prop}
theorem bZ {T:TypeId}{l:List Value}(ho:o.op =.alloc T)(hz:(zeroValue T).run Tryz.prog w =.ok (.agg l.toArray) w)(hn:l.toArray =#[]→False)(hS:HS S W w L)
 (h:∀U w',HS S W w' (aB U l::L)→w.heap.size≤U→K (a.put o.dst (.pointer (some ⟨U,0,none⟩))) w'):o.wp Tryz.prog a w K Q:=by
 refine qP (w':=w.alloc (.cells l.toArray T)) ?_ (h _ _ (hS.cells l) (Nat.le_refl _))
 have h2:(l.toArray =#[])=False:=eq_false hn
 unfold execOp
 simp only[ho]
 go_simp
theorem iF {T:TypeId}{x:Operand}{l:List Value}(ho:o.op =.box T x)(hx:a.eval x =.agg l.toArray)(hn:l.toArray =#[]→False)(hS:HS S W w L)
 (h:∀U w',HS S W w' (aB U l::L)→w.heap.size≤U→K (a.put o.dst (.pointer (some ⟨U,0,none⟩))) w'):o.wp Tryz.prog a w K Q:=by
 refine qP (w':=w.alloc (.cells l.toArray T)) ?_ (h _ _ (hS.cells l) (Nat.le_refl _))
 have h2:(l.toArray =#[])=False:=eq_false hn
 unfold execOp
 simp only[ho,hx]
 go_simp
theorem aT {T:TypeId}{x y:Operand}{b:Nat}{l:List Value}(vs:List Value)(ho:o.op =.store T x y)(hx:a.eval x =.pointer (some ⟨b,0,none⟩))(hy:a.eval y =.agg vs.toArray)(hS:HS S W w (A++aB b l::B))(hl:vs.length=l.length)(hi:(Tryz.prog.info? T).map (·.size)=some vs.length)(h1:vs.all (·.oneCell')=true)
 (h:∀w',HS S W w' (A++aB b vs::B)→K (a.put o.dst undef) w'):o.wp Tryz.prog a w K Q:=
 have hC:Ce w b l:=hS.1 (aB b l) (by simp)
 have hs:=hC.store_ vs hl hi h1
 fI ho hx hy hs.1 (h _ (hS.upd (aB b vs) rfl ((Ch.refl _ _).sets (.inl (by simp[aB]))) hs.2))
end
theorem Ce.c2 {w:World}{b:Nat}{x y:Value}(h:Ce w b [x,y]):w.cell? ⟨b,0,none⟩=some x∧w.cell? ⟨b,1,none⟩=some y:=⟨h.2.1 0 _ rfl,h.2.1 1 _ rfl⟩
theorem Ce.c4 {w:World}{b:Nat}{x y z u:Value}(h:Ce w b [x,y,z,u]):w.cell? ⟨b,0,none⟩=some x∧w.cell? ⟨b,1,none⟩=some y∧w.cell? ⟨b,2,none⟩=some z∧w.cell? ⟨b,3,none⟩=some u:=⟨h.2.1 0 _ rfl,h.2.1 1 _ rfl,h.2.1 2 _ rfl,h.2.1 3 _ rfl⟩
theorem Ce.c13 {w:World}{b:Nat}{v0 v1 v2 v3 v4 v5 v6 v7 v8 v9 v10 v11 v12:Value}(h:Ce w b [v0,v1,v2,v3,v4,v5,v6,v7,v8,v9,v10,v11,v12]):w.cell? ⟨b,0,none⟩=some v0∧w.cell? ⟨b,1,none⟩=some v1∧w.cell? ⟨b,2,none⟩=some v2∧w.cell? ⟨b,3,none⟩=some v3∧w.cell? ⟨b,4,none⟩=some v4∧w.cell? ⟨b,5,none⟩=some v5∧w.cell? ⟨b,6,none⟩=some v6∧w.cell? ⟨b,7,none⟩=some v7∧w.cell? ⟨b,8,none⟩=some v8∧w.cell? ⟨b,9,none⟩=some v9∧w.cell? ⟨b,10,none⟩=some v10∧w.cell? ⟨b,11,none⟩=some v11∧w.cell? ⟨b,12,none⟩=some v12:=⟨h.2.1 0 _ rfl,h.2.1 1 _ rfl,h.2.1 2 _ rfl,h.2.1 3 _ rfl,h.2.1 4 _ rfl,h.2.1 5 _ rfl,h.2.1 6 _ rfl,h.2.1 7 _ rfl,h.2.1 8 _ rfl,h.2.1 9 _ rfl,h.2.1 10 _ rfl,h.2.1 11 _ rfl,h.2.1 12 _ rfl⟩
end Go.Proofs.YtalnfkijiehjhaaGreat
