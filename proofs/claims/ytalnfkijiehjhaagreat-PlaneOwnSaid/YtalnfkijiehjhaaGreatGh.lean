/- A wheel's places, as plain functions: whose turn it is, which place is taken, how many there are of each. Arrays of numbers, in blocks and as values. What is asked of keyed sums; a slot's course; Pick, Share, Same. A course goes on; its next place. -/
import Derived.Test.YtalnfkijiehjhaaGreatGa
import Derived.Test.YtalnfkijiehjhaaGreatGc
import Derived.Test.YtalnfkijiehjhaaGreatGsb
import Derived.BigQuiet
import Derived.Deep.RegionHeld3
import Derived.Deep.Cut
import Derived.Deep.LoopGhost
namespace Go.Proofs.YtalnfkijiehjhaaGreat
set_option linter.unusedVariables false
def cq (a b j:Nat):Nat:=(a+j*b)%127
theorem oQ (a b j:Nat):cq a b j<127:=Nat.mod_lt _ (by omega)
theorem Il:∀b,b<127→1≤b→(b*(b^125%127))%127=1:=by decide +kernel
theorem cover (a b p:Nat)(hb:1≤b∧b≤126)(hp:p<127):∃j,j<127∧cq a b j=p:=by
 have hi:=Il b (by omega) hb.1
 generalize b^125%127=c at hi
 refine⟨((p+127-a%127)*c)%127,Nat.mod_lt _ (by omega),?_⟩
 unfold cq
 have ha:a%127<127:=Nat.mod_lt _ (by omega)
 have h1:(((p+127-a%127)*c)%127*b)%127=(p+127-a%127)%127:=by
  rw[Nat.mod_mul_mod,Nat.mul_assoc,Nat.mul_comm c b,←Nat.mul_mod_mod,hi,Nat.mul_one]
 rw[Nat.add_mod,h1,←Nat.add_mod,Nat.add_mod,←Nat.add_mod]
 omega
def jw (f:Nat→Int)(x:Int):Nat→Nat
 |0=>0
 |n+1=>jw f x n+if f n=x then 1 else 0
def da (f:Nat→Int)(p:Nat)(v:Int):Nat→Int:=fun j=>if j=p then v else f j
theorem t4 (f:Nat→Int)(x v:Int){p:Nat}:∀{n},n≤p→jw (da f p v) x n=jw f x n
 |0,_=>rfl
 |n+1,h=>by
  have h1:da f p v n=f n:=by unfold da;rw[if_neg (by omega)]
  show jw (da f p v) x n+(if da f p v n=x then 1 else 0)=jw f x n+_
  rw[t4 f x v (by omega),h1]
theorem Bq (f:Nat→Int)(x v:Int){p:Nat}:∀{n},p<n→jw (da f p v) x n+(if f p=x then 1 else 0)=jw f x n+(if v=x then 1 else 0)
 |0,h=>absurd h (by omega)
 |n+1,h=>by
  by_cases e:p=n
  ·subst e
   show jw (da f p v) x p+(if da f p v p=x then 1 else 0)+_=jw f x p+(if f p=x then 1 else 0)+_
   rw[t4 f x v (Nat.le_refl _)]
   have:da f p v p=v:=by unfold da;simp
   rw[this]
   omega
  have ih:=Bq f x v (p:=p) (n:=n) (by omega)
  show jw (da f p v) x n+(if da f p v n=x then 1 else 0)+_=jw f x n+(if f n=x then 1 else 0)+_
  have:da f p v n=f n:=by unfold da;rw[if_neg (by omega)]
  rw[this]
  omega
theorem Bs (f:Nat→Int)(x:Int):∀{n},(∀j,j<n→f j=x)→jw f x n=n
 |0,_=>rfl
 |n+1,h=>by
  unfold jw
  rw[Bs f x (fun j hj=>h j (by omega)),if_pos (h n (by omega))]
theorem ET (f:Nat→Int)(x:Int):∀{n},(∀j,j<n→f j≠x)→jw f x n=0
 |0,_=>rfl
 |n+1,h=>by
  unfold jw
  rw[ET f x (fun j hj=>h j (by omega)),if_neg (h n (by omega))]
theorem Jg (f:Nat→Int)(x:Int){n:Nat}(h:0<jw f x n):∃p,p<n∧f p=x:=by
 apply Classical.byContradiction
 intro hc
 have:=ET f x (n:=n) (fun j hj e=>hc ⟨j,hj,e⟩)
 omega
theorem Br (f:Nat→Int)(x:Int):∀{n p:Nat},p<n→f p=x→0<jw f x n
 |0,_,hp,_=>absurd hp (by omega)
 |n+1,p,hp,h=>by
  show 0<jw f x n+(if f n=x then 1 else 0)
  by_cases e:p=n
  ·subst e;rw[if_pos h];omega
  have:=Br f x (n:=n) (p:=p) (by omega) h
  omega
def rY (f:Nat→Int)(a b:Nat):Nat:=((List.range 127).find? (fun j=>f (cq a b j) == -1)).getD 0
theorem xB {f:Nat→Int}{a b:Nat}(hb:1≤b∧b≤126)(h:0<jw f (-1) 127):rY f a b<127∧f (cq a b (rY f a b)) = -1∧∀j,j<rY f a b→f (cq a b j)≠-1:=by
 obtain ⟨p,hp,hf⟩:=Jg f _ h
 obtain ⟨j,hj,hjp⟩:=cover a b p hb hp
 unfold rY
 cases hfi:(List.range 127).find? (fun j=>f (cq a b j) == -1) with
 |none=>
  rw[List.find?_eq_none]at hfi
  have:=hfi j (by simpa using hj)
  rw[hjp,hf]at this
  simp at this
 |some k=>
  rw[List.find?_range_eq_some]at hfi
  obtain ⟨h1,h2,h3⟩:=hfi
  simp only[Option.getD_some]
  refine⟨by simpa using h2,by simpa using h1,fun i hi=>?_⟩
  have:=h3 i hi
  simpa using this
def bz (wt:Nat→Nat):Nat→Nat
 |0=>0
 |i+1=>bz wt i+wt i
theorem nQ (wt:Nat→Nat){i j:Nat}(h:i≤j):bz wt i≤bz wt j:=by
 induction j with
 |zero=>have:i=0:=by omega
        subst this;exact Nat.le_refl _
 |succ j ih=>
  by_cases e:i=j+1
  ·subst e;exact Nat.le_refl _
  have:=ih (by omega)
  show bz wt i≤bz wt j+wt j
  omega
def qm (wt:Nat→Nat)(r:Nat):Nat:=((List.range 64).find? (fun i=>decide (r<bz wt (i+1)))).getD 0
theorem xZ {wt:Nat→Nat}{i n:Nat}(hi:i<64)(hn:n<wt i):qm wt (bz wt i+n)=i:=by
 unfold qm
 have:(List.range 64).find? (fun k=>decide (bz wt i+n<bz wt (k+1)))=some i:=by
  rw[List.find?_range_eq_some]
  refine⟨by show decide (bz wt i+n<bz wt i+wt i)=true;simp;omega,by simpa using hi,fun k hk=>?_⟩
  have:=nQ wt (show k+1≤i by omega)
  simp
  omega
 rw[this]
 rfl
theorem Eo {wt:Nat→Nat}{r:Nat}(hr:r<bz wt 64):∃i n,i<64∧n<wt i∧r=bz wt i+n:=by
 have key:∀m,r<bz wt m→∃i n,i<m∧n<wt i∧r=bz wt i+n:=by
  intro m
  induction m with
  |zero=>intro h;exact absurd h (by simp[bz])
  |succ m ih=>
   intro h
   by_cases h2:r<bz wt m
   ·obtain ⟨i,n,h3,h4,h5⟩:=ih h2
    exact⟨i,n,by omega,h4,h5⟩
   have:bz wt (m+1)=bz wt m+wt m:=rfl
   exact⟨m,r-bz wt m,by omega,by omega,by omega⟩
 exact key 64 hr
def eT (wt at_ fh:Nat→Nat):Nat→Nat→Int
 |0=>fun _=> -1
 |k+1=>da (eT wt at_ fh k) (cq (at_ (qm wt (k%bz wt 64))) (fh (qm wt (k%bz wt 64))) (rY (eT wt at_ fh k) (at_ (qm wt (k%bz wt 64))) (fh (qm wt (k%bz wt 64))))) (qm wt (k%bz wt 64))
section
variable {wt at_ fh:Nat→Nat}
theorem sw (hT:0<bz wt 64)(hb:∀i,i<64→0<wt i→1≤fh i∧fh i≤126):∀k,k≤127→jw (eT wt at_ fh k) (-1) 127=127-k
 |0,_=>Bs _ _ (fun _ _=>rfl)
 |k+1,h=>by
  have ih:=sw hT hb k (by omega)
  obtain ⟨i,n,h1,h2,h3⟩:=Eo (wt:=wt) (r:=k%bz wt 64) (Nat.mod_lt _ hT)
  have hsl:qm wt (k%bz wt 64)=i:=by rw[h3];exact xZ h1 h2
  have hs:=xB (f:=eT wt at_ fh k) (a:=at_ i) (b:=fh i) (hb i h1 (by omega)) (by rw[ih];omega)
  unfold eT
  rw[hsl]
  have hc:=Bq (eT wt at_ fh k) (-1) (i:Int) (p:=cq (at_ i) (fh i) (rY (eT wt at_ fh k) (at_ i) (fh i))) (n:=127) (oQ _ _ _)
  rw[if_pos hs.2.1,if_neg (by omega)]at hc
  omega
theorem uB (hT:0<bz wt 64):∀k p,eT wt at_ fh k p = -1∨∃i:Nat,i<64∧0<wt i∧eT wt at_ fh k p=i
 |0,p=>.inl rfl
 |k+1,p=>by
  obtain ⟨s,n,h1,h2,h3⟩:=Eo (wt:=wt) (r:=k%bz wt 64) (Nat.mod_lt _ hT)
  have hsl:qm wt (k%bz wt 64)=s:=by rw[h3];exact xZ h1 h2
  unfold eT
  rw[hsl]
  unfold da
  split
  ·exact .inr ⟨s,h1,by omega,rfl⟩
  exact uB hT k p
theorem wT (hT:0<bz wt 64)(hb:∀i,i<64→0<wt i→1≤fh i∧fh i≤126)(p:Nat)(hp:p<127):∃i:Nat,i<64∧0<wt i∧eT wt at_ fh 127 p=i:=by
 rcases uB (at_:=at_) (fh:=fh) hT 127 p with h |h
 ·have:=Br _ _ hp h
  have h2:=sw (at_:=at_) hT hb 127 (by omega)
  omega
 exact h
end
set_option linter.unusedSimpArgs false
open Go.RowKit Go.ChangeShapes Go.WideShapes Go.ChangeAt
def il (n:Nat)(f:Nat→Int):List Value:=(List.range n).map fun j=>.int .i64 (f j)
def ia (n:Nat)(f:Nat→Int):Array Value:=(il n f).toArray
theorem kQ (n:Nat)(f:Nat→Int):(il n f).length=n:=by unfold il;simp
theorem js (n:Nat)(f:Nat→Int):(ia n f).size=n:=by unfold ia;simp[kQ]
theorem us (n:Nat)(f:Nat→Int)(j:Nat)(h:j<n):(il n f)[j]? = some (.int .i64 (f j)):=by unfold il;simp[h]
theorem EJ (n:Nat)(f:Nat→Int)(j:Nat)(h:j<n):(ia n f)[j]? = some (.int .i64 (f j)):=by unfold ia;simp[us n f j h]
theorem Iq (n:Nat)(f:Nat→Int):(ia n f).all (·.oneCell')=true:=by
 unfold ia
 refine all_oneCell_toArray fun v hv=>?_
 unfold il at hv
 simp only[List.mem_map]at hv
 obtain ⟨j,_,rfl⟩:=hv
 rfl
def IA (w:World)(b n:Nat)(f:Nat→Int):Prop:=b<w.heap.size∧(∀j,j<n→w.cell? ⟨b,j,none⟩=some (.int .i64 (f j)))∧∀j,w.frozen? ⟨b,j,none⟩=false
theorem wJ (w:World)(row:Option Nat):w.grownBy w.drew row:=⟨rfl,rfl,rfl,Nat.le_refl _,fun _ _ _=>rfl⟩
section
variable {w w':World}{b n:Nat}{f g:Nat→Int}
theorem IA.below (h:IA w b n f)(hb:Below w.heap.size w w'):IA w' b n f:=
 ⟨Nat.lt_of_lt_of_le h.1 hb.size,fun j hj=>(hb.cell (p:=⟨b,j,none⟩) h.1).trans (h.2.1 j hj),fun j=>(World.frozen?_of_block (a:=⟨b,j,none⟩) (hb.block b h.1)).trans (h.2.2 j)⟩
theorem IA.alloc (h:IA w b n f)(o:Obj):IA (w.alloc o) b n f:=h.below ((Below.refl _ _).alloc (Nat.le_refl _) o)
theorem IA.drew (h:IA w b n f):IA w.drew b n f:=h
theorem IA.drewN (h:IA w b n f)(k:Nat):IA (w.drewN k) b n f:=h
theorem IA.grown {row:Option Nat}(h:IA w b n f)(hg:w.grownBy w' row)(hne:row≠some b):IA w' b n f:=
 have hb:=hg.block b h.1 (fun e=>hne e.symm)
 ⟨Nat.lt_of_lt_of_le h.1 hg.size,fun j hj=>(World.cell?_of_block (a:=⟨b,j,none⟩) hb).trans (h.2.1 j hj),fun j=>(World.frozen?_of_block (a:=⟨b,j,none⟩) hb).trans (h.2.2 j)⟩
theorem IA.fQ (h:IA w b n f)(hf:∀j,j<n→f j=g j):IA w b n g:=⟨h.1,fun j hj=>by rw[h.2.1 j hj,hf j hj],h.2.2⟩
theorem IA.made {T:TypeId}{d:Nat}(hd:w.heap.size=d):IA (w.alloc (.cells (ia n f) T)) d n f:=by
 subst hd
 have h:(w.alloc (.cells (ia n f) T)).heap[w.heap.size]? = some (.cells (ia n f) T (0,0)):=heap_alloc_new w _
 refine⟨by simp,fun j hj=>?_,fun j=>frozen_of_row _ _ _ _ _ h⟩
 rw[cell_of_row _ w.heap.size j _ T (0,0) h,EJ n f j hj]
theorem IA.other (h:IA w b n f){c j:Nat}{v:Value}(hne:c≠b):IA (w.setCell ⟨c,j,none⟩ v) b n f:=
 ⟨by simpa using h.1,fun i hi=>by rw[World.cell?_setCell_other _ _ _ _ (fun e=>hne (by cases e;rfl))];exact h.2.1 i hi,fun i=>by rw[World.frozen?_setCell];exact h.2.2 i⟩
theorem IA.others (h:IA w b n f){c o:Nat}{vs:List Value}(hne:c≠b)(hn:0<n):IA (w.setCells c o vs) b n f:=by
 refine⟨?_,fun i hi=>?_,fun i=>by rw[World.frozen?_setCells];exact h.2.2 i⟩
 ·have h2:(w.setCells c o vs).cell? ⟨b,0,none⟩=some (.int .i64 (f 0)):=by rw[World.cell?_setCells_out c vs o w _ (fun e _=>absurd e.symm hne)];exact h.2.1 0 hn
  exact World.block_lt_of_cell? _ _ h2
 rw[World.cell?_setCells_out c vs o w _ (fun e _=>absurd e.symm hne)];exact h.2.1 i hi
theorem IA.set (h:IA w b n f)(j:Nat)(hj:j<n)(x:Int):IA (w.setCell ⟨b,j,none⟩ (.int .i64 x)) b n (da f j x):=by
 refine⟨by simpa using h.1,fun i hi=>?_,fun i=>by rw[World.frozen?_setCell];exact h.2.2 i⟩
 unfold da
 by_cases e:i=j
 ·subst e
  rw[if_pos rfl]
  exact World.cell?_setCell_same _ _ _ (h.2.1 i hi)
 rw[if_neg e,World.cell?_setCell_other _ _ _ _ (fun x=>e (by injection x with _ x;exact x.symm))]
 exact h.2.1 i hi
theorem IA.whole (h:IA w b n f)(g:Nat→Int)(hn:0<n):IA (w.setCells b 0 (ia n g).toList) b n g:=by
 have e:(ia n g).toList=il n g:=rfl
 rw[e]
 have hc:∀j,j<n→(w.setCells b 0 (il n g)).cell? ⟨b,j,none⟩=some (.int .i64 (g j)):=by
  intro j hj
  have:=World.cell?_setCells_in b (il n g) 0 w (fun i hi=>by rw[Nat.zero_add,h.2.1 i (by rwa [kQ]at hi)];rfl) j (by rw[kQ];exact hj)
  rw[Nat.zero_add]at this
  rw[this]
  have h2:=us n g j hj
  rw[List.getElem?_eq_getElem (by rw[kQ];exact hj)]at h2
  exact h2
 exact⟨World.block_lt_of_cell? _ _ (hc 0 hn),hc,fun i=>by rw[World.frozen?_setCells];exact h.2.2 i⟩
theorem qYT{P:Prop}(h:P:=by
 have hl:j<n:=by
  have:=(List.getElem?_eq_some_iff.1 hj).1
  rwa [kQ]at this
 rw[us n f j hl]at hj
 rw[Nat.zero_add,h.2.1 j hl,hj]
 ):P:=h
theorem IA.load {T:TypeId}{d:TypeDesc}(h:IA w b n f)(hu:Tryz.prog.underlying T=some d)(hd:d.isRow=true)(hi:(Tryz.prog.info? T).map (·.size)=some n) :
 (Instr.loadAt T (.pointer (some ⟨b,0,none⟩))).run Tryz.prog w =.ok (.agg (ia n f)) w:=by
 refine run_loadAt_mid w b 0 T (il n f) d (fun j v hj=>?_) hu hd (by rw[kQ];exact hi)
 exact qYT
theorem IA.store {T:TypeId}(h:IA w b n f)(g:Nat→Int)(hi:(Tryz.prog.info? T).map (·.size)=some n) :
 (Instr.storeAt T (.pointer (some ⟨b,0,none⟩)) (.agg (ia n g))).run Tryz.prog w =.ok () (w.setCells b 0 (ia n g).toList):=by
 refine run_storeAt_mid w b 0 T (ia n g) (fun j hj=>?_) (by rw[js];exact hi) (Iq n g)
 rw[js]at hj
 rw[Nat.zero_add,h.2.1 j hj]
 exact⟨rfl,h.2.2 j⟩
theorem IA.slice (h:IA w b n f):Is w (some ⟨b,0,none⟩) n f:=fun h0=>⟨b,0,rfl,h.1,fun j hj=>by rw[Nat.zero_add];exact h.2.1 j hj⟩
end
theorem yD {w w':World}{b j:Nat}{v:Value}(h:w.grownBy w' (some b)):w.grownBy (w'.setCell ⟨b,j,none⟩ v) (some b):=by
 have hb:=aH b [v] j w' b (Nat.le_refl _)
 have hs:(w'.setCell ⟨b,j,none⟩ v).heap.size=w'.heap.size:=by simp
 refine⟨h.os,h.tape,h.output,by rw[hs];exact h.size,fun k hk hne=>?_⟩
 have hkb:k≠b:=fun e=>hne (by rw[e])
 rw[←h.block k hk hne]
 exact Below.heap_setCell _ _ _ _ hkb
theorem oK (a b:Int)(f:Nat→Int)(n:Nat):U (iH a b f n):=by
 unfold iH sY
 exact gT _ _
def S3 (x y z:Int):Int:=iH 0 0 (fun j=>[x,y,z].getD j 0) 3
def S5 (f:Fl):Int:=iH 0 0 (fun j=>[3,f.a,f.p,f.ta,f.tp].getD j 0) 5
def pB (a p:Int):Int:=S3 1 a p%127
def pz (a p:Int):Int:=S3 2 a p%126+1
def jI (f:Fl):Int:=S5 f%127
theorem yA {x y z:Int}(hx:dW x)(hy:dW y)(hz:dW z):qH (fun j=>[x,y,z].getD j 0):=by
 intro j
 unfold dW at hx hy hz
 rcases j with _ | _ | _ |j
 ·exact hx
 ·exact hy
 ·exact hz
 exact(by show (-9223372036854775808:Int)≤0∧(0:Int)≤9223372036854775807;decide)
def Fl.H6 (f:Fl):Prop:=dW f.a∧dW f.p∧dW f.ta∧dW f.tp
theorem Ik {f:Fl}(hf:Fl.H6 f):qH (fun j=>[3,f.a,f.p,f.ta,f.tp].getD j 0):=by
 intro j
 obtain ⟨h1,h2,h3,h4⟩:=hf
 rcases j with _ | _ | _ | _ | _ |j
 ·exact(by show (-9223372036854775808:Int)≤3∧(3:Int)≤9223372036854775807;decide)
 ·exact h1
 ·exact h2
 ·exact h3
 ·exact h4
 exact(by show (-9223372036854775808:Int)≤0∧(0:Int)≤9223372036854775807;decide)
theorem vF (a p:Int):0≤pB a p∧pB a p<127:=by unfold pB;omega
theorem vE (a p:Int):1≤pz a p∧pz a p≤126:=by unfold pz;omega
theorem uY (f:Fl):0≤jI f∧jI f<127:=by unfold jI;omega
set_option maxRecDepth 100000 in
theorem td (m:Int)(hm:m=127∨m=126)(A:Option Addr)(n c:Nat)(f:Nat→Int)(w:World)(h:Is w A n f)(hf:qH f)(hn:n≤1000) :
 Calls Tryz.prog 110 #[.int .u64 m,.slice A n c] w fun e w'=>e =.returned (.int .i64 (iH 0 0 f n%m))∧Below w.heap.size w w':=by
 have WD:=hid (fun (w:World) (h:Is w A n f)=>mn 0 0 A n c f w h hf (by omega))
 obtain ⟨s,hs⟩:∃s,s=iH 0 0 f n:=⟨_,rfl⟩
 have hU:=oK 0 0 f n
 rw[←hs]at WD hU ⊢
 clear hs
 obtain ⟨u1,u2⟩:=hU
 rcases hm with rfl |rfl
 all_goals
  go_enter Tryz.func110,Tryz.ntmps110
  go_wp2_with fail
  refine(WD.out _ h).mono ?_
  rintro e w1 ⟨rfl,hb⟩
  go_wp2_with fail
  go_ret
  exact⟨rfl,hb⟩
set_option maxRecDepth 100000 in
theorem Ao (st a p we si:Int)(ha:dW a)(hp:dW p)(w:World) :
 Calls Tryz.prog 74 #[.agg #[st,a,p,we,si]] w fun e w'=>e =.returned (.tuple #[(pB a p),(pz a p)])∧Below w.heap.size w w':=by
 have W1:=hid (fun (A:Option Addr) (w:World) (h:Is w A 3 (fun j=>[1,a,p].getD j 0))=>lk 0 0 A 3 3 _ w h (yA (by unfold dW;decide) ha hp) (by omega))
 have W2:=hid (fun (A:Option Addr) (w:World) (h:Is w A 3 (fun j=>[2,a,p].getD j 0))=>lk 0 0 A 3 3 _ w h (yA (by unfold dW;decide) ha hp) (by omega))
 have iw:=oK 0 0 (fun j=>[1,a,p].getD j 0) 3
 have m9:=oK 0 0 (fun j=>[2,a,p].getD j 0) 3
 unfold pB pz S3
 generalize iH 0 0 (fun j=>[1,a,p].getD j 0) 3=s1 at *
 generalize iH 0 0 (fun j=>[2,a,p].getD j 0) 3=s2 at *
 obtain ⟨u1,u2⟩:=iw
 obtain ⟨v1,v2⟩:=m9
 go_enter Tryz.func74,Tryz.ntmps74
 go_upto_region 1 with (fail)
 have C0:=Ce.made (w:=w) (l:=[st,a,p,we,si]) (T:=26) (g:=w.heap.size) rfl
 have B0:=(Below.refl w.heap.size w).alloc (Nat.le_refl _) (.cells #[st,a,p,we,si] 26)
 generalize w.alloc (.cells #[st,a,p,we,si] 26)=w1 at *
 have HC:=hid C0
 have HB:=hid B0
 have x1:=C0.2.1 1 _ rfl
 have x2:=C0.2.1 2 _ rfl
 clear C0 B0
 go_wp2_with fail
 refine(W1.out _ _ (gl .i64 [1,a,p] rfl)).mono ?_
 rintro e w2 ⟨rfl,hb⟩
 clear x1 x2
 have cI:=hid ((HC.out.alloc _).below hb)
 have HB2:=hid ((HB.out.alloc HB.out.size _).trans (hb.mono (by have:=HB.out.size;simp;omega)))
 clear hb HC HB
 have x1:=cI.out.2.1 1 _ rfl
 have x2:=cI.out.2.1 2 _ rfl
 go_wp2_with fail
 refine(W2.out _ _ (gl .i64 [2,a,p] rfl)).mono ?_
 rintro e w3 ⟨rfl,hb⟩
 have HB3:=hid ((HB2.out.alloc HB2.out.size _).trans (hb.mono (by have:=HB2.out.size;simp;omega)))
 clear hb x1 x2 cI HB2
 go_wp2_with fail
 go_ret2
 exact⟨rfl,HB3.out⟩
set_option maxRecDepth 100000 in
set_option maxHeartbeats 4000000 in
theorem uZ (A:Option Addr)(c:Nat)(g:Nat→Int)(f:Fl)(hf:Fl.H6 f)(w:World)(hr:Is w A 127 g) :
 Calls Tryz.prog 89 #[.slice A 127 c,ff f] w fun e w'=>e =.returned (.int .i64 (g (jI f).toNat))∧Below w.heap.size w w':=by
 have HR:=hid hr
 clear hr
 obtain ⟨fa,fp,ft,fq⟩:=f
 unfold ff
 simp only
 have W1:=hid (fun (A:Option Addr) (w:World) (h:Is w A 5 (fun j=>[3,fa,fp,ft,fq].getD j 0))=>td 127 (.inl rfl) A 5 5 _ w h (Ik hf) (by omega))
 have iw:=oK 0 0 (fun j=>[3,fa,fp,ft,fq].getD j 0) 5
 unfold jI S5
 simp only
 generalize iH 0 0 (fun j=>[3,fa,fp,ft,fq].getD j 0) 5=s1 at *
 obtain ⟨u1,u2⟩:=iw
 obtain ⟨j,hj⟩:∃j:Nat,s1%127=j:=⟨(s1%127).toNat,by omega⟩
 have j1:j<127:=by omega
 have HJ:=hid hj
 rw[hj]at W1 ⊢
 simp only[Int.toNat_natCast]
 clear hj
 go_enter Tryz.func89,Tryz.ntmps89
 go_upto_region 1 with (fail)
 have C0:=Ce.made (w:=w) (l:=[fa,fp,ft,fq]) (T:=141) (g:=w.heap.size) rfl
 have B0:=(Below.refl w.heap.size w).alloc (Nat.le_refl _) (.cells #[fa,fp,ft,fq] 141)
 generalize w.alloc (.cells #[fa,fp,ft,fq] 141)=w1 at *
 have HB:=hid B0
 have x0:=C0.2.1 0 _ rfl
 have x1:=C0.2.1 1 _ rfl
 have x2:=C0.2.1 2 _ rfl
 have x3:=C0.2.1 3 _ rfl
 clear C0 B0
 go_wp2_with fail
 refine(W1.out _ _ (gl .i64 [3,fa,fp,ft,fq] rfl)).mono ?_
 rintro e w2 ⟨rfl,hb⟩
 clear x0 x1 x2 x3
 have HB2:=hid ((HB.out.alloc HB.out.size _).trans (hb.mono (by have:=HB.out.size;simp;omega)))
 clear hb HB
 have R2:=Sl.below HR.out HB2.out (Nat.le_refl _)
 obtain ⟨bb,off,rfl⟩:=Sl.addr R2 (by omega)
 have xc:=Sl.at_ R2 (j:=j) j1
 clear R2
 have j2:(j:Int)<127:=by omega
 have j0:(0:Int)≤j:=by omega
 go_wp2_with fail
 go_ret
 exact⟨rfl,HB2.out⟩
set_option maxRecDepth 100000 in
set_option maxHeartbeats 4000000 in
theorem tG (A:Option Addr)(c:Nat)(g:Nat→Int)(f:Fl)(hf:Fl.H6 f)(w:World)(hr:Is w A 127 g) :
 Calls Tryz.prog 102 #[.slice A 127 c,ff f] w fun e w'=>e =.returned (.int .i64 (g (jI f).toNat))∧Below w.heap.size w w':=by
 have HR:=hid hr
 clear hr
 obtain ⟨fa,fp,ft,fq⟩:=f
 unfold ff
 simp only
 have W1:=hid (fun (A:Option Addr) (w:World) (h:Is w A 5 (fun j=>[3,fa,fp,ft,fq].getD j 0))=>lk 0 0 A 5 5 _ w h (Ik hf) (by omega))
 have iw:=oK 0 0 (fun j=>[3,fa,fp,ft,fq].getD j 0) 5
 unfold jI S5
 simp only
 generalize iH 0 0 (fun j=>[3,fa,fp,ft,fq].getD j 0) 5=s1 at *
 obtain ⟨u1,u2⟩:=iw
 obtain ⟨j,hj⟩:∃j:Nat,s1%127=j:=⟨(s1%127).toNat,by omega⟩
 have j1:j<127:=by omega
 have HJ:=hid hj
 rw[hj]
 simp only[Int.toNat_natCast]
 clear hj
 go_enter Tryz.func102,Tryz.ntmps102
 go_upto_region 1 with (fail)
 have C0:=Ce.made (w:=w) (l:=[fa,fp,ft,fq]) (T:=141) (g:=w.heap.size) rfl
 have B0:=(Below.refl w.heap.size w).alloc (Nat.le_refl _) (.cells #[fa,fp,ft,fq] 141)
 generalize w.alloc (.cells #[fa,fp,ft,fq] 141)=w1 at *
 have HB:=hid B0
 have x0:=C0.2.1 0 _ rfl
 have x1:=C0.2.1 1 _ rfl
 have x2:=C0.2.1 2 _ rfl
 have x3:=C0.2.1 3 _ rfl
 clear C0 B0
 go_wp2_with fail
 refine(W1.out _ _ (gl .i64 [3,fa,fp,ft,fq] rfl)).mono ?_
 rintro e w2 ⟨rfl,hb⟩
 clear x0 x1 x2 x3
 have HB2:=hid ((HB.out.alloc HB.out.size _).trans (hb.mono (by have:=HB.out.size;simp;omega)))
 clear hb HB
 have R2:=Sl.below HR.out HB2.out (Nat.le_refl _)
 obtain ⟨bb,off,rfl⟩:=Sl.addr R2 (by omega)
 have xc:=Sl.at_ R2 (j:=j) j1
 clear R2
 have j2:(j:Int)<127:=by omega
 have j0:(0:Int)≤j:=by omega
 have e9:s1%127=j:=HJ.out
 go_wp2_with fail
 go_ret
 exact⟨rfl,HB2.out⟩
set_option maxRecDepth 100000 in
set_option maxHeartbeats 4000000 in
theorem As (C o:Nat)(ho:o+1<128)(g:Nat→Int)(a:Int)(h0:0≤g o∧g o<127)(h1:1≤g (o+1)∧g (o+1)≤126)(he:(g o+g (o+1)).tmod 127=a)(w:World)(h:IA w C 128 g) :
 Calls Tryz.prog 111 #[.pointer (some ⟨C,o,none⟩)] w fun e w'=>e =.returned (.tuple #[])∧IA w' C 128 (da g o a)∧w.grownBy w' (some C):=by
 obtain ⟨h01,h02⟩:=h0
 obtain ⟨h11,h12⟩:=h1
 have HI:=hid h
 have HE:=hid he
 have hw:IntKind.i64.wrap (g o+g (o+1))=g o+g (o+1):=IntWalk.i64_in _ (by omega)
 have c0:=h.2.1 o (by omega)
 have c1:=h.2.1 (o+1) (by omega)
 have z0:=h.2.2 o
 generalize g o=x at *
 generalize g (o+1)=y at *
 clear h
 go_enter Tryz.func111,Tryz.ntmps111
 go_upto_region 0 with (fail)
 go_region
 all_goals
  go_wp2_with fail
  go_end0
  refine⟨rfl,?_,?_⟩
  ·exact HI.out.drew.set o (by omega) a
  exact yD (wJ w _)
theorem uW (a b t:Nat):((cq a b t:Nat):Int)+b=((cq a b t+b:Nat):Int)∧(((cq a b t:Nat):Int)+b).tmod 127=(cq a b (t+1):Nat):=by
 refine⟨by omega,?_⟩
 have h:(cq a b t+b)%127=cq a b (t+1):=by unfold cq;rw[Nat.mod_add_mod,Nat.add_assoc,←Nat.succ_mul]
 rw[show ((cq a b t:Nat):Int)+b=((cq a b t+b:Nat):Int) by omega,Int.tmod_eq_emod_of_nonneg (by omega),←h]
 omega
theorem dp (g:Nat→Int)(o:Nat)(x:Int):da g o x o=x:=by unfold da;simp
theorem eh (g:Nat→Int){o j:Nat}(x:Int)(h:j≠o):da g o x j=g j:=by unfold da;rw[if_neg h]
theorem qW (g:Nat→Int)(o:Nat)(x y:Int):da (da g o x) o y=da g o y:=by
 funext j
 unfold da
 split <;> rfl
set_option maxRecDepth 100000 in
set_option maxHeartbeats 4000000 in
theorem yq (C o B c a b k F:Nat)(ho:o+1<128)(hne:C≠B)(hb:1≤b∧b≤126)(g f:Nat→Int)(g0:g o=(cq a b k:Nat))(g1:g (o+1)=b)(HK:Hid (∀j,j<k→f (cq a b j)≠-1))
 (hF:f (cq a b F) = -1) (hno:∀j,j<F→f (cq a b j)≠-1) (w:World) (h:IA w C 128 g) (hB:IA w B 127 f) :
 Calls Tryz.prog 73 #[.pointer (some ⟨C,o,none⟩),.slice (some ⟨B,0,none⟩) 127 c] w fun e w'=>e =.returned (.int .i64 (cq a b F:Nat))∧IA w' C 128 (da g o (cq a b (F+1):Nat))∧w.grownBy w' (some C):=by
 have HF:=hid hF
 have HN:=hid hno
 have HB:=hid hB
 clear hno hB
 have b1:1≤(b:Int):=by omega
 have b2:(b:Int)≤126:=by omega
 have hge:k≤F:=by
  rcases Nat.lt_or_ge F k with h |h
  ·exact absurd hF (HK.out F h)
  exact h
 have ho':o+1<128:=ho
 have h0:=hid (show IA w C 128 (da g o (cq a b k:Nat)) from h.fQ (fun j _=>by by_cases e:j=o;(subst e;rw[dp,g0]);(rw[eh _ _ e])))
 have G1:=hid g1
 clear h g0 g1 hF
 go_enter Tryz.func73,Tryz.ntmps73
 go_wp2_with fail
 go_loopg [] (F-k) (fun gh wr=>∃t,k≤t∧gh=F-t∧t≤F∧IA wr C 128 (da g o (cq a b t:Nat))∧w.grownBy wr (some C))
 case atStart=>exact⟨k,Nat.le_refl _,rfl,hge,h0.out,World.grownBy.refl w _⟩
 obtain ⟨t,ht,rfl,N8,hC,hg⟩:=hrel
 have HC:=hid hC
 have HG:=hid hg
 clear hC hg h0
 have hp:=oQ a b t
 have hBr:=HB.out.grown HG.out (fun e=>hne (by injection e))
 have c0:=HC.out.2.1 o (by omega)
 rw[dp]at c0
 have cb:=hBr.2.1 (cq a b t) hp
 clear hBr
 have p0:(0:Int)≤(cq a b t:Nat):=by omega
 have p1:((cq a b t:Nat):Int)<127:=by omega
 have p2:((cq a b t:Nat):Int)≤127:=by omega
 by_cases hlt:t<F
 ·have hf:=HN.out t hlt
  have bf:(f (cq a b t) != -1)=true:=by simpa using hf
  clear hf
  have ON:=hid (fun (w0:World) (h:IA w0 C 128 (da g o (cq a b t:Nat)))=>As C o ho' (da g o (cq a b t:Nat)) (cq a b (t+1):Nat) (by rw[dp];omega) (by rw[eh _ _ (by omega),G1.out];omega) (by rw[dp,eh _ _ (by omega),G1.out];exact(uW a b t).2) w0 h)
  generalize hq:cq a b t=q at *
  have HQ:=hid hq
  clear hq
  go_wp2_with fail
  refine(ON.out _ HC.out).mono ?_
  rintro e w2 ⟨rfl,h2,hg2⟩
  have H2:=hid h2
  have HG2:=hid (HG.out.trans hg2)
  clear h2 hg2 HG ON c0 cb
  go_wp2_with fail
  go_roundg (F-(t+1))
  case measure=>omega
  exact⟨t+1,by omega,rfl,hlt,by have:=H2.out;rw[qW]at this;exact this,HG2.out⟩
 have e:t=F:=by omega
 subst e
 have bf:(f (cq a b t) != -1)=false:=by rw[HF.out];rfl
 have ON:=hid (fun (w0:World) (h:IA w0 C 128 (da g o (cq a b t:Nat)))=>As C o ho' (da g o (cq a b t:Nat)) (cq a b (t+1):Nat) (by rw[dp];omega) (by rw[eh _ _ (by omega),G1.out];omega) (by rw[dp,eh _ _ (by omega),G1.out];exact(uW a b t).2) w0 h)
 generalize hq:cq a b t=q at *
 have HQ:=hid hq
 clear hq
 go_wp2_with fail
 refine(ON.out _ HC.out).mono ?_
 rintro e w2 ⟨rfl,h2,hg2⟩
 have H2:=hid h2
 have HG2:=hid (HG.out.trans hg2)
 clear h2 hg2 HG ON c0 cb
 go_wp2_with fail
 go_ret
 exact⟨by rw[HQ.out];rfl,by have:=H2.out;rw[qW]at this;exact this,HG2.out⟩
end Go.Proofs.YtalnfkijiehjhaaGreat
