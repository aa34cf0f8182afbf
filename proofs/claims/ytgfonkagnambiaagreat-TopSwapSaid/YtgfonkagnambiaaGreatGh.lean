/- A wheel's places, as plain functions: whose turn it is, which place is taken, how many there are of each. Arrays of numbers, in blocks and as values. What is asked of keyed sums; a slot's course; Pick, Share, Same. A course goes on; its next place. -/
import Derived.Test.YtgfonkagnambiaaGreatGa
import Derived.Test.YtgfonkagnambiaaGreatGc
import Derived.Test.YtgfonkagnambiaaGreatGsb
import Derived.BigQuiet
import Derived.Deep.RegionHeld3
import Derived.Deep.Cut
import Derived.Deep.LoopGhost
namespace Go.Proofs.YtgfonkagnambiaaGreat
set_option linter.unusedVariables false
def bU (a b j:Nat):Nat:=(a+j*b)%127
theorem rM (a b j:Nat):bU a b j<127:=Nat.mod_lt _ (by omega)
theorem Em:∀b,b<127→1≤b→(b*(b^125%127))%127=1:=by decide +kernel
theorem cover (a b p:Nat)(hb:1≤b∧b≤126)(hp:p<127):∃j,j<127∧bU a b j=p:=by
 have hi:=Em b (by omega) hb.1
 generalize b^125%127=c at hi
 refine⟨((p+127-a%127)*c)%127,Nat.mod_lt _ (by omega),?_⟩
 unfold bU
 have ha:a%127<127:=Nat.mod_lt _ (by omega)
 have h1:(((p+127-a%127)*c)%127*b)%127=(p+127-a%127)%127:=by
  rw[Nat.mod_mul_mod,Nat.mul_assoc,Nat.mul_comm c b,←Nat.mul_mod_mod,hi,Nat.mul_one]
 rw[Nat.add_mod,h1,←Nat.add_mod,Nat.add_mod,←Nat.add_mod]
 omega
def ie (f:Nat→Int)(x:Int):Nat→Nat
 |0=>0
 |n+1=>ie f x n+if f n=x then 1 else 0
def cL (f:Nat→Int)(p:Nat)(v:Int):Nat→Int:=fun j=>if j=p then v else f j
theorem qJ (f:Nat→Int)(x v:Int){p:Nat}:∀{n},n≤p→ie (cL f p v) x n=ie f x n
 |0,_=>rfl
 |n+1,h=>by
  have h1:cL f p v n=f n:=by unfold cL;rw[if_neg (by omega)]
  show ie (cL f p v) x n+(if cL f p v n=x then 1 else 0)=ie f x n+_
  rw[qJ f x v (by omega),h1]
theorem xW (f:Nat→Int)(x v:Int){p:Nat}:∀{n},p<n→ie (cL f p v) x n+(if f p=x then 1 else 0)=ie f x n+(if v=x then 1 else 0)
 |0,h=>absurd h (by omega)
 |n+1,h=>by
  by_cases e:p=n
  ·subst e
   show ie (cL f p v) x p+(if cL f p v p=x then 1 else 0)+_=ie f x p+(if f p=x then 1 else 0)+_
   rw[qJ f x v (Nat.le_refl _)]
   have:cL f p v p=v:=by unfold cL;simp
   rw[this]
   omega
  have ih:=xW f x v (p:=p) (n:=n) (by omega)
  show ie (cL f p v) x n+(if cL f p v n=x then 1 else 0)+_=ie f x n+(if f n=x then 1 else 0)+_
  have:cL f p v n=f n:=by unfold cL;rw[if_neg (by omega)]
  rw[this]
  omega
theorem xY (f:Nat→Int)(x:Int):∀{n},(∀j,j<n→f j=x)→ie f x n=n
 |0,_=>rfl
 |n+1,h=>by
  unfold ie
  rw[xY f x (fun j hj=>h j (by omega)),if_pos (h n (by omega))]
theorem AX (f:Nat→Int)(x:Int):∀{n},(∀j,j<n→f j≠x)→ie f x n=0
 |0,_=>rfl
 |n+1,h=>by
  unfold ie
  rw[AX f x (fun j hj=>h j (by omega)),if_neg (h n (by omega))]
theorem Fc (f:Nat→Int)(x:Int){n:Nat}(h:0<ie f x n):∃p,p<n∧f p=x:=by
 apply Classical.byContradiction
 intro hc
 have:=AX f x (n:=n) (fun j hj e=>hc ⟨j,hj,e⟩)
 omega
theorem xX (f:Nat→Int)(x:Int):∀{n p:Nat},p<n→f p=x→0<ie f x n
 |0,_,hp,_=>absurd hp (by omega)
 |n+1,p,hp,h=>by
  show 0<ie f x n+(if f n=x then 1 else 0)
  by_cases e:p=n
  ·subst e;rw[if_pos h];omega
  have:=xX f x (n:=n) (p:=p) (by omega) h
  omega
def qz (f:Nat→Int)(a b:Nat):Nat:=((List.range 127).find? (fun j=>f (bU a b j) == -1)).getD 0
theorem uz {f:Nat→Int}{a b:Nat}(hb:1≤b∧b≤126)(h:0<ie f (-1) 127):qz f a b<127∧f (bU a b (qz f a b)) = -1∧∀j,j<qz f a b→f (bU a b j)≠-1:=by
 obtain ⟨p,hp,hf⟩:=Fc f _ h
 obtain ⟨j,hj,hjp⟩:=cover a b p hb hp
 unfold qz
 cases hfi:(List.range 127).find? (fun j=>f (bU a b j) == -1) with
 |none=>
  rw[List.find?_eq_none]at hfi
  have:=hfi j (by simpa using hj)
  rw[hjp,hf]at this
  simp at this
 |some k=>
  rw[List.find?_range_eq_some]at hfi
  obtain ⟨h1,h2,h3⟩:=hfi
  simp only[Option.getD_some]
  refine⟨by simpa using h2,by simpa using h1,fun i hi=>?_⟩
  have:=h3 i hi
  simpa using this
def bE (wt:Nat→Nat):Nat→Nat
 |0=>0
 |i+1=>bE wt i+wt i
theorem ot (wt:Nat→Nat){i j:Nat}(h:i≤j):bE wt i≤bE wt j:=by
 induction j with
 |zero=>have:i=0:=by omega
        subst this;exact Nat.le_refl _
 |succ j ih=>
  by_cases e:i=j+1
  ·subst e;exact Nat.le_refl _
  have:=ih (by omega)
  show bE wt i≤bE wt j+wt j
  omega
def nM (wt:Nat→Nat)(r:Nat):Nat:=((List.range 64).find? (fun i=>decide (r<bE wt (i+1)))).getD 0
theorem uY {wt:Nat→Nat}{i n:Nat}(hi:i<64)(hn:n<wt i):nM wt (bE wt i+n)=i:=by
 unfold nM
 have:(List.range 64).find? (fun k=>decide (bE wt i+n<bE wt (k+1)))=some i:=by
  rw[List.find?_range_eq_some]
  refine⟨by show decide (bE wt i+n<bE wt i+wt i)=true;simp;omega,by simpa using hi,fun k hk=>?_⟩
  have:=ot wt (show k+1≤i by omega)
  simp
  omega
 rw[this]
 rfl
theorem An {wt:Nat→Nat}{r:Nat}(hr:r<bE wt 64):∃i n,i<64∧n<wt i∧r=bE wt i+n:=by
 have key:∀m,r<bE wt m→∃i n,i<m∧n<wt i∧r=bE wt i+n:=by
  intro m
  induction m with
  |zero=>intro h;exact absurd h (by simp[bE])
  |succ m ih=>
   intro h
   by_cases h2:r<bE wt m
   ·obtain ⟨i,n,h3,h4,h5⟩:=ih h2
    exact⟨i,n,by omega,h4,h5⟩
   have:bE wt (m+1)=bE wt m+wt m:=rfl
   exact⟨m,r-bE wt m,by omega,by omega,by omega⟩
 exact key 64 hr
def fE (wt at_ fe:Nat→Nat):Nat→Nat→Int
 |0=>fun _=> -1
 |k+1=>cL (fE wt at_ fe k) (bU (at_ (nM wt (k%bE wt 64))) (fe (nM wt (k%bE wt 64))) (qz (fE wt at_ fe k) (at_ (nM wt (k%bE wt 64))) (fe (nM wt (k%bE wt 64))))) (nM wt (k%bE wt 64))
section
variable {wt at_ fe:Nat→Nat}
theorem pD (hT:0<bE wt 64)(hb:∀i,i<64→0<wt i→1≤fe i∧fe i≤126):∀k,k≤127→ie (fE wt at_ fe k) (-1) 127=127-k
 |0,_=>xY _ _ (fun _ _=>rfl)
 |k+1,h=>by
  have ih:=pD hT hb k (by omega)
  obtain ⟨i,n,h1,h2,h3⟩:=An (wt:=wt) (r:=k%bE wt 64) (Nat.mod_lt _ hT)
  have hsl:nM wt (k%bE wt 64)=i:=by rw[h3];exact uY h1 h2
  have hs:=uz (f:=fE wt at_ fe k) (a:=at_ i) (b:=fe i) (hb i h1 (by omega)) (by rw[ih];omega)
  unfold fE
  rw[hsl]
  have hc:=xW (fE wt at_ fe k) (-1) (i:Int) (p:=bU (at_ i) (fe i) (qz (fE wt at_ fe k) (at_ i) (fe i))) (n:=127) (rM _ _ _)
  rw[if_pos hs.2.1,if_neg (by omega)]at hc
  omega
theorem vU (hT:0<bE wt 64):∀k p,fE wt at_ fe k p = -1∨∃i:Nat,i<64∧0<wt i∧fE wt at_ fe k p=i
 |0,p=>.inl rfl
 |k+1,p=>by
  obtain ⟨s,n,h1,h2,h3⟩:=An (wt:=wt) (r:=k%bE wt 64) (Nat.mod_lt _ hT)
  have hsl:nM wt (k%bE wt 64)=s:=by rw[h3];exact uY h1 h2
  unfold fE
  rw[hsl]
  unfold cL
  split
  ·exact .inr ⟨s,h1,by omega,rfl⟩
  exact vU hT k p
theorem Bs (hT:0<bE wt 64)(hb:∀i,i<64→0<wt i→1≤fe i∧fe i≤126)(p:Nat)(hp:p<127):∃i:Nat,i<64∧0<wt i∧fE wt at_ fe 127 p=i:=by
 rcases vU (at_:=at_) (fe:=fe) hT 127 p with h |h
 ·have:=xX _ _ hp h
  have h2:=pD (at_:=at_) hT hb 127 (by omega)
  omega
 exact h
end
set_option linter.unusedSimpArgs false
open Go.RowKit Go.ChangeShapes Go.WideShapes Go.ChangeAt
def il (n:Nat)(f:Nat→Int):List Value:=(List.range n).map fun j=>.int .i64 (f j)
def ia (n:Nat)(f:Nat→Int):Array Value:=(il n f).toArray
theorem jr (n:Nat)(f:Nat→Int):(il n f).length=n:=by unfold il;simp
theorem iU (n:Nat)(f:Nat→Int):(ia n f).size=n:=by unfold ia;simp[jr]
theorem ri (n:Nat)(f:Nat→Int)(j:Nat)(h:j<n):(il n f)[j]? = some (.int .i64 (f j)):=by unfold il;simp[h]
theorem AR (n:Nat)(f:Nat→Int)(j:Nat)(h:j<n):(ia n f)[j]? = some (.int .i64 (f j)):=by unfold ia;simp[ri n f j h]
theorem Et (n:Nat)(f:Nat→Int):(ia n f).all (·.oneCell')=true:=by
 unfold ia
 refine all_oneCell_toArray fun v hv=>?_
 unfold il at hv
 simp only[List.mem_map]at hv
 obtain ⟨j,_,rfl⟩:=hv
 rfl
def IA (w:World)(b n:Nat)(f:Nat→Int):Prop:=b<w.heap.size∧(∀j,j<n→w.cell? ⟨b,j,none⟩=some (.int .i64 (f j)))∧∀j,w.frozen? ⟨b,j,none⟩=false
theorem tI (w:World)(row:Option Nat):w.grownBy w.drew row:=⟨rfl,rfl,rfl,Nat.le_refl _,fun _ _ _=>rfl⟩
section
variable {w w':World}{b n:Nat}{f g:Nat→Int}
theorem IA.below (h:IA w b n f)(hb:Below w.heap.size w w'):IA w' b n f:=
 ⟨Nat.lt_of_lt_of_le h.1 hb.size,fun j hj=>(hb.cell (p:=⟨b,j,none⟩) h.1).trans (h.2.1 j hj),fun j=>(World.frozen?_of_block (a:=⟨b,j,none⟩) (hb.block b h.1)).trans (h.2.2 j)⟩
theorem IA.alloc (h:IA w b n f)(o:Obj):IA (w.alloc o) b n f:=h.below ((Below.refl _ _).alloc (Nat.le_refl _) o)
theorem IA.drew (h:IA w b n f):IA w.drew b n f:=h
theorem IA.drewN (h:IA w b n f)(k:Nat):IA (w.drewN k) b n f:=h
theorem IA.grown {row:Option Nat}(h:IA w b n f)(hg:w.grownBy w' row)(hne:row≠some b):IA w' b n f:=
 have hb:=hg.block b h.1 (fun e=>hne e.symm)
 ⟨Nat.lt_of_lt_of_le h.1 hg.size,fun j hj=>(World.cell?_of_block (a:=⟨b,j,none⟩) hb).trans (h.2.1 j hj),fun j=>(World.frozen?_of_block (a:=⟨b,j,none⟩) hb).trans (h.2.2 j)⟩
theorem IA.fN (h:IA w b n f)(hf:∀j,j<n→f j=g j):IA w b n g:=⟨h.1,fun j hj=>by rw[h.2.1 j hj,hf j hj],h.2.2⟩
theorem IA.made {T:TypeId}{d:Nat}(hd:w.heap.size=d):IA (w.alloc (.cells (ia n f) T)) d n f:=by
 subst hd
 have h:(w.alloc (.cells (ia n f) T)).heap[w.heap.size]? = some (.cells (ia n f) T (0,0)):=heap_alloc_new w _
 refine⟨by simp,fun j hj=>?_,fun j=>frozen_of_row _ _ _ _ _ h⟩
 rw[cell_of_row _ w.heap.size j _ T (0,0) h,AR n f j hj]
theorem IA.other (h:IA w b n f){c j:Nat}{v:Value}(hne:c≠b):IA (w.setCell ⟨c,j,none⟩ v) b n f:=
 ⟨by simpa using h.1,fun i hi=>by rw[World.cell?_setCell_other _ _ _ _ (fun e=>hne (by cases e;rfl))];exact h.2.1 i hi,fun i=>by rw[World.frozen?_setCell];exact h.2.2 i⟩
theorem IA.others (h:IA w b n f){c o:Nat}{vs:List Value}(hne:c≠b)(hn:0<n):IA (w.setCells c o vs) b n f:=by
 refine⟨?_,fun i hi=>?_,fun i=>by rw[World.frozen?_setCells];exact h.2.2 i⟩
 ·have h2:(w.setCells c o vs).cell? ⟨b,0,none⟩=some (.int .i64 (f 0)):=by rw[World.cell?_setCells_out c vs o w _ (fun e _=>absurd e.symm hne)];exact h.2.1 0 hn
  exact World.block_lt_of_cell? _ _ h2
 rw[World.cell?_setCells_out c vs o w _ (fun e _=>absurd e.symm hne)];exact h.2.1 i hi
theorem IA.set (h:IA w b n f)(j:Nat)(hj:j<n)(x:Int):IA (w.setCell ⟨b,j,none⟩ (.int .i64 x)) b n (cL f j x):=by
 refine⟨by simpa using h.1,fun i hi=>?_,fun i=>by rw[World.frozen?_setCell];exact h.2.2 i⟩
 unfold cL
 by_cases e:i=j
 ·subst e
  rw[if_pos rfl]
  exact World.cell?_setCell_same _ _ _ (h.2.1 i hi)
 rw[if_neg e,World.cell?_setCell_other _ _ _ _ (fun x=>e (by injection x with _ x;exact x.symm))]
 exact h.2.1 i hi
theorem IA.whole (h:IA w b n f)(g:Nat→Int)(hn:0<n):IA (w.setCells b 0 (ia n g).toList) b n g:=by
 have e:(ia n g).toList=il n g:=rfl
 rw[e]
 have hc:∀j,j<n→(w.setCells b 0 (il n g)).cell? ⟨b,j,none⟩=some (.int .i64 (g j)):=by
  intro j hj
  have:=World.cell?_setCells_in b (il n g) 0 w (fun i hi=>by rw[Nat.zero_add,h.2.1 i (by rwa [jr]at hi)];rfl) j (by rw[jr];exact hj)
  rw[Nat.zero_add]at this
  rw[this]
  have h2:=ri n g j hj
  rw[List.getElem?_eq_getElem (by rw[jr];exact hj)]at h2
  exact h2
 exact⟨World.block_lt_of_cell? _ _ (hc 0 hn),hc,fun i=>by rw[World.frozen?_setCells];exact h.2.2 i⟩
theorem IA.load {T:TypeId}{d:TypeDesc}(h:IA w b n f)(hu:Tryz.prog.underlying T=some d)(hd:d.isRow=true)(hi:(Tryz.prog.info? T).map (·.size)=some n) :
 (Instr.loadAt T (.pointer (some ⟨b,0,none⟩))).run Tryz.prog w =.ok (.agg (ia n f)) w:=by
 refine run_loadAt_mid w b 0 T (il n f) d (fun j v hj=>?_) hu hd (by rw[jr];exact hi)
 have hl:j<n:=by
  have:=(List.getElem?_eq_some_iff.1 hj).1
  rwa [jr]at this
 rw[ri n f j hl]at hj
 rw[Nat.zero_add,h.2.1 j hl,hj]
theorem IA.store {T:TypeId}(h:IA w b n f)(g:Nat→Int)(hi:(Tryz.prog.info? T).map (·.size)=some n) :
 (Instr.storeAt T (.pointer (some ⟨b,0,none⟩)) (.agg (ia n g))).run Tryz.prog w =.ok () (w.setCells b 0 (ia n g).toList):=by
 refine run_storeAt_mid w b 0 T (ia n g) (fun j hj=>?_) (by rw[iU];exact hi) (Et n g)
 rw[iU]at hj
 rw[Nat.zero_add,h.2.1 j hj]
 exact⟨rfl,h.2.2 j⟩
theorem IA.slice (h:IA w b n f):Is w (some ⟨b,0,none⟩) n f:=fun h0=>⟨b,0,rfl,h.1,fun j hj=>by rw[Nat.zero_add];exact h.2.1 j hj⟩
end
theorem vt {w w':World}{b j:Nat}{v:Value}(h:w.grownBy w' (some b)):w.grownBy (w'.setCell ⟨b,j,none⟩ v) (some b):=by
 have hb:=aw b [v] j w' b (Nat.le_refl _)
 have hs:(w'.setCell ⟨b,j,none⟩ v).heap.size=w'.heap.size:=by simp
 refine⟨h.os,h.tape,h.output,by rw[hs];exact h.size,fun k hk hne=>?_⟩
 have hkb:k≠b:=fun e=>hne (by rw[e])
 rw[←h.block k hk hne]
 exact Below.heap_setCell _ _ _ _ hkb
theorem wH (a b:Int)(f:Nat→Int)(n:Nat):U (gU a b f n):=by
 unfold gU pV
 exact fC _ _
def S3 (x y z:Int):Int:=gU 0 0 (fun j=>[x,y,z].getD j 0) 3
def S5 (f:Fl):Int:=gU 0 0 (fun j=>[3,f.a,f.p,f.ta,f.tp].getD j 0) 5
def sH (a p:Int):Int:=S3 1 a p%127
def sG (a p:Int):Int:=S3 2 a p%126+1
def mD (f:Fl):Int:=S5 f%127
theorem El {x y z:Int}(hx:dE x)(hy:dE y)(hz:dE z):pC (fun j=>[x,y,z].getD j 0):=by
 intro j
 unfold dE at hx hy hz
 rcases j with _ | _ | _ |j
 ·exact hx
 ·exact hy
 ·exact hz
 exact(by show (-9223372036854775808:Int)≤0∧(0:Int)≤9223372036854775807;decide)
def Fl.Hn (f:Fl):Prop:=dE f.a∧dE f.p∧dE f.ta∧dE f.tp
theorem JB {f:Fl}(hf:Fl.Hn f):pC (fun j=>[3,f.a,f.p,f.ta,f.tp].getD j 0):=by
 intro j
 obtain ⟨h1,h2,h3,h4⟩:=hf
 rcases j with _ | _ | _ | _ | _ |j
 ·exact(by show (-9223372036854775808:Int)≤3∧(3:Int)≤9223372036854775807;decide)
 ·exact h1
 ·exact h2
 ·exact h3
 ·exact h4
 exact(by show (-9223372036854775808:Int)≤0∧(0:Int)≤9223372036854775807;decide)
theorem yd (a p:Int):0≤sH a p∧sH a p<127:=by unfold sH;omega
theorem yc (a p:Int):1≤sG a p∧sG a p≤126:=by unfold sG;omega
theorem xg (f:Fl):0≤mD f∧mD f<127:=by unfold mD;omega
set_option maxRecDepth 100000 in
theorem p6 (m:Int)(hm:m=127∨m=126)(A:Option Addr)(n c:Nat)(f:Nat→Int)(w:World)(h:Is w A n f)(hf:pC f)(hn:n≤1000) :
 Calls Tryz.prog 104 #[.int .u64 m,.slice A n c] w fun e w'=>e =.returned (.int .i64 (gU 0 0 f n%m))∧Below w.heap.size w w':=by
 have WD:=hid (fun (w:World) (h:Is w A n f)=>jg 0 0 A n c f w h hf (by omega))
 obtain ⟨s,hs⟩:∃s,s=gU 0 0 f n:=⟨_,rfl⟩
 have hU:=wH 0 0 f n
 rw[←hs]at WD hU ⊢
 clear hs
 obtain ⟨u1,u2⟩:=hU
 rcases hm with rfl |rfl
 all_goals
  go_enter Tryz.func104,Tryz.ntmps104
  go_wp2_with fail
  refine(WD.out _ h).mono ?_
  rintro e w1 ⟨rfl,hb⟩
  go_wp2_with fail
  go_ret
  exact⟨rfl,hb⟩
set_option maxRecDepth 100000 in
set_option maxHeartbeats 9000000 in
theorem rO (A:Option Addr)(c:Nat)(g:Nat→Int)(f:Fl)(hf:Fl.Hn f)(w:World)(hr:Is w A 127 g) :
 Calls Tryz.prog 69 #[.slice A 127 c,eG f] w fun e w'=>e =.returned (.int .i64 (g (mD f).toNat))∧Below w.heap.size w w':=by
 have HR:=hid hr
 clear hr
 obtain ⟨fa,fp,ft,fq⟩:=f
 unfold eG
 simp only
 have W1:=hid (fun (A:Option Addr) (w:World) (h:Is w A 5 (fun j=>[3,fa,fp,ft,fq].getD j 0))=>p6 127 (.inl rfl) A 5 5 _ w h (JB hf) (by omega))
 have gB:=wH 0 0 (fun j=>[3,fa,fp,ft,fq].getD j 0) 5
 unfold mD S5
 simp only
 generalize gU 0 0 (fun j=>[3,fa,fp,ft,fq].getD j 0) 5=s1 at *
 obtain ⟨u1,u2⟩:=gB
 obtain ⟨j,hj⟩:∃j:Nat,s1%127=j:=⟨(s1%127).toNat,by omega⟩
 have j1:j<127:=by omega
 have HJ:=hid hj
 rw[hj]at W1 ⊢
 simp only[Int.toNat_natCast]
 clear hj
 go_enter Tryz.func69,Tryz.ntmps69
 go_upto_region 1 with (fail)
 have C0:=Ce.made (w:=w) (l:=[fa,fp,ft,fq]) (T:=92) (g:=w.heap.size) rfl
 have B0:=(Below.refl w.heap.size w).alloc (Nat.le_refl _) (.cells #[fa,fp,ft,fq] 92)
 generalize w.alloc (.cells #[fa,fp,ft,fq] 92)=w1 at *
 have HB:=hid B0
 have x0:=C0.2.1 0 _ rfl
 have x1:=C0.2.1 1 _ rfl
 have x2:=C0.2.1 2 _ rfl
 have x3:=C0.2.1 3 _ rfl
 clear C0 B0
 go_wp2_with fail
 refine(W1.out _ _ (fW .i64 [3,fa,fp,ft,fq] rfl)).mono ?_
 rintro e w2 ⟨rfl,hb⟩
 clear x0 x1 x2 x3
 have HB2:=hid ((HB.out.alloc HB.out.size _).trans (hb.mono (by have:=HB.out.size;simp;omega)))
 clear hb HB
 have R2:=Sl.below HR.out HB2.out (Nat.le_refl _)
 obtain ⟨bb,off,rfl⟩:=Sl.addr R2 (by omega)
 have xc:=Sl.at_ R2 (j:=j) j1
 clear R2
 have j2:(j:Int)<127:=by omega
 have j0:(0:Int)≤j:=by omega
 go_wp2_with fail
 go_ret
 exact⟨rfl,HB2.out⟩
set_option maxRecDepth 100000 in
set_option maxHeartbeats 9000000 in
theorem xn (C o:Nat)(ho:o+1<128)(g:Nat→Int)(a:Int)(h0:0≤g o∧g o<127)(h1:1≤g (o+1)∧g (o+1)≤126)(he:(g o+g (o+1)).tmod 127=a)(w:World)(h:IA w C 128 g) :
 Calls Tryz.prog 105 #[.pointer (some ⟨C,o,none⟩)] w fun e w'=>e =.returned (.tuple #[])∧IA w' C 128 (cL g o a)∧w.grownBy w' (some C):=by
 obtain ⟨h01,h02⟩:=h0
 obtain ⟨h11,h12⟩:=h1
 have HI:=hid h
 have HE:=hid he
 have hw:IntKind.i64.wrap (g o+g (o+1))=g o+g (o+1):=IntWalk.i64_in _ (by omega)
 have c0:=h.2.1 o (by omega)
 have c1:=h.2.1 (o+1) (by omega)
 have z0:=h.2.2 o
 generalize g o=x at *
 generalize g (o+1)=y at *
 clear h
 go_enter Tryz.func105,Tryz.ntmps105
 go_upto_region 0 with (fail)
 go_region
 all_goals
  go_wp2_with fail
  go_end0
  refine⟨rfl,?_,?_⟩
  ·exact HI.out.drew.set o (by omega) a
  exact vt (tI w _)
theorem rL (a b t:Nat):((bU a b t:Nat):Int)+b=((bU a b t+b:Nat):Int)∧(((bU a b t:Nat):Int)+b).tmod 127=(bU a b (t+1):Nat):=by
 refine⟨by omega,?_⟩
 have h:(bU a b t+b)%127=bU a b (t+1):=by unfold bU;rw[Nat.mod_add_mod,Nat.add_assoc,←Nat.succ_mul]
 rw[show ((bU a b t:Nat):Int)+b=((bU a b t+b:Nat):Int) by omega,Int.tmod_eq_emod_of_nonneg (by omega),←h]
 omega
theorem df (g:Nat→Int)(o:Nat)(x:Int):cL g o x o=x:=by unfold cL;simp
theorem dW (g:Nat→Int){o j:Nat}(x:Int)(h:j≠o):cL g o x j=g j:=by unfold cL;rw[if_neg h]
theorem rK (g:Nat→Int)(o:Nat)(x y:Int):cL (cL g o x) o y=cL g o y:=by
 funext j
 unfold cL
 split <;> rfl
set_option maxRecDepth 100000 in
set_option maxHeartbeats 9000000 in
theorem vi (C o B c a b k F:Nat)(ho:o+1<128)(hne:C≠B)(hb:1≤b∧b≤126)(g f:Nat→Int)(g0:g o=(bU a b k:Nat))(g1:g (o+1)=b)(HK:Hid (∀j,j<k→f (bU a b j)≠-1))
 (hF:f (bU a b F) = -1) (hno:∀j,j<F→f (bU a b j)≠-1) (w:World) (h:IA w C 128 g) (hB:IA w B 127 f) :
 Calls Tryz.prog 61 #[.pointer (some ⟨C,o,none⟩),.slice (some ⟨B,0,none⟩) 127 c] w fun e w'=>e =.returned (.int .i64 (bU a b F:Nat))∧IA w' C 128 (cL g o (bU a b (F+1):Nat))∧w.grownBy w' (some C):=by
 have HF:=hid hF
 have HN:=hid hno
 have HB:=hid hB
 clear hno hB
 have b1:1≤(b:Int):=by omega
 have b2:(b:Int)≤126:=by omega
 have hge:k≤F:=by
  rcases Nat.lt_or_ge F k with h |h
  ·exact absurd hF (HK.out F h)
  exact h
 have ho':o+1<128:=ho
 have h0:=hid (show IA w C 128 (cL g o (bU a b k:Nat)) from h.fN (fun j _=>by by_cases e:j=o;(subst e;rw[df,g0]);(rw[dW _ _ e])))
 have G1:=hid g1
 clear h g0 g1 hF
 go_enter Tryz.func61,Tryz.ntmps61
 go_wp2_with fail
 go_loopg [] (F-k) (fun gh wr=>∃t,k≤t∧gh=F-t∧t≤F∧IA wr C 128 (cL g o (bU a b t:Nat))∧w.grownBy wr (some C))
 case atStart=>exact⟨k,Nat.le_refl _,rfl,hge,h0.out,World.grownBy.refl w _⟩
 obtain ⟨t,ht,rfl,M6,hC,hg⟩:=hrel
 have HC:=hid hC
 have HG:=hid hg
 clear hC hg h0
 have hp:=rM a b t
 have hBr:=HB.out.grown HG.out (fun e=>hne (by injection e))
 have c0:=HC.out.2.1 o (by omega)
 rw[df]at c0
 have cb:=hBr.2.1 (bU a b t) hp
 clear hBr
 have p0:(0:Int)≤(bU a b t:Nat):=by omega
 have p1:((bU a b t:Nat):Int)<127:=by omega
 have p2:((bU a b t:Nat):Int)≤127:=by omega
 by_cases hlt:t<F
 ·have hf:=HN.out t hlt
  have bf:(f (bU a b t) != -1)=true:=by simpa using hf
  clear hf
  have ON:=hid (fun (w0:World) (h:IA w0 C 128 (cL g o (bU a b t:Nat)))=>xn C o ho' (cL g o (bU a b t:Nat)) (bU a b (t+1):Nat) (by rw[df];omega) (by rw[dW _ _ (by omega),G1.out];omega) (by rw[df,dW _ _ (by omega),G1.out];exact(rL a b t).2) w0 h)
  generalize hq:bU a b t=q at *
  have HQ:=hid hq
  clear hq
  go_wp2_with fail
  refine(ON.out _ HC.out).mono ?_
  rintro e w2 ⟨rfl,h2,hg2⟩
  have H2:=hid h2
  have HG2:=hid (HG.out.trans hg2)
  clear h2 hg2 HG ON c0 cb
  go_wp2_with fail
  go_roundg (F-(t+1))
  case measure=>omega
  exact⟨t+1,by omega,rfl,hlt,by have:=H2.out;rw[rK]at this;exact this,HG2.out⟩
 have e:t=F:=by omega
 subst e
 have bf:(f (bU a b t) != -1)=false:=by rw[HF.out];rfl
 have ON:=hid (fun (w0:World) (h:IA w0 C 128 (cL g o (bU a b t:Nat)))=>xn C o ho' (cL g o (bU a b t:Nat)) (bU a b (t+1):Nat) (by rw[df];omega) (by rw[dW _ _ (by omega),G1.out];omega) (by rw[df,dW _ _ (by omega),G1.out];exact(rL a b t).2) w0 h)
 generalize hq:bU a b t=q at *
 have HQ:=hid hq
 clear hq
 go_wp2_with fail
 refine(ON.out _ HC.out).mono ?_
 rintro e w2 ⟨rfl,h2,hg2⟩
 have H2:=hid h2
 have HG2:=hid (HG.out.trans hg2)
 clear h2 hg2 HG ON c0 cb
 go_wp2_with fail
 go_ret
 exact⟨by rw[HQ.out];rfl,by have:=H2.out;rw[rK]at this;exact this,HG2.out⟩
end Go.Proofs.YtgfonkagnambiaaGreat
