/- What all texts of this seat share: slices that read as functions, and the last step of a law's row. The laws' helper within; rows of numbers written out. A region whose order is open, walked step by step: what may be taken first is; a call is met where it alone may come up; behind it more may be said of the world. Keys, rings, flows, blocks of cells: what many texts name. -/
import Derived.Test.YtalnfkijiehjhaaGreatRows
import Derived.WalkKit
import Derived.ProofKit
import Derived.OpenShut
import Derived.Handy
import Derived.Maps.AppendAt
import Derived.Deep.QuietTactic
import Derived.BigQuiet
import Derived.SizedLaws
import Derived.Deep.RegionHeld3
import Derived.Deep.DrawnRows
import Derived.ScopeJumps
import Derived.WalkMore
import Derived.Deep.Cut
import Derived.IntWalk
import Derived.Deep.CutBlock
import Derived.Deep.CutRange
import Derived.Deep.LoopGhost
namespace Go.Proofs.YtalnfkijiehjhaaGreat
set_option linter.unusedVariables false
open Go.RowKit Go.ChangeShapes Go.WideShapes Go.ChangeAt
instance:Coe Int Value:=⟨.int .i64⟩
instance:Coe Nat Value:=⟨fun n=>.int .i64 n⟩
instance:Coe Unit Value:=⟨fun _=>.int .i64 0⟩
instance:Coe Bool Value:=⟨.bool⟩
theorem hid {p:Prop}(h:p):Hid p:=h
theorem bp {a b:Int}(h:a=b):Ending.returned (.int .i64 a) =.returned (.int .i64 b):=by rw[h]
theorem cT {a b:Bool}(h:a=b):Ending.returned (.bool a) =.returned (.bool b):=by rw[h]
theorem c_ {P:Program}{F:FuncId}{args:Array Value}{w:World}{R:World→Prop}{a b:Int}(h:Calls P F args w fun e w'=>e =.returned (.int .i64 a)∧R w')(he:a=b) :
 Calls P F args w fun e w'=>e =.returned (.int .i64 b)∧R w':=by subst he;exact h
theorem iS {P:Program}{F:FuncId}{args:Array Value}{w:World}{R:World→Prop}{a b:Bool}(h:Calls P F args w fun e w'=>e =.returned (.bool a)∧R w')(he:a=b) :
 Calls P F args w fun e w'=>e =.returned (.bool b)∧R w':=by subst he;exact h
theorem MM:ownKnob Tryz.prog.godebug=none:=by kernel_rfl
theorem Kz:laidOutB Tryz.prog=true:=by kernel_rfl
def Sl (w:World)(A:Option Addr)(m:Nat)(f:Nat→Value):Prop:=
 0<m→∃b off:Nat,A=some ⟨b,off,none⟩∧b<w.heap.size∧∀j,j<m→w.cell? ⟨b,off+j,none⟩=some (f j)
section
variable {w w':World}{A:Option Addr}{m:Nat}{f:Nat→Value}
theorem Sl.nil (w:World)(A:Option Addr)(f:Nat→Value):Sl w A 0 f:=fun h=>absurd h (by omega)
theorem Sl.below {B:Nat}(h:Sl w A m f)(hb:Below B w w')(hB:w.heap.size≤B):Sl w' A m f:=by
 intro hm
 obtain ⟨b,off,rfl,hlt,hc⟩:=h hm
 exact⟨b,off,rfl,Nat.lt_of_lt_of_le hlt hb.size,fun j hj=>(hb.cell (p:=⟨b,off+j,none⟩) (Nat.lt_of_lt_of_le hlt hB)).trans (hc j hj)⟩
theorem Sl.drewN (h:Sl w A m f)(k:Nat):Sl (w.drewN k) A m f:=h
theorem Sl.drew (h:Sl w A m f):Sl w.drew A m f:=h
theorem Sl.alloc (h:Sl w A m f)(o:Obj):Sl (w.alloc o) A m f:=h.below ((Below.refl w.heap.size w).alloc (Nat.le_refl _) o) (Nat.le_refl _)
theorem Sl.setCell (h:Sl w A m f){B:Nat}{p:Addr}(v:Value)(hA:∀ad,A=some ad→ad.block<B)(hp:B≤p.block):Sl (w.setCell p v) A m f:=by
 intro hm
 obtain ⟨b,off,rfl,hlt,hc⟩:=h hm
 have h1:=hA _ rfl
 refine⟨b,off,rfl,by simpa [World.setCell]using hlt,fun j hj=>?_⟩
 rw[World.cell?_setCell_other _ _ _ _ (fun e=>by subst e;simp only at h1 hp;omega)]
 exact hc j hj
theorem Sl.less {k:Nat}(h:Sl w A m f)(hk:k≤m):Sl w A k f:=by
 intro h0
 obtain ⟨b,off,rfl,hlt,hc⟩:=h (by omega)
 exact⟨b,off,rfl,hlt,fun j hj=>hc j (by omega)⟩
theorem Sl.as {g:Nat→Value}(h:Sl w A m f)(hg:∀j,j<m→f j=g j):Sl w A m g:=by
 intro h0
 obtain ⟨b,off,rfl,hlt,hc⟩:=h h0
 exact⟨b,off,rfl,hlt,fun j hj=>by rw[hc j hj,hg j hj]⟩
theorem Sl.mk {b off:Nat}(hlt:b<w.heap.size)(hc:∀j,j<m→w.cell? ⟨b,off+j,none⟩=some (f j)):Sl w (some ⟨b,off,none⟩) m f:=
 fun _=>⟨b,off,rfl,hlt,hc⟩
theorem Sl.at_ {b off:Nat}(h:Sl w (some ⟨b,off,none⟩) m f){j:Nat}(hj:j<m):w.cell? ⟨b,off+j,none⟩=some (f j):=by
 obtain ⟨b',off',e,_,hc⟩:=h (by omega)
 injection e with e
 injection e with e1 e2
 subst e1;subst e2
 exact hc j hj
theorem Sl.lt {b off:Nat}(h:Sl w (some ⟨b,off,none⟩) m f)(hj:0<m):b<w.heap.size:=by
 obtain ⟨b',off',e,hl,_⟩:=h hj
 injection e with e
 injection e with e1 e2
 subst e1
 exact hl
theorem Sl.addr (h:Sl w A m f)(hj:0<m):∃b off:Nat,A=some ⟨b,off,none⟩:=by
 obtain ⟨b,off,e,_⟩:=h hj
 exact⟨b,off,e⟩
theorem Sl.cut {b off i:Nat}(h:Sl w (some ⟨b,off,none⟩) m f)(k:Nat)(hk:i+k≤m):Sl w (some ⟨b,off+i,none⟩) k (fun j=>f (i+j)):=by
 intro h0
 refine⟨b,off+i,rfl,h.lt (by omega),fun j hj=>?_⟩
 have:=h.at_ (j:=i+j) (by omega)
 rw[Nat.add_assoc]
 exact this
end
section
variable {P:Program}{F:FuncId}{args:Array Value}{w:World}{v:Value}
theorem Lc {a n:Nat}(h:Calls P F args (w.drewN (a+n)) fun e w'=>e =.returned v∧w.drewN (a+n)=w'):Calls P F args (w.drewN (a+n)) fun e w''=>e =.returned v∧∃m,w''=w.drewN (a+m):=
 h.mono fun _ _ ⟨he,hm⟩=>⟨he,n,hm.symm⟩
theorem Ld {n:Nat}(h:Calls P F args (w.drewN n) fun e w'=>e =.returned v∧∃m,w'=(w.drewN n).drewN m):Calls P F args (w.drewN n) fun e w''=>e =.returned v∧∃m,w''=w.drewN m:=
 h.mono fun _ _ ⟨he,m,hm⟩=>⟨he,n+m,by rw[hm,World.drewN_drewN]⟩
theorem Lb {a n:Nat}(h:Calls P F args (w.drewN (a+n)) fun e w'=>e =.returned v∧∃m,w'=(w.drewN (a+n)).drewN m):Calls P F args (w.drewN (a+n)) fun e w''=>e =.returned v∧∃m,w''=w.drewN (a+m):=
 h.mono fun _ _ ⟨he,m,hm⟩=>⟨he,n+m,by rw[hm,World.drewN_drewN,Nat.add_assoc]⟩
theorem below_drewN {B:Nat}{a w:World}(h:Below B a w)(n:Nat):Below B a (w.drewN n):=⟨h.os,h.tape,h.output,h.size,h.block⟩
end
abbrev By (w:World)(A:Option Addr)(n:Nat)(g:Nat→Int):Prop:=Sl w A n (fun j=>.int .u8 (g j))
theorem FJ (k:IntKind)(w:World)(t:TypeId)(l:List Int):Sl (w.alloc (.cells (l.map (Value.int k)).toArray t)) (some ⟨w.heap.size,0,none⟩) l.length (fun j=>.int k (l.getD j 0)):=by
 refine Sl.mk (by simp) fun j hj=>?_
 rw[cell_of_row _ w.heap.size (0+j) (l.map (Value.int k)).toArray t (0,0) (heap_alloc_new w _),Nat.zero_add]
 simp[List.getD,hj]
theorem gl (k:IntKind)(l:List Int){w:World}{t:TypeId}{b:Nat}(hb:w.heap.size=b):Sl (w.alloc (.cells (l.map (Value.int k)).toArray t)) (some ⟨b,0,none⟩) l.length (fun j=>.int k (l.getD j 0)):=by
 subst hb;exact FJ k w t l
def aC (g:Nat→Int):Prop:=∀j,0≤g j∧g j≤255
abbrev Is (w:World)(A:Option Addr)(n:Nat)(g:Nat→Int):Prop:=Sl w A n (fun j=>.int .i64 (g j))
def qH (g:Nat→Int):Prop:=∀j,-9223372036854775808≤g j∧g j≤9223372036854775807
def Ow (w:World)(B:Nat)(e:TypeId)(size:Nat)(v:Value)(n:Nat)(f:Nat→Value):Prop:=w.ownsRow B e size v n ((List.range (n*size)).map f)
def two (k:Nat)(f f2:Nat→Value):Nat→Value:=fun j=>if j<k then f j else f2 (j-k)
section
variable {w w':World}{B:Nat}{e:TypeId}{size n:Nat}{v:Value}{f f2:Nat→Value}
theorem Ow.none_:Ow w B e size (.slice none 0 0) 0 f:=⟨by simp,.inl ⟨rfl,rfl⟩⟩
theorem Ow.new (hB:B≤w.heap.size):Ow (w.alloc (.cells #[] e)) B e size (.slice (some ⟨w.heap.size,0,none⟩) 0 0) 0 f:=by
 have:=World.ownsRow_lit (size:=size) (e:=e) (base:=B) w #[] 0 hB (Nat.zero_le _) (by simp)
 simpa [Ow]using this
theorem Ow.new' {g:Nat}(hg:w.heap.size=g):Ow (w.alloc (.cells #[] e)) g e size (.slice (some ⟨g,0,none⟩) 0 0) 0 f:=by subst hg;exact Ow.new (Nat.le_refl _)
theorem Ow.fQ (h:Ow w B e size v n f)(hf:∀j,j<n*size→f j=f2 j):Ow w B e size v n f2:=by
 unfold Ow at h ⊢
 rw[←List.map_congr_left (f:=f) (g:=f2) (fun j hj=>hf j (by simpa using hj))]
 exact h
theorem Ow.drewN (h:Ow w B e size v n f)(k:Nat):Ow (w.drewN k) B e size v n f:=h
theorem Ow.drew (h:Ow w B e size v n f):Ow w.drew B e size v n f:=h
theorem qYF{P:Prop}(h:P:=by
 rcases Nat.lt_or_ge g w.heap.size with hlt |hge
 ·exact hlt
 rw[Array.getElem?_eq_none hge]at hh;cases hh
 ):P:=h
theorem Ow.aF (h:Ow w B e size v n f):∃A c,v =.slice A n c∧n≤c∧c≤maxLen∧∀ad,A=some ad→∃g,ad=⟨g,0,none⟩∧B≤g∧g<w.heap.size:=by
 rcases h.2 with ⟨rfl,rfl⟩ |⟨g,cap,cur,rfl,hB,hh,hnc,hcm,_⟩
 ·exact⟨none,0,rfl,Nat.le_refl _,Nat.zero_le _,fun _ h=>by cases h⟩
 refine⟨_,cap,rfl,hnc,hcm,fun ad e=>?_⟩
 injection e with e
 refine⟨g,e.symm,hB,?_⟩
 exact qYF
theorem Ow.sl {A:Option Addr}{c:Nat}(h:Ow w B e size (.slice A n c) n f):Sl w A (n*size) f:=by
 intro hn
 rcases h.2 with ⟨_,h0⟩ |⟨g,cap,cur,hv,_,hh,hnc,_⟩
 ·subst h0;omega
 injection hv with hA _ hcap
 subst hA
 subst hcap
 have hg:g<w.heap.size:=by
  exact qYF
 refine⟨g,0,rfl,hg,fun j hj=>?_⟩
 rw[Nat.zero_add,World.ownsRow.cellAt h j (by omega)]
 simp[hj]
theorem Ow.sl1 {A:Option Addr}{c:Nat}(h:Ow w B e 1 (.slice A n c) n f):Sl w A n f:=by
 have:=h.sl
 rwa [Nat.mul_one]at this
theorem Ow.below_ (h:Ow w B e size v n f)(hg:w.grownBy w' v.ownBlock)(hB:B≤w.heap.size):Below B w w':=
 (Below.refl B w).grown hg hB (fun k hk=>(World.ownsRow.lt h k hk).1)
theorem Ow.keep {D:Nat}(h:Ow w B e size v n f)(hb:Below D w w')(hD:w.heap.size≤D):Ow w' B e size v n f:=by
 refine World.ownsRow.kept (row:=none) h ⟨hb.os,hb.tape,hb.output,hb.size,fun i hi _=>hb.block i (by omega)⟩ ?_
 cases hv:v.ownBlock with
 |none=>exact .inl rfl
 |some k=>exact .inr (by simp)
theorem Ow.alloc (h:Ow w B e size v n f)(o:Obj):Ow (w.alloc o) B e size v n f:=h.keep ((Below.refl w.heap.size w).alloc (Nat.le_refl _) o) (Nat.le_refl _)
theorem Ow.block_ {A:Option Addr}{c:Nat}(h:Ow w B e size (.slice A n c) n f)(hn:0<n):∃g:Nat,A=some ⟨g,0,none⟩∧B≤g∧g<w.heap.size∧(∀j,j<n*size→w.cell? ⟨g,j,none⟩=some (f j))∧∀j,w.frozen? ⟨g,j,none⟩=false:=by
 obtain ⟨A',c',hv,_,_,hf⟩:=h.aF
 injection hv with h1 _ _
 subst h1
 rcases h.2 with ⟨_,h0⟩ |⟨g,cap,cur,hv,hB,hh,hnc,_⟩
 ·omega
 injection hv with hA _ hcap
 subst hA
 subst hcap
 obtain ⟨g',e',hB',hlt⟩:=hf _ rfl
 injection e' with e'
 subst e'
 exact⟨g,rfl,hB,hlt,fun j hj=>by rw[World.ownsRow.cellAt h j hj];simp[hj],fun j=>World.ownsRow.frozenAt h j⟩
def qY (f:Nat→Value)(i:Nat)(u:Value):Nat→Value:=fun j=>if j=i then u else f j
theorem Ow.store_ {g c:Nat}(h:Ow w B e size (.slice (some ⟨g,0,none⟩) n c) n f)(i:Nat)(u:Value):Ow (w.setCell ⟨g,i,none⟩ u) B e size (.slice (some ⟨g,0,none⟩) n c) n (qY f i u):=by
 have h1:=(World.ownsRow.stored h i u).1
 have h2:((List.range (n*size)).map f).set i u=(List.range (n*size)).map (qY f i u):=by
  apply List.ext_getElem?
  intro j
  rw[List.getElem?_set]
  by_cases hj:j<n*size
  ·by_cases e:i=j
   ·subst e
    simp[hj,qY]
   simp[hj,e,qY,Ne.symm e]
  by_cases e:i=j
  ·subst e;simp[hj]
  simp[hj,e]
 rw[h2]at h1
 exact h1
end
theorem mw (n m:Nat)(f f2:Nat→Value):(List.range n).map f++(List.range m).map f2=(List.range (n+m)).map (two n f f2):=by
 rw[List.range_add,List.map_append,List.map_map]
 congr 1
 ·exact List.map_congr_left fun j hj=>by simp only[two];rw[if_pos (by simpa using hj)]
 refine List.map_congr_left fun j hj=>?_
 simp only[two,Function.comp]
 rw[if_neg (by omega),Nat.add_sub_cancel_left]
theorem D8 {T:TypeId}(ht:Tryz.prog.underlying T=some (.slice (Tryz.prog.elem T))){size:Nat}(hsz:∀W:World,(sizeOf (Tryz.prog.elem T)).run Tryz.prog W =.ok size W)(A:Option Addr)(n c i:Nat)(hi:i≤n)(hn:n≤c)(z:Int)(hz:z=i) :
 ∃A':Option Addr,(∀W:World,(Instr.slice T (.slice A n c) (some (.int .i64 z)) none none).run Tryz.prog W =.ok (.slice A' (n-i) (c-i)) W)∧
  ∀(w:World) (f:Nat→Value),Sl w A (n*size) f→Sl w A' ((n-i)*size) (fun j=>f (i*size+j)):=by
 subst hz
 refine⟨if c=i then A else A.map (·.add (i*size)),fun W=>?_,fun w f h=>?_⟩
 ·rw[run_slice_l W T A n c ht .i64 (i:Int) (by omega) (by omega),hsz W]
  simp[Result.andThen,sliced]
 intro h0
 have hpos:0<n-i:=by
  rcases Nat.eq_zero_or_pos (n-i) with e |e
  ·rw[e]at h0;simp at h0
  exact e
 have hs:0<size:=by
  rcases Nat.eq_zero_or_pos size with e |e
  ·rw[e]at h0;simp at h0
  exact e
 obtain ⟨b,off,rfl,hlt,hcell⟩:=h (Nat.mul_pos (by omega) hs)
 rw[if_neg (by omega)]
 refine⟨b,off+i*size,by simp[Addr.add],hlt,fun j hj=>?_⟩
 rw[Nat.add_assoc]
 refine hcell _ ?_
 rw[Nat.sub_mul]at hj
 omega
theorem Gm {T:TypeId}(ht:Tryz.prog.underlying T=some (.slice (Tryz.prog.elem T))){size:Nat}(hsz:∀W:World,(sizeOf (Tryz.prog.elem T)).run Tryz.prog W =.ok size W)(A:Option Addr)(n c i k:Nat)(hi:i≤k)(hk:k≤n)(hn:n≤c)(z y:Int)(hz:z=i)(hy:y=k) :
 ∃A':Option Addr,(∀W:World,(Instr.slice T (.slice A n c) (some (.int .i64 z)) (some (.int .i64 y)) none).run Tryz.prog W =.ok (.slice A' (k-i) (c-i)) W)∧
  ∀(w:World) (f:Nat→Value),Sl w A (n*size) f→Sl w A' ((k-i)*size) (fun j=>f (i*size+j)):=by
 subst hz
 subst hy
 refine⟨if c=i then A else A.map (·.add (i*size)),fun W=>?_,fun w f h=>?_⟩
 ·rw[run_slice_lh W T A n c ht .i64 .i64 (i:Int) (k:Int) (by omega) (by omega) (by omega),hsz W]
  simp[Result.andThen,sliced]
 intro h0
 have hpos:0<k-i:=by
  rcases Nat.eq_zero_or_pos (k-i) with e |e
  ·rw[e]at h0;simp at h0
  exact e
 have hs:0<size:=by
  rcases Nat.eq_zero_or_pos size with e |e
  ·rw[e]at h0;simp at h0
  exact e
 obtain ⟨b,off,rfl,hlt,hcell⟩:=h (Nat.mul_pos (by omega) hs)
 rw[if_neg (by omega)]
 refine⟨b,off+i*size,by simp[Addr.add],hlt,fun j hj=>?_⟩
 rw[Nat.add_assoc]
 refine hcell _ ?_
 rw[Nat.sub_mul]at hj
 have:k*size≤n*size:=Nat.mul_le_mul_right _ hk
 omega
section
variable {P:Program}(w:World)
theorem wD (base:Nat)(t ty e:TypeId)(i:TypeInfo)(size:Nat)(ht:P.underlying t=some (.slice e))(hi:P.info? e=some i)
 (v:Value) (n:Nat) (xs:List Value) (hown:w.ownsRow base e size v n xs) (c:Nat):(Builtin.append_ #[t,t] ty #[v,.slice none 0 c]).run P w =.ok v w:=by
 rcases hown.2 with ⟨rfl,rfl⟩ |⟨g,cap,cur,rfl,_,_,hnc,_⟩
 ·simp[Builtin.append_,run_underlying ht,sizeOf,typeInfo,hi,Builtin.lenOf,Builtin.firstCells]
 simp[Builtin.append_,run_underlying ht,sizeOf,typeInfo,hi,Builtin.lenOf,Builtin.firstCells,hnc,storeCells]
theorem FG (base:Nat)(t ty e:TypeId)(i:TypeInfo)(z:Value)(size bytes:Nat)(ht:P.underlying t=some (.slice e))(hi:P.info? e=some i)(hz:i.zero=some z)
 (hsize:i.size=size) (hby:i.bytes=bytes) (hzs:z.cells.size=size) (hsz:0<size)
 (v:Value) (n:Nat) (f:Nat→Value) (hown:Ow w base e size v n f)
 (A:Option Addr) (m c:Nat) (f2:Nat→Value) (hr:Sl w A (m*size) f2) (h1:∀j,j<m*size→(f2 j).oneCell'=true)
 (h63:n+m≤maxLen) (hbytes:(n+m)*bytes≤140737488355328) (hbase:base≤w.heap.size) :
 ∃v' w',(Builtin.append_ #[t,t] ty #[v,.slice A m c]).run P w =.ok v' w'∧Ow w' base e size v' (n+m) (two (n*size) f f2)∧w.grownBy w' v.ownBlock∧
  (v'.ownBlock=v.ownBlock∨v'.ownBlock=some w.heap.size):=by
 unfold Ow
 rw[Nat.add_mul,←mw]
 rcases A with _ |ad
 ·have hm:m=0:=by
   rcases Nat.eq_zero_or_pos m with h0 |h0
   ·exact h0
   obtain ⟨_,_,h,_⟩:=hr (Nat.mul_pos h0 hsz)
   cases h
  subst hm
  exact⟨v,w,wD w base t ty e i size ht hi v n _ hown c,by simpa [Ow]using hown,World.grownBy.refl w _,.inl rfl⟩
 have hcells:∀j u,((List.range (m*size)).map f2)[j]? = some u→w.cell? (ad.add j)=some u:=by
  intro j u hu
  rcases Nat.lt_or_ge j (m*size) with hj |hj
  ·obtain ⟨b,off,h,_,hc⟩:=hr (by omega)
   injection h with h
   subst h
   have h2:=hc j hj
   simp[hj]at hu
   subst hu
   rw[←h2,add_plain]
  simp[Nat.not_lt.2 hj]at hu
 obtain ⟨v',w',hrun,h2,h3,_,h5⟩:=run_append_own_at (P:=P) w base t ty e i z size bytes ht hi hz hsize hby hzs hsz v n _ hown ad m c ((List.range (m*size)).map f2) (by simp) hcells
  (fun u hu=>by
   obtain ⟨j,hj,rfl⟩:=List.mem_map.1 hu
   exact h1 j (by simpa using hj)) h63 hbytes hbase
 exact⟨v',w',hrun,h2,h3,h5⟩
theorem wS {o:Oper}{a:Act}{K:Act→World→Prop}{Q:Exit→Act→World→Prop}(s x:Operand)(t:TypeId)
 (ho:o.op =.call { callee:=.builtin .append,args:=#[s,x],argTypes:=#[t,t] })
 (base:Nat) (e:TypeId) (i:TypeInfo) (z:Value) (size bytes:Nat) (ht:P.underlying t=some (.slice e)) (hi:P.info? e=some i) (hz:i.zero=some z)
 (hsize:i.size=size) (hby:i.bytes=bytes) (hzs:z.cells.size=size) (hsz:0<size)
 (v:Value) (n:Nat) (f:Nat→Value) (hs:a.eval s=v) (hown:Ow w base e size v n f)
 (A:Option Addr) (m c:Nat) (f2:Nat→Value) (hx:a.eval x =.slice A m c) (hr:Sl w A (m*size) f2) (h1:∀j,j<m*size→(f2 j).oneCell'=true)
 (h63:n+m≤maxLen) (hbytes:(n+m)*bytes≤140737488355328) (hbase:base≤w.heap.size)
 (h:∀A' c' w',Ow w' base e size (.slice A' (n+m) c') (n+m) (two (n*size) f f2)→n+m≤c'→c'≤maxLen→Below base w w'→w.grownBy w' v.ownBlock→(∀g,(Value.slice A' (n+m) c').ownBlock=some g→v.ownBlock=some g∨g=w.heap.size)→
  K (a.put o.dst (.slice A' (n+m) c')) w'):o.wp P a w K Q:=by
 obtain ⟨v',w',hrun,h2,h3,h4⟩:=FG (P:=P) w base t o.type e i z size bytes ht hi hz hsize hby hzs hsz v n f hown A m c f2 hr h1 h63 hbytes hbase
 obtain ⟨A',c',rfl,hc1,hc2,_⟩:=h2.aF
 unfold Oper.wp execOp
 simp only[ho,resolve,invoke,builtin,Sem.run_bind,Sem.run_pure,Result.andThen_ok,List.map_toArray,List.map_cons,List.map_nil,hs,hx,hrun]
 refine h A' c' w' h2 hc1 hc2 (hown.below_ h3 hbase) h3 (fun g hg=>?_)
 rcases h4 with h4 |h4
 ·exact .inl (h4 ▸ hg)
 rw[h4]at hg
 injection hg with hg
 exact .inr hg.symm
theorem yZ {ops:Array Oper}{rest:List Oper}{o:Oper}{a:Act}{Q:Exit→Act→World→Prop}(hgd:o.guard=none)(s x:Operand)(t:TypeId)
 (ho:o.op =.call { callee:=.builtin .append,args:=#[s,x],argTypes:=#[t,t] })
 (base:Nat) (e:TypeId) (i:TypeInfo) (z:Value) (size bytes:Nat) (ht:P.underlying t=some (.slice e)) (hi:P.info? e=some i) (hz:i.zero=some z)
 (hsize:i.size=size) (hby:i.bytes=bytes) (hzs:z.cells.size=size) (hsz:0<size)
 (v:Value) (n:Nat) (f:Nat→Value) (hs:a.eval s=v) (hown:Ow w base e size v n f)
 (A:Option Addr) (m c:Nat) (f2:Nat→Value) (hx:a.eval x =.slice A m c) (hr:Sl w A (m*size) f2) (h1:∀j,j<m*size→(f2 j).oneCell'=true)
 (h63:n+m≤maxLen) (hbytes:(n+m)*bytes≤140737488355328) (hbase:base≤w.heap.size)
 (h:∀A' c' w',Ow w' base e size (.slice A' (n+m) c') (n+m) (two (n*size) f f2)→n+m≤c'→c'≤maxLen→Below base w w'→w.grownBy w' v.ownBlock→(∀g,(Value.slice A' (n+m) c').ownBlock=some g→v.ownBlock=some g∨g=w.heap.size)→
  wpList P ops Q rest (a.put o.dst (.slice A' (n+m) c')) w'):wpList P ops Q (o::rest) a w:=
 wpList_plain hgd fun _ hK=>wS w s x t ho base e i z size bytes ht hi hz hsize hby hzs hsz v n f hs hown A m c f2 hx hr h1 h63 hbytes hbase fun A' c' w' h2 h3 h4 h5 h6 h7=>hK _ _ (h A' c' w' h2 h3 h4 h5 h6 h7)
end
section
variable {H:Type}{enc:TypeId×Value→H}
theorem oh {W W':World}(hb:Below W.heap.size W W'):∀{ts:List TypeId} {vs:List Value} {ds:List (DataW H)} {ps:List MemPlace},(∀t∈ts,Tryz.prog.readableRec t=true∧t<Tryz.prog.types.size)→
 DataW.TrodAll enc Tryz.prog W 0 (fun _=>true) true ts vs ds ps→(∀x∈ps,x.block<W.heap.size)→DataW.TrodAll enc Tryz.prog W' 0 (fun b=>decide (b<W.heap.size)) true ts vs ds ps
 | [],[],[],_,_,h,_=>h
 |t::ts,v::vs,d::ds,_,hT,⟨p,q,h1,h2,e⟩,hs=>by
  subst e
  exact⟨p,q,Below.trod Kz (hT t (List.mem_cons.2 (Or.inl rfl))).1 (hT t (List.mem_cons.2 (Or.inl rfl))).2 h1 hb (fun x hx=>hs x (List.mem_append_left _ hx)),
   oh hb (fun t ht=>hT t (List.mem_cons.2 (Or.inr ht))) h2 (fun x hx=>hs x (List.mem_append_right _ hx)),rfl⟩
theorem uG {W:World}{b:Nat}{sp:Nat→Bool}{hd:Bool}:∀{ts:List TypeId} {vs:List Value} {ds:List (DataW H)} {ps:List MemPlace},DataW.TrodAll enc Tryz.prog W b sp hd ts vs ds ps→ds.length=ts.length
 | [],[],[],_,_=>rfl
 | _::ts,_::vs,_::ds,_,⟨_,_,_,h2,_⟩=>by simp[uG h2]
set_option maxRecDepth 100000 in
theorem open_row {W:World}{base:Nat}{t e:TypeId}{k:IntKind}{v:Value}{d:DataW H}{ps:List MemPlace}(ht:Tryz.prog.underlying t=some (.slice e))(he:Tryz.prog.underlying e=some (.int k))(hc:Tryz.prog.cellsOf e=1)
 (hval:Value.okWide Tryz.prog W .any base t v) (h:DataW.Trod enc Tryz.prog W 0 (fun _=>true) true t v d ps) :
 ∃(A:Option Addr) (n c:Nat) (g:Nat→Int),v =.slice A n c∧n≤c∧c≤maxLen∧Sl W A n (fun j=>.int k (g j))∧(∀j,(Lit.int k (g j)).wf=true)∧(∀ad,A=some ad→0<n→ad.block<W.heap.size)∧
  (d =.nil∧c=0∨∃xs ys,d =.slice xs ys∧xs.length+ys.length=c):=by
 have K_:(Lit.int k 0).wf=true:=by cases k <;> rfl
 obtain ⟨A,n,c,rfl⟩:=okWide_slice ht hval
 obtain ⟨fuel,hf⟩:=h
 rcases open_ints ht he hc hf with ⟨hcs,hx⟩ |⟨a,len',cap',zs,hcs,_,hl,hm,hz,hx,hcell,hwz⟩
 ·simp[Value.cells]at hcs
  obtain ⟨rfl,rfl,rfl⟩:=hcs
  simp only[Prod.mk.injEq]at hx
  exact⟨none,0,0,fun _=>0,rfl,Nat.le_refl _,Nat.zero_le _,Sl.nil _ _ _,(fun _=>K_),(fun _ h _=>by cases h),.inl ⟨hx.1,rfl⟩⟩
 simp[Value.cells]at hcs
 obtain ⟨rfl,rfl,rfl⟩:=hcs
 simp only[if_true]at hz
 simp only[Prod.mk.injEq]at hx
 have hlt:0<n→∃b off:Nat,a=⟨b,off,none⟩∧b<W.heap.size:=by
  intro h0
  obtain ⟨b,off,spot⟩:=a
  have h1:=hcell 0 (by omega)
  have hs:spot=none:=by simpa [Addr.add]using World.cell?_spot h1
  subst hs
  refine⟨b,off,rfl,?_⟩
  rcases Nat.lt_or_ge b W.heap.size with hlt |hge
  ·exact hlt
  simp[World.cell?,Addr.add,Array.getElem?_eq_none hge]at h1
 refine⟨some a,n,c,fun j=>zs.getD j 0,rfl,hl,hm,?_,fun j=>?_,fun ad e h0=>?_,.inr ⟨_,_,hx.1,by simp[lits];omega⟩⟩
 ·intro h0
  obtain ⟨b,off,rfl,hb⟩:=hlt h0
  refine⟨b,off,rfl,hb,fun j hj=>?_⟩
  rw[←add_plain]
  exact hcell j (by omega)
 ·rcases Nat.lt_or_ge j zs.length with hj |hj
  ·refine hwz _ ?_
   simp only[List.getD_eq_getElem?_getD,List.getElem?_eq_getElem hj,Option.getD_some]
   exact List.getElem_mem hj
  simp only[List.getD_eq_getElem?_getD,List.getElem?_eq_none hj,Option.getD_none]
  exact K_
 obtain ⟨b,off,rfl,hb⟩:=hlt h0
 have e:=Option.some.inj e
 subst e
 exact hb
set_option maxRecDepth 100000 in
theorem vf {os:Os}(started:os.Started){K:FuncId}{fn:Func}{s:ChangeSpec}{tb:TypeId}(noInit:Tryz.prog.inits.idxOf? K=none)(hfn:Tryz.prog.funcs[K]? = some fn)
 (witness:∃(w:World) (tape:Tape) (i:Input),w.os=os∧(w.forCall tape i).Shaped Tryz.prog∧i.vars =[]∧Input.okWide Tryz.prog (w.forCall tape i) .any w.heap.size K i∧
  s.pre6 enc Tryz.prog fn [] false (w.forCall tape i).memory i.args∧({}:Assume).holds Tryz.prog (lone (Frame.enter Tryz.prog K i.args .normal) [] (w.forCall tape i)))
 (hv:s.vars =[]) (hrd:∀t∈fn.params.toList,Tryz.prog.readableRec t=true∧t<Tryz.prog.types.size) (hres:fn.resultTypes =#[tb]) (htb:Tryz.prog.underlying tb=some .bool)
 (hs:∀ds:List (DataW H),ds.length=fn.params.toList.length→s.fn H ds ={ results:=[.lit (.bool true)],args:=ds })
 (walk:∀(W:World) (base:Nat) (args:Array Value) (ds:List (DataW H)) (ps:List MemPlace),(∀(j:Nat) t v,fn.params[j]? = some t→args[j]? = some v→Value.okWide Tryz.prog W .any base t v)→
  DataW.TrodAll enc Tryz.prog W 0 (fun _=>true) true fn.params.toList args.toList ds ps→(DataW.weightsEach Tryz.prog fn.params.toList ds).all (· ≤reachBytes)=true→
  Calls Tryz.prog K args W fun e W'=>e =.returned (.bool true)∧Below W.heap.size W W') :
 ReturnsInHanded {} Tryz.checked os K .any (s.pre6 enc Tryz.prog fn [] false) (s.post enc Tryz.prog fn false true false false):=by
 refine returnsInHanded_of_change_sized (C:=Tryz.checked) MM started noInit hfn witness ?_
 intro W base args ds gs before hval hW _ hsz _
 have hlt:∀x∈before,x.block<W.heap.size:=fun x hx=>by simpa using hW.lt x hx
 have hW':=hW
 obtain ⟨p,q,hA,hV,rfl,_,_⟩:=hW
 rw[hv]at hV
 obtain ⟨rfl,rfl⟩:=trodVars_none hV
 have hsz':(DataW.weightsEach Tryz.prog fn.params.toList ds).all (· ≤reachBytes)=true:=by
  have h1:DataSpec.varTypes Tryz.checked.prog s.plain =[]:=by simp[ChangeSpec.plain,DataSpec.varTypes,hv]
  rw[h1,List.append_nil,List.append_nil]at hsz
  exact hsz
 refine(walk W base args ds p hval hA hsz').mono fun e W' ⟨he,hb⟩=>?_
 subst he
 have hlen:=uG hA
 have hfn':=hs ds hlen
 refine⟨_,rfl,ds,[],_,[],p,[],hW',?_,?_,?_,hb.frame _,fun h=>by cases h⟩
 ·rw[hres,List.append_nil,hfn']
  exact trodAll_cons_mk (shut_bool htb true) trodAll_mk0
 ·rw[List.append_nil,hfn']
  exact oh hb hrd hA (fun x hx=>hlt x (List.mem_append_left _ hx))
 rw[hv,List.append_nil,hfn']
 rfl
end
def wi (a n:Int):Int:=a%n
theorem jE (a n:Int)(h:0<n):0≤wi a n∧wi a n<n:=⟨Int.emod_nonneg _ (by omega),Int.emod_lt_of_pos _ h⟩
theorem tmod_neg (a n:Int)(h:0<n)(ht:a.tmod n<0):a.tmod n+n=wi a n:=by
 unfold wi
 rw[Int.tmod_eq_emod]at ht ⊢
 have h1:=Int.emod_nonneg a (show n≠0 by omega)
 split at ht <;> rename_i hc
 ·omega
 rw[if_neg hc];omega
theorem qO (a n:Int)(h:0<n)(ht:0≤a.tmod n):a.tmod n=wi a n:=by
 unfold wi
 rw[Int.tmod_eq_emod]at ht ⊢
 have h1:=Int.emod_lt_of_pos a h
 split at ht <;> rename_i hc
 ·rw[if_pos hc];omega
 omega
theorem sF (a n:Int)(h:0<n): -n<a.tmod n∧a.tmod n<n:=by
 have h1:=Int.emod_lt_of_pos a h
 have h2:=Int.emod_nonneg a (show n≠0 by omega)
 rw[Int.tmod_eq_emod]
 split
 ·omega
 rename_i hc
 have:¬n∣a:=fun hd=>hc (.inr hd)
 have h3:a%n≠0:=fun he=>this (Int.dvd_of_emod_eq_zero he)
 omega
theorem qZ5{P:Prop}(h:P:=by
 go_wp2
 ·go_ret
  exact⟨bp (hn.out (by assumption)),rfl⟩
 go_ret
 exact⟨bp (hp.out (by assumption)),rfl⟩
 ):P:=h
theorem wm (a n:Int)(w:World)(hb:0<n)(hb':n≤4611686018427387904) :
 Calls Tryz.prog 70 #[a,n] w fun e w'=>e =.returned (.int .i64 (wi a n))∧w=w':=by
 have ht:=sF a n hb
 have hn:=hid (tmod_neg a n hb)
 have hp:=hid (qO a n hb)
 obtain ⟨h1,h2⟩:=ht
 go_enter Tryz.func70,Tryz.ntmps70
 exact qZ5
theorem jy {α:Type}{L rest:List α}{i:Nat}{o:α}(h:L.drop i=o::rest):L.toArray[i]? = some o:=by
 have h1:(L.drop i)[0]? = some o:=by rw[h];rfl
 rw[List.getElem?_drop]at h1
 simpa using h1
section
variable {P:Program}{ops:Array Oper}{Q:Exit→Act→World→Prop}{md:Region.Mode}{S S':World→Prop}
theorem qh (hS:∀w,S' w→S w):∀(fuel:Nat) (listed:Array Bool) (a:Act) (w:World),wpAnyH P md ops Q S' fuel listed a w→wpAnyH P md ops Q S fuel listed a w
 |0,_,_,_,h=>h
 |fuel+1,_,_,_,h=>⟨h.1,fun i hi=>wpOp_mono (fun a' w' h'=>⟨hS w' h'.1,qh hS fuel _ a' w' h'.2⟩) (h.2 i hi)⟩
theorem more {fuel:Nat}{listed:Array Bool}{a:Act}{w:World}(S':World→Prop)(hS:∀w,S' w→S w)(hw:S' w)(h:S' w→wpAnyH P md ops Q S' fuel listed a w):wpAnyH P md ops Q S fuel listed a w:=
 qh hS _ _ _ _ (h hw)
theorem tk (i:Nat){L rest:List Oper}{oi:Oper}{v:Value}{fuel:Nat}{listed:Array Bool}{a:Act}{w:World}(hi:L.drop i=oi::rest)
 (hs:Region.noSelect L.toArray=true) (hf:Region.free md L.toArray listed i=true) (hr:(Region.ready md L.toArray listed).contains i=true)
 (hQ:∀c a w,Q (.panic c) (a.put oi.dst v) w→Q (.panic c) a w) (hw:Region.wanted oi (yielded L.toArray a.tmps)=true) (hy:∀w,S w→(execOp a.eval oi).run P w =.ok (.value v) w) (hS:S w)
 (h:wpAnyH P md L.toArray Q S fuel (listed.setIfInBounds i true) (a.put oi.dst v) w):wpAnyH P md L.toArray Q S (fuel+1) listed a w:=
 wpAnyH_take (jy hi) hs hf hr hQ (Or.inl ⟨hw,hy⟩) hS h
theorem tu (i:Nat){L rest:List Oper}{oi:Oper}{fuel:Nat}{listed:Array Bool}{a:Act}{w:World}(hi:L.drop i=oi::rest)
 (hs:Region.noSelect L.toArray=true) (hf:Region.free md L.toArray listed i=true) (hr:(Region.ready md L.toArray listed).contains i=true)
 (hQ:∀c a w,Q (.panic c) (a.put oi.dst undef) w→Q (.panic c) a w) (hw:Region.wanted oi (yielded L.toArray a.tmps)=false) (hS:S w)
 (h:wpAnyH P md L.toArray Q S fuel (listed.setIfInBounds i true) (a.put oi.dst undef) w):wpAnyH P md L.toArray Q S (fuel+1) listed a w:=
 wpAnyH_take (jy hi) hs hf hr hQ (Or.inr ⟨hw,rfl⟩) hS h
theorem only (i:Nat){L rest:List Oper}{o:Oper}{fuel:Nat}{listed:Array Bool}{a:Act}{w:World}(ho:L.drop i=o::rest)(hr:Region.ready md L.toArray listed =[i])
 (hw:Region.wanted o (yielded L.toArray a.tmps)=true)
 (h:∀K':Act→World→Prop,Shut (∀a w,S w→(S w→wpAnyH P md L.toArray Q S fuel (listed.setIfInBounds i true) a w)→K' a w)→Oper.wp P o a w K' Q):wpAnyH P md L.toArray Q S (fuel+1) listed a w:=
 wpAnyH_ready hr (by simp) (AllReadyH.cons (jy ho) (fun K hK=>by rw[if_pos hw];exact h K hK) AllReadyH.nil)
end
section
variable {P:Program}{Q:Exit→Act→World→Prop}{md:Region.Mode}{S:World→Prop}
theorem ae (i:Nat){L rest:List Oper}{oi:Oper}{v:Value}{fuel:Nat}{listed listed':Array Bool}{a a':Act}{w:World}(hS:S w)(h:wpAnyH P md L.toArray Q S fuel listed' a' w)
 (hi:L.drop i=oi::rest:=by rfl) (hs:Region.noSelect L.toArray=true:=by kernel_rfl) (hf:Region.free md L.toArray listed i=true:=by kernel_rfl) (hr:(Region.ready md L.toArray listed).contains i=true:=by kernel_rfl)
 (hQ:∀c a w,Q (.panic c) (a.put oi.dst v) w→Q (.panic c) a w:=by exact fun _ _ _ h=>h) (hw:Region.wanted oi (yielded L.toArray a.tmps)=true:=by rfl)
 (hy:∀w,S w→(execOp a.eval oi).run P w =.ok (.value v) w:=by intro w hSw;(try dsimp only at hSw);go_simp;(try with_reducible rfl))
 (e1:listed.setIfInBounds i true=listed':=by(try simp only[List.setIfInBounds_toArray,List.set_cons_zero,List.set_cons_succ]);(try with_reducible rfl))
 (e2:a.put oi.dst v=a':=by(try simp only[Act.put,List.setIfInBounds_toArray,List.set_cons_zero,List.set_cons_succ]);(try with_reducible rfl)):wpAnyH P md L.toArray Q S (fuel+1) listed a w:=by
 subst e1 e2
 exact tk i hi hs hf hr hQ hw hy hS h
theorem aW (i:Nat){L rest:List Oper}{oi:Oper}{fuel:Nat}{listed listed':Array Bool}{a a':Act}{w:World}(hS:S w)(h:wpAnyH P md L.toArray Q S fuel listed' a' w)
 (hi:L.drop i=oi::rest:=by rfl) (hs:Region.noSelect L.toArray=true:=by kernel_rfl) (hf:Region.free md L.toArray listed i=true:=by kernel_rfl) (hr:(Region.ready md L.toArray listed).contains i=true:=by kernel_rfl)
 (hQ:∀c a w,Q (.panic c) (a.put oi.dst undef) w→Q (.panic c) a w:=by exact fun _ _ _ h=>h) (hw:Region.wanted oi (yielded L.toArray a.tmps)=false:=by rfl)
 (e1:listed.setIfInBounds i true=listed':=by(try simp only[List.setIfInBounds_toArray,List.set_cons_zero,List.set_cons_succ]);(try with_reducible rfl))
 (e2:a.put oi.dst undef=a':=by(try simp only[Act.put,List.setIfInBounds_toArray,List.set_cons_zero,List.set_cons_succ]);(try with_reducible rfl)):wpAnyH P md L.toArray Q S (fuel+1) listed a w:=by
 subst e1 e2
 exact tu i hi hs hf hr hQ hw hS h
end
set_option linter.unusedSimpArgs false
structure Ky where
 a:Int
 b:Int
structure Rg where
 e:Int
 p:Ky
 c:Ky
 n:Ky
structure Fl where
 a:Int
 p:Int
 ta:Int
 tp:Int
def ff (f:Fl):Value:=.agg #[f.a,f.p,f.ta,f.tp]
theorem uU {P:Program}{F:FuncId}{args:Array Value}{w:World}{R:World→Prop}{a b:Int}(h:Calls P F args w fun e w'=>e =.returned (.int .u64 a)∧R w')(he:a=b) :
 Calls P F args w fun e w'=>e =.returned (.int .u64 b)∧R w':=by subst he;exact h
theorem Hh {P:Program}{F:FuncId}{args:Array Value}{w:World}{R:World→Prop}{a b:Value}(h:Calls P F args w fun e w'=>e =.returned a∧R w')(he:a=b) :
 Calls P F args w fun e w'=>e =.returned b∧R w':=by subst he;exact h
theorem then_ {w a b:World}(h:Below w.heap.size w a)(k:Below a.heap.size a b):Below w.heap.size w b:=h.trans (k.mono h.size)
def Ce (w:World)(b:Nat)(l:List Value):Prop:=b<w.heap.size∧(∀j v,l[j]? = some v→w.cell? ⟨b,j,none⟩=some v)∧∀j,w.frozen? ⟨b,j,none⟩=false
theorem Ce.below {w w':World}{b:Nat}{l:List Value}(h:Ce w b l)(hb:Below w.heap.size w w'):Ce w' b l:=
 ⟨Nat.lt_of_lt_of_le h.1 hb.size,fun j v hj=>(hb.cell (p:=⟨b,j,none⟩) h.1).trans (h.2.1 j v hj),fun j=>(World.frozen?_of_block (a:=⟨b,j,none⟩) (hb.block b h.1)).trans (h.2.2 j)⟩
theorem Ce.alloc {w:World}{b:Nat}{l:List Value}(h:Ce w b l)(o:Obj):Ce (w.alloc o) b l:=h.below ((Below.refl _ _).alloc (Nat.le_refl _) o)
theorem Ce.made {w:World}{l:List Value}{T:TypeId}{g:Nat}(hg:w.heap.size=g):Ce (w.alloc (.cells l.toArray T)) g l:=by
 subst hg
 have h:(w.alloc (.cells l.toArray T)).heap[w.heap.size]? = some (.cells l.toArray T (0,0)):=heap_alloc_new w _
 refine⟨by simp,fun j v hj=>?_,fun j=>frozen_of_row _ _ _ _ _ h⟩
 rw[cell_of_row _ w.heap.size j l.toArray T (0,0) h]
 simpa using hj
def cv (w:World)(b j:Nat):Value:=(w.cell? ⟨b,j,none⟩).getD undef
theorem fC {w:World}{b j:Nat}{v:Value}(h:w.cell? ⟨b,j,none⟩=some v):w.cell? ⟨b,j,none⟩=some (cv w b j):=by unfold cv;rw[h];rfl
theorem cG {w:World}{b j:Nat}{p:Addr}{v:Value}(h:w.cell? ⟨b,j,none⟩=some (cv w b j)):(w.setCell p v).cell? ⟨b,j,none⟩=some (cv (w.setCell p v) b j):=by
 obtain ⟨v',h'⟩:=cell?_setCell_some (w:=w) (p:=p) (x:=v) (q:=⟨b,j,none⟩) h
 exact fC h'
theorem mF {w:World}{b j:Nat}{p:Addr}{v u:Value}(h:(w.setCell p v).cell? ⟨b,j,none⟩=some u):∃u',w.cell? ⟨b,j,none⟩=some u':=by
 by_cases e:p=⟨b,j,none⟩
 ·subst e
  cases hb:w.heap[b]? with
  |none=>simp[World.cell?,World.setCell,Array.getElem?_modify,hb]at h
  |some o=>
   cases o with
   |cells c el fr=>
    simp[World.cell?,World.setCell,Array.getElem?_modify,hb]at h ⊢
    have hj:j<c.size:=by
     rcases Nat.lt_or_ge j c.size with hj |hj
     ·exact hj
     simp[Array.setIfInBounds,Nat.not_lt.2 hj]at h
    exact⟨_,Array.getElem?_eq_getElem hj⟩
   | _=>simp[World.cell?,World.setCell,Array.getElem?_modify,hb]at h
 rw[World.cell?_setCell_other _ _ _ _ e]at h
 exact⟨u,h⟩
theorem pw {w:World}{b j:Nat}{v u:Value}(h:(w.setCell ⟨b,j,none⟩ v).cell? ⟨b,j,none⟩=some u):(w.setCell ⟨b,j,none⟩ v).cell? ⟨b,j,none⟩=some v:=by
 obtain ⟨u',h'⟩:=mF h
 exact World.cell?_setCell_same _ _ _ h'
theorem qP {w:World}{R:Nat}{a b c u0 u1 u2:Value}(h0:(((w.setCell ⟨R,0,none⟩ a).setCell ⟨R,1,none⟩ b).setCell ⟨R,2,none⟩ c).cell? ⟨R,0,none⟩=some u0)
 (h1:(((w.setCell ⟨R,0,none⟩ a).setCell ⟨R,1,none⟩ b).setCell ⟨R,2,none⟩ c).cell? ⟨R,1,none⟩=some u1) (h2:(((w.setCell ⟨R,0,none⟩ a).setCell ⟨R,1,none⟩ b).setCell ⟨R,2,none⟩ c).cell? ⟨R,2,none⟩=some u2) :
 (((w.setCell ⟨R,0,none⟩ a).setCell ⟨R,1,none⟩ b).setCell ⟨R,2,none⟩ c).cell? ⟨R,0,none⟩=some a∧(((w.setCell ⟨R,0,none⟩ a).setCell ⟨R,1,none⟩ b).setCell ⟨R,2,none⟩ c).cell? ⟨R,1,none⟩=some b∧(((w.setCell ⟨R,0,none⟩ a).setCell ⟨R,1,none⟩ b).setCell ⟨R,2,none⟩ c).cell? ⟨R,2,none⟩=some c:=by
 obtain ⟨u,g0⟩:=mF h0
 obtain ⟨u',g0'⟩:=mF g0
 obtain ⟨v,g1⟩:=mF h1
 refine⟨?_,?_,pw h2⟩
 ·rw[World.cell?_setCell_other _ _ _ _ (by simp),World.cell?_setCell_other _ _ _ _ (by simp)]
  exact pw g0'
 rw[World.cell?_setCell_other _ _ _ _ (by simp)]
 exact pw g1
theorem cV {P:Program}{fn:Func}{post:Ending→World→Prop}{x:Exit}{a:Act}{W:World}(Q:World→Prop)(hQ:Q W)(h:∀w,Q w→bodyPost P fn post x a w):bodyPost P fn post x a W:=h W hQ
def eO (k:Ky):Value:=.agg #[.int .u64 k.a,.int .u64 k.b]
def fE (r:Rg):Value:=.agg #[r.e,.int .u64 r.p.a,.int .u64 r.p.b,.int .u64 r.c.a,.int .u64 r.c.b,.int .u64 r.n.a,.int .u64 r.n.b]
def dW (x:Int):Prop:= -9223372036854775808≤x∧x≤9223372036854775807
def Ep (e:Int):Prop:= -4611686018427387904≤e∧e≤4611686018427387904
theorem Ce.grown {w w':World}{b:Nat}{l:List Value}{row:Option Nat}(h:Ce w b l)(hg:w.grownBy w' row)(hne:row≠some b):Ce w' b l:=
 have hb:=hg.block b h.1 (fun e=>hne e.symm)
 ⟨Nat.lt_of_lt_of_le h.1 hg.size,fun j v hj=>(World.cell?_of_block (a:=⟨b,j,none⟩) hb).trans (h.2.1 j v hj),fun j=>(World.frozen?_of_block (a:=⟨b,j,none⟩) hb).trans (h.2.2 j)⟩
theorem Ce.set {w:World}{b:Nat}{l:List Value}(h:Ce w b l)(j:Nat)(v:Value)(hj:j<l.length):Ce (w.setCell ⟨b,j,none⟩ v) b (l.set j v):=by
 refine⟨by simpa using h.1,fun i u hi=>?_,fun i=>by rw[World.frozen?_setCell];exact h.2.2 i⟩
 by_cases e:i=j
 ·subst e
  rw[List.getElem?_set_self hj]at hi
  injection hi with hi
  subst hi
  exact World.cell?_setCell_same _ _ _ (h.2.1 i _ (List.getElem?_eq_getElem hj))
 rw[List.getElem?_set_ne (Ne.symm e)]at hi
 rw[World.cell?_setCell_other _ _ _ _ (fun x=>e (by injection x with _ x;exact x.symm))]
 exact h.2.1 i u hi
theorem oe {P:Program}{a:Act}{w:World}{Q:Exit→Act→World→Prop}{c X:Code}(l:Nat)(J:Act→World→Prop)(μ:Act→World→Nat)(hf:findLabel c l=some (Code.skip.seq X))
 (start:∀Q':Exit→Act→World→Prop,(∀a w,J a w→X.wp P Q' a w)→c.wp P Q' a w)
 (pass:∀a w,J a w→X.wp P (Exit.jump l (fun a' w'=>J a' w'∧μ a' w'<μ a w) Q) a w):(Code.scope c).wp P Q a w:=
 wp_scope_jumps l J μ hf (start _ (fun a w hJ=>wp_mono (pass a w hJ) (by
  intro e a w h
  cases e with
  |goto l'=>exact⟨h.1,h.2.1⟩
  | _=>exact h))) (fun a w hJ=>wp_seq (wp_skip (pass a w hJ)))
section
variable {P:Program}{Q:Exit→Act→World→Prop}{md:Region.Mode}{S:World→Prop}
theorem eX (i j:Nat){L rest rest':List Oper}{o o':Oper}{fuel:Nat}{listed:Array Bool}{a:Act}{w:World}(ho:L.drop i=o::rest)(ho':L.drop j=o'::rest')(hr:Region.ready md L.toArray listed =[i,j])
 (hw:Region.wanted o (yielded L.toArray a.tmps)=true) (hw':Region.wanted o' (yielded L.toArray a.tmps)=true)
 (h:∀K':Act→World→Prop,Shut (∀a w,S w→(S w→wpAnyH P md L.toArray Q S fuel (listed.setIfInBounds i true) a w)→K' a w)→Oper.wp P o a w K' Q)
 (h':∀K':Act→World→Prop,Shut (∀a w,S w→(S w→wpAnyH P md L.toArray Q S fuel (listed.setIfInBounds j true) a w)→K' a w)→Oper.wp P o' a w K' Q):wpAnyH P md L.toArray Q S (fuel+1) listed a w:=
 wpAnyH_ready hr (by simp) (AllReadyH.cons (jy ho) (fun K hK=>by rw[if_pos hw];exact h K hK) (AllReadyH.cons (jy ho') (fun K hK=>by rw[if_pos hw'];exact h' K hK) AllReadyH.nil))
end
def eH (x:Int):Prop:=0≤x∧x<4294967296
def nW (a b:Int):Int:=(b-a+2147483648)%4294967296-2147483648
theorem Gk (a b:Int)(ha:eH a)(hb:eH b)(w:World):Calls Tryz.prog 166 #[.int .u32 a,.int .u32 b] w fun e w'=>e =.returned (.int .i64 (nW a b))∧w=w':=by
 obtain ⟨ha1,ha2⟩:=ha
 obtain ⟨hb1,hb2⟩:=hb
 go_enter Tryz.func166,Tryz.ntmps166
 go_wp2
 go_ret
 refine⟨bp ?_,rfl⟩
 unfold nW
 unfold wrap64 wrap32
 omega
theorem Dd (a b:Int)(ha:eH a)(hb:eH b)(w:World):Calls Tryz.prog 142 #[.int .u32 a,.int .u32 b] w fun e w'=>e =.returned (.int .i64 (nW a b))∧w=w':=by
 obtain ⟨ha1,ha2⟩:=ha
 obtain ⟨hb1,hb2⟩:=hb
 go_enter Tryz.func142,Tryz.ntmps142
 go_wp2
 go_ret
 refine⟨bp ?_,rfl⟩
 unfold nW
 unfold wrap64 wrap32
 omega
theorem qYX{P:Prop}(h:P:=by
 rw[BitVec.toNat_or,BitVec.ofInt_natCast,BitVec.ofInt_natCast,BitVec.toNat_ofNat,BitVec.toNat_ofNat,Nat.mod_eq_of_lt (by omega),Nat.mod_eq_of_lt (by omega),hor,IntKind.wrap_u32]
 omega
 ):P:=h
theorem qZB{P:Prop}(h:P:=by
 rw[h2,show Tryz.prog.bytesOf 3=8 from by kernel_rfl]at this
 simpa [reachBytes]using this
 ):P:=h
theorem qXE{P:Prop}(h:P:=by
 rintro e w' ⟨rfl,rfl⟩
 go_wp2_with fail
 refine bodyPost_ret (v:=.tuple #[.slice none 0 0,.int .i64 3]) (by simp[results,Tryz.results28,go_sem]) rfl ?_
 rw[show aG p=3 from lq hk.out hr.out N5.out (.inr (by have:=HL.out;simp at tX;omega))]
 exact aV (by decide) BQ.out
 ):P:=h
theorem qQ7{P:Prop}(h:P:=by
 go_enter Tryz.func28,Tryz.ntmps28
 go_upto_region 1 with (fail)
 generalize (w.alloc (.cells #[p.kind,p.life,p.piece,p.src,p.dst,p.fp,p.tp,p.flags,p.label,p.bare,p.code,.slice AO p.no cO,.slice AD p.nd cD] 53))=w1 at *
 have y0:=CE.out.2.1 0 _ rfl
 have y1:=CE.out.2.1 1 _ rfl
 have y2:=CE.out.2.1 2 _ rfl
 have y3:=CE.out.2.1 3 _ rfl
 have y4:=CE.out.2.1 4 _ rfl
 have y5:=CE.out.2.1 5 _ rfl
 have y6:=CE.out.2.1 6 _ rfl
 have y7:=CE.out.2.1 7 _ rfl
 have y8:=CE.out.2.1 8 _ rfl
 have y9:=CE.out.2.1 9 _ rfl
 have al:=CE.out.2.1 10 _ rfl
 have ak:=CE.out.2.1 11 _ rfl
 have aj:=CE.out.2.1 12 _ rfl
 go_upto_region 3 with (fail)
 go_quiet (fail)
 have BQ:=hid (below_drewN B0.out nq)
 have CQ:=hid (Ce.below CE.out (below_drewN (Below.refl _ _) nq))
 have gW:w.heap.size<w1.heap.size:=CE.out.1
 have lQ:w1.heap.size≤(w1.drewN nq).heap.size:=by simp
 clear B0 CE
 clear y0 y1 y2 y3 y4 y5 y6 y7 y8 y9 al ak aj
 generalize w1.drewN nq=wq at *
 have y0:=CQ.out.2.1 0 _ rfl
 have y1:=CQ.out.2.1 1 _ rfl
 have y2:=CQ.out.2.1 2 _ rfl
 have y3:=CQ.out.2.1 3 _ rfl
 have y4:=CQ.out.2.1 4 _ rfl
 have y5:=CQ.out.2.1 5 _ rfl
 have y6:=CQ.out.2.1 6 _ rfl
 have y7:=CQ.out.2.1 7 _ rfl
 have y8:=CQ.out.2.1 8 _ rfl
 have y9:=CQ.out.2.1 9 _ rfl
 have al:=CQ.out.2.1 10 _ rfl
 have ak:=CQ.out.2.1 11 _ rfl
 have aj:=CQ.out.2.1 12 _ rfl
 go_wp2_with fail
 refine(bF.out _).mono ?_
 rintro e w' ⟨rfl,rfl⟩
 go_wp2_with fail
 refine(bu.out _).mono ?_
 rintro e w' ⟨rfl,rfl⟩
 go_wp2_with fail
 refine(cL.out _).mono ?_
 rintro e w' ⟨rfl,rfl⟩
 go_wp2_with fail
 refine bodyPost_ret (v:=.tuple #[.slice none 0 0,.int .i64 14]) (by simp[results,Tryz.results28,go_sem]) rfl ?_
 rw[show aG p=14 from dj hk.out (by unfold bC;rw[KH.out];simp[bW,bO,dx])]
 exact aV (by decide) BQ.out
 ):P:=h
theorem qQ4{P:Prop}(h:P:=by
 go_enter Tryz.func28,Tryz.ntmps28
 go_upto_region 1 with (fail)
 generalize (w.alloc (.cells #[p.kind,p.life,p.piece,p.src,p.dst,p.fp,p.tp,p.flags,p.label,p.bare,p.code,.slice AO p.no cO,.slice AD p.nd cD] 53))=w1 at *
 have y0:=CE.out.2.1 0 _ rfl
 have y1:=CE.out.2.1 1 _ rfl
 have y2:=CE.out.2.1 2 _ rfl
 have y3:=CE.out.2.1 3 _ rfl
 have y4:=CE.out.2.1 4 _ rfl
 have y5:=CE.out.2.1 5 _ rfl
 have y6:=CE.out.2.1 6 _ rfl
 have y7:=CE.out.2.1 7 _ rfl
 have y8:=CE.out.2.1 8 _ rfl
 have y9:=CE.out.2.1 9 _ rfl
 have al:=CE.out.2.1 10 _ rfl
 have ak:=CE.out.2.1 11 _ rfl
 have aj:=CE.out.2.1 12 _ rfl
 go_upto_region 3 with (fail)
 go_quiet (fail)
 have BQ:=hid (below_drewN B0.out nq)
 have CQ:=hid (Ce.below CE.out (below_drewN (Below.refl _ _) nq))
 have gW:w.heap.size<w1.heap.size:=CE.out.1
 have lQ:w1.heap.size≤(w1.drewN nq).heap.size:=by simp
 clear B0 CE
 clear y0 y1 y2 y3 y4 y5 y6 y7 y8 y9 al ak aj
 generalize w1.drewN nq=wq at *
 have y0:=CQ.out.2.1 0 _ rfl
 have y1:=CQ.out.2.1 1 _ rfl
 have y2:=CQ.out.2.1 2 _ rfl
 have y3:=CQ.out.2.1 3 _ rfl
 have y4:=CQ.out.2.1 4 _ rfl
 have y5:=CQ.out.2.1 5 _ rfl
 have y6:=CQ.out.2.1 6 _ rfl
 have y7:=CQ.out.2.1 7 _ rfl
 have y8:=CQ.out.2.1 8 _ rfl
 have y9:=CQ.out.2.1 9 _ rfl
 have al:=CQ.out.2.1 10 _ rfl
 have ak:=CQ.out.2.1 11 _ rfl
 have aj:=CQ.out.2.1 12 _ rfl
 go_wp2_with fail
 refine(bF.out _).mono ?_
 rintro e w' ⟨rfl,rfl⟩
 go_wp2_with fail
 refine(bu.out _).mono ?_
 rintro e w' ⟨rfl,rfl⟩
 go_wp2_with fail
 refine(cL.out _).mono ?_
 rintro e w' ⟨rfl,rfl⟩
 go_wp2_with fail
 refine(dv.out _).mono ?_
 rintro e w' ⟨rfl,rfl⟩
 go_wp2_with fail
 refine bodyPost_ret (v:=.tuple #[.slice none 0 0,.int .i64 14]) (by simp[results,Tryz.results28,go_sem]) rfl ?_
 rw[show aG p=14 from dj hk.out (by unfold bC;rw[KH.out];simp[bW,bO,dx,dI])]
 exact aV (by decide) BQ.out
 ):P:=h
theorem qQ3{P:Prop}(h:P:=by
 go_enter Tryz.func28,Tryz.ntmps28
 go_upto_region 1 with (fail)
 generalize (w.alloc (.cells #[p.kind,p.life,p.piece,p.src,p.dst,p.fp,p.tp,p.flags,p.label,p.bare,p.code,.slice AO p.no cO,.slice AD p.nd cD] 53))=w1 at *
 have y0:=CE.out.2.1 0 _ rfl
 have y1:=CE.out.2.1 1 _ rfl
 have y2:=CE.out.2.1 2 _ rfl
 have y3:=CE.out.2.1 3 _ rfl
 have y4:=CE.out.2.1 4 _ rfl
 have y5:=CE.out.2.1 5 _ rfl
 have y6:=CE.out.2.1 6 _ rfl
 have y7:=CE.out.2.1 7 _ rfl
 have y8:=CE.out.2.1 8 _ rfl
 have y9:=CE.out.2.1 9 _ rfl
 have al:=CE.out.2.1 10 _ rfl
 have ak:=CE.out.2.1 11 _ rfl
 have aj:=CE.out.2.1 12 _ rfl
 go_upto_region 3 with (fail)
 go_quiet (fail)
 have BQ:=hid (below_drewN B0.out nq)
 have CQ:=hid (Ce.below CE.out (below_drewN (Below.refl _ _) nq))
 have gW:w.heap.size<w1.heap.size:=CE.out.1
 have lQ:w1.heap.size≤(w1.drewN nq).heap.size:=by simp
 clear B0 CE
 clear y0 y1 y2 y3 y4 y5 y6 y7 y8 y9 al ak aj
 generalize w1.drewN nq=wq at *
 have y0:=CQ.out.2.1 0 _ rfl
 have y1:=CQ.out.2.1 1 _ rfl
 have y2:=CQ.out.2.1 2 _ rfl
 have y3:=CQ.out.2.1 3 _ rfl
 have y4:=CQ.out.2.1 4 _ rfl
 have y5:=CQ.out.2.1 5 _ rfl
 have y6:=CQ.out.2.1 6 _ rfl
 have y7:=CQ.out.2.1 7 _ rfl
 have y8:=CQ.out.2.1 8 _ rfl
 have y9:=CQ.out.2.1 9 _ rfl
 have al:=CQ.out.2.1 10 _ rfl
 have ak:=CQ.out.2.1 11 _ rfl
 have aj:=CQ.out.2.1 12 _ rfl
 go_wp2_with fail
 refine(bF.out _).mono ?_
 rintro e w' ⟨rfl,rfl⟩
 go_wp2_with fail
 refine(bu.out _).mono ?_
 rintro e w' ⟨rfl,rfl⟩
 go_wp2_with fail
 refine(cL.out _).mono ?_
 rintro e w' ⟨rfl,rfl⟩
 go_wp2_with fail
 refine(dv.out _).mono ?_
 rintro e w' ⟨rfl,rfl⟩
 go_wp2_with fail
 refine(fK.out _).mono ?_
 rintro e w' ⟨rfl,rfl⟩
 go_wp2_with fail
 refine bodyPost_ret (v:=.tuple #[.slice none 0 0,.int .i64 14]) (by simp[results,Tryz.results28,go_sem]) rfl ?_
 rw[show aG p=14 from dj hk.out (by unfold bC;rw[KH.out];simp[bW,bO,dx,dI,f9])]
 exact aV (by decide) BQ.out
 ):P:=h
theorem qQ1{P:Prop}(h:P:=by
 go_enter Tryz.func28,Tryz.ntmps28
 go_upto_region 1 with (fail)
 generalize (w.alloc (.cells #[p.kind,p.life,p.piece,p.src,p.dst,p.fp,p.tp,p.flags,p.label,p.bare,p.code,.slice AO p.no cO,.slice AD p.nd cD] 53))=w1 at *
 have y0:=CE.out.2.1 0 _ rfl
 have y1:=CE.out.2.1 1 _ rfl
 have y2:=CE.out.2.1 2 _ rfl
 have y3:=CE.out.2.1 3 _ rfl
 have y4:=CE.out.2.1 4 _ rfl
 have y5:=CE.out.2.1 5 _ rfl
 have y6:=CE.out.2.1 6 _ rfl
 have y7:=CE.out.2.1 7 _ rfl
 have y8:=CE.out.2.1 8 _ rfl
 have y9:=CE.out.2.1 9 _ rfl
 have al:=CE.out.2.1 10 _ rfl
 have ak:=CE.out.2.1 11 _ rfl
 have aj:=CE.out.2.1 12 _ rfl
 go_upto_region 3 with (fail)
 go_quiet (fail)
 have BQ:=hid (below_drewN B0.out nq)
 have CQ:=hid (Ce.below CE.out (below_drewN (Below.refl _ _) nq))
 have gW:w.heap.size<w1.heap.size:=CE.out.1
 have lQ:w1.heap.size≤(w1.drewN nq).heap.size:=by simp
 clear B0 CE
 clear y0 y1 y2 y3 y4 y5 y6 y7 y8 y9 al ak aj
 generalize w1.drewN nq=wq at *
 have y0:=CQ.out.2.1 0 _ rfl
 have y1:=CQ.out.2.1 1 _ rfl
 have y2:=CQ.out.2.1 2 _ rfl
 have y3:=CQ.out.2.1 3 _ rfl
 have y4:=CQ.out.2.1 4 _ rfl
 have y5:=CQ.out.2.1 5 _ rfl
 have y6:=CQ.out.2.1 6 _ rfl
 have y7:=CQ.out.2.1 7 _ rfl
 have y8:=CQ.out.2.1 8 _ rfl
 have y9:=CQ.out.2.1 9 _ rfl
 have al:=CQ.out.2.1 10 _ rfl
 have ak:=CQ.out.2.1 11 _ rfl
 have aj:=CQ.out.2.1 12 _ rfl
 go_wp2_with fail
 refine(bF.out _).mono ?_
 rintro e w' ⟨rfl,rfl⟩
 go_wp2_with fail
 refine(bu.out _).mono ?_
 rintro e w' ⟨rfl,rfl⟩
 go_wp2_with fail
 refine(cL.out _).mono ?_
 rintro e w' ⟨rfl,rfl⟩
 go_wp2_with fail
 refine(dv.out _).mono ?_
 rintro e w' ⟨rfl,rfl⟩
 go_wp2_with fail
 refine(fK.out _).mono ?_
 rintro e w' ⟨rfl,rfl⟩
 go_wp2_with fail
 refine(f_.out _).mono ?_
 rintro e w' ⟨rfl,rfl⟩
 go_wp2_with fail
 refine bodyPost_ret (v:=.tuple #[.slice none 0 0,.int .i64 14]) (by simp[results,Tryz.results28,go_sem]) rfl ?_
 rw[show aG p=14 from dj hk.out (by unfold bC;rw[KH.out];simp[bW,bO,dx,dI,f9,h_])]
 exact aV (by decide) BQ.out
 ):P:=h
theorem qQF{P:Prop}(h:P:=by
 go_enter Tryz.func28,Tryz.ntmps28
 go_upto_region 1 with (fail)
 generalize (w.alloc (.cells #[p.kind,p.life,p.piece,p.src,p.dst,p.fp,p.tp,p.flags,p.label,p.bare,p.code,.slice AO p.no cO,.slice AD p.nd cD] 53))=w1 at *
 have y0:=CE.out.2.1 0 _ rfl
 have y1:=CE.out.2.1 1 _ rfl
 have y2:=CE.out.2.1 2 _ rfl
 have y3:=CE.out.2.1 3 _ rfl
 have y4:=CE.out.2.1 4 _ rfl
 have y5:=CE.out.2.1 5 _ rfl
 have y6:=CE.out.2.1 6 _ rfl
 have y7:=CE.out.2.1 7 _ rfl
 have y8:=CE.out.2.1 8 _ rfl
 have y9:=CE.out.2.1 9 _ rfl
 have al:=CE.out.2.1 10 _ rfl
 have ak:=CE.out.2.1 11 _ rfl
 have aj:=CE.out.2.1 12 _ rfl
 go_upto_region 3 with (fail)
 go_quiet (fail)
 have BQ:=hid (below_drewN B0.out nq)
 have CQ:=hid (Ce.below CE.out (below_drewN (Below.refl _ _) nq))
 have gW:w.heap.size<w1.heap.size:=CE.out.1
 have lQ:w1.heap.size≤(w1.drewN nq).heap.size:=by simp
 clear B0 CE
 clear y0 y1 y2 y3 y4 y5 y6 y7 y8 y9 al ak aj
 generalize w1.drewN nq=wq at *
 have y0:=CQ.out.2.1 0 _ rfl
 have y1:=CQ.out.2.1 1 _ rfl
 have y2:=CQ.out.2.1 2 _ rfl
 have y3:=CQ.out.2.1 3 _ rfl
 have y4:=CQ.out.2.1 4 _ rfl
 have y5:=CQ.out.2.1 5 _ rfl
 have y6:=CQ.out.2.1 6 _ rfl
 have y7:=CQ.out.2.1 7 _ rfl
 have y8:=CQ.out.2.1 8 _ rfl
 have y9:=CQ.out.2.1 9 _ rfl
 have al:=CQ.out.2.1 10 _ rfl
 have ak:=CQ.out.2.1 11 _ rfl
 have aj:=CQ.out.2.1 12 _ rfl
 go_wp2_with fail
 refine(bF.out _).mono ?_
 rintro e w' ⟨rfl,rfl⟩
 go_wp2_with fail
 refine bodyPost_ret (v:=.tuple #[.slice none 0 0,.int .i64 14]) (by simp[results,Tryz.results28,go_sem]) rfl ?_
 rw[show aG p=14 from dj hk.out (by unfold bC;rw[KH.out];simp[bW])]
 exact aV (by decide) BQ.out
 ):P:=h
theorem qQD{P:Prop}(h:P:=by
 go_enter Tryz.func28,Tryz.ntmps28
 go_upto_region 1 with (fail)
 generalize (w.alloc (.cells #[p.kind,p.life,p.piece,p.src,p.dst,p.fp,p.tp,p.flags,p.label,p.bare,p.code,.slice AO p.no cO,.slice AD p.nd cD] 53))=w1 at *
 have y0:=CE.out.2.1 0 _ rfl
 have y1:=CE.out.2.1 1 _ rfl
 have y2:=CE.out.2.1 2 _ rfl
 have y3:=CE.out.2.1 3 _ rfl
 have y4:=CE.out.2.1 4 _ rfl
 have y5:=CE.out.2.1 5 _ rfl
 have y6:=CE.out.2.1 6 _ rfl
 have y7:=CE.out.2.1 7 _ rfl
 have y8:=CE.out.2.1 8 _ rfl
 have y9:=CE.out.2.1 9 _ rfl
 have al:=CE.out.2.1 10 _ rfl
 have ak:=CE.out.2.1 11 _ rfl
 have aj:=CE.out.2.1 12 _ rfl
 go_upto_region 3 with (fail)
 go_quiet (fail)
 have BQ:=hid (below_drewN B0.out nq)
 have CQ:=hid (Ce.below CE.out (below_drewN (Below.refl _ _) nq))
 have gW:w.heap.size<w1.heap.size:=CE.out.1
 have lQ:w1.heap.size≤(w1.drewN nq).heap.size:=by simp
 clear B0 CE
 clear y0 y1 y2 y3 y4 y5 y6 y7 y8 y9 al ak aj
 generalize w1.drewN nq=wq at *
 have y0:=CQ.out.2.1 0 _ rfl
 have y1:=CQ.out.2.1 1 _ rfl
 have y2:=CQ.out.2.1 2 _ rfl
 have y3:=CQ.out.2.1 3 _ rfl
 have y4:=CQ.out.2.1 4 _ rfl
 have y5:=CQ.out.2.1 5 _ rfl
 have y6:=CQ.out.2.1 6 _ rfl
 have y7:=CQ.out.2.1 7 _ rfl
 have y8:=CQ.out.2.1 8 _ rfl
 have y9:=CQ.out.2.1 9 _ rfl
 have al:=CQ.out.2.1 10 _ rfl
 have ak:=CQ.out.2.1 11 _ rfl
 have aj:=CQ.out.2.1 12 _ rfl
 go_wp2_with fail
 refine(bF.out _).mono ?_
 rintro e w' ⟨rfl,rfl⟩
 go_wp2_with fail
 refine(bu.out _).mono ?_
 rintro e w' ⟨rfl,rfl⟩
 go_wp2_with fail
 refine bodyPost_ret (v:=.tuple #[.slice none 0 0,.int .i64 14]) (by simp[results,Tryz.results28,go_sem]) rfl ?_
 rw[show aG p=14 from dj hk.out (by unfold bC;rw[KH.out];simp[bW,bO])]
 exact aV (by decide) BQ.out
 ):P:=h
theorem qJF{P:Prop}(h:P:=by
 rcases hd0 with ⟨_,h0⟩ |⟨xs,ys,h1,h2⟩
 ·omega
 have:=sized_slice hsz (j:=0) (t:=22) (e:=3) rfl (by rw[h1];rfl) Tryz.underlying22
 exact qZB
 ):P:=h
theorem qJP{P:Prop}(h:P:=by
 rw[BitVec.toNat_or,BitVec.ofInt_natCast,BitVec.ofInt_natCast,BitVec.toNat_ofNat,BitVec.toNat_ofNat,Nat.mod_eq_of_lt (by omega),Nat.mod_eq_of_lt (by omega),hor,IntKind.wrap_i64]
 omega
 ):P:=h
end Go.Proofs.YtalnfkijiehjhaaGreat
