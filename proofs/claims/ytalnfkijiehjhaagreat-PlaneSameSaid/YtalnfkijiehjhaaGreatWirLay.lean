/- What the reference's Build lays. -/
import Derived.Test.YtalnfkijiehjhaaGreatGa
import Derived.Test.YtalnfkijiehjhaaGreatGwd
import Derived.BigQuiet
import Derived.Deep.RegionHeld3
import Derived.Deep.Cut
namespace Go.Proofs.YtalnfkijiehjhaaGreat
set_option linter.unusedVariables false
set_option linter.unusedSimpArgs false
open Go.RowKit Go.ChangeShapes Go.WideShapes Go.ChangeAt
theorem nK {w:World}{ops:Array Oper}{rest:List Oper}{o:Oper}{a:Act}{Q:Exit→Act→World→Prop}(hgd:o.guard=none)(l c:Operand)(ho:o.op =.makeSlice 23 l c)(base m n:Nat)(M N:Int)(hl:a.eval l =.int .i64 M)(hc:a.eval c =.int .i64 N)(hM:M=(m:Int))(hN:N=(n:Int))(hmn:m≤n)(hsz:n≤1000000)(hbase:base≤w.heap.size)
 (h:∀w',OB w' base (.slice (some ⟨w.heap.size,0,none⟩) m n) m (fun _=>0)→Below base w w'→wpList Tryz.prog ops Q rest (a.put o.dst (.slice (some ⟨w.heap.size,0,none⟩) m n)) w'):wpList Tryz.prog ops Q (o::rest) a w:=by
 subst hM
 subst hN
 obtain ⟨i0,hi,hz0,hz1,hz2⟩:=info_parts jQ
 have hr:=run_make (P:=Tryz.prog) w 23 5 i0 (.int .u8 0) Tryz.underlying23 hi hz0 .i64 .i64 (m:Int) (n:Int) (by omega) (by omega) (by rw[hz2];omega) (by omega)
 refine wpList_plain hgd fun K hK'=>?_
 unfold Oper.wp
 simp[execOp,ho,hl,hc,hr,Result.andThen]
 refine hK' _ _ (h _ ⟨by simp,.inr ⟨w.heap.size,n,_,rfl,hbase,heap_alloc_new w _,hmn,by simp only[maxLen];omega,?_,?_⟩⟩ ((Below.refl base w).alloc hbase _))
 ·rw[size_madeCells,hz1]
 ·rw[hz1,show (Value.int .u8 0).cells =#[Value.int .u8 0] from rfl,toList_madeCells_one]
  simp[List.map_const',hmn]
theorem ya {w:World}{o:Oper}{a:Act}{K:Act→World→Prop}{Q:Exit→Act→World→Prop}(s x:Operand)(ho:o.op =.call { callee:=.builtin .append,args:=#[s,x],argTypes:=#[23,3] })
 (base:Nat) (v:Value) (n:Nat) (f:Nat→Int) (hs:a.eval s=v) (hown:OB w base v n f)
 (m:Nat) (hx:a.eval x =.int .i64 (m:Int)) (hsz:n+m≤1000000) (hbase:base≤w.heap.size)
 (h:∀A' c' w',OB w' base (.slice A' (n+m) c') (n+m) (fun j=>if j<n then f j else 0)→n+m≤c'→Below base w w'→K (a.put o.dst (.slice A' (n+m) c')) w'):Oper.wp Tryz.prog o a w K Q:=by
 obtain ⟨i0,hi,hz0,hz1,hz2⟩:=info_parts jQ
 obtain ⟨v',w',hrun,h2,h3,h4⟩:=sn (P:=Tryz.prog) w base 23 3 o.type 5 i0 (.int .u8 0) 1 .i64 Tryz.underlying23 Tryz.underlying3 hi hz0 hz1 hz2 rfl rfl v n _ hown m (by simp only[maxLen];omega) (by omega) hbase
 have hrow:(List.range (n*1)).map (fun j=>Value.int .u8 (f j))++List.replicate m (Value.int .u8 0)=(List.range ((n+m)*1)).map (fun j=>Value.int .u8 (if j<n then f j else 0)):=by
  have hr:List.replicate m (Value.int .u8 0)=(List.range m).map (fun _=>Value.int .u8 0):=by simp[List.map_const']
  rw[hr,Nat.mul_one,Nat.mul_one,lU]
  refine List.map_congr_left fun j _=>?_
  simp only[two]
  split <;> rfl
 rw[hrow]at h2
 have h2':OB w' base v' (n+m) (fun j=>if j<n then f j else 0):=h2
 obtain ⟨A',c',rfl,hc1,hc2,_⟩:=h2'.aD
 exact Lib.wp_append_run w s x 23 3 ho v (.int .i64 (m:Int)) hs hx _ w' hrun (h A' c' w' h2' hc1 (Ow.below_ hown h3 hbase))
def j6 (p:Pk):Nat→Int:=ah (ah (ah (ah (set1 (set1 (set1 (fun _=>0) 0 p.kind) 1 p.life) 12 p.piece) 2 2 (aJ p:Int)) 4 4 p.src) 8 4 p.dst) 14 2 (65535-norm (tot (bU p) 16))
theorem kT {p:Pk}{j:Nat}(h:j<16):ah (ah (ah (set1 (set1 (set1 (fun _=>0) 0 p.kind) 1 p.life) 12 p.piece) 2 2 (aJ p:Int)) 4 4 p.src) 8 4 p.dst j=bU p j:=by
 unfold bU ah set1
 dsimp only
 (repeat' split)
 all_goals (first |rfl | (exfalso;omega) | (congr 1;omega))
theorem Ew {g g':Nat→Int}{off m j:Nat}{v:Int}(h:g j=g' j):ah g off m v j=ah g' off m v j:=by unfold ah;split;rfl;exact h
theorem qe {p:Pk}{j:Nat}(h:j<16):j6 p j=aR p j:=Ew (kT h)
theorem nh {p:Pk}(j:Nat):aR p (16+j)=cu p j:=by
 unfold aR
 rw[aH (by omega),bW]
def fN (p:Pk):Int:=65535-norm (tot (bq (aR p) (aJ p)) (bo (aR p) (aJ p)))
theorem Bw (p:Pk):0≤fN p∧fN p≤65535:=by unfold fN;have:=jc (tot (bq (aR p) (aJ p)) (bo (aR p) (aJ p)));omega
theorem wD {p:Pk}(h:p.kind≠2):aF p=ah (aR p) (aI p.kind) 2 (fN p):=by
 have hs:=(eH p.kind).choose_spec
 unfold aF
 rw[if_neg (fun e=>h e.1),mO]
 ·rfl
 ·rw[aH (by omega)]
  unfold aR
  rw[aH (by omega),gv]
  exact h
theorem pw {p:Pk}(h:p.kind=2):∀j,aF p j=ah (aR p) 22 2 (if p.bare=true then 0 else if fN p=0 then 65535 else fN p) j:=by
 intro j
 have hs:aI p.kind=22:=by unfold aI;rw[if_neg (by omega)]
 have hz:∀j,22≤j→j<24→aR p j=0:=fun j h1 h2=>by
  obtain ⟨q,rfl⟩:∃q,j=16+q:=⟨j-16,by omega⟩
  rw[nh]
  unfold cu
  rw[if_neg (by omega),if_neg (by omega),if_neg (by omega),if_pos h,if_neg (by omega),if_pos (by omega)]
 unfold aF
 by_cases hb:p.bare=true
 ·rw[if_pos ⟨h,hb⟩,if_pos hb]
  by_cases hj:22≤j∧j<24
  ·rw[hz j hj.1 hj.2,iE hj.1 (by omega)]
   unfold eY
   simp
  ·rw[aH (by omega)]
 ·rw[if_neg (fun e=>hb e.2),if_neg hb,hs]
  show cm (ah (aR p) 22 2 (fN p)) j=_
  have lb:=Bw p
  have h0:ah (aR p) 22 2 (fN p) 0=2:=by rw[aH (by omega)];unfold aR;rw[aH (by omega),gv,h]
  unfold cm bz
  rw[ij lb.1 lb.2,h0]
  by_cases hl:fN p=0
  ·rw[hl,if_pos (by decide),if_pos rfl]
   unfold ah
   split <;> rfl
  ·rw[if_neg (by simpa using hl),if_neg hl]
theorem yb {w:World}{o:Oper}{a:Act}{K:Act→World→Prop}{Q:Exit→Act→World→Prop}(hgd:o.guard=none)(s x:Operand)(ho:o.op =.call { callee:=.builtin .append,args:=#[s,x],argTypes:=#[23,23] })
 (base:Nat) (v:Value) (n:Nat) (f:Nat→Int) (hs:a.eval s=v) (hown:OB w base v n f)
 (A:Option Addr) (m c:Nat) (f2:Nat→Int) (hx:a.eval x =.slice A m c) (hr:By w A m f2) (hsz:n+m≤140737488355328) (hbase:base≤w.heap.size)
 (h:∀A' c' w',OB w' base (.slice A' (n+m) c') (n+m) (fun j=>if j<n then f j else f2 (j-n))→n+m≤c'→Below base w w'→K (a.put o.dst (.slice A' (n+m) c')) w'):Oper.wp Tryz.prog o a w K Q:=by
 have:=qu (ops:=#[]) (a:=a) (K:=K) (Q:=Q) (E:=True) hgd s x ho base v n f hs hown A m c f2 hx hr hsz hbase (fun A' c' w' h1 h2 _ h4 _ _=>h A' c' w' h1 h2 h4)
 rw[if_pos (by simp[Region.wanted,hgd])]at this
 exact this
theorem xJ {p:Pk}(hk:isK p.kind=true)(hl:0≤p.life∧p.life≤255)(hp:0≤p.piece∧p.piece≤255):az (ah (ah (ah (set1 (set1 (set1 (fun _=>0) 0 p.kind) 1 p.life) 12 p.piece) 2 2 (aJ p:Int)) 4 4 p.src) 8 4 p.dst):=by
 have:0≤p.kind∧p.kind≤255:=by unfold isK at hk;simp at hk;omega
 exact dd (dd (dd (nU (nU (nU (fun _=>⟨by decide,by decide⟩) 0 p.kind (by omega) (by omega)) 1 p.life hl.1 hl.2) 12 p.piece hp.1 hp.2) _ _ _) _ _ _) _ _ _
theorem Ce.jS {w w':World}{B b:Nat}{l:List Value}(h:Ce w b l)(hb:Below B w w')(hB:b<B):Ce w' b l:=Ce.below_ h hb hB
theorem cX {p:Pk}(hk:isK p.kind=true)(h:bh p=false):aC p=14:=by unfold aC;rw[if_neg (by rw[hk];decide),if_pos h]
theorem xO {p:Pk}(hk:p.kind=1)(h:bh p=true)(h5:40<p.no):aC p=5:=by unfold aC;rw[if_neg (by rw[hk];decide),if_neg (by rw[h];decide),if_pos ⟨hk,h5⟩]
theorem kW {p:Pk}(hk:isK p.kind=true)(h:bh p=true)(h5:¬(p.kind=1∧40<p.no))(h3:p.kind=3∧p.nd<24∨1500<aJ p):aC p=3:=by unfold aC;rw[if_neg (by rw[hk];decide),if_neg (by rw[h];decide),if_neg h5,if_pos h3]
theorem oM {p:Pk}(hk:isK p.kind=true)(h:bh p=true)(h5:¬(p.kind=1∧40<p.no))(h3:¬(p.kind=3∧p.nd<24∨1500<aJ p)):aC p=0:=by unfold aC;rw[if_neg (by rw[hk];decide),if_neg (by rw[h];decide),if_neg h5,if_neg h3]
theorem L3 {p:Pk}(h:p.kind=3)(j:Nat)(hj:j<2000):(fun j=>if j<16+4 then (if j<16 then j6 p j else if j-16=0 then p.code else 0) else p.gd (j-(16+4))) j=aR p j:=by
 dsimp only
 by_cases h1:j<16
 ·rw[if_pos (by omega),if_pos h1,qe h1]
 ·obtain ⟨q,rfl⟩:∃q,j=16+q:=⟨j-16,by omega⟩
  rw[nh]
  unfold cu
  rw[if_pos h,if_neg h1,show 16+q-16=q from by omega,show 16+q-(16+4)=q-4 from by omega]
  (repeat' split)
  all_goals (first |rfl | (exfalso;omega))
theorem L4 {p:Pk}(h:p.kind=2)(j:Nat)(hj:j<2000):(fun j=>if j<16+8 then ah (ah (ah (fun j=>if j<16 then j6 p j else 0) 20 2 p.label) 16 2 p.fp) 18 2 p.tp j else p.gd (j-(16+8))) j=aR p j:=by
 dsimp only
 by_cases h1:j<16
 ·rw[if_pos (by omega),aH (by omega),aH (by omega),aH (by omega),if_pos h1,qe h1]
 ·obtain ⟨q,rfl⟩:∃q,j=16+q:=⟨j-16,by omega⟩
  rw[nh]
  have h3:¬p.kind=3:=by omega
  unfold cu ah
  simp only[if_neg h3,if_pos h]
  (repeat' split)
  all_goals (first |rfl | (exfalso;omega) | (congr 1;omega))
theorem L5 {p:Pk}(h:p.kind=1)(j:Nat)(hj:j<2000):(fun j=>if j<16+8+p.no then ah (ah (set1 (set1 (fun j=>if j<16+8 then (if j<16 then j6 p j else 0) else p.go (j-(16+8))) 20 p.flags) 21 (p.no:Int)) 16 2 p.fp) 18 2 p.tp j else p.gd (j-(16+8+p.no))) j=aR p j:=by
 dsimp only
 by_cases h1:j<16
 ·rw[if_pos (by omega),aH (by omega),aH (by omega)]
  unfold set1
  dsimp only
  rw[if_neg (by omega),if_neg (by omega),if_pos (by omega),if_pos h1,qe h1]
 ·obtain ⟨q,rfl⟩:∃q,j=16+q:=⟨j-16,by omega⟩
  rw[nh]
  have h3:¬p.kind=3:=by omega
  have h2:¬p.kind=2:=by omega
  unfold cu ah set1
  simp only[if_neg h3,if_neg h2]
  (repeat' split)
  all_goals (first |rfl | (exfalso;omega) | (congr 1;omega))
end Go.Proofs.YtalnfkijiehjhaaGreat
