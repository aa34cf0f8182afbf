/- What the reference's Build lays. -/
import Derived.Test.YtalnfkijiehjhaaGreatGa
import Derived.Test.YtalnfkijiehjhaaGreatGwd
import Derived.BigQuiet
import Derived.Deep.RegionHeld3
import Derived.Deep.Cut
namespace Go.Proofs.YtalnfkijiehjhaaGreat
set_option linter.unusedVariables false
set_option linter.unusedSimpArgs false
open Go.RowKit Go.ChangeShapes Go.WideShapes Go.ChangeAt
theorem oE {w:World}{ops:Array Oper}{rest:List Oper}{o:Oper}{a:Act}{Q:Exit→Act→World→Prop}(hgd:o.guard=none)(l c:Operand)(ho:o.op =.makeSlice 23 l c)(base m n:Nat)(M N:Int)(hl:a.eval l =.int .i64 M)(hc:a.eval c =.int .i64 N)(hM:M=(m:Int))(hN:N=(n:Int))(hmn:m≤n)(hsz:n≤1000000)(hbase:base≤w.heap.size)
 (h:∀w',OB w' base (.slice (some ⟨w.heap.size,0,none⟩) m n) m (fun _=>0)→Below base w w'→wpList Tryz.prog ops Q rest (a.put o.dst (.slice (some ⟨w.heap.size,0,none⟩) m n)) w'):wpList Tryz.prog ops Q (o::rest) a w:=by
 subst hM
 subst hN
 obtain ⟨i0,hi,hz0,hz1,hz2⟩:=info_parts kj
 have hr:=run_make (P:=Tryz.prog) w 23 5 i0 (.int .u8 0) Tryz.underlying23 hi hz0 .i64 .i64 (m:Int) (n:Int) (by omega) (by omega) (by rw[hz2];omega) (by omega)
 refine wpList_plain hgd fun K hK'=>?_
 unfold Oper.wp
 simp[execOp,ho,hl,hc,hr,Result.andThen]
 refine hK' _ _ (h _ ⟨by simp,.inr ⟨w.heap.size,n,_,rfl,hbase,heap_alloc_new w _,hmn,by simp only[maxLen];omega,?_,?_⟩⟩ ((Below.refl base w).alloc hbase _))
 ·rw[size_madeCells,hz1]
 rw[hz1,show (Value.int .u8 0).cells =#[Value.int .u8 0] from rfl,toList_madeCells_one]
 simp[List.map_const',hmn]
theorem yX {w:World}{o:Oper}{a:Act}{K:Act→World→Prop}{Q:Exit→Act→World→Prop}(s x:Operand)(ho:o.op =.call { callee:=.builtin .append,args:=#[s,x],argTypes:=#[23,3] })
 (base:Nat) (v:Value) (n:Nat) (f:Nat→Int) (hs:a.eval s=v) (hown:OB w base v n f)
 (m:Nat) (hx:a.eval x =.int .i64 (m:Int)) (hsz:n+m≤1000000) (hbase:base≤w.heap.size)
 (h:∀A' c' w',OB w' base (.slice A' (n+m) c') (n+m) (fun j=>if j<n then f j else 0)→n+m≤c'→Below base w w'→K (a.put o.dst (.slice A' (n+m) c')) w'):Oper.wp Tryz.prog o a w K Q:=by
 obtain ⟨i0,hi,hz0,hz1,hz2⟩:=info_parts kj
 obtain ⟨v',w',hrun,h2,h3,h4⟩:=tF (P:=Tryz.prog) w base 23 3 o.type 5 i0 (.int .u8 0) 1 .i64 Tryz.underlying23 Tryz.underlying3 hi hz0 hz1 hz2 rfl rfl v n _ hown m (by simp only[maxLen];omega) (by omega) hbase
 have hrow:(List.range (n*1)).map (fun j=>Value.int .u8 (f j))++List.replicate m (Value.int .u8 0)=(List.range ((n+m)*1)).map (fun j=>Value.int .u8 (if j<n then f j else 0)):=by
  exact qZ0
 rw[hrow]at h2
 have h2':OB w' base v' (n+m) (fun j=>if j<n then f j else 0):=h2
 obtain ⟨A',c',rfl,hc1,hc2,_⟩:=h2'.aF
 exact Lib.wp_append_run w s x 23 3 ho v (.int .i64 (m:Int)) hs hx _ w' hrun (h A' c' w' h2' hc1 (Ow.below_ hown h3 hbase))
def ky (p:Pk):Nat→Int:=ao (ao (ao (ao (set1 (set1 (set1 (fun _=>0) 0 p.kind) 1 p.life) 12 p.piece) 2 2 (aU p:Int)) 4 4 p.src) 8 4 p.dst) 14 2 (65535-norm (tot (cj p) 16))
theorem uo {p:Pk}{j:Nat}(h:j<16):ao (ao (ao (set1 (set1 (set1 (fun _=>0) 0 p.kind) 1 p.life) 12 p.piece) 2 2 (aU p:Int)) 4 4 p.src) 8 4 p.dst j=cj p j:=by
 exact qYC
theorem FW {g g':Nat→Int}{off m j:Nat}{v:Int}(h:g j=g' j):ao g off m v j=ao g' off m v j:=by unfold ao;split;rfl;exact h
theorem rm {p:Pk}{j:Nat}(h:j<16):ky p j=aZ p j:=FW (uo h)
theorem nU {p:Pk}(j:Nat):aZ p (16+j)=dq p j:=by
 unfold aZ
 rw[aT (by omega),dt]
def fW (p:Pk):Int:=65535-norm (tot (eQ (aZ p) (aU p)) (eg (aZ p) (aU p)))
theorem Dz (p:Pk):0≤fW p∧fW p≤65535:=by unfold fW;have:=jo (tot (eQ (aZ p) (aU p)) (eg (aZ p) (aU p)));omega
theorem xE {p:Pk}(h:p.kind≠2):aP p=ao (aZ p) (a_ p.kind) 2 (fW p):=by
 have hs:=(gV p.kind).choose_spec
 unfold aP
 rw[if_neg (fun e=>h e.1),p7]
 ·rfl
 rw[aT (by omega)]
 unfold aZ
 rw[aT (by omega),jg]
 exact h
theorem qg {p:Pk}(h:p.kind=2):∀j,aP p j=ao (aZ p) 22 2 (if p.bare=true then 0 else if fW p=0 then 65535 else fW p) j:=by
 intro j
 have hs:a_ p.kind=22:=by unfold a_;rw[if_neg (by omega)]
 have hz:∀j,22≤j→j<24→aZ p j=0:=fun j h1 h2=>by
  obtain ⟨q,rfl⟩:∃q,j=16+q:=⟨j-16,by omega⟩
  rw[nU]
  unfold dq
  rw[if_neg (by omega),if_neg (by omega),if_neg (by omega),if_pos h,if_neg (by omega),if_pos (by omega)]
 unfold aP
 by_cases hb:p.bare=true
 ·rw[if_pos ⟨h,hb⟩,if_pos hb]
  by_cases hj:22≤j∧j<24
  ·rw[hz j hj.1 hj.2,sL hj.1 (by omega)]
   unfold eG
   simp
  rw[aT (by omega)]
 rw[if_neg (fun e=>hb e.2),if_neg hb,hs]
 show cZ (ao (aZ p) 22 2 (fW p)) j=_
 have lb:=Dz p
 have h0:ao (aZ p) 22 2 (fW p) 0=2:=by rw[aT (by omega)];unfold aZ;rw[aT (by omega),jg,h]
 unfold cZ du
 rw[kg lb.1 lb.2,h0]
 by_cases hl:fW p=0
 ·rw[hl,if_pos (by decide),if_pos rfl]
  unfold ao
  split <;> rfl
 rw[if_neg (by simpa using hl),if_neg hl]
theorem yY {w:World}{o:Oper}{a:Act}{K:Act→World→Prop}{Q:Exit→Act→World→Prop}(hgd:o.guard=none)(s x:Operand)(ho:o.op =.call { callee:=.builtin .append,args:=#[s,x],argTypes:=#[23,23] })
 (base:Nat) (v:Value) (n:Nat) (f:Nat→Int) (hs:a.eval s=v) (hown:OB w base v n f)
 (A:Option Addr) (m c:Nat) (f2:Nat→Int) (hx:a.eval x =.slice A m c) (hr:By w A m f2) (hsz:n+m≤140737488355328) (hbase:base≤w.heap.size)
 (h:∀A' c' w',OB w' base (.slice A' (n+m) c') (n+m) (fun j=>if j<n then f j else f2 (j-n))→n+m≤c'→Below base w w'→K (a.put o.dst (.slice A' (n+m) c')) w'):Oper.wp Tryz.prog o a w K Q:=by
 have:=rz (ops:=#[]) (a:=a) (K:=K) (Q:=Q) (E:=True) hgd s x ho base v n f hs hown A m c f2 hx hr hsz hbase (fun A' c' w' h1 h2 _ h4 _ _=>h A' c' w' h1 h2 h4)
 rw[if_pos (by simp[Region.wanted,hgd])]at this
 exact this
theorem yG {p:Pk}(hk:isK p.kind=true)(hl:0≤p.life∧p.life≤255)(hp:0≤p.piece∧p.piece≤255):aC (ao (ao (ao (set1 (set1 (set1 (fun _=>0) 0 p.kind) 1 p.life) 12 p.piece) 2 2 (aU p:Int)) 4 4 p.src) 8 4 p.dst):=by
 have:0≤p.kind∧p.kind≤255:=by unfold isK at hk;simp at hk;omega
 exact dy (dy (dy (mW (mW (mW (fun _=>⟨by decide,by decide⟩) 0 p.kind (by omega) (by omega)) 1 p.life hl.1 hl.2) 12 p.piece hp.1 hp.2) _ _ _) _ _ _) _ _ _
theorem Ce.km {w w':World}{B b:Nat}{l:List Value}(h:Ce w b l)(hb:Below B w w')(hB:b<B):Ce w' b l:=Ce.below_ h hb hB
theorem dj {p:Pk}(hk:isK p.kind=true)(h:bC p=false):aG p=14:=by unfold aG;rw[if_neg (by rw[hk];decide),if_pos h]
theorem yL {p:Pk}(hk:p.kind=1)(h:bC p=true)(h5:40<p.no):aG p=5:=by unfold aG;rw[if_neg (by rw[hk];decide),if_neg (by rw[h];decide),if_pos ⟨hk,h5⟩]
theorem lq {p:Pk}(hk:isK p.kind=true)(h:bC p=true)(h5:¬(p.kind=1∧40<p.no))(h3:p.kind=3∧p.nd<24∨1500<aU p):aG p=3:=by unfold aG;rw[if_neg (by rw[hk];decide),if_neg (by rw[h];decide),if_neg h5,if_pos h3]
theorem pC {p:Pk}(hk:isK p.kind=true)(h:bC p=true)(h5:¬(p.kind=1∧40<p.no))(h3:¬(p.kind=3∧p.nd<24∨1500<aU p)):aG p=0:=by unfold aG;rw[if_neg (by rw[hk];decide),if_neg (by rw[h];decide),if_neg h5,if_neg h3]
theorem MQ {p:Pk}(h:p.kind=3)(j:Nat)(hj:j<2000):(fun j=>if j<16+4 then (if j<16 then ky p j else if j-16=0 then p.code else 0) else p.gd (j-(16+4))) j=aZ p j:=by
 dsimp only
 by_cases h1:j<16
 ·rw[if_pos (by omega),if_pos h1,rm h1]
 obtain ⟨q,rfl⟩:∃q,j=16+q:=⟨j-16,by omega⟩
 rw[nU]
 unfold dq
 rw[if_pos h,if_neg h1,show 16+q-16=q from by omega,show 16+q-(16+4)=q-4 from by omega]
 (repeat' split)
 all_goals (first |rfl | (exfalso;omega))
theorem MR {p:Pk}(h:p.kind=2)(j:Nat)(hj:j<2000):(fun j=>if j<16+8 then ao (ao (ao (fun j=>if j<16 then ky p j else 0) 20 2 p.label) 16 2 p.fp) 18 2 p.tp j else p.gd (j-(16+8))) j=aZ p j:=by
 dsimp only
 by_cases h1:j<16
 ·rw[if_pos (by omega),aT (by omega),aT (by omega),aT (by omega),if_pos h1,rm h1]
 obtain ⟨q,rfl⟩:∃q,j=16+q:=⟨j-16,by omega⟩
 rw[nU]
 have h3:¬p.kind=3:=by omega
 unfold dq ao
 simp only[if_neg h3,if_pos h]
 (repeat' split)
 all_goals (first |rfl | (exfalso;omega) | (congr 1;omega))
theorem MS {p:Pk}(h:p.kind=1)(j:Nat)(hj:j<2000):(fun j=>if j<16+8+p.no then ao (ao (set1 (set1 (fun j=>if j<16+8 then (if j<16 then ky p j else 0) else p.go (j-(16+8))) 20 p.flags) 21 (p.no:Int)) 16 2 p.fp) 18 2 p.tp j else p.gd (j-(16+8+p.no))) j=aZ p j:=by
 dsimp only
 by_cases h1:j<16
 ·rw[if_pos (by omega),aT (by omega),aT (by omega)]
  unfold set1
  dsimp only
  rw[if_neg (by omega),if_neg (by omega),if_pos (by omega),if_pos h1,rm h1]
 obtain ⟨q,rfl⟩:∃q,j=16+q:=⟨j-16,by omega⟩
 rw[nU]
 have h3:¬p.kind=3:=by omega
 have h2:¬p.kind=2:=by omega
 unfold dq ao set1
 simp only[if_neg h3,if_neg h2]
 (repeat' split)
 all_goals (first |rfl | (exfalso;omega) | (congr 1;omega))
end Go.Proofs.YtalnfkijiehjhaaGreat
