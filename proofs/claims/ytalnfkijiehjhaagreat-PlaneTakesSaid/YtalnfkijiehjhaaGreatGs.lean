/- The keyed sum's round, of both packages, as plain numbers. Numbers out of bytes, the lowest first. Rows of bytes of the call's own. package sip's round. Numbers taken into a keyed sum. -/
import Derived.Test.YtalnfkijiehjhaaGreatGa
import Derived.BigRegion
import Derived.RegionTactic
import Derived.Deep.RegionWith
import Derived.Deep.DeepCutAuto
import Derived.Deep.RegionLaw
namespace Go.Proofs.YtalnfkijiehjhaaGreat
set_option linter.unusedVariables false
open Go.RowKit Go.ChangeShapes Go.WideShapes Go.ChangeAt
def U (x:Int):Prop:=0≤x∧x≤18446744073709551615
theorem BU (e:Int):U (IntKind.u64.wrap e):=bounds_u64 (wf_wrap .u64 e)
theorem vL (op:BinOp)(x y:Int):U (bits op .u64 x y):=bounds_u64 (wf_bits op .u64 x y)
def ad (x y:Int):Int:=IntKind.u64.wrap (x+y)
def xo (x y:Int):Int:=bits .xor .u64 x y
def kH (x p q:Int):Int:=bits .or .u64 (IntKind.u64.wrap (x*p)) (x/q)
theorem yP (x y:Int):U (ad x y):=BU _
theorem gT (x y:Int):U (xo x y):=vL _ _ _
theorem E7 (x p q:Int):U (kH x p q):=vL _ _ _
structure V4 where
 a:Int
 b:Int
 c:Int
 d:Int
def V4.U (v:V4):Prop:=YtalnfkijiehjhaaGreat.U v.a∧YtalnfkijiehjhaaGreat.U v.b∧YtalnfkijiehjhaaGreat.U v.c∧YtalnfkijiehjhaaGreat.U v.d
def V4.s0 (v:V4):V4:={ v with a:=ad v.a v.b }
theorem V4.U0 {v:V4}(h:v.U):v.s0.U:=⟨yP _ _,h.2.1,h.2.2.1,h.2.2.2⟩
def V4.s1 (v:V4):V4:={ v with b:=xo (kH v.b 8192 2251799813685248) v.a }
theorem V4.U1 {v:V4}(h:v.U):v.s1.U:=⟨h.1,gT _ _,h.2.2.1,h.2.2.2⟩
def V4.s2 (v:V4):V4:={ v with a:=kH v.a 4294967296 4294967296 }
theorem V4.U2 {v:V4}(h:v.U):v.s2.U:=⟨E7 _ _ _,h.2.1,h.2.2.1,h.2.2.2⟩
def V4.s3 (v:V4):V4:={ v with c:=ad v.c v.d }
theorem V4.U3 {v:V4}(h:v.U):v.s3.U:=⟨h.1,h.2.1,yP _ _,h.2.2.2⟩
def V4.s4 (v:V4):V4:={ v with d:=xo (kH v.d 65536 281474976710656) v.c }
theorem V4.U4 {v:V4}(h:v.U):v.s4.U:=⟨h.1,h.2.1,h.2.2.1,gT _ _⟩
def V4.s5 (v:V4):V4:={ v with a:=ad v.a v.d }
theorem V4.U5 {v:V4}(h:v.U):v.s5.U:=⟨yP _ _,h.2.1,h.2.2.1,h.2.2.2⟩
def V4.s6 (v:V4):V4:={ v with d:=xo (kH v.d 2097152 8796093022208) v.a }
theorem V4.U6 {v:V4}(h:v.U):v.s6.U:=⟨h.1,h.2.1,h.2.2.1,gT _ _⟩
def V4.s7 (v:V4):V4:={ v with c:=ad v.c v.b }
theorem V4.U7 {v:V4}(h:v.U):v.s7.U:=⟨h.1,h.2.1,yP _ _,h.2.2.2⟩
def V4.s8 (v:V4):V4:={ v with b:=xo (kH v.b 131072 140737488355328) v.c }
theorem V4.U8 {v:V4}(h:v.U):v.s8.U:=⟨h.1,gT _ _,h.2.2.1,h.2.2.2⟩
def V4.s9 (v:V4):V4:={ v with c:=kH v.c 4294967296 4294967296 }
theorem V4.U9 {v:V4}(h:v.U):v.s9.U:=⟨h.1,h.2.1,E7 _ _ _,h.2.2.2⟩
def oj (v:V4):V4:=v.s0.s1.s2.s3.s4.s5.s6.s7.s8.s9
theorem ll {v:V4}(h:v.U):(oj v).U:=V4.U9 (V4.U8 (V4.U7 (V4.U6 (V4.U5 (V4.U4 (V4.U3 (V4.U2 (V4.U1 (V4.U0 (h))))))))))
def gu (v:V4)(m:Int):V4:={ oj (oj { v with d:=xo v.d m }) with a:=xo (oj (oj { v with d:=xo v.d m })).a m }
theorem yH {v:V4}(h:v.U)(m:Int):(gu v m).U:=
 have h2:=ll (ll (v:={ v with d:=xo v.d m }) ⟨h.1,h.2.1,h.2.2.1,gT _ _⟩)
 ⟨gT _ _,h2.2.1,h2.2.2.1,h2.2.2.2⟩
def eats (f:Nat→Int):Nat→V4→V4
 |0,v=>v
 |k+1,v=>gu (eats f k v) (f k)
theorem pg {f:Nat→Int}{v:V4}(h:v.U):∀k,(eats f k v).U
 |0=>h
 |k+1=>yH (pg h k) _
theorem vw {f f':Nat→Int}(v:V4):∀n,(∀j,j<n→f j=f' j)→eats f n v=eats f' n v
 |0,_=>rfl
 |n+1,h=>by rw[eats,eats,vw v n (fun j hj=>h j (by omega)),h n (by omega)]
def kx (v:V4):V4:=oj (oj (oj (oj { v with c:=xo v.c 255 })))
def sY (v:V4):Int:=xo (xo (xo (kx v).a (kx v).b) (kx v).c) (kx v).d
def ev (a b:Int):V4:=⟨xo a 8317987319222330741,xo b 7237128888997146477,xo a 7816392313619706465,xo b 8387220255154660723⟩
theorem uL (a b:Int):(ev a b).U:=⟨gT _ _,gT _ _,gT _ _,gT _ _⟩
structure St (w:World) (g:Nat) (v:V4):Prop where
 ca:w.cell? ⟨g,0,none⟩=some (.int .u64 v.a)
 cb:w.cell? ⟨g,1,none⟩=some (.int .u64 v.b)
 cc:w.cell? ⟨g,2,none⟩=some (.int .u64 v.c)
 cd:w.cell? ⟨g,3,none⟩=some (.int .u64 v.d)
 fa:w.frozen? ⟨g,0,none⟩=false
 fb:w.frozen? ⟨g,1,none⟩=false
 fc:w.frozen? ⟨g,2,none⟩=false
 fd:w.frozen? ⟨g,3,none⟩=false
def bP (g:Nat)(w w':World):Prop:=w.grownBy w' (some g)
section
variable {g:Nat}{a w w':World}{v:V4}
theorem bP.pW (g:Nat)(w:World):bP g w w:=⟨rfl,rfl,rfl,Nat.le_refl _,fun _ _ _=>rfl⟩
theorem bP.drew (h:bP g a w):bP g a w.drew:=⟨h.os,h.tape,h.output,h.size,h.block⟩
theorem bP.drewN (h:bP g a w)(n:Nat):bP g a (w.drewN n):=⟨h.os,h.tape,h.output,h.size,h.block⟩
theorem bP.setCell (h:bP g a w)(i:Nat)(u:Value):bP g a (w.setCell ⟨g,i,none⟩ u):=
 ⟨h.os,h.tape,h.output,by simpa [World.setCell]using h.size,fun k hk hne=>(Below.heap_setCell w ⟨g,i,none⟩ u k (fun e=>hne (by rw[e]))).trans (h.block k hk hne)⟩
theorem bP.trans (h:bP g a w)(k:bP g w w'):bP g a w':=
 ⟨k.os.trans h.os,k.tape.trans h.tape,k.output.trans h.output,Nat.le_trans h.size k.size,fun i hi hne=>(k.block i (Nat.lt_of_lt_of_le hi h.size) hne).trans (h.block i hi hne)⟩
theorem bP.of_below (hb:Below a.heap.size a w):bP g a w:=⟨hb.os,hb.tape,hb.output,hb.size,fun i hi _=>hb.block i hi⟩
theorem bP.below (h:bP g a w){B:Nat}(hB:B≤g)(hs:B≤a.heap.size):Below B a w:=⟨h.os,h.tape,h.output,h.size,fun k hk=>h.block k (by omega) (fun e=>by injection e;omega)⟩
theorem bP.sl (h:bP g a w){A:Option Addr}{m:Nat}{f:Nat→Value}(hs:Sl a A m f)(hA:∀ad,A=some ad→0<m→ad.block≠g):Sl w A m f:=by
 intro hm
 obtain ⟨b,off,rfl,hlt,hc⟩:=hs hm
 exact⟨b,off,rfl,Nat.lt_of_lt_of_le hlt h.size,fun j hj=>(World.cell?_of_block (a:=⟨b,off+j,none⟩) (h.block b hlt (fun e=>hA _ rfl hm (by injection e)))).trans (hc j hj)⟩
theorem St.drew (h:St w g v):St w.drew g v:=⟨h.ca,h.cb,h.cc,h.cd,h.fa,h.fb,h.fc,h.fd⟩
theorem St.drewN (h:St w g v)(n:Nat):St (w.drewN n) g v:=⟨h.ca,h.cb,h.cc,h.cd,h.fa,h.fb,h.fc,h.fd⟩
theorem St.keep (h:St w g v)(hb:w'.heap[g]? = w.heap[g]?):St w' g v:=
 ⟨(World.cell?_of_block (a:=⟨g,0,none⟩) hb).trans h.ca,(World.cell?_of_block (a:=⟨g,1,none⟩) hb).trans h.cb,(World.cell?_of_block (a:=⟨g,2,none⟩) hb).trans h.cc,(World.cell?_of_block (a:=⟨g,3,none⟩) hb).trans h.cd,
   (World.frozen?_of_block (a:=⟨g,0,none⟩) hb).trans h.fa,(World.frozen?_of_block (a:=⟨g,1,none⟩) hb).trans h.fb,(World.frozen?_of_block (a:=⟨g,2,none⟩) hb).trans h.fc,(World.frozen?_of_block (a:=⟨g,3,none⟩) hb).trans h.fd⟩
theorem St.lt (h:St w g v):g<w.heap.size:=by
 rcases Nat.lt_or_ge g w.heap.size with hlt |hge
 ·exact hlt
 have:=h.ca
 simp[World.cell?,Array.getElem?_eq_none hge]at this
theorem St.below {B:Nat}(h:St w g v)(hb:Below B w w')(hB:g<B):St w' g v:=h.keep (hb.block g hB)
theorem St.fw (h:St w g v)(x:Int):St (w.setCell ⟨g,0,none⟩ (.int .u64 x)) g { v with a:=x }:=
 ⟨World.cell?_setCell_same _ _ _ h.ca,(World.cell?_setCell_other _ _ _ _ (by simp)).trans h.cb,(World.cell?_setCell_other _ _ _ _ (by simp)).trans h.cc,(World.cell?_setCell_other _ _ _ _ (by simp)).trans h.cd,by simp[h.fa],by simp[h.fb],by simp[h.fc],by simp[h.fd]⟩
theorem St.iY (h:St w g v)(x:Int):St (w.setCell ⟨g,1,none⟩ (.int .u64 x)) g { v with b:=x }:=
 ⟨(World.cell?_setCell_other _ _ _ _ (by simp)).trans h.ca,World.cell?_setCell_same _ _ _ h.cb,(World.cell?_setCell_other _ _ _ _ (by simp)).trans h.cc,(World.cell?_setCell_other _ _ _ _ (by simp)).trans h.cd,by simp[h.fa],by simp[h.fb],by simp[h.fc],by simp[h.fd]⟩
theorem St.f8 (h:St w g v)(x:Int):St (w.setCell ⟨g,2,none⟩ (.int .u64 x)) g { v with c:=x }:=
 ⟨(World.cell?_setCell_other _ _ _ _ (by simp)).trans h.ca,(World.cell?_setCell_other _ _ _ _ (by simp)).trans h.cb,World.cell?_setCell_same _ _ _ h.cc,(World.cell?_setCell_other _ _ _ _ (by simp)).trans h.cd,by simp[h.fa],by simp[h.fb],by simp[h.fc],by simp[h.fd]⟩
theorem St.g_ (h:St w g v)(x:Int):St (w.setCell ⟨g,3,none⟩ (.int .u64 x)) g { v with d:=x }:=
 ⟨(World.cell?_setCell_other _ _ _ _ (by simp)).trans h.ca,(World.cell?_setCell_other _ _ _ _ (by simp)).trans h.cb,(World.cell?_setCell_other _ _ _ _ (by simp)).trans h.cc,World.cell?_setCell_same _ _ _ h.cd,by simp[h.fa],by simp[h.fb],by simp[h.fc],by simp[h.fd]⟩
end
def fH (f:Nat→Int):Nat→Int
 |0=>0
 |k+1=>fH f k+f k*256^k
theorem F9 (f:Nat→Int)(hf:aC f)(k:Nat):0≤fH f k∧fH f k<256^k:=by
 induction k with
 |zero=>simp[fH]
 |succ k ih=>
  have h:=hf k
  have hp:(0:Int)<256^k:=Int.pow_pos (by omega)
  have h1:f k*256^k≤255*256^k:=Int.mul_le_mul_of_nonneg_right h.2 (by omega)
  have h2:0≤f k*256^k:=Int.mul_nonneg h.1 (by omega)
  rw[fH,Int.pow_succ]
  omega
theorem Dk (x y i:Nat)(hx:x<2^i)(hx2:x<2^64)(hy:y*2^i<2^64):bits .or .u64 (x:Int) ((y*2^i:Nat):Int)=((x+y*2^i:Nat):Int):=by
 have hor:x ||| y*2^i=x+y*2^i:=by
  rw[Nat.or_comm,Nat.mul_comm y,←Nat.two_pow_add_eq_or_of_lt hx,Nat.add_comm]
 have hs:x+y*2^i<2^64:=by rw[←hor];exact Nat.or_lt_two_pow hx2 hy
 show IntKind.u64.wrap ((BitVec.ofInt 64 (x:Int) ||| BitVec.ofInt 64 ((y*2^i:Nat):Int)).toNat:Int)=_
 rw[BitVec.toNat_or,BitVec.ofInt_natCast,BitVec.ofInt_natCast,BitVec.toNat_ofNat,BitVec.toNat_ofNat,Nat.mod_eq_of_lt hx2,Nat.mod_eq_of_lt hy,hor,IntKind.wrap_u64]
 omega
theorem Ht (f:Nat→Int)(hf:aC f)(k:Nat)(hk:k<8):bits .or .u64 (fH f k) (IntKind.u64.wrap (f k*2^(8*k)))=fH f (k+1):=by
 have h1:=F9 f hf k
 obtain ⟨x,hx⟩:=Int.eq_ofNat_of_zero_le h1.1
 obtain ⟨y,hy⟩:=Int.eq_ofNat_of_zero_le (hf k).1
 have hy2:=(hf k).2
 have e0:(256:Int)^k=((2^(8*k):Nat):Int):=by rw[Nat.pow_mul];simp
 have e1:(2:Int)^(8*k)=((2^(8*k):Nat):Int):=by simp
 rw[fH,e0,e1,hx,hy]
 rw[hx,e0]at h1
 rw[hy]at hy2
 have hpos:0<2^(8*k):=Nat.two_pow_pos (8*k)
 have hle:y*2^(8*k)≤255*2^56:=Nat.mul_le_mul (by omega) (Nat.pow_le_pow_right (by omega) (by omega))
 have hlt:y*2^(8*k)<2^64:=by omega
 have e2:(y:Int)*((2^(8*k):Nat):Int)=((y*2^(8*k):Nat):Int):=by rw[Int.natCast_mul]
 rw[e2]
 have e3:IntKind.u64.wrap ((y*2^(8*k):Nat):Int)=((y*2^(8*k):Nat):Int):=by rw[IntKind.wrap_u64];omega
 have Q7:2^(8*k)≤2^56:=Nat.pow_le_pow_right (by omega) (by omega)
 rw[e3,Dk x y (8*k) (by omega) (by omega) hlt]
 omega
theorem xk (A:Option Addr)(n c:Nat)(f:Nat→Int)(w:World)(h:By w A n f)(hf:aC f)(hn:n≤8) :
 Calls Tryz.prog 174 #[.slice A n c] w fun e w'=>e =.returned (.int .u64 (fH f n))∧w=w':=by
 go_enter Tryz.func174,Tryz.ntmps174
 go_wp2_with fail
 go_loop [3,4] (fun t i=>∃k:Nat,k≤n∧i =.int .i64 k∧t =.int .u64 (fH f k)) (fun _ i=>n-(intOf i).toNat)
 case atStart=>exact⟨0,by omega,rfl,rfl⟩
 obtain ⟨k,hk,rfl,rfl⟩:=hrel
 by_cases hlt:k<n
 ·obtain ⟨b,off,rfl,_,hc⟩:=h (by omega)
  have c0:w.cell? ⟨b,off+k,none⟩=some (.int .u8 (f k)):=hc _ hlt
  have i1:(k:Int)<n:=by omega
  have b0:=hf k
  clear hc h
  have hor:=hid (Ht f hf k (by omega))
  go_wp2_with fail
  go_round
  case rel=>exact⟨k+1,by omega,by go_num,by rw[hor.out]⟩
  simp[intOf];omega
 have e:k=n:=by omega
 subst e
 have i1:¬(k:Int)<k:=by omega
 go_wp2
 go_ret
 exact⟨rfl,rfl⟩
theorem kj:(Tryz.prog.info? 5).map (fun i=>(i.zero,i.size,i.bytes))=some (some (.int .u8 0),1,1):=by kernel_rfl
theorem jU:Tryz.prog.underlying 23=some (.slice (Tryz.prog.elem 23)):=by kernel_rfl
theorem jF (W:World):(sizeOf (Tryz.prog.elem 23)).run Tryz.prog W =.ok 1 W:=by kernel_rfl
theorem eA (A:Option Addr)(n c i:Nat)(hi:i≤n)(hn:n≤c)(z:Int)(hz:z=i) :
 ∃A':Option Addr,(∀W:World,(Instr.slice 23 (.slice A n c) (some (.int .i64 z)) none none).run Tryz.prog W =.ok (.slice A' (n-i) (c-i)) W)∧
  ∀(w:World) (f:Nat→Int),By w A n f→By w A' (n-i) (fun j=>f (i+j)):=by
 obtain ⟨A',h1,h2⟩:=D8 jU jF A n c i hi hn z hz
 exact⟨A',h1,fun w f h=>by simpa using h2 w (fun j=>.int .u8 (f j)) (by rw[Nat.mul_one];exact h)⟩
theorem iK (A:Option Addr)(n c i k:Nat)(hi:i≤k)(hk:k≤n)(hn:n≤c)(z y:Int)(hz:z=i)(hy:y=k) :
 ∃A':Option Addr,(∀W:World,(Instr.slice 23 (.slice A n c) (some (.int .i64 z)) (some (.int .i64 y)) none).run Tryz.prog W =.ok (.slice A' (k-i) (c-i)) W)∧
  ∀(w:World) (f:Nat→Int),By w A n f→By w A' (k-i) (fun j=>f (i+j)):=by
 obtain ⟨A',h1,h2⟩:=Gm jU jF A n c i k hi hk hn z y hz hy
 exact⟨A',h1,fun w f h=>by simpa using h2 w (fun j=>.int .u8 (f j)) (by rw[Nat.mul_one];exact h)⟩
section
variable {w:World}{ops:Array Oper}{rest:List Oper}{o:Oper}{a:Act}{Q:Exit→Act→World→Prop}
theorem dM (hgd:o.guard=none)(s x:Operand)(ho:o.op =.call { callee:=.builtin .append,args:=#[s,x],argTypes:=#[23,23] })
 (base:Nat) (v:Value) (n:Nat) (f:Nat→Int) (hs:a.eval s=v) (hown:Ow w base 5 1 v n (fun j=>.int .u8 (f j)))
 (A:Option Addr) (m c:Nat) (f2:Nat→Int) (hx:a.eval x =.slice A m c) (hr:By w A m f2) (hsz:n+m≤140737488355328) (hbase:base≤w.heap.size)
 (h:∀A' c' w',Ow w' base 5 1 (.slice A' (n+m) c') (n+m) (fun j=>.int .u8 (if j<n then f j else f2 (j-n)))→n+m≤c'→c'≤maxLen→Below base w w'→w.grownBy w' v.ownBlock→
  (∀g,(Value.slice A' (n+m) c').ownBlock=some g→v.ownBlock=some g∨g=w.heap.size)→wpList Tryz.prog ops Q rest (a.put o.dst (.slice A' (n+m) c')) w'):wpList Tryz.prog ops Q (o::rest) a w:=by
 obtain ⟨i0,hi,hz0,hz1,hz2⟩:=info_parts kj
 refine yZ w hgd s x 23 ho base 5 i0 (.int .u8 0) 1 1 Tryz.underlying23 hi hz0 hz1 hz2 rfl (by decide) v n _ hs hown A m c (fun j=>.int .u8 (f2 j)) hx (by rw[Nat.mul_one];exact hr) (fun _ _=>rfl) (by simp only[maxLen];omega) (by omega) hbase ?_
 intro A' c' w' h1 h2 h3 h4 h5 h6
 refine h A' c' w' (h1.fQ fun j _=>?_) h2 h3 h4 h5 h6
 simp only[two,Nat.mul_one]
 split <;> rfl
theorem eK (hgd:o.guard=none)(s x:Operand)(ho:o.op =.call { callee:=.builtin .append,args:=#[s,x],argTypes:=#[23,23] })
 (base:Nat) (v:Value) (hs:a.eval s=v) (hown:∀f,Ow w base 5 1 v 0 f)
 (A:Option Addr) (m c:Nat) (f2:Nat→Int) (hx:a.eval x =.slice A m c) (hr:By w A m f2) (hsz:m≤140737488355328) (hbase:base≤w.heap.size)
 (h:∀A' c' w',Ow w' base 5 1 (.slice A' m c') m (fun j=>.int .u8 (f2 j))→m≤c'→c'≤maxLen→Below base w w'→w.grownBy w' v.ownBlock→
  (∀g,(Value.slice A' m c').ownBlock=some g→v.ownBlock=some g∨g=w.heap.size)→wpList Tryz.prog ops Q rest (a.put o.dst (.slice A' m c')) w'):wpList Tryz.prog ops Q (o::rest) a w:=by
 refine dM hgd s x ho base v 0 (fun _=>0) hs (hown _) A m c f2 hx hr (by omega) hbase ?_
 intro A' c' w' h1 h2 h3 h4 h5 h6
 rw[Nat.zero_add]at h1 h2 h6 ⊢
 exact h A' c' w' (h1.fQ fun j _=>by simp) h2 h3 h4 h5 h6
variable {K:Act→World→Prop}{E:Prop}
theorem rz (hgd:o.guard=none)(s x:Operand)(ho:o.op =.call { callee:=.builtin .append,args:=#[s,x],argTypes:=#[23,23] })
 (base:Nat) (v:Value) (n:Nat) (f:Nat→Int) (hs:a.eval s=v) (hown:Ow w base 5 1 v n (fun j=>.int .u8 (f j)))
 (A:Option Addr) (m c:Nat) (f2:Nat→Int) (hx:a.eval x =.slice A m c) (hr:By w A m f2) (hsz:n+m≤140737488355328) (hbase:base≤w.heap.size)
 (h:∀A' c' w',Ow w' base 5 1 (.slice A' (n+m) c') (n+m) (fun j=>.int .u8 (if j<n then f j else f2 (j-n)))→n+m≤c'→c'≤maxLen→Below base w w'→w.grownBy w' v.ownBlock→
  (∀g,(Value.slice A' (n+m) c').ownBlock=some g→v.ownBlock=some g∨g=w.heap.size)→K (a.put o.dst (.slice A' (n+m) c')) w') :
 if Region.wanted o (yielded ops a.tmps)=true then Oper.wp Tryz.prog o a w K Q else E:=by
 have hw:Region.wanted o (yielded ops a.tmps)=true:=by simp[Region.wanted,hgd]
 rw[if_pos hw]
 obtain ⟨i0,hi,hz0,hz1,hz2⟩:=info_parts kj
 refine wS w s x 23 ho base 5 i0 (.int .u8 0) 1 1 Tryz.underlying23 hi hz0 hz1 hz2 rfl (by decide) v n _ hs hown A m c (fun j=>.int .u8 (f2 j)) hx (by rw[Nat.mul_one];exact hr) (fun _ _=>rfl) (by simp only[maxLen];omega) (by omega) hbase ?_
 intro A' c' w' h1 h2 h3 h4 h5 h6
 refine h A' c' w' (h1.fQ fun j _=>?_) h2 h3 h4 h5 h6
 simp only[two,Nat.mul_one]
 split <;> rfl
theorem ql (hgd:o.guard=none)(s x:Operand)(ho:o.op =.call { callee:=.builtin .append,args:=#[s,x],argTypes:=#[23,23] })
 (base:Nat) (v:Value) (hs:a.eval s=v) (hown:∀f,Ow w base 5 1 v 0 f)
 (A:Option Addr) (m c:Nat) (f2:Nat→Int) (hx:a.eval x =.slice A m c) (hr:By w A m f2) (hsz:m≤140737488355328) (hbase:base≤w.heap.size)
 (h:∀A' c' w',Ow w' base 5 1 (.slice A' m c') m (fun j=>.int .u8 (f2 j))→m≤c'→c'≤maxLen→Below base w w'→w.grownBy w' v.ownBlock→
  (∀g,(Value.slice A' m c').ownBlock=some g→v.ownBlock=some g∨g=w.heap.size)→K (a.put o.dst (.slice A' m c')) w') :
 if Region.wanted o (yielded ops a.tmps)=true then Oper.wp Tryz.prog o a w K Q else E:=by
 refine rz hgd s x ho base v 0 (fun _=>0) hs (hown _) A m c f2 hx hr (by omega) hbase ?_
 intro A' c' w' h1 h2 h3 h4 h5 h6
 rw[Nat.zero_add]at h1 h2 h6 ⊢
 exact h A' c' w' (h1.fQ fun j _=>by simp) h2 h3 h4 h5 h6
end
def l0 (g:Nat→Int)(n:Nat):ByteArray:=((List.range n).map g).foldl (fun r z=>r.push (UInt8.ofNat z.toNat)) ByteArray.empty
theorem nY {w:World}{A:Option Addr}{n:Nat}(c:Nat){g:Nat→Int}(h:By w A n g):(convert 23 9 (.slice A n c)).run Tryz.prog w =.ok (.string (l0 g n)) w:=by
 rw[run_convert_bytes_string w 23 9 5 A n c Tryz.underlying23 Tryz.underlying5 Tryz.underlying9]
 rcases Nat.eq_zero_or_pos n with h0 |h0
 ·subst h0
  rcases A with _ |ad
  ·rfl
  exact run_bytesToString w ad 0 c [] (run_loadCells w ad 0 (fun _=>undef) (fun j hj=>absurd hj (by omega)))
 obtain ⟨b,off,rfl,hb,hc⟩:=h h0
 refine run_bytesToString w _ n c _ ?_
 rw[run_loadCells w _ n (fun j=>.int .u8 (g j)) (fun j hj=>by rw[add_plain];exact hc j hj),List.map_map]
 rfl
theorem Ko (x:Int)(hx:U x)(w:World):Calls Tryz.prog 185 #[.int .u64 x,.int .i64 13] w fun e w'=>e =.returned (.int .u64 (kH x 8192 2251799813685248))∧w=w':=by
 unfold U at hx
 have hk:bits .and .u64 13 63=13:=by decide
 go_enter Tryz.func185,Tryz.ntmps185
 go_wp2
 go_ret
 exact⟨rfl,rfl⟩
theorem Kn (x:Int)(hx:U x)(w:World):Calls Tryz.prog 185 #[.int .u64 x,.int .i64 16] w fun e w'=>e =.returned (.int .u64 (kH x 65536 281474976710656))∧w=w':=by
 unfold U at hx
 have hk:bits .and .u64 16 63=16:=by decide
 go_enter Tryz.func185,Tryz.ntmps185
 go_wp2
 go_ret
 exact⟨rfl,rfl⟩
theorem Km (x:Int)(hx:U x)(w:World):Calls Tryz.prog 185 #[.int .u64 x,.int .i64 17] w fun e w'=>e =.returned (.int .u64 (kH x 131072 140737488355328))∧w=w':=by
 unfold U at hx
 have hk:bits .and .u64 17 63=17:=by decide
 go_enter Tryz.func185,Tryz.ntmps185
 go_wp2
 go_ret
 exact⟨rfl,rfl⟩
theorem Kl (x:Int)(hx:U x)(w:World):Calls Tryz.prog 185 #[.int .u64 x,.int .i64 21] w fun e w'=>e =.returned (.int .u64 (kH x 2097152 8796093022208))∧w=w':=by
 unfold U at hx
 have hk:bits .and .u64 21 63=21:=by decide
 go_enter Tryz.func185,Tryz.ntmps185
 go_wp2
 go_ret
 exact⟨rfl,rfl⟩
theorem Et (x:Int)(hx:U x)(w:World):Calls Tryz.prog 185 #[.int .u64 x,.int .i64 32] w fun e w'=>e =.returned (.int .u64 (kH x 4294967296 4294967296))∧w=w':=by
 unfold U at hx
 have hk:bits .and .u64 32 63=32:=by decide
 go_enter Tryz.func185,Tryz.ntmps185
 go_wp2
 go_ret
 exact⟨rfl,rfl⟩
theorem qZ9{P:Prop}(h:P:=by
 go_end0
 refine⟨rfl,?_,?_⟩
 ·repeat (first |with_reducible exact IN |with_reducible refine bP.setCell ?_ _ _ |with_reducible refine bP.drew ?_)
 first |exact rV.f8 _ |exact rV.drew.f8 _
 ):P:=h
theorem qZS{P:Prop}(h:P:=by
 go_wp2_with fail
 go_meet
 exact⟨by repeat (first |with_reducible exact vq |with_reducible refine bP.setCell ?_ _ _ |with_reducible refine bP.drew ?_),by first |exact kV.iY _ |exact kV.drew.iY _ |exact kV.drew.drew.iY _ |exact kV.drew.drew.drew.iY _⟩
 ):P:=h
theorem qZH{P:Prop}(h:P:=by
 go_wp2_with fail
 go_meet
 exact⟨by repeat (first |with_reducible exact tS |with_reducible refine bP.setCell ?_ _ _ |with_reducible refine bP.drew ?_),by first |exact j6.g_ _ |exact j6.drew.g_ _ |exact j6.drew.drew.g_ _ |exact j6.drew.drew.drew.g_ _⟩
 ):P:=h
theorem qZT{P:Prop}(h:P:=by
 go_wp2_with fail
 go_meet
 exact⟨by repeat (first |with_reducible exact hO4 |with_reducible refine bP.setCell ?_ _ _ |with_reducible refine bP.drew ?_),by first |exact gq.g_ _ |exact gq.drew.g_ _ |exact gq.drew.drew.g_ _ |exact gq.drew.drew.drew.g_ _⟩
 ):P:=h
theorem qZG{P:Prop}(h:P:=by
 go_wp2_with fail
 go_meet
 exact⟨by repeat (first |with_reducible exact gK |with_reducible refine bP.setCell ?_ _ _ |with_reducible refine bP.drew ?_),by first |exact hS1.iY _ |exact hS1.drew.iY _ |exact hS1.drew.drew.iY _ |exact hS1.drew.drew.drew.iY _⟩
 ):P:=h
theorem qZP{P:Prop}(h:P:=by
 go_wp2_with fail
 go_meet
 exact⟨by repeat (first |with_reducible exact hO2 |with_reducible refine bP.setCell ?_ _ _ |with_reducible refine bP.drew ?_),by first |exact hS2.fw _ |exact hS2.drew.fw _ |exact hS2.drew.drew.fw _ |exact hS2.drew.drew.drew.fw _⟩
 ):P:=h
theorem qZR{P:Prop}(h:P:=by
 go_region
 all_goals
  go_wp2_with fail
  go_meet
  exact⟨by repeat (first |with_reducible exact o_ |with_reducible refine bP.setCell ?_ _ _ |with_reducible refine bP.drew ?_),by first |exact jR.f8 _ |exact jR.drew.f8 _ |exact jR.drew.drew.f8 _ |exact jR.drew.drew.drew.f8 _⟩
 ):P:=h
theorem qZL{P:Prop}(h:P:=by
 go_region
 all_goals
  go_wp2_with fail
  go_meet
  exact⟨by repeat (first |with_reducible exact hO3 |with_reducible refine bP.setCell ?_ _ _ |with_reducible refine bP.drew ?_),by first |exact gJ.f8 _ |exact gJ.drew.f8 _ |exact gJ.drew.drew.f8 _ |exact gJ.drew.drew.drew.f8 _⟩
 ):P:=h
theorem qZM{P:Prop}(h:P:=by
 go_region
 all_goals
  go_wp2_with fail
  go_meet
  exact⟨by repeat (first |with_reducible exact mB |with_reducible refine bP.setCell ?_ _ _ |with_reducible refine bP.drew ?_),by first |exact hS5.fw _ |exact hS5.drew.fw _ |exact hS5.drew.drew.fw _ |exact hS5.drew.drew.drew.fw _⟩
 ):P:=h
theorem qZN{P:Prop}(h:P:=by
 go_region
 all_goals
  go_wp2_with fail
  go_meet
  exact⟨by repeat (first |with_reducible exact Bf |with_reducible refine bP.setCell ?_ _ _ |with_reducible refine bP.drew ?_),by first |exact hS0.fw _ |exact hS0.drew.fw _ |exact hS0.drew.drew.fw _ |exact hS0.drew.drew.drew.fw _⟩
 ):P:=h
set_option maxRecDepth 100000 in
set_option maxHeartbeats 4000000 in
theorem kE (g:Nat)(v:V4)(w:World)(hS:St w g v)(hU:v.U):Calls Tryz.prog 182 #[.pointer (some ⟨g,0,none⟩)] w fun e w'=>e =.returned (.tuple #[])∧bP g w w'∧St w' g (oj v):=by
 have Bf:=bP.pW g w
 obtain ⟨ca,cb,cc,cd,fa,fb,fc,fd⟩:=hS
 have hS0:St w g v:=⟨ca,cb,cc,cd,fa,fb,fc,fd⟩
 go_enter Tryz.func182,Tryz.ntmps182
 go_upto_region 0 with fail
 go_cut [] (fun wx=>bP g w wx∧St wx g (v.s0))
 case first=>
  exact qZN
 case rest=>
 clear ca cb cc cd fa fb fc fd
 obtain ⟨gK,hS1⟩:=hcut
 generalize wc=w1 at *
 obtain ⟨ca,cb,cc,cd,fa,fb,fc,fd⟩:=hS1
 have hS1:St w1 g (v.s0):=⟨ca,cb,cc,cd,fa,fb,fc,fd⟩
 clear Bf hS0
 go_upto_region 1 with fail
 go_cut [] (fun wx=>bP g w wx∧St wx g (v.s0.s1))
 case first=>
  go_region_with (go_at_call 185;refine(Ko _ ((V4.U0 (hU)).2.1) _).mono ?_;rintro e w' ⟨rfl,rfl⟩)
  all_goals
   exact qZG
 case rest=>
 clear ca cb cc cd fa fb fc fd
 obtain ⟨hO2,hS2⟩:=hcut
 generalize wc=w2 at *
 obtain ⟨ca,cb,cc,cd,fa,fb,fc,fd⟩:=hS2
 have hS2:St w2 g (v.s0.s1):=⟨ca,cb,cc,cd,fa,fb,fc,fd⟩
 clear gK hS1
 go_upto_region 2 with fail
 go_cut [] (fun wx=>bP g w wx∧St wx g (v.s0.s1.s2))
 case first=>
  go_wp2_with (go_at_call 185;refine(Et _ ((V4.U1 (V4.U0 (hU))).1) _).mono ?_;rintro e w' ⟨rfl,rfl⟩)
  all_goals
   exact qZP
 case rest=>
 clear ca cb cc cd fa fb fc fd
 obtain ⟨hO3,gJ⟩:=hcut
 generalize wc=w3 at *
 obtain ⟨ca,cb,cc,cd,fa,fb,fc,fd⟩:=gJ
 have gJ:St w3 g (v.s0.s1.s2):=⟨ca,cb,cc,cd,fa,fb,fc,fd⟩
 clear hO2 hS2
 go_upto_region 3 with fail
 go_cut [] (fun wx=>bP g w wx∧St wx g (v.s0.s1.s2.s3))
 case first=>
  exact qZL
 case rest=>
 clear ca cb cc cd fa fb fc fd
 obtain ⟨hO4,gq⟩:=hcut
 generalize wc=w4 at *
 obtain ⟨ca,cb,cc,cd,fa,fb,fc,fd⟩:=gq
 have gq:St w4 g (v.s0.s1.s2.s3):=⟨ca,cb,cc,cd,fa,fb,fc,fd⟩
 clear hO3 gJ
 go_upto_region 4 with fail
 go_cut [] (fun wx=>bP g w wx∧St wx g (v.s0.s1.s2.s3.s4))
 case first=>
  go_region_with (go_at_call 185;refine(Kn _ ((V4.U3 (V4.U2 (V4.U1 (V4.U0 (hU))))).2.2.2) _).mono ?_;rintro e w' ⟨rfl,rfl⟩)
  all_goals
   exact qZT
 case rest=>
 clear ca cb cc cd fa fb fc fd
 obtain ⟨mB,hS5⟩:=hcut
 generalize wc=w5 at *
 obtain ⟨ca,cb,cc,cd,fa,fb,fc,fd⟩:=hS5
 have hS5:St w5 g (v.s0.s1.s2.s3.s4):=⟨ca,cb,cc,cd,fa,fb,fc,fd⟩
 clear hO4 gq
 go_upto_region 5 with fail
 go_cut [] (fun wx=>bP g w wx∧St wx g (v.s0.s1.s2.s3.s4.s5))
 case first=>
  exact qZM
 case rest=>
 clear ca cb cc cd fa fb fc fd
 obtain ⟨tS,j6⟩:=hcut
 generalize wc=w6 at *
 obtain ⟨ca,cb,cc,cd,fa,fb,fc,fd⟩:=j6
 have j6:St w6 g (v.s0.s1.s2.s3.s4.s5):=⟨ca,cb,cc,cd,fa,fb,fc,fd⟩
 clear mB hS5
 go_upto_region 6 with fail
 go_cut [] (fun wx=>bP g w wx∧St wx g (v.s0.s1.s2.s3.s4.s5.s6))
 case first=>
  go_region_with (go_at_call 185;refine(Kl _ ((V4.U5 (V4.U4 (V4.U3 (V4.U2 (V4.U1 (V4.U0 (hU))))))).2.2.2) _).mono ?_;rintro e w' ⟨rfl,rfl⟩)
  all_goals
   exact qZH
 case rest=>
 clear ca cb cc cd fa fb fc fd
 obtain ⟨o_,jR⟩:=hcut
 generalize wc=w7 at *
 obtain ⟨ca,cb,cc,cd,fa,fb,fc,fd⟩:=jR
 have jR:St w7 g (v.s0.s1.s2.s3.s4.s5.s6):=⟨ca,cb,cc,cd,fa,fb,fc,fd⟩
 clear tS j6
 go_upto_region 7 with fail
 go_cut [] (fun wx=>bP g w wx∧St wx g (v.s0.s1.s2.s3.s4.s5.s6.s7))
 case first=>
  exact qZR
 case rest=>
 clear ca cb cc cd fa fb fc fd
 obtain ⟨vq,kV⟩:=hcut
 generalize wc=w8 at *
 obtain ⟨ca,cb,cc,cd,fa,fb,fc,fd⟩:=kV
 have kV:St w8 g (v.s0.s1.s2.s3.s4.s5.s6.s7):=⟨ca,cb,cc,cd,fa,fb,fc,fd⟩
 clear o_ jR
 go_upto_region 8 with fail
 go_cut [] (fun wx=>bP g w wx∧St wx g (v.s0.s1.s2.s3.s4.s5.s6.s7.s8))
 case first=>
  go_region_with (go_at_call 185;refine(Km _ ((V4.U7 (V4.U6 (V4.U5 (V4.U4 (V4.U3 (V4.U2 (V4.U1 (V4.U0 (hU))))))))).2.1) _).mono ?_;rintro e w' ⟨rfl,rfl⟩)
  all_goals
   exact qZS
 case rest=>
 clear ca cb cc cd fa fb fc fd
 obtain ⟨IN,rV⟩:=hcut
 generalize wc=w9 at *
 obtain ⟨ca,cb,cc,cd,fa,fb,fc,fd⟩:=rV
 have rV:St w9 g (v.s0.s1.s2.s3.s4.s5.s6.s7.s8):=⟨ca,cb,cc,cd,fa,fb,fc,fd⟩
 clear vq kV
 go_wp2_with (go_at_call 185;refine(Et _ ((V4.U8 (V4.U7 (V4.U6 (V4.U5 (V4.U4 (V4.U3 (V4.U2 (V4.U1 (V4.U0 (hU)))))))))).2.2.1) _).mono ?_;rintro e w' ⟨rfl,rfl⟩)
 exact qZ9
theorem qYV{P:Prop}(h:P:=by
 have e:k=n:=by omega
 subst e
 have i1:¬(k:Int)<k:=by omega
 have hS2:=hid hS1
 have hO2:=hid gK
 clear hS1 gK hE
 go_wp2_with fail
 go_end0
 exact⟨rfl,hO2.out,hS2.out⟩
 ):P:=h
theorem qX6{P:Prop}(h:P:=by
 go_wp2_with fail
 refine(kE g _ _ gJ o6).mono ?_
 rintro e w2 ⟨rfl,hO4,gq⟩
 have mB:=((gK.setCell 3 _).trans hO3).trans hO4
 have hS5:=gq
 obtain ⟨ca,cb,cc,Bv,fa,fb,fc,Bh⟩:=gq
 clear cb cc Bv fb fc Bh cd fd hO3 hO4 gJ hS2
 go_wp2_with fail
 go_roundw
 case rel=>exact⟨k+1,by omega,by go_num,mB.setCell 0 _,by rw[hE.out];exact hS5.fw _⟩
 simp[intOf];omega
 ):P:=h
set_option maxRecDepth 100000 in
theorem Cx (g:Nat)(v:V4)(A:Option Addr)(n c:Nat)(f:Nat→Int)(w:World)(hS:St w g v)(hU:v.U)(h:Sl w A n (fun j=>.int .u64 (f j)))(hf:∀j,U (f j))(hA:∀ad,A=some ad→0<n→ad.block≠g)(hn:n≤140737488355328) :
 Calls Tryz.prog 183 #[.pointer (some ⟨g,0,none⟩),.slice A n c] w fun e w'=>e =.returned (.tuple #[])∧bP g w w'∧St w' g (eats f n v):=by
 have hO:=bP.pW g w
 go_enter Tryz.func183,Tryz.ntmps183
 go_wp2_with fail
 go_loopw [5,8] (fun _ i wr=>∃k:Nat,k≤n∧i =.int .i64 k∧bP g w wr∧St wr g (eats f k v)) (fun _ i _=>n-(intOf i).toNat)
 case atStart=>exact⟨0,by omega,rfl,hO,hS⟩
 obtain ⟨k,hk,rfl,gK,hS1⟩:=hrel
 have iw:=pg (f:=f) hU k
 have hE:Hid (eats f (k+1) v=gu (eats f k v) (f k)):=rfl
 clear hO hS
 by_cases hlt:k<n
 ·generalize eats f k v=v1 at *
  obtain ⟨b,off,rfl,_,hc⟩:=gK.sl h hA (by omega)
  have c0:wr.cell? ⟨b,off+k,none⟩=some (.int .u64 (f k)):=hc _ hlt
  have i1:(k:Int)<n:=by omega
  have xn:=hf k
  have hS2:=hS1
  obtain ⟨ca,cb,cc,cd,fa,fb,fc,fd⟩:=hS1
  clear hc h ca cb cc fa fb fc
  go_wp2_with fail
  refine(kE g { v1 with d:=xo v1.d (f k) } _ (hS2.g_ _) ⟨iw.1,iw.2.1,iw.2.2.1,gT _ _⟩).mono ?_
  rintro e w1 ⟨rfl,hO3,gJ⟩
  have o6:=ll (v:={ v1 with d:=xo v1.d (f k) }) ⟨iw.1,iw.2.1,iw.2.2.1,gT _ _⟩
  exact qX6
 exact qYV
set_option maxRecDepth 100000 in
theorem Cy (g:Nat)(v:V4)(A:Option Addr)(n c:Nat)(f:Nat→Int)(w:World)(hS:St w g v)(hU:v.U)(h:Sl w A n (fun j=>.int .i64 (f j)))(hf:∀j,(-9223372036854775808≤f j∧f j≤9223372036854775807))(hA:∀ad,A=some ad→0<n→ad.block≠g)(hn:n≤140737488355328) :
 Calls Tryz.prog 171 #[.pointer (some ⟨g,0,none⟩),.slice A n c] w fun e w'=>e =.returned (.tuple #[])∧bP g w w'∧St w' g (eats (fun j=>IntKind.u64.wrap (f j)) n v):=by
 have hO:=bP.pW g w
 go_enter Tryz.func171,Tryz.ntmps171
 go_wp2_with fail
 go_loopw [5,8] (fun _ i wr=>∃k:Nat,k≤n∧i =.int .i64 k∧bP g w wr∧St wr g (eats (fun j=>IntKind.u64.wrap (f j)) k v)) (fun _ i _=>n-(intOf i).toNat)
 case atStart=>exact⟨0,by omega,rfl,hO,hS⟩
 obtain ⟨k,hk,rfl,gK,hS1⟩:=hrel
 have iw:=pg (f:=(fun j=>IntKind.u64.wrap (f j))) hU k
 have hE:Hid (eats (fun j=>IntKind.u64.wrap (f j)) (k+1) v=gu (eats (fun j=>IntKind.u64.wrap (f j)) k v) (IntKind.u64.wrap (f k))):=rfl
 clear hO hS
 by_cases hlt:k<n
 ·generalize eats (fun j=>IntKind.u64.wrap (f j)) k v=v1 at *
  obtain ⟨b,off,rfl,_,hc⟩:=gK.sl h hA (by omega)
  have c0:wr.cell? ⟨b,off+k,none⟩=some (.int .i64 (f k)):=hc _ hlt
  have i1:(k:Int)<n:=by omega
  have xn:=hf k
  have hS2:=hS1
  obtain ⟨ca,cb,cc,cd,fa,fb,fc,fd⟩:=hS1
  clear hc h ca cb cc fa fb fc
  go_wp2_with fail
  refine(kE g { v1 with d:=xo v1.d (IntKind.u64.wrap (f k)) } _ (hS2.g_ _) ⟨iw.1,iw.2.1,iw.2.2.1,gT _ _⟩).mono ?_
  rintro e w1 ⟨rfl,hO3,gJ⟩
  have o6:=ll (v:={ v1 with d:=xo v1.d (IntKind.u64.wrap (f k)) }) ⟨iw.1,iw.2.1,iw.2.2.1,gT _ _⟩
  exact qX6
 exact qYV
end Go.Proofs.YtalnfkijiehjhaaGreat
