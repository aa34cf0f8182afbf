/- Cookies and stamps that carry, as plain numbers. The least contracts of cookies, of both packages. Cookies together and apart; their tags. Tags, masks, the parts of a cookie. Cookies apart; the document's cookies; keys by epochs. Keys by epochs; cookies made, of both packages. -/
import Derived.Test.YtalnfkijiehjhaaGreatGa
import Derived.Test.YtalnfkijiehjhaaGreatGsb
import Derived.Deep.RegionHeld3
import Derived.Deep.RegionWith
namespace Go.Proofs.YtalnfkijiehjhaaGreat
set_option linter.unusedVariables false
open Go.RowKit Go.ChangeShapes Go.WideShapes Go.ChangeAt
def xr (a b:Int):Int:=((a.toNat ^^^ b.toNat:Nat):Int)
theorem jD (a b:Int)(ha:0≤a∧a<64)(hb:0≤b∧b<64):0≤xr a b∧xr a b<64:=by
 have:a.toNat ^^^ b.toNat<2^6:=Nat.xor_lt_two_pow (by omega) (by omega)
 unfold xr
 omega
theorem wR (a b:Int)(ha:0≤a):xr (xr a b) b=a:=by
 unfold xr
 rw[Int.toNat_natCast,Nat.xor_assoc,Nat.xor_self,Nat.xor_zero]
 omega
theorem nB (x:Int)(j:Nat)(hj:j≤64):IntKind.i64.wrap x%2^j=x%2^j:=by
 have h1:((2:Int)^j)∣2^64:=⟨2^(64-j),by rw[←Int.pow_add];congr 1;omega⟩
 have h2:IntKind.i64.wrap x%2^64=x%2^64:=by rw[IntKind.wrap_i64];omega
 rw[←Int.emod_emod_of_dvd (IntKind.i64.wrap x) h1,h2,Int.emod_emod_of_dvd _ h1]
theorem oT (x:Int)(j:Nat)(hj:j≤64):(BitVec.ofInt 64 x).toNat%2^j=(x%2^j).toNat:=by
 rw[BitVec.toNat_ofInt]
 have h1:((2:Int)^j)∣2^64:=⟨2^(64-j),by rw[←Int.pow_add];congr 1;omega⟩
 have h0:(0:Int)<2^j:=Int.pow_pos (by omega)
 have h3:0≤x%2^64:=Int.emod_nonneg _ (by decide)
 have h4:0≤x%2^j:=Int.emod_nonneg _ (by omega)
 apply Int.ofNat.inj
 show ((((x%((2^64:Nat):Int)).toNat%2^j:Nat)):Int)=(((x%2^j).toNat:Nat):Int)
 rw[Int.natCast_emod,Int.toNat_of_nonneg (by simpa using h3),Int.toNat_of_nonneg h4]
 have:(((2^j:Nat)):Int)=2^j:=by simp
 rw[this,show (((2^64:Nat)):Int)=2^64 from by simp,Int.emod_emod_of_dvd _ h1]
theorem nh (x:Int)(j:Nat)(hj:j≤62):bits .and .i64 x (2^j-1)=x%2^j:=by
 have h0:(0:Int)<2^j:=Int.pow_pos (by omega)
 have hp:(2:Nat)^j≤2^62:=Nat.pow_le_pow_right (by omega) hj
 have hq:(((2^j:Nat)):Int)=2^j:=by simp
 have e:BitVec.ofInt 64 (2^j-1)=BitVec.ofNat 64 (2^j-1):=by
  rw[←BitVec.ofInt_natCast]
  congr 1
  have:=Nat.two_pow_pos j
  omega
 show IntKind.i64.wrap ((BitVec.ofInt 64 x &&& BitVec.ofInt 64 (2^j-1)).toNat:Int)=_
 rw[e,BitVec.toNat_and,BitVec.toNat_ofNat,Nat.mod_eq_of_lt (show 2^j-1<2^64 by omega),Nat.and_two_pow_sub_one_eq_mod,oT x j (by omega)]
 have h4:0≤x%2^j:=Int.emod_nonneg _ (by omega)
 have h5:x%2^j<2^j:=Int.emod_lt_of_pos _ h0
 rw[Int.toNat_of_nonneg h4,IntKind.wrap_i64]
 omega
theorem Fp (x y:Int)(j:Nat)(hj:j≤64):bits .xor .i64 x y%2^j=xr (x%2^j) (y%2^j):=by
 show IntKind.i64.wrap ((BitVec.ofInt 64 x ^^^ BitVec.ofInt 64 y).toNat:Int)%2^j=_
 rw[nB _ _ hj,BitVec.toNat_xor]
 have hq:(((2^j:Nat)):Int)=2^j:=by simp
 rw[←hq,←Int.natCast_emod,Nat.xor_mod_two_pow,oT x j hj,oT y j hj]
 simp[xr]
theorem Hu (x y i:Nat)(hx:x<2^i)(hx2:x<2^62)(hy:y*2^i<2^62):bits .or .i64 ((y*2^i:Nat):Int) (x:Int)=((y*2^i+x:Nat):Int):=by
 have hor:y*2^i ||| x=y*2^i+x:=by
  rw[Nat.mul_comm y,←Nat.two_pow_add_eq_or_of_lt hx]
 have hs:y*2^i+x<2^62:=by rw[←hor];exact Nat.or_lt_two_pow hy hx2
 show IntKind.i64.wrap ((BitVec.ofInt 64 ((y*2^i:Nat):Int) ||| BitVec.ofInt 64 (x:Int)).toNat:Int)=_
 exact qJP
theorem yu (x:Int):bits .and .i64 x 3=x%4:=nh x 2 (by omega)
theorem ve (x:Int):bits .and .i64 x 63=x%64:=nh x 6 (by omega)
theorem Gc (x:Int):bits .and .i64 x 255=x%256:=nh x 8 (by omega)
theorem Dw (x:Int):bits .and .i64 x 4095=x%4096:=nh x 12 (by omega)
theorem Ib (x:Int):bits .and .i64 x 1048575=x%1048576:=nh x 20 (by omega)
theorem ui (x y:Int):bits .xor .i64 x y%64=xr (x%64) (y%64):=Fp x y 6 (by omega)
theorem pX (y x p:Int)(i:Nat)(hp:p=2^i)(hy:0≤y)(hx:0≤x)(hxp:x<p)(hb:y*p<2^62)(hp2:p<2^62):bits .or .i64 (y*p) x=y*p+x:=by
 obtain ⟨a,rfl⟩:=Int.eq_ofNat_of_zero_le hy
 obtain ⟨b,rfl⟩:=Int.eq_ofNat_of_zero_le hx
 have e:p=((2^i:Nat):Int):=by rw[hp];simp
 subst e
 have:=Hu b a i (by omega) (by omega) (by rw[←Int.natCast_mul]at hb;omega)
 rw[Int.natCast_mul,Int.natCast_add,Int.natCast_mul]at this
 exact this
def Fl.ok (f:Fl):Prop:=(0≤f.a∧f.a<4294967296)∧(0≤f.p∧f.p<65536)∧(0≤f.ta∧f.ta<4294967296)∧(0≤f.tp∧f.tp<65536)
def W7 (k:Ky)(kd:Int)(f:Fl)(x e:Int):Int:=iH k.a k.b (fun j=>[kd,f.a,f.p,f.ta,f.tp,x,e].getD j 0) 7
def ix (T:Int)(k:Ky)(kd:Int)(f:Fl)(s e:Int):Int:=e*(64*T)+xr s (W7 k kd f 64 e%64)*T+W7 k kd f s e%T
def keyOf (r:Rg)(e:Int):Option Ky:=
 if e%4=(r.e-1)%4 then some r.p else if e%4=r.e%4 then some r.c else if e%4=(r.e+1)%4 then some r.n else none
def gP (T:Int)(k:Ky)(kd:Int)(f:Fl)(c:Int):Int:=xr (c/T%64) (W7 k kd f 64 (c/(64*T))%64)
def fm (T:Int)(r:Rg)(kd:Int)(f:Fl)(c:Int):Option Int:=
 if c<0∨256*T≤c then none else
 match keyOf r (c/(64*T)) with
 |none=>none
 |some k=>if ix T k kd f (gP T k kd f c) (c/(64*T))=c then some (gP T k kd f c) else none
theorem zE (T:Int)(k:Ky)(kd:Int)(f:Fl)(c:Int):0≤gP T k kd f c∧gP T k kd f c<64:=by
 unfold gP
 exact jD _ _ (by omega) (by omega)
theorem tZ (T:Int)(k:Ky)(kd:Int)(f:Fl)(s e:Int)(hT:T=4096∨T=256)(hs:0≤s∧s<64)(he:0≤e∧e<4) :
 ix T k kd f s e/(64*T)=e∧ix T k kd f s e/T%64=xr s (W7 k kd f 64 e%64)∧ix T k kd f s e%T=W7 k kd f s e%T∧0≤ix T k kd f s e∧ix T k kd f s e<256*T:=by
 have h1:=jD s (W7 k kd f 64 e%64) hs (by omega)
 unfold ix
 generalize xr s (W7 k kd f 64 e%64)=m at *
 generalize W7 k kd f s e=x
 rcases hT with rfl |rfl <;> omega
theorem sK (T:Int)(r:Rg)(kd:Int)(f:Fl)(c s:Int)(h:fm T r kd f c=some s):0≤s∧s<64:=by
 unfold fm at h
 split at h
 ·cases h
 split at h
 ·cases h
 split at h
 ·injection h with h
  rw[←h]
  exact zE _ _ _ _ _
 cases h
def fR (v c:Int):Int:=v/256%4096*1048576+c
def iT (n:Int):Int:=n-n%256
def gv (v n:Int):Int:=(v/1048576*256-iT n)%1048576
def od (v n:Int):Int:=(iT n+(if gv v n<524288 then gv v n else gv v n-1048576))%4294967296
set_option linter.unusedSimpArgs false
def mV (T:Int):Value:=if T=4096 then .agg #[.int .u64 18,.int .u64 2,.int .u64 12,.int .u64 6,.int .u64 0,.int .u64 12] else .agg #[.int .u64 14,.int .u64 2,.int .u64 8,.int .u64 6,.int .u64 0,.int .u64 8]
theorem oO:mV 4096 =.agg #[.int .u64 18,.int .u64 2,.int .u64 12,.int .u64 6,.int .u64 0,.int .u64 12]:=rfl
theorem oN:mV 256 =.agg #[.int .u64 14,.int .u64 2,.int .u64 8,.int .u64 6,.int .u64 0,.int .u64 8]:=rfl
def kI (e m t:Int):Value:=.agg #[e,m,t]
def KT (kd T:Int):Prop:=(kd=1∧T=4096)∨(kd=2∧T=256)
def Fl.I (f:Fl):Prop:=dW f.a∧dW f.p∧dW f.ta∧dW f.tp
theorem pV {kd x e:Int}{f:Fl}(hf:f.I)(hk:dW kd)(hx:dW x)(he:dW e):qH (fun j=>[kd,f.a,f.p,f.ta,f.tp,x,e].getD j 0):=fun j=>by
 obtain ⟨h1,h2,h3,h4⟩:=hf
 rcases j with _ | _ | _ | _ | _ | _ | _ |j
 ·exact hk
 ·exact h1
 ·exact h2
 ·exact h3
 ·exact h4
 ·exact hx
 ·exact he
 exact⟨by simp,by simp⟩
theorem ti (k:Ky)(kd:Int)(f:Fl)(x e:Int):U (W7 k kd f x e):=by
 unfold W7 iH sY
 exact gT _ _
theorem qQA{P:Prop}(h:P:=by
 repeat' (first |with_reducible exact Below.refl _ _ |with_reducible refine Below.drew ?_ |with_reducible refine Below.alloc ?_ ?_ _ |with_reducible refine Below.setCell ?_ ?_ _ | (simp;done) | (simp;omega))
 ):P:=h
theorem pn (a wd v:Int)(w:World)(hw:wd=2∨wd=6∨wd=8∨wd=12) :
 Calls Tryz.prog 162 #[.agg #[.int .u64 a,.int .u64 wd],v] w fun e w'=>e =.returned (.int .i64 (v%2^wd.toNat))∧Below w.heap.size w w':=by
 have h0:=yu v
 have h1:=ve v
 have h2:=Gc v
 have h3:=Dw v
 rcases hw with rfl |rfl |rfl |rfl
 all_goals
  go_enter Tryz.func162,Tryz.ntmps162
  go_wp2_with fail
  go_ret
  refine⟨rfl,?_⟩
  exact qQA
theorem pZ (a wd v:Int)(w:World)(hf:(a=18∧wd=2)∨(a=14∧wd=2)∨(a=12∧wd=6)∨(a=8∧wd=6)∨(a=0∧wd=12)∨(a=0∧wd=8)) :
 Calls Tryz.prog 167 #[.agg #[.int .u64 a,.int .u64 wd],v] w fun e w'=>e =.returned (.int .i64 (v%2^wd.toNat*2^a.toNat))∧Below w.heap.size w w':=by
 have hw:wd=2∨wd=6∨wd=8∨wd=12:=by omega
 have ha:0≤a:=by omega
 have ha':a≤64:=by omega
 go_enter Tryz.func167,Tryz.ntmps167
 go_wp2_with fail
 have CK:=Ce.made (w:=w) (l:=[.int .u64 a,.int .u64 wd]) (T:=192) (g:=w.heap.size) rfl
 have B:Below w.heap.size w (w.alloc (.cells #[.int .u64 a,.int .u64 wd] 192)):=((Below.refl _ _).alloc (Nat.le_refl _) (.cells #[.int .u64 a,.int .u64 wd] 192))
 obtain ⟨kK,qK,zK⟩:=CK
 have py:=qK 0 _ rfl
 have px:=qK 1 _ rfl
 clear qK zK
 generalize w.alloc (.cells #[.int .u64 a,.int .u64 wd] 192)=w1 at *
 generalize hK:w.heap.size=K at *
 go_region_held3 (fun w'=>w'.cell? ⟨K,0,none⟩=some (.int .u64 a)∧w'.cell? ⟨K,1,none⟩=some (.int .u64 wd)∧K<w'.heap.size∧Below K w w')
  (first
   | (go_split_ands;refine⟨?_,?_,?_,?_⟩;exact(hb5.cell (p:=⟨K,0,none⟩) (by assumption)).trans (by assumption);exact(hb5.cell (p:=⟨K,1,none⟩) (by assumption)).trans (by assumption);exact Nat.lt_of_lt_of_le (by assumption) hb5.size;exact Below.trans (by assumption) (hb5.mono (by first |exact Nat.le_of_lt (by assumption) |exact Below.size (by assumption))))
   | (refine⟨?_,?_,?_,?_⟩;assumption;assumption;assumption;exact Below.drew (by assumption))
   | (go_split_ands;refine⟨?_,?_,?_,?_⟩;exact(World.cell?_alloc_lt _ _ ⟨K,0,none⟩ (by assumption)).trans (by assumption);exact(World.cell?_alloc_lt _ _ ⟨K,1,none⟩ (by assumption)).trans (by assumption);(simp;omega);exact Below.alloc (by assumption) (by first |exact Nat.le_of_lt (by assumption) |exact Below.size (by assumption)) _)
   | (go_split_ands;refine⟨?_,?_,?_,?_⟩;exact(World.cell?_alloc_lt _ _ ⟨K,0,none⟩ (by assumption)).trans (by assumption);exact(World.cell?_alloc_lt _ _ ⟨K,1,none⟩ (by assumption)).trans (by assumption);exact Nat.lt_of_lt_of_le (by assumption) (Below.drew (Below.alloc (Below.refl _ _) (Nat.le_refl _) _)).size;exact Below.drew (Below.alloc (by assumption) (Below.size (by assumption)) _))
   | (go_split_ands;refine⟨?_,?_,?_,?_⟩;(iterate 3 (assumption));assumption)
   |go_keep)
  ((first
    | (go_at_call 162
       go_split_ands
       with_reducible refine(pn a wd _ _ hw).mono ?_
       rintro e w5 ⟨rfl,hb5⟩)))
 all_goals
  go_split_ands
  go_wp2_with fail
  go_ret
  refine⟨bp ?_,by first |assumption | (rw[hK];assumption)⟩
  rcases hf with ⟨rfl,rfl⟩ |⟨rfl,rfl⟩ |⟨rfl,rfl⟩ |⟨rfl,rfl⟩ |⟨rfl,rfl⟩ |⟨rfl,rfl⟩ <;> (rw[IntKind.wrap_i64];simp;omega)
theorem qYN{P:Prop}(h:P:=by
 rintro e w' ⟨rfl,hb⟩
 have hb0:=((Below.refl w.heap.size w).alloc (Nat.le_refl _) _).trans (hb.mono (by simp))
 go_wp2_with fail
 go_ret
 exact⟨rfl,hb0⟩
 ):P:=h
theorem xh (a wd v:Int)(w:World)(hf:(a=18∧wd=2)∨(a=14∧wd=2)∨(a=12∧wd=6)∨(a=8∧wd=6)∨(a=0∧wd=12)∨(a=0∧wd=8)) :
 Calls Tryz.prog 181 #[.agg #[.int .u64 a,.int .u64 wd],v] w fun e w'=>e =.returned (.int .i64 (v/2^a.toNat%2^wd.toNat))∧Below w.heap.size w w':=by
 have hw:wd=2∨wd=6∨wd=8∨wd=12:=by omega
 have ha:0≤a:=by omega
 have ha':a≤64:=by omega
 go_enter Tryz.func181,Tryz.ntmps181
 go_wp2_with fail
 refine(pn a wd _ _ hw).mono ?_
 exact qYN
theorem qJE{P:Prop}(h:P:=by
 go_enter Tryz.func131,Tryz.ntmps131
 go_wp2_with fail
 refine bodyPost_ret (by simp[results,Tryz.results131,go_sem]) rfl ⟨rfl,?_⟩
 exact qQA
 ):P:=h
theorem gB (kd T:Int)(w:World)(hk:KT kd T) :
 Calls Tryz.prog 131 #[kd] w fun e w'=>e =.returned (mV T)∧Below w.heap.size w w':=by
 rcases hk with ⟨rfl,rfl⟩ |⟨rfl,rfl⟩
 ·rw[oO]
  exact qJE
 rw[oN]
 exact qJE
theorem eb (e:Int)(w:World):Calls Tryz.prog 134 #[e] w fun e' w'=>e' =.returned (.int .i64 (e%4))∧w=w':=by
 have h:=yu e
 go_enter Tryz.func134,Tryz.ntmps134
 go_wp2
 go_ret
 exact⟨rfl,rfl⟩
theorem eJ (e:Int)(w:World):Calls Tryz.prog 114 #[e] w fun e' w'=>e' =.returned (.int .i64 (e%4))∧w=w':=by
 have h:=yu e
 go_enter Tryz.func114,Tryz.ntmps114
 go_wp2
 go_ret
 exact⟨rfl,rfl⟩
theorem fI (kd T:Int)(w:World)(hk:KT kd T):Calls Tryz.prog 145 #[kd] w fun e' w'=>e' =.returned (.int .u64 (if T=4096 then 12 else 8))∧w=w':=by
 rcases hk with ⟨rfl,rfl⟩ |⟨rfl,rfl⟩
 all_goals
  go_enter Tryz.func145,Tryz.ntmps145
  go_wp2
  go_ret
  exact⟨rfl,rfl⟩
theorem yM (T:Int)(w:World)(hT:T=4096∨T=256):Calls Tryz.prog 159 #[mV T] w fun e' w'=>e' =.returned (.int .i64 (256*T))∧Below w.heap.size w w':=by
 rcases hT with rfl |rfl
 all_goals
  first |rw[oO] |rw[oN]
  go_enter Tryz.func159,Tryz.ntmps159
  go_wp2
  go_ret
  exact⟨rfl,(Below.refl _ _).alloc (Nat.le_refl _) _⟩
theorem GR (e m t:Int)(he:0≤e∧e<4)(hm:0≤m∧m<64)(ht:0≤t∧t<4096) :
 bits .or .i64 (bits .or .i64 (e%4*262144) (m%64*4096)) (t%4096)=e*(64*4096)+m*4096+t:=by
 rw[show e%4=e from by omega,show m%64=m from by omega,show t%4096=t from by omega,pX e (m*4096) 262144 18 rfl (by omega) (by omega) (by omega) (by omega) (by omega),
  show e*262144+m*4096=(e*64+m)*4096 from by omega,pX (e*64+m) t 4096 12 rfl (by omega) (by omega) (by omega) (by omega) (by omega)]
 omega
theorem GQ (e m t:Int)(he:0≤e∧e<4)(hm:0≤m∧m<64)(ht:0≤t∧t<256) :
 bits .or .i64 (bits .or .i64 (e%4*16384) (m%64*256)) (t%256)=e*(64*256)+m*256+t:=by
 rw[show e%4=e from by omega,show m%64=m from by omega,show t%256=t from by omega,pX e (m*256) 16384 14 rfl (by omega) (by omega) (by omega) (by omega) (by omega),
  show e*16384+m*256=(e*64+m)*256 from by omega,pX (e*64+m) t 256 8 rfl (by omega) (by omega) (by omega) (by omega) (by omega)]
 omega
theorem qYA{P:Prop}(h:P:=by
 go_split_ands
 go_wp2_with fail
 go_ret
 exact⟨bp H.out,by first |assumption | (rw[hK];assumption)⟩
 ):P:=h
theorem zn (e m t:Int)(he:0≤e∧e<4)(hm:0≤m∧m<64)(ht:0≤t∧t<4096)(w:World) :
 Calls Tryz.prog 132 #[mV 4096,kI e m t] w fun e' w'=>e' =.returned (.int .i64 (e*(64*4096)+m*4096+t))∧Below w.heap.size w w':=by
 have H:=hid (GR e m t he hm ht)
 rw[oO]
 unfold kI
 clear he hm ht
 go_enter Tryz.func132,Tryz.ntmps132
 go_wp2_with fail
 have CK:=Ce.made (w:=w) (l:=[.int .u64 18,.int .u64 2,.int .u64 12,.int .u64 6,.int .u64 0,.int .u64 12]) (T:=194) (g:=w.heap.size) rfl
 have CK:=CK.alloc (.cells #[e,m,t] 198)
 have CL:=Ce.made (w:=(w.alloc (.cells #[.int .u64 18,.int .u64 2,.int .u64 12,.int .u64 6,.int .u64 0,.int .u64 12] 194))) (l:=[e,m,t]) (T:=198) (g:=w.heap.size+1) (by simp)
 have B:Below w.heap.size w ((w.alloc (.cells #[.int .u64 18,.int .u64 2,.int .u64 12,.int .u64 6,.int .u64 0,.int .u64 12] 194)).alloc (.cells #[e,m,t] 198)):=(((Below.refl _ _).alloc (Nat.le_refl _) (.cells #[.int .u64 18,.int .u64 2,.int .u64 12,.int .u64 6,.int .u64 0,.int .u64 12] 194)).alloc (by first | (simp;done) | (have:=Nat.le_refl 0;simp at this ⊢;omega)) (.cells #[e,m,t] 198))
 obtain ⟨kK,qK,zK⟩:=CK
 have py:=qK 0 _ rfl
 have px:=qK 1 _ rfl
 have OZ:=qK 2 _ rfl
 have OY:=qK 3 _ rfl
 have OX:=qK 4 _ rfl
 have OW:=qK 5 _ rfl
 clear qK zK
 obtain ⟨kL,qL,zL⟩:=CL
 have OV:=qL 0 _ rfl
 have OU:=qL 1 _ rfl
 have OT:=qL 2 _ rfl
 clear qL zL
 generalize (w.alloc (.cells #[.int .u64 18,.int .u64 2,.int .u64 12,.int .u64 6,.int .u64 0,.int .u64 12] 194)).alloc (.cells #[e,m,t] 198)=w1 at *
 generalize w.heap.size+1=L at *
 generalize hK:w.heap.size=K at *
 go_region_held3 (fun w'=>w'.cell? ⟨K,0,none⟩=some (.int .u64 18)∧w'.cell? ⟨K,1,none⟩=some (.int .u64 2)∧w'.cell? ⟨K,2,none⟩=some (.int .u64 12)∧w'.cell? ⟨K,3,none⟩=some (.int .u64 6)∧w'.cell? ⟨K,4,none⟩=some (.int .u64 0)∧w'.cell? ⟨K,5,none⟩=some (.int .u64 12)∧w'.cell? ⟨L,0,none⟩=some (.int .i64 e)∧w'.cell? ⟨L,1,none⟩=some (.int .i64 m)∧w'.cell? ⟨L,2,none⟩=some (.int .i64 t)∧K<w'.heap.size∧L<w'.heap.size∧Below K w w')
  (first
   | (go_split_ands;refine⟨?_,?_,?_,?_,?_,?_,?_,?_,?_,?_,?_,?_⟩;(iterate 9 (exact(hb5.cell (by assumption)).trans (by assumption)));exact Nat.lt_of_lt_of_le (by assumption) hb5.size;exact Nat.lt_of_lt_of_le (by assumption) hb5.size;exact Below.trans (by assumption) (hb5.mono (by first |exact Nat.le_of_lt (by assumption) |exact Below.size (by assumption))))
   | (refine⟨?_,?_,?_,?_,?_,?_,?_,?_,?_,?_,?_,?_⟩;(iterate 11 (assumption));exact Below.drew (by assumption))
   | (go_split_ands;refine⟨?_,?_,?_,?_,?_,?_,?_,?_,?_,?_,?_,?_⟩;(iterate 9 (exact(World.cell?_alloc_lt _ _ _ (by assumption)).trans (by assumption)));(simp;omega);(simp;omega);exact Below.alloc (by assumption) (by first |exact Nat.le_of_lt (by assumption) |exact Below.size (by assumption)) _)
   | (go_split_ands;refine⟨?_,?_,?_,?_,?_,?_,?_,?_,?_,?_,?_,?_⟩;(iterate 9 (exact(World.cell?_alloc_lt _ _ _ (by assumption)).trans (by assumption)));exact Nat.lt_of_lt_of_le (by assumption) (Below.drew (Below.alloc (Below.refl _ _) (Nat.le_refl _) _)).size;exact Nat.lt_of_lt_of_le (by assumption) (Below.drew (Below.alloc (Below.refl _ _) (Nat.le_refl _) _)).size;exact Below.drew (Below.alloc (by assumption) (Below.size (by assumption)) _))
   | (go_split_ands;refine⟨?_,?_,?_,?_,?_,?_,?_,?_,?_,?_,?_,?_⟩;(iterate 11 (assumption));assumption)
   |go_keep)
  ((first
    | (go_at_call 167
       go_split_ands
       with_reducible refine(pZ 18 2 _ _ ?_).mono ?_
       ·decide
       rintro e w5 ⟨rfl,hb5⟩)
    | (go_at_call 167
       go_split_ands
       with_reducible refine(pZ 12 6 _ _ ?_).mono ?_
       ·decide
       rintro e w5 ⟨rfl,hb5⟩)
    | (go_at_call 167
       go_split_ands
       with_reducible refine(pZ 0 12 _ _ ?_).mono ?_
       ·decide
       rintro e w5 ⟨rfl,hb5⟩)))
 all_goals
  exact qYA
theorem zm (e m t:Int)(he:0≤e∧e<4)(hm:0≤m∧m<64)(ht:0≤t∧t<256)(w:World) :
 Calls Tryz.prog 132 #[mV 256,kI e m t] w fun e' w'=>e' =.returned (.int .i64 (e*(64*256)+m*256+t))∧Below w.heap.size w w':=by
 have H:=hid (GQ e m t he hm ht)
 rw[oN]
 unfold kI
 clear he hm ht
 go_enter Tryz.func132,Tryz.ntmps132
 go_wp2_with fail
 have CK:=Ce.made (w:=w) (l:=[.int .u64 14,.int .u64 2,.int .u64 8,.int .u64 6,.int .u64 0,.int .u64 8]) (T:=194) (g:=w.heap.size) rfl
 have CK:=CK.alloc (.cells #[e,m,t] 198)
 have CL:=Ce.made (w:=(w.alloc (.cells #[.int .u64 14,.int .u64 2,.int .u64 8,.int .u64 6,.int .u64 0,.int .u64 8] 194))) (l:=[e,m,t]) (T:=198) (g:=w.heap.size+1) (by simp)
 have B:Below w.heap.size w ((w.alloc (.cells #[.int .u64 14,.int .u64 2,.int .u64 8,.int .u64 6,.int .u64 0,.int .u64 8] 194)).alloc (.cells #[e,m,t] 198)):=(((Below.refl _ _).alloc (Nat.le_refl _) (.cells #[.int .u64 14,.int .u64 2,.int .u64 8,.int .u64 6,.int .u64 0,.int .u64 8] 194)).alloc (by first | (simp;done) | (have:=Nat.le_refl 0;simp at this ⊢;omega)) (.cells #[e,m,t] 198))
 obtain ⟨kK,qK,zK⟩:=CK
 have py:=qK 0 _ rfl
 have px:=qK 1 _ rfl
 have OZ:=qK 2 _ rfl
 have OY:=qK 3 _ rfl
 have OX:=qK 4 _ rfl
 have OW:=qK 5 _ rfl
 clear qK zK
 obtain ⟨kL,qL,zL⟩:=CL
 have OV:=qL 0 _ rfl
 have OU:=qL 1 _ rfl
 have OT:=qL 2 _ rfl
 clear qL zL
 generalize (w.alloc (.cells #[.int .u64 14,.int .u64 2,.int .u64 8,.int .u64 6,.int .u64 0,.int .u64 8] 194)).alloc (.cells #[e,m,t] 198)=w1 at *
 generalize w.heap.size+1=L at *
 generalize hK:w.heap.size=K at *
 go_region_held3 (fun w'=>w'.cell? ⟨K,0,none⟩=some (.int .u64 14)∧w'.cell? ⟨K,1,none⟩=some (.int .u64 2)∧w'.cell? ⟨K,2,none⟩=some (.int .u64 8)∧w'.cell? ⟨K,3,none⟩=some (.int .u64 6)∧w'.cell? ⟨K,4,none⟩=some (.int .u64 0)∧w'.cell? ⟨K,5,none⟩=some (.int .u64 8)∧w'.cell? ⟨L,0,none⟩=some (.int .i64 e)∧w'.cell? ⟨L,1,none⟩=some (.int .i64 m)∧w'.cell? ⟨L,2,none⟩=some (.int .i64 t)∧K<w'.heap.size∧L<w'.heap.size∧Below K w w')
  (first
   | (go_split_ands;refine⟨?_,?_,?_,?_,?_,?_,?_,?_,?_,?_,?_,?_⟩;(iterate 9 (exact(hb5.cell (by assumption)).trans (by assumption)));exact Nat.lt_of_lt_of_le (by assumption) hb5.size;exact Nat.lt_of_lt_of_le (by assumption) hb5.size;exact Below.trans (by assumption) (hb5.mono (by first |exact Nat.le_of_lt (by assumption) |exact Below.size (by assumption))))
   | (refine⟨?_,?_,?_,?_,?_,?_,?_,?_,?_,?_,?_,?_⟩;(iterate 11 (assumption));exact Below.drew (by assumption))
   | (go_split_ands;refine⟨?_,?_,?_,?_,?_,?_,?_,?_,?_,?_,?_,?_⟩;(iterate 9 (exact(World.cell?_alloc_lt _ _ _ (by assumption)).trans (by assumption)));(simp;omega);(simp;omega);exact Below.alloc (by assumption) (by first |exact Nat.le_of_lt (by assumption) |exact Below.size (by assumption)) _)
   | (go_split_ands;refine⟨?_,?_,?_,?_,?_,?_,?_,?_,?_,?_,?_,?_⟩;(iterate 9 (exact(World.cell?_alloc_lt _ _ _ (by assumption)).trans (by assumption)));exact Nat.lt_of_lt_of_le (by assumption) (Below.drew (Below.alloc (Below.refl _ _) (Nat.le_refl _) _)).size;exact Nat.lt_of_lt_of_le (by assumption) (Below.drew (Below.alloc (Below.refl _ _) (Nat.le_refl _) _)).size;exact Below.drew (Below.alloc (by assumption) (Below.size (by assumption)) _))
   | (go_split_ands;refine⟨?_,?_,?_,?_,?_,?_,?_,?_,?_,?_,?_,?_⟩;(iterate 11 (assumption));assumption)
   |go_keep)
  ((first
    | (go_at_call 167
       go_split_ands
       with_reducible refine(pZ 14 2 _ _ ?_).mono ?_
       ·decide
       rintro e w5 ⟨rfl,hb5⟩)
    | (go_at_call 167
       go_split_ands
       with_reducible refine(pZ 8 6 _ _ ?_).mono ?_
       ·decide
       rintro e w5 ⟨rfl,hb5⟩)
    | (go_at_call 167
       go_split_ands
       with_reducible refine(pZ 0 8 _ _ ?_).mono ?_
       ·decide
       rintro e w5 ⟨rfl,hb5⟩)))
 all_goals
  exact qYA
theorem sA (x:Int)(j:Nat)(hj:j≤64):wrap64 x%2^j=x%2^j:=by
 rw[←IntWalk.i64_left]
 exact nB x j hj
theorem Ce.sl {w:World}{b:Nat}(l:List Int)(h:Ce w b (l.map (Value.int .i64))):Is w (some ⟨b,0,none⟩) l.length (fun j=>l.getD j 0):=by
 refine Sl.mk h.1 fun j hj=>?_
 rw[Nat.zero_add]
 exact h.2.1 j _ (by simp[List.getD,hj])
theorem qZ3{P:Prop}(h:P:=by
 rintro e' w' ⟨rfl,hb⟩
 have hb0:=((((Below.refl w.heap.size w).alloc (Nat.le_refl _) _).alloc (by simp) _).alloc (by simp;omega) _).trans (hb.mono (by simp;omega))
 go_wp2_with fail
 go_ret
 exact⟨rfl,hb0⟩
 ):P:=h
theorem j_ (k:Ky)(kd:Int)(f:Fl)(x e:Int)(hf:f.I)(hk:dW kd)(hx:dW x)(he:dW e)(w:World) :
 Calls Tryz.prog 146 #[eO k,kd,ff f,x,e] w fun e' w'=>e' =.returned (.int .u64 (W7 k kd f x e))∧Below w.heap.size w w':=by
 have hI:=pV hf hk hx he
 unfold eO ff
 go_enter Tryz.func146,Tryz.ntmps146
 go_wp2_with fail
 refine(lk k.a k.b _ 7 7 _ _ (gl .i64 [kd,f.a,f.p,f.ta,f.tp,x,e] (by simp)) hI (by omega)).mono ?_
 exact qZ3
theorem rb (k:Ky)(kd:Int)(f:Fl)(e:Int)(hf:f.I)(hk:dW kd)(he:dW e)(w:World) :
 Calls Tryz.prog 163 #[eO k,kd,ff f,e] w fun e' w'=>e' =.returned (.int .i64 (wrap64 (W7 k kd f 64 e)))∧Below w.heap.size w w':=by
 have hI:=pV hf hk (x:=64) ⟨by omega,by omega⟩ he
 unfold eO ff
 go_enter Tryz.func163,Tryz.ntmps163
 go_wp2_with fail
 refine(uU (mn k.a k.b _ 7 7 _ _ (gl .i64 [kd,f.a,f.p,f.ta,f.tp,64,e] (by simp)) hI (by omega)) (show _=W7 k kd f 64 e from rfl)).mono ?_
 exact qZ3
set_option maxHeartbeats 8000000 in
theorem EB (k:Ky)(kd:Int)(f:Fl)(x e:Int)(hf:f.I)(hk:dW kd)(hx:dW x)(he:dW e)(w:World) :
 Calls Tryz.prog 133 #[mV 4096,eO k,kd,ff f,x,e] w fun e' w'=>e' =.returned (kI e (xr (x%64) (W7 k kd f 64 e%64)) (W7 k kd f x e%4096))∧Below w.heap.size w w':=by
 have hI:=pV hf hk hx he
 rw[oO]
 unfold eO ff kI
 go_enter Tryz.func133,Tryz.ntmps133
 go_wp2_with fail
 have dS:w.heap.size+1+1+1≠w.heap.size:=by omega
 have dK:w.heap.size+1+1+1≠w.heap.size+1:=by omega
 have dF:w.heap.size+1+1+1≠w.heap.size+1+1:=by omega
 have lR:w.heap.size≤w.heap.size+1+1+1:=by omega
 have CS:=Ce.made (w:=w) (l:=[.int .u64 18,.int .u64 2,.int .u64 12,.int .u64 6,.int .u64 0,.int .u64 12]) (T:=194) (g:=w.heap.size) rfl
 replace CS:=CS.alloc (.cells #[.int .u64 k.a,.int .u64 k.b] 30)
 have CK:=Ce.made (w:=(w.alloc (.cells #[.int .u64 18,.int .u64 2,.int .u64 12,.int .u64 6,.int .u64 0,.int .u64 12] 194))) (l:=[.int .u64 k.a,.int .u64 k.b]) (T:=30) (g:=w.heap.size+1) (by simp)
 replace CS:=CS.alloc (.cells #[f.a,f.p,f.ta,f.tp] 141)
 replace CK:=CK.alloc (.cells #[f.a,f.p,f.ta,f.tp] 141)
 have CF:=Ce.made (w:=((w.alloc (.cells #[.int .u64 18,.int .u64 2,.int .u64 12,.int .u64 6,.int .u64 0,.int .u64 12] 194)).alloc (.cells #[.int .u64 k.a,.int .u64 k.b] 30))) (l:=[f.a,f.p,f.ta,f.tp]) (T:=141) (g:=w.heap.size+1+1) (by simp)
 replace CS:=CS.alloc (.cells #[(),(),()] 198)
 replace CK:=CK.alloc (.cells #[(),(),()] 198)
 replace CF:=CF.alloc (.cells #[(),(),()] 198)
 have CR:=Ce.made (w:=(((w.alloc (.cells #[.int .u64 18,.int .u64 2,.int .u64 12,.int .u64 6,.int .u64 0,.int .u64 12] 194)).alloc (.cells #[.int .u64 k.a,.int .u64 k.b] 30)).alloc (.cells #[f.a,f.p,f.ta,f.tp] 141))) (l:=[(),(),()]) (T:=198) (g:=w.heap.size+1+1+1) (by simp)
 replace CS:=CS.alloc (.cells #[kd,f.a,f.p,f.ta,f.tp,x,e] 3)
 replace CK:=CK.alloc (.cells #[kd,f.a,f.p,f.ta,f.tp,x,e] 3)
 replace CF:=CF.alloc (.cells #[kd,f.a,f.p,f.ta,f.tp,x,e] 3)
 replace CR:=CR.alloc (.cells #[kd,f.a,f.p,f.ta,f.tp,x,e] 3)
 have CX:=Ce.made (w:=((((w.alloc (.cells #[.int .u64 18,.int .u64 2,.int .u64 12,.int .u64 6,.int .u64 0,.int .u64 12] 194)).alloc (.cells #[.int .u64 k.a,.int .u64 k.b] 30)).alloc (.cells #[f.a,f.p,f.ta,f.tp] 141)).alloc (.cells #[(),(),()] 198))) (l:=[kd,f.a,f.p,f.ta,f.tp,x,e]) (T:=3) (g:=w.heap.size+1+1+1+1) (by simp)
 have B:Below w.heap.size w (((((w.alloc (.cells #[.int .u64 18,.int .u64 2,.int .u64 12,.int .u64 6,.int .u64 0,.int .u64 12] 194)).alloc (.cells #[.int .u64 k.a,.int .u64 k.b] 30)).alloc (.cells #[f.a,f.p,f.ta,f.tp] 141)).alloc (.cells #[(),(),()] 198)).alloc (.cells #[kd,f.a,f.p,f.ta,f.tp,x,e] 3)):=((((((Below.refl w.heap.size w).alloc (by first |exact Nat.le_refl _ | (simp;done) | (simp;omega)) (.cells #[.int .u64 18,.int .u64 2,.int .u64 12,.int .u64 6,.int .u64 0,.int .u64 12] 194)).alloc (by first |exact Nat.le_refl _ | (simp;done) | (simp;omega)) (.cells #[.int .u64 k.a,.int .u64 k.b] 30)).alloc (by first |exact Nat.le_refl _ | (simp;done) | (simp;omega)) (.cells #[f.a,f.p,f.ta,f.tp] 141)).alloc (by first |exact Nat.le_refl _ | (simp;done) | (simp;omega)) (.cells #[(),(),()] 198)).alloc (by first |exact Nat.le_refl _ | (simp;done) | (simp;omega)) (.cells #[kd,f.a,f.p,f.ta,f.tp,x,e] 3))
 generalize ((((w.alloc (.cells #[.int .u64 18,.int .u64 2,.int .u64 12,.int .u64 6,.int .u64 0,.int .u64 12] 194)).alloc (.cells #[.int .u64 k.a,.int .u64 k.b] 30)).alloc (.cells #[f.a,f.p,f.ta,f.tp] 141)).alloc (.cells #[(),(),()] 198)).alloc (.cells #[kd,f.a,f.p,f.ta,f.tp,x,e] 3)=w1 at *
 generalize w.heap.size+1+1+1+1=X at *
 generalize w.heap.size+1+1+1=R at *
 generalize w.heap.size+1+1=F at *
 generalize w.heap.size+1=K at *
 generalize hK:w.heap.size=S at *
 refine(uU (mn k.a k.b (some ⟨X,0,none⟩) 7 7 _ w1 (Ce.sl [kd,f.a,f.p,f.ta,f.tp,x,e] CX) hI (by omega)) (show _=W7 k kd f x e from rfl)).mono ?_
 rintro e' w2 ⟨rfl,hb⟩
 replace B:=B.trans (hb.mono (Nat.le_of_lt CS.1))
 replace CS:=CS.below hb
 replace CK:=CK.below hb
 replace CF:=CF.below hb
 replace CR:=CR.below hb
 clear CX hb
 obtain ⟨kS,qS,zS⟩:=CS
 have eE:=qS 0 _ rfl
 have eD:=qS 1 _ rfl
 have cS2:=qS 2 _ rfl
 have eC:=qS 3 _ rfl
 have eV:=qS 4 _ rfl
 have eU:=qS 5 _ rfl
 clear qS zS
 obtain ⟨kK,qK,zK⟩:=CK
 have py:=qK 0 _ rfl
 have px:=qK 1 _ rfl
 clear qK zK
 obtain ⟨kF,qF,zF⟩:=CF
 have bL:=qF 0 _ rfl
 have bK:=qF 1 _ rfl
 have bJ:=qF 2 _ rfl
 have bI:=qF 3 _ rfl
 clear qF zF
 obtain ⟨kR,qR,zR⟩:=CR
 have mI:=qR 0 _ rfl
 have mH:=qR 1 _ rfl
 have mG:=qR 2 _ rfl
 have GC:=zR 0
 have GB:=zR 1
 have GA:=zR 2
 clear qR zR
 have hx:Hid (bits .xor .i64 x (wrap64 (W7 k kd f 64 e))%64=xr (x%64) (W7 k kd f 64 e%64)):=by
  unfold Hid
  rw[ui,show wrap64 (W7 k kd f 64 e)%64=W7 k kd f 64 e%64 from sA _ 6 (by omega)]
 have hy:Hid (IntKind.i64.wrap (W7 k kd f x e)%4096=W7 k kd f x e%4096):=nB _ 12 (by omega)
 have M:=rb k kd f e hf hk he
 unfold eO ff at M
 replace M:=hid M
 go_wp2_with fail
 replace mI:=fC mI
 replace mH:=fC mH
 replace mG:=fC mG
 go_region_held3 (fun w'=>w'.cell? ⟨S,0,none⟩=some (.int .u64 18)∧w'.cell? ⟨S,1,none⟩=some (.int .u64 2)∧w'.cell? ⟨S,2,none⟩=some (.int .u64 12)∧w'.cell? ⟨S,3,none⟩=some (.int .u64 6)∧w'.cell? ⟨S,4,none⟩=some (.int .u64 0)∧w'.cell? ⟨S,5,none⟩=some (.int .u64 12)∧w'.cell? ⟨K,0,none⟩=some (.int .u64 k.a)∧w'.cell? ⟨K,1,none⟩=some (.int .u64 k.b)∧w'.cell? ⟨F,0,none⟩=some (.int .i64 f.a)∧w'.cell? ⟨F,1,none⟩=some (.int .i64 f.p)∧w'.cell? ⟨F,2,none⟩=some (.int .i64 f.ta)∧w'.cell? ⟨F,3,none⟩=some (.int .i64 f.tp)∧S<w'.heap.size∧K<w'.heap.size∧F<w'.heap.size∧R<w'.heap.size∧w'.cell? ⟨R,0,none⟩=some (cv w' R 0)∧w'.cell? ⟨R,1,none⟩=some (cv w' R 1)∧w'.cell? ⟨R,2,none⟩=some (cv w' R 2)∧w'.frozen? ⟨R,0,none⟩=false∧w'.frozen? ⟨R,1,none⟩=false∧w'.frozen? ⟨R,2,none⟩=false∧Below S w w')
  (first
   | (go_split_ands;refine⟨?_,?_,?_,?_,?_,?_,?_,?_,?_,?_,?_,?_,?_,?_,?_,?_,?_,?_,?_,?_,?_,?_,?_⟩;with_reducible exact((World.cell?_setCell_far _ _ _ _ dS).trans ((World.cell?_setCell_far _ _ _ _ dS).trans ((World.cell?_setCell_far _ _ _ _ dS).trans (by assumption))));with_reducible exact((World.cell?_setCell_far _ _ _ _ dS).trans ((World.cell?_setCell_far _ _ _ _ dS).trans ((World.cell?_setCell_far _ _ _ _ dS).trans (by assumption))));with_reducible exact((World.cell?_setCell_far _ _ _ _ dS).trans ((World.cell?_setCell_far _ _ _ _ dS).trans ((World.cell?_setCell_far _ _ _ _ dS).trans (by assumption))));with_reducible exact((World.cell?_setCell_far _ _ _ _ dS).trans ((World.cell?_setCell_far _ _ _ _ dS).trans ((World.cell?_setCell_far _ _ _ _ dS).trans (by assumption))));with_reducible exact((World.cell?_setCell_far _ _ _ _ dS).trans ((World.cell?_setCell_far _ _ _ _ dS).trans ((World.cell?_setCell_far _ _ _ _ dS).trans (by assumption))));with_reducible exact((World.cell?_setCell_far _ _ _ _ dS).trans ((World.cell?_setCell_far _ _ _ _ dS).trans ((World.cell?_setCell_far _ _ _ _ dS).trans (by assumption))));with_reducible exact((World.cell?_setCell_far _ _ _ _ dK).trans ((World.cell?_setCell_far _ _ _ _ dK).trans ((World.cell?_setCell_far _ _ _ _ dK).trans (by assumption))));with_reducible exact((World.cell?_setCell_far _ _ _ _ dK).trans ((World.cell?_setCell_far _ _ _ _ dK).trans ((World.cell?_setCell_far _ _ _ _ dK).trans (by assumption))));with_reducible exact((World.cell?_setCell_far _ _ _ _ dF).trans ((World.cell?_setCell_far _ _ _ _ dF).trans ((World.cell?_setCell_far _ _ _ _ dF).trans (by assumption))));with_reducible exact((World.cell?_setCell_far _ _ _ _ dF).trans ((World.cell?_setCell_far _ _ _ _ dF).trans ((World.cell?_setCell_far _ _ _ _ dF).trans (by assumption))));with_reducible exact((World.cell?_setCell_far _ _ _ _ dF).trans ((World.cell?_setCell_far _ _ _ _ dF).trans ((World.cell?_setCell_far _ _ _ _ dF).trans (by assumption))));with_reducible exact((World.cell?_setCell_far _ _ _ _ dF).trans ((World.cell?_setCell_far _ _ _ _ dF).trans ((World.cell?_setCell_far _ _ _ _ dF).trans (by assumption))));with_reducible exact Nat.lt_of_lt_of_le (by assumption) (Below.setCell (Below.setCell (Below.setCell (Below.refl 0 _) (Nat.zero_le _) _) (Nat.zero_le _) _) (Nat.zero_le _) _).size;with_reducible exact Nat.lt_of_lt_of_le (by assumption) (Below.setCell (Below.setCell (Below.setCell (Below.refl 0 _) (Nat.zero_le _) _) (Nat.zero_le _) _) (Nat.zero_le _) _).size;with_reducible exact Nat.lt_of_lt_of_le (by assumption) (Below.setCell (Below.setCell (Below.setCell (Below.refl 0 _) (Nat.zero_le _) _) (Nat.zero_le _) _) (Nat.zero_le _) _).size;with_reducible exact Nat.lt_of_lt_of_le (by assumption) (Below.setCell (Below.setCell (Below.setCell (Below.refl 0 _) (Nat.zero_le _) _) (Nat.zero_le _) _) (Nat.zero_le _) _).size;with_reducible exact(cG (cG (cG (by assumption))));with_reducible exact(cG (cG (cG (by assumption))));with_reducible exact(cG (cG (cG (by assumption))));(simp only[World.frozen?_setCell];assumption);(simp only[World.frozen?_setCell];assumption);(simp only[World.frozen?_setCell];assumption);with_reducible exact(Below.setCell (Below.setCell (Below.setCell (by assumption) lR _) lR _) lR _))
   | (go_split_ands;refine⟨?_,?_,?_,?_,?_,?_,?_,?_,?_,?_,?_,?_,?_,?_,?_,?_,?_,?_,?_,?_,?_,?_,?_⟩;(iterate 12 (exact(hb5.cell (by assumption)).trans (by assumption)));(iterate 4 (exact Nat.lt_of_lt_of_le (by assumption) hb5.size));(iterate 3 (exact fC ((hb5.cell (by assumption)).trans (by assumption))));(iterate 3 (exact(World.frozen?_of_block (a:=_) (hb5.block R (by assumption))).trans (by assumption)));exact Below.trans (by assumption) (hb5.mono (by first |exact Nat.le_of_lt (by assumption) |exact Below.size (by assumption))))
   | (refine⟨?_,?_,?_,?_,?_,?_,?_,?_,?_,?_,?_,?_,?_,?_,?_,?_,?_,?_,?_,?_,?_,?_,?_⟩;(iterate 22 (assumption));exact Below.drew (by assumption))
   | (go_split_ands;refine⟨?_,?_,?_,?_,?_,?_,?_,?_,?_,?_,?_,?_,?_,?_,?_,?_,?_,?_,?_,?_,?_,?_,?_⟩;(iterate 12 (exact(World.cell?_alloc_lt _ _ _ (by assumption)).trans (by assumption)));(simp;omega);(simp;omega);(simp;omega);(simp;omega);(iterate 3 (exact fC ((World.cell?_alloc_lt _ _ _ (by assumption)).trans (by assumption))));(iterate 3 (exact(World.frozen?_of_block (a:=_) (((Below.refl _ _).alloc (Nat.le_refl _) _).block R (by assumption))).trans (by assumption)));exact Below.alloc (by assumption) (by first |exact Nat.le_of_lt (by assumption) |exact Below.size (by assumption)) _)
   | (go_split_ands;refine⟨?_,?_,?_,?_,?_,?_,?_,?_,?_,?_,?_,?_,?_,?_,?_,?_,?_,?_,?_,?_,?_,?_,?_⟩;(iterate 22 (assumption));assumption)
   |go_keep)
  ((first
    | (go_at_call 163
       go_split_ands
       with_reducible refine(M.out _).mono ?_
       rintro e5 w5 ⟨rfl,hb5⟩)
    | (go_at_call 162
       go_split_ands
       with_reducible refine(pn 12 6 _ _ ?_).mono ?_
       ·decide
       rintro e5 w5 ⟨rfl,hb5⟩)
    | (go_at_call 162
       go_split_ands
       with_reducible refine(pn 0 12 _ _ ?_).mono ?_
       ·decide
       rintro e5 w5 ⟨rfl,hb5⟩)))
 all_goals
  go_split_ands
  go_wp2_with fail
  have T:=qP (R:=R) (by assumption) (by assumption) (by assumption)
  obtain ⟨t0,t1,t2⟩:=T
  refine cV (fun w9=>w9.cell? ⟨R,0,none⟩=some (.int .i64 e)∧w9.cell? ⟨R,1,none⟩=some (.int .i64 (xr (x%64) (W7 k kd f 64 e%64)))∧w9.cell? ⟨R,2,none⟩=some (.int .i64 (W7 k kd f x e%4096))∧Below S w w9) ⟨t0,t1.trans (by rw[hx.out]),t2.trans (by rw[hy.out]),by assumption⟩ ?_
  clear t0 t1 t2
  rintro w9 ⟨t0,t1,t2,lS⟩
  refine bodyPost_ret (v:=.agg #[e,.int .i64 (xr (x%64) (W7 k kd f 64 e%64)),.int .i64 (W7 k kd f x e%4096)]) (by simp[results,Tryz.results133,go_sem,t0,t1,t2]) rfl ⟨rfl,?_⟩
  rw[hK]
  exact lS
set_option maxHeartbeats 8000000 in
theorem EA (k:Ky)(kd:Int)(f:Fl)(x e:Int)(hf:f.I)(hk:dW kd)(hx:dW x)(he:dW e)(w:World) :
 Calls Tryz.prog 133 #[mV 256,eO k,kd,ff f,x,e] w fun e' w'=>e' =.returned (kI e (xr (x%64) (W7 k kd f 64 e%64)) (W7 k kd f x e%256))∧Below w.heap.size w w':=by
 have hI:=pV hf hk hx he
 rw[oN]
 unfold eO ff kI
 go_enter Tryz.func133,Tryz.ntmps133
 go_wp2_with fail
 have dS:w.heap.size+1+1+1≠w.heap.size:=by omega
 have dK:w.heap.size+1+1+1≠w.heap.size+1:=by omega
 have dF:w.heap.size+1+1+1≠w.heap.size+1+1:=by omega
 have lR:w.heap.size≤w.heap.size+1+1+1:=by omega
 have CS:=Ce.made (w:=w) (l:=[.int .u64 14,.int .u64 2,.int .u64 8,.int .u64 6,.int .u64 0,.int .u64 8]) (T:=194) (g:=w.heap.size) rfl
 replace CS:=CS.alloc (.cells #[.int .u64 k.a,.int .u64 k.b] 30)
 have CK:=Ce.made (w:=(w.alloc (.cells #[.int .u64 14,.int .u64 2,.int .u64 8,.int .u64 6,.int .u64 0,.int .u64 8] 194))) (l:=[.int .u64 k.a,.int .u64 k.b]) (T:=30) (g:=w.heap.size+1) (by simp)
 replace CS:=CS.alloc (.cells #[f.a,f.p,f.ta,f.tp] 141)
 replace CK:=CK.alloc (.cells #[f.a,f.p,f.ta,f.tp] 141)
 have CF:=Ce.made (w:=((w.alloc (.cells #[.int .u64 14,.int .u64 2,.int .u64 8,.int .u64 6,.int .u64 0,.int .u64 8] 194)).alloc (.cells #[.int .u64 k.a,.int .u64 k.b] 30))) (l:=[f.a,f.p,f.ta,f.tp]) (T:=141) (g:=w.heap.size+1+1) (by simp)
 replace CS:=CS.alloc (.cells #[(),(),()] 198)
 replace CK:=CK.alloc (.cells #[(),(),()] 198)
 replace CF:=CF.alloc (.cells #[(),(),()] 198)
 have CR:=Ce.made (w:=(((w.alloc (.cells #[.int .u64 14,.int .u64 2,.int .u64 8,.int .u64 6,.int .u64 0,.int .u64 8] 194)).alloc (.cells #[.int .u64 k.a,.int .u64 k.b] 30)).alloc (.cells #[f.a,f.p,f.ta,f.tp] 141))) (l:=[(),(),()]) (T:=198) (g:=w.heap.size+1+1+1) (by simp)
 replace CS:=CS.alloc (.cells #[kd,f.a,f.p,f.ta,f.tp,x,e] 3)
 replace CK:=CK.alloc (.cells #[kd,f.a,f.p,f.ta,f.tp,x,e] 3)
 replace CF:=CF.alloc (.cells #[kd,f.a,f.p,f.ta,f.tp,x,e] 3)
 replace CR:=CR.alloc (.cells #[kd,f.a,f.p,f.ta,f.tp,x,e] 3)
 have CX:=Ce.made (w:=((((w.alloc (.cells #[.int .u64 14,.int .u64 2,.int .u64 8,.int .u64 6,.int .u64 0,.int .u64 8] 194)).alloc (.cells #[.int .u64 k.a,.int .u64 k.b] 30)).alloc (.cells #[f.a,f.p,f.ta,f.tp] 141)).alloc (.cells #[(),(),()] 198))) (l:=[kd,f.a,f.p,f.ta,f.tp,x,e]) (T:=3) (g:=w.heap.size+1+1+1+1) (by simp)
 have B:Below w.heap.size w (((((w.alloc (.cells #[.int .u64 14,.int .u64 2,.int .u64 8,.int .u64 6,.int .u64 0,.int .u64 8] 194)).alloc (.cells #[.int .u64 k.a,.int .u64 k.b] 30)).alloc (.cells #[f.a,f.p,f.ta,f.tp] 141)).alloc (.cells #[(),(),()] 198)).alloc (.cells #[kd,f.a,f.p,f.ta,f.tp,x,e] 3)):=((((((Below.refl w.heap.size w).alloc (by first |exact Nat.le_refl _ | (simp;done) | (simp;omega)) (.cells #[.int .u64 14,.int .u64 2,.int .u64 8,.int .u64 6,.int .u64 0,.int .u64 8] 194)).alloc (by first |exact Nat.le_refl _ | (simp;done) | (simp;omega)) (.cells #[.int .u64 k.a,.int .u64 k.b] 30)).alloc (by first |exact Nat.le_refl _ | (simp;done) | (simp;omega)) (.cells #[f.a,f.p,f.ta,f.tp] 141)).alloc (by first |exact Nat.le_refl _ | (simp;done) | (simp;omega)) (.cells #[(),(),()] 198)).alloc (by first |exact Nat.le_refl _ | (simp;done) | (simp;omega)) (.cells #[kd,f.a,f.p,f.ta,f.tp,x,e] 3))
 generalize ((((w.alloc (.cells #[.int .u64 14,.int .u64 2,.int .u64 8,.int .u64 6,.int .u64 0,.int .u64 8] 194)).alloc (.cells #[.int .u64 k.a,.int .u64 k.b] 30)).alloc (.cells #[f.a,f.p,f.ta,f.tp] 141)).alloc (.cells #[(),(),()] 198)).alloc (.cells #[kd,f.a,f.p,f.ta,f.tp,x,e] 3)=w1 at *
 generalize w.heap.size+1+1+1+1=X at *
 generalize w.heap.size+1+1+1=R at *
 generalize w.heap.size+1+1=F at *
 generalize w.heap.size+1=K at *
 generalize hK:w.heap.size=S at *
 refine(uU (mn k.a k.b (some ⟨X,0,none⟩) 7 7 _ w1 (Ce.sl [kd,f.a,f.p,f.ta,f.tp,x,e] CX) hI (by omega)) (show _=W7 k kd f x e from rfl)).mono ?_
 rintro e' w2 ⟨rfl,hb⟩
 replace B:=B.trans (hb.mono (Nat.le_of_lt CS.1))
 replace CS:=CS.below hb
 replace CK:=CK.below hb
 replace CF:=CF.below hb
 replace CR:=CR.below hb
 clear CX hb
 obtain ⟨kS,qS,zS⟩:=CS
 have eE:=qS 0 _ rfl
 have eD:=qS 1 _ rfl
 have cS2:=qS 2 _ rfl
 have eC:=qS 3 _ rfl
 have eV:=qS 4 _ rfl
 have eU:=qS 5 _ rfl
 clear qS zS
 obtain ⟨kK,qK,zK⟩:=CK
 have py:=qK 0 _ rfl
 have px:=qK 1 _ rfl
 clear qK zK
 obtain ⟨kF,qF,zF⟩:=CF
 have bL:=qF 0 _ rfl
 have bK:=qF 1 _ rfl
 have bJ:=qF 2 _ rfl
 have bI:=qF 3 _ rfl
 clear qF zF
 obtain ⟨kR,qR,zR⟩:=CR
 have mI:=qR 0 _ rfl
 have mH:=qR 1 _ rfl
 have mG:=qR 2 _ rfl
 have GC:=zR 0
 have GB:=zR 1
 have GA:=zR 2
 clear qR zR
 have hx:Hid (bits .xor .i64 x (wrap64 (W7 k kd f 64 e))%64=xr (x%64) (W7 k kd f 64 e%64)):=by
  unfold Hid
  rw[ui,show wrap64 (W7 k kd f 64 e)%64=W7 k kd f 64 e%64 from sA _ 6 (by omega)]
 have hy:Hid (IntKind.i64.wrap (W7 k kd f x e)%256=W7 k kd f x e%256):=nB _ 8 (by omega)
 have M:=rb k kd f e hf hk he
 unfold eO ff at M
 replace M:=hid M
 go_wp2_with fail
 replace mI:=fC mI
 replace mH:=fC mH
 replace mG:=fC mG
 go_region_held3 (fun w'=>w'.cell? ⟨S,0,none⟩=some (.int .u64 14)∧w'.cell? ⟨S,1,none⟩=some (.int .u64 2)∧w'.cell? ⟨S,2,none⟩=some (.int .u64 8)∧w'.cell? ⟨S,3,none⟩=some (.int .u64 6)∧w'.cell? ⟨S,4,none⟩=some (.int .u64 0)∧w'.cell? ⟨S,5,none⟩=some (.int .u64 8)∧w'.cell? ⟨K,0,none⟩=some (.int .u64 k.a)∧w'.cell? ⟨K,1,none⟩=some (.int .u64 k.b)∧w'.cell? ⟨F,0,none⟩=some (.int .i64 f.a)∧w'.cell? ⟨F,1,none⟩=some (.int .i64 f.p)∧w'.cell? ⟨F,2,none⟩=some (.int .i64 f.ta)∧w'.cell? ⟨F,3,none⟩=some (.int .i64 f.tp)∧S<w'.heap.size∧K<w'.heap.size∧F<w'.heap.size∧R<w'.heap.size∧w'.cell? ⟨R,0,none⟩=some (cv w' R 0)∧w'.cell? ⟨R,1,none⟩=some (cv w' R 1)∧w'.cell? ⟨R,2,none⟩=some (cv w' R 2)∧w'.frozen? ⟨R,0,none⟩=false∧w'.frozen? ⟨R,1,none⟩=false∧w'.frozen? ⟨R,2,none⟩=false∧Below S w w')
  (first
   | (go_split_ands;refine⟨?_,?_,?_,?_,?_,?_,?_,?_,?_,?_,?_,?_,?_,?_,?_,?_,?_,?_,?_,?_,?_,?_,?_⟩;with_reducible exact((World.cell?_setCell_far _ _ _ _ dS).trans ((World.cell?_setCell_far _ _ _ _ dS).trans ((World.cell?_setCell_far _ _ _ _ dS).trans (by assumption))));with_reducible exact((World.cell?_setCell_far _ _ _ _ dS).trans ((World.cell?_setCell_far _ _ _ _ dS).trans ((World.cell?_setCell_far _ _ _ _ dS).trans (by assumption))));with_reducible exact((World.cell?_setCell_far _ _ _ _ dS).trans ((World.cell?_setCell_far _ _ _ _ dS).trans ((World.cell?_setCell_far _ _ _ _ dS).trans (by assumption))));with_reducible exact((World.cell?_setCell_far _ _ _ _ dS).trans ((World.cell?_setCell_far _ _ _ _ dS).trans ((World.cell?_setCell_far _ _ _ _ dS).trans (by assumption))));with_reducible exact((World.cell?_setCell_far _ _ _ _ dS).trans ((World.cell?_setCell_far _ _ _ _ dS).trans ((World.cell?_setCell_far _ _ _ _ dS).trans (by assumption))));with_reducible exact((World.cell?_setCell_far _ _ _ _ dS).trans ((World.cell?_setCell_far _ _ _ _ dS).trans ((World.cell?_setCell_far _ _ _ _ dS).trans (by assumption))));with_reducible exact((World.cell?_setCell_far _ _ _ _ dK).trans ((World.cell?_setCell_far _ _ _ _ dK).trans ((World.cell?_setCell_far _ _ _ _ dK).trans (by assumption))));with_reducible exact((World.cell?_setCell_far _ _ _ _ dK).trans ((World.cell?_setCell_far _ _ _ _ dK).trans ((World.cell?_setCell_far _ _ _ _ dK).trans (by assumption))));with_reducible exact((World.cell?_setCell_far _ _ _ _ dF).trans ((World.cell?_setCell_far _ _ _ _ dF).trans ((World.cell?_setCell_far _ _ _ _ dF).trans (by assumption))));with_reducible exact((World.cell?_setCell_far _ _ _ _ dF).trans ((World.cell?_setCell_far _ _ _ _ dF).trans ((World.cell?_setCell_far _ _ _ _ dF).trans (by assumption))));with_reducible exact((World.cell?_setCell_far _ _ _ _ dF).trans ((World.cell?_setCell_far _ _ _ _ dF).trans ((World.cell?_setCell_far _ _ _ _ dF).trans (by assumption))));with_reducible exact((World.cell?_setCell_far _ _ _ _ dF).trans ((World.cell?_setCell_far _ _ _ _ dF).trans ((World.cell?_setCell_far _ _ _ _ dF).trans (by assumption))));with_reducible exact Nat.lt_of_lt_of_le (by assumption) (Below.setCell (Below.setCell (Below.setCell (Below.refl 0 _) (Nat.zero_le _) _) (Nat.zero_le _) _) (Nat.zero_le _) _).size;with_reducible exact Nat.lt_of_lt_of_le (by assumption) (Below.setCell (Below.setCell (Below.setCell (Below.refl 0 _) (Nat.zero_le _) _) (Nat.zero_le _) _) (Nat.zero_le _) _).size;with_reducible exact Nat.lt_of_lt_of_le (by assumption) (Below.setCell (Below.setCell (Below.setCell (Below.refl 0 _) (Nat.zero_le _) _) (Nat.zero_le _) _) (Nat.zero_le _) _).size;with_reducible exact Nat.lt_of_lt_of_le (by assumption) (Below.setCell (Below.setCell (Below.setCell (Below.refl 0 _) (Nat.zero_le _) _) (Nat.zero_le _) _) (Nat.zero_le _) _).size;with_reducible exact(cG (cG (cG (by assumption))));with_reducible exact(cG (cG (cG (by assumption))));with_reducible exact(cG (cG (cG (by assumption))));(simp only[World.frozen?_setCell];assumption);(simp only[World.frozen?_setCell];assumption);(simp only[World.frozen?_setCell];assumption);with_reducible exact(Below.setCell (Below.setCell (Below.setCell (by assumption) lR _) lR _) lR _))
   | (go_split_ands;refine⟨?_,?_,?_,?_,?_,?_,?_,?_,?_,?_,?_,?_,?_,?_,?_,?_,?_,?_,?_,?_,?_,?_,?_⟩;(iterate 12 (exact(hb5.cell (by assumption)).trans (by assumption)));(iterate 4 (exact Nat.lt_of_lt_of_le (by assumption) hb5.size));(iterate 3 (exact fC ((hb5.cell (by assumption)).trans (by assumption))));(iterate 3 (exact(World.frozen?_of_block (a:=_) (hb5.block R (by assumption))).trans (by assumption)));exact Below.trans (by assumption) (hb5.mono (by first |exact Nat.le_of_lt (by assumption) |exact Below.size (by assumption))))
   | (refine⟨?_,?_,?_,?_,?_,?_,?_,?_,?_,?_,?_,?_,?_,?_,?_,?_,?_,?_,?_,?_,?_,?_,?_⟩;(iterate 22 (assumption));exact Below.drew (by assumption))
   | (go_split_ands;refine⟨?_,?_,?_,?_,?_,?_,?_,?_,?_,?_,?_,?_,?_,?_,?_,?_,?_,?_,?_,?_,?_,?_,?_⟩;(iterate 12 (exact(World.cell?_alloc_lt _ _ _ (by assumption)).trans (by assumption)));(simp;omega);(simp;omega);(simp;omega);(simp;omega);(iterate 3 (exact fC ((World.cell?_alloc_lt _ _ _ (by assumption)).trans (by assumption))));(iterate 3 (exact(World.frozen?_of_block (a:=_) (((Below.refl _ _).alloc (Nat.le_refl _) _).block R (by assumption))).trans (by assumption)));exact Below.alloc (by assumption) (by first |exact Nat.le_of_lt (by assumption) |exact Below.size (by assumption)) _)
   | (go_split_ands;refine⟨?_,?_,?_,?_,?_,?_,?_,?_,?_,?_,?_,?_,?_,?_,?_,?_,?_,?_,?_,?_,?_,?_,?_⟩;(iterate 22 (assumption));assumption)
   |go_keep)
  ((first
    | (go_at_call 163
       go_split_ands
       with_reducible refine(M.out _).mono ?_
       rintro e5 w5 ⟨rfl,hb5⟩)
    | (go_at_call 162
       go_split_ands
       with_reducible refine(pn 8 6 _ _ ?_).mono ?_
       ·decide
       rintro e5 w5 ⟨rfl,hb5⟩)
    | (go_at_call 162
       go_split_ands
       with_reducible refine(pn 0 8 _ _ ?_).mono ?_
       ·decide
       rintro e5 w5 ⟨rfl,hb5⟩)))
 all_goals
  go_split_ands
  go_wp2_with fail
  have T:=qP (R:=R) (by assumption) (by assumption) (by assumption)
  obtain ⟨t0,t1,t2⟩:=T
  refine cV (fun w9=>w9.cell? ⟨R,0,none⟩=some (.int .i64 e)∧w9.cell? ⟨R,1,none⟩=some (.int .i64 (xr (x%64) (W7 k kd f 64 e%64)))∧w9.cell? ⟨R,2,none⟩=some (.int .i64 (W7 k kd f x e%256))∧Below S w w9) ⟨t0,t1.trans (by rw[hx.out]),t2.trans (by rw[hy.out]),by assumption⟩ ?_
  clear t0 t1 t2
  rintro w9 ⟨t0,t1,t2,lS⟩
  refine bodyPost_ret (v:=.agg #[e,.int .i64 (xr (x%64) (W7 k kd f 64 e%64)),.int .i64 (W7 k kd f x e%256)]) (by simp[results,Tryz.results133,go_sem,t0,t1,t2]) rfl ⟨rfl,?_⟩
  rw[hK]
  exact lS
theorem sC (x:Int)(j:Nat)(hj:j≤62)(hx:U x):bits .and .u64 x (2^j-1)=x%2^j:=by
 obtain ⟨n,rfl⟩:=Int.eq_ofNat_of_zero_le hx.1
 have hn:n<2^64:=by have:=hx.2;omega
 have hp:(2:Nat)^j≤2^62:=Nat.pow_le_pow_right (by omega) hj
 have h0:=Nat.two_pow_pos j
 have e:((2:Int)^j-1)=((2^j-1:Nat):Int):=by
  have:(((2^j:Nat)):Int)=2^j:=by simp
  omega
 rw[e]
 show IntKind.u64.wrap ((BitVec.ofInt 64 (n:Int) &&& BitVec.ofInt 64 ((2^j-1:Nat):Int)).toNat:Int)=_
 rw[BitVec.toNat_and,BitVec.ofInt_natCast,BitVec.ofInt_natCast,BitVec.toNat_ofNat,BitVec.toNat_ofNat,Nat.mod_eq_of_lt hn,Nat.mod_eq_of_lt (by omega),Nat.and_two_pow_sub_one_eq_mod,IntKind.wrap_u64]
 have h2:n%2^j<2^j:=Nat.mod_lt _ h0
 have h3:(((2^j:Nat)):Int)=2^j:=by simp
 rw[←h3]
 omega
theorem pT (s m:Int)(hs:0≤s∧s<64)(hm:0≤m∧m<64):bits .xor .i64 s m=xr s m:=by
 have h1:=ui s m
 have h2:=jD s m hs hm
 have h3:0≤bits .xor .i64 s m∧bits .xor .i64 s m<64:=by
  obtain ⟨a,rfl⟩:=Int.eq_ofNat_of_zero_le hs.1
  obtain ⟨b,rfl⟩:=Int.eq_ofNat_of_zero_le hm.1
  have h4:a ^^^ b<2^6:=Nat.xor_lt_two_pow (by omega) (by omega)
  have h5:bits .xor .i64 (a:Int) (b:Int)=((a ^^^ b:Nat):Int):=by
   show IntKind.i64.wrap ((BitVec.ofInt 64 (a:Int) ^^^ BitVec.ofInt 64 (b:Int)).toNat:Int)=_
   rw[BitVec.toNat_xor,BitVec.ofInt_natCast,BitVec.ofInt_natCast,BitVec.toNat_ofNat,BitVec.toNat_ofNat,Nat.mod_eq_of_lt (by omega),Nat.mod_eq_of_lt (by omega),IntKind.wrap_i64]
   omega
  rw[h5]
  omega
 rw[show s%64=s from by omega,show m%64=m from by omega]at h1
 omega
theorem Jv (c:Int)(w:World) :
 Calls Tryz.prog 160 #[mV 4096,c] w fun e' w'=>e' =.returned (kI (c/(64*4096)%4) (c/4096%64) (c%4096))∧Below w.heap.size w w':=by
 rw[oO]
 unfold kI
 go_enter Tryz.func160,Tryz.ntmps160
 go_wp2_with fail
 have dS:w.heap.size+1≠w.heap.size:=by omega
 have lR:w.heap.size≤w.heap.size+1:=by omega
 have CS:=Ce.made (w:=w) (l:=[.int .u64 18,.int .u64 2,.int .u64 12,.int .u64 6,.int .u64 0,.int .u64 12]) (T:=194) (g:=w.heap.size) rfl
 replace CS:=CS.alloc (.cells #[(),(),()] 198)
 have CR:=Ce.made (w:=(w.alloc (.cells #[.int .u64 18,.int .u64 2,.int .u64 12,.int .u64 6,.int .u64 0,.int .u64 12] 194))) (l:=[(),(),()]) (T:=198) (g:=w.heap.size+1) (by simp)
 have B:Below w.heap.size w ((w.alloc (.cells #[.int .u64 18,.int .u64 2,.int .u64 12,.int .u64 6,.int .u64 0,.int .u64 12] 194)).alloc (.cells #[(),(),()] 198)):=(((Below.refl w.heap.size w).alloc (by first |exact Nat.le_refl _ | (simp;done) | (simp;omega)) (.cells #[.int .u64 18,.int .u64 2,.int .u64 12,.int .u64 6,.int .u64 0,.int .u64 12] 194)).alloc (by first |exact Nat.le_refl _ | (simp;done) | (simp;omega)) (.cells #[(),(),()] 198))
 generalize (w.alloc (.cells #[.int .u64 18,.int .u64 2,.int .u64 12,.int .u64 6,.int .u64 0,.int .u64 12] 194)).alloc (.cells #[(),(),()] 198)=w1 at *
 generalize w.heap.size+1=R at *
 generalize hK:w.heap.size=S at *
 obtain ⟨kS,qS,zS⟩:=CS
 have eE:=qS 0 _ rfl
 have eD:=qS 1 _ rfl
 have cS2:=qS 2 _ rfl
 have eC:=qS 3 _ rfl
 have eV:=qS 4 _ rfl
 have eU:=qS 5 _ rfl
 clear qS zS
 obtain ⟨kR,qR,zR⟩:=CR
 have mI:=qR 0 _ rfl
 have mH:=qR 1 _ rfl
 have mG:=qR 2 _ rfl
 have GC:=zR 0
 have GB:=zR 1
 have GA:=zR 2
 clear qR zR
 replace mI:=fC mI
 replace mH:=fC mH
 replace mG:=fC mG
 go_region_held3 (fun w'=>w'.cell? ⟨S,0,none⟩=some (.int .u64 18)∧w'.cell? ⟨S,1,none⟩=some (.int .u64 2)∧w'.cell? ⟨S,2,none⟩=some (.int .u64 12)∧w'.cell? ⟨S,3,none⟩=some (.int .u64 6)∧w'.cell? ⟨S,4,none⟩=some (.int .u64 0)∧w'.cell? ⟨S,5,none⟩=some (.int .u64 12)∧S<w'.heap.size∧R<w'.heap.size∧w'.cell? ⟨R,0,none⟩=some (cv w' R 0)∧w'.cell? ⟨R,1,none⟩=some (cv w' R 1)∧w'.cell? ⟨R,2,none⟩=some (cv w' R 2)∧w'.frozen? ⟨R,0,none⟩=false∧w'.frozen? ⟨R,1,none⟩=false∧w'.frozen? ⟨R,2,none⟩=false∧Below S w w')
  (first
   | (go_split_ands;refine⟨?_,?_,?_,?_,?_,?_,?_,?_,?_,?_,?_,?_,?_,?_,?_⟩;with_reducible exact((World.cell?_setCell_far _ _ _ _ dS).trans ((World.cell?_setCell_far _ _ _ _ dS).trans ((World.cell?_setCell_far _ _ _ _ dS).trans (by assumption))));with_reducible exact((World.cell?_setCell_far _ _ _ _ dS).trans ((World.cell?_setCell_far _ _ _ _ dS).trans ((World.cell?_setCell_far _ _ _ _ dS).trans (by assumption))));with_reducible exact((World.cell?_setCell_far _ _ _ _ dS).trans ((World.cell?_setCell_far _ _ _ _ dS).trans ((World.cell?_setCell_far _ _ _ _ dS).trans (by assumption))));with_reducible exact((World.cell?_setCell_far _ _ _ _ dS).trans ((World.cell?_setCell_far _ _ _ _ dS).trans ((World.cell?_setCell_far _ _ _ _ dS).trans (by assumption))));with_reducible exact((World.cell?_setCell_far _ _ _ _ dS).trans ((World.cell?_setCell_far _ _ _ _ dS).trans ((World.cell?_setCell_far _ _ _ _ dS).trans (by assumption))));with_reducible exact((World.cell?_setCell_far _ _ _ _ dS).trans ((World.cell?_setCell_far _ _ _ _ dS).trans ((World.cell?_setCell_far _ _ _ _ dS).trans (by assumption))));with_reducible exact Nat.lt_of_lt_of_le (by assumption) (Below.setCell (Below.setCell (Below.setCell (Below.refl 0 _) (Nat.zero_le _) _) (Nat.zero_le _) _) (Nat.zero_le _) _).size;with_reducible exact Nat.lt_of_lt_of_le (by assumption) (Below.setCell (Below.setCell (Below.setCell (Below.refl 0 _) (Nat.zero_le _) _) (Nat.zero_le _) _) (Nat.zero_le _) _).size;with_reducible exact(cG (cG (cG (by assumption))));with_reducible exact(cG (cG (cG (by assumption))));with_reducible exact(cG (cG (cG (by assumption))));(simp only[World.frozen?_setCell];assumption);(simp only[World.frozen?_setCell];assumption);(simp only[World.frozen?_setCell];assumption);with_reducible exact(Below.setCell (Below.setCell (Below.setCell (by assumption) lR _) lR _) lR _))
   | (go_split_ands;refine⟨?_,?_,?_,?_,?_,?_,?_,?_,?_,?_,?_,?_,?_,?_,?_⟩;(iterate 6 (exact(hb5.cell (by assumption)).trans (by assumption)));exact Nat.lt_of_lt_of_le (by assumption) hb5.size;exact Nat.lt_of_lt_of_le (by assumption) hb5.size;(iterate 3 (exact fC ((hb5.cell (by assumption)).trans (by assumption))));(iterate 3 (exact(World.frozen?_of_block (a:=_) (hb5.block R (by assumption))).trans (by assumption)));exact Below.trans (by assumption) (hb5.mono (by first |exact Nat.le_of_lt (by assumption) |exact Below.size (by assumption))))
   | (refine⟨?_,?_,?_,?_,?_,?_,?_,?_,?_,?_,?_,?_,?_,?_,?_⟩;(iterate 14 (assumption));exact Below.drew (by assumption))
   | (go_split_ands;refine⟨?_,?_,?_,?_,?_,?_,?_,?_,?_,?_,?_,?_,?_,?_,?_⟩;(iterate 6 (exact(World.cell?_alloc_lt _ _ _ (by assumption)).trans (by assumption)));(simp;omega);(simp;omega);(iterate 3 (exact fC ((World.cell?_alloc_lt _ _ _ (by assumption)).trans (by assumption))));(iterate 3 (exact(World.frozen?_of_block (a:=_) (((Below.refl _ _).alloc (Nat.le_refl _) _).block R (by assumption))).trans (by assumption)));exact Below.alloc (by assumption) (by first |exact Nat.le_of_lt (by assumption) |exact Below.size (by assumption)) _)
   | (go_split_ands;refine⟨?_,?_,?_,?_,?_,?_,?_,?_,?_,?_,?_,?_,?_,?_,?_⟩;(iterate 14 (assumption));assumption)
   |go_keep)
  ((first
    | (go_at_call 181
       go_split_ands
       with_reducible refine(xh 18 2 _ _ ?_).mono ?_
       ·decide
       rintro e5 w5 ⟨rfl,hb5⟩)
    | (go_at_call 181
       go_split_ands
       with_reducible refine(xh 12 6 _ _ ?_).mono ?_
       ·decide
       rintro e5 w5 ⟨rfl,hb5⟩)
    | (go_at_call 181
       go_split_ands
       with_reducible refine(xh 0 12 _ _ ?_).mono ?_
       ·decide
       rintro e5 w5 ⟨rfl,hb5⟩)))
 all_goals
  go_split_ands
  go_wp2_with fail
  have T:=qP (R:=R) (by assumption) (by assumption) (by assumption)
  obtain ⟨t0,t1,t2⟩:=T
  refine cV (fun w9=>w9.cell? ⟨R,0,none⟩=some (.int .i64 (c/(64*4096)%4))∧w9.cell? ⟨R,1,none⟩=some (.int .i64 (c/4096%64))∧w9.cell? ⟨R,2,none⟩=some (.int .i64 (c%4096))∧Below S w w9) ⟨t0.trans (by simp),t1.trans (by simp),t2.trans (by simp),by assumption⟩ ?_
  clear t0 t1 t2
  rintro w9 ⟨t0,t1,t2,lS⟩
  refine bodyPost_ret (v:=.agg #[.int .i64 (c/(64*4096)%4),.int .i64 (c/4096%64),.int .i64 (c%4096)]) (by simp[results,Tryz.results160,go_sem,t0,t1,t2]) rfl ⟨rfl,?_⟩
  rw[hK]
  exact lS
theorem qXW{P:Prop}(h:P:=by
 rintro e' w2 ⟨rfl,rfl⟩
 obtain ⟨kK,qK,zK⟩:=id CK
 have py:=qK 0 _ rfl
 have px:=qK 1 _ rfl
 obtain ⟨kF,qF,zF⟩:=id CF
 have bL:=qF 0 _ rfl
 have bK:=qF 1 _ rfl
 have bJ:=qF 2 _ rfl
 have bI:=qF 3 _ rfl
 clear qK qF zK zF
 go_wp2_with fail
 refine(W1.out _).mono ?_
 rintro e' w2 ⟨rfl,hb⟩
 clear py px bL bK bJ bI
 replace B:=B.trans (hb.mono (Nat.le_of_lt kK))
 replace CK:=CK.below hb
 replace CF:=CF.below hb
 obtain ⟨kK,qK,zK⟩:=CK
 have py:=qK 0 _ rfl
 have px:=qK 1 _ rfl
 obtain ⟨kF,qF,zF⟩:=CF
 have bL:=qF 0 _ rfl
 have bK:=qF 1 _ rfl
 have bJ:=qF 2 _ rfl
 have bI:=qF 3 _ rfl
 clear qK qF zK zF
 go_wp2_with fail
 refine(W2.out _).mono ?_
 rintro e' w3 ⟨rfl,hb3⟩
 replace B:=B.trans (hb3.mono (Nat.le_of_lt kK))
 go_wp2_with fail
 go_ret
 refine⟨bp (hfin.out.trans hc.out),?_⟩
 rw[hK]
 exact B
 ):P:=h
theorem ES (k:Ky)(kd:Int)(f:Fl)(x e:Int)(hf:f.I)(hk:kd=1)(hx:0≤x∧x<64)(he:0≤e∧e<4)(w:World) :
 Calls Tryz.prog 113 #[eO k,kd,ff f,x,e] w fun e' w'=>e' =.returned (.int .i64 (ix 4096 k kd f x e))∧Below w.heap.size w w':=by
 have ja:dW kd:=by subst hk;exact⟨by omega,by omega⟩
 have W1:=fun w=>j_ k kd f 64 e hf ja ⟨by omega,by omega⟩ ⟨by omega,by omega⟩ w
 have W2:=fun w=>j_ k kd f x e hf ja ⟨by omega,by omega⟩ ⟨by omega,by omega⟩ w
 have u1:=ti k kd f 64 e
 have u2:=ti k kd f x e
 have hc:Hid (e*(64*4096)+xr x (W7 k kd f 64 e%64)*4096+W7 k kd f x e%4096=ix 4096 k kd f x e):=rfl
 subst hk
 unfold eO ff at *
 generalize W7 k 1 f 64 e=a at *
 generalize W7 k 1 f x e=b at *
 have ha:=sC a 6 (by omega) u1
 have hb:=sC b 12 (by omega) u2
 change bits .and .u64 a 63=a%64 at ha
 change bits .and .u64 b 4095=b%4096 at hb
 have N2:=pT x (a%64) hx (by omega)
 have hm:=jD x (a%64) hx (by omega)
 generalize hmm:xr x (a%64)=m at *
 clear hmm
 obtain ⟨hx1,hx2⟩:=hx
 obtain ⟨he1,he2⟩:=he
 obtain ⟨hm1,hm2⟩:=hm
 obtain ⟨rs,uD⟩:=u1
 obtain ⟨u21,u22⟩:=u2
 have hfin:Hid (bits .or .i64 (bits .or .i64 (e*262144) (m*4096)) (b%4096)=e*(64*4096)+m*4096+b%4096):=by
  have:=GR e m (b%4096) (by omega) (by omega) (by omega)
  rwa [show e%4=e from by omega,show m%64=m from by omega,show b%4096%4096=b%4096 from by omega]at this
 replace W1:=hid W1
 replace W2:=hid W2
 go_enter Tryz.func113,Tryz.ntmps113
 go_wp2_with fail
 have CK:=Ce.made (w:=w) (l:=[.int .u64 k.a,.int .u64 k.b]) (T:=30) (g:=w.heap.size) rfl
 replace CK:=CK.alloc (.cells #[f.a,f.p,f.ta,f.tp] 141)
 have CF:=Ce.made (w:=(w.alloc (.cells #[.int .u64 k.a,.int .u64 k.b] 30))) (l:=[f.a,f.p,f.ta,f.tp]) (T:=141) (g:=w.heap.size+1) (by simp)
 have B:Below w.heap.size w ((w.alloc (.cells #[.int .u64 k.a,.int .u64 k.b] 30)).alloc (.cells #[f.a,f.p,f.ta,f.tp] 141)):=(((Below.refl w.heap.size w).alloc (by first |exact Nat.le_refl _ | (simp;done) | (simp;omega)) (.cells #[.int .u64 k.a,.int .u64 k.b] 30)).alloc (by first |exact Nat.le_refl _ | (simp;done) | (simp;omega)) (.cells #[f.a,f.p,f.ta,f.tp] 141))
 generalize (w.alloc (.cells #[.int .u64 k.a,.int .u64 k.b] 30)).alloc (.cells #[f.a,f.p,f.ta,f.tp] 141)=w1 at *
 generalize w.heap.size+1=F at *
 generalize hK:w.heap.size=K at *
 refine(fI 1 4096 _ (by exact .inl ⟨rfl,rfl⟩)).mono ?_
 exact qXW
theorem Ju (c:Int)(w:World) :
 Calls Tryz.prog 160 #[mV 256,c] w fun e' w'=>e' =.returned (kI (c/(64*256)%4) (c/256%64) (c%256))∧Below w.heap.size w w':=by
 rw[oN]
 unfold kI
 go_enter Tryz.func160,Tryz.ntmps160
 go_wp2_with fail
 have dS:w.heap.size+1≠w.heap.size:=by omega
 have lR:w.heap.size≤w.heap.size+1:=by omega
 have CS:=Ce.made (w:=w) (l:=[.int .u64 14,.int .u64 2,.int .u64 8,.int .u64 6,.int .u64 0,.int .u64 8]) (T:=194) (g:=w.heap.size) rfl
 replace CS:=CS.alloc (.cells #[(),(),()] 198)
 have CR:=Ce.made (w:=(w.alloc (.cells #[.int .u64 14,.int .u64 2,.int .u64 8,.int .u64 6,.int .u64 0,.int .u64 8] 194))) (l:=[(),(),()]) (T:=198) (g:=w.heap.size+1) (by simp)
 have B:Below w.heap.size w ((w.alloc (.cells #[.int .u64 14,.int .u64 2,.int .u64 8,.int .u64 6,.int .u64 0,.int .u64 8] 194)).alloc (.cells #[(),(),()] 198)):=(((Below.refl w.heap.size w).alloc (by first |exact Nat.le_refl _ | (simp;done) | (simp;omega)) (.cells #[.int .u64 14,.int .u64 2,.int .u64 8,.int .u64 6,.int .u64 0,.int .u64 8] 194)).alloc (by first |exact Nat.le_refl _ | (simp;done) | (simp;omega)) (.cells #[(),(),()] 198))
 generalize (w.alloc (.cells #[.int .u64 14,.int .u64 2,.int .u64 8,.int .u64 6,.int .u64 0,.int .u64 8] 194)).alloc (.cells #[(),(),()] 198)=w1 at *
 generalize w.heap.size+1=R at *
 generalize hK:w.heap.size=S at *
 obtain ⟨kS,qS,zS⟩:=CS
 have eE:=qS 0 _ rfl
 have eD:=qS 1 _ rfl
 have cS2:=qS 2 _ rfl
 have eC:=qS 3 _ rfl
 have eV:=qS 4 _ rfl
 have eU:=qS 5 _ rfl
 clear qS zS
 obtain ⟨kR,qR,zR⟩:=CR
 have mI:=qR 0 _ rfl
 have mH:=qR 1 _ rfl
 have mG:=qR 2 _ rfl
 have GC:=zR 0
 have GB:=zR 1
 have GA:=zR 2
 clear qR zR
 replace mI:=fC mI
 replace mH:=fC mH
 replace mG:=fC mG
 go_region_held3 (fun w'=>w'.cell? ⟨S,0,none⟩=some (.int .u64 14)∧w'.cell? ⟨S,1,none⟩=some (.int .u64 2)∧w'.cell? ⟨S,2,none⟩=some (.int .u64 8)∧w'.cell? ⟨S,3,none⟩=some (.int .u64 6)∧w'.cell? ⟨S,4,none⟩=some (.int .u64 0)∧w'.cell? ⟨S,5,none⟩=some (.int .u64 8)∧S<w'.heap.size∧R<w'.heap.size∧w'.cell? ⟨R,0,none⟩=some (cv w' R 0)∧w'.cell? ⟨R,1,none⟩=some (cv w' R 1)∧w'.cell? ⟨R,2,none⟩=some (cv w' R 2)∧w'.frozen? ⟨R,0,none⟩=false∧w'.frozen? ⟨R,1,none⟩=false∧w'.frozen? ⟨R,2,none⟩=false∧Below S w w')
  (first
   | (go_split_ands;refine⟨?_,?_,?_,?_,?_,?_,?_,?_,?_,?_,?_,?_,?_,?_,?_⟩;with_reducible exact((World.cell?_setCell_far _ _ _ _ dS).trans ((World.cell?_setCell_far _ _ _ _ dS).trans ((World.cell?_setCell_far _ _ _ _ dS).trans (by assumption))));with_reducible exact((World.cell?_setCell_far _ _ _ _ dS).trans ((World.cell?_setCell_far _ _ _ _ dS).trans ((World.cell?_setCell_far _ _ _ _ dS).trans (by assumption))));with_reducible exact((World.cell?_setCell_far _ _ _ _ dS).trans ((World.cell?_setCell_far _ _ _ _ dS).trans ((World.cell?_setCell_far _ _ _ _ dS).trans (by assumption))));with_reducible exact((World.cell?_setCell_far _ _ _ _ dS).trans ((World.cell?_setCell_far _ _ _ _ dS).trans ((World.cell?_setCell_far _ _ _ _ dS).trans (by assumption))));with_reducible exact((World.cell?_setCell_far _ _ _ _ dS).trans ((World.cell?_setCell_far _ _ _ _ dS).trans ((World.cell?_setCell_far _ _ _ _ dS).trans (by assumption))));with_reducible exact((World.cell?_setCell_far _ _ _ _ dS).trans ((World.cell?_setCell_far _ _ _ _ dS).trans ((World.cell?_setCell_far _ _ _ _ dS).trans (by assumption))));with_reducible exact Nat.lt_of_lt_of_le (by assumption) (Below.setCell (Below.setCell (Below.setCell (Below.refl 0 _) (Nat.zero_le _) _) (Nat.zero_le _) _) (Nat.zero_le _) _).size;with_reducible exact Nat.lt_of_lt_of_le (by assumption) (Below.setCell (Below.setCell (Below.setCell (Below.refl 0 _) (Nat.zero_le _) _) (Nat.zero_le _) _) (Nat.zero_le _) _).size;with_reducible exact(cG (cG (cG (by assumption))));with_reducible exact(cG (cG (cG (by assumption))));with_reducible exact(cG (cG (cG (by assumption))));(simp only[World.frozen?_setCell];assumption);(simp only[World.frozen?_setCell];assumption);(simp only[World.frozen?_setCell];assumption);with_reducible exact(Below.setCell (Below.setCell (Below.setCell (by assumption) lR _) lR _) lR _))
   | (go_split_ands;refine⟨?_,?_,?_,?_,?_,?_,?_,?_,?_,?_,?_,?_,?_,?_,?_⟩;(iterate 6 (exact(hb5.cell (by assumption)).trans (by assumption)));exact Nat.lt_of_lt_of_le (by assumption) hb5.size;exact Nat.lt_of_lt_of_le (by assumption) hb5.size;(iterate 3 (exact fC ((hb5.cell (by assumption)).trans (by assumption))));(iterate 3 (exact(World.frozen?_of_block (a:=_) (hb5.block R (by assumption))).trans (by assumption)));exact Below.trans (by assumption) (hb5.mono (by first |exact Nat.le_of_lt (by assumption) |exact Below.size (by assumption))))
   | (refine⟨?_,?_,?_,?_,?_,?_,?_,?_,?_,?_,?_,?_,?_,?_,?_⟩;(iterate 14 (assumption));exact Below.drew (by assumption))
   | (go_split_ands;refine⟨?_,?_,?_,?_,?_,?_,?_,?_,?_,?_,?_,?_,?_,?_,?_⟩;(iterate 6 (exact(World.cell?_alloc_lt _ _ _ (by assumption)).trans (by assumption)));(simp;omega);(simp;omega);(iterate 3 (exact fC ((World.cell?_alloc_lt _ _ _ (by assumption)).trans (by assumption))));(iterate 3 (exact(World.frozen?_of_block (a:=_) (((Below.refl _ _).alloc (Nat.le_refl _) _).block R (by assumption))).trans (by assumption)));exact Below.alloc (by assumption) (by first |exact Nat.le_of_lt (by assumption) |exact Below.size (by assumption)) _)
   | (go_split_ands;refine⟨?_,?_,?_,?_,?_,?_,?_,?_,?_,?_,?_,?_,?_,?_,?_⟩;(iterate 14 (assumption));assumption)
   |go_keep)
  ((first
    | (go_at_call 181
       go_split_ands
       with_reducible refine(xh 14 2 _ _ ?_).mono ?_
       ·decide
       rintro e5 w5 ⟨rfl,hb5⟩)
    | (go_at_call 181
       go_split_ands
       with_reducible refine(xh 8 6 _ _ ?_).mono ?_
       ·decide
       rintro e5 w5 ⟨rfl,hb5⟩)
    | (go_at_call 181
       go_split_ands
       with_reducible refine(xh 0 8 _ _ ?_).mono ?_
       ·decide
       rintro e5 w5 ⟨rfl,hb5⟩)))
 all_goals
  go_split_ands
  go_wp2_with fail
  have T:=qP (R:=R) (by assumption) (by assumption) (by assumption)
  obtain ⟨t0,t1,t2⟩:=T
  refine cV (fun w9=>w9.cell? ⟨R,0,none⟩=some (.int .i64 (c/(64*256)%4))∧w9.cell? ⟨R,1,none⟩=some (.int .i64 (c/256%64))∧w9.cell? ⟨R,2,none⟩=some (.int .i64 (c%256))∧Below S w w9) ⟨t0.trans (by simp),t1.trans (by simp),t2.trans (by simp),by assumption⟩ ?_
  clear t0 t1 t2
  rintro w9 ⟨t0,t1,t2,lS⟩
  refine bodyPost_ret (v:=.agg #[.int .i64 (c/(64*256)%4),.int .i64 (c/256%64),.int .i64 (c%256)]) (by simp[results,Tryz.results160,go_sem,t0,t1,t2]) rfl ⟨rfl,?_⟩
  rw[hK]
  exact lS
theorem ER (k:Ky)(kd:Int)(f:Fl)(x e:Int)(hf:f.I)(hk:kd=2)(hx:0≤x∧x<64)(he:0≤e∧e<4)(w:World) :
 Calls Tryz.prog 113 #[eO k,kd,ff f,x,e] w fun e' w'=>e' =.returned (.int .i64 (ix 256 k kd f x e))∧Below w.heap.size w w':=by
 have ja:dW kd:=by subst hk;exact⟨by omega,by omega⟩
 have W1:=fun w=>j_ k kd f 64 e hf ja ⟨by omega,by omega⟩ ⟨by omega,by omega⟩ w
 have W2:=fun w=>j_ k kd f x e hf ja ⟨by omega,by omega⟩ ⟨by omega,by omega⟩ w
 have u1:=ti k kd f 64 e
 have u2:=ti k kd f x e
 have hc:Hid (e*(64*256)+xr x (W7 k kd f 64 e%64)*256+W7 k kd f x e%256=ix 256 k kd f x e):=rfl
 subst hk
 unfold eO ff at *
 generalize W7 k 2 f 64 e=a at *
 generalize W7 k 2 f x e=b at *
 have ha:=sC a 6 (by omega) u1
 have hb:=sC b 8 (by omega) u2
 change bits .and .u64 a 63=a%64 at ha
 change bits .and .u64 b 255=b%256 at hb
 have N2:=pT x (a%64) hx (by omega)
 have hm:=jD x (a%64) hx (by omega)
 generalize hmm:xr x (a%64)=m at *
 clear hmm
 obtain ⟨hx1,hx2⟩:=hx
 obtain ⟨he1,he2⟩:=he
 obtain ⟨hm1,hm2⟩:=hm
 obtain ⟨rs,uD⟩:=u1
 obtain ⟨u21,u22⟩:=u2
 have hfin:Hid (bits .or .i64 (bits .or .i64 (e*16384) (m*256)) (b%256)=e*(64*256)+m*256+b%256):=by
  have:=GQ e m (b%256) (by omega) (by omega) (by omega)
  rwa [show e%4=e from by omega,show m%64=m from by omega,show b%256%256=b%256 from by omega]at this
 replace W1:=hid W1
 replace W2:=hid W2
 go_enter Tryz.func113,Tryz.ntmps113
 go_wp2_with fail
 have CK:=Ce.made (w:=w) (l:=[.int .u64 k.a,.int .u64 k.b]) (T:=30) (g:=w.heap.size) rfl
 replace CK:=CK.alloc (.cells #[f.a,f.p,f.ta,f.tp] 141)
 have CF:=Ce.made (w:=(w.alloc (.cells #[.int .u64 k.a,.int .u64 k.b] 30))) (l:=[f.a,f.p,f.ta,f.tp]) (T:=141) (g:=w.heap.size+1) (by simp)
 have B:Below w.heap.size w ((w.alloc (.cells #[.int .u64 k.a,.int .u64 k.b] 30)).alloc (.cells #[f.a,f.p,f.ta,f.tp] 141)):=(((Below.refl w.heap.size w).alloc (by first |exact Nat.le_refl _ | (simp;done) | (simp;omega)) (.cells #[.int .u64 k.a,.int .u64 k.b] 30)).alloc (by first |exact Nat.le_refl _ | (simp;done) | (simp;omega)) (.cells #[f.a,f.p,f.ta,f.tp] 141))
 generalize (w.alloc (.cells #[.int .u64 k.a,.int .u64 k.b] 30)).alloc (.cells #[f.a,f.p,f.ta,f.tp] 141)=w1 at *
 generalize w.heap.size+1=F at *
 generalize hK:w.heap.size=K at *
 refine(fI 2 256 _ (by exact .inr ⟨rfl,rfl⟩)).mono ?_
 exact qXW
def m6 (o:Option Ky):Value:=.tuple #[eO (o.getD ⟨0,0⟩),o.isSome]
theorem qJQ{P:Prop}(h:P:=by
 go_wp2_with fail
 refine(eb _ _).mono ?_
 rintro e' w2 ⟨rfl,rfl⟩
 go_wp2_with fail
 refine(eb _ _).mono ?_
 rintro e' w2 ⟨rfl,rfl⟩
 go_wp2_with fail
 refine bodyPost_ret (by simp[results,Tryz.results161,go_sem]) rfl ⟨rfl,?_⟩
 exact qQA
 ):P:=h
theorem qJ4{P:Prop}(h:P:=by
 clear h0 h1 h2
 unfold m6 eO fE
 go_enter Tryz.func161,Tryz.ntmps161
 go_wp2_with fail
 refine(eb _ _).mono ?_
 rintro e' w2 ⟨rfl,rfl⟩
 go_wp2_with fail
 refine(eb _ _).mono ?_
 rintro e' w2 ⟨rfl,rfl⟩
 exact qJQ
 ):P:=h
theorem Gh (r:Rg)(e:Int)(hr:Ep r.e)(w:World) :
 Calls Tryz.prog 161 #[fE r,e] w fun e' w'=>e' =.returned (m6 (keyOf r e))∧Below w.heap.size w w':=by
 obtain ⟨hr1,hr2⟩:=hr
 have q1:IntKind.i64.wrap (r.e-1)=r.e-1:=IntWalk.i64_in _ (by omega)
 have q2:IntKind.i64.wrap (r.e+1)=r.e+1:=IntWalk.i64_in _ (by omega)
 have HK:=hid (show keyOf r e=_ from rfl)
 obtain ⟨o,ho⟩:∃o,o=keyOf r e:=⟨_,rfl⟩
 rw[←ho]
 unfold keyOf at ho
 by_cases h0:e%4=(r.e-1)%4
 ·rw[if_pos h0]at ho
  subst ho
  have b0:(e%4==(r.e-1)%4)=true:=by simp[h0]
  clear h0
  unfold m6 eO fE
  go_enter Tryz.func161,Tryz.ntmps161
  exact qJQ
 by_cases h1:e%4=r.e%4
 ·rw[if_neg h0]at ho;rw[if_pos h1]at ho
  subst ho
  have b0:(e%4==(r.e-1)%4)=false:=by simp[h0]
  have b1:(e%4==r.e%4)=true:=by simp[h1]
  clear h0 h1
  unfold m6 eO fE
  go_enter Tryz.func161,Tryz.ntmps161
  go_wp2_with fail
  refine(eb _ _).mono ?_
  rintro e' w2 ⟨rfl,rfl⟩
  exact qJQ
 by_cases h2:e%4=(r.e+1)%4
 ·rw[if_neg h0]at ho;rw[if_neg h1]at ho;rw[if_pos h2]at ho
  subst ho
  have b0:(e%4==(r.e-1)%4)=false:=by simp[h0]
  have b1:(e%4==r.e%4)=false:=by simp[h1]
  have b2:(e%4==(r.e+1)%4)=true:=by simp[h2]
  exact qJ4
 rw[if_neg h0,if_neg h1,if_neg h2]at ho
 subst ho
 have b0:(e%4==(r.e-1)%4)=false:=by simp[h0]
 have b1:(e%4==r.e%4)=false:=by simp[h1]
 have b2:(e%4==(r.e+1)%4)=false:=by simp[h2]
 exact qJ4
theorem qJX{P:Prop}(h:P:=by
 go_wp2_with fail
 refine(eJ _ _).mono ?_
 rintro e' w2 ⟨rfl,rfl⟩
 go_wp2_with fail
 refine(eJ _ _).mono ?_
 rintro e' w2 ⟨rfl,rfl⟩
 go_wp2_with fail
 refine bodyPost_ret (by simp[results,Tryz.results169,go_sem]) rfl ⟨rfl,?_⟩
 exact qQA
 ):P:=h
theorem qJ5{P:Prop}(h:P:=by
 clear h0 h1 h2
 unfold m6 eO fE
 go_enter Tryz.func169,Tryz.ntmps169
 go_wp2_with fail
 refine(eJ _ _).mono ?_
 rintro e' w2 ⟨rfl,rfl⟩
 go_wp2_with fail
 refine(eJ _ _).mono ?_
 rintro e' w2 ⟨rfl,rfl⟩
 exact qJX
 ):P:=h
theorem uR (r:Rg)(e:Int)(hr:Ep r.e)(w:World) :
 Calls Tryz.prog 169 #[fE r,e] w fun e' w'=>e' =.returned (m6 (keyOf r e))∧Below w.heap.size w w':=by
 obtain ⟨hr1,hr2⟩:=hr
 have q1:IntKind.i64.wrap (r.e-1)=r.e-1:=IntWalk.i64_in _ (by omega)
 have q2:IntKind.i64.wrap (r.e+1)=r.e+1:=IntWalk.i64_in _ (by omega)
 have HK:=hid (show keyOf r e=_ from rfl)
 obtain ⟨o,ho⟩:∃o,o=keyOf r e:=⟨_,rfl⟩
 rw[←ho]
 unfold keyOf at ho
 by_cases h0:e%4=(r.e-1)%4
 ·rw[if_pos h0]at ho
  subst ho
  have b0:(e%4==(r.e-1)%4)=true:=by simp[h0]
  clear h0
  unfold m6 eO fE
  go_enter Tryz.func169,Tryz.ntmps169
  exact qJX
 by_cases h1:e%4=r.e%4
 ·rw[if_neg h0]at ho;rw[if_pos h1]at ho
  subst ho
  have b0:(e%4==(r.e-1)%4)=false:=by simp[h0]
  have b1:(e%4==r.e%4)=true:=by simp[h1]
  clear h0 h1
  unfold m6 eO fE
  go_enter Tryz.func169,Tryz.ntmps169
  go_wp2_with fail
  refine(eJ _ _).mono ?_
  rintro e' w2 ⟨rfl,rfl⟩
  exact qJX
 by_cases h2:e%4=(r.e+1)%4
 ·rw[if_neg h0]at ho;rw[if_neg h1]at ho;rw[if_pos h2]at ho
  subst ho
  have b0:(e%4==(r.e-1)%4)=false:=by simp[h0]
  have b1:(e%4==r.e%4)=false:=by simp[h1]
  have b2:(e%4==(r.e+1)%4)=true:=by simp[h2]
  exact qJ5
 rw[if_neg h0,if_neg h1,if_neg h2]at ho
 subst ho
 have b0:(e%4==(r.e-1)%4)=false:=by simp[h0]
 have b1:(e%4==r.e%4)=false:=by simp[h1]
 have b2:(e%4==(r.e+1)%4)=false:=by simp[h2]
 exact qJ5
end Go.Proofs.YtalnfkijiehjhaaGreat
