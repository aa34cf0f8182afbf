/- Cookies made, of both packages. Cookies read, of both packages. Stamps that carry: laid together, parted. Stamps brought back, ahead of each other. -/
import Derived.Test.YtalnfkijiehjhaaGreatGa
import Derived.Test.YtalnfkijiehjhaaGreatGk
namespace Go.Proofs.YtalnfkijiehjhaaGreat
set_option linter.unusedVariables false
set_option linter.unusedSimpArgs false
open Go.RowKit Go.ChangeShapes Go.WideShapes Go.ChangeAt
theorem qYB{P:Prop}(h:P:=by
 go_split_ands
 go_wp2_with fail
 go_ret
 exact⟨bp hc.out,by first |assumption | (rw[hK];assumption)⟩
 ):P:=h
theorem Ji (r:Rg)(f:Fl)(s:Int)(hf:f.I)(hs:0≤s∧s<64)(w:World) :
 Calls Tryz.prog 99 #[fE r,.int .i64 1,ff f,s] w fun e' w'=>e' =.returned (.int .i64 (ix 4096 r.c 1 f s (r.e%4)))∧Below w.heap.size w w':=by
 have ja:dW 1:=⟨by omega,by omega⟩
 have MA:=fun w=>EB r.c 1 f s (r.e%4) hf ja ⟨by omega,by omega⟩ ⟨by omega,by omega⟩ w
 have hm:=jD (s%64) (W7 r.c 1 f 64 (r.e%4)%64) (by omega) (by omega)
 have TG:=fun w=>zn (r.e%4) (xr (s%64) (W7 r.c 1 f 64 (r.e%4)%64)) (W7 r.c 1 f s (r.e%4)%4096) (by omega) hm (by omega) w
 have hc:Hid (r.e%4*(64*4096)+xr (s%64) (W7 r.c 1 f 64 (r.e%4)%64)*4096+W7 r.c 1 f s (r.e%4)%4096=ix 4096 r.c 1 f s (r.e%4)):=by
  unfold Hid ix
  rw[show s%64=s from by omega]
 rw[oO]at MA TG
 unfold fE ff eO kI at *
 replace MA:=hid MA
 replace TG:=hid TG
 clear hm hs
 go_enter Tryz.func99,Tryz.ntmps99
 go_wp2_with fail
 have CA:=Ce.made (w:=w) (l:=[r.e,.int .u64 r.p.a,.int .u64 r.p.b,.int .u64 r.c.a,.int .u64 r.c.b,.int .u64 r.n.a,.int .u64 r.n.b]) (T:=32) (g:=w.heap.size) rfl
 replace CA:=CA.alloc (.cells #[f.a,f.p,f.ta,f.tp] 141)
 have CF:=Ce.made (w:=(w.alloc (.cells #[r.e,.int .u64 r.p.a,.int .u64 r.p.b,.int .u64 r.c.a,.int .u64 r.c.b,.int .u64 r.n.a,.int .u64 r.n.b] 32))) (l:=[f.a,f.p,f.ta,f.tp]) (T:=141) (g:=w.heap.size+1) (by simp)
 have B:Below w.heap.size w ((w.alloc (.cells #[r.e,.int .u64 r.p.a,.int .u64 r.p.b,.int .u64 r.c.a,.int .u64 r.c.b,.int .u64 r.n.a,.int .u64 r.n.b] 32)).alloc (.cells #[f.a,f.p,f.ta,f.tp] 141)):=(((Below.refl w.heap.size w).alloc (by first |exact Nat.le_refl _ | (simp;done) | (simp;omega)) (.cells #[r.e,.int .u64 r.p.a,.int .u64 r.p.b,.int .u64 r.c.a,.int .u64 r.c.b,.int .u64 r.n.a,.int .u64 r.n.b] 32)).alloc (by first |exact Nat.le_refl _ | (simp;done) | (simp;omega)) (.cells #[f.a,f.p,f.ta,f.tp] 141))
 generalize (w.alloc (.cells #[r.e,.int .u64 r.p.a,.int .u64 r.p.b,.int .u64 r.c.a,.int .u64 r.c.b,.int .u64 r.n.a,.int .u64 r.n.b] 32)).alloc (.cells #[f.a,f.p,f.ta,f.tp] 141)=w1 at *
 generalize w.heap.size+1=F at *
 generalize hK:w.heap.size=A at *
 refine(gB 1 4096 _ (by exact .inl ⟨rfl,rfl⟩)).mono ?_
 rintro e' w2 ⟨rfl,hb⟩
 replace B:=B.trans (hb.mono (Nat.le_of_lt CA.1))
 replace CA:=CA.below hb
 replace CF:=CF.below hb
 clear hb
 rw[oO]
 obtain ⟨kA,qA,zA⟩:=id CA
 have cg:=qA 0 _ rfl
 have cf:=qA 1 _ rfl
 have b_:=qA 2 _ rfl
 have b9:=qA 3 _ rfl
 have bZ:=qA 4 _ rfl
 have bY:=qA 5 _ rfl
 have bX:=qA 6 _ rfl
 clear qA zA
 obtain ⟨kF,qF,zF⟩:=id CF
 have bL:=qF 0 _ rfl
 have bK:=qF 1 _ rfl
 have bJ:=qF 2 _ rfl
 have bI:=qF 3 _ rfl
 clear qF zF
 go_wp2_with fail
 clear kA cg cf b_ b9 bZ bY bX
 clear kF bL bK bJ bI
 have CS:=Ce.made (w:=w2) (l:=[.int .u64 18,.int .u64 2,.int .u64 12,.int .u64 6,.int .u64 0,.int .u64 12]) (T:=194) (g:=w2.heap.size) rfl
 replace B:=B.alloc (Nat.le_of_lt CA.1) (.cells #[.int .u64 18,.int .u64 2,.int .u64 12,.int .u64 6,.int .u64 0,.int .u64 12] 194)
 replace CA:=CA.alloc (.cells #[.int .u64 18,.int .u64 2,.int .u64 12,.int .u64 6,.int .u64 0,.int .u64 12] 194)
 replace CF:=CF.alloc (.cells #[.int .u64 18,.int .u64 2,.int .u64 12,.int .u64 6,.int .u64 0,.int .u64 12] 194)
 generalize w2.alloc (.cells #[.int .u64 18,.int .u64 2,.int .u64 12,.int .u64 6,.int .u64 0,.int .u64 12] 194)=w3 at *
 generalize w2.heap.size=S at *
 obtain ⟨kA,qA,zA⟩:=id CA
 have cg:=qA 0 _ rfl
 have cf:=qA 1 _ rfl
 have b_:=qA 2 _ rfl
 have b9:=qA 3 _ rfl
 have bZ:=qA 4 _ rfl
 have bY:=qA 5 _ rfl
 have bX:=qA 6 _ rfl
 clear qA zA
 obtain ⟨kF,qF,zF⟩:=id CF
 have bL:=qF 0 _ rfl
 have bK:=qF 1 _ rfl
 have bJ:=qF 2 _ rfl
 have bI:=qF 3 _ rfl
 clear qF zF
 obtain ⟨kS,qS,zS⟩:=id CS
 have eE:=qS 0 _ rfl
 have eD:=qS 1 _ rfl
 have cS2:=qS 2 _ rfl
 have eC:=qS 3 _ rfl
 have eV:=qS 4 _ rfl
 have eU:=qS 5 _ rfl
 clear qS zS
 go_region_held3 (fun w'=>w'.cell? ⟨A,0,none⟩=some (.int .i64 r.e)∧w'.cell? ⟨A,1,none⟩=some (.int .u64 r.p.a)∧w'.cell? ⟨A,2,none⟩=some (.int .u64 r.p.b)∧w'.cell? ⟨A,3,none⟩=some (.int .u64 r.c.a)∧w'.cell? ⟨A,4,none⟩=some (.int .u64 r.c.b)∧w'.cell? ⟨A,5,none⟩=some (.int .u64 r.n.a)∧w'.cell? ⟨A,6,none⟩=some (.int .u64 r.n.b)∧w'.cell? ⟨F,0,none⟩=some (.int .i64 f.a)∧w'.cell? ⟨F,1,none⟩=some (.int .i64 f.p)∧w'.cell? ⟨F,2,none⟩=some (.int .i64 f.ta)∧w'.cell? ⟨F,3,none⟩=some (.int .i64 f.tp)∧w'.cell? ⟨S,0,none⟩=some (.int .u64 18)∧w'.cell? ⟨S,1,none⟩=some (.int .u64 2)∧w'.cell? ⟨S,2,none⟩=some (.int .u64 12)∧w'.cell? ⟨S,3,none⟩=some (.int .u64 6)∧w'.cell? ⟨S,4,none⟩=some (.int .u64 0)∧w'.cell? ⟨S,5,none⟩=some (.int .u64 12)∧A<w'.heap.size∧F<w'.heap.size∧S<w'.heap.size∧Below A w w')
  (first
   | (go_split_ands;refine⟨?_,?_,?_,?_,?_,?_,?_,?_,?_,?_,?_,?_,?_,?_,?_,?_,?_,?_,?_,?_,?_⟩;(iterate 17 (exact(hb5.cell (by assumption)).trans (by assumption)));(iterate 3 (exact Nat.lt_of_lt_of_le (by assumption) hb5.size));exact Below.trans (by assumption) (hb5.mono (by first |exact Nat.le_of_lt (by assumption) |exact Below.size (by assumption))))
   | (refine⟨?_,?_,?_,?_,?_,?_,?_,?_,?_,?_,?_,?_,?_,?_,?_,?_,?_,?_,?_,?_,?_⟩;(iterate 20 (assumption));exact Below.drew (by assumption))
   | (go_split_ands;refine⟨?_,?_,?_,?_,?_,?_,?_,?_,?_,?_,?_,?_,?_,?_,?_,?_,?_,?_,?_,?_,?_⟩;(iterate 17 (exact(World.cell?_alloc_lt _ _ _ (by assumption)).trans (by assumption)));(simp;omega);(simp;omega);(simp;omega);exact Below.alloc (by assumption) (by first |exact Nat.le_of_lt (by assumption) |exact Below.size (by assumption)) _)
   | (go_split_ands;refine⟨?_,?_,?_,?_,?_,?_,?_,?_,?_,?_,?_,?_,?_,?_,?_,?_,?_,?_,?_,?_,?_⟩;(iterate 17 (exact(World.cell?_alloc_lt _ _ _ (by assumption)).trans (by assumption)));(iterate 3 (exact Nat.lt_of_lt_of_le (by assumption) (Below.drew (Below.alloc (Below.refl _ _) (Nat.le_refl _) _)).size));exact Below.drew (Below.alloc (by assumption) (Below.size (by assumption)) _))
   | (go_split_ands;refine⟨?_,?_,?_,?_,?_,?_,?_,?_,?_,?_,?_,?_,?_,?_,?_,?_,?_,?_,?_,?_,?_⟩;(iterate 20 (assumption));assumption)
   |go_keep)
  ((first
    | (go_at_call 134
       go_split_ands
       with_reducible refine(eb _ _).mono ?_
       rintro e w5 ⟨rfl,rfl⟩)
    | (go_at_call 133
       go_split_ands
       with_reducible refine(MA.out _).mono ?_
       rintro e w5 ⟨rfl,hb5⟩)
    | (go_at_call 132
       go_split_ands
       with_reducible refine(TG.out _).mono ?_
       rintro e w5 ⟨rfl,hb5⟩)))
 all_goals
  exact qYB
theorem qQT{P:Prop}(h:P:=by
 unfold fE ff eO at *
 replace MA:=hid MA
 clear hs
 go_enter Tryz.func75,Tryz.ntmps75
 go_wp2_with fail
 have CA:=Ce.made (w:=w) (l:=[r.e,.int .u64 r.p.a,.int .u64 r.p.b,.int .u64 r.c.a,.int .u64 r.c.b,.int .u64 r.n.a,.int .u64 r.n.b]) (T:=32) (g:=w.heap.size) rfl
 replace CA:=CA.alloc (.cells #[f.a,f.p,f.ta,f.tp] 141)
 have CF:=Ce.made (w:=(w.alloc (.cells #[r.e,.int .u64 r.p.a,.int .u64 r.p.b,.int .u64 r.c.a,.int .u64 r.c.b,.int .u64 r.n.a,.int .u64 r.n.b] 32))) (l:=[f.a,f.p,f.ta,f.tp]) (T:=141) (g:=w.heap.size+1) (by simp)
 have B:Below w.heap.size w ((w.alloc (.cells #[r.e,.int .u64 r.p.a,.int .u64 r.p.b,.int .u64 r.c.a,.int .u64 r.c.b,.int .u64 r.n.a,.int .u64 r.n.b] 32)).alloc (.cells #[f.a,f.p,f.ta,f.tp] 141)):=(((Below.refl w.heap.size w).alloc (by first |exact Nat.le_refl _ | (simp;done) | (simp;omega)) (.cells #[r.e,.int .u64 r.p.a,.int .u64 r.p.b,.int .u64 r.c.a,.int .u64 r.c.b,.int .u64 r.n.a,.int .u64 r.n.b] 32)).alloc (by first |exact Nat.le_refl _ | (simp;done) | (simp;omega)) (.cells #[f.a,f.p,f.ta,f.tp] 141))
 generalize (w.alloc (.cells #[r.e,.int .u64 r.p.a,.int .u64 r.p.b,.int .u64 r.c.a,.int .u64 r.c.b,.int .u64 r.n.a,.int .u64 r.n.b] 32)).alloc (.cells #[f.a,f.p,f.ta,f.tp] 141)=w1 at *
 generalize w.heap.size+1=F at *
 generalize hK:w.heap.size=A at *
 obtain ⟨kA,qA,zA⟩:=id CA
 have cg:=qA 0 _ rfl
 have cf:=qA 1 _ rfl
 have b_:=qA 2 _ rfl
 have b9:=qA 3 _ rfl
 have bZ:=qA 4 _ rfl
 have bY:=qA 5 _ rfl
 have bX:=qA 6 _ rfl
 clear qA zA
 obtain ⟨kF,qF,zF⟩:=id CF
 have bL:=qF 0 _ rfl
 have bK:=qF 1 _ rfl
 have bJ:=qF 2 _ rfl
 have bI:=qF 3 _ rfl
 clear qF zF
 go_region_held3 (fun w'=>w'.cell? ⟨A,0,none⟩=some (.int .i64 r.e)∧w'.cell? ⟨A,1,none⟩=some (.int .u64 r.p.a)∧w'.cell? ⟨A,2,none⟩=some (.int .u64 r.p.b)∧w'.cell? ⟨A,3,none⟩=some (.int .u64 r.c.a)∧w'.cell? ⟨A,4,none⟩=some (.int .u64 r.c.b)∧w'.cell? ⟨A,5,none⟩=some (.int .u64 r.n.a)∧w'.cell? ⟨A,6,none⟩=some (.int .u64 r.n.b)∧w'.cell? ⟨F,0,none⟩=some (.int .i64 f.a)∧w'.cell? ⟨F,1,none⟩=some (.int .i64 f.p)∧w'.cell? ⟨F,2,none⟩=some (.int .i64 f.ta)∧w'.cell? ⟨F,3,none⟩=some (.int .i64 f.tp)∧A<w'.heap.size∧F<w'.heap.size∧Below A w w')
  (first
   | (go_split_ands;refine⟨?_,?_,?_,?_,?_,?_,?_,?_,?_,?_,?_,?_,?_,?_⟩;(iterate 11 (exact(hb5.cell (by assumption)).trans (by assumption)));exact Nat.lt_of_lt_of_le (by assumption) hb5.size;exact Nat.lt_of_lt_of_le (by assumption) hb5.size;exact Below.trans (by assumption) (hb5.mono (by first |exact Nat.le_of_lt (by assumption) |exact Below.size (by assumption))))
   | (refine⟨?_,?_,?_,?_,?_,?_,?_,?_,?_,?_,?_,?_,?_,?_⟩;(iterate 13 (assumption));exact Below.drew (by assumption))
   | (go_split_ands;refine⟨?_,?_,?_,?_,?_,?_,?_,?_,?_,?_,?_,?_,?_,?_⟩;(iterate 11 (exact(World.cell?_alloc_lt _ _ _ (by assumption)).trans (by assumption)));(simp;omega);(simp;omega);exact Below.alloc (by assumption) (by first |exact Nat.le_of_lt (by assumption) |exact Below.size (by assumption)) _)
   | (go_split_ands;refine⟨?_,?_,?_,?_,?_,?_,?_,?_,?_,?_,?_,?_,?_,?_⟩;(iterate 11 (exact(World.cell?_alloc_lt _ _ _ (by assumption)).trans (by assumption)));exact Nat.lt_of_lt_of_le (by assumption) (Below.drew (Below.alloc (Below.refl _ _) (Nat.le_refl _) _)).size;exact Nat.lt_of_lt_of_le (by assumption) (Below.drew (Below.alloc (Below.refl _ _) (Nat.le_refl _) _)).size;exact Below.drew (Below.alloc (by assumption) (Below.size (by assumption)) _))
   | (go_split_ands;refine⟨?_,?_,?_,?_,?_,?_,?_,?_,?_,?_,?_,?_,?_,?_⟩;(iterate 13 (assumption));assumption)
   |go_keep)
  ((first
    | (go_at_call 114
       go_split_ands
       with_reducible refine(eJ _ _).mono ?_
       rintro e w5 ⟨rfl,rfl⟩)
    | (go_at_call 113
       go_split_ands
       with_reducible refine(MA.out _).mono ?_
       rintro e w5 ⟨rfl,hb5⟩)))
 all_goals
  go_split_ands
  go_wp2_with fail
  go_ret
  exact⟨rfl,by first |assumption | (rw[hK];assumption)⟩
 ):P:=h
theorem zX (r:Rg)(f:Fl)(s:Int)(hf:f.I)(hs:0≤s∧s<64)(w:World) :
 Calls Tryz.prog 75 #[fE r,.int .i64 1,ff f,s] w fun e' w'=>e' =.returned (.int .i64 (ix 4096 r.c 1 f s (r.e%4)))∧Below w.heap.size w w':=by
 have MA:=fun w=>ES r.c 1 f s (r.e%4) hf rfl hs (by omega) w
 exact qQT
theorem Jh (r:Rg)(f:Fl)(s:Int)(hf:f.I)(hs:0≤s∧s<64)(w:World) :
 Calls Tryz.prog 99 #[fE r,.int .i64 2,ff f,s] w fun e' w'=>e' =.returned (.int .i64 (ix 256 r.c 2 f s (r.e%4)))∧Below w.heap.size w w':=by
 have ja:dW 2:=⟨by omega,by omega⟩
 have MA:=fun w=>EA r.c 2 f s (r.e%4) hf ja ⟨by omega,by omega⟩ ⟨by omega,by omega⟩ w
 have hm:=jD (s%64) (W7 r.c 2 f 64 (r.e%4)%64) (by omega) (by omega)
 have TG:=fun w=>zm (r.e%4) (xr (s%64) (W7 r.c 2 f 64 (r.e%4)%64)) (W7 r.c 2 f s (r.e%4)%256) (by omega) hm (by omega) w
 have hc:Hid (r.e%4*(64*256)+xr (s%64) (W7 r.c 2 f 64 (r.e%4)%64)*256+W7 r.c 2 f s (r.e%4)%256=ix 256 r.c 2 f s (r.e%4)):=by
  unfold Hid ix
  rw[show s%64=s from by omega]
 rw[oN]at MA TG
 unfold fE ff eO kI at *
 replace MA:=hid MA
 replace TG:=hid TG
 clear hm hs
 go_enter Tryz.func99,Tryz.ntmps99
 go_wp2_with fail
 have CA:=Ce.made (w:=w) (l:=[r.e,.int .u64 r.p.a,.int .u64 r.p.b,.int .u64 r.c.a,.int .u64 r.c.b,.int .u64 r.n.a,.int .u64 r.n.b]) (T:=32) (g:=w.heap.size) rfl
 replace CA:=CA.alloc (.cells #[f.a,f.p,f.ta,f.tp] 141)
 have CF:=Ce.made (w:=(w.alloc (.cells #[r.e,.int .u64 r.p.a,.int .u64 r.p.b,.int .u64 r.c.a,.int .u64 r.c.b,.int .u64 r.n.a,.int .u64 r.n.b] 32))) (l:=[f.a,f.p,f.ta,f.tp]) (T:=141) (g:=w.heap.size+1) (by simp)
 have B:Below w.heap.size w ((w.alloc (.cells #[r.e,.int .u64 r.p.a,.int .u64 r.p.b,.int .u64 r.c.a,.int .u64 r.c.b,.int .u64 r.n.a,.int .u64 r.n.b] 32)).alloc (.cells #[f.a,f.p,f.ta,f.tp] 141)):=(((Below.refl w.heap.size w).alloc (by first |exact Nat.le_refl _ | (simp;done) | (simp;omega)) (.cells #[r.e,.int .u64 r.p.a,.int .u64 r.p.b,.int .u64 r.c.a,.int .u64 r.c.b,.int .u64 r.n.a,.int .u64 r.n.b] 32)).alloc (by first |exact Nat.le_refl _ | (simp;done) | (simp;omega)) (.cells #[f.a,f.p,f.ta,f.tp] 141))
 generalize (w.alloc (.cells #[r.e,.int .u64 r.p.a,.int .u64 r.p.b,.int .u64 r.c.a,.int .u64 r.c.b,.int .u64 r.n.a,.int .u64 r.n.b] 32)).alloc (.cells #[f.a,f.p,f.ta,f.tp] 141)=w1 at *
 generalize w.heap.size+1=F at *
 generalize hK:w.heap.size=A at *
 refine(gB 2 256 _ (by exact .inr ⟨rfl,rfl⟩)).mono ?_
 rintro e' w2 ⟨rfl,hb⟩
 replace B:=B.trans (hb.mono (Nat.le_of_lt CA.1))
 replace CA:=CA.below hb
 replace CF:=CF.below hb
 clear hb
 rw[oN]
 obtain ⟨kA,qA,zA⟩:=id CA
 have cg:=qA 0 _ rfl
 have cf:=qA 1 _ rfl
 have b_:=qA 2 _ rfl
 have b9:=qA 3 _ rfl
 have bZ:=qA 4 _ rfl
 have bY:=qA 5 _ rfl
 have bX:=qA 6 _ rfl
 clear qA zA
 obtain ⟨kF,qF,zF⟩:=id CF
 have bL:=qF 0 _ rfl
 have bK:=qF 1 _ rfl
 have bJ:=qF 2 _ rfl
 have bI:=qF 3 _ rfl
 clear qF zF
 go_wp2_with fail
 clear kA cg cf b_ b9 bZ bY bX
 clear kF bL bK bJ bI
 have CS:=Ce.made (w:=w2) (l:=[.int .u64 14,.int .u64 2,.int .u64 8,.int .u64 6,.int .u64 0,.int .u64 8]) (T:=194) (g:=w2.heap.size) rfl
 replace B:=B.alloc (Nat.le_of_lt CA.1) (.cells #[.int .u64 14,.int .u64 2,.int .u64 8,.int .u64 6,.int .u64 0,.int .u64 8] 194)
 replace CA:=CA.alloc (.cells #[.int .u64 14,.int .u64 2,.int .u64 8,.int .u64 6,.int .u64 0,.int .u64 8] 194)
 replace CF:=CF.alloc (.cells #[.int .u64 14,.int .u64 2,.int .u64 8,.int .u64 6,.int .u64 0,.int .u64 8] 194)
 generalize w2.alloc (.cells #[.int .u64 14,.int .u64 2,.int .u64 8,.int .u64 6,.int .u64 0,.int .u64 8] 194)=w3 at *
 generalize w2.heap.size=S at *
 obtain ⟨kA,qA,zA⟩:=id CA
 have cg:=qA 0 _ rfl
 have cf:=qA 1 _ rfl
 have b_:=qA 2 _ rfl
 have b9:=qA 3 _ rfl
 have bZ:=qA 4 _ rfl
 have bY:=qA 5 _ rfl
 have bX:=qA 6 _ rfl
 clear qA zA
 obtain ⟨kF,qF,zF⟩:=id CF
 have bL:=qF 0 _ rfl
 have bK:=qF 1 _ rfl
 have bJ:=qF 2 _ rfl
 have bI:=qF 3 _ rfl
 clear qF zF
 obtain ⟨kS,qS,zS⟩:=id CS
 have eE:=qS 0 _ rfl
 have eD:=qS 1 _ rfl
 have cS2:=qS 2 _ rfl
 have eC:=qS 3 _ rfl
 have eV:=qS 4 _ rfl
 have eU:=qS 5 _ rfl
 clear qS zS
 go_region_held3 (fun w'=>w'.cell? ⟨A,0,none⟩=some (.int .i64 r.e)∧w'.cell? ⟨A,1,none⟩=some (.int .u64 r.p.a)∧w'.cell? ⟨A,2,none⟩=some (.int .u64 r.p.b)∧w'.cell? ⟨A,3,none⟩=some (.int .u64 r.c.a)∧w'.cell? ⟨A,4,none⟩=some (.int .u64 r.c.b)∧w'.cell? ⟨A,5,none⟩=some (.int .u64 r.n.a)∧w'.cell? ⟨A,6,none⟩=some (.int .u64 r.n.b)∧w'.cell? ⟨F,0,none⟩=some (.int .i64 f.a)∧w'.cell? ⟨F,1,none⟩=some (.int .i64 f.p)∧w'.cell? ⟨F,2,none⟩=some (.int .i64 f.ta)∧w'.cell? ⟨F,3,none⟩=some (.int .i64 f.tp)∧w'.cell? ⟨S,0,none⟩=some (.int .u64 14)∧w'.cell? ⟨S,1,none⟩=some (.int .u64 2)∧w'.cell? ⟨S,2,none⟩=some (.int .u64 8)∧w'.cell? ⟨S,3,none⟩=some (.int .u64 6)∧w'.cell? ⟨S,4,none⟩=some (.int .u64 0)∧w'.cell? ⟨S,5,none⟩=some (.int .u64 8)∧A<w'.heap.size∧F<w'.heap.size∧S<w'.heap.size∧Below A w w')
  (first
   | (go_split_ands;refine⟨?_,?_,?_,?_,?_,?_,?_,?_,?_,?_,?_,?_,?_,?_,?_,?_,?_,?_,?_,?_,?_⟩;(iterate 17 (exact(hb5.cell (by assumption)).trans (by assumption)));(iterate 3 (exact Nat.lt_of_lt_of_le (by assumption) hb5.size));exact Below.trans (by assumption) (hb5.mono (by first |exact Nat.le_of_lt (by assumption) |exact Below.size (by assumption))))
   | (refine⟨?_,?_,?_,?_,?_,?_,?_,?_,?_,?_,?_,?_,?_,?_,?_,?_,?_,?_,?_,?_,?_⟩;(iterate 20 (assumption));exact Below.drew (by assumption))
   | (go_split_ands;refine⟨?_,?_,?_,?_,?_,?_,?_,?_,?_,?_,?_,?_,?_,?_,?_,?_,?_,?_,?_,?_,?_⟩;(iterate 17 (exact(World.cell?_alloc_lt _ _ _ (by assumption)).trans (by assumption)));(simp;omega);(simp;omega);(simp;omega);exact Below.alloc (by assumption) (by first |exact Nat.le_of_lt (by assumption) |exact Below.size (by assumption)) _)
   | (go_split_ands;refine⟨?_,?_,?_,?_,?_,?_,?_,?_,?_,?_,?_,?_,?_,?_,?_,?_,?_,?_,?_,?_,?_⟩;(iterate 17 (exact(World.cell?_alloc_lt _ _ _ (by assumption)).trans (by assumption)));(iterate 3 (exact Nat.lt_of_lt_of_le (by assumption) (Below.drew (Below.alloc (Below.refl _ _) (Nat.le_refl _) _)).size));exact Below.drew (Below.alloc (by assumption) (Below.size (by assumption)) _))
   | (go_split_ands;refine⟨?_,?_,?_,?_,?_,?_,?_,?_,?_,?_,?_,?_,?_,?_,?_,?_,?_,?_,?_,?_,?_⟩;(iterate 20 (assumption));assumption)
   |go_keep)
  ((first
    | (go_at_call 134
       go_split_ands
       with_reducible refine(eb _ _).mono ?_
       rintro e w5 ⟨rfl,rfl⟩)
    | (go_at_call 133
       go_split_ands
       with_reducible refine(MA.out _).mono ?_
       rintro e w5 ⟨rfl,hb5⟩)
    | (go_at_call 132
       go_split_ands
       with_reducible refine(TG.out _).mono ?_
       rintro e w5 ⟨rfl,hb5⟩)))
 all_goals
  exact qYB
theorem zW (r:Rg)(f:Fl)(s:Int)(hf:f.I)(hs:0≤s∧s<64)(w:World) :
 Calls Tryz.prog 75 #[fE r,.int .i64 2,ff f,s] w fun e' w'=>e' =.returned (.int .i64 (ix 256 r.c 2 f s (r.e%4)))∧Below w.heap.size w w':=by
 have MA:=fun w=>ER r.c 2 f s (r.e%4) hf rfl hs (by omega) w
 exact qQT
theorem Gn (T:Int)(k:Ky)(kd:Int)(f:Fl)(c:Int)(hT:T=4096∨T=256)(h0:0≤c)(h1:c<256*T):ix T k kd f (gP T k kd f c) (c/(64*T))=c↔W7 k kd f (gP T k kd f c) (c/(64*T))%T=c%T:=by
 have hm:xr (gP T k kd f c) (W7 k kd f 64 (c/(64*T))%64)=c/T%64:=by
  unfold gP
  rw[wR _ _ (by omega)]
 unfold ix
 rw[hm]
 generalize W7 k kd f (gP T k kd f c) (c/(64*T))=x
 rcases hT with rfl |rfl <;> omega
def mX (o:Option Int):Value:=.tuple #[(o.getD 0),o.isSome]
theorem qYM{P:Prop}(h:P:=by
 go_split_ands
 go_wp2_with fail
 refine bodyPost_ret (by simp[results,Tryz.results123,go_sem]) rfl ⟨rfl,?_⟩
 first |assumption | (rw[hK];assumption)
 ):P:=h
theorem qXH{P:Prop}(h:P:=by
 obtain ⟨kA,qA,zA⟩:=id CA
 have cg:=qA 0 _ rfl
 have cf:=qA 1 _ rfl
 have b_:=qA 2 _ rfl
 have b9:=qA 3 _ rfl
 have bZ:=qA 4 _ rfl
 have bY:=qA 5 _ rfl
 have bX:=qA 6 _ rfl
 clear qA zA
 obtain ⟨kF,qF,zF⟩:=id CF
 have bL:=qF 0 _ rfl
 have bK:=qF 1 _ rfl
 have bJ:=qF 2 _ rfl
 have bI:=qF 3 _ rfl
 clear qF zF
 obtain ⟨kS,qS,zS⟩:=id CS
 have eE:=qS 0 _ rfl
 have eD:=qS 1 _ rfl
 have cS2:=qS 2 _ rfl
 have eC:=qS 3 _ rfl
 have eV:=qS 4 _ rfl
 have eU:=qS 5 _ rfl
 clear qS zS
 go_wp2
 refine bodyPost_ret (by simp[results,Tryz.results123,go_sem]) rfl ⟨rfl,?_⟩
 rw[hK]
 exact B
 ):P:=h
set_option maxHeartbeats 2000000 in
theorem Ad (kd T s1 s2 M:Int)(hkt:KT kd T)(hT:T=4096∨T=256)(xL:mV T =.agg #[.int .u64 s1,.int .u64 2,.int .u64 s2,.int .u64 6,.int .u64 0,.int .u64 s2])(hM:256*T=M)(ja:dW kd)(r:Rg)(f:Fl)(c:Int)(hf:f.I)(hr:Ep r.e)
 (AP:∀w,Calls Tryz.prog 160 #[mV T,c] w fun e' w'=>e' =.returned (kI (c/(64*T)%4) (c/T%64) (c%T))∧Below w.heap.size w w')
 (MD:∀(k:Ky) (x e:Int),dW x→dW e→∀w,Calls Tryz.prog 133 #[mV T,eO k,kd,ff f,x,e] w fun e' w'=>e' =.returned (kI e (xr (x%64) (W7 k kd f 64 e%64)) (W7 k kd f x e%T))∧Below w.heap.size w w') (w:World) :
 Calls Tryz.prog 123 #[fE r,kd,ff f,c] w fun e' w'=>e' =.returned (mX (fm T r kd f c))∧Below w.heap.size w w':=by
 have BY:=fun w=>yM T w hT
 have KY:=fun e w=>Gh r e hr w
 have MK:=fun k e he w=>rb k kd f e hf ja he w
 have HI:=Gn T (f:=f) (kd:=kd) (c:=c) (hT:=hT)
 obtain ⟨o,ho⟩:∃o,o=fm T r kd f c:=⟨_,rfl⟩
 rw[←ho]
 unfold fm at ho
 rw[xL]at BY AP MD
 rw[hM]at BY HI
 unfold fE ff eO kI mX m6 eO at *
 replace BY:=hid BY
 replace AP:=hid AP
 replace KY:=hid KY
 replace MK:=hid MK
 replace MD:=hid MD
 replace HI:=hid HI
 by_cases h0:c<0
 ·rw[if_pos (Or.inl h0)]at ho
  subst ho
  go_enter Tryz.func123,Tryz.ntmps123
  go_wp2_with fail
  have CA:=Ce.made (w:=w) (l:=[r.e,.int .u64 r.p.a,.int .u64 r.p.b,.int .u64 r.c.a,.int .u64 r.c.b,.int .u64 r.n.a,.int .u64 r.n.b]) (T:=32) (g:=w.heap.size) rfl
  replace CA:=CA.alloc (.cells #[f.a,f.p,f.ta,f.tp] 141)
  have CF:=Ce.made (w:=(w.alloc (.cells #[r.e,.int .u64 r.p.a,.int .u64 r.p.b,.int .u64 r.c.a,.int .u64 r.c.b,.int .u64 r.n.a,.int .u64 r.n.b] 32))) (l:=[f.a,f.p,f.ta,f.tp]) (T:=141) (g:=w.heap.size+1) (by simp)
  have B:Below w.heap.size w ((w.alloc (.cells #[r.e,.int .u64 r.p.a,.int .u64 r.p.b,.int .u64 r.c.a,.int .u64 r.c.b,.int .u64 r.n.a,.int .u64 r.n.b] 32)).alloc (.cells #[f.a,f.p,f.ta,f.tp] 141)):=(((Below.refl w.heap.size w).alloc (by first |exact Nat.le_refl _ | (simp;done) | (simp;omega)) (.cells #[r.e,.int .u64 r.p.a,.int .u64 r.p.b,.int .u64 r.c.a,.int .u64 r.c.b,.int .u64 r.n.a,.int .u64 r.n.b] 32)).alloc (by first |exact Nat.le_refl _ | (simp;done) | (simp;omega)) (.cells #[f.a,f.p,f.ta,f.tp] 141))
  generalize (w.alloc (.cells #[r.e,.int .u64 r.p.a,.int .u64 r.p.b,.int .u64 r.c.a,.int .u64 r.c.b,.int .u64 r.n.a,.int .u64 r.n.b] 32)).alloc (.cells #[f.a,f.p,f.ta,f.tp] 141)=w1 at *
  generalize w.heap.size+1=F at *
  generalize hK:w.heap.size=A at *
  refine(gB kd T _ hkt).mono ?_
  rintro e' w2 ⟨rfl,hb⟩
  replace B:=B.trans (hb.mono (Nat.le_of_lt CA.1))
  replace CA:=CA.below hb
  replace CF:=CF.below hb
  clear hb
  rw[xL]
  obtain ⟨kA,qA,zA⟩:=id CA
  have cg:=qA 0 _ rfl
  have cf:=qA 1 _ rfl
  have b_:=qA 2 _ rfl
  have b9:=qA 3 _ rfl
  have bZ:=qA 4 _ rfl
  have bY:=qA 5 _ rfl
  have bX:=qA 6 _ rfl
  clear qA zA
  obtain ⟨kF,qF,zF⟩:=id CF
  have bL:=qF 0 _ rfl
  have bK:=qF 1 _ rfl
  have bJ:=qF 2 _ rfl
  have bI:=qF 3 _ rfl
  clear qF zF
  go_wp2_with fail
  clear kA cg cf b_ b9 bZ bY bX
  clear kF bL bK bJ bI
  have CS:=Ce.made (w:=w2) (l:=[.int .u64 s1,.int .u64 2,.int .u64 s2,.int .u64 6,.int .u64 0,.int .u64 s2]) (T:=194) (g:=w2.heap.size) rfl
  replace B:=B.alloc (Nat.le_of_lt CA.1) (.cells #[.int .u64 s1,.int .u64 2,.int .u64 s2,.int .u64 6,.int .u64 0,.int .u64 s2] 194)
  replace CA:=CA.alloc (.cells #[.int .u64 s1,.int .u64 2,.int .u64 s2,.int .u64 6,.int .u64 0,.int .u64 s2] 194)
  replace CF:=CF.alloc (.cells #[.int .u64 s1,.int .u64 2,.int .u64 s2,.int .u64 6,.int .u64 0,.int .u64 s2] 194)
  generalize w2.alloc (.cells #[.int .u64 s1,.int .u64 2,.int .u64 s2,.int .u64 6,.int .u64 0,.int .u64 s2] 194)=w3 at *
  generalize w2.heap.size=S at *
  exact qXH
 by_cases h1:M≤c
 ·rw[if_pos (Or.inr (by omega))]at ho
  subst ho
  have g0:0≤c:=by omega
  go_enter Tryz.func123,Tryz.ntmps123
  go_wp2_with fail
  have CA:=Ce.made (w:=w) (l:=[r.e,.int .u64 r.p.a,.int .u64 r.p.b,.int .u64 r.c.a,.int .u64 r.c.b,.int .u64 r.n.a,.int .u64 r.n.b]) (T:=32) (g:=w.heap.size) rfl
  replace CA:=CA.alloc (.cells #[f.a,f.p,f.ta,f.tp] 141)
  have CF:=Ce.made (w:=(w.alloc (.cells #[r.e,.int .u64 r.p.a,.int .u64 r.p.b,.int .u64 r.c.a,.int .u64 r.c.b,.int .u64 r.n.a,.int .u64 r.n.b] 32))) (l:=[f.a,f.p,f.ta,f.tp]) (T:=141) (g:=w.heap.size+1) (by simp)
  have B:Below w.heap.size w ((w.alloc (.cells #[r.e,.int .u64 r.p.a,.int .u64 r.p.b,.int .u64 r.c.a,.int .u64 r.c.b,.int .u64 r.n.a,.int .u64 r.n.b] 32)).alloc (.cells #[f.a,f.p,f.ta,f.tp] 141)):=(((Below.refl w.heap.size w).alloc (by first |exact Nat.le_refl _ | (simp;done) | (simp;omega)) (.cells #[r.e,.int .u64 r.p.a,.int .u64 r.p.b,.int .u64 r.c.a,.int .u64 r.c.b,.int .u64 r.n.a,.int .u64 r.n.b] 32)).alloc (by first |exact Nat.le_refl _ | (simp;done) | (simp;omega)) (.cells #[f.a,f.p,f.ta,f.tp] 141))
  generalize (w.alloc (.cells #[r.e,.int .u64 r.p.a,.int .u64 r.p.b,.int .u64 r.c.a,.int .u64 r.c.b,.int .u64 r.n.a,.int .u64 r.n.b] 32)).alloc (.cells #[f.a,f.p,f.ta,f.tp] 141)=w1 at *
  generalize w.heap.size+1=F at *
  generalize hK:w.heap.size=A at *
  refine(gB kd T _ hkt).mono ?_
  rintro e' w2 ⟨rfl,hb⟩
  replace B:=B.trans (hb.mono (Nat.le_of_lt CA.1))
  replace CA:=CA.below hb
  replace CF:=CF.below hb
  clear hb
  rw[xL]
  obtain ⟨kA,qA,zA⟩:=id CA
  have cg:=qA 0 _ rfl
  have cf:=qA 1 _ rfl
  have b_:=qA 2 _ rfl
  have b9:=qA 3 _ rfl
  have bZ:=qA 4 _ rfl
  have bY:=qA 5 _ rfl
  have bX:=qA 6 _ rfl
  clear qA zA
  obtain ⟨kF,qF,zF⟩:=id CF
  have bL:=qF 0 _ rfl
  have bK:=qF 1 _ rfl
  have bJ:=qF 2 _ rfl
  have bI:=qF 3 _ rfl
  clear qF zF
  go_wp2_with fail
  clear kA cg cf b_ b9 bZ bY bX
  clear kF bL bK bJ bI
  have CS:=Ce.made (w:=w2) (l:=[.int .u64 s1,.int .u64 2,.int .u64 s2,.int .u64 6,.int .u64 0,.int .u64 s2]) (T:=194) (g:=w2.heap.size) rfl
  replace B:=B.alloc (Nat.le_of_lt CA.1) (.cells #[.int .u64 s1,.int .u64 2,.int .u64 s2,.int .u64 6,.int .u64 0,.int .u64 s2] 194)
  replace CA:=CA.alloc (.cells #[.int .u64 s1,.int .u64 2,.int .u64 s2,.int .u64 6,.int .u64 0,.int .u64 s2] 194)
  replace CF:=CF.alloc (.cells #[.int .u64 s1,.int .u64 2,.int .u64 s2,.int .u64 6,.int .u64 0,.int .u64 s2] 194)
  generalize w2.alloc (.cells #[.int .u64 s1,.int .u64 2,.int .u64 s2,.int .u64 6,.int .u64 0,.int .u64 s2] 194)=w3 at *
  generalize w2.heap.size=S at *
  obtain ⟨kA,qA,zA⟩:=id CA
  have cg:=qA 0 _ rfl
  have cf:=qA 1 _ rfl
  have b_:=qA 2 _ rfl
  have b9:=qA 3 _ rfl
  have bZ:=qA 4 _ rfl
  have bY:=qA 5 _ rfl
  have bX:=qA 6 _ rfl
  clear qA zA
  obtain ⟨kF,qF,zF⟩:=id CF
  have bL:=qF 0 _ rfl
  have bK:=qF 1 _ rfl
  have bJ:=qF 2 _ rfl
  have bI:=qF 3 _ rfl
  clear qF zF
  obtain ⟨kS,qS,zS⟩:=id CS
  have eE:=qS 0 _ rfl
  have eD:=qS 1 _ rfl
  have cS2:=qS 2 _ rfl
  have eC:=qS 3 _ rfl
  have eV:=qS 4 _ rfl
  have eU:=qS 5 _ rfl
  clear qS zS
  go_wp2_with fail
  refine(BY.out _).mono ?_
  rintro e' w4 ⟨rfl,hb⟩
  clear kA cg cf b_ b9 bZ bY bX
  clear kF bL bK bJ bI
  clear kS eE eD cS2 eC eV eU
  replace B:=B.trans (hb.mono (Nat.le_of_lt CA.1))
  replace CA:=CA.below hb
  replace CF:=CF.below hb
  replace CS:=CS.below hb
  clear hb
  exact qXH
 rw[if_neg (by omega)]at ho
 have g0:0≤c:=by omega
 have g1:¬M≤c:=h1
 obtain ⟨e,he⟩:∃e,e=c/(64*T):=⟨_,rfl⟩
 obtain ⟨m,hm⟩:∃m,m=c/T%64:=⟨_,rfl⟩
 obtain ⟨t,ht⟩:∃t,t=c%T:=⟨_,rfl⟩
 have ID:c/(64*T)%4=e:=by rw[he];clear he hm ht;rcases hT with rfl |rfl <;> omega
 have xp:dW e:=⟨by omega,by omega⟩
 replace HI:=fun k=>HI.out k g0 (by omega)
 replace AP:=AP.out
 have hmb:m%64=m:=by omega
 rw[ID,←hm,←ht]at AP
 unfold gP at ho HI
 rw[←he,←hm]at ho HI
 rw[←ht]at HI
 replace AP:=hid AP
 replace HI:=hid HI
 have KE:=KY.out e
 clear KY h1
 have HE:=hid he
 have HM:=hid hm
 have HT:=hid ht
 have Ru:=hid ID
 clear he hm ht ID
 cases hk:keyOf r e with
 |none=>
  rw[hk]at ho KE
  subst ho
  have KY:=hid KE
  clear KE
  go_enter Tryz.func123,Tryz.ntmps123
  go_wp2_with fail
  have CA:=Ce.made (w:=w) (l:=[r.e,.int .u64 r.p.a,.int .u64 r.p.b,.int .u64 r.c.a,.int .u64 r.c.b,.int .u64 r.n.a,.int .u64 r.n.b]) (T:=32) (g:=w.heap.size) rfl
  replace CA:=CA.alloc (.cells #[f.a,f.p,f.ta,f.tp] 141)
  have CF:=Ce.made (w:=(w.alloc (.cells #[r.e,.int .u64 r.p.a,.int .u64 r.p.b,.int .u64 r.c.a,.int .u64 r.c.b,.int .u64 r.n.a,.int .u64 r.n.b] 32))) (l:=[f.a,f.p,f.ta,f.tp]) (T:=141) (g:=w.heap.size+1) (by simp)
  have B:Below w.heap.size w ((w.alloc (.cells #[r.e,.int .u64 r.p.a,.int .u64 r.p.b,.int .u64 r.c.a,.int .u64 r.c.b,.int .u64 r.n.a,.int .u64 r.n.b] 32)).alloc (.cells #[f.a,f.p,f.ta,f.tp] 141)):=(((Below.refl w.heap.size w).alloc (by first |exact Nat.le_refl _ | (simp;done) | (simp;omega)) (.cells #[r.e,.int .u64 r.p.a,.int .u64 r.p.b,.int .u64 r.c.a,.int .u64 r.c.b,.int .u64 r.n.a,.int .u64 r.n.b] 32)).alloc (by first |exact Nat.le_refl _ | (simp;done) | (simp;omega)) (.cells #[f.a,f.p,f.ta,f.tp] 141))
  generalize (w.alloc (.cells #[r.e,.int .u64 r.p.a,.int .u64 r.p.b,.int .u64 r.c.a,.int .u64 r.c.b,.int .u64 r.n.a,.int .u64 r.n.b] 32)).alloc (.cells #[f.a,f.p,f.ta,f.tp] 141)=w1 at *
  generalize w.heap.size+1=F at *
  generalize hK:w.heap.size=A at *
  refine(gB kd T _ hkt).mono ?_
  rintro e' w2 ⟨rfl,hb⟩
  replace B:=B.trans (hb.mono (Nat.le_of_lt CA.1))
  replace CA:=CA.below hb
  replace CF:=CF.below hb
  clear hb
  rw[xL]
  obtain ⟨kA,qA,zA⟩:=id CA
  have cg:=qA 0 _ rfl
  have cf:=qA 1 _ rfl
  have b_:=qA 2 _ rfl
  have b9:=qA 3 _ rfl
  have bZ:=qA 4 _ rfl
  have bY:=qA 5 _ rfl
  have bX:=qA 6 _ rfl
  clear qA zA
  obtain ⟨kF,qF,zF⟩:=id CF
  have bL:=qF 0 _ rfl
  have bK:=qF 1 _ rfl
  have bJ:=qF 2 _ rfl
  have bI:=qF 3 _ rfl
  clear qF zF
  go_wp2_with fail
  clear kA cg cf b_ b9 bZ bY bX
  clear kF bL bK bJ bI
  have CS:=Ce.made (w:=w2) (l:=[.int .u64 s1,.int .u64 2,.int .u64 s2,.int .u64 6,.int .u64 0,.int .u64 s2]) (T:=194) (g:=w2.heap.size) rfl
  replace B:=B.alloc (Nat.le_of_lt CA.1) (.cells #[.int .u64 s1,.int .u64 2,.int .u64 s2,.int .u64 6,.int .u64 0,.int .u64 s2] 194)
  replace CA:=CA.alloc (.cells #[.int .u64 s1,.int .u64 2,.int .u64 s2,.int .u64 6,.int .u64 0,.int .u64 s2] 194)
  replace CF:=CF.alloc (.cells #[.int .u64 s1,.int .u64 2,.int .u64 s2,.int .u64 6,.int .u64 0,.int .u64 s2] 194)
  generalize w2.alloc (.cells #[.int .u64 s1,.int .u64 2,.int .u64 s2,.int .u64 6,.int .u64 0,.int .u64 s2] 194)=w3 at *
  generalize w2.heap.size=S at *
  obtain ⟨kA,qA,zA⟩:=id CA
  have cg:=qA 0 _ rfl
  have cf:=qA 1 _ rfl
  have b_:=qA 2 _ rfl
  have b9:=qA 3 _ rfl
  have bZ:=qA 4 _ rfl
  have bY:=qA 5 _ rfl
  have bX:=qA 6 _ rfl
  clear qA zA
  obtain ⟨kF,qF,zF⟩:=id CF
  have bL:=qF 0 _ rfl
  have bK:=qF 1 _ rfl
  have bJ:=qF 2 _ rfl
  have bI:=qF 3 _ rfl
  clear qF zF
  obtain ⟨kS,qS,zS⟩:=id CS
  have eE:=qS 0 _ rfl
  have eD:=qS 1 _ rfl
  have cS2:=qS 2 _ rfl
  have eC:=qS 3 _ rfl
  have eV:=qS 4 _ rfl
  have eU:=qS 5 _ rfl
  clear qS zS
  go_wp2_with fail
  refine(BY.out _).mono ?_
  rintro e' w4 ⟨rfl,hb⟩
  clear kA cg cf b_ b9 bZ bY bX
  clear kF bL bK bJ bI
  clear kS eE eD cS2 eC eV eU
  replace B:=B.trans (hb.mono (Nat.le_of_lt CA.1))
  replace CA:=CA.below hb
  replace CF:=CF.below hb
  replace CS:=CS.below hb
  clear hb
  obtain ⟨kA,qA,zA⟩:=id CA
  have cg:=qA 0 _ rfl
  have cf:=qA 1 _ rfl
  have b_:=qA 2 _ rfl
  have b9:=qA 3 _ rfl
  have bZ:=qA 4 _ rfl
  have bY:=qA 5 _ rfl
  have bX:=qA 6 _ rfl
  clear qA zA
  obtain ⟨kF,qF,zF⟩:=id CF
  have bL:=qF 0 _ rfl
  have bK:=qF 1 _ rfl
  have bJ:=qF 2 _ rfl
  have bI:=qF 3 _ rfl
  clear qF zF
  obtain ⟨kS,qS,zS⟩:=id CS
  have eE:=qS 0 _ rfl
  have eD:=qS 1 _ rfl
  have cS2:=qS 2 _ rfl
  have eC:=qS 3 _ rfl
  have eV:=qS 4 _ rfl
  have eU:=qS 5 _ rfl
  clear qS zS
  go_wp2_with fail
  refine(AP.out _).mono ?_
  rintro e' w5 ⟨rfl,hb⟩
  replace B:=B.trans (hb.mono (Nat.le_of_lt CA.1))
  replace CA:=CA.below hb
  replace CF:=CF.below hb
  replace CS:=CS.below hb
  clear hb
  clear kA cg cf b_ b9 bZ bY bX
  clear kF bL bK bJ bI
  clear kS eE eD cS2 eC eV eU
  obtain ⟨kA,qA,zA⟩:=id CA
  have cg:=qA 0 _ rfl
  have cf:=qA 1 _ rfl
  have b_:=qA 2 _ rfl
  have b9:=qA 3 _ rfl
  have bZ:=qA 4 _ rfl
  have bY:=qA 5 _ rfl
  have bX:=qA 6 _ rfl
  clear qA zA
  obtain ⟨kF,qF,zF⟩:=id CF
  have bL:=qF 0 _ rfl
  have bK:=qF 1 _ rfl
  have bJ:=qF 2 _ rfl
  have bI:=qF 3 _ rfl
  clear qF zF
  obtain ⟨kS,qS,zS⟩:=id CS
  have eE:=qS 0 _ rfl
  have eD:=qS 1 _ rfl
  have cS2:=qS 2 _ rfl
  have eC:=qS 3 _ rfl
  have eV:=qS 4 _ rfl
  have eU:=qS 5 _ rfl
  clear qS zS
  go_wp2_with fail
  clear kA cg cf b_ b9 bZ bY bX
  clear kF bL bK bJ bI
  clear kS eE eD cS2 eC eV eU
  have CG:=Ce.made (w:=w5) (l:=[e,m,t]) (T:=198) (g:=w5.heap.size) rfl
  replace B:=B.alloc (Nat.le_of_lt CA.1) (.cells #[e,m,t] 198)
  replace CA:=CA.alloc (.cells #[e,m,t] 198)
  replace CF:=CF.alloc (.cells #[e,m,t] 198)
  replace CS:=CS.alloc (.cells #[e,m,t] 198)
  generalize w5.alloc (.cells #[e,m,t] 198)=w6 at *
  generalize w5.heap.size=G at *
  obtain ⟨kA,qA,zA⟩:=id CA
  have cg:=qA 0 _ rfl
  have cf:=qA 1 _ rfl
  have b_:=qA 2 _ rfl
  have b9:=qA 3 _ rfl
  have bZ:=qA 4 _ rfl
  have bY:=qA 5 _ rfl
  have bX:=qA 6 _ rfl
  clear qA zA
  obtain ⟨kF,qF,zF⟩:=id CF
  have bL:=qF 0 _ rfl
  have bK:=qF 1 _ rfl
  have bJ:=qF 2 _ rfl
  have bI:=qF 3 _ rfl
  clear qF zF
  obtain ⟨kS,qS,zS⟩:=id CS
  have eE:=qS 0 _ rfl
  have eD:=qS 1 _ rfl
  have cS2:=qS 2 _ rfl
  have eC:=qS 3 _ rfl
  have eV:=qS 4 _ rfl
  have eU:=qS 5 _ rfl
  clear qS zS
  obtain ⟨kG,qG,zG⟩:=id CG
  have oy:=qG 0 _ rfl
  have ox:=qG 1 _ rfl
  have ow:=qG 2 _ rfl
  clear qG zG
  go_wp2_with fail
  refine(KY.out _).mono ?_
  rintro e' w7 ⟨rfl,hb⟩
  replace B:=B.trans (hb.mono (Nat.le_of_lt CA.1))
  replace CA:=CA.below hb
  replace CF:=CF.below hb
  replace CS:=CS.below hb
  replace CG:=CG.below hb
  clear hb
  clear kA cg cf b_ b9 bZ bY bX
  clear kF bL bK bJ bI
  clear kS eE eD cS2 eC eV eU
  clear kG oy ox ow
  obtain ⟨kA,qA,zA⟩:=id CA
  have cg:=qA 0 _ rfl
  have cf:=qA 1 _ rfl
  have b_:=qA 2 _ rfl
  have b9:=qA 3 _ rfl
  have bZ:=qA 4 _ rfl
  have bY:=qA 5 _ rfl
  have bX:=qA 6 _ rfl
  clear qA zA
  obtain ⟨kF,qF,zF⟩:=id CF
  have bL:=qF 0 _ rfl
  have bK:=qF 1 _ rfl
  have bJ:=qF 2 _ rfl
  have bI:=qF 3 _ rfl
  clear qF zF
  obtain ⟨kS,qS,zS⟩:=id CS
  have eE:=qS 0 _ rfl
  have eD:=qS 1 _ rfl
  have cS2:=qS 2 _ rfl
  have eC:=qS 3 _ rfl
  have eV:=qS 4 _ rfl
  have eU:=qS 5 _ rfl
  clear qS zS
  obtain ⟨kG,qG,zG⟩:=id CG
  have oy:=qG 0 _ rfl
  have ox:=qG 1 _ rfl
  have ow:=qG 2 _ rfl
  clear qG zG
  go_wp2_with fail
  refine bodyPost_ret (by simp[results,Tryz.results123,go_sem]) rfl ⟨rfl,?_⟩
  rw[hK]
  exact B.alloc (Nat.le_of_lt CA.1) _
 |some k=>
  rw[hk]at ho KE
  simp only at ho
  obtain ⟨sl,hsl⟩:∃sl,sl=xr m (W7 k kd f 64 e%64):=⟨_,rfl⟩
  rw[←hsl]at ho
  have ri:0≤sl∧sl<64:=by rw[hsl];exact jD _ _ ⟨by omega,by omega⟩ ⟨by omega,by omega⟩
  have HI2:=HI.out k
  rw[←hsl]at HI2
  have hx:bits .xor .i64 m (wrap64 (W7 k kd f 64 e))%64=sl:=by
   rw[ui,show wrap64 (W7 k kd f 64 e)%64=W7 k kd f 64 e%64 from sA _ 6 (by omega),hmb,hsl]
  have hback:xr (sl%64) (W7 k kd f 64 e%64)=m:=by
   rw[show sl%64=sl from by omega,hsl,wR _ _ (by omega)]
  have Mf:=hid (MK.out k e xp)
  have xK:=MD.out k sl e ⟨by omega,by omega⟩ xp
  rw[hback]at xK
  obtain ⟨tv,Lm⟩:∃tv,tv=W7 k kd f sl e%T:=⟨_,rfl⟩
  rw[←Lm]at xK HI2
  replace xK:=hid xK
  clear Lm hback hsl MD MK HI hk ri
  by_cases jO:tv=t
  ·rw[if_pos (HI2.2 jO)]at ho
   subst ho
   have HT2:=hid jO
   subst jO
   clear HI2 HT2
   have KY:=hid KE
   clear KE
   go_enter Tryz.func123,Tryz.ntmps123
   go_wp2_with fail
   have CA:=Ce.made (w:=w) (l:=[r.e,.int .u64 r.p.a,.int .u64 r.p.b,.int .u64 r.c.a,.int .u64 r.c.b,.int .u64 r.n.a,.int .u64 r.n.b]) (T:=32) (g:=w.heap.size) rfl
   replace CA:=CA.alloc (.cells #[f.a,f.p,f.ta,f.tp] 141)
   have CF:=Ce.made (w:=(w.alloc (.cells #[r.e,.int .u64 r.p.a,.int .u64 r.p.b,.int .u64 r.c.a,.int .u64 r.c.b,.int .u64 r.n.a,.int .u64 r.n.b] 32))) (l:=[f.a,f.p,f.ta,f.tp]) (T:=141) (g:=w.heap.size+1) (by simp)
   have B:Below w.heap.size w ((w.alloc (.cells #[r.e,.int .u64 r.p.a,.int .u64 r.p.b,.int .u64 r.c.a,.int .u64 r.c.b,.int .u64 r.n.a,.int .u64 r.n.b] 32)).alloc (.cells #[f.a,f.p,f.ta,f.tp] 141)):=(((Below.refl w.heap.size w).alloc (by first |exact Nat.le_refl _ | (simp;done) | (simp;omega)) (.cells #[r.e,.int .u64 r.p.a,.int .u64 r.p.b,.int .u64 r.c.a,.int .u64 r.c.b,.int .u64 r.n.a,.int .u64 r.n.b] 32)).alloc (by first |exact Nat.le_refl _ | (simp;done) | (simp;omega)) (.cells #[f.a,f.p,f.ta,f.tp] 141))
   generalize (w.alloc (.cells #[r.e,.int .u64 r.p.a,.int .u64 r.p.b,.int .u64 r.c.a,.int .u64 r.c.b,.int .u64 r.n.a,.int .u64 r.n.b] 32)).alloc (.cells #[f.a,f.p,f.ta,f.tp] 141)=w1 at *
   generalize w.heap.size+1=F at *
   generalize hK:w.heap.size=A at *
   refine(gB kd T _ hkt).mono ?_
   rintro e' w2 ⟨rfl,hb⟩
   replace B:=B.trans (hb.mono (Nat.le_of_lt CA.1))
   replace CA:=CA.below hb
   replace CF:=CF.below hb
   clear hb
   rw[xL]
   obtain ⟨kA,qA,zA⟩:=id CA
   have cg:=qA 0 _ rfl
   have cf:=qA 1 _ rfl
   have b_:=qA 2 _ rfl
   have b9:=qA 3 _ rfl
   have bZ:=qA 4 _ rfl
   have bY:=qA 5 _ rfl
   have bX:=qA 6 _ rfl
   clear qA zA
   obtain ⟨kF,qF,zF⟩:=id CF
   have bL:=qF 0 _ rfl
   have bK:=qF 1 _ rfl
   have bJ:=qF 2 _ rfl
   have bI:=qF 3 _ rfl
   clear qF zF
   go_wp2_with fail
   clear kA cg cf b_ b9 bZ bY bX
   clear kF bL bK bJ bI
   have CS:=Ce.made (w:=w2) (l:=[.int .u64 s1,.int .u64 2,.int .u64 s2,.int .u64 6,.int .u64 0,.int .u64 s2]) (T:=194) (g:=w2.heap.size) rfl
   replace B:=B.alloc (Nat.le_of_lt CA.1) (.cells #[.int .u64 s1,.int .u64 2,.int .u64 s2,.int .u64 6,.int .u64 0,.int .u64 s2] 194)
   replace CA:=CA.alloc (.cells #[.int .u64 s1,.int .u64 2,.int .u64 s2,.int .u64 6,.int .u64 0,.int .u64 s2] 194)
   replace CF:=CF.alloc (.cells #[.int .u64 s1,.int .u64 2,.int .u64 s2,.int .u64 6,.int .u64 0,.int .u64 s2] 194)
   generalize w2.alloc (.cells #[.int .u64 s1,.int .u64 2,.int .u64 s2,.int .u64 6,.int .u64 0,.int .u64 s2] 194)=w3 at *
   generalize w2.heap.size=S at *
   obtain ⟨kA,qA,zA⟩:=id CA
   have cg:=qA 0 _ rfl
   have cf:=qA 1 _ rfl
   have b_:=qA 2 _ rfl
   have b9:=qA 3 _ rfl
   have bZ:=qA 4 _ rfl
   have bY:=qA 5 _ rfl
   have bX:=qA 6 _ rfl
   clear qA zA
   obtain ⟨kF,qF,zF⟩:=id CF
   have bL:=qF 0 _ rfl
   have bK:=qF 1 _ rfl
   have bJ:=qF 2 _ rfl
   have bI:=qF 3 _ rfl
   clear qF zF
   obtain ⟨kS,qS,zS⟩:=id CS
   have eE:=qS 0 _ rfl
   have eD:=qS 1 _ rfl
   have cS2:=qS 2 _ rfl
   have eC:=qS 3 _ rfl
   have eV:=qS 4 _ rfl
   have eU:=qS 5 _ rfl
   clear qS zS
   go_wp2_with fail
   refine(BY.out _).mono ?_
   rintro e' w4 ⟨rfl,hb⟩
   clear kA cg cf b_ b9 bZ bY bX
   clear kF bL bK bJ bI
   clear kS eE eD cS2 eC eV eU
   replace B:=B.trans (hb.mono (Nat.le_of_lt CA.1))
   replace CA:=CA.below hb
   replace CF:=CF.below hb
   replace CS:=CS.below hb
   clear hb
   obtain ⟨kA,qA,zA⟩:=id CA
   have cg:=qA 0 _ rfl
   have cf:=qA 1 _ rfl
   have b_:=qA 2 _ rfl
   have b9:=qA 3 _ rfl
   have bZ:=qA 4 _ rfl
   have bY:=qA 5 _ rfl
   have bX:=qA 6 _ rfl
   clear qA zA
   obtain ⟨kF,qF,zF⟩:=id CF
   have bL:=qF 0 _ rfl
   have bK:=qF 1 _ rfl
   have bJ:=qF 2 _ rfl
   have bI:=qF 3 _ rfl
   clear qF zF
   obtain ⟨kS,qS,zS⟩:=id CS
   have eE:=qS 0 _ rfl
   have eD:=qS 1 _ rfl
   have cS2:=qS 2 _ rfl
   have eC:=qS 3 _ rfl
   have eV:=qS 4 _ rfl
   have eU:=qS 5 _ rfl
   clear qS zS
   go_wp2_with fail
   refine(AP.out _).mono ?_
   rintro e' w5 ⟨rfl,hb⟩
   replace B:=B.trans (hb.mono (Nat.le_of_lt CA.1))
   replace CA:=CA.below hb
   replace CF:=CF.below hb
   replace CS:=CS.below hb
   clear hb
   clear kA cg cf b_ b9 bZ bY bX
   clear kF bL bK bJ bI
   clear kS eE eD cS2 eC eV eU
   obtain ⟨kA,qA,zA⟩:=id CA
   have cg:=qA 0 _ rfl
   have cf:=qA 1 _ rfl
   have b_:=qA 2 _ rfl
   have b9:=qA 3 _ rfl
   have bZ:=qA 4 _ rfl
   have bY:=qA 5 _ rfl
   have bX:=qA 6 _ rfl
   clear qA zA
   obtain ⟨kF,qF,zF⟩:=id CF
   have bL:=qF 0 _ rfl
   have bK:=qF 1 _ rfl
   have bJ:=qF 2 _ rfl
   have bI:=qF 3 _ rfl
   clear qF zF
   obtain ⟨kS,qS,zS⟩:=id CS
   have eE:=qS 0 _ rfl
   have eD:=qS 1 _ rfl
   have cS2:=qS 2 _ rfl
   have eC:=qS 3 _ rfl
   have eV:=qS 4 _ rfl
   have eU:=qS 5 _ rfl
   clear qS zS
   go_wp2_with fail
   clear kA cg cf b_ b9 bZ bY bX
   clear kF bL bK bJ bI
   clear kS eE eD cS2 eC eV eU
   have CG:=Ce.made (w:=w5) (l:=[e,m,tv]) (T:=198) (g:=w5.heap.size) rfl
   replace B:=B.alloc (Nat.le_of_lt CA.1) (.cells #[e,m,tv] 198)
   replace CA:=CA.alloc (.cells #[e,m,tv] 198)
   replace CF:=CF.alloc (.cells #[e,m,tv] 198)
   replace CS:=CS.alloc (.cells #[e,m,tv] 198)
   generalize w5.alloc (.cells #[e,m,tv] 198)=w6 at *
   generalize w5.heap.size=G at *
   obtain ⟨kA,qA,zA⟩:=id CA
   have cg:=qA 0 _ rfl
   have cf:=qA 1 _ rfl
   have b_:=qA 2 _ rfl
   have b9:=qA 3 _ rfl
   have bZ:=qA 4 _ rfl
   have bY:=qA 5 _ rfl
   have bX:=qA 6 _ rfl
   clear qA zA
   obtain ⟨kF,qF,zF⟩:=id CF
   have bL:=qF 0 _ rfl
   have bK:=qF 1 _ rfl
   have bJ:=qF 2 _ rfl
   have bI:=qF 3 _ rfl
   clear qF zF
   obtain ⟨kS,qS,zS⟩:=id CS
   have eE:=qS 0 _ rfl
   have eD:=qS 1 _ rfl
   have cS2:=qS 2 _ rfl
   have eC:=qS 3 _ rfl
   have eV:=qS 4 _ rfl
   have eU:=qS 5 _ rfl
   clear qS zS
   obtain ⟨kG,qG,zG⟩:=id CG
   have oy:=qG 0 _ rfl
   have ox:=qG 1 _ rfl
   have ow:=qG 2 _ rfl
   clear qG zG
   go_wp2_with fail
   refine(KY.out _).mono ?_
   rintro e' w7 ⟨rfl,hb⟩
   replace B:=B.trans (hb.mono (Nat.le_of_lt CA.1))
   replace CA:=CA.below hb
   replace CF:=CF.below hb
   replace CS:=CS.below hb
   replace CG:=CG.below hb
   clear hb
   clear kA cg cf b_ b9 bZ bY bX
   clear kF bL bK bJ bI
   clear kS eE eD cS2 eC eV eU
   clear kG oy ox ow
   obtain ⟨kA,qA,zA⟩:=id CA
   have cg:=qA 0 _ rfl
   have cf:=qA 1 _ rfl
   have b_:=qA 2 _ rfl
   have b9:=qA 3 _ rfl
   have bZ:=qA 4 _ rfl
   have bY:=qA 5 _ rfl
   have bX:=qA 6 _ rfl
   clear qA zA
   obtain ⟨kF,qF,zF⟩:=id CF
   have bL:=qF 0 _ rfl
   have bK:=qF 1 _ rfl
   have bJ:=qF 2 _ rfl
   have bI:=qF 3 _ rfl
   clear qF zF
   obtain ⟨kS,qS,zS⟩:=id CS
   have eE:=qS 0 _ rfl
   have eD:=qS 1 _ rfl
   have cS2:=qS 2 _ rfl
   have eC:=qS 3 _ rfl
   have eV:=qS 4 _ rfl
   have eU:=qS 5 _ rfl
   clear qS zS
   obtain ⟨kG,qG,zG⟩:=id CG
   have oy:=qG 0 _ rfl
   have ox:=qG 1 _ rfl
   have ow:=qG 2 _ rfl
   clear qG zG
   go_wp2_with fail
   clear kA cg cf b_ b9 bZ bY bX
   clear kF bL bK bJ bI
   clear kS eE eD cS2 eC eV eU
   clear kG oy ox ow
   have CD:=Ce.made (w:=w7) (l:=[.int .u64 k.a,.int .u64 k.b]) (T:=30) (g:=w7.heap.size) rfl
   replace B:=B.alloc (Nat.le_of_lt CA.1) (.cells #[.int .u64 k.a,.int .u64 k.b] 30)
   replace CA:=CA.alloc (.cells #[.int .u64 k.a,.int .u64 k.b] 30)
   replace CF:=CF.alloc (.cells #[.int .u64 k.a,.int .u64 k.b] 30)
   replace CS:=CS.alloc (.cells #[.int .u64 k.a,.int .u64 k.b] 30)
   replace CG:=CG.alloc (.cells #[.int .u64 k.a,.int .u64 k.b] 30)
   generalize w7.alloc (.cells #[.int .u64 k.a,.int .u64 k.b] 30)=w8 at *
   generalize w7.heap.size=D at *
   obtain ⟨kA,qA,zA⟩:=id CA
   have cg:=qA 0 _ rfl
   have cf:=qA 1 _ rfl
   have b_:=qA 2 _ rfl
   have b9:=qA 3 _ rfl
   have bZ:=qA 4 _ rfl
   have bY:=qA 5 _ rfl
   have bX:=qA 6 _ rfl
   clear qA zA
   obtain ⟨kF,qF,zF⟩:=id CF
   have bL:=qF 0 _ rfl
   have bK:=qF 1 _ rfl
   have bJ:=qF 2 _ rfl
   have bI:=qF 3 _ rfl
   clear qF zF
   obtain ⟨kS,qS,zS⟩:=id CS
   have eE:=qS 0 _ rfl
   have eD:=qS 1 _ rfl
   have cS2:=qS 2 _ rfl
   have eC:=qS 3 _ rfl
   have eV:=qS 4 _ rfl
   have eU:=qS 5 _ rfl
   clear qS zS
   obtain ⟨kG,qG,zG⟩:=id CG
   have oy:=qG 0 _ rfl
   have ox:=qG 1 _ rfl
   have ow:=qG 2 _ rfl
   clear qG zG
   obtain ⟨kD,qD,zD⟩:=id CD
   have ng:=qD 0 _ rfl
   have nf:=qD 1 _ rfl
   clear qD zD
   go_region_held3 (fun w'=>w'.cell? ⟨F,0,none⟩=some (.int .i64 f.a)∧w'.cell? ⟨F,1,none⟩=some (.int .i64 f.p)∧w'.cell? ⟨F,2,none⟩=some (.int .i64 f.ta)∧w'.cell? ⟨F,3,none⟩=some (.int .i64 f.tp)∧w'.cell? ⟨S,0,none⟩=some (.int .u64 s1)∧w'.cell? ⟨S,1,none⟩=some (.int .u64 2)∧w'.cell? ⟨S,2,none⟩=some (.int .u64 s2)∧w'.cell? ⟨S,3,none⟩=some (.int .u64 6)∧w'.cell? ⟨S,4,none⟩=some (.int .u64 0)∧w'.cell? ⟨S,5,none⟩=some (.int .u64 s2)∧w'.cell? ⟨G,0,none⟩=some (.int .i64 e)∧w'.cell? ⟨G,1,none⟩=some (.int .i64 m)∧w'.cell? ⟨G,2,none⟩=some (.int .i64 tv)∧w'.cell? ⟨D,0,none⟩=some (.int .u64 k.a)∧w'.cell? ⟨D,1,none⟩=some (.int .u64 k.b)∧F<w'.heap.size∧S<w'.heap.size∧G<w'.heap.size∧D<w'.heap.size∧A<w'.heap.size∧Below A w w')
    (first
     | (go_split_ands;refine⟨?_,?_,?_,?_,?_,?_,?_,?_,?_,?_,?_,?_,?_,?_,?_,?_,?_,?_,?_,?_,?_⟩;(iterate 15 (exact(hb5.cell (by assumption)).trans (by assumption)));(iterate 5 (exact Nat.lt_of_lt_of_le (by assumption) hb5.size));exact Below.trans (by assumption) (hb5.mono (by first |exact Nat.le_of_lt (by assumption) |exact Below.size (by assumption))))
     | (refine⟨?_,?_,?_,?_,?_,?_,?_,?_,?_,?_,?_,?_,?_,?_,?_,?_,?_,?_,?_,?_,?_⟩;(iterate 20 (assumption));exact Below.drew (by assumption))
     | (go_split_ands;refine⟨?_,?_,?_,?_,?_,?_,?_,?_,?_,?_,?_,?_,?_,?_,?_,?_,?_,?_,?_,?_,?_⟩;(iterate 15 (exact(World.cell?_alloc_lt _ _ _ (by assumption)).trans (by assumption)));(simp;omega);(simp;omega);(simp;omega);(simp;omega);(simp;omega);exact Below.alloc (by assumption) (by first |exact Nat.le_of_lt (by assumption) |exact Below.size (by assumption)) _)
     | (go_split_ands;refine⟨?_,?_,?_,?_,?_,?_,?_,?_,?_,?_,?_,?_,?_,?_,?_,?_,?_,?_,?_,?_,?_⟩;(iterate 15 (exact(World.cell?_alloc_lt _ _ _ (by assumption)).trans (by assumption)));(iterate 5 (exact Nat.lt_of_lt_of_le (by assumption) (Below.drew (Below.alloc (Below.refl _ _) (Nat.le_refl _) _)).size));exact Below.drew (Below.alloc (by assumption) (Below.size (by assumption)) _))
     | (go_split_ands;refine⟨?_,?_,?_,?_,?_,?_,?_,?_,?_,?_,?_,?_,?_,?_,?_,?_,?_,?_,?_,?_,?_⟩;(iterate 20 (assumption));assumption)
     |go_keep)
    ((first
      | (go_at_call 163
         go_split_ands
         with_reducible refine(Mf.out _).mono ?_
         rintro e w5 ⟨rfl,hb5⟩)
      | (go_at_call 162
         go_split_ands
         with_reducible refine(pn s2 6 _ _ ?_).mono ?_
         ·decide
         rintro e w5 ⟨rfl,hb5⟩)))
   go_split_ands
   go_wp2_with fail
   go_region_held3 (fun w'=>w'.cell? ⟨F,0,none⟩=some (.int .i64 f.a)∧w'.cell? ⟨F,1,none⟩=some (.int .i64 f.p)∧w'.cell? ⟨F,2,none⟩=some (.int .i64 f.ta)∧w'.cell? ⟨F,3,none⟩=some (.int .i64 f.tp)∧w'.cell? ⟨S,0,none⟩=some (.int .u64 s1)∧w'.cell? ⟨S,1,none⟩=some (.int .u64 2)∧w'.cell? ⟨S,2,none⟩=some (.int .u64 s2)∧w'.cell? ⟨S,3,none⟩=some (.int .u64 6)∧w'.cell? ⟨S,4,none⟩=some (.int .u64 0)∧w'.cell? ⟨S,5,none⟩=some (.int .u64 s2)∧w'.cell? ⟨G,0,none⟩=some (.int .i64 e)∧w'.cell? ⟨G,1,none⟩=some (.int .i64 m)∧w'.cell? ⟨G,2,none⟩=some (.int .i64 tv)∧w'.cell? ⟨D,0,none⟩=some (.int .u64 k.a)∧w'.cell? ⟨D,1,none⟩=some (.int .u64 k.b)∧F<w'.heap.size∧S<w'.heap.size∧G<w'.heap.size∧D<w'.heap.size∧A<w'.heap.size∧Below A w w')
    (first
     | (go_split_ands;refine⟨?_,?_,?_,?_,?_,?_,?_,?_,?_,?_,?_,?_,?_,?_,?_,?_,?_,?_,?_,?_,?_⟩;(iterate 15 (exact(hb5.cell (by assumption)).trans (by assumption)));(iterate 5 (exact Nat.lt_of_lt_of_le (by assumption) hb5.size));exact Below.trans (by assumption) (hb5.mono (by first |exact Nat.le_of_lt (by assumption) |exact Below.size (by assumption))))
     | (refine⟨?_,?_,?_,?_,?_,?_,?_,?_,?_,?_,?_,?_,?_,?_,?_,?_,?_,?_,?_,?_,?_⟩;(iterate 20 (assumption));exact Below.drew (by assumption))
     | (go_split_ands;refine⟨?_,?_,?_,?_,?_,?_,?_,?_,?_,?_,?_,?_,?_,?_,?_,?_,?_,?_,?_,?_,?_⟩;(iterate 15 (exact(World.cell?_alloc_lt _ _ _ (by assumption)).trans (by assumption)));(simp;omega);(simp;omega);(simp;omega);(simp;omega);(simp;omega);exact Below.alloc (by assumption) (by first |exact Nat.le_of_lt (by assumption) |exact Below.size (by assumption)) _)
     | (go_split_ands;refine⟨?_,?_,?_,?_,?_,?_,?_,?_,?_,?_,?_,?_,?_,?_,?_,?_,?_,?_,?_,?_,?_⟩;(iterate 15 (exact(World.cell?_alloc_lt _ _ _ (by assumption)).trans (by assumption)));(iterate 5 (exact Nat.lt_of_lt_of_le (by assumption) (Below.drew (Below.alloc (Below.refl _ _) (Nat.le_refl _) _)).size));exact Below.drew (Below.alloc (by assumption) (Below.size (by assumption)) _))
     | (go_split_ands;refine⟨?_,?_,?_,?_,?_,?_,?_,?_,?_,?_,?_,?_,?_,?_,?_,?_,?_,?_,?_,?_,?_⟩;(iterate 20 (assumption));assumption)
     |go_keep)
    ((first
      | (go_at_call 133
         go_split_ands
         with_reducible refine(xK.out _).mono ?_
         rintro e w5 ⟨rfl,hb5⟩)))
   exact qYM
  rw[if_neg (fun h=>jO (HI2.1 h))]at ho
  subst ho
  have hb1:(tv==t)=false:=by simp[jO]
  clear HI2
  have KY:=hid KE
  clear KE
  go_enter Tryz.func123,Tryz.ntmps123
  go_wp2_with fail
  have CA:=Ce.made (w:=w) (l:=[r.e,.int .u64 r.p.a,.int .u64 r.p.b,.int .u64 r.c.a,.int .u64 r.c.b,.int .u64 r.n.a,.int .u64 r.n.b]) (T:=32) (g:=w.heap.size) rfl
  replace CA:=CA.alloc (.cells #[f.a,f.p,f.ta,f.tp] 141)
  have CF:=Ce.made (w:=(w.alloc (.cells #[r.e,.int .u64 r.p.a,.int .u64 r.p.b,.int .u64 r.c.a,.int .u64 r.c.b,.int .u64 r.n.a,.int .u64 r.n.b] 32))) (l:=[f.a,f.p,f.ta,f.tp]) (T:=141) (g:=w.heap.size+1) (by simp)
  have B:Below w.heap.size w ((w.alloc (.cells #[r.e,.int .u64 r.p.a,.int .u64 r.p.b,.int .u64 r.c.a,.int .u64 r.c.b,.int .u64 r.n.a,.int .u64 r.n.b] 32)).alloc (.cells #[f.a,f.p,f.ta,f.tp] 141)):=(((Below.refl w.heap.size w).alloc (by first |exact Nat.le_refl _ | (simp;done) | (simp;omega)) (.cells #[r.e,.int .u64 r.p.a,.int .u64 r.p.b,.int .u64 r.c.a,.int .u64 r.c.b,.int .u64 r.n.a,.int .u64 r.n.b] 32)).alloc (by first |exact Nat.le_refl _ | (simp;done) | (simp;omega)) (.cells #[f.a,f.p,f.ta,f.tp] 141))
  generalize (w.alloc (.cells #[r.e,.int .u64 r.p.a,.int .u64 r.p.b,.int .u64 r.c.a,.int .u64 r.c.b,.int .u64 r.n.a,.int .u64 r.n.b] 32)).alloc (.cells #[f.a,f.p,f.ta,f.tp] 141)=w1 at *
  generalize w.heap.size+1=F at *
  generalize hK:w.heap.size=A at *
  refine(gB kd T _ hkt).mono ?_
  rintro e' w2 ⟨rfl,hb⟩
  replace B:=B.trans (hb.mono (Nat.le_of_lt CA.1))
  replace CA:=CA.below hb
  replace CF:=CF.below hb
  clear hb
  rw[xL]
  obtain ⟨kA,qA,zA⟩:=id CA
  have cg:=qA 0 _ rfl
  have cf:=qA 1 _ rfl
  have b_:=qA 2 _ rfl
  have b9:=qA 3 _ rfl
  have bZ:=qA 4 _ rfl
  have bY:=qA 5 _ rfl
  have bX:=qA 6 _ rfl
  clear qA zA
  obtain ⟨kF,qF,zF⟩:=id CF
  have bL:=qF 0 _ rfl
  have bK:=qF 1 _ rfl
  have bJ:=qF 2 _ rfl
  have bI:=qF 3 _ rfl
  clear qF zF
  go_wp2_with fail
  clear kA cg cf b_ b9 bZ bY bX
  clear kF bL bK bJ bI
  have CS:=Ce.made (w:=w2) (l:=[.int .u64 s1,.int .u64 2,.int .u64 s2,.int .u64 6,.int .u64 0,.int .u64 s2]) (T:=194) (g:=w2.heap.size) rfl
  replace B:=B.alloc (Nat.le_of_lt CA.1) (.cells #[.int .u64 s1,.int .u64 2,.int .u64 s2,.int .u64 6,.int .u64 0,.int .u64 s2] 194)
  replace CA:=CA.alloc (.cells #[.int .u64 s1,.int .u64 2,.int .u64 s2,.int .u64 6,.int .u64 0,.int .u64 s2] 194)
  replace CF:=CF.alloc (.cells #[.int .u64 s1,.int .u64 2,.int .u64 s2,.int .u64 6,.int .u64 0,.int .u64 s2] 194)
  generalize w2.alloc (.cells #[.int .u64 s1,.int .u64 2,.int .u64 s2,.int .u64 6,.int .u64 0,.int .u64 s2] 194)=w3 at *
  generalize w2.heap.size=S at *
  obtain ⟨kA,qA,zA⟩:=id CA
  have cg:=qA 0 _ rfl
  have cf:=qA 1 _ rfl
  have b_:=qA 2 _ rfl
  have b9:=qA 3 _ rfl
  have bZ:=qA 4 _ rfl
  have bY:=qA 5 _ rfl
  have bX:=qA 6 _ rfl
  clear qA zA
  obtain ⟨kF,qF,zF⟩:=id CF
  have bL:=qF 0 _ rfl
  have bK:=qF 1 _ rfl
  have bJ:=qF 2 _ rfl
  have bI:=qF 3 _ rfl
  clear qF zF
  obtain ⟨kS,qS,zS⟩:=id CS
  have eE:=qS 0 _ rfl
  have eD:=qS 1 _ rfl
  have cS2:=qS 2 _ rfl
  have eC:=qS 3 _ rfl
  have eV:=qS 4 _ rfl
  have eU:=qS 5 _ rfl
  clear qS zS
  go_wp2_with fail
  refine(BY.out _).mono ?_
  rintro e' w4 ⟨rfl,hb⟩
  clear kA cg cf b_ b9 bZ bY bX
  clear kF bL bK bJ bI
  clear kS eE eD cS2 eC eV eU
  replace B:=B.trans (hb.mono (Nat.le_of_lt CA.1))
  replace CA:=CA.below hb
  replace CF:=CF.below hb
  replace CS:=CS.below hb
  clear hb
  obtain ⟨kA,qA,zA⟩:=id CA
  have cg:=qA 0 _ rfl
  have cf:=qA 1 _ rfl
  have b_:=qA 2 _ rfl
  have b9:=qA 3 _ rfl
  have bZ:=qA 4 _ rfl
  have bY:=qA 5 _ rfl
  have bX:=qA 6 _ rfl
  clear qA zA
  obtain ⟨kF,qF,zF⟩:=id CF
  have bL:=qF 0 _ rfl
  have bK:=qF 1 _ rfl
  have bJ:=qF 2 _ rfl
  have bI:=qF 3 _ rfl
  clear qF zF
  obtain ⟨kS,qS,zS⟩:=id CS
  have eE:=qS 0 _ rfl
  have eD:=qS 1 _ rfl
  have cS2:=qS 2 _ rfl
  have eC:=qS 3 _ rfl
  have eV:=qS 4 _ rfl
  have eU:=qS 5 _ rfl
  clear qS zS
  go_wp2_with fail
  refine(AP.out _).mono ?_
  rintro e' w5 ⟨rfl,hb⟩
  replace B:=B.trans (hb.mono (Nat.le_of_lt CA.1))
  replace CA:=CA.below hb
  replace CF:=CF.below hb
  replace CS:=CS.below hb
  clear hb
  clear kA cg cf b_ b9 bZ bY bX
  clear kF bL bK bJ bI
  clear kS eE eD cS2 eC eV eU
  obtain ⟨kA,qA,zA⟩:=id CA
  have cg:=qA 0 _ rfl
  have cf:=qA 1 _ rfl
  have b_:=qA 2 _ rfl
  have b9:=qA 3 _ rfl
  have bZ:=qA 4 _ rfl
  have bY:=qA 5 _ rfl
  have bX:=qA 6 _ rfl
  clear qA zA
  obtain ⟨kF,qF,zF⟩:=id CF
  have bL:=qF 0 _ rfl
  have bK:=qF 1 _ rfl
  have bJ:=qF 2 _ rfl
  have bI:=qF 3 _ rfl
  clear qF zF
  obtain ⟨kS,qS,zS⟩:=id CS
  have eE:=qS 0 _ rfl
  have eD:=qS 1 _ rfl
  have cS2:=qS 2 _ rfl
  have eC:=qS 3 _ rfl
  have eV:=qS 4 _ rfl
  have eU:=qS 5 _ rfl
  clear qS zS
  go_wp2_with fail
  clear kA cg cf b_ b9 bZ bY bX
  clear kF bL bK bJ bI
  clear kS eE eD cS2 eC eV eU
  have CG:=Ce.made (w:=w5) (l:=[e,m,t]) (T:=198) (g:=w5.heap.size) rfl
  replace B:=B.alloc (Nat.le_of_lt CA.1) (.cells #[e,m,t] 198)
  replace CA:=CA.alloc (.cells #[e,m,t] 198)
  replace CF:=CF.alloc (.cells #[e,m,t] 198)
  replace CS:=CS.alloc (.cells #[e,m,t] 198)
  generalize w5.alloc (.cells #[e,m,t] 198)=w6 at *
  generalize w5.heap.size=G at *
  obtain ⟨kA,qA,zA⟩:=id CA
  have cg:=qA 0 _ rfl
  have cf:=qA 1 _ rfl
  have b_:=qA 2 _ rfl
  have b9:=qA 3 _ rfl
  have bZ:=qA 4 _ rfl
  have bY:=qA 5 _ rfl
  have bX:=qA 6 _ rfl
  clear qA zA
  obtain ⟨kF,qF,zF⟩:=id CF
  have bL:=qF 0 _ rfl
  have bK:=qF 1 _ rfl
  have bJ:=qF 2 _ rfl
  have bI:=qF 3 _ rfl
  clear qF zF
  obtain ⟨kS,qS,zS⟩:=id CS
  have eE:=qS 0 _ rfl
  have eD:=qS 1 _ rfl
  have cS2:=qS 2 _ rfl
  have eC:=qS 3 _ rfl
  have eV:=qS 4 _ rfl
  have eU:=qS 5 _ rfl
  clear qS zS
  obtain ⟨kG,qG,zG⟩:=id CG
  have oy:=qG 0 _ rfl
  have ox:=qG 1 _ rfl
  have ow:=qG 2 _ rfl
  clear qG zG
  go_wp2_with fail
  refine(KY.out _).mono ?_
  rintro e' w7 ⟨rfl,hb⟩
  replace B:=B.trans (hb.mono (Nat.le_of_lt CA.1))
  replace CA:=CA.below hb
  replace CF:=CF.below hb
  replace CS:=CS.below hb
  replace CG:=CG.below hb
  clear hb
  clear kA cg cf b_ b9 bZ bY bX
  clear kF bL bK bJ bI
  clear kS eE eD cS2 eC eV eU
  clear kG oy ox ow
  obtain ⟨kA,qA,zA⟩:=id CA
  have cg:=qA 0 _ rfl
  have cf:=qA 1 _ rfl
  have b_:=qA 2 _ rfl
  have b9:=qA 3 _ rfl
  have bZ:=qA 4 _ rfl
  have bY:=qA 5 _ rfl
  have bX:=qA 6 _ rfl
  clear qA zA
  obtain ⟨kF,qF,zF⟩:=id CF
  have bL:=qF 0 _ rfl
  have bK:=qF 1 _ rfl
  have bJ:=qF 2 _ rfl
  have bI:=qF 3 _ rfl
  clear qF zF
  obtain ⟨kS,qS,zS⟩:=id CS
  have eE:=qS 0 _ rfl
  have eD:=qS 1 _ rfl
  have cS2:=qS 2 _ rfl
  have eC:=qS 3 _ rfl
  have eV:=qS 4 _ rfl
  have eU:=qS 5 _ rfl
  clear qS zS
  obtain ⟨kG,qG,zG⟩:=id CG
  have oy:=qG 0 _ rfl
  have ox:=qG 1 _ rfl
  have ow:=qG 2 _ rfl
  clear qG zG
  go_wp2_with fail
  clear kA cg cf b_ b9 bZ bY bX
  clear kF bL bK bJ bI
  clear kS eE eD cS2 eC eV eU
  clear kG oy ox ow
  have CD:=Ce.made (w:=w7) (l:=[.int .u64 k.a,.int .u64 k.b]) (T:=30) (g:=w7.heap.size) rfl
  replace B:=B.alloc (Nat.le_of_lt CA.1) (.cells #[.int .u64 k.a,.int .u64 k.b] 30)
  replace CA:=CA.alloc (.cells #[.int .u64 k.a,.int .u64 k.b] 30)
  replace CF:=CF.alloc (.cells #[.int .u64 k.a,.int .u64 k.b] 30)
  replace CS:=CS.alloc (.cells #[.int .u64 k.a,.int .u64 k.b] 30)
  replace CG:=CG.alloc (.cells #[.int .u64 k.a,.int .u64 k.b] 30)
  generalize w7.alloc (.cells #[.int .u64 k.a,.int .u64 k.b] 30)=w8 at *
  generalize w7.heap.size=D at *
  obtain ⟨kA,qA,zA⟩:=id CA
  have cg:=qA 0 _ rfl
  have cf:=qA 1 _ rfl
  have b_:=qA 2 _ rfl
  have b9:=qA 3 _ rfl
  have bZ:=qA 4 _ rfl
  have bY:=qA 5 _ rfl
  have bX:=qA 6 _ rfl
  clear qA zA
  obtain ⟨kF,qF,zF⟩:=id CF
  have bL:=qF 0 _ rfl
  have bK:=qF 1 _ rfl
  have bJ:=qF 2 _ rfl
  have bI:=qF 3 _ rfl
  clear qF zF
  obtain ⟨kS,qS,zS⟩:=id CS
  have eE:=qS 0 _ rfl
  have eD:=qS 1 _ rfl
  have cS2:=qS 2 _ rfl
  have eC:=qS 3 _ rfl
  have eV:=qS 4 _ rfl
  have eU:=qS 5 _ rfl
  clear qS zS
  obtain ⟨kG,qG,zG⟩:=id CG
  have oy:=qG 0 _ rfl
  have ox:=qG 1 _ rfl
  have ow:=qG 2 _ rfl
  clear qG zG
  obtain ⟨kD,qD,zD⟩:=id CD
  have ng:=qD 0 _ rfl
  have nf:=qD 1 _ rfl
  clear qD zD
  go_region_held3 (fun w'=>w'.cell? ⟨F,0,none⟩=some (.int .i64 f.a)∧w'.cell? ⟨F,1,none⟩=some (.int .i64 f.p)∧w'.cell? ⟨F,2,none⟩=some (.int .i64 f.ta)∧w'.cell? ⟨F,3,none⟩=some (.int .i64 f.tp)∧w'.cell? ⟨S,0,none⟩=some (.int .u64 s1)∧w'.cell? ⟨S,1,none⟩=some (.int .u64 2)∧w'.cell? ⟨S,2,none⟩=some (.int .u64 s2)∧w'.cell? ⟨S,3,none⟩=some (.int .u64 6)∧w'.cell? ⟨S,4,none⟩=some (.int .u64 0)∧w'.cell? ⟨S,5,none⟩=some (.int .u64 s2)∧w'.cell? ⟨G,0,none⟩=some (.int .i64 e)∧w'.cell? ⟨G,1,none⟩=some (.int .i64 m)∧w'.cell? ⟨G,2,none⟩=some (.int .i64 t)∧w'.cell? ⟨D,0,none⟩=some (.int .u64 k.a)∧w'.cell? ⟨D,1,none⟩=some (.int .u64 k.b)∧F<w'.heap.size∧S<w'.heap.size∧G<w'.heap.size∧D<w'.heap.size∧A<w'.heap.size∧Below A w w')
   (first
    | (go_split_ands;refine⟨?_,?_,?_,?_,?_,?_,?_,?_,?_,?_,?_,?_,?_,?_,?_,?_,?_,?_,?_,?_,?_⟩;(iterate 15 (exact(hb5.cell (by assumption)).trans (by assumption)));(iterate 5 (exact Nat.lt_of_lt_of_le (by assumption) hb5.size));exact Below.trans (by assumption) (hb5.mono (by first |exact Nat.le_of_lt (by assumption) |exact Below.size (by assumption))))
    | (refine⟨?_,?_,?_,?_,?_,?_,?_,?_,?_,?_,?_,?_,?_,?_,?_,?_,?_,?_,?_,?_,?_⟩;(iterate 20 (assumption));exact Below.drew (by assumption))
    | (go_split_ands;refine⟨?_,?_,?_,?_,?_,?_,?_,?_,?_,?_,?_,?_,?_,?_,?_,?_,?_,?_,?_,?_,?_⟩;(iterate 15 (exact(World.cell?_alloc_lt _ _ _ (by assumption)).trans (by assumption)));(simp;omega);(simp;omega);(simp;omega);(simp;omega);(simp;omega);exact Below.alloc (by assumption) (by first |exact Nat.le_of_lt (by assumption) |exact Below.size (by assumption)) _)
    | (go_split_ands;refine⟨?_,?_,?_,?_,?_,?_,?_,?_,?_,?_,?_,?_,?_,?_,?_,?_,?_,?_,?_,?_,?_⟩;(iterate 15 (exact(World.cell?_alloc_lt _ _ _ (by assumption)).trans (by assumption)));(iterate 5 (exact Nat.lt_of_lt_of_le (by assumption) (Below.drew (Below.alloc (Below.refl _ _) (Nat.le_refl _) _)).size));exact Below.drew (Below.alloc (by assumption) (Below.size (by assumption)) _))
    | (go_split_ands;refine⟨?_,?_,?_,?_,?_,?_,?_,?_,?_,?_,?_,?_,?_,?_,?_,?_,?_,?_,?_,?_,?_⟩;(iterate 20 (assumption));assumption)
    |go_keep)
   ((first
     | (go_at_call 163
        go_split_ands
        with_reducible refine(Mf.out _).mono ?_
        rintro e w5 ⟨rfl,hb5⟩)
     | (go_at_call 162
        go_split_ands
        with_reducible refine(pn s2 6 _ _ ?_).mono ?_
        ·decide
        rintro e w5 ⟨rfl,hb5⟩)))
  go_split_ands
  go_wp2_with fail
  go_region_held3 (fun w'=>w'.cell? ⟨F,0,none⟩=some (.int .i64 f.a)∧w'.cell? ⟨F,1,none⟩=some (.int .i64 f.p)∧w'.cell? ⟨F,2,none⟩=some (.int .i64 f.ta)∧w'.cell? ⟨F,3,none⟩=some (.int .i64 f.tp)∧w'.cell? ⟨S,0,none⟩=some (.int .u64 s1)∧w'.cell? ⟨S,1,none⟩=some (.int .u64 2)∧w'.cell? ⟨S,2,none⟩=some (.int .u64 s2)∧w'.cell? ⟨S,3,none⟩=some (.int .u64 6)∧w'.cell? ⟨S,4,none⟩=some (.int .u64 0)∧w'.cell? ⟨S,5,none⟩=some (.int .u64 s2)∧w'.cell? ⟨G,0,none⟩=some (.int .i64 e)∧w'.cell? ⟨G,1,none⟩=some (.int .i64 m)∧w'.cell? ⟨G,2,none⟩=some (.int .i64 t)∧w'.cell? ⟨D,0,none⟩=some (.int .u64 k.a)∧w'.cell? ⟨D,1,none⟩=some (.int .u64 k.b)∧F<w'.heap.size∧S<w'.heap.size∧G<w'.heap.size∧D<w'.heap.size∧A<w'.heap.size∧Below A w w')
   (first
    | (go_split_ands;refine⟨?_,?_,?_,?_,?_,?_,?_,?_,?_,?_,?_,?_,?_,?_,?_,?_,?_,?_,?_,?_,?_⟩;(iterate 15 (exact(hb5.cell (by assumption)).trans (by assumption)));(iterate 5 (exact Nat.lt_of_lt_of_le (by assumption) hb5.size));exact Below.trans (by assumption) (hb5.mono (by first |exact Nat.le_of_lt (by assumption) |exact Below.size (by assumption))))
    | (refine⟨?_,?_,?_,?_,?_,?_,?_,?_,?_,?_,?_,?_,?_,?_,?_,?_,?_,?_,?_,?_,?_⟩;(iterate 20 (assumption));exact Below.drew (by assumption))
    | (go_split_ands;refine⟨?_,?_,?_,?_,?_,?_,?_,?_,?_,?_,?_,?_,?_,?_,?_,?_,?_,?_,?_,?_,?_⟩;(iterate 15 (exact(World.cell?_alloc_lt _ _ _ (by assumption)).trans (by assumption)));(simp;omega);(simp;omega);(simp;omega);(simp;omega);(simp;omega);exact Below.alloc (by assumption) (by first |exact Nat.le_of_lt (by assumption) |exact Below.size (by assumption)) _)
    | (go_split_ands;refine⟨?_,?_,?_,?_,?_,?_,?_,?_,?_,?_,?_,?_,?_,?_,?_,?_,?_,?_,?_,?_,?_⟩;(iterate 15 (exact(World.cell?_alloc_lt _ _ _ (by assumption)).trans (by assumption)));(iterate 5 (exact Nat.lt_of_lt_of_le (by assumption) (Below.drew (Below.alloc (Below.refl _ _) (Nat.le_refl _) _)).size));exact Below.drew (Below.alloc (by assumption) (Below.size (by assumption)) _))
    | (go_split_ands;refine⟨?_,?_,?_,?_,?_,?_,?_,?_,?_,?_,?_,?_,?_,?_,?_,?_,?_,?_,?_,?_,?_⟩;(iterate 20 (assumption));assumption)
    |go_keep)
   ((first
     | (go_at_call 133
        go_split_ands
        with_reducible refine(xK.out _).mono ?_
        rintro e w5 ⟨rfl,hb5⟩)))
  exact qYM
theorem Kq (r:Rg)(f:Fl)(c:Int)(hf:f.I)(hr:Ep r.e)(w:World) :
 Calls Tryz.prog 123 #[fE r,.int .i64 1,ff f,c] w fun e' w'=>e' =.returned (mX (fm 4096 r 1 f c))∧Below w.heap.size w w':=
 have ja:dW 1:=⟨by omega,by omega⟩
 Ad 1 4096 18 12 1048576 (.inl ⟨rfl,rfl⟩) (.inl rfl) oO rfl ja r f c hf hr (Jv c) (fun k x e hx he w=>EB k 1 f x e hf ja hx he w) w
theorem Kp (r:Rg)(f:Fl)(c:Int)(hf:f.I)(hr:Ep r.e)(w:World) :
 Calls Tryz.prog 123 #[fE r,.int .i64 2,ff f,c] w fun e' w'=>e' =.returned (mX (fm 256 r 2 f c))∧Below w.heap.size w w':=
 have ja:dW 2:=⟨by omega,by omega⟩
 Ad 2 256 14 8 65536 (.inr ⟨rfl,rfl⟩) (.inr rfl) oN rfl ja r f c hf hr (Ju c) (fun k x e hx he w=>EA k 2 f x e hf ja hx he w) w
theorem oG (x:Int)(j:Nat)(hj:j≤31)(hx:eH x):bits .and .u32 x (2^j-1)=x%2^j:=by
 obtain ⟨n,rfl⟩:=Int.eq_ofNat_of_zero_le hx.1
 have hn:n<2^32:=by have:=hx.2;omega
 have hp:(2:Nat)^j≤2^31:=Nat.pow_le_pow_right (by omega) hj
 have h0:=Nat.two_pow_pos j
 have h3:(((2^j:Nat)):Int)=2^j:=by simp
 have e:((2:Int)^j-1)=((2^j-1:Nat):Int):=by omega
 rw[e]
 show IntKind.u32.wrap ((BitVec.ofInt 32 (n:Int) &&& BitVec.ofInt 32 ((2^j-1:Nat):Int)).toNat:Int)=_
 rw[BitVec.toNat_and,BitVec.ofInt_natCast,BitVec.ofInt_natCast,BitVec.toNat_ofNat,BitVec.toNat_ofNat,Nat.mod_eq_of_lt hn,Nat.mod_eq_of_lt (by omega),Nat.and_two_pow_sub_one_eq_mod,IntKind.wrap_u32]
 have h2:n%2^j<2^j:=Nat.mod_lt _ h0
 rw[←h3]
 omega
theorem Ap (y x:Int)(hy:0≤y∧y<4096)(hx:0≤x∧x<1048576):bits .or .u32 (y*1048576) x=y*1048576+x:=by
 obtain ⟨a,rfl⟩:=Int.eq_ofNat_of_zero_le hy.1
 obtain ⟨b,rfl⟩:=Int.eq_ofNat_of_zero_le hx.1
 have e:((a:Int)*1048576)=((a*2^20:Nat):Int):=by omega
 have hor:a*2^20 ||| b=a*2^20+b:=by rw[Nat.mul_comm a,←Nat.two_pow_add_eq_or_of_lt (by omega)]
 rw[e]
 show IntKind.u32.wrap ((BitVec.ofInt 32 ((a*2^20:Nat):Int) ||| BitVec.ofInt 32 (b:Int)).toNat:Int)=_
 exact qYX
theorem lu {a b:Int}(h:a=b):Ending.returned (.int .u32 a) =.returned (.int .u32 b):=by rw[h]
theorem Jf (a wd v:Int)(w:World)(hv:eH v)(hw:wd=12∨wd=20) :
 Calls Tryz.prog 168 #[.agg #[.int .u64 a,.int .u64 wd],.int .u32 v] w fun e w'=>e =.returned (.int .u32 (v%2^wd.toNat))∧Below w.heap.size w w':=by
 have h1:bits .and .u32 v 4095=v%4096:=oG v 12 (by omega) hv
 have h2:bits .and .u32 v 1048575=v%1048576:=oG v 20 (by omega) hv
 rcases hw with rfl |rfl
 all_goals
  go_enter Tryz.func168,Tryz.ntmps168
  go_wp2_with fail
  go_ret
  exact⟨rfl,(Below.refl _ _).alloc (Nat.le_refl _) _⟩
theorem ED (a wd v:Int)(w:World)(hv:eH v)(hf:(a=20∧wd=12)∨(a=0∧wd=20)) :
 Calls Tryz.prog 136 #[.agg #[.int .u64 a,.int .u64 wd],.int .u32 v] w fun e w'=>e =.returned (.int .u32 (v%2^wd.toNat*2^a.toNat))∧Below w.heap.size w w':=by
 have hw:wd=12∨wd=20:=by omega
 have ha:0≤a:=by omega
 have ha':a≤32:=by omega
 have vi:=hv
 obtain ⟨hv1,hv2⟩:=hv
 go_enter Tryz.func136,Tryz.ntmps136
 go_wp2_with fail
 have CK:=Ce.made (w:=w) (l:=[.int .u64 a,.int .u64 wd]) (T:=200) (g:=w.heap.size) rfl
 have B:Below w.heap.size w (w.alloc (.cells #[.int .u64 a,.int .u64 wd] 200)):=((Below.refl _ _).alloc (Nat.le_refl _) (.cells #[.int .u64 a,.int .u64 wd] 200))
 obtain ⟨kK,qK,zK⟩:=CK
 have py:=qK 0 _ rfl
 have px:=qK 1 _ rfl
 clear qK zK
 generalize w.alloc (.cells #[.int .u64 a,.int .u64 wd] 200)=w1 at *
 generalize hK:w.heap.size=K at *
 go_region_held3 (fun w'=>w'.cell? ⟨K,0,none⟩=some (.int .u64 a)∧w'.cell? ⟨K,1,none⟩=some (.int .u64 wd)∧K<w'.heap.size∧Below K w w')
  (first
   | (go_split_ands;refine⟨?_,?_,?_,?_⟩;exact(hb5.cell (p:=⟨K,0,none⟩) (by assumption)).trans (by assumption);exact(hb5.cell (p:=⟨K,1,none⟩) (by assumption)).trans (by assumption);exact Nat.lt_of_lt_of_le (by assumption) hb5.size;exact Below.trans (by assumption) (hb5.mono (by first |exact Nat.le_of_lt (by assumption) |exact Below.size (by assumption))))
   | (refine⟨?_,?_,?_,?_⟩;assumption;assumption;assumption;exact Below.drew (by assumption))
   | (go_split_ands;refine⟨?_,?_,?_,?_⟩;exact(World.cell?_alloc_lt _ _ ⟨K,0,none⟩ (by assumption)).trans (by assumption);exact(World.cell?_alloc_lt _ _ ⟨K,1,none⟩ (by assumption)).trans (by assumption);(simp;omega);exact Below.alloc (by assumption) (by first |exact Nat.le_of_lt (by assumption) |exact Below.size (by assumption)) _)
   | (go_split_ands;refine⟨?_,?_,?_,?_⟩;exact(World.cell?_alloc_lt _ _ ⟨K,0,none⟩ (by assumption)).trans (by assumption);exact(World.cell?_alloc_lt _ _ ⟨K,1,none⟩ (by assumption)).trans (by assumption);exact Nat.lt_of_lt_of_le (by assumption) (Below.drew (Below.alloc (Below.refl _ _) (Nat.le_refl _) _)).size;exact Below.drew (Below.alloc (by assumption) (Below.size (by assumption)) _))
   | (go_split_ands;refine⟨?_,?_,?_,?_⟩;(iterate 3 (assumption));assumption)
   |go_keep)
  ((first
    | (go_at_call 168
       go_split_ands
       with_reducible refine(Jf a wd v _ vi hw).mono ?_
       rintro e w5 ⟨rfl,hb5⟩)))
 all_goals
  go_split_ands
  go_wp2_with fail
  go_ret
  refine⟨lu ?_,by first |assumption | (rw[hK];assumption)⟩
  rcases hf with ⟨rfl,rfl⟩ |⟨rfl,rfl⟩ <;> (rw[IntKind.wrap_u32];simp;omega)
theorem H7 (a wd v:Int)(w:World)(hv:eH v)(hf:(a=20∧wd=12)∨(a=0∧wd=20)∨(a=8∧wd=12)) :
 Calls Tryz.prog 138 #[.agg #[.int .u64 a,.int .u64 wd],.int .u32 v] w fun e w'=>e =.returned (.int .u32 (v/2^a.toNat%2^wd.toNat))∧Below w.heap.size w w':=by
 have hv3:eH (v/2^a.toNat):=by
  obtain ⟨h1,h2⟩:=hv
  unfold eH
  rcases hf with ⟨rfl,rfl⟩ |⟨rfl,rfl⟩ |⟨rfl,rfl⟩
  ·show 0≤v/1048576∧v/1048576<4294967296
   omega
  ·show 0≤v/1∧v/1<4294967296
   omega
  show 0≤v/256∧v/256<4294967296
  omega
 have hw:wd=12∨wd=20:=by omega
 have ha:0≤a:=by omega
 have ha':a≤32:=by omega
 have vi:=hv
 obtain ⟨hv1,hv2⟩:=hv
 go_enter Tryz.func138,Tryz.ntmps138
 go_wp2_with fail
 refine(Jf a wd _ _ hv3 hw).mono ?_
 exact qYN
theorem mU (w:World):Calls Tryz.prog 135 #[] w fun e w'=>e =.returned (.agg #[.int .u64 20,.int .u64 12,.int .u64 0,.int .u64 20])∧Below w.heap.size w w':=by
 go_enter Tryz.func135,Tryz.ntmps135
 go_wp2_with fail
 refine bodyPost_ret (by simp[results,Tryz.results135,go_sem]) rfl ⟨rfl,?_⟩
 exact qX9
theorem rA (w:World):Calls Tryz.prog 137 #[] w fun e w'=>e =.returned (.agg #[.int .u64 8,.int .u64 12])∧Below w.heap.size w w':=by
 go_enter Tryz.func137,Tryz.ntmps137
 go_wp2_with fail
 refine bodyPost_ret (by simp[results,Tryz.results137,go_sem]) rfl ⟨rfl,?_⟩
 exact qX9
theorem xw (v:Int)(hv:eH v)(w:World):Calls Tryz.prog 158 #[.int .u32 v] w fun e w'=>e =.returned (.tuple #[.int .i64 (v/1048576),.int .i64 (v%1048576)])∧Below w.heap.size w w':=by
 have q1:Hid (v/1048576%4096=v/1048576):=by obtain ⟨h1,h2⟩:=hv;unfold Hid;omega
 have r1:Hid (IntKind.i64.wrap (v/1048576)=v/1048576):=by obtain ⟨h1,h2⟩:=hv;exact IntWalk.i64_in _ (by omega)
 have r2:Hid (IntKind.i64.wrap (v%1048576)=v%1048576):=IntWalk.i64_in _ (by omega)
 have vi:=hv
 obtain ⟨hv1,hv2⟩:=hv
 go_enter Tryz.func158,Tryz.ntmps158
 go_wp2_with fail
 refine(mU _).mono ?_
 rintro e' w2 ⟨rfl,hb⟩
 have B:=hb
 clear hb
 have hws:w.heap.size≤w2.heap.size:=B.size
 go_wp2_with fail
 have CS:=Ce.made (w:=w2) (l:=[.int .u64 20,.int .u64 12,.int .u64 0,.int .u64 20]) (T:=202) (g:=w2.heap.size) rfl
 replace B:=B.alloc hws (.cells #[.int .u64 20,.int .u64 12,.int .u64 0,.int .u64 20] 202)
 generalize w2.alloc (.cells #[.int .u64 20,.int .u64 12,.int .u64 0,.int .u64 20] 202)=w3 at *
 generalize hS:w2.heap.size=S at *
 obtain ⟨N0,hN0⟩:∃N0,N0=w.heap.size:=⟨_,rfl⟩
 rw[←hN0]at B hws
 obtain ⟨kS,qS,zS⟩:=id CS
 have eE:=qS 0 _ rfl
 have eD:=qS 1 _ rfl
 have cS2:=qS 2 _ rfl
 have eC:=qS 3 _ rfl
 clear qS zS
 clear CS
 go_region_held3 (fun w'=>w'.cell? ⟨S,0,none⟩=some (.int .u64 20)∧w'.cell? ⟨S,1,none⟩=some (.int .u64 12)∧w'.cell? ⟨S,2,none⟩=some (.int .u64 0)∧w'.cell? ⟨S,3,none⟩=some (.int .u64 20)∧S<w'.heap.size∧Below N0 w w')
  (first
   | (go_split_ands;refine⟨?_,?_,?_,?_,?_,?_⟩;exact(hb5.cell (p:=⟨S,0,none⟩) (by assumption)).trans (by assumption);exact(hb5.cell (p:=⟨S,1,none⟩) (by assumption)).trans (by assumption);exact(hb5.cell (p:=⟨S,2,none⟩) (by assumption)).trans (by assumption);exact(hb5.cell (p:=⟨S,3,none⟩) (by assumption)).trans (by assumption);exact Nat.lt_of_lt_of_le (by assumption) hb5.size;exact Below.trans (by assumption) (hb5.mono (by first |exact Nat.le_of_lt (by assumption) | (have:=Below.size (by assumption);omega) |omega)))
   | (refine⟨?_,?_,?_,?_,?_,?_⟩;(iterate 5 (assumption));exact Below.drew (by assumption))
   | (go_split_ands;refine⟨?_,?_,?_,?_,?_,?_⟩;exact(World.cell?_alloc_lt _ _ ⟨S,0,none⟩ (by assumption)).trans (by assumption);exact(World.cell?_alloc_lt _ _ ⟨S,1,none⟩ (by assumption)).trans (by assumption);exact(World.cell?_alloc_lt _ _ ⟨S,2,none⟩ (by assumption)).trans (by assumption);exact(World.cell?_alloc_lt _ _ ⟨S,3,none⟩ (by assumption)).trans (by assumption);(simp;omega);exact Below.alloc (by assumption) (by first |exact Nat.le_of_lt (by assumption) | (have:=Below.size (by assumption);omega) |omega) _)
   | (go_split_ands;refine⟨?_,?_,?_,?_,?_,?_⟩;exact(World.cell?_alloc_lt _ _ ⟨S,0,none⟩ (by assumption)).trans (by assumption);exact(World.cell?_alloc_lt _ _ ⟨S,1,none⟩ (by assumption)).trans (by assumption);exact(World.cell?_alloc_lt _ _ ⟨S,2,none⟩ (by assumption)).trans (by assumption);exact(World.cell?_alloc_lt _ _ ⟨S,3,none⟩ (by assumption)).trans (by assumption);exact Nat.lt_of_lt_of_le (by assumption) (Below.drew (Below.alloc (Below.refl _ _) (Nat.le_refl _) _)).size;exact Below.drew (Below.alloc (by assumption) (Below.size (by assumption)) _))
   | (go_split_ands;refine⟨?_,?_,?_,?_,?_,?_⟩;(iterate 5 (assumption));assumption)
   |go_keep)
  ((first
    | (go_at_call 138
       go_split_ands
       with_reducible refine(H7 20 12 v _ vi ?_).mono ?_
       ·decide
       rintro e w5 ⟨rfl,hb5⟩)
    | (go_at_call 138
       go_split_ands
       with_reducible refine(H7 0 20 v _ vi ?_).mono ?_
       ·decide
       rintro e w5 ⟨rfl,hb5⟩)))
 all_goals
  go_split_ands
  go_wp2_with fail
  refine bodyPost_ret (v:=.tuple #[.int .i64 (v/1048576),.int .i64 (v%1048576)]) (by simp[results,Tryz.results158,go_sem,q1.out,r1.out,r2.out]) rfl ⟨rfl,?_⟩
  rw[←hN0]
  assumption
theorem FT (v c:Int)(hv:eH v)(hc:0≤c∧c<1048576)(w:World):Calls Tryz.prog 100 #[.int .u32 v,c] w fun e w'=>e =.returned (.int .u32 (fR v c))∧Below w.heap.size w w':=by
 obtain ⟨hc1,hc2⟩:=hc
 have vi:=hv
 obtain ⟨hv1,hv2⟩:=hv
 have q1:Hid (bits .or .u32 (v/256%4096*1048576) c=fR v c):=Ap (v/256%4096) c (by omega) ⟨hc1,hc2⟩
 have q2:Hid (v/256%4096%4096=v/256%4096):=by unfold Hid;omega
 have q3:Hid (c%1048576=c):=by unfold Hid;omega
 have q4:IntKind.u32.wrap c=c:=by rw[IntKind.wrap_u32];omega
 go_enter Tryz.func100,Tryz.ntmps100
 go_wp2_with fail
 refine(mU _).mono ?_
 rintro e' w2 ⟨rfl,hb⟩
 have B:=hb
 clear hb
 have hws:w.heap.size≤w2.heap.size:=B.size
 go_wp2_with fail
 have CS:=Ce.made (w:=w2) (l:=[.int .u64 20,.int .u64 12,.int .u64 0,.int .u64 20]) (T:=202) (g:=w2.heap.size) rfl
 replace B:=B.alloc hws (.cells #[.int .u64 20,.int .u64 12,.int .u64 0,.int .u64 20] 202)
 generalize w2.alloc (.cells #[.int .u64 20,.int .u64 12,.int .u64 0,.int .u64 20] 202)=w3 at *
 generalize hS:w2.heap.size=S at *
 obtain ⟨N0,hN0⟩:∃N0,N0=w.heap.size:=⟨_,rfl⟩
 rw[←hN0]at B hws
 obtain ⟨kS,qS,zS⟩:=id CS
 have eE:=qS 0 _ rfl
 have eD:=qS 1 _ rfl
 have cS2:=qS 2 _ rfl
 have eC:=qS 3 _ rfl
 clear qS zS
 clear CS
 go_region_held3 (fun w'=>w'.cell? ⟨S,0,none⟩=some (.int .u64 20)∧w'.cell? ⟨S,1,none⟩=some (.int .u64 12)∧w'.cell? ⟨S,2,none⟩=some (.int .u64 0)∧w'.cell? ⟨S,3,none⟩=some (.int .u64 20)∧S<w'.heap.size∧Below N0 w w')
  (first
   | (go_split_ands;refine⟨?_,?_,?_,?_,?_,?_⟩;exact(hb5.cell (p:=⟨S,0,none⟩) (by assumption)).trans (by assumption);exact(hb5.cell (p:=⟨S,1,none⟩) (by assumption)).trans (by assumption);exact(hb5.cell (p:=⟨S,2,none⟩) (by assumption)).trans (by assumption);exact(hb5.cell (p:=⟨S,3,none⟩) (by assumption)).trans (by assumption);exact Nat.lt_of_lt_of_le (by assumption) hb5.size;exact Below.trans (by assumption) (hb5.mono (by first |exact Nat.le_of_lt (by assumption) | (have:=Below.size (by assumption);omega) |omega)))
   | (refine⟨?_,?_,?_,?_,?_,?_⟩;(iterate 5 (assumption));exact Below.drew (by assumption))
   | (go_split_ands;refine⟨?_,?_,?_,?_,?_,?_⟩;exact(World.cell?_alloc_lt _ _ ⟨S,0,none⟩ (by assumption)).trans (by assumption);exact(World.cell?_alloc_lt _ _ ⟨S,1,none⟩ (by assumption)).trans (by assumption);exact(World.cell?_alloc_lt _ _ ⟨S,2,none⟩ (by assumption)).trans (by assumption);exact(World.cell?_alloc_lt _ _ ⟨S,3,none⟩ (by assumption)).trans (by assumption);(simp;omega);exact Below.alloc (by assumption) (by first |exact Nat.le_of_lt (by assumption) | (have:=Below.size (by assumption);omega) |omega) _)
   | (go_split_ands;refine⟨?_,?_,?_,?_,?_,?_⟩;exact(World.cell?_alloc_lt _ _ ⟨S,0,none⟩ (by assumption)).trans (by assumption);exact(World.cell?_alloc_lt _ _ ⟨S,1,none⟩ (by assumption)).trans (by assumption);exact(World.cell?_alloc_lt _ _ ⟨S,2,none⟩ (by assumption)).trans (by assumption);exact(World.cell?_alloc_lt _ _ ⟨S,3,none⟩ (by assumption)).trans (by assumption);exact Nat.lt_of_lt_of_le (by assumption) (Below.drew (Below.alloc (Below.refl _ _) (Nat.le_refl _) _)).size;exact Below.drew (Below.alloc (by assumption) (Below.size (by assumption)) _))
   | (go_split_ands;refine⟨?_,?_,?_,?_,?_,?_⟩;(iterate 5 (assumption));assumption)
   |go_keep)
  ((first
    | (go_at_call 137
       go_split_ands
       with_reducible refine(rA _).mono ?_
       rintro e w5 ⟨rfl,hb5⟩)
    | (go_at_call 138
       go_split_ands
       with_reducible refine(H7 8 12 v _ vi ?_).mono ?_
       ·decide
       rintro e w5 ⟨rfl,hb5⟩)
    | (go_at_call 136
       go_split_ands
       with_reducible refine(ED 20 12 _ _ ?_ ?_).mono ?_
       ·(show (0:Int)≤_∧_<(4294967296:Int);constructor <;> (first |omega | (simp;omega) | (simp;done)))
       ·decide
       rintro e w5 ⟨rfl,hb5⟩)
    | (go_at_call 136
       go_split_ands
       with_reducible refine(ED 0 20 _ _ ?_ ?_).mono ?_
       ·(show (0:Int)≤_∧_<(4294967296:Int);constructor <;> (first |omega | (simp;omega) | (simp;done)))
       ·decide
       rintro e w5 ⟨rfl,hb5⟩)))
 all_goals
  go_split_ands
  go_wp2_with fail
  go_ret
  refine⟨lu ?_,by rw[←hN0];assumption⟩
  rw[q3.out]
  exact q1.out
theorem Eg (k:Nat)(hk:k<2^32):k &&& 4294967040=k/256*256:=by
 have e1:(4294967040:Nat)=(2^24-1) <<< 8:=by decide
 have e2:k/256*256=(k >>> 8) <<< 8:=by rw[Nat.shiftLeft_eq,Nat.shiftRight_eq_div_pow]
 rw[e1,e2]
 apply Nat.eq_of_testBit_eq
 intro i
 rw[Nat.testBit_and,Nat.testBit_shiftLeft,Nat.testBit_shiftLeft,Nat.testBit_two_pow_sub_one,Nat.testBit_shiftRight]
 by_cases h8:8≤i
 ·rw[show 8+(i-8)=i from by omega]
  by_cases h32:i<32
  ·simp[h8,show i-8<24 from by omega]
  have:k.testBit i=false:=Nat.testBit_lt_two_pow (Nat.lt_of_lt_of_le hk (Nat.pow_le_pow_right (by omega) (by omega)))
  simp[this]
 simp[h8]
theorem ua (n:Int)(h:eH n):bits .andNot .u32 n 255=iT n:=by
 obtain ⟨k,rfl⟩:=Int.eq_ofNat_of_zero_le h.1
 have hk:k<2^32:=by have:=h.2;omega
 show IntKind.u32.wrap ((BitVec.ofInt 32 (k:Int) &&& ~~~ BitVec.ofInt 32 255).toNat:Int)=_
 rw[BitVec.toNat_and,BitVec.ofInt_natCast,BitVec.toNat_ofNat,Nat.mod_eq_of_lt hk,show (~~~ BitVec.ofInt 32 255).toNat=4294967040 from by decide,Eg k hk,IntKind.wrap_u32]
 unfold iT
 omega
theorem uS (v:Int)(hv:eH v)(w:World):Calls Tryz.prog 140 #[.int .u32 v] w fun e w'=>e =.returned (.tuple #[.int .i64 (v/1048576),.int .i64 (v%1048576)])∧w=w':=by
 have h1:bits .and .u32 v 1048575=v%1048576:=oG v 20 (by omega) hv
 obtain ⟨hv1,hv2⟩:=hv
 have r1:IntKind.i64.wrap (v/1048576)=v/1048576:=IntWalk.i64_in _ (by omega)
 have r2:IntKind.i64.wrap (v%1048576)=v%1048576:=IntWalk.i64_in _ (by omega)
 go_enter Tryz.func140,Tryz.ntmps140
 go_wp2
 refine bodyPost_ret (by simp[results,Tryz.results140,go_sem]) rfl ⟨rfl,rfl⟩
theorem uO (v c:Int)(hv:eH v)(hc:0≤c∧c<1048576)(w:World):Calls Tryz.prog 77 #[.int .u32 v,c] w fun e w'=>e =.returned (.int .u32 (fR v c))∧w=w':=by
 have h1:bits .and .u32 (v/256) 4095=v/256%4096:=oG (v/256) 12 (by omega) ⟨by have:=hv.1;omega,by have:=hv.2;omega⟩
 have q1:bits .or .u32 (v/256%4096*1048576) c=fR v c:=Ap (v/256%4096) c (by omega) hc
 obtain ⟨hc1,hc2⟩:=hc
 have q4:IntKind.u32.wrap c=c:=by rw[IntKind.wrap_u32];omega
 have q5:IntKind.u32.wrap (v/256%4096*1048576)=v/256%4096*1048576:=by rw[IntKind.wrap_u32];omega
 go_enter Tryz.func77,Tryz.ntmps77
 go_wp2
 go_ret
 exact⟨rfl,rfl⟩
theorem xG (v n:Int)(hv:eH v)(hn:eH n):eH (iT n)∧eH (v/1048576*256)∧nW (iT n) (v/1048576*256)%1048576=gv v n∧0≤gv v n∧gv v n<1048576:=by
 obtain ⟨hv1,hv2⟩:=hv
 obtain ⟨hn1,hn2⟩:=hn
 unfold eH nW gv iT
 omega
theorem qZJ{P:Prop}(h:P:=by
 go_enter Tryz.func130,Tryz.ntmps130
 go_wp2_with fail
 refine(hg.out _).mono ?_
 rintro e w2 ⟨rfl,hbw⟩
 go_wp2_with fail
 refine(hfr.out _).mono ?_
 rintro e w3 ⟨rfl,rfl⟩
 go_wp2
 go_ret
 refine⟨lu (Eq.trans ?_ hfin.out),hbw⟩
 all_goals (first |omega | (simp only[IntKind.wrap_u32];omega) |trace_state)
 ):P:=h
theorem Ef (v n:Int)(hv:eH v)(hn:eH n)(w:World):Calls Tryz.prog 130 #[.int .u32 v,.int .u32 n] w fun e w'=>e =.returned (.int .u32 (od v n))∧Below w.heap.size w w':=by
 obtain ⟨hb1,hb2,hb3,hb4,hb5⟩:=xG v n hv hn
 have h1:=ua n hn
 have h2:=Ib (nW (iT n) (v/1048576*256))
 rw[hb3]at h2
 have hfin:Hid ((iT n+(if gv v n<524288 then gv v n else gv v n-1048576))%4294967296=od v n):=rfl
 have hg:=fun w=>xw v hv w
 have hfr:=fun w=>Gk _ _ hb1 hb2 w
 obtain ⟨hv1,hv2⟩:=hv
 have r1:IntKind.u32.wrap (v/1048576)=v/1048576:=by rw[IntKind.wrap_u32];omega
 have r2:IntKind.u32.wrap (v/1048576*256)=v/1048576*256:=by rw[IntKind.wrap_u32];omega
 generalize gv v n=d at *
 generalize iT n=b at *
 obtain ⟨mP,IH⟩:=hb1
 replace hg:=hid hg
 replace hfr:=hid hfr
 clear hb2 hb3 hn
 by_cases hd:d<524288
 ·rw[if_pos hd]at hfin
  have i1:¬d≥524288:=by omega
  exact qZJ
 rw[if_neg hd]at hfin
 have i1:d≥524288:=by omega
 exact qZJ
theorem qZV{P:Prop}(h:P:=by
 go_enter Tryz.func107,Tryz.ntmps107
 go_wp2_with fail
 refine(hg.out _).mono ?_
 rintro e w2 ⟨rfl,rfl⟩
 go_wp2_with fail
 refine(hfr.out _).mono ?_
 rintro e w3 ⟨rfl,rfl⟩
 go_wp2
 go_ret
 refine⟨lu (Eq.trans ?_ hfin.out),rfl⟩
 all_goals (first |omega | (simp only[IntKind.wrap_u32];omega) |trace_state)
 ):P:=h
theorem Ag (v n:Int)(hv:eH v)(hn:eH n)(w:World):Calls Tryz.prog 107 #[.int .u32 v,.int .u32 n] w fun e w'=>e =.returned (.int .u32 (od v n))∧w=w':=by
 obtain ⟨hb1,hb2,hb3,hb4,hb5⟩:=xG v n hv hn
 have h1:=ua n hn
 have h2:bits .and .u32 ((v/1048576*256-iT n)%4294967296) 1048575=gv v n:=by
  rw[show (1048575:Int)=2^20-1 from rfl,oG _ 20 (by omega) (by unfold eH;omega)]
  unfold gv
  show _%1048576=_
  omega
 have hfin:Hid ((iT n+(if gv v n<524288 then gv v n else gv v n-1048576))%4294967296=od v n):=rfl
 have hg:=fun w=>uS v hv w
 obtain ⟨hv1,hv2⟩:=hv
 have r1:IntKind.u32.wrap (v/1048576)=v/1048576:=by rw[IntKind.wrap_u32];omega
 have r2:IntKind.u32.wrap (v/1048576*256)=v/1048576*256:=by rw[IntKind.wrap_u32];omega
 generalize gv v n=d at *
 generalize iT n=b at *
 have hU:eH ((b+d)%4294967296):=by unfold eH;omega
 have hfr:=fun w=>Dd b ((b+d)%4294967296) hb1 hU w
 have Lu:nW b ((b+d)%4294967296)=d:=by
  obtain ⟨mP,IH⟩:=hb1
  unfold nW
  omega
 rw[Lu]at hfr
 obtain ⟨mP,IH⟩:=hb1
 replace hg:=hid hg
 replace hfr:=hid hfr
 clear hb2 hb3 hn Lu
 by_cases hd:d<524288
 ·rw[if_pos hd]at hfin
  have i1:¬d≥524288:=by omega
  exact qZV
 rw[if_neg hd]at hfin
 have i1:d≥524288:=by omega
 exact qZV
end Go.Proofs.YtalnfkijiehjhaaGreat
