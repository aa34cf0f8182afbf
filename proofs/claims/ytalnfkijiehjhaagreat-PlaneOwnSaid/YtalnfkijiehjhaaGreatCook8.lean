/- Cookies read, by the document. -/
import Derived.Test.YtalnfkijiehjhaaGreatGa
import Derived.Test.YtalnfkijiehjhaaGreatGkb
namespace Go.Proofs.YtalnfkijiehjhaaGreat
set_option linter.unusedVariables false
set_option linter.unusedSimpArgs false
open Go.RowKit Go.ChangeShapes Go.WideShapes Go.ChangeAt
theorem qXQ{P:Prop}(h:P:=by
 rintro e' w2 ⟨rfl,rfl⟩
 obtain ⟨kA,qA,zA⟩:=id CA
 have cg:=qA 0 _ rfl
 have cf:=qA 1 _ rfl
 have b_:=qA 2 _ rfl
 have b9:=qA 3 _ rfl
 have bZ:=qA 4 _ rfl
 have bY:=qA 5 _ rfl
 have bX:=qA 6 _ rfl
 clear qA zA
 obtain ⟨kF,qF,zF⟩:=id CF
 have bL:=qF 0 _ rfl
 have bK:=qF 1 _ rfl
 have bJ:=qF 2 _ rfl
 have bI:=qF 3 _ rfl
 clear qF zF
 go_wp2_with fail
 refine(KY.out _).mono ?_
 rintro e' w7 ⟨rfl,hb⟩
 replace B:=B.trans (hb.mono (Nat.le_of_lt CA.1))
 replace CA:=CA.below hb
 replace CF:=CF.below hb
 clear hb
 clear kA cg cf b_ b9 bZ bY bX
 clear kF bL bK bJ bI
 obtain ⟨kA,qA,zA⟩:=id CA
 have cg:=qA 0 _ rfl
 have cf:=qA 1 _ rfl
 have b_:=qA 2 _ rfl
 have b9:=qA 3 _ rfl
 have bZ:=qA 4 _ rfl
 have bY:=qA 5 _ rfl
 have bX:=qA 6 _ rfl
 clear qA zA
 obtain ⟨kF,qF,zF⟩:=id CF
 have bL:=qF 0 _ rfl
 have bK:=qF 1 _ rfl
 have bJ:=qF 2 _ rfl
 have bI:=qF 3 _ rfl
 clear qF zF
 go_wp2_with fail
 refine bodyPost_ret (by simp[results,Tryz.results141,go_sem]) rfl ⟨rfl,?_⟩
 rw[hK]
 exact B.alloc (Nat.le_of_lt CA.1) _
 ):P:=h
theorem qJJ{P:Prop}(h:P:=by
 rintro e' w2 ⟨rfl,rfl⟩
 obtain ⟨kA,qA,zA⟩:=id CA
 have cg:=qA 0 _ rfl
 have cf:=qA 1 _ rfl
 have b_:=qA 2 _ rfl
 have b9:=qA 3 _ rfl
 have bZ:=qA 4 _ rfl
 have bY:=qA 5 _ rfl
 have bX:=qA 6 _ rfl
 clear qA zA
 obtain ⟨kF,qF,zF⟩:=id CF
 have bL:=qF 0 _ rfl
 have bK:=qF 1 _ rfl
 have bJ:=qF 2 _ rfl
 have bI:=qF 3 _ rfl
 clear qF zF
 go_wp2
 refine bodyPost_ret (by simp[results,Tryz.results141,go_sem]) rfl ⟨rfl,?_⟩
 rw[hK]
 exact B
 ):P:=h
theorem qQ5{P:Prop}(h:P:=by
 go_enter Tryz.func141,Tryz.ntmps141
 go_wp2_with fail
 have CA:=Ce.made (w:=w) (l:=[r.e,.int .u64 r.p.a,.int .u64 r.p.b,.int .u64 r.c.a,.int .u64 r.c.b,.int .u64 r.n.a,.int .u64 r.n.b]) (T:=32) (g:=w.heap.size) rfl
 replace CA:=CA.alloc (.cells #[f.a,f.p,f.ta,f.tp] 141)
 have CF:=Ce.made (w:=(w.alloc (.cells #[r.e,.int .u64 r.p.a,.int .u64 r.p.b,.int .u64 r.c.a,.int .u64 r.c.b,.int .u64 r.n.a,.int .u64 r.n.b] 32))) (l:=[f.a,f.p,f.ta,f.tp]) (T:=141) (g:=w.heap.size+1) (by simp)
 have B:Below w.heap.size w ((w.alloc (.cells #[r.e,.int .u64 r.p.a,.int .u64 r.p.b,.int .u64 r.c.a,.int .u64 r.c.b,.int .u64 r.n.a,.int .u64 r.n.b] 32)).alloc (.cells #[f.a,f.p,f.ta,f.tp] 141)):=(((Below.refl w.heap.size w).alloc (by first |exact Nat.le_refl _ | (simp;done) | (simp;omega)) (.cells #[r.e,.int .u64 r.p.a,.int .u64 r.p.b,.int .u64 r.c.a,.int .u64 r.c.b,.int .u64 r.n.a,.int .u64 r.n.b] 32)).alloc (by first |exact Nat.le_refl _ | (simp;done) | (simp;omega)) (.cells #[f.a,f.p,f.ta,f.tp] 141))
 generalize (w.alloc (.cells #[r.e,.int .u64 r.p.a,.int .u64 r.p.b,.int .u64 r.c.a,.int .u64 r.c.b,.int .u64 r.n.a,.int .u64 r.n.b] 32)).alloc (.cells #[f.a,f.p,f.ta,f.tp] 141)=w1 at *
 generalize w.heap.size+1=F at *
 generalize hK:w.heap.size=A at *
 refine(fI 1 4096 _ (by exact .inl ⟨rfl,rfl⟩)).mono ?_
 exact qJJ
 ):P:=h
theorem qQV{P:Prop}(h:P:=by
 rintro e' w2 ⟨rfl,rfl⟩
 obtain ⟨kA,qA,zA⟩:=id CA
 have cg:=qA 0 _ rfl
 have cf:=qA 1 _ rfl
 have b_:=qA 2 _ rfl
 have b9:=qA 3 _ rfl
 have bZ:=qA 4 _ rfl
 have bY:=qA 5 _ rfl
 have bX:=qA 6 _ rfl
 clear qA zA
 obtain ⟨kF,qF,zF⟩:=id CF
 have bL:=qF 0 _ rfl
 have bK:=qF 1 _ rfl
 have bJ:=qF 2 _ rfl
 have bI:=qF 3 _ rfl
 clear qF zF
 go_wp2_with fail
 refine(KY.out _).mono ?_
 rintro e' w7 ⟨rfl,hb⟩
 replace B:=B.trans (hb.mono (Nat.le_of_lt CA.1))
 replace CA:=CA.below hb
 replace CF:=CF.below hb
 clear hb
 clear kA cg cf b_ b9 bZ bY bX
 clear kF bL bK bJ bI
 obtain ⟨kA,qA,zA⟩:=id CA
 have cg:=qA 0 _ rfl
 have cf:=qA 1 _ rfl
 have b_:=qA 2 _ rfl
 have b9:=qA 3 _ rfl
 have bZ:=qA 4 _ rfl
 have bY:=qA 5 _ rfl
 have bX:=qA 6 _ rfl
 clear qA zA
 obtain ⟨kF,qF,zF⟩:=id CF
 have bL:=qF 0 _ rfl
 have bK:=qF 1 _ rfl
 have bJ:=qF 2 _ rfl
 have bI:=qF 3 _ rfl
 clear qF zF
 go_wp2_with fail
 clear kA cg cf b_ b9 bZ bY bX
 clear kF bL bK bJ bI
 have CD:=Ce.made (w:=w7) (l:=[.int .u64 k.a,.int .u64 k.b]) (T:=30) (g:=w7.heap.size) rfl
 replace B:=B.alloc (Nat.le_of_lt CA.1) (.cells #[.int .u64 k.a,.int .u64 k.b] 30)
 replace CA:=CA.alloc (.cells #[.int .u64 k.a,.int .u64 k.b] 30)
 replace CF:=CF.alloc (.cells #[.int .u64 k.a,.int .u64 k.b] 30)
 generalize w7.alloc (.cells #[.int .u64 k.a,.int .u64 k.b] 30)=w8 at *
 generalize w7.heap.size=D at *
 obtain ⟨kA,qA,zA⟩:=id CA
 have cg:=qA 0 _ rfl
 have cf:=qA 1 _ rfl
 have b_:=qA 2 _ rfl
 have b9:=qA 3 _ rfl
 have bZ:=qA 4 _ rfl
 have bY:=qA 5 _ rfl
 have bX:=qA 6 _ rfl
 clear qA zA
 obtain ⟨kF,qF,zF⟩:=id CF
 have bL:=qF 0 _ rfl
 have bK:=qF 1 _ rfl
 have bJ:=qF 2 _ rfl
 have bI:=qF 3 _ rfl
 clear qF zF
 obtain ⟨kD,qD,zD⟩:=id CD
 have ng:=qD 0 _ rfl
 have nf:=qD 1 _ rfl
 clear qD zD
 go_wp2_with fail
 refine(pE.out _).mono ?_
 rintro e' w9 ⟨rfl,hb⟩
 replace B:=B.trans (hb.mono (Nat.le_of_lt CA.1))
 replace CA:=CA.below hb
 replace CF:=CF.below hb
 replace CD:=CD.below hb
 clear hb
 clear kA cg cf b_ b9 bZ bY bX
 clear kF bL bK bJ bI
 clear kD ng nf
 obtain ⟨kA,qA,zA⟩:=id CA
 have cg:=qA 0 _ rfl
 have cf:=qA 1 _ rfl
 have b_:=qA 2 _ rfl
 have b9:=qA 3 _ rfl
 have bZ:=qA 4 _ rfl
 have bY:=qA 5 _ rfl
 have bX:=qA 6 _ rfl
 clear qA zA
 obtain ⟨kF,qF,zF⟩:=id CF
 have bL:=qF 0 _ rfl
 have bK:=qF 1 _ rfl
 have bJ:=qF 2 _ rfl
 have bI:=qF 3 _ rfl
 clear qF zF
 obtain ⟨kD,qD,zD⟩:=id CD
 have ng:=qD 0 _ rfl
 have nf:=qD 1 _ rfl
 clear qD zD
 go_wp2_with fail
 refine(pQ.out _).mono ?_
 rintro e' ea ⟨rfl,hb⟩
 replace B:=B.trans (hb.mono (Nat.le_of_lt CA.1))
 replace CA:=CA.below hb
 replace CF:=CF.below hb
 replace CD:=CD.below hb
 clear hb
 go_wp2_with fail
 refine bodyPost_ret (by simp[results,Tryz.results141,go_sem]) rfl ⟨rfl,?_⟩
 rw[hK]
 exact B
 ):P:=h
theorem qY3{P:Prop}(h:P:=by
 have KY:=hid KE
 clear KE
 go_enter Tryz.func141,Tryz.ntmps141
 go_wp2_with fail
 have CA:=Ce.made (w:=w) (l:=[r.e,.int .u64 r.p.a,.int .u64 r.p.b,.int .u64 r.c.a,.int .u64 r.c.b,.int .u64 r.n.a,.int .u64 r.n.b]) (T:=32) (g:=w.heap.size) rfl
 replace CA:=CA.alloc (.cells #[f.a,f.p,f.ta,f.tp] 141)
 have CF:=Ce.made (w:=(w.alloc (.cells #[r.e,.int .u64 r.p.a,.int .u64 r.p.b,.int .u64 r.c.a,.int .u64 r.c.b,.int .u64 r.n.a,.int .u64 r.n.b] 32))) (l:=[f.a,f.p,f.ta,f.tp]) (T:=141) (g:=w.heap.size+1) (by simp)
 have B:Below w.heap.size w ((w.alloc (.cells #[r.e,.int .u64 r.p.a,.int .u64 r.p.b,.int .u64 r.c.a,.int .u64 r.c.b,.int .u64 r.n.a,.int .u64 r.n.b] 32)).alloc (.cells #[f.a,f.p,f.ta,f.tp] 141)):=(((Below.refl w.heap.size w).alloc (by first |exact Nat.le_refl _ | (simp;done) | (simp;omega)) (.cells #[r.e,.int .u64 r.p.a,.int .u64 r.p.b,.int .u64 r.c.a,.int .u64 r.c.b,.int .u64 r.n.a,.int .u64 r.n.b] 32)).alloc (by first |exact Nat.le_refl _ | (simp;done) | (simp;omega)) (.cells #[f.a,f.p,f.ta,f.tp] 141))
 generalize (w.alloc (.cells #[r.e,.int .u64 r.p.a,.int .u64 r.p.b,.int .u64 r.c.a,.int .u64 r.c.b,.int .u64 r.n.a,.int .u64 r.n.b] 32)).alloc (.cells #[f.a,f.p,f.ta,f.tp] 141)=w1 at *
 generalize w.heap.size+1=F at *
 generalize hK:w.heap.size=A at *
 refine(fI 1 4096 _ (by exact .inl ⟨rfl,rfl⟩)).mono ?_
 exact qQV
 ):P:=h
set_option maxHeartbeats 2000000 in
theorem Ha (r:Rg)(f:Fl)(c:Int)(hf:f.I)(hr:Ep r.e)(w:World) :
 Calls Tryz.prog 141 #[fE r,.int .i64 1,ff f,c] w fun e' w'=>e' =.returned (mX (fm 4096 r 1 f c))∧Below w.heap.size w w':=by
 have ja:dW 1:=⟨by omega,by omega⟩
 have KY:=fun e w=>uR r e hr w
 have WD:=fun k e he w=>j_ k 1 f 64 e hf ja ⟨by omega,by omega⟩ he w
 have CK:=fun k x e hx he w=>ES k 1 f x e hf rfl hx he w
 obtain ⟨o,ho⟩:∃o,o=fm 4096 r 1 f c:=⟨_,rfl⟩
 rw[←ho]
 unfold fm at ho
 unfold fE ff mX m6 eO at *
 replace KY:=hid KY
 replace WD:=hid WD
 replace CK:=hid CK
 by_cases h0:c<0
 ·rw[if_pos (Or.inl h0)]at ho
  subst ho
  exact qQ5
 by_cases h1:1048576≤c
 ·rw[if_pos (Or.inr (by omega))]at ho
  subst ho
  have g0:0≤c:=by omega
  exact qQ5
 rw[if_neg (by omega)]at ho
 have g0:0≤c:=by omega
 have g1:¬1048576≤c:=h1
 obtain ⟨e,he⟩:∃e,e=c/(64*4096):=⟨_,rfl⟩
 obtain ⟨m,hm⟩:∃m,m=c/4096%64:=⟨_,rfl⟩
 have he':c/262144=e:=he.symm
 have hm':bits .and .i64 (c/4096) 63=m:=by rw[ve,hm]
 have xp:dW e:=⟨by omega,by omega⟩
 have DL:0≤e∧e<4:=by omega
 unfold gP at ho
 rw[←he,←hm]at ho
 have KE:=KY.out e
 have hmb:0≤m∧m<64:=by omega
 have HM:=hid hm
 clear KY h1 he hm
 cases hk:keyOf r e with
 |none=>
  rw[hk]at ho KE
  subst ho
  have KY:=hid KE
  clear KE
  go_enter Tryz.func141,Tryz.ntmps141
  go_wp2_with fail
  have CA:=Ce.made (w:=w) (l:=[r.e,.int .u64 r.p.a,.int .u64 r.p.b,.int .u64 r.c.a,.int .u64 r.c.b,.int .u64 r.n.a,.int .u64 r.n.b]) (T:=32) (g:=w.heap.size) rfl
  replace CA:=CA.alloc (.cells #[f.a,f.p,f.ta,f.tp] 141)
  have CF:=Ce.made (w:=(w.alloc (.cells #[r.e,.int .u64 r.p.a,.int .u64 r.p.b,.int .u64 r.c.a,.int .u64 r.c.b,.int .u64 r.n.a,.int .u64 r.n.b] 32))) (l:=[f.a,f.p,f.ta,f.tp]) (T:=141) (g:=w.heap.size+1) (by simp)
  have B:Below w.heap.size w ((w.alloc (.cells #[r.e,.int .u64 r.p.a,.int .u64 r.p.b,.int .u64 r.c.a,.int .u64 r.c.b,.int .u64 r.n.a,.int .u64 r.n.b] 32)).alloc (.cells #[f.a,f.p,f.ta,f.tp] 141)):=(((Below.refl w.heap.size w).alloc (by first |exact Nat.le_refl _ | (simp;done) | (simp;omega)) (.cells #[r.e,.int .u64 r.p.a,.int .u64 r.p.b,.int .u64 r.c.a,.int .u64 r.c.b,.int .u64 r.n.a,.int .u64 r.n.b] 32)).alloc (by first |exact Nat.le_refl _ | (simp;done) | (simp;omega)) (.cells #[f.a,f.p,f.ta,f.tp] 141))
  generalize (w.alloc (.cells #[r.e,.int .u64 r.p.a,.int .u64 r.p.b,.int .u64 r.c.a,.int .u64 r.c.b,.int .u64 r.n.a,.int .u64 r.n.b] 32)).alloc (.cells #[f.a,f.p,f.ta,f.tp] 141)=w1 at *
  generalize w.heap.size+1=F at *
  generalize hK:w.heap.size=A at *
  refine(fI 1 4096 _ (by exact .inl ⟨rfl,rfl⟩)).mono ?_
  exact qXQ
 |some k=>
  rw[hk]at ho KE
  simp only at ho
  obtain ⟨wv,hwv⟩:∃wv,wv=W7 k 1 f 64 e:=⟨_,rfl⟩
  have hU:=ti k 1 f 64 e
  have pE:=WD.out k e xp
  rw[←hwv]at ho hU pE
  obtain ⟨sl,hsl⟩:∃sl,sl=xr m (wv%64):=⟨_,rfl⟩
  rw[←hsl]at ho
  have ri:0≤sl∧sl<64:=by rw[hsl];exact jD _ _ ⟨by omega,by omega⟩ ⟨by omega,by omega⟩
  have ha:bits .and .u64 wv 63=wv%64:=sC wv 6 (by omega) hU
  have hx:bits .xor .i64 m (wv%64)=sl:=by rw[pT m _ hmb ⟨by omega,by omega⟩,hsl]
  obtain ⟨iw,m9⟩:=hU
  replace pE:=hid pE
  have pQ:=CK.out k sl e ri DL
  obtain ⟨pj,hcv⟩:∃pj,pj=ix 4096 k 1 f sl e:=⟨_,rfl⟩
  rw[←hcv]at pQ ho
  replace pQ:=hid pQ
  clear hcv hsl hwv WD CK hk ri
  by_cases jO:pj=c
  ·rw[if_pos jO]at ho
   subst ho
   have hb1:(pj != c)=false:=by simp[jO]
   replace jO:=hid jO
   exact qY3
  rw[if_neg jO]at ho
  subst ho
  have hb1:(pj != c)=true:=by simp[jO]
  exact qY3
theorem qQ6{P:Prop}(h:P:=by
 go_enter Tryz.func141,Tryz.ntmps141
 go_wp2_with fail
 have CA:=Ce.made (w:=w) (l:=[r.e,.int .u64 r.p.a,.int .u64 r.p.b,.int .u64 r.c.a,.int .u64 r.c.b,.int .u64 r.n.a,.int .u64 r.n.b]) (T:=32) (g:=w.heap.size) rfl
 replace CA:=CA.alloc (.cells #[f.a,f.p,f.ta,f.tp] 141)
 have CF:=Ce.made (w:=(w.alloc (.cells #[r.e,.int .u64 r.p.a,.int .u64 r.p.b,.int .u64 r.c.a,.int .u64 r.c.b,.int .u64 r.n.a,.int .u64 r.n.b] 32))) (l:=[f.a,f.p,f.ta,f.tp]) (T:=141) (g:=w.heap.size+1) (by simp)
 have B:Below w.heap.size w ((w.alloc (.cells #[r.e,.int .u64 r.p.a,.int .u64 r.p.b,.int .u64 r.c.a,.int .u64 r.c.b,.int .u64 r.n.a,.int .u64 r.n.b] 32)).alloc (.cells #[f.a,f.p,f.ta,f.tp] 141)):=(((Below.refl w.heap.size w).alloc (by first |exact Nat.le_refl _ | (simp;done) | (simp;omega)) (.cells #[r.e,.int .u64 r.p.a,.int .u64 r.p.b,.int .u64 r.c.a,.int .u64 r.c.b,.int .u64 r.n.a,.int .u64 r.n.b] 32)).alloc (by first |exact Nat.le_refl _ | (simp;done) | (simp;omega)) (.cells #[f.a,f.p,f.ta,f.tp] 141))
 generalize (w.alloc (.cells #[r.e,.int .u64 r.p.a,.int .u64 r.p.b,.int .u64 r.c.a,.int .u64 r.c.b,.int .u64 r.n.a,.int .u64 r.n.b] 32)).alloc (.cells #[f.a,f.p,f.ta,f.tp] 141)=w1 at *
 generalize w.heap.size+1=F at *
 generalize hK:w.heap.size=A at *
 refine(fI 2 256 _ (by exact .inr ⟨rfl,rfl⟩)).mono ?_
 exact qJJ
 ):P:=h
theorem qY4{P:Prop}(h:P:=by
 have KY:=hid KE
 clear KE
 go_enter Tryz.func141,Tryz.ntmps141
 go_wp2_with fail
 have CA:=Ce.made (w:=w) (l:=[r.e,.int .u64 r.p.a,.int .u64 r.p.b,.int .u64 r.c.a,.int .u64 r.c.b,.int .u64 r.n.a,.int .u64 r.n.b]) (T:=32) (g:=w.heap.size) rfl
 replace CA:=CA.alloc (.cells #[f.a,f.p,f.ta,f.tp] 141)
 have CF:=Ce.made (w:=(w.alloc (.cells #[r.e,.int .u64 r.p.a,.int .u64 r.p.b,.int .u64 r.c.a,.int .u64 r.c.b,.int .u64 r.n.a,.int .u64 r.n.b] 32))) (l:=[f.a,f.p,f.ta,f.tp]) (T:=141) (g:=w.heap.size+1) (by simp)
 have B:Below w.heap.size w ((w.alloc (.cells #[r.e,.int .u64 r.p.a,.int .u64 r.p.b,.int .u64 r.c.a,.int .u64 r.c.b,.int .u64 r.n.a,.int .u64 r.n.b] 32)).alloc (.cells #[f.a,f.p,f.ta,f.tp] 141)):=(((Below.refl w.heap.size w).alloc (by first |exact Nat.le_refl _ | (simp;done) | (simp;omega)) (.cells #[r.e,.int .u64 r.p.a,.int .u64 r.p.b,.int .u64 r.c.a,.int .u64 r.c.b,.int .u64 r.n.a,.int .u64 r.n.b] 32)).alloc (by first |exact Nat.le_refl _ | (simp;done) | (simp;omega)) (.cells #[f.a,f.p,f.ta,f.tp] 141))
 generalize (w.alloc (.cells #[r.e,.int .u64 r.p.a,.int .u64 r.p.b,.int .u64 r.c.a,.int .u64 r.c.b,.int .u64 r.n.a,.int .u64 r.n.b] 32)).alloc (.cells #[f.a,f.p,f.ta,f.tp] 141)=w1 at *
 generalize w.heap.size+1=F at *
 generalize hK:w.heap.size=A at *
 refine(fI 2 256 _ (by exact .inr ⟨rfl,rfl⟩)).mono ?_
 exact qQV
 ):P:=h
set_option maxHeartbeats 2000000 in
theorem G_ (r:Rg)(f:Fl)(c:Int)(hf:f.I)(hr:Ep r.e)(w:World) :
 Calls Tryz.prog 141 #[fE r,.int .i64 2,ff f,c] w fun e' w'=>e' =.returned (mX (fm 256 r 2 f c))∧Below w.heap.size w w':=by
 have ja:dW 2:=⟨by omega,by omega⟩
 have KY:=fun e w=>uR r e hr w
 have WD:=fun k e he w=>j_ k 2 f 64 e hf ja ⟨by omega,by omega⟩ he w
 have CK:=fun k x e hx he w=>ER k 2 f x e hf rfl hx he w
 obtain ⟨o,ho⟩:∃o,o=fm 256 r 2 f c:=⟨_,rfl⟩
 rw[←ho]
 unfold fm at ho
 unfold fE ff mX m6 eO at *
 replace KY:=hid KY
 replace WD:=hid WD
 replace CK:=hid CK
 by_cases h0:c<0
 ·rw[if_pos (Or.inl h0)]at ho
  subst ho
  exact qQ6
 by_cases h1:65536≤c
 ·rw[if_pos (Or.inr (by omega))]at ho
  subst ho
  have g0:0≤c:=by omega
  exact qQ6
 rw[if_neg (by omega)]at ho
 have g0:0≤c:=by omega
 have g1:¬65536≤c:=h1
 obtain ⟨e,he⟩:∃e,e=c/(64*256):=⟨_,rfl⟩
 obtain ⟨m,hm⟩:∃m,m=c/256%64:=⟨_,rfl⟩
 have he':c/16384=e:=he.symm
 have hm':bits .and .i64 (c/256) 63=m:=by rw[ve,hm]
 have xp:dW e:=⟨by omega,by omega⟩
 have DL:0≤e∧e<4:=by omega
 unfold gP at ho
 rw[←he,←hm]at ho
 have KE:=KY.out e
 have hmb:0≤m∧m<64:=by omega
 have HM:=hid hm
 clear KY h1 he hm
 cases hk:keyOf r e with
 |none=>
  rw[hk]at ho KE
  subst ho
  have KY:=hid KE
  clear KE
  go_enter Tryz.func141,Tryz.ntmps141
  go_wp2_with fail
  have CA:=Ce.made (w:=w) (l:=[r.e,.int .u64 r.p.a,.int .u64 r.p.b,.int .u64 r.c.a,.int .u64 r.c.b,.int .u64 r.n.a,.int .u64 r.n.b]) (T:=32) (g:=w.heap.size) rfl
  replace CA:=CA.alloc (.cells #[f.a,f.p,f.ta,f.tp] 141)
  have CF:=Ce.made (w:=(w.alloc (.cells #[r.e,.int .u64 r.p.a,.int .u64 r.p.b,.int .u64 r.c.a,.int .u64 r.c.b,.int .u64 r.n.a,.int .u64 r.n.b] 32))) (l:=[f.a,f.p,f.ta,f.tp]) (T:=141) (g:=w.heap.size+1) (by simp)
  have B:Below w.heap.size w ((w.alloc (.cells #[r.e,.int .u64 r.p.a,.int .u64 r.p.b,.int .u64 r.c.a,.int .u64 r.c.b,.int .u64 r.n.a,.int .u64 r.n.b] 32)).alloc (.cells #[f.a,f.p,f.ta,f.tp] 141)):=(((Below.refl w.heap.size w).alloc (by first |exact Nat.le_refl _ | (simp;done) | (simp;omega)) (.cells #[r.e,.int .u64 r.p.a,.int .u64 r.p.b,.int .u64 r.c.a,.int .u64 r.c.b,.int .u64 r.n.a,.int .u64 r.n.b] 32)).alloc (by first |exact Nat.le_refl _ | (simp;done) | (simp;omega)) (.cells #[f.a,f.p,f.ta,f.tp] 141))
  generalize (w.alloc (.cells #[r.e,.int .u64 r.p.a,.int .u64 r.p.b,.int .u64 r.c.a,.int .u64 r.c.b,.int .u64 r.n.a,.int .u64 r.n.b] 32)).alloc (.cells #[f.a,f.p,f.ta,f.tp] 141)=w1 at *
  generalize w.heap.size+1=F at *
  generalize hK:w.heap.size=A at *
  refine(fI 2 256 _ (by exact .inr ⟨rfl,rfl⟩)).mono ?_
  exact qXQ
 |some k=>
  rw[hk]at ho KE
  simp only at ho
  obtain ⟨wv,hwv⟩:∃wv,wv=W7 k 2 f 64 e:=⟨_,rfl⟩
  have hU:=ti k 2 f 64 e
  have pE:=WD.out k e xp
  rw[←hwv]at ho hU pE
  obtain ⟨sl,hsl⟩:∃sl,sl=xr m (wv%64):=⟨_,rfl⟩
  rw[←hsl]at ho
  have ri:0≤sl∧sl<64:=by rw[hsl];exact jD _ _ ⟨by omega,by omega⟩ ⟨by omega,by omega⟩
  have ha:bits .and .u64 wv 63=wv%64:=sC wv 6 (by omega) hU
  have hx:bits .xor .i64 m (wv%64)=sl:=by rw[pT m _ hmb ⟨by omega,by omega⟩,hsl]
  obtain ⟨iw,m9⟩:=hU
  replace pE:=hid pE
  have pQ:=CK.out k sl e ri DL
  obtain ⟨pj,hcv⟩:∃pj,pj=ix 256 k 2 f sl e:=⟨_,rfl⟩
  rw[←hcv]at pQ ho
  replace pQ:=hid pQ
  clear hcv hsl hwv WD CK hk ri
  by_cases jO:pj=c
  ·rw[if_pos jO]at ho
   subst ho
   have hb1:(pj != c)=false:=by simp[jO]
   replace jO:=hid jO
   exact qY4
  rw[if_neg jO]at ho
  subst ho
  have hb1:(pj != c)=true:=by simp[jO]
  exact qY4
end Go.Proofs.YtalnfkijiehjhaaGreat
