/- Package sip's sums of numbers. the document's round. The document's keyed sums, said a second time. The document's sum of numbers: of their bytes. Package sip's sums of bytes. -/
import Derived.Test.YtalnfkijiehjhaaGreatGa
import Derived.Test.YtalnfkijiehjhaaGreatGs
namespace Go.Proofs.YtalnfkijiehjhaaGreat
set_option linter.unusedVariables false
open Go.RowKit Go.ChangeShapes Go.WideShapes Go.ChangeAt
theorem sJ {a b:Int}(h:a=b):Ending.returned (.int .u64 a) =.returned (.int .u64 b):=by rw[h]
theorem qX9{P:Prop}(h:P:=by
 repeat' (first |with_reducible exact Below.refl _ _ |with_reducible refine Below.alloc ?_ ?_ _ |with_reducible refine Below.setCell ?_ ?_ _ | (simp;done) | (simp;omega))
 ):P:=h
theorem zu (a b:Int)(w:World):Calls Tryz.prog 170 #[.agg #[.int .u64 a,.int .u64 b]] w fun e w'=>e =.returned (.agg #[.int .u64 (ev a b).a,.int .u64 (ev a b).b,.int .u64 (ev a b).c,.int .u64 (ev a b).d])∧Below w.heap.size w w':=by
 go_enter Tryz.func170,Tryz.ntmps170
 go_wp2_with fail
 refine bodyPost_ret (v:=.agg #[.int .u64 (ev a b).a,.int .u64 (ev a b).b,.int .u64 (ev a b).c,.int .u64 (ev a b).d]) (by simp[results,Tryz.results170,go_sem];exact⟨rfl,rfl,rfl,rfl⟩) rfl ⟨rfl,?_⟩
 exact qX9
def ye:Nat→V4→V4
 |0,v=>v
 |k+1,v=>oj (ye k v)
theorem zV {v:V4}(h:v.U):∀k,(ye k v).U
 |0=>h
 |k+1=>ll (zV h k)
set_option maxRecDepth 100000 in
theorem Gl (g:Nat)(v:V4)(l:Int)(n:Int)(w:World)(hS:St w g v)(hU:v.U)(hn:0≤n)(hn':n≤1125899906842624) :
 Calls Tryz.prog 172 #[.pointer (some ⟨g,0,none⟩),.int .u64 l,n] w fun e w'=>e =.returned (.int .u64 (sY (gu v (bits .or .u64 l (IntKind.u64.wrap (n*72057594037927936))))))∧bP g w w':=by
 have hg:=hS.lt
 obtain ⟨m,hm⟩:∃m,m=bits .or .u64 l (IntKind.u64.wrap (n*72057594037927936)):=⟨_,rfl⟩
 have N_:U m:=by rw[hm];exact vL _ _ _
 go_enter Tryz.func172,Tryz.ntmps172
 go_wp2_with fail
 rw[←hm]
 have HM:=hid hm
 clear hm
 have hw1:bP g w (w.alloc (.cells #[.int .u64 m] 28)):=bP.of_below ((Below.refl _ _).alloc (Nat.le_refl _) _)
 refine(Cx g v _ 1 1 (fun j=>[m].getD j 0) _ (hS.below ((Below.refl w.heap.size w).alloc (Nat.le_refl _) _) hg) hU (by exact gl .u64 [m] rfl) (fun j=>?_) (fun ad e _=>?_) (by omega)).mono ?_
 ·rcases j with _ |j
  ·exact N_
  exact⟨by simp,by simp⟩
 ·injection e with e
  subst e
  simp only
  omega
 rintro e w1 ⟨rfl,gK,hS1⟩
 have hS2:St w1 g (gu v m):=hS1
 have m9:=yH hU m
 have hO2:=hw1.trans gK
 clear gK hw1 hS hS1
 obtain ⟨ca,cb,cc,cd,fa,fb,fc,fd⟩:=hS2
 have hS2:St w1 g (gu v m):=⟨ca,cb,cc,cd,fa,fb,fc,fd⟩
 clear ca cb cd fa fb fd
 go_wp2_with fail
 go_loopw [22] (fun i wr=>∃k:Nat,k≤4∧i =.int .i64 k∧bP g w wr∧St wr g (ye k { gu v m with c:=xo (gu v m).c 255 })) (fun i _=>4-(intOf i).toNat)
 case atStart=>exact⟨0,by omega,rfl,hO2.setCell 2 _,hS2.f8 _⟩
 obtain ⟨k,hk,rfl,hO3,gJ⟩:=hrel
 have o6:(ye k { gu v m with c:=xo (gu v m).c 255 }).U:=zV (v:={ gu v m with c:=xo (gu v m).c 255 }) ⟨m9.1,m9.2.1,gT _ _,m9.2.2.2⟩ k
 clear hO2 hS2 cc fc
 by_cases hlt:k<4
 ·have i1:(k:Int)<4:=by omega
  go_wp2_with fail
  refine(kE g _ _ gJ o6).mono ?_
  rintro e w3 ⟨rfl,hO4,gq⟩
  go_wp2_with fail
  go_roundw
  case rel=>exact⟨k+1,by omega,by go_num,hO3.trans hO4,gq⟩
  simp[intOf];omega
 have e:k=4:=by omega
 subst e
 have hS5:St wr g (kx (gu v m)):=gJ
 clear gJ o6
 obtain ⟨ca,cb,cc,cd,fa,fb,fc,fd⟩:=hS5
 clear fa fb fc fd
 have i1:¬((4:Nat):Int)<4:=by omega
 go_wp2_with fail
 go_quiet (fail)
 go_wp2
 go_ret
 exact⟨sJ (show xo (xo (xo (kx (gu v m)).a (kx (gu v m)).b) (kx (gu v m)).c) (kx (gu v m)).d=_ by rw[←HM.out];rfl),hO3.drewN _⟩
def uK (a b:Int)(f:Nat→Int)(n:Nat):Int:=
 sY (gu (eats (fun i=>fH (fun j=>f (8*i+j)) 8) (n/8) (ev a b)) (bits .or .u64 (fH (fun j=>f (8*(n/8)+j)) (n%8)) (IntKind.u64.wrap ((n:Int)*72057594037927936))))
def iH (a b:Int)(f:Nat→Int)(n:Nat):Int:=
 sY (gu (eats (fun j=>IntKind.u64.wrap (f j)) n (ev a b)) (bits .or .u64 0 (IntKind.u64.wrap (8*(n:Int)*72057594037927936))))
theorem St.made {w:World}{T:TypeId}{v:V4}{g:Nat}(hg:w.heap.size=g):St (w.alloc (.cells #[.int .u64 v.a,.int .u64 v.b,.int .u64 v.c,.int .u64 v.d] T)) g v:=by
 subst hg
 have h:=heap_alloc_new w (.cells #[.int .u64 v.a,.int .u64 v.b,.int .u64 v.c,.int .u64 v.d] T)
 exact⟨by rw[cell_of_row _ _ _ _ _ _ h];rfl,by rw[cell_of_row _ _ _ _ _ _ h];rfl,by rw[cell_of_row _ _ _ _ _ _ h];rfl,by rw[cell_of_row _ _ _ _ _ _ h];rfl,
  frozen_of_row _ _ _ _ _ h,frozen_of_row _ _ _ _ _ h,frozen_of_row _ _ _ _ _ h,frozen_of_row _ _ _ _ _ h⟩
theorem mn (a b:Int)(A:Option Addr)(n c:Nat)(f:Nat→Int)(w:World)(h:Is w A n f)(hf:qH f)(hn:n≤140737488355328) :
 Calls Tryz.prog 143 #[.agg #[.int .u64 a,.int .u64 b],.slice A n c] w fun e w'=>e =.returned (.int .u64 (iH a b f n))∧Below w.heap.size w w':=by
 go_enter Tryz.func143,Tryz.ntmps143
 go_wp2_with fail
 refine(zu a b _).mono ?_
 rintro e w1 ⟨rfl,hb1⟩
 go_wp2_with fail
 have hb1:=((Below.refl w.heap.size w).alloc (Nat.le_refl _) (.cells #[.int .u64 a,.int .u64 b] 30)).trans (hb1.mono (by simp))
 have hS:=St.made (w:=w1) (T:=225) (v:=ev a b) (g:=w1.heap.size) rfl
 have hb2:Below w.heap.size w (w1.alloc (.cells #[.int .u64 (ev a b).a,.int .u64 (ev a b).b,.int .u64 (ev a b).c,.int .u64 (ev a b).d] 225)):=hb1.alloc hb1.size _
 have hs:=h.below hb2 (Nat.le_refl _)
 have hz:=hb1.size
 refine(Cy w1.heap.size (ev a b) A n c f _ hS (uL a b) hs hf (fun ad e h0=>?_) hn).mono ?_
 ·obtain ⟨b',off,e',hlt,_⟩:=h h0
  rw[e]at e'
  injection e' with e'
  subst e'
  simp only
  omega
 rintro e w2 ⟨rfl,hO2,hS2⟩
 have m9:=pg (f:=fun j=>IntKind.u64.wrap (f j)) (uL a b) n
 have hb3:=hb2.trans (hO2.below hz (by simp;omega))
 clear hS hs h
 go_wp2_with fail
 refine(Gl w1.heap.size _ 0 (8*(n:Int)) _ hS2 m9 (by omega) (by omega)).mono ?_
 rintro e w3 ⟨rfl,hO3⟩
 have hb4:=hb3.trans (hO3.below hz hb3.size)
 go_wp2
 go_ret
 exact⟨rfl,hb4⟩
theorem FE (a b:Int)(f:Nat→Int)(n p L:Nat)(h:8*p+L=n)(hL:L<8) :
 sY (gu (eats (fun i=>fH (fun j=>f (8*i+j)) 8) p (ev a b)) (bits .or .u64 (fH (fun j=>f (8*p+j)) L) (IntKind.u64.wrap ((n:Int)*72057594037927936))))=uK a b f n:=by
 have h1:n/8=p:=by omega
 have h2:n%8=L:=by omega
 unfold uK
 rw[h1,h2]
theorem qZU{P:Prop}(h:P:=by
 unfold U at hx
 go_enter Tryz.func184,Tryz.ntmps184
 go_wp2
 go_ret
 exact⟨rfl,rfl⟩
 ):P:=h
theorem G8 (x:Int)(hx:U x)(w:World):Calls Tryz.prog 184 #[.int .u64 x,.int .u64 13] w fun e w'=>e =.returned (.int .u64 (kH x 8192 2251799813685248))∧w=w':=by
 exact qZU
theorem G7 (x:Int)(hx:U x)(w:World):Calls Tryz.prog 184 #[.int .u64 x,.int .u64 16] w fun e w'=>e =.returned (.int .u64 (kH x 65536 281474976710656))∧w=w':=by
 exact qZU
theorem G6 (x:Int)(hx:U x)(w:World):Calls Tryz.prog 184 #[.int .u64 x,.int .u64 17] w fun e w'=>e =.returned (.int .u64 (kH x 131072 140737488355328))∧w=w':=by
 exact qZU
theorem G5 (x:Int)(hx:U x)(w:World):Calls Tryz.prog 184 #[.int .u64 x,.int .u64 21] w fun e w'=>e =.returned (.int .u64 (kH x 2097152 8796093022208))∧w=w':=by
 exact qZU
theorem zJ (x:Int)(hx:U x)(w:World):Calls Tryz.prog 184 #[.int .u64 x,.int .u64 32] w fun e w'=>e =.returned (.int .u64 (kH x 4294967296 4294967296))∧w=w':=by
 exact qZU
set_option maxRecDepth 100000 in
set_option maxHeartbeats 4000000 in
theorem iQ (g:Nat)(v:V4)(w:World)(hS:St w g v)(hU:v.U):Calls Tryz.prog 175 #[.pointer (some ⟨g,0,none⟩)] w fun e w'=>e =.returned (.tuple #[])∧bP g w w'∧St w' g (oj v):=by
 have Bf:=bP.pW g w
 obtain ⟨ca,cb,cc,cd,fa,fb,fc,fd⟩:=hS
 have hS0:St w g v:=⟨ca,cb,cc,cd,fa,fb,fc,fd⟩
 go_enter Tryz.func175,Tryz.ntmps175
 go_upto_region 0 with fail
 go_cut [] (fun wx=>bP g w wx∧St wx g (v.s0))
 case first=>
  exact qZN
 case rest=>
 clear ca cb cc cd fa fb fc fd
 obtain ⟨gK,hS1⟩:=hcut
 generalize wc=w1 at *
 obtain ⟨ca,cb,cc,cd,fa,fb,fc,fd⟩:=hS1
 have hS1:St w1 g (v.s0):=⟨ca,cb,cc,cd,fa,fb,fc,fd⟩
 clear Bf hS0
 go_upto_region 1 with fail
 go_cut [] (fun wx=>bP g w wx∧St wx g (v.s0.s1))
 case first=>
  go_region_with (go_at_call 184;refine(G8 _ ((V4.U0 (hU)).2.1) _).mono ?_;rintro e w' ⟨rfl,rfl⟩)
  all_goals
   exact qZG
 case rest=>
 clear ca cb cc cd fa fb fc fd
 obtain ⟨hO2,hS2⟩:=hcut
 generalize wc=w2 at *
 obtain ⟨ca,cb,cc,cd,fa,fb,fc,fd⟩:=hS2
 have hS2:St w2 g (v.s0.s1):=⟨ca,cb,cc,cd,fa,fb,fc,fd⟩
 clear gK hS1
 go_upto_region 2 with fail
 go_cut [] (fun wx=>bP g w wx∧St wx g (v.s0.s1.s2))
 case first=>
  go_wp2_with (go_at_call 184;refine(zJ _ ((V4.U1 (V4.U0 (hU))).1) _).mono ?_;rintro e w' ⟨rfl,rfl⟩)
  all_goals
   exact qZP
 case rest=>
 clear ca cb cc cd fa fb fc fd
 obtain ⟨hO3,gJ⟩:=hcut
 generalize wc=w3 at *
 obtain ⟨ca,cb,cc,cd,fa,fb,fc,fd⟩:=gJ
 have gJ:St w3 g (v.s0.s1.s2):=⟨ca,cb,cc,cd,fa,fb,fc,fd⟩
 clear hO2 hS2
 go_upto_region 3 with fail
 go_cut [] (fun wx=>bP g w wx∧St wx g (v.s0.s1.s2.s3))
 case first=>
  exact qZL
 case rest=>
 clear ca cb cc cd fa fb fc fd
 obtain ⟨hO4,gq⟩:=hcut
 generalize wc=w4 at *
 obtain ⟨ca,cb,cc,cd,fa,fb,fc,fd⟩:=gq
 have gq:St w4 g (v.s0.s1.s2.s3):=⟨ca,cb,cc,cd,fa,fb,fc,fd⟩
 clear hO3 gJ
 go_upto_region 4 with fail
 go_cut [] (fun wx=>bP g w wx∧St wx g (v.s0.s1.s2.s3.s4))
 case first=>
  go_region_with (go_at_call 184;refine(G7 _ ((V4.U3 (V4.U2 (V4.U1 (V4.U0 (hU))))).2.2.2) _).mono ?_;rintro e w' ⟨rfl,rfl⟩)
  all_goals
   exact qZT
 case rest=>
 clear ca cb cc cd fa fb fc fd
 obtain ⟨mB,hS5⟩:=hcut
 generalize wc=w5 at *
 obtain ⟨ca,cb,cc,cd,fa,fb,fc,fd⟩:=hS5
 have hS5:St w5 g (v.s0.s1.s2.s3.s4):=⟨ca,cb,cc,cd,fa,fb,fc,fd⟩
 clear hO4 gq
 go_upto_region 5 with fail
 go_cut [] (fun wx=>bP g w wx∧St wx g (v.s0.s1.s2.s3.s4.s5))
 case first=>
  exact qZM
 case rest=>
 clear ca cb cc cd fa fb fc fd
 obtain ⟨tS,j6⟩:=hcut
 generalize wc=w6 at *
 obtain ⟨ca,cb,cc,cd,fa,fb,fc,fd⟩:=j6
 have j6:St w6 g (v.s0.s1.s2.s3.s4.s5):=⟨ca,cb,cc,cd,fa,fb,fc,fd⟩
 clear mB hS5
 go_upto_region 6 with fail
 go_cut [] (fun wx=>bP g w wx∧St wx g (v.s0.s1.s2.s3.s4.s5.s6))
 case first=>
  go_region_with (go_at_call 184;refine(G5 _ ((V4.U5 (V4.U4 (V4.U3 (V4.U2 (V4.U1 (V4.U0 (hU))))))).2.2.2) _).mono ?_;rintro e w' ⟨rfl,rfl⟩)
  all_goals
   exact qZH
 case rest=>
 clear ca cb cc cd fa fb fc fd
 obtain ⟨o_,jR⟩:=hcut
 generalize wc=w7 at *
 obtain ⟨ca,cb,cc,cd,fa,fb,fc,fd⟩:=jR
 have jR:St w7 g (v.s0.s1.s2.s3.s4.s5.s6):=⟨ca,cb,cc,cd,fa,fb,fc,fd⟩
 clear tS j6
 go_upto_region 7 with fail
 go_cut [] (fun wx=>bP g w wx∧St wx g (v.s0.s1.s2.s3.s4.s5.s6.s7))
 case first=>
  exact qZR
 case rest=>
 clear ca cb cc cd fa fb fc fd
 obtain ⟨vq,kV⟩:=hcut
 generalize wc=w8 at *
 obtain ⟨ca,cb,cc,cd,fa,fb,fc,fd⟩:=kV
 have kV:St w8 g (v.s0.s1.s2.s3.s4.s5.s6.s7):=⟨ca,cb,cc,cd,fa,fb,fc,fd⟩
 clear o_ jR
 go_upto_region 8 with fail
 go_cut [] (fun wx=>bP g w wx∧St wx g (v.s0.s1.s2.s3.s4.s5.s6.s7.s8))
 case first=>
  go_region_with (go_at_call 184;refine(G6 _ ((V4.U7 (V4.U6 (V4.U5 (V4.U4 (V4.U3 (V4.U2 (V4.U1 (V4.U0 (hU))))))))).2.1) _).mono ?_;rintro e w' ⟨rfl,rfl⟩)
  all_goals
   exact qZS
 case rest=>
 clear ca cb cc cd fa fb fc fd
 obtain ⟨IN,rV⟩:=hcut
 generalize wc=w9 at *
 obtain ⟨ca,cb,cc,cd,fa,fb,fc,fd⟩:=rV
 have rV:St w9 g (v.s0.s1.s2.s3.s4.s5.s6.s7.s8):=⟨ca,cb,cc,cd,fa,fb,fc,fd⟩
 clear vq kV
 go_wp2_with (go_at_call 184;refine(zJ _ ((V4.U8 (V4.U7 (V4.U6 (V4.U5 (V4.U4 (V4.U3 (V4.U2 (V4.U1 (V4.U0 (hU)))))))))).2.2.1) _).mono ?_;rintro e w' ⟨rfl,rfl⟩)
 exact qZ9
theorem xD (g:Nat)(v:V4)(m:Int)(w:World)(hS:St w g v)(hU:v.U) :
 Calls Tryz.prog 173 #[.pointer (some ⟨g,0,none⟩),.int .u64 m] w fun e w'=>e =.returned (.tuple #[])∧bP g w w'∧St w' g (gu v m):=by
 have hO:=bP.pW g w
 have hS2:=hS
 obtain ⟨ca,cb,cc,cd,fa,fb,fc,fd⟩:=hS
 clear ca cb cc fa fb fc
 go_enter Tryz.func173,Tryz.ntmps173
 go_wp2_with fail
 refine(iQ g { v with d:=xo v.d m } _ (hS2.g_ _) ⟨hU.1,hU.2.1,hU.2.2.1,gT _ _⟩).mono ?_
 rintro e w1 ⟨rfl,hO3,gJ⟩
 have o6:=ll (v:={ v with d:=xo v.d m }) ⟨hU.1,hU.2.1,hU.2.2.1,gT _ _⟩
 go_wp2_with fail
 refine(iQ g _ _ gJ o6).mono ?_
 rintro e w2 ⟨rfl,hO4,gq⟩
 have mB:=((hO.setCell 3 _).trans hO3).trans hO4
 have hS5:=gq
 obtain ⟨ca,cb,cc,Bv,fa,fb,fc,Bh⟩:=gq
 clear cb cc Bv fb fc Bh cd fd hO3 hO4 gJ hS2
 go_wp2_with fail
 go_end0
 exact⟨rfl,mB.setCell 0 _,hS5.fw _⟩
theorem Jx (n:Nat)(hn:n<9223372036854775808):bits .and .i64 (n:Int) 255=((n%256:Nat):Int):=by
 have h1:n &&& 255=n%256:=Nat.and_two_pow_sub_one_eq_mod n 8
 show IntKind.i64.wrap ((BitVec.ofInt 64 (n:Int) &&& BitVec.ofInt 64 ((255:Nat):Int)).toNat:Int)=_
 rw[BitVec.toNat_and,BitVec.ofInt_natCast,BitVec.ofInt_natCast,BitVec.toNat_ofNat,BitVec.toNat_ofNat,Nat.mod_eq_of_lt (by omega),Nat.mod_eq_of_lt (by omega),h1,IntKind.wrap_i64]
 omega
theorem top56 (n:Nat):(n:Int)%256*72057594037927936=IntKind.u64.wrap ((n:Int)*72057594037927936):=by
 rw[IntKind.wrap_u64]
 omega
set_option maxRecDepth 100000 in
theorem CZ (a b:Int)(A:Option Addr)(n c:Nat)(f:Nat→Int)(w:World)(h:By w A n f)(hf:aC f)(hnc:n≤c)(hn:n≤140737488355328) :
 Calls Tryz.prog 144 #[.agg #[.int .u64 a,.int .u64 b],.slice A n c] w fun e w'=>e =.returned (.int .u64 (uK a b f n))∧Below w.heap.size w w':=by
 have hand:=Jx n (by omega)
 go_enter Tryz.func144,Tryz.ntmps144
 go_wp2_with fail
 have hS:=St.made (w:=w.alloc (.cells #[.int .u64 a,.int .u64 b] 30)) (T:=232) (v:=ev a b) (g:=w.heap.size+1) (by simp)
 have hb2:Below w.heap.size w ((w.alloc (.cells #[.int .u64 a,.int .u64 b] 30)).alloc (.cells #[.int .u64 (ev a b).a,.int .u64 (ev a b).b,.int .u64 (ev a b).c,.int .u64 (ev a b).d] 232)):=
  ((Below.refl _ _).alloc (Nat.le_refl _) _).alloc (by simp) _
 have hs:=h.below hb2 (Nat.le_refl _)
 have hz':w.heap.size≤w.heap.size+1:=by omega
 have hA:∀ad,A=some ad→0<n→ad.block≠w.heap.size+1:=fun ad e h0=>by
  obtain ⟨b',off,e',hlt,_⟩:=h h0
  rw[e]at e'
  injection e' with e'
  subst e'
  simp only
  omega
 clear h
 change Code.wp _ _ _ _ ((w.alloc (.cells #[.int .u64 a,.int .u64 b] 30)).alloc (.cells #[.int .u64 (ev a b).a,.int .u64 (ev a b).b,.int .u64 (ev a b).c,.int .u64 (ev a b).d] 232))
 generalize hgg:w.heap.size+1=g at *
 clear hgg
 generalize (w.alloc (.cells #[.int .u64 a,.int .u64 b] 30)).alloc _=w2 at *
 have hO:=bP.pW g w2
 go_loopw [6] (fun r wr=>∃p:Nat,8*p≤n∧r =.int .i64 (8*(p:Int))∧bP g w2 wr∧St wr g (eats (fun i=>fH (fun j=>f (8*i+j)) 8) p (ev a b)))
  (fun r _=>n-(intOf r).toNat)
 case atStart=>exact⟨0,by omega,rfl,hO,hS⟩
 obtain ⟨p,hpn,rfl,gK,hS1⟩:=hrel
 have hB:=gK.sl hs hA
 have iw:=pg (f:=fun i=>fH (fun j=>f (8*i+j)) 8) (uL a b) p
 have hE:Hid (eats (fun i=>fH (fun j=>f (8*i+j)) 8) (p+1) (ev a b)=gu (eats (fun i=>fH (fun j=>f (8*i+j)) 8) p (ev a b)) (fH (fun j=>f (8*p+j)) 8)):=rfl
 have hfp:aC (fun j=>f (8*p+j)):=fun j=>hf _
 clear hO hS
 by_cases hlt:8*p+8≤n
 ·generalize eats (fun i=>fH (fun j=>f (8*i+j)) 8) p (ev a b)=v1 at *
  obtain ⟨A2,k2,S2⟩:=iK A n c (8*p) (8*p+8) (by omega) hlt hnc (8*(p:Int)) (8*(p:Int)+8) (by omega) (by omega)
  rw[show 8*p+8-8*p=8 from by omega]at k2 S2
  have i1:8*(p:Int)+8≤n:=by omega
  have SB:=S2 _ _ hB
  clear S2 hB
  go_wp2_with fail
  refine(xk A2 8 _ (fun j=>f (8*p+j)) _ SB hfp (by omega)).mono ?_
  rintro e w3 ⟨rfl,rfl⟩
  go_wp2_with fail
  refine(xD g v1 (fH (fun j=>f (8*p+j)) 8) _ hS1 iw).mono ?_
  rintro e w4 ⟨rfl,hO2,hS2⟩
  have hO3:=hid (gK.trans hO2)
  have Pp:=hid hS2
  clear hS2 hO2 hS1 gK
  go_wp2_with fail
  go_roundw
  case rel=>exact⟨p+1,by omega,by go_num,hO3.out,by rw[hE.out];exact Pp.out⟩
  simp[intOf];omega
 obtain ⟨L,hL⟩:∃L,L=n-8*p:=⟨_,rfl⟩
 have hfin:=hid (FE a b f n p L (by omega) (by omega))
 have i1:¬8*(p:Int)+8≤n:=by omega
 obtain ⟨A2,k2,S2⟩:=eA A n c (8*p) (by omega) hnc (8*(p:Int)) (by omega)
 rw[←hL]at k2 S2
 have SB:=S2 _ _ hB
 have Oj:L≤8:=by omega
 have htop:=hid (top56 n)
 clear S2 hB hL
 generalize eats (fun i=>fH (fun j=>f (8*i+j)) 8) p (ev a b)=v1 at *
 clear hE
 go_wp2_with fail
 refine(xk A2 L _ (fun j=>f (8*p+j)) _ SB hfp Oj).mono ?_
 rintro e w3 ⟨rfl,rfl⟩
 go_wp2_with fail
 rw[htop.out]
 obtain ⟨m,hm⟩:∃m,m=bits .or .u64 (fH (fun j=>f (8*p+j)) L) (IntKind.u64.wrap ((n:Int)*72057594037927936)):=⟨_,rfl⟩
 rw[←hm]
 have HM:=hid hm
 clear hm hand
 refine(xD g v1 m _ hS1 iw).mono ?_
 rintro e w4 ⟨rfl,hO2,hS2⟩
 have m9:=yH iw m
 have hO3:=gK.trans hO2
 clear gK hO2 hS1 SB
 obtain ⟨ca,cb,cc,cd,fa,fb,fc,fd⟩:=hS2
 have hS2:St w4 g (gu v1 m):=⟨ca,cb,cc,cd,fa,fb,fc,fd⟩
 clear ca cb cd fa fb fd
 have o6:V4.U { gu v1 m with c:=xo (gu v1 m).c 255 }:=⟨m9.1,m9.2.1,gT _ _,m9.2.2.2⟩
 go_wp2_with fail
 refine(iQ g { gu v1 m with c:=xo (gu v1 m).c 255 } _ (hS2.f8 _) o6).mono ?_
 rintro e w5 ⟨rfl,hO4,gq⟩
 have Lw:=ll o6
 go_wp2_with fail
 refine(iQ g _ _ gq Lw).mono ?_
 rintro e w6 ⟨rfl,mB,hS5⟩
 have Lv:=ll Lw
 go_wp2_with fail
 refine(iQ g _ _ hS5 Lv).mono ?_
 rintro e w7 ⟨rfl,tS,j6⟩
 have Og:=ll Lv
 go_wp2_with fail
 refine(iQ g _ _ j6 Og).mono ?_
 rintro e w8 ⟨rfl,o_,jR⟩
 have kV:St w8 g (kx (gu v1 m)):=jR
 have vq:=((((hO3.setCell 2 _).trans hO4).trans mB).trans tS).trans o_
 have lS:=hb2.trans (vq.below hz' hb2.size)
 clear hS2 cc fc hO3 hO4 mB tS o_ gq hS5 j6 jR
 obtain ⟨ca,cb,cc,cd,fa,fb,fc,fd⟩:=kV
 clear fa fb fc fd
 go_wp2_with fail
 go_quiet (fail)
 go_wp2
 go_ret
 refine⟨sJ ?_,below_drewN lS _⟩
 rw[←hfin.out,←HM.out]
 rfl
def byteOf (f:Nat→Int)(q:Nat):Int:=IntKind.u64.wrap (f (q/8))/2^(8*(q%8))%256
theorem Ea (f:Nat→Int):aC (byteOf f):=fun q=>by unfold byteOf;omega
theorem g5 (f:Nat→Int)(i j:Nat)(hj:j<8):byteOf f (8*i+j)=IntKind.u64.wrap (f i)/256^j%256:=by
 have h1:(8*i+j)/8=i:=by omega
 have h2:(8*i+j)%8=j:=by omega
 have h3:(2:Int)^(8*j)=256^j:=by rw[Int.pow_mul];rfl
 unfold byteOf
 rw[h1,h2,h3]
theorem yn (f:Nat→Int)(i:Nat):fH (fun j=>byteOf f (8*i+j)) 8=IntKind.u64.wrap (f i):=by
 have hU:=BU (f i)
 generalize hx:IntKind.u64.wrap (f i)=x at *
 unfold U at hU
 simp only[fH,g5 f i _ (show 0<8 by omega),g5 f i _ (show 1<8 by omega),g5 f i _ (show 2<8 by omega),g5 f i _ (show 3<8 by omega),g5 f i _ (show 4<8 by omega),g5 f i _ (show 5<8 by omega),g5 f i _ (show 6<8 by omega),g5 f i _ (show 7<8 by omega),hx]
 simp only[Int.pow_succ,Int.pow_zero,Int.one_mul,Int.ediv_one,Int.mul_one,Int.zero_add]
 omega
theorem xX (a b:Int)(f:Nat→Int)(n:Nat):uK a b (byteOf f) (8*n)=iH a b f n:=by
 have h1:8*n/8=n:=by omega
 have h2:8*n%8=0:=by omega
 unfold uK iH
 rw[h1,h2,vw _ n (fun i _=>yn f i)]
 rfl
set_option maxRecDepth 100000 in
theorem lk (a b:Int)(A:Option Addr)(n c:Nat)(f:Nat→Int)(w:World)(h:Is w A n f)(hf:qH f)(hn:n≤17592186044416) :
 Calls Tryz.prog 112 #[.agg #[.int .u64 a,.int .u64 b],.slice A n c] w fun e w'=>e =.returned (.int .u64 (iH a b f n))∧Below w.heap.size w w':=by
 go_enter Tryz.func112,Tryz.ntmps112
 go_wp2_with fail
 have hs:=h.below ((Below.refl w.heap.size w).alloc (Nat.le_refl _) (.cells #[.int .u64 a,.int .u64 b] 30)) (Nat.le_refl _)
 have hb0:Below w.heap.size w (w.alloc (.cells #[.int .u64 a,.int .u64 b] 30)):=(Below.refl _ _).alloc (Nat.le_refl _) _
 have hk0:(w.alloc (.cells #[.int .u64 a,.int .u64 b] 30)).cell? ⟨w.heap.size,0,none⟩=some (.int .u64 a):=by
  rw[cell_of_row _ _ _ _ _ _ (heap_alloc_new w _)];rfl
 have hk1:(w.alloc (.cells #[.int .u64 a,.int .u64 b] 30)).cell? ⟨w.heap.size,1,none⟩=some (.int .u64 b):=by
  rw[cell_of_row _ _ _ _ _ _ (heap_alloc_new w _)];rfl
 have hsz:(w.alloc (.cells #[.int .u64 a,.int .u64 b] 30)).heap.size=w.heap.size+1:=by simp
 have hsl:w.heap.size<(w.alloc (.cells #[.int .u64 a,.int .u64 b] 30)).heap.size:=by simp
 clear hsz
 generalize hw1:w.alloc (.cells #[.int .u64 a,.int .u64 b] 30)=w1 at *
 clear hw1 h
 go_loopw [5,6,7] (fun r i _ wr=>∃(k:Nat) (A':Option Addr) (c':Nat),k≤n∧i =.int .i64 k∧r =.slice A' (8*k) c'∧8*k≤c'∧Below w1.heap.size w1 wr∧Ow wr w1.heap.size 5 1 (.slice A' (8*k) c') (8*k) (fun q=>.int .u8 (byteOf f q)))
  (fun _ i _ _=>n-(intOf i).toNat)
 case atStart=>exact⟨0,none,0,by omega,rfl,rfl,by omega,Below.refl _ _,Ow.none_⟩
 obtain ⟨k,A',c',hk,rfl,rfl,hc',hb1,gK⟩:=hrel
 obtain ⟨wo,rfl⟩:∃wo:World,wo=wr:=⟨_,rfl⟩
 by_cases hlt:k<n
 ·have i1:(k:Int)<n:=by omega
  go_wp2_with fail
  go_loopw [5,7] (fun r j wr=>∃(q:Nat) (A2:Option Addr) (c2:Nat),q≤8∧j =.int .i64 q∧r =.slice A2 (8*k+q) c2∧8*k+q≤c2∧Below w1.heap.size w1 wr∧Ow wr w1.heap.size 5 1 (.slice A2 (8*k+q) c2) (8*k+q) (fun q=>.int .u8 (byteOf f q)))
   (fun _ j _=>8-(intOf j).toNat)
  case atStart=>exact⟨0,A',c',by omega,rfl,rfl,hc',hb1,gK⟩
  obtain ⟨q,A2,c2,hq,rfl,rfl,hc2,hb2,hO2⟩:=hrel
  by_cases hq8:q<8
  ·have i2:(q:Int)<8:=by omega
   obtain ⟨ba,off,rfl,_,hcell⟩:=hs.below hb2 (Nat.le_refl _) (by omega)
   have c0:=hcell k hlt
   have xn:=hf k
   clear hcell
   have hx:Hid (byteOf f (8*k+q)=IntKind.u64.wrap (f k)/2^(8*q)%256):=by
    unfold Hid byteOf
    rw[show (8*k+q)/8=k from by omega,show (8*k+q)%8=q from by omega]
   go_wp2_with (at_builtin
                refine dM rfl (.tmp 18) (.tmp 29) rfl w1.heap.size (.slice A2 (8*k+q) c2) (8*k+q) (byteOf f) rfl (hO2.alloc _) (some ⟨wr.heap.size,0,none⟩) 1 1 (fun j=>[IntKind.u64.wrap (f k)/2^(8*q)%256].getD j 0) rfl (gl .u8 [IntKind.u64.wrap (f k)/2^(8*q)%256] rfl) (by omega) (by have:=hb2.size;simp;omega) ?_
                intro A3 c3 w3 o3 hc3 Oa hb3 hg3 ho3)
   have hb4:Below w1.heap.size w1 w3:=(hb2.alloc hb2.size _).trans hb3
   go_roundw
   case rel=>exact⟨q+1,A3,c3,by omega,by go_num,rfl,hc3,hb4,o3.fQ fun j hj=>by
    show Value.int .u8 _=Value.int .u8 _
    congr 1
    split
    ·rfl
    rw[show j=8*k+q from by omega,hx.out];simp⟩
   simp[intOf];omega
  have e:q=8:=by omega
  subst e
  have i2:¬((8:Nat):Int)<8:=by omega
  go_wp2_with fail
  go_roundw
  case rel=>exact⟨k+1,A2,c2,by omega,by go_num,by rw[show 8*(k+1)=8*k+8 from by omega],by omega,hb2,by rw[show 8*(k+1)=8*k+8 from by omega];exact hO2⟩
  simp[intOf];omega
 have e:k=n:=by omega
 subst e
 have i1:¬(k:Int)<k:=by omega
 have d0:wo.cell? ⟨w.heap.size,0,none⟩=some (.int .u64 a):=(hb1.cell (p:=⟨w.heap.size,0,none⟩) (by omega)).trans hk0
 have d1:wo.cell? ⟨w.heap.size,1,none⟩=some (.int .u64 b):=(hb1.cell (p:=⟨w.heap.size,1,none⟩) (by omega)).trans hk1
 have hfin:=hid (xX a b f k)
 have SB:=gK.sl1
 have hb5:=hb0.trans (hb1.mono (by omega))
 clear gK hk0 hk1
 go_wp2_with fail
 refine(CZ a b A' (8*k) c' (byteOf f) _ SB (Ea f) hc' (by omega)).mono ?_
 rintro e w9 ⟨rfl,lS⟩
 go_wp2
 go_ret
 exact⟨sJ hfin.out,hb5.trans (lS.mono hb5.size)⟩
end Go.Proofs.YtalnfkijiehjhaaGreat
