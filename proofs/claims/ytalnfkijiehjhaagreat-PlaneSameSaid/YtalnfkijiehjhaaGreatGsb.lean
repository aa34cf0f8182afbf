/- Package sip's sums of numbers. the document's round. The document's keyed sums, said a second time. The document's sum of numbers: of their bytes. Package sip's sums of bytes. -/
import Derived.Test.YtalnfkijiehjhaaGreatGa
import Derived.Test.YtalnfkijiehjhaaGreatGs
namespace Go.Proofs.YtalnfkijiehjhaaGreat
set_option linter.unusedVariables false
open Go.RowKit Go.ChangeShapes Go.WideShapes Go.ChangeAt
theorem rJ {a b:Int}(h:a=b):Ending.returned (.int .u64 a) =.returned (.int .u64 b):=by rw[h]
theorem yw (a b:Int)(w:World):Calls Tryz.prog 170 #[.agg #[.int .u64 a,.int .u64 b]] w fun e w'=>e =.returned (.agg #[.int .u64 (ei a b).a,.int .u64 (ei a b).b,.int .u64 (ei a b).c,.int .u64 (ei a b).d])∧Below w.heap.size w w':=by
 go_enter Tryz.func170,Tryz.ntmps170
 go_wp2_with fail
 refine bodyPost_ret (v:=.agg #[.int .u64 (ei a b).a,.int .u64 (ei a b).b,.int .u64 (ei a b).c,.int .u64 (ei a b).d]) (by simp[results,Tryz.results170,go_sem];exact⟨rfl,rfl,rfl,rfl⟩) rfl ⟨rfl,?_⟩
 repeat' (first |with_reducible exact Below.refl _ _ |with_reducible refine Below.alloc ?_ ?_ _ |with_reducible refine Below.setCell ?_ ?_ _ | (simp;done) | (simp;omega))
def xb:Nat→V4→V4
 |0,v=>v
 |k+1,v=>ny (xb k v)
theorem yM {v:V4}(h:v.U):∀k,(xb k v).U
 |0=>h
 |k+1=>kP (yM h k)
set_option maxRecDepth 100000 in
theorem EY (g:Nat)(v:V4)(l:Int)(n:Int)(w:World)(hS:St w g v)(hU:v.U)(hn:0≤n)(hn':n≤1125899906842624) :
 Calls Tryz.prog 172 #[.pointer (some ⟨g,0,none⟩),.int .u64 l,n] w fun e w'=>e =.returned (.int .u64 (rV (ga v (bits .or .u64 l (IntKind.u64.wrap (n*72057594037927936))))))∧bH g w w':=by
 have hg:=hS.lt
 obtain ⟨m,hm⟩:∃m,m=bits .or .u64 l (IntKind.u64.wrap (n*72057594037927936)):=⟨_,rfl⟩
 have Ni:U m:=by rw[hm];exact uN _ _ _
 go_enter Tryz.func172,Tryz.ntmps172
 go_wp2_with fail
 rw[←hm]
 have HM:=hid hm
 clear hm
 have hw1:bH g w (w.alloc (.cells #[.int .u64 m] 28)):=bH.of_below ((Below.refl _ _).alloc (Nat.le_refl _) _)
 refine(AS g v _ 1 1 (fun j=>[m].getD j 0) _ (hS.below ((Below.refl w.heap.size w).alloc (Nat.le_refl _) _) hg) hU (by exact f8 .u64 [m] rfl) (fun j=>?_) (fun ad e _=>?_) (by omega)).mono ?_
 ·rcases j with _ |j
  ·exact Ni
  ·exact⟨by simp,by simp⟩
 ·injection e with e
  subst e
  simp only
  omega
 rintro e w1 ⟨rfl,gu,hS1⟩
 have hS2:St w1 g (ga v m):=hS1
 have ou:=xL hU m
 have hO2:=hw1.trans gu
 clear gu hw1 hS hS1
 obtain ⟨ca,cb,cc,cd,fa,fb,fc,fd⟩:=hS2
 have hS2:St w1 g (ga v m):=⟨ca,cb,cc,cd,fa,fb,fc,fd⟩
 clear ca cb cd fa fb fd
 go_wp2_with fail
 go_loopw [22] (fun i wr=>∃k:Nat,k≤4∧i =.int .i64 k∧bH g w wr∧St wr g (xb k { ga v m with c:=xo (ga v m).c 255 })) (fun i _=>4-(intOf i).toNat)
 case atStart=>exact⟨0,by omega,rfl,hO2.setCell 2 _,hS2.fT _⟩
 case round=>
  obtain ⟨k,hk,rfl,hO3,gq⟩:=hrel
  have ot:(xb k { ga v m with c:=xo (ga v m).c 255 }).U:=yM (v:={ ga v m with c:=xo (ga v m).c 255 }) ⟨ou.1,ou.2.1,gE _ _,ou.2.2.2⟩ k
  clear hO2 hS2 cc fc
  by_cases hlt:k<4
  ·have i1:(k:Int)<4:=by omega
   go_wp2_with fail
   refine(kh g _ _ gq ot).mono ?_
   rintro e w3 ⟨rfl,hO4,f_⟩
   go_wp2_with fail
   go_roundw
   case rel=>exact⟨k+1,by omega,by go_num,hO3.trans hO4,f_⟩
   case measure=>simp[intOf];omega
  ·have e:k=4:=by omega
   subst e
   have hS5:St wr g (jZ (ga v m)):=gq
   clear gq ot
   obtain ⟨ca,cb,cc,cd,fa,fb,fc,fd⟩:=hS5
   clear fa fb fc fd
   have i1:¬((4:Nat):Int)<4:=by omega
   go_wp2_with fail
   go_quiet (fail)
   go_wp2
   go_ret
   exact⟨rJ (show xo (xo (xo (jZ (ga v m)).a (jZ (ga v m)).b) (jZ (ga v m)).c) (jZ (ga v m)).d=_ by rw[←HM.out];rfl),hO3.drewN _⟩
def tM (a b:Int)(f:Nat→Int)(n:Nat):Int:=
 rV (ga (eats (fun i=>fy (fun j=>f (8*i+j)) 8) (n/8) (ei a b)) (bits .or .u64 (fy (fun j=>f (8*(n/8)+j)) (n%8)) (IntKind.u64.wrap ((n:Int)*72057594037927936))))
def ic (a b:Int)(f:Nat→Int)(n:Nat):Int:=
 rV (ga (eats (fun j=>IntKind.u64.wrap (f j)) n (ei a b)) (bits .or .u64 0 (IntKind.u64.wrap (8*(n:Int)*72057594037927936))))
theorem St.made {w:World}{T:TypeId}{v:V4}{g:Nat}(hg:w.heap.size=g):St (w.alloc (.cells #[.int .u64 v.a,.int .u64 v.b,.int .u64 v.c,.int .u64 v.d] T)) g v:=by
 subst hg
 have h:=heap_alloc_new w (.cells #[.int .u64 v.a,.int .u64 v.b,.int .u64 v.c,.int .u64 v.d] T)
 exact⟨by rw[cell_of_row _ _ _ _ _ _ h];rfl,by rw[cell_of_row _ _ _ _ _ _ h];rfl,by rw[cell_of_row _ _ _ _ _ _ h];rfl,by rw[cell_of_row _ _ _ _ _ _ h];rfl,
  frozen_of_row _ _ _ _ _ h,frozen_of_row _ _ _ _ _ h,frozen_of_row _ _ _ _ _ h,frozen_of_row _ _ _ _ _ h⟩
theorem lK (a b:Int)(A:Option Addr)(n c:Nat)(f:Nat→Int)(w:World)(h:Is w A n f)(hf:wJ f)(hn:n≤140737488355328) :
 Calls Tryz.prog 143 #[.agg #[.int .u64 a,.int .u64 b],.slice A n c] w fun e w'=>e =.returned (.int .u64 (ic a b f n))∧Below w.heap.size w w':=by
 go_enter Tryz.func143,Tryz.ntmps143
 go_wp2_with fail
 refine(yw a b _).mono ?_
 rintro e w1 ⟨rfl,hb1⟩
 go_wp2_with fail
 have hb1:=((Below.refl w.heap.size w).alloc (Nat.le_refl _) (.cells #[.int .u64 a,.int .u64 b] 30)).trans (hb1.mono (by simp))
 have hS:=St.made (w:=w1) (T:=225) (v:=ei a b) (g:=w1.heap.size) rfl
 have hb2:Below w.heap.size w (w1.alloc (.cells #[.int .u64 (ei a b).a,.int .u64 (ei a b).b,.int .u64 (ei a b).c,.int .u64 (ei a b).d] 225)):=hb1.alloc hb1.size _
 have hs:=h.below hb2 (Nat.le_refl _)
 have hz:=hb1.size
 refine(AV w1.heap.size (ei a b) A n c f _ hS (tN a b) hs hf (fun ad e h0=>?_) hn).mono ?_
 ·obtain ⟨b',off,e',hlt,_⟩:=h h0
  rw[e]at e'
  injection e' with e'
  subst e'
  simp only
  omega
 rintro e w2 ⟨rfl,hO2,hS2⟩
 have ou:=oC (f:=fun j=>IntKind.u64.wrap (f j)) (tN a b) n
 have hb3:=hb2.trans (hO2.below hz (by simp;omega))
 clear hS hs h
 go_wp2_with fail
 refine(EY w1.heap.size _ 0 (8*(n:Int)) _ hS2 ou (by omega) (by omega)).mono ?_
 rintro e w3 ⟨rfl,hO3⟩
 have hb4:=hb3.trans (hO3.below hz hb3.size)
 go_wp2
 go_ret
 exact⟨rfl,hb4⟩
theorem Ei (a b:Int)(f:Nat→Int)(n p L:Nat)(h:8*p+L=n)(hL:L<8) :
 rV (ga (eats (fun i=>fy (fun j=>f (8*i+j)) 8) p (ei a b)) (bits .or .u64 (fy (fun j=>f (8*p+j)) L) (IntKind.u64.wrap ((n:Int)*72057594037927936))))=tM a b f n:=by
 have h1:n/8=p:=by omega
 have h2:n%8=L:=by omega
 unfold tM
 rw[h1,h2]
theorem FV (x:Int)(hx:U x)(w:World):Calls Tryz.prog 184 #[.int .u64 x,.int .u64 13] w fun e w'=>e =.returned (.int .u64 (ki x 8192 2251799813685248))∧w=w':=by
 unfold U at hx
 go_enter Tryz.func184,Tryz.ntmps184
 go_wp2
 go_ret
 exact⟨rfl,rfl⟩
theorem FU (x:Int)(hx:U x)(w:World):Calls Tryz.prog 184 #[.int .u64 x,.int .u64 16] w fun e w'=>e =.returned (.int .u64 (ki x 65536 281474976710656))∧w=w':=by
 unfold U at hx
 go_enter Tryz.func184,Tryz.ntmps184
 go_wp2
 go_ret
 exact⟨rfl,rfl⟩
theorem FT (x:Int)(hx:U x)(w:World):Calls Tryz.prog 184 #[.int .u64 x,.int .u64 17] w fun e w'=>e =.returned (.int .u64 (ki x 131072 140737488355328))∧w=w':=by
 unfold U at hx
 go_enter Tryz.func184,Tryz.ntmps184
 go_wp2
 go_ret
 exact⟨rfl,rfl⟩
theorem FR (x:Int)(hx:U x)(w:World):Calls Tryz.prog 184 #[.int .u64 x,.int .u64 21] w fun e w'=>e =.returned (.int .u64 (ki x 2097152 8796093022208))∧w=w':=by
 unfold U at hx
 go_enter Tryz.func184,Tryz.ntmps184
 go_wp2
 go_ret
 exact⟨rfl,rfl⟩
theorem yH (x:Int)(hx:U x)(w:World):Calls Tryz.prog 184 #[.int .u64 x,.int .u64 32] w fun e w'=>e =.returned (.int .u64 (ki x 4294967296 4294967296))∧w=w':=by
 unfold U at hx
 go_enter Tryz.func184,Tryz.ntmps184
 go_wp2
 go_ret
 exact⟨rfl,rfl⟩
set_option maxRecDepth 100000 in
set_option maxHeartbeats 4000000 in
theorem iC (g:Nat)(v:V4)(w:World)(hS:St w g v)(hU:v.U):Calls Tryz.prog 175 #[.pointer (some ⟨g,0,none⟩)] w fun e w'=>e =.returned (.tuple #[])∧bH g w w'∧St w' g (ny v):=by
 have zH:=bH.pd g w
 obtain ⟨ca,cb,cc,cd,fa,fb,fc,fd⟩:=hS
 have hS0:St w g v:=⟨ca,cb,cc,cd,fa,fb,fc,fd⟩
 go_enter Tryz.func175,Tryz.ntmps175
 go_upto_region 0 with fail
 go_cut [] (fun wx=>bH g w wx∧St wx g (v.s0))
 case first=>
  go_region
  all_goals
   go_wp2_with fail
   go_meet
   exact⟨by repeat (first |with_reducible exact zH |with_reducible refine bH.setCell ?_ _ _ |with_reducible refine bH.drew ?_),by first |exact hS0.e8 _ |exact hS0.drew.e8 _ |exact hS0.drew.drew.e8 _ |exact hS0.drew.drew.drew.e8 _⟩
 case rest=>
 clear ca cb cc cd fa fb fc fd
 obtain ⟨gu,hS1⟩:=hcut
 generalize wc=w1 at *
 obtain ⟨ca,cb,cc,cd,fa,fb,fc,fd⟩:=hS1
 have hS1:St w1 g (v.s0):=⟨ca,cb,cc,cd,fa,fb,fc,fd⟩
 clear zH hS0
 go_upto_region 1 with fail
 go_cut [] (fun wx=>bH g w wx∧St wx g (v.s0.s1))
 case first=>
  go_region_with (go_at_call 184;refine(FV _ ((V4.U0 (hU)).2.1) _).mono ?_;rintro e w' ⟨rfl,rfl⟩)
  all_goals
   go_wp2_with fail
   go_meet
   exact⟨by repeat (first |with_reducible exact gu |with_reducible refine bH.setCell ?_ _ _ |with_reducible refine bH.drew ?_),by first |exact hS1.iK _ |exact hS1.drew.iK _ |exact hS1.drew.drew.iK _ |exact hS1.drew.drew.drew.iK _⟩
 case rest=>
 clear ca cb cc cd fa fb fc fd
 obtain ⟨hO2,hS2⟩:=hcut
 generalize wc=w2 at *
 obtain ⟨ca,cb,cc,cd,fa,fb,fc,fd⟩:=hS2
 have hS2:St w2 g (v.s0.s1):=⟨ca,cb,cc,cd,fa,fb,fc,fd⟩
 clear gu hS1
 go_upto_region 2 with fail
 go_cut [] (fun wx=>bH g w wx∧St wx g (v.s0.s1.s2))
 case first=>
  go_wp2_with (go_at_call 184;refine(yH _ ((V4.U1 (V4.U0 (hU))).1) _).mono ?_;rintro e w' ⟨rfl,rfl⟩)
  all_goals
   go_wp2_with fail
   go_meet
   exact⟨by repeat (first |with_reducible exact hO2 |with_reducible refine bH.setCell ?_ _ _ |with_reducible refine bH.drew ?_),by first |exact hS2.e8 _ |exact hS2.drew.e8 _ |exact hS2.drew.drew.e8 _ |exact hS2.drew.drew.drew.e8 _⟩
 case rest=>
 clear ca cb cc cd fa fb fc fd
 obtain ⟨hO3,gq⟩:=hcut
 generalize wc=w3 at *
 obtain ⟨ca,cb,cc,cd,fa,fb,fc,fd⟩:=gq
 have gq:St w3 g (v.s0.s1.s2):=⟨ca,cb,cc,cd,fa,fb,fc,fd⟩
 clear hO2 hS2
 go_upto_region 3 with fail
 go_cut [] (fun wx=>bH g w wx∧St wx g (v.s0.s1.s2.s3))
 case first=>
  go_region
  all_goals
   go_wp2_with fail
   go_meet
   exact⟨by repeat (first |with_reducible exact hO3 |with_reducible refine bH.setCell ?_ _ _ |with_reducible refine bH.drew ?_),by first |exact gq.fT _ |exact gq.drew.fT _ |exact gq.drew.drew.fT _ |exact gq.drew.drew.drew.fT _⟩
 case rest=>
 clear ca cb cc cd fa fb fc fd
 obtain ⟨hO4,f_⟩:=hcut
 generalize wc=w4 at *
 obtain ⟨ca,cb,cc,cd,fa,fb,fc,fd⟩:=f_
 have f_:St w4 g (v.s0.s1.s2.s3):=⟨ca,cb,cc,cd,fa,fb,fc,fd⟩
 clear hO3 gq
 go_upto_region 4 with fail
 go_cut [] (fun wx=>bH g w wx∧St wx g (v.s0.s1.s2.s3.s4))
 case first=>
  go_region_with (go_at_call 184;refine(FU _ ((V4.U3 (V4.U2 (V4.U1 (V4.U0 (hU))))).2.2.2) _).mono ?_;rintro e w' ⟨rfl,rfl⟩)
  all_goals
   go_wp2_with fail
   go_meet
   exact⟨by repeat (first |with_reducible exact hO4 |with_reducible refine bH.setCell ?_ _ _ |with_reducible refine bH.drew ?_),by first |exact f_.gR _ |exact f_.drew.gR _ |exact f_.drew.drew.gR _ |exact f_.drew.drew.drew.gR _⟩
 case rest=>
 clear ca cb cc cd fa fb fc fd
 obtain ⟨me,hS5⟩:=hcut
 generalize wc=w5 at *
 obtain ⟨ca,cb,cc,cd,fa,fb,fc,fd⟩:=hS5
 have hS5:St w5 g (v.s0.s1.s2.s3.s4):=⟨ca,cb,cc,cd,fa,fb,fc,fd⟩
 clear hO4 f_
 go_upto_region 5 with fail
 go_cut [] (fun wx=>bH g w wx∧St wx g (v.s0.s1.s2.s3.s4.s5))
 case first=>
  go_region
  all_goals
   go_wp2_with fail
   go_meet
   exact⟨by repeat (first |with_reducible exact me |with_reducible refine bH.setCell ?_ _ _ |with_reducible refine bH.drew ?_),by first |exact hS5.e8 _ |exact hS5.drew.e8 _ |exact hS5.drew.drew.e8 _ |exact hS5.drew.drew.drew.e8 _⟩
 case rest=>
 clear ca cb cc cd fa fb fc fd
 obtain ⟨sE,jK⟩:=hcut
 generalize wc=w6 at *
 obtain ⟨ca,cb,cc,cd,fa,fb,fc,fd⟩:=jK
 have jK:St w6 g (v.s0.s1.s2.s3.s4.s5):=⟨ca,cb,cc,cd,fa,fb,fc,fd⟩
 clear me hS5
 go_upto_region 6 with fail
 go_cut [] (fun wx=>bH g w wx∧St wx g (v.s0.s1.s2.s3.s4.s5.s6))
 case first=>
  go_region_with (go_at_call 184;refine(FR _ ((V4.U5 (V4.U4 (V4.U3 (V4.U2 (V4.U1 (V4.U0 (hU))))))).2.2.2) _).mono ?_;rintro e w' ⟨rfl,rfl⟩)
  all_goals
   go_wp2_with fail
   go_meet
   exact⟨by repeat (first |with_reducible exact sE |with_reducible refine bH.setCell ?_ _ _ |with_reducible refine bH.drew ?_),by first |exact jK.gR _ |exact jK.drew.gR _ |exact jK.drew.drew.gR _ |exact jK.drew.drew.drew.gR _⟩
 case rest=>
 clear ca cb cc cd fa fb fc fd
 obtain ⟨ox,jw⟩:=hcut
 generalize wc=w7 at *
 obtain ⟨ca,cb,cc,cd,fa,fb,fc,fd⟩:=jw
 have jw:St w7 g (v.s0.s1.s2.s3.s4.s5.s6):=⟨ca,cb,cc,cd,fa,fb,fc,fd⟩
 clear sE jK
 go_upto_region 7 with fail
 go_cut [] (fun wx=>bH g w wx∧St wx g (v.s0.s1.s2.s3.s4.s5.s6.s7))
 case first=>
  go_region
  all_goals
   go_wp2_with fail
   go_meet
   exact⟨by repeat (first |with_reducible exact ox |with_reducible refine bH.setCell ?_ _ _ |with_reducible refine bH.drew ?_),by first |exact jw.fT _ |exact jw.drew.fT _ |exact jw.drew.drew.fT _ |exact jw.drew.drew.drew.fT _⟩
 case rest=>
 clear ca cb cc cd fa fb fc fd
 obtain ⟨uv,kv⟩:=hcut
 generalize wc=w8 at *
 obtain ⟨ca,cb,cc,cd,fa,fb,fc,fd⟩:=kv
 have kv:St w8 g (v.s0.s1.s2.s3.s4.s5.s6.s7):=⟨ca,cb,cc,cd,fa,fb,fc,fd⟩
 clear ox jw
 go_upto_region 8 with fail
 go_cut [] (fun wx=>bH g w wx∧St wx g (v.s0.s1.s2.s3.s4.s5.s6.s7.s8))
 case first=>
  go_region_with (go_at_call 184;refine(FT _ ((V4.U7 (V4.U6 (V4.U5 (V4.U4 (V4.U3 (V4.U2 (V4.U1 (V4.U0 (hU))))))))).2.1) _).mono ?_;rintro e w' ⟨rfl,rfl⟩)
  all_goals
   go_wp2_with fail
   go_meet
   exact⟨by repeat (first |with_reducible exact uv |with_reducible refine bH.setCell ?_ _ _ |with_reducible refine bH.drew ?_),by first |exact kv.iK _ |exact kv.drew.iK _ |exact kv.drew.drew.iK _ |exact kv.drew.drew.drew.iK _⟩
 case rest=>
 clear ca cb cc cd fa fb fc fd
 obtain ⟨Hf,rh⟩:=hcut
 generalize wc=w9 at *
 obtain ⟨ca,cb,cc,cd,fa,fb,fc,fd⟩:=rh
 have rh:St w9 g (v.s0.s1.s2.s3.s4.s5.s6.s7.s8):=⟨ca,cb,cc,cd,fa,fb,fc,fd⟩
 clear uv kv
 go_wp2_with (go_at_call 184;refine(yH _ ((V4.U8 (V4.U7 (V4.U6 (V4.U5 (V4.U4 (V4.U3 (V4.U2 (V4.U1 (V4.U0 (hU)))))))))).2.2.1) _).mono ?_;rintro e w' ⟨rfl,rfl⟩)
 go_end0
 refine⟨rfl,?_,?_⟩
 ·repeat (first |with_reducible exact Hf |with_reducible refine bH.setCell ?_ _ _ |with_reducible refine bH.drew ?_)
 ·first |exact rh.fT _ |exact rh.drew.fT _
theorem wC (g:Nat)(v:V4)(m:Int)(w:World)(hS:St w g v)(hU:v.U) :
 Calls Tryz.prog 173 #[.pointer (some ⟨g,0,none⟩),.int .u64 m] w fun e w'=>e =.returned (.tuple #[])∧bH g w w'∧St w' g (ga v m):=by
 have hO:=bH.pd g w
 have hS2:=hS
 obtain ⟨ca,cb,cc,cd,fa,fb,fc,fd⟩:=hS
 clear ca cb cc fa fb fc
 go_enter Tryz.func173,Tryz.ntmps173
 go_wp2_with fail
 refine(iC g { v with d:=xo v.d m } _ (hS2.gR _) ⟨hU.1,hU.2.1,hU.2.2.1,gE _ _⟩).mono ?_
 rintro e w1 ⟨rfl,hO3,gq⟩
 have ot:=kP (v:={ v with d:=xo v.d m }) ⟨hU.1,hU.2.1,hU.2.2.1,gE _ _⟩
 go_wp2_with fail
 refine(iC g _ _ gq ot).mono ?_
 rintro e w2 ⟨rfl,hO4,f_⟩
 have me:=((hO.setCell 3 _).trans hO3).trans hO4
 have hS5:=f_
 obtain ⟨ca,cb,cc,z_,fa,fb,fc,zN⟩:=f_
 clear cb cc z_ fb fc zN cd fd hO3 hO4 gq hS2
 go_wp2_with fail
 go_end0
 exact⟨rfl,me.setCell 0 _,hS5.e8 _⟩
theorem Ij (n:Nat)(hn:n<9223372036854775808):bits .and .i64 (n:Int) 255=((n%256:Nat):Int):=by
 have h1:n &&& 255=n%256:=Nat.and_two_pow_sub_one_eq_mod n 8
 show IntKind.i64.wrap ((BitVec.ofInt 64 (n:Int) &&& BitVec.ofInt 64 ((255:Nat):Int)).toNat:Int)=_
 rw[BitVec.toNat_and,BitVec.ofInt_natCast,BitVec.ofInt_natCast,BitVec.toNat_ofNat,BitVec.toNat_ofNat,Nat.mod_eq_of_lt (by omega),Nat.mod_eq_of_lt (by omega),h1,IntKind.wrap_i64]
 omega
theorem top56 (n:Nat):(n:Int)%256*72057594037927936=IntKind.u64.wrap ((n:Int)*72057594037927936):=by
 rw[IntKind.wrap_u64]
 omega
set_option maxRecDepth 100000 in
theorem Ba (a b:Int)(A:Option Addr)(n c:Nat)(f:Nat→Int)(w:World)(h:By w A n f)(hf:az f)(hnc:n≤c)(hn:n≤140737488355328) :
 Calls Tryz.prog 144 #[.agg #[.int .u64 a,.int .u64 b],.slice A n c] w fun e w'=>e =.returned (.int .u64 (tM a b f n))∧Below w.heap.size w w':=by
 have hand:=Ij n (by omega)
 go_enter Tryz.func144,Tryz.ntmps144
 go_wp2_with fail
 have hS:=St.made (w:=w.alloc (.cells #[.int .u64 a,.int .u64 b] 30)) (T:=232) (v:=ei a b) (g:=w.heap.size+1) (by simp)
 have hb2:Below w.heap.size w ((w.alloc (.cells #[.int .u64 a,.int .u64 b] 30)).alloc (.cells #[.int .u64 (ei a b).a,.int .u64 (ei a b).b,.int .u64 (ei a b).c,.int .u64 (ei a b).d] 232)):=
  ((Below.refl _ _).alloc (Nat.le_refl _) _).alloc (by simp) _
 have hs:=h.below hb2 (Nat.le_refl _)
 have hz':w.heap.size≤w.heap.size+1:=by omega
 have hA:∀ad,A=some ad→0<n→ad.block≠w.heap.size+1:=fun ad e h0=>by
  obtain ⟨b',off,e',hlt,_⟩:=h h0
  rw[e]at e'
  injection e' with e'
  subst e'
  simp only
  omega
 clear h
 change Code.wp _ _ _ _ ((w.alloc (.cells #[.int .u64 a,.int .u64 b] 30)).alloc (.cells #[.int .u64 (ei a b).a,.int .u64 (ei a b).b,.int .u64 (ei a b).c,.int .u64 (ei a b).d] 232))
 generalize hgg:w.heap.size+1=g at *
 clear hgg
 generalize (w.alloc (.cells #[.int .u64 a,.int .u64 b] 30)).alloc _=w2 at *
 have hO:=bH.pd g w2
 go_loopw [6] (fun r wr=>∃p:Nat,8*p≤n∧r =.int .i64 (8*(p:Int))∧bH g w2 wr∧St wr g (eats (fun i=>fy (fun j=>f (8*i+j)) 8) p (ei a b)))
  (fun r _=>n-(intOf r).toNat)
 case atStart=>exact⟨0,by omega,rfl,hO,hS⟩
 case round=>
  obtain ⟨p,hpn,rfl,gu,hS1⟩:=hrel
  have hB:=gu.sl hs hA
  have iq:=oC (f:=fun i=>fy (fun j=>f (8*i+j)) 8) (tN a b) p
  have hE:Hid (eats (fun i=>fy (fun j=>f (8*i+j)) 8) (p+1) (ei a b)=ga (eats (fun i=>fy (fun j=>f (8*i+j)) 8) p (ei a b)) (fy (fun j=>f (8*p+j)) 8)):=rfl
  have hfp:az (fun j=>f (8*p+j)):=fun j=>hf _
  clear hO hS
  by_cases hlt:8*p+8≤n
  ·generalize eats (fun i=>fy (fun j=>f (8*i+j)) 8) p (ei a b)=v1 at *
   obtain ⟨A2,k2,S2⟩:=iw A n c (8*p) (8*p+8) (by omega) hlt hnc (8*(p:Int)) (8*(p:Int)+8) (by omega) (by omega)
   rw[show 8*p+8-8*p=8 from by omega]at k2 S2
   have i1:8*(p:Int)+8≤n:=by omega
   have SB:=S2 _ _ hB
   clear S2 hB
   go_wp2_with fail
   refine(vT A2 8 _ (fun j=>f (8*p+j)) _ SB hfp (by omega)).mono ?_
   rintro e w3 ⟨rfl,rfl⟩
   go_wp2_with fail
   refine(wC g v1 (fy (fun j=>f (8*p+j)) 8) _ hS1 iq).mono ?_
   rintro e w4 ⟨rfl,hO2,hS2⟩
   have hO3:=hid (gu.trans hO2)
   have OJ:=hid hS2
   clear hS2 hO2 hS1 gu
   go_wp2_with fail
   go_roundw
   case rel=>exact⟨p+1,by omega,by go_num,hO3.out,by rw[hE.out];exact OJ.out⟩
   case measure=>simp[intOf];omega
  ·obtain ⟨L,hL⟩:∃L,L=n-8*p:=⟨_,rfl⟩
   have hfin:=hid (Ei a b f n p L (by omega) (by omega))
   have i1:¬8*(p:Int)+8≤n:=by omega
   obtain ⟨A2,k2,S2⟩:=ev A n c (8*p) (by omega) hnc (8*(p:Int)) (by omega)
   rw[←hL]at k2 S2
   have SB:=S2 _ _ hB
   have Ns:L≤8:=by omega
   have htop:=hid (top56 n)
   clear S2 hB hL
   generalize eats (fun i=>fy (fun j=>f (8*i+j)) 8) p (ei a b)=v1 at *
   clear hE
   go_wp2_with fail
   refine(vT A2 L _ (fun j=>f (8*p+j)) _ SB hfp Ns).mono ?_
   rintro e w3 ⟨rfl,rfl⟩
   go_wp2_with fail
   rw[htop.out]
   obtain ⟨m,hm⟩:∃m,m=bits .or .u64 (fy (fun j=>f (8*p+j)) L) (IntKind.u64.wrap ((n:Int)*72057594037927936)):=⟨_,rfl⟩
   rw[←hm]
   have HM:=hid hm
   clear hm hand
   refine(wC g v1 m _ hS1 iq).mono ?_
   rintro e w4 ⟨rfl,hO2,hS2⟩
   have ou:=xL iq m
   have hO3:=gu.trans hO2
   clear gu hO2 hS1 SB
   obtain ⟨ca,cb,cc,cd,fa,fb,fc,fd⟩:=hS2
   have hS2:St w4 g (ga v1 m):=⟨ca,cb,cc,cd,fa,fb,fc,fd⟩
   clear ca cb cd fa fb fd
   have ot:V4.U { ga v1 m with c:=xo (ga v1 m).c 255 }:=⟨ou.1,ou.2.1,gE _ _,ou.2.2.2⟩
   go_wp2_with fail
   refine(iC g { ga v1 m with c:=xo (ga v1 m).c 255 } _ (hS2.fT _) ot).mono ?_
   rintro e w5 ⟨rfl,hO4,f_⟩
   have KF:=kP ot
   go_wp2_with fail
   refine(iC g _ _ f_ KF).mono ?_
   rintro e w6 ⟨rfl,me,hS5⟩
   have KC:=kP KF
   go_wp2_with fail
   refine(iC g _ _ hS5 KC).mono ?_
   rintro e w7 ⟨rfl,sE,jK⟩
   have Np:=kP KC
   go_wp2_with fail
   refine(iC g _ _ jK Np).mono ?_
   rintro e w8 ⟨rfl,ox,jw⟩
   have kv:St w8 g (jZ (ga v1 m)):=jw
   have uv:=((((hO3.setCell 2 _).trans hO4).trans me).trans sE).trans ox
   have lu:=hb2.trans (uv.below hz' hb2.size)
   clear hS2 cc fc hO3 hO4 me sE ox f_ hS5 jK jw
   obtain ⟨ca,cb,cc,cd,fa,fb,fc,fd⟩:=kv
   clear fa fb fc fd
   go_wp2_with fail
   go_quiet (fail)
   go_wp2
   go_ret
   refine⟨rJ ?_,below_drewN lu _⟩
   rw[←hfin.out,←HM.out]
   rfl
def byteOf (f:Nat→Int)(q:Nat):Int:=IntKind.u64.wrap (f (q/8))/2^(8*(q%8))%256
theorem Cp (f:Nat→Int):az (byteOf f):=fun q=>by unfold byteOf;omega
theorem gM (f:Nat→Int)(i j:Nat)(hj:j<8):byteOf f (8*i+j)=IntKind.u64.wrap (f i)/256^j%256:=by
 have h1:(8*i+j)/8=i:=by omega
 have h2:(8*i+j)%8=j:=by omega
 have h3:(2:Int)^(8*j)=256^j:=by rw[Int.pow_mul];rfl
 unfold byteOf
 rw[h1,h2,h3]
theorem xn (f:Nat→Int)(i:Nat):fy (fun j=>byteOf f (8*i+j)) 8=IntKind.u64.wrap (f i):=by
 have hU:=Ai (f i)
 generalize hx:IntKind.u64.wrap (f i)=x at *
 unfold U at hU
 simp only[fy,gM f i _ (show 0<8 by omega),gM f i _ (show 1<8 by omega),gM f i _ (show 2<8 by omega),gM f i _ (show 3<8 by omega),gM f i _ (show 4<8 by omega),gM f i _ (show 5<8 by omega),gM f i _ (show 6<8 by omega),gM f i _ (show 7<8 by omega),hx]
 simp only[Int.pow_succ,Int.pow_zero,Int.one_mul,Int.ediv_one,Int.mul_one,Int.zero_add]
 omega
theorem wV (a b:Int)(f:Nat→Int)(n:Nat):tM a b (byteOf f) (8*n)=ic a b f n:=by
 have h1:8*n/8=n:=by omega
 have h2:8*n%8=0:=by omega
 unfold tM ic
 rw[h1,h2,uB _ n (fun i _=>xn f i)]
 rfl
set_option maxRecDepth 100000 in
theorem kN (a b:Int)(A:Option Addr)(n c:Nat)(f:Nat→Int)(w:World)(h:Is w A n f)(hf:wJ f)(hn:n≤17592186044416) :
 Calls Tryz.prog 112 #[.agg #[.int .u64 a,.int .u64 b],.slice A n c] w fun e w'=>e =.returned (.int .u64 (ic a b f n))∧Below w.heap.size w w':=by
 go_enter Tryz.func112,Tryz.ntmps112
 go_wp2_with fail
 have hs:=h.below ((Below.refl w.heap.size w).alloc (Nat.le_refl _) (.cells #[.int .u64 a,.int .u64 b] 30)) (Nat.le_refl _)
 have hb0:Below w.heap.size w (w.alloc (.cells #[.int .u64 a,.int .u64 b] 30)):=(Below.refl _ _).alloc (Nat.le_refl _) _
 have hk0:(w.alloc (.cells #[.int .u64 a,.int .u64 b] 30)).cell? ⟨w.heap.size,0,none⟩=some (.int .u64 a):=by
  rw[cell_of_row _ _ _ _ _ _ (heap_alloc_new w _)];rfl
 have hk1:(w.alloc (.cells #[.int .u64 a,.int .u64 b] 30)).cell? ⟨w.heap.size,1,none⟩=some (.int .u64 b):=by
  rw[cell_of_row _ _ _ _ _ _ (heap_alloc_new w _)];rfl
 have hsz:(w.alloc (.cells #[.int .u64 a,.int .u64 b] 30)).heap.size=w.heap.size+1:=by simp
 have hsl:w.heap.size<(w.alloc (.cells #[.int .u64 a,.int .u64 b] 30)).heap.size:=by simp
 clear hsz
 generalize hw1:w.alloc (.cells #[.int .u64 a,.int .u64 b] 30)=w1 at *
 clear hw1 h
 go_loopw [5,6,7] (fun r i _ wr=>∃(k:Nat) (A':Option Addr) (c':Nat),k≤n∧i =.int .i64 k∧r =.slice A' (8*k) c'∧8*k≤c'∧Below w1.heap.size w1 wr∧Ow wr w1.heap.size 5 1 (.slice A' (8*k) c') (8*k) (fun q=>.int .u8 (byteOf f q)))
  (fun _ i _ _=>n-(intOf i).toNat)
 case atStart=>exact⟨0,none,0,by omega,rfl,rfl,by omega,Below.refl _ _,Ow.none_⟩
 case round=>
  obtain ⟨k,A',c',hk,rfl,rfl,hc',hb1,gu⟩:=hrel
  obtain ⟨wo,rfl⟩:∃wo:World,wo=wr:=⟨_,rfl⟩
  by_cases hlt:k<n
  ·have i1:(k:Int)<n:=by omega
   go_wp2_with fail
   go_loopw [5,7] (fun r j wr=>∃(q:Nat) (A2:Option Addr) (c2:Nat),q≤8∧j =.int .i64 q∧r =.slice A2 (8*k+q) c2∧8*k+q≤c2∧Below w1.heap.size w1 wr∧Ow wr w1.heap.size 5 1 (.slice A2 (8*k+q) c2) (8*k+q) (fun q=>.int .u8 (byteOf f q)))
    (fun _ j _=>8-(intOf j).toNat)
   case atStart=>exact⟨0,A',c',by omega,rfl,rfl,hc',hb1,gu⟩
   case round=>
    obtain ⟨q,A2,c2,hq,rfl,rfl,hc2,hb2,hO2⟩:=hrel
    by_cases hq8:q<8
    ·have i2:(q:Int)<8:=by omega
     obtain ⟨ba,off,rfl,_,hcell⟩:=hs.below hb2 (Nat.le_refl _) (by omega)
     have c0:=hcell k hlt
     have vY:=hf k
     clear hcell
     have hx:Hid (byteOf f (8*k+q)=IntKind.u64.wrap (f k)/2^(8*q)%256):=by
      unfold Hid byteOf
      rw[show (8*k+q)/8=k from by omega,show (8*k+q)%8=q from by omega]
     go_wp2_with (at_builtin
                  refine dC rfl (.tmp 18) (.tmp 29) rfl w1.heap.size (.slice A2 (8*k+q) c2) (8*k+q) (byteOf f) rfl (hO2.alloc _) (some ⟨wr.heap.size,0,none⟩) 1 1 (fun j=>[IntKind.u64.wrap (f k)/2^(8*q)%256].getD j 0) rfl (f8 .u8 [IntKind.u64.wrap (f k)/2^(8*q)%256] rfl) (by omega) (by have:=hb2.size;simp;omega) ?_
                  intro A3 c3 w3 o3 hc3 Qt hb3 hg3 ho3)
     have hb4:Below w1.heap.size w1 w3:=(hb2.alloc hb2.size _).trans hb3
     go_roundw
     case rel=>exact⟨q+1,A3,c3,by omega,by go_num,rfl,hc3,hb4,o3.fQ fun j hj=>by
      show Value.int .u8 _=Value.int .u8 _
      congr 1
      split
      ·rfl
      ·rw[show j=8*k+q from by omega,hx.out];simp⟩
     case measure=>simp[intOf];omega
    ·have e:q=8:=by omega
     subst e
     have i2:¬((8:Nat):Int)<8:=by omega
     go_wp2_with fail
     go_roundw
     case rel=>exact⟨k+1,A2,c2,by omega,by go_num,by rw[show 8*(k+1)=8*k+8 from by omega],by omega,hb2,by rw[show 8*(k+1)=8*k+8 from by omega];exact hO2⟩
     case measure=>simp[intOf];omega
  ·have e:k=n:=by omega
   subst e
   have i1:¬(k:Int)<k:=by omega
   have d0:wo.cell? ⟨w.heap.size,0,none⟩=some (.int .u64 a):=(hb1.cell (p:=⟨w.heap.size,0,none⟩) (by omega)).trans hk0
   have d1:wo.cell? ⟨w.heap.size,1,none⟩=some (.int .u64 b):=(hb1.cell (p:=⟨w.heap.size,1,none⟩) (by omega)).trans hk1
   have hfin:=hid (wV a b f k)
   have SB:=gu.sl1
   have hb5:=hb0.trans (hb1.mono (by omega))
   clear gu hk0 hk1
   go_wp2_with fail
   refine(Ba a b A' (8*k) c' (byteOf f) _ SB (Cp f) hc' (by omega)).mono ?_
   rintro e w9 ⟨rfl,lu⟩
   go_wp2
   go_ret
   exact⟨rJ hfin.out,hb5.trans (lu.mono hb5.size)⟩
end Go.Proofs.YtalnfkijiehjhaaGreat
