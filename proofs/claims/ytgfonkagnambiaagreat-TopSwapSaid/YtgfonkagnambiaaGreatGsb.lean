/- Package sip's sums of numbers. the document's round. The document's keyed sums, said a second time. The document's sum of numbers: of their bytes. Package sip's sums of bytes. -/
import Derived.Test.YtgfonkagnambiaaGreatGa
import Derived.Test.YtgfonkagnambiaaGreatGs
namespace Go.Proofs.YtgfonkagnambiaaGreat
set_option linter.unusedVariables false
open Go.RowKit Go.ChangeShapes Go.WideShapes Go.ChangeAt
theorem nm {a b:Int}(h:a=b):Ending.returned (.int .u64 a) =.returned (.int .u64 b):=by rw[h]
theorem qf (a b:Int)(w:World):Calls Tryz.prog 48 #[.agg #[.int .u64 a,.int .u64 b]] w fun e w'=>e =.returned (.agg #[.int .u64 (cJ a b).a,.int .u64 (cJ a b).b,.int .u64 (cJ a b).c,.int .u64 (cJ a b).d])∧Below w.heap.size w w':=by
 go_enter Tryz.func48,Tryz.ntmps48
 go_wp2_with fail
 refine bodyPost_ret (v:=.agg #[.int .u64 (cJ a b).a,.int .u64 (cJ a b).b,.int .u64 (cJ a b).c,.int .u64 (cJ a b).d]) (by simp[results,Tryz.results48,go_sem];exact⟨rfl,rfl,rfl,rfl⟩) rfl ⟨rfl,?_⟩
 repeat' (first |with_reducible exact Below.refl _ _ |with_reducible refine Below.alloc ?_ ?_ _ |with_reducible refine Below.setCell ?_ ?_ _ | (simp;done) | (simp;omega))
def u_:Nat→V4→V4
 |0,v=>v
 |k+1,v=>lZ (u_ k v)
theorem wU {v:V4}(h:v.U):∀k,(u_ k v).U
 |0=>h
 |k+1=>jM (wU h k)
set_option maxRecDepth 100000 in
theorem uA (g:Nat)(v:V4)(l:Int)(n:Int)(w:World)(hS:St w g v)(hU:v.U)(hn:0≤n)(hn':n≤1125899906842624) :
 Calls Tryz.prog 50 #[.pointer (some ⟨g,0,none⟩),.int .u64 l,n] w fun e w'=>e =.returned (.int .u64 (pV (eM v (bits .or .u64 l (IntKind.u64.wrap (n*72057594037927936))))))∧a_ g w w':=by
 have hg:=hS.lt
 obtain ⟨m,hm⟩:∃m,m=bits .or .u64 l (IntKind.u64.wrap (n*72057594037927936)):=⟨_,rfl⟩
 have Ez:U m:=by rw[hm];exact sQ _ _ _
 go_enter Tryz.func50,Tryz.ntmps50
 go_wp2_with fail
 rw[←hm]
 have HM:=hid hm
 clear hm
 have hw1:a_ g w (w.alloc (.cells #[.int .u64 m] 27)):=a_.of_below ((Below.refl _ _).alloc (Nat.le_refl _) _)
 refine(rC g v _ 1 1 (fun j=>[m].getD j 0) _ (hS.below ((Below.refl w.heap.size w).alloc (Nat.le_refl _) _) hg) hU (by exact fW .u64 [m] rfl) (fun j=>?_) (fun ad e _=>?_) (by omega)).mono ?_
 ·rcases j with _ |j
  ·exact Ez
  exact⟨by simp,by simp⟩
 ·injection e with e
  subst e
  simp only
  omega
 rintro e w1 ⟨rfl,eE,hS1⟩
 have hS2:St w1 g (eM v m):=hS1
 have pd:=vx hU m
 have hO2:=hw1.trans eE
 clear eE hw1 hS hS1
 obtain ⟨ca,cb,cc,cd,fa,fb,fc,fd⟩:=hS2
 have hS2:St w1 g (eM v m):=⟨ca,cb,cc,cd,fa,fb,fc,fd⟩
 clear ca cb cd fa fb fd
 go_wp2_with fail
 go_loopw [22] (fun i wr=>∃k:Nat,k≤4∧i =.int .i64 k∧a_ g w wr∧St wr g (u_ k { eM v m with c:=xo (eM v m).c 255 })) (fun i _=>4-(intOf i).toNat)
 case atStart=>exact⟨0,by omega,rfl,hO2.setCell 2 _,hS2.eS _⟩
 obtain ⟨k,hk,rfl,hO3,eK⟩:=hrel
 have mN:(u_ k { eM v m with c:=xo (eM v m).c 255 }).U:=wU (v:={ eM v m with c:=xo (eM v m).c 255 }) ⟨pd.1,pd.2.1,fC _ _,pd.2.2.2⟩ k
 clear hO2 hS2 cc fc
 by_cases hlt:k<4
 ·have i1:(k:Int)<4:=by omega
  go_wp2_with fail
  refine(jk g _ _ eK mN).mono ?_
  rintro e w3 ⟨rfl,hO4,eZ⟩
  go_wp2_with fail
  go_roundw
  case rel=>exact⟨k+1,by omega,by go_num,hO3.trans hO4,eZ⟩
  simp[intOf];omega
 have e:k=4:=by omega
 subst e
 have hS5:St wr g (jb (eM v m)):=eK
 clear eK mN
 obtain ⟨ca,cb,cc,cd,fa,fb,fc,fd⟩:=hS5
 clear fa fb fc fd
 have i1:¬((4:Nat):Int)<4:=by omega
 go_wp2_with fail
 go_quiet (fail)
 go_wp2
 go_ret
 exact⟨nm (show xo (xo (xo (jb (eM v m)).a (jb (eM v m)).b) (jb (eM v m)).c) (jb (eM v m)).d=_ by rw[←HM.out];rfl),hO3.drewN _⟩
def pI (a b:Int)(f:Nat→Int)(n:Nat):Int:=
 pV (eM (eats (fun i=>di (fun j=>f (8*i+j)) 8) (n/8) (cJ a b)) (bits .or .u64 (di (fun j=>f (8*(n/8)+j)) (n%8)) (IntKind.u64.wrap ((n:Int)*72057594037927936))))
def gU (a b:Int)(f:Nat→Int)(n:Nat):Int:=
 pV (eM (eats (fun j=>IntKind.u64.wrap (f j)) n (cJ a b)) (bits .or .u64 0 (IntKind.u64.wrap (8*(n:Int)*72057594037927936))))
theorem St.made {w:World}{T:TypeId}{v:V4}{g:Nat}(hg:w.heap.size=g):St (w.alloc (.cells #[.int .u64 v.a,.int .u64 v.b,.int .u64 v.c,.int .u64 v.d] T)) g v:=by
 subst hg
 have h:=heap_alloc_new w (.cells #[.int .u64 v.a,.int .u64 v.b,.int .u64 v.c,.int .u64 v.d] T)
 exact⟨by rw[cell_of_row _ _ _ _ _ _ h];rfl,by rw[cell_of_row _ _ _ _ _ _ h];rfl,by rw[cell_of_row _ _ _ _ _ _ h];rfl,by rw[cell_of_row _ _ _ _ _ _ h];rfl,
  frozen_of_row _ _ _ _ _ h,frozen_of_row _ _ _ _ _ h,frozen_of_row _ _ _ _ _ h,frozen_of_row _ _ _ _ _ h⟩
theorem jg (a b:Int)(A:Option Addr)(n c:Nat)(f:Nat→Int)(w:World)(h:Is w A n f)(hf:pC f)(hn:n≤140737488355328) :
 Calls Tryz.prog 15 #[.agg #[.int .u64 a,.int .u64 b],.slice A n c] w fun e w'=>e =.returned (.int .u64 (gU a b f n))∧Below w.heap.size w w':=by
 go_enter Tryz.func15,Tryz.ntmps15
 go_wp2_with fail
 refine(qf a b _).mono ?_
 rintro e w1 ⟨rfl,hb1⟩
 go_wp2_with fail
 have hb1:=((Below.refl w.heap.size w).alloc (Nat.le_refl _) (.cells #[.int .u64 a,.int .u64 b] 29)).trans (hb1.mono (by simp))
 have hS:=St.made (w:=w1) (T:=106) (v:=cJ a b) (g:=w1.heap.size) rfl
 have hb2:Below w.heap.size w (w1.alloc (.cells #[.int .u64 (cJ a b).a,.int .u64 (cJ a b).b,.int .u64 (cJ a b).c,.int .u64 (cJ a b).d] 106)):=hb1.alloc hb1.size _
 have hs:=h.below hb2 (Nat.le_refl _)
 have hz:=hb1.size
 refine(yR w1.heap.size (cJ a b) A n c f _ hS (oN a b) hs hf (fun ad e h0=>?_) hn).mono ?_
 ·obtain ⟨b',off,e',hlt,_⟩:=h h0
  rw[e]at e'
  injection e' with e'
  subst e'
  simp only
  omega
 rintro e w2 ⟨rfl,hO2,hS2⟩
 have pd:=k6 (f:=fun j=>IntKind.u64.wrap (f j)) (oN a b) n
 have hb3:=hb2.trans (hO2.below hz (by simp;omega))
 clear hS hs h
 go_wp2_with fail
 refine(uA w1.heap.size _ 0 (8*(n:Int)) _ hS2 pd (by omega) (by omega)).mono ?_
 rintro e w3 ⟨rfl,hO3⟩
 have hb4:=hb3.trans (hO3.below hz hb3.size)
 go_wp2
 go_ret
 exact⟨rfl,hb4⟩
theorem t5 (a b:Int)(f:Nat→Int)(n p L:Nat)(h:8*p+L=n)(hL:L<8) :
 pV (eM (eats (fun i=>di (fun j=>f (8*i+j)) 8) p (cJ a b)) (bits .or .u64 (di (fun j=>f (8*p+j)) L) (IntKind.u64.wrap ((n:Int)*72057594037927936))))=pI a b f n:=by
 have h1:n/8=p:=by omega
 have h2:n%8=L:=by omega
 unfold pI
 rw[h1,h2]
theorem DL (x:Int)(hx:U x)(w:World):Calls Tryz.prog 154 #[.int .u64 x,.int .u64 13] w fun e w'=>e =.returned (.int .u64 (jl x 8192 2251799813685248))∧w=w':=by
 unfold U at hx
 go_enter Tryz.func154,Tryz.ntmps154
 go_wp2
 go_ret
 exact⟨rfl,rfl⟩
theorem DK (x:Int)(hx:U x)(w:World):Calls Tryz.prog 154 #[.int .u64 x,.int .u64 16] w fun e w'=>e =.returned (.int .u64 (jl x 65536 281474976710656))∧w=w':=by
 unfold U at hx
 go_enter Tryz.func154,Tryz.ntmps154
 go_wp2
 go_ret
 exact⟨rfl,rfl⟩
theorem DJ (x:Int)(hx:U x)(w:World):Calls Tryz.prog 154 #[.int .u64 x,.int .u64 17] w fun e w'=>e =.returned (.int .u64 (jl x 131072 140737488355328))∧w=w':=by
 unfold U at hx
 go_enter Tryz.func154,Tryz.ntmps154
 go_wp2
 go_ret
 exact⟨rfl,rfl⟩
theorem DI (x:Int)(hx:U x)(w:World):Calls Tryz.prog 154 #[.int .u64 x,.int .u64 21] w fun e w'=>e =.returned (.int .u64 (jl x 2097152 8796093022208))∧w=w':=by
 unfold U at hx
 go_enter Tryz.func154,Tryz.ntmps154
 go_wp2
 go_ret
 exact⟨rfl,rfl⟩
theorem wQ (x:Int)(hx:U x)(w:World):Calls Tryz.prog 154 #[.int .u64 x,.int .u64 32] w fun e w'=>e =.returned (.int .u64 (jl x 4294967296 4294967296))∧w=w':=by
 unfold U at hx
 go_enter Tryz.func154,Tryz.ntmps154
 go_wp2
 go_ret
 exact⟨rfl,rfl⟩
set_option maxRecDepth 100000 in
set_option maxHeartbeats 9000000 in
theorem gv (g:Nat)(v:V4)(w:World)(hS:St w g v)(hU:v.U):Calls Tryz.prog 153 #[.pointer (some ⟨g,0,none⟩)] w fun e w'=>e =.returned (.tuple #[])∧a_ g w w'∧St w' g (lZ v):=by
 have xL:=a_.lv g w
 obtain ⟨ca,cb,cc,cd,fa,fb,fc,fd⟩:=hS
 have hS0:St w g v:=⟨ca,cb,cc,cd,fa,fb,fc,fd⟩
 go_enter Tryz.func153,Tryz.ntmps153
 go_upto_region 0 with fail
 go_cut [] (fun wx=>a_ g w wx∧St wx g (v.s0))
 case first=>
  go_region
  all_goals
   go_wp2_with fail
   go_meet
   exact⟨by repeat (first |with_reducible exact xL |with_reducible refine a_.setCell ?_ _ _ |with_reducible refine a_.drew ?_),by first |exact hS0.ec _ |exact hS0.drew.ec _ |exact hS0.drew.drew.ec _ |exact hS0.drew.drew.drew.ec _⟩
 case rest=>
 clear ca cb cc cd fa fb fc fd
 obtain ⟨eE,hS1⟩:=hcut
 generalize wc=w1 at *
 obtain ⟨ca,cb,cc,cd,fa,fb,fc,fd⟩:=hS1
 have hS1:St w1 g (v.s0):=⟨ca,cb,cc,cd,fa,fb,fc,fd⟩
 clear xL hS0
 go_upto_region 1 with fail
 go_cut [] (fun wx=>a_ g w wx∧St wx g (v.s0.s1))
 case first=>
  go_region_with (go_at_call 154;refine(DL _ ((V4.U0 (hU)).2.1) _).mono ?_;rintro e w' ⟨rfl,rfl⟩)
  all_goals
   go_wp2_with fail
   go_meet
   exact⟨by repeat (first |with_reducible exact eE |with_reducible refine a_.setCell ?_ _ _ |with_reducible refine a_.drew ?_),by first |exact hS1.gC _ |exact hS1.drew.gC _ |exact hS1.drew.drew.gC _ |exact hS1.drew.drew.drew.gC _⟩
 case rest=>
 clear ca cb cc cd fa fb fc fd
 obtain ⟨hO2,hS2⟩:=hcut
 generalize wc=w2 at *
 obtain ⟨ca,cb,cc,cd,fa,fb,fc,fd⟩:=hS2
 have hS2:St w2 g (v.s0.s1):=⟨ca,cb,cc,cd,fa,fb,fc,fd⟩
 clear eE hS1
 go_upto_region 2 with fail
 go_cut [] (fun wx=>a_ g w wx∧St wx g (v.s0.s1.s2))
 case first=>
  go_wp2_with (go_at_call 154;refine(wQ _ ((V4.U1 (V4.U0 (hU))).1) _).mono ?_;rintro e w' ⟨rfl,rfl⟩)
  all_goals
   go_wp2_with fail
   go_meet
   exact⟨by repeat (first |with_reducible exact hO2 |with_reducible refine a_.setCell ?_ _ _ |with_reducible refine a_.drew ?_),by first |exact hS2.ec _ |exact hS2.drew.ec _ |exact hS2.drew.drew.ec _ |exact hS2.drew.drew.drew.ec _⟩
 case rest=>
 clear ca cb cc cd fa fb fc fd
 obtain ⟨hO3,eK⟩:=hcut
 generalize wc=w3 at *
 obtain ⟨ca,cb,cc,cd,fa,fb,fc,fd⟩:=eK
 have eK:St w3 g (v.s0.s1.s2):=⟨ca,cb,cc,cd,fa,fb,fc,fd⟩
 clear hO2 hS2
 go_upto_region 3 with fail
 go_cut [] (fun wx=>a_ g w wx∧St wx g (v.s0.s1.s2.s3))
 case first=>
  go_region
  all_goals
   go_wp2_with fail
   go_meet
   exact⟨by repeat (first |with_reducible exact hO3 |with_reducible refine a_.setCell ?_ _ _ |with_reducible refine a_.drew ?_),by first |exact eK.eS _ |exact eK.drew.eS _ |exact eK.drew.drew.eS _ |exact eK.drew.drew.drew.eS _⟩
 case rest=>
 clear ca cb cc cd fa fb fc fd
 obtain ⟨hO4,eZ⟩:=hcut
 generalize wc=w4 at *
 obtain ⟨ca,cb,cc,cd,fa,fb,fc,fd⟩:=eZ
 have eZ:St w4 g (v.s0.s1.s2.s3):=⟨ca,cb,cc,cd,fa,fb,fc,fd⟩
 clear hO3 eK
 go_upto_region 4 with fail
 go_cut [] (fun wx=>a_ g w wx∧St wx g (v.s0.s1.s2.s3.s4))
 case first=>
  go_region_with (go_at_call 154;refine(DK _ ((V4.U3 (V4.U2 (V4.U1 (V4.U0 (hU))))).2.2.2) _).mono ?_;rintro e w' ⟨rfl,rfl⟩)
  all_goals
   go_wp2_with fail
   go_meet
   exact⟨by repeat (first |with_reducible exact hO4 |with_reducible refine a_.setCell ?_ _ _ |with_reducible refine a_.drew ?_),by first |exact eZ.fO _ |exact eZ.drew.fO _ |exact eZ.drew.drew.fO _ |exact eZ.drew.drew.drew.fO _⟩
 case rest=>
 clear ca cb cc cd fa fb fc fd
 obtain ⟨kz,hS5⟩:=hcut
 generalize wc=w5 at *
 obtain ⟨ca,cb,cc,cd,fa,fb,fc,fd⟩:=hS5
 have hS5:St w5 g (v.s0.s1.s2.s3.s4):=⟨ca,cb,cc,cd,fa,fb,fc,fd⟩
 clear hO4 eZ
 go_upto_region 5 with fail
 go_cut [] (fun wx=>a_ g w wx∧St wx g (v.s0.s1.s2.s3.s4.s5))
 case first=>
  go_region
  all_goals
   go_wp2_with fail
   go_meet
   exact⟨by repeat (first |with_reducible exact kz |with_reducible refine a_.setCell ?_ _ _ |with_reducible refine a_.drew ?_),by first |exact hS5.ec _ |exact hS5.drew.ec _ |exact hS5.drew.drew.ec _ |exact hS5.drew.drew.drew.ec _⟩
 case rest=>
 clear ca cb cc cd fa fb fc fd
 obtain ⟨qw,iL⟩:=hcut
 generalize wc=w6 at *
 obtain ⟨ca,cb,cc,cd,fa,fb,fc,fd⟩:=iL
 have iL:St w6 g (v.s0.s1.s2.s3.s4.s5):=⟨ca,cb,cc,cd,fa,fb,fc,fd⟩
 clear kz hS5
 go_upto_region 6 with fail
 go_cut [] (fun wx=>a_ g w wx∧St wx g (v.s0.s1.s2.s3.s4.s5.s6))
 case first=>
  go_region_with (go_at_call 154;refine(DI _ ((V4.U5 (V4.U4 (V4.U3 (V4.U2 (V4.U1 (V4.U0 (hU))))))).2.2.2) _).mono ?_;rintro e w' ⟨rfl,rfl⟩)
  all_goals
   go_wp2_with fail
   go_meet
   exact⟨by repeat (first |with_reducible exact qw |with_reducible refine a_.setCell ?_ _ _ |with_reducible refine a_.drew ?_),by first |exact iL.fO _ |exact iL.drew.fO _ |exact iL.drew.drew.fO _ |exact iL.drew.drew.drew.fO _⟩
 case rest=>
 clear ca cb cc cd fa fb fc fd
 obtain ⟨mP,iC⟩:=hcut
 generalize wc=w7 at *
 obtain ⟨ca,cb,cc,cd,fa,fb,fc,fd⟩:=iC
 have iC:St w7 g (v.s0.s1.s2.s3.s4.s5.s6):=⟨ca,cb,cc,cd,fa,fb,fc,fd⟩
 clear qw iL
 go_upto_region 7 with fail
 go_cut [] (fun wx=>a_ g w wx∧St wx g (v.s0.s1.s2.s3.s4.s5.s6.s7))
 case first=>
  go_region
  all_goals
   go_wp2_with fail
   go_meet
   exact⟨by repeat (first |with_reducible exact mP |with_reducible refine a_.setCell ?_ _ _ |with_reducible refine a_.drew ?_),by first |exact iC.eS _ |exact iC.drew.eS _ |exact iC.drew.drew.eS _ |exact iC.drew.drew.drew.eS _⟩
 case rest=>
 clear ca cb cc cd fa fb fc fd
 obtain ⟨sh,jv⟩:=hcut
 generalize wc=w8 at *
 obtain ⟨ca,cb,cc,cd,fa,fb,fc,fd⟩:=jv
 have jv:St w8 g (v.s0.s1.s2.s3.s4.s5.s6.s7):=⟨ca,cb,cc,cd,fa,fb,fc,fd⟩
 clear mP iC
 go_upto_region 8 with fail
 go_cut [] (fun wx=>a_ g w wx∧St wx g (v.s0.s1.s2.s3.s4.s5.s6.s7.s8))
 case first=>
  go_region_with (go_at_call 154;refine(DJ _ ((V4.U7 (V4.U6 (V4.U5 (V4.U4 (V4.U3 (V4.U2 (V4.U1 (V4.U0 (hU))))))))).2.1) _).mono ?_;rintro e w' ⟨rfl,rfl⟩)
  all_goals
   go_wp2_with fail
   go_meet
   exact⟨by repeat (first |with_reducible exact sh |with_reducible refine a_.setCell ?_ _ _ |with_reducible refine a_.drew ?_),by first |exact jv.gC _ |exact jv.drew.gC _ |exact jv.drew.drew.gC _ |exact jv.drew.drew.drew.gC _⟩
 case rest=>
 clear ca cb cc cd fa fb fc fd
 obtain ⟨EO,pg⟩:=hcut
 generalize wc=w9 at *
 obtain ⟨ca,cb,cc,cd,fa,fb,fc,fd⟩:=pg
 have pg:St w9 g (v.s0.s1.s2.s3.s4.s5.s6.s7.s8):=⟨ca,cb,cc,cd,fa,fb,fc,fd⟩
 clear sh jv
 go_wp2_with (go_at_call 154;refine(wQ _ ((V4.U8 (V4.U7 (V4.U6 (V4.U5 (V4.U4 (V4.U3 (V4.U2 (V4.U1 (V4.U0 (hU)))))))))).2.2.1) _).mono ?_;rintro e w' ⟨rfl,rfl⟩)
 go_end0
 refine⟨rfl,?_,?_⟩
 ·repeat (first |with_reducible exact EO |with_reducible refine a_.setCell ?_ _ _ |with_reducible refine a_.drew ?_)
 first |exact pg.eS _ |exact pg.drew.eS _
theorem uB (g:Nat)(v:V4)(m:Int)(w:World)(hS:St w g v)(hU:v.U) :
 Calls Tryz.prog 151 #[.pointer (some ⟨g,0,none⟩),.int .u64 m] w fun e w'=>e =.returned (.tuple #[])∧a_ g w w'∧St w' g (eM v m):=by
 have hO:=a_.lv g w
 have hS2:=hS
 obtain ⟨ca,cb,cc,cd,fa,fb,fc,fd⟩:=hS
 clear ca cb cc fa fb fc
 go_enter Tryz.func151,Tryz.ntmps151
 go_wp2_with fail
 refine(gv g { v with d:=xo v.d m } _ (hS2.fO _) ⟨hU.1,hU.2.1,hU.2.2.1,fC _ _⟩).mono ?_
 rintro e w1 ⟨rfl,hO3,eK⟩
 have mN:=jM (v:={ v with d:=xo v.d m }) ⟨hU.1,hU.2.1,hU.2.2.1,fC _ _⟩
 go_wp2_with fail
 refine(gv g _ _ eK mN).mono ?_
 rintro e w2 ⟨rfl,hO4,eZ⟩
 have kz:=((hO.setCell 3 _).trans hO3).trans hO4
 have hS5:=eZ
 obtain ⟨ca,cb,cc,yb,fa,fb,fc,xN⟩:=eZ
 clear cb cc yb fb fc xN cd fd hO3 hO4 eK hS2
 go_wp2_with fail
 go_end0
 exact⟨rfl,kz.setCell 0 _,hS5.ec _⟩
theorem Ft (n:Nat)(hn:n<9223372036854775808):bits .and .i64 (n:Int) 255=((n%256:Nat):Int):=by
 have h1:n &&& 255=n%256:=Nat.and_two_pow_sub_one_eq_mod n 8
 show IntKind.i64.wrap ((BitVec.ofInt 64 (n:Int) &&& BitVec.ofInt 64 ((255:Nat):Int)).toNat:Int)=_
 rw[BitVec.toNat_and,BitVec.ofInt_natCast,BitVec.ofInt_natCast,BitVec.toNat_ofNat,BitVec.toNat_ofNat,Nat.mod_eq_of_lt (by omega),Nat.mod_eq_of_lt (by omega),h1,IntKind.wrap_i64]
 omega
theorem top56 (n:Nat):(n:Int)%256*72057594037927936=IntKind.u64.wrap ((n:Int)*72057594037927936):=by
 rw[IntKind.wrap_u64]
 omega
set_option maxRecDepth 100000 in
theorem yY (a b:Int)(A:Option Addr)(n c:Nat)(f:Nat→Int)(w:World)(h:By w A n f)(hf:az f)(hnc:n≤c)(hn:n≤140737488355328) :
 Calls Tryz.prog 150 #[.agg #[.int .u64 a,.int .u64 b],.slice A n c] w fun e w'=>e =.returned (.int .u64 (pI a b f n))∧Below w.heap.size w w':=by
 have hand:=Ft n (by omega)
 go_enter Tryz.func150,Tryz.ntmps150
 go_wp2_with fail
 have hS:=St.made (w:=w.alloc (.cells #[.int .u64 a,.int .u64 b] 29)) (T:=212) (v:=cJ a b) (g:=w.heap.size+1) (by simp)
 have hb2:Below w.heap.size w ((w.alloc (.cells #[.int .u64 a,.int .u64 b] 29)).alloc (.cells #[.int .u64 (cJ a b).a,.int .u64 (cJ a b).b,.int .u64 (cJ a b).c,.int .u64 (cJ a b).d] 212)):=
  ((Below.refl _ _).alloc (Nat.le_refl _) _).alloc (by simp) _
 have hs:=h.below hb2 (Nat.le_refl _)
 have hz':w.heap.size≤w.heap.size+1:=by omega
 have hA:∀ad,A=some ad→0<n→ad.block≠w.heap.size+1:=fun ad e h0=>by
  obtain ⟨b',off,e',hlt,_⟩:=h h0
  rw[e]at e'
  injection e' with e'
  subst e'
  simp only
  omega
 clear h
 change Code.wp _ _ _ _ ((w.alloc (.cells #[.int .u64 a,.int .u64 b] 29)).alloc (.cells #[.int .u64 (cJ a b).a,.int .u64 (cJ a b).b,.int .u64 (cJ a b).c,.int .u64 (cJ a b).d] 212))
 generalize hgg:w.heap.size+1=g at *
 clear hgg
 generalize (w.alloc (.cells #[.int .u64 a,.int .u64 b] 29)).alloc _=w2 at *
 have hO:=a_.lv g w2
 go_loopw [6] (fun r wr=>∃p:Nat,8*p≤n∧r =.int .i64 (8*(p:Int))∧a_ g w2 wr∧St wr g (eats (fun i=>di (fun j=>f (8*i+j)) 8) p (cJ a b)))
  (fun r _=>n-(intOf r).toNat)
 case atStart=>exact⟨0,by omega,rfl,hO,hS⟩
 obtain ⟨p,hpn,rfl,eE,hS1⟩:=hrel
 have hB:=eE.sl hs hA
 have gB:=k6 (f:=fun i=>di (fun j=>f (8*i+j)) 8) (oN a b) p
 have hE:Hid (eats (fun i=>di (fun j=>f (8*i+j)) 8) (p+1) (cJ a b)=eM (eats (fun i=>di (fun j=>f (8*i+j)) 8) p (cJ a b)) (di (fun j=>f (8*p+j)) 8)):=rfl
 have hfp:az (fun j=>f (8*p+j)):=fun j=>hf _
 clear hO hS
 by_cases hlt:8*p+8≤n
 ·generalize eats (fun i=>di (fun j=>f (8*i+j)) 8) p (cJ a b)=v1 at *
  obtain ⟨A2,k2,S2⟩:=gp A n c (8*p) (8*p+8) (by omega) hlt hnc (8*(p:Int)) (8*(p:Int)+8) (by omega) (by omega)
  rw[show 8*p+8-8*p=8 from by omega]at k2 S2
  have i1:8*(p:Int)+8≤n:=by omega
  have SB:=S2 _ _ hB
  clear S2 hB
  go_wp2_with fail
  refine(uk A2 8 _ (fun j=>f (8*p+j)) _ SB hfp (by omega)).mono ?_
  rintro e w3 ⟨rfl,rfl⟩
  go_wp2_with fail
  refine(uB g v1 (di (fun j=>f (8*p+j)) 8) _ hS1 gB).mono ?_
  rintro e w4 ⟨rfl,hO2,hS2⟩
  have hO3:=hid (eE.trans hO2)
  have FW:=hid hS2
  clear hS2 hO2 hS1 eE
  go_wp2_with fail
  go_roundw
  case rel=>exact⟨p+1,by omega,by go_num,hO3.out,by rw[hE.out];exact FW.out⟩
  simp[intOf];omega
 obtain ⟨L,hL⟩:∃L,L=n-8*p:=⟨_,rfl⟩
 have hfin:=hid (t5 a b f n p L (by omega) (by omega))
 have i1:¬8*(p:Int)+8≤n:=by omega
 obtain ⟨A2,k2,S2⟩:=dU A n c (8*p) (by omega) hnc (8*(p:Int)) (by omega)
 rw[←hL]at k2 S2
 have SB:=S2 _ _ hB
 have KP:L≤8:=by omega
 have htop:=hid (top56 n)
 clear S2 hB hL
 generalize eats (fun i=>di (fun j=>f (8*i+j)) 8) p (cJ a b)=v1 at *
 clear hE
 go_wp2_with fail
 refine(uk A2 L _ (fun j=>f (8*p+j)) _ SB hfp KP).mono ?_
 rintro e w3 ⟨rfl,rfl⟩
 go_wp2_with fail
 rw[htop.out]
 obtain ⟨m,hm⟩:∃m,m=bits .or .u64 (di (fun j=>f (8*p+j)) L) (IntKind.u64.wrap ((n:Int)*72057594037927936)):=⟨_,rfl⟩
 rw[←hm]
 have HM:=hid hm
 clear hm hand
 refine(uB g v1 m _ hS1 gB).mono ?_
 rintro e w4 ⟨rfl,hO2,hS2⟩
 have pd:=vx gB m
 have hO3:=eE.trans hO2
 clear eE hO2 hS1 SB
 obtain ⟨ca,cb,cc,cd,fa,fb,fc,fd⟩:=hS2
 have hS2:St w4 g (eM v1 m):=⟨ca,cb,cc,cd,fa,fb,fc,fd⟩
 clear ca cb cd fa fb fd
 have mN:V4.U { eM v1 m with c:=xo (eM v1 m).c 255 }:=⟨pd.1,pd.2.1,fC _ _,pd.2.2.2⟩
 go_wp2_with fail
 refine(gv g { eM v1 m with c:=xo (eM v1 m).c 255 } _ (hS2.eS _) mN).mono ?_
 rintro e w5 ⟨rfl,hO4,eZ⟩
 have H9:=jM mN
 go_wp2_with fail
 refine(gv g _ _ eZ H9).mono ?_
 rintro e w6 ⟨rfl,kz,hS5⟩
 have H8:=jM H9
 go_wp2_with fail
 refine(gv g _ _ hS5 H8).mono ?_
 rintro e w7 ⟨rfl,qw,iL⟩
 have KM:=jM H8
 go_wp2_with fail
 refine(gv g _ _ iL KM).mono ?_
 rintro e w8 ⟨rfl,mP,iC⟩
 have jv:St w8 g (jb (eM v1 m)):=iC
 have sh:=((((hO3.setCell 2 _).trans hO4).trans kz).trans qw).trans mP
 have j6:=hb2.trans (sh.below hz' hb2.size)
 clear hS2 cc fc hO3 hO4 kz qw mP eZ hS5 iL iC
 obtain ⟨ca,cb,cc,cd,fa,fb,fc,fd⟩:=jv
 clear fa fb fc fd
 go_wp2_with fail
 go_quiet (fail)
 go_wp2
 go_ret
 refine⟨nm ?_,below_drewN j6 _⟩
 rw[←hfin.out,←HM.out]
 rfl
def byteOf (f:Nat→Int)(q:Nat):Int:=IntKind.u64.wrap (f (q/8))/2^(8*(q%8))%256
theorem sK (f:Nat→Int):az (byteOf f):=fun q=>by unfold byteOf;omega
theorem fL (f:Nat→Int)(i j:Nat)(hj:j<8):byteOf f (8*i+j)=IntKind.u64.wrap (f i)/256^j%256:=by
 have h1:(8*i+j)/8=i:=by omega
 have h2:(8*i+j)%8=j:=by omega
 have h3:(2:Int)^(8*j)=256^j:=by rw[Int.pow_mul];rfl
 unfold byteOf
 rw[h1,h2,h3]
theorem vg (f:Nat→Int)(i:Nat):di (fun j=>byteOf f (8*i+j)) 8=IntKind.u64.wrap (f i):=by
 have hU:=ym (f i)
 generalize hx:IntKind.u64.wrap (f i)=x at *
 unfold U at hU
 simp only[di,fL f i _ (show 0<8 by omega),fL f i _ (show 1<8 by omega),fL f i _ (show 2<8 by omega),fL f i _ (show 3<8 by omega),fL f i _ (show 4<8 by omega),fL f i _ (show 5<8 by omega),fL f i _ (show 6<8 by omega),fL f i _ (show 7<8 by omega),hx]
 simp only[Int.pow_succ,Int.pow_zero,Int.one_mul,Int.ediv_one,Int.mul_one,Int.zero_add]
 omega
theorem oM (a b:Int)(f:Nat→Int)(n:Nat):pI a b (byteOf f) (8*n)=gU a b f n:=by
 have h1:8*n/8=n:=by omega
 have h2:8*n%8=0:=by omega
 unfold pI gU
 rw[h1,h2,sy _ n (fun i _=>vg f i)]
 rfl
set_option maxRecDepth 100000 in
theorem uZ (a b:Int)(A:Option Addr)(n c:Nat)(f:Nat→Int)(w:World)(h:Is w A n f)(hf:pC f)(hn:n≤17592186044416) :
 Calls Tryz.prog 147 #[.agg #[.int .u64 a,.int .u64 b],.slice A n c] w fun e w'=>e =.returned (.int .u64 (gU a b f n))∧Below w.heap.size w w':=by
 go_enter Tryz.func147,Tryz.ntmps147
 go_wp2_with fail
 have hs:=h.below ((Below.refl w.heap.size w).alloc (Nat.le_refl _) (.cells #[.int .u64 a,.int .u64 b] 29)) (Nat.le_refl _)
 have hb0:Below w.heap.size w (w.alloc (.cells #[.int .u64 a,.int .u64 b] 29)):=(Below.refl _ _).alloc (Nat.le_refl _) _
 have hk0:(w.alloc (.cells #[.int .u64 a,.int .u64 b] 29)).cell? ⟨w.heap.size,0,none⟩=some (.int .u64 a):=by
  rw[cell_of_row _ _ _ _ _ _ (heap_alloc_new w _)];rfl
 have hk1:(w.alloc (.cells #[.int .u64 a,.int .u64 b] 29)).cell? ⟨w.heap.size,1,none⟩=some (.int .u64 b):=by
  rw[cell_of_row _ _ _ _ _ _ (heap_alloc_new w _)];rfl
 have hsz:(w.alloc (.cells #[.int .u64 a,.int .u64 b] 29)).heap.size=w.heap.size+1:=by simp
 have hsl:w.heap.size<(w.alloc (.cells #[.int .u64 a,.int .u64 b] 29)).heap.size:=by simp
 clear hsz
 generalize hw1:w.alloc (.cells #[.int .u64 a,.int .u64 b] 29)=w1 at *
 clear hw1 h
 go_loopw [5,6,7] (fun r i _ wr=>∃(k:Nat) (A':Option Addr) (c':Nat),k≤n∧i =.int .i64 k∧r =.slice A' (8*k) c'∧8*k≤c'∧Below w1.heap.size w1 wr∧Ow wr w1.heap.size 5 1 (.slice A' (8*k) c') (8*k) (fun q=>.int .u8 (byteOf f q)))
  (fun _ i _ _=>n-(intOf i).toNat)
 case atStart=>exact⟨0,none,0,by omega,rfl,rfl,by omega,Below.refl _ _,Ow.none_⟩
 obtain ⟨k,A',c',hk,rfl,rfl,hc',hb1,eE⟩:=hrel
 obtain ⟨wo,rfl⟩:∃wo:World,wo=wr:=⟨_,rfl⟩
 by_cases hlt:k<n
 ·have i1:(k:Int)<n:=by omega
  go_wp2_with fail
  go_loopw [5,7] (fun r j wr=>∃(q:Nat) (A2:Option Addr) (c2:Nat),q≤8∧j =.int .i64 q∧r =.slice A2 (8*k+q) c2∧8*k+q≤c2∧Below w1.heap.size w1 wr∧Ow wr w1.heap.size 5 1 (.slice A2 (8*k+q) c2) (8*k+q) (fun q=>.int .u8 (byteOf f q)))
   (fun _ j _=>8-(intOf j).toNat)
  case atStart=>exact⟨0,A',c',by omega,rfl,rfl,hc',hb1,eE⟩
  obtain ⟨q,A2,c2,hq,rfl,rfl,hc2,hb2,hO2⟩:=hrel
  by_cases hq8:q<8
  ·have i2:(q:Int)<8:=by omega
   obtain ⟨ba,off,rfl,_,hcell⟩:=hs.below hb2 (Nat.le_refl _) (by omega)
   have c0:=hcell k hlt
   have H6:=hf k
   clear hcell
   have hx:Hid (byteOf f (8*k+q)=IntKind.u64.wrap (f k)/2^(8*q)%256):=by
    unfold Hid byteOf
    rw[show (8*k+q)/8=k from by omega,show (8*k+q)%8=q from by omega]
   go_wp2_with (at_builtin
                refine cX rfl (.tmp 18) (.tmp 29) rfl w1.heap.size (.slice A2 (8*k+q) c2) (8*k+q) (byteOf f) rfl (hO2.alloc _) (some ⟨wr.heap.size,0,none⟩) 1 1 (fun j=>[IntKind.u64.wrap (f k)/2^(8*q)%256].getD j 0) rfl (fW .u8 [IntKind.u64.wrap (f k)/2^(8*q)%256] rfl) (by omega) (by have:=hb2.size;simp;omega) ?_
                intro A3 c3 w3 o3 hc3 HU hb3 hg3 ho3)
   have hb4:Below w1.heap.size w1 w3:=(hb2.alloc hb2.size _).trans hb3
   go_roundw
   case rel=>exact⟨q+1,A3,c3,by omega,by go_num,rfl,hc3,hb4,o3.fN fun j hj=>by
    show Value.int .u8 _=Value.int .u8 _
    congr 1
    split
    ·rfl
    rw[show j=8*k+q from by omega,hx.out];simp⟩
   simp[intOf];omega
  have e:q=8:=by omega
  subst e
  have i2:¬((8:Nat):Int)<8:=by omega
  go_wp2_with fail
  go_roundw
  case rel=>exact⟨k+1,A2,c2,by omega,by go_num,by rw[show 8*(k+1)=8*k+8 from by omega],by omega,hb2,by rw[show 8*(k+1)=8*k+8 from by omega];exact hO2⟩
  simp[intOf];omega
 have e:k=n:=by omega
 subst e
 have i1:¬(k:Int)<k:=by omega
 have d0:wo.cell? ⟨w.heap.size,0,none⟩=some (.int .u64 a):=(hb1.cell (p:=⟨w.heap.size,0,none⟩) (by omega)).trans hk0
 have d1:wo.cell? ⟨w.heap.size,1,none⟩=some (.int .u64 b):=(hb1.cell (p:=⟨w.heap.size,1,none⟩) (by omega)).trans hk1
 have hfin:=hid (oM a b f k)
 have SB:=eE.sl1
 have hb5:=hb0.trans (hb1.mono (by omega))
 clear eE hk0 hk1
 go_wp2_with fail
 refine(yY a b A' (8*k) c' (byteOf f) _ SB (sK f) hc' (by omega)).mono ?_
 rintro e w9 ⟨rfl,j6⟩
 go_wp2
 go_ret
 exact⟨nm hfin.out,hb5.trans (j6.mono hb5.size)⟩
theorem nR (A:Option Addr)(n c:Nat)(f:Nat→Int)(w:World)(h:By w A n f)(hf:az f)(hn:n≤8) :
 Calls Tryz.prog 52 #[.slice A n c] w fun e w'=>e =.returned (.int .u64 (di f n))∧w=w':=by
 go_enter Tryz.func52,Tryz.ntmps52
 go_wp2_with fail
 go_loop [3,4,5,8] (fun t _ _ i=>∃k:Nat,k≤n∧i =.int .i64 k∧t =.int .u64 (di f k)) (fun _ _ _ i=>n-(intOf i).toNat)
 case atStart=>exact⟨0,by omega,rfl,rfl⟩
 obtain ⟨k,hk,rfl,rfl⟩:=hrel
 by_cases hlt:k<n
 ·obtain ⟨b,off,rfl,_,hc⟩:=h (by omega)
  have c0:w.cell? ⟨b,off+k,none⟩=some (.int .u8 (f k)):=hc _ hlt
  have i1:(k:Int)<n:=by omega
  have b0:=hf k
  clear hc h
  have hor:=hid (xk f hf k (by omega))
  go_wp2_with fail
  go_round
  case rel=>exact⟨k+1,by omega,by go_num,by rw[hor.out]⟩
  simp[intOf];omega
 have e:k=n:=by omega
 subst e
 have i1:¬(k:Int)<k:=by omega
 go_wp2
 go_ret
 exact⟨rfl,rfl⟩
set_option maxRecDepth 100000 in
theorem Co (a b:Int)(A:Option Addr)(n c:Nat)(f:Nat→Int)(w:World)(h:By w A n f)(hf:az f)(hnc:n≤c)(hn:n≤140737488355328) :
 Calls Tryz.prog 16 #[.agg #[.int .u64 a,.int .u64 b],.slice A n c] w fun e w'=>e =.returned (.int .u64 (pI a b f n))∧Below w.heap.size w w':=by
 go_enter Tryz.func16,Tryz.ntmps16
 go_wp2_with fail
 refine(qf a b _).mono ?_
 rintro e w1 ⟨rfl,hb1⟩
 go_wp2_with fail
 have hb1:=((Below.refl w.heap.size w).alloc (Nat.le_refl _) (.cells #[.int .u64 a,.int .u64 b] 29)).trans (hb1.mono (by simp))
 have hS:=St.made (w:=w1) (T:=106) (v:=cJ a b) (g:=w1.heap.size) rfl
 have hb2:Below w.heap.size w (w1.alloc (.cells #[.int .u64 (cJ a b).a,.int .u64 (cJ a b).b,.int .u64 (cJ a b).c,.int .u64 (cJ a b).d] 106)):=hb1.alloc hb1.size _
 have hs:=h.below hb2 (Nat.le_refl _)
 have hz:=hb1.size
 have hA:∀ad,A=some ad→0<n→ad.block≠w1.heap.size:=fun ad e h0=>by
  obtain ⟨b',off,e',hlt,_⟩:=h h0
  rw[e]at e'
  injection e' with e'
  subst e'
  simp only
  omega
 clear h hb1
 generalize w1.heap.size=g at *
 generalize w1.alloc _=w2 at *
 have hO:=a_.lv g w2
 go_loopw [6] (fun r wr=>∃(p L C:Nat) (A':Option Addr),8*p+L=n∧L≤C∧r =.slice A' L C∧(∀V:World,By V A n f→By V A' L (fun j=>f (8*p+j)))∧a_ g w2 wr∧St wr g (eats (fun i=>di (fun j=>f (8*i+j)) 8) p (cJ a b)))
  (fun r _=>match r with | .slice _ l _=>l | _=>0)
 case atStart=>exact⟨0,n,c,A,by omega,hnc,rfl,fun V hV=>by simpa using hV,hO,hS⟩
 obtain ⟨p,L,C,A',Hw,KO,rfl,hcut,eE,hS1⟩:=hrel
 have hB:=hcut _ (eE.sl hs hA)
 have gB:=k6 (f:=fun i=>di (fun j=>f (8*i+j)) 8) (oN a b) p
 have hE:Hid (eats (fun i=>di (fun j=>f (8*i+j)) 8) (p+1) (cJ a b)=eM (eats (fun i=>di (fun j=>f (8*i+j)) 8) p (cJ a b)) (di (fun j=>f (8*p+j)) 8)):=rfl
 have hfp:az (fun j=>f (8*p+j)):=fun j=>hf _
 have Ev:=hid Hw
 have hpn:p≤17592186044416:=by omega
 have hLn:L≤140737488355328:=by omega
 clear hO hS Hw
 by_cases hlt:8≤L
 ·generalize eats (fun i=>di (fun j=>f (8*i+j)) 8) p (cJ a b)=v1 at *
  obtain ⟨A2,k2,S2⟩:=dU A' L C 8 hlt KO 8 rfl
  have i1:(8:Int)≤L:=by omega
  have i2:(8:Int)≤C:=by omega
  have HC:=hid hcut
  have HS:=hid S2
  clear S2 hcut
  go_wp2_with fail
  refine(nR A' 8 C (fun j=>f (8*p+j)) _ (hB.less hlt) hfp (by omega)).mono ?_
  rintro e w3 ⟨rfl,rfl⟩
  have Ez:U (di (fun j=>f (8*p+j)) 8):=by
   have:=ui _ hfp 8
   unfold U
   omega
  generalize di (fun j=>f (8*p+j)) 8=m at *
  have hgl:=hS1.lt
  go_wp2_with fail
  have hw1:a_ g w2 (wr.alloc (.cells #[.int .u64 m] 27)):=eE.trans (a_.of_below ((Below.refl _ _).alloc (Nat.le_refl _) _))
  refine(rC g v1 _ 1 1 (fun j=>[m].getD j 0) _ (hS1.below ((Below.refl wr.heap.size wr).alloc (Nat.le_refl _) _) hgl) gB (by exact fW .u64 [m] rfl) (fun j=>?_) (fun ad e _=>?_) (by omega)).mono ?_
  ·rcases j with _ |j
   ·exact Ez
   exact⟨by simp,by simp⟩
  ·injection e with e
   subst e
   simp only
   omega
  rintro e w4 ⟨rfl,hO2,hS2⟩
  have eK:St w4 g (eM v1 m):=hS2
  have hO3:=hid (hw1.trans hO2)
  have FW:=hid eK
  clear hS2 hO2 hw1 hS1 eE hB eK
  go_wp2_with fail
  go_roundw
  case rel=>exact⟨p+1,L-8,C-8,A2,by have:=Ev.out;omega,by omega,rfl,fun V hV=>(HS.out V _ (HC.out V hV)).as (fun j _=>by simp only[Value.int.injEq,true_and];congr 1;omega),hO3.out,by rw[hE.out];exact FW.out⟩
  simp;omega
 have hfin:=hid (t5 a b f n p L Ev.out (by omega))
 have i1:¬(8:Int)≤L:=by omega
 generalize eats (fun i=>di (fun j=>f (8*i+j)) 8) p (cJ a b)=v1 at *
 clear hE hcut
 go_wp2_with fail
 refine(nR A' L C (fun j=>f (8*p+j)) _ hB hfp (by omega)).mono ?_
 rintro e w3 ⟨rfl,rfl⟩
 go_wp2_with fail
 refine(uA g v1 (di (fun j=>f (8*p+j)) L) (n:Int) _ hS1 gB (by omega) (by omega)).mono ?_
 rintro e w3 ⟨rfl,hO3⟩
 have hb4:=hb2.trans ((eE.trans hO3).below hz hb2.size)
 go_wp2
 go_ret
 exact⟨nm hfin.out,hb4⟩
end Go.Proofs.YtgfonkagnambiaaGreat
