/- New, of both packages. Entries of numbers. What stays true of pools; rows of entries. All of the package. The laws' helper known. Pools that are held while an order is open. -/
import Derived.Test.YtalnfkijiehjhaaGreatGa
import Derived.Test.YtalnfkijiehjhaaGreatPolApp3
import Derived.BigQuiet
import Derived.Deep.RegionHeld3
import Derived.Deep.Cut
import Derived.Test.YtalnfkijiehjhaaGreatPolApp4
import Derived.Test.YtalnfkijiehjhaaGreatGf
import Derived.Test.YtalnfkijiehjhaaGreatGp
namespace Go.Proofs.YtalnfkijiehjhaaGreat
set_option linter.unusedVariables false
set_option linter.unusedSimpArgs false
open Go.RowKit Go.ChangeShapes Go.WideShapes Go.ChangeAt
theorem Hr (a q a1 b1 a2 b2:Int):((((((((((PA cm).setIfInBounds 1 (.int .i64 a)).setIfInBounds 2 (.int .i64 q)).setIfInBounds 323 (.int .i64 1)).setIfInBounds 324 (.int .u64 0)).setIfInBounds 325 (.int .u64 0)).setIfInBounds 326 (.int .u64 a1)).setIfInBounds 327 (.int .u64 b1)).setIfInBounds 328 (.int .u64 a2)).setIfInBounds 329 (.int .u64 b2))=PA ⟨0,a,q,fun _=>iD,⟨1,fL,⟨a1,b1⟩,⟨a2,b2⟩⟩⟩:=by kernel_rfl
def Aw (a q:Int)(k1 k2:Ky):Pl×Int:=bif ku a q then (⟨0,a,q,fun _=>iD,⟨1,fL,k1,k2⟩⟩,0) else (cm,14)
attribute [local irreducible] PA
theorem qXF{P:Prop}(h:P:=by
 rintro x w' ⟨rfl,rfl⟩
 have SR:=hid (R1.out.fv cm)
 go_upto_region 2 with (fail)
 go_wp2_with (first | ((with_reducible refine ah ?_);refine iE rfl rfl (lZ _) ?_) | ((with_reducible refine ah ?_);refine cE rfl rfl rfl rfl SR.out ?_;refine dZ rfl rfl ?_;refine aJ ?_;apply_assumption;refine wp_ret ?_;(repeat refine aI ?_);(show bodyPost _ _ _ _ _ _);refine bodyPost_ret (v:=.tuple #[.agg (PA cm),.int .i64 14]) (ez Tryz.results29 _ rfl rfl (R1.out.whole cm)) rfl ⟨rfl,by rw[HK.out];exact B1.out.trans (aH R (PA cm).toList 0 w1 P lR)⟩))
 ):P:=h
set_option maxRecDepth 100000 in
set_option maxHeartbeats 4000000 in
theorem C_ (a q:Int)(k1 k2:Ky)(w:World):Calls Tryz.prog 29 #[a,q,eO k1,eO k2] w fun x w'=>x =.returned (.tuple #[gG (Aw a q k1 k2).1,(Aw a q k1 k2).2])∧Below w.heap.size w w':=by
 have hz:∀w:World,(zeroValue 34).run Tryz.prog w =.ok (.agg (PA cm)) w:=fun w=>sr w
 have hz1:=lx cm
 have hz2:=yk cm
 obtain ⟨a1,b1⟩:=k1
 obtain ⟨a2,b2⟩:=k2
 unfold gG Aw eO ku
 have O1:=hid (fun w=>dm a 0 4294967295 w)
 have O2:=hid (fun w=>dm q 0 65535 w)
 generalize d_ a 0 4294967295=m1 at *
 generalize d_ q 0 65535=m2 at *
 cases m1
 ·go_enter Tryz.func29,Tryz.ntmps29
  go_upto_region 1 with (fail)
  have K1:=hid (((Ce.made (w:=w) (l:=[.int .u64 a1,.int .u64 b1]) (T:=30) (g:=w.heap.size) rfl).alloc (.cells #[.int .u64 a2,.int .u64 b2] 30)).alloc (.cells (PA cm) 34))
  have K2:=hid ((Ce.made (w:=(w.alloc (.cells #[.int .u64 a1,.int .u64 b1] 30))) (l:=[.int .u64 a2,.int .u64 b2]) (T:=30) (g:=w.heap.size+1) (by simp)).alloc (.cells (PA cm) 34))
  have R1:=hid (au.made (w:=((w.alloc (.cells #[.int .u64 a1,.int .u64 b1] 30)).alloc (.cells #[.int .u64 a2,.int .u64 b2] 30))) (p:=cm) (T:=34) (g:=w.heap.size+1+1) (by simp))
  have B1:=hid ((((Below.refl w.heap.size w).alloc (Nat.le_refl _) (.cells #[.int .u64 a1,.int .u64 b1] 30)).alloc (by simp) (.cells #[.int .u64 a2,.int .u64 b2] 30)).alloc (by simp;omega) (.cells (PA cm) 34))
  have lR:w.heap.size≤w.heap.size+1+1:=by omega
  generalize ((w.alloc (.cells #[.int .u64 a1,.int .u64 b1] 30)).alloc (.cells #[.int .u64 a2,.int .u64 b2] 30)).alloc (.cells (PA cm) 34)=w1 at *
  generalize w.heap.size+1+1=R at *
  generalize w.heap.size+1=E at *
  generalize hK:w.heap.size=P at *
  have HK:=hid hK
  clear hK
  go_wp2_with fail
  refine(O1.out _).mono ?_
  exact qXF
 cases m2
 ·go_enter Tryz.func29,Tryz.ntmps29
  go_upto_region 1 with (fail)
  have K1:=hid (((Ce.made (w:=w) (l:=[.int .u64 a1,.int .u64 b1]) (T:=30) (g:=w.heap.size) rfl).alloc (.cells #[.int .u64 a2,.int .u64 b2] 30)).alloc (.cells (PA cm) 34))
  have K2:=hid ((Ce.made (w:=(w.alloc (.cells #[.int .u64 a1,.int .u64 b1] 30))) (l:=[.int .u64 a2,.int .u64 b2]) (T:=30) (g:=w.heap.size+1) (by simp)).alloc (.cells (PA cm) 34))
  have R1:=hid (au.made (w:=((w.alloc (.cells #[.int .u64 a1,.int .u64 b1] 30)).alloc (.cells #[.int .u64 a2,.int .u64 b2] 30))) (p:=cm) (T:=34) (g:=w.heap.size+1+1) (by simp))
  have B1:=hid ((((Below.refl w.heap.size w).alloc (Nat.le_refl _) (.cells #[.int .u64 a1,.int .u64 b1] 30)).alloc (by simp) (.cells #[.int .u64 a2,.int .u64 b2] 30)).alloc (by simp;omega) (.cells (PA cm) 34))
  have lR:w.heap.size≤w.heap.size+1+1:=by omega
  generalize ((w.alloc (.cells #[.int .u64 a1,.int .u64 b1] 30)).alloc (.cells #[.int .u64 a2,.int .u64 b2] 30)).alloc (.cells (PA cm) 34)=w1 at *
  generalize w.heap.size+1+1=R at *
  generalize w.heap.size+1=E at *
  generalize hK:w.heap.size=P at *
  have HK:=hid hK
  clear hK
  go_wp2_with fail
  refine(O1.out _).mono ?_
  rintro x w' ⟨rfl,rfl⟩
  go_wp2_with fail
  refine(O2.out _).mono ?_
  exact qXF
 go_enter Tryz.func29,Tryz.ntmps29
 go_upto_region 1 with (fail)
 have K1:=hid (((Ce.made (w:=w) (l:=[.int .u64 a1,.int .u64 b1]) (T:=30) (g:=w.heap.size) rfl).alloc (.cells #[.int .u64 a2,.int .u64 b2] 30)).alloc (.cells (PA cm) 34))
 have K2:=hid ((Ce.made (w:=(w.alloc (.cells #[.int .u64 a1,.int .u64 b1] 30))) (l:=[.int .u64 a2,.int .u64 b2]) (T:=30) (g:=w.heap.size+1) (by simp)).alloc (.cells (PA cm) 34))
 have R1:=hid (au.made (w:=((w.alloc (.cells #[.int .u64 a1,.int .u64 b1] 30)).alloc (.cells #[.int .u64 a2,.int .u64 b2] 30))) (p:=cm) (T:=34) (g:=w.heap.size+1+1) (by simp))
 have B1:=hid ((((Below.refl w.heap.size w).alloc (Nat.le_refl _) (.cells #[.int .u64 a1,.int .u64 b1] 30)).alloc (by simp) (.cells #[.int .u64 a2,.int .u64 b2] 30)).alloc (by simp;omega) (.cells (PA cm) 34))
 have lR:w.heap.size≤w.heap.size+1+1:=by omega
 generalize ((w.alloc (.cells #[.int .u64 a1,.int .u64 b1] 30)).alloc (.cells #[.int .u64 a2,.int .u64 b2] 30)).alloc (.cells (PA cm) 34)=w1 at *
 generalize w.heap.size+1+1=R at *
 generalize w.heap.size+1=E at *
 generalize hK:w.heap.size=P at *
 have HK:=hid hK
 clear hK
 go_wp2_with fail
 refine(O1.out _).mono ?_
 rintro x w' ⟨rfl,rfl⟩
 go_wp2_with fail
 refine(O2.out _).mono ?_
 rintro x w' ⟨rfl,rfl⟩
 go_upto_region 3 with (fail)
 have L1:=K2
 clear K2
 have x0:=K1.out.2.1 0 _ rfl
 have x1:=K1.out.2.1 1 _ rfl
 have y0:=L1.out.2.1 0 _ rfl
 have y1:=L1.out.2.1 1 _ rfl
 go_wp2_with fail
 clear x0 x1 y0 y1
 have CX:=Ce.made (w:=w1) (l:=[.int .u64 0,.int .u64 0,.int .u64 a1,.int .u64 b1,.int .u64 a2,.int .u64 b2]) (T:=30) (g:=w1.heap.size) rfl
 have B7:=B1.out.alloc (by have:=B1.out.size;rw[HK.out]at this;exact this) (.cells #[.int .u64 0,.int .u64 0,.int .u64 a1,.int .u64 b1,.int .u64 a2,.int .u64 b2] 30)
 have R7:=R1.out.alloc (.cells #[.int .u64 0,.int .u64 0,.int .u64 a1,.int .u64 b1,.int .u64 a2,.int .u64 b2] 30)
 generalize w1.alloc (.cells #[.int .u64 0,.int .u64 0,.int .u64 a1,.int .u64 b1,.int .u64 a2,.int .u64 b2] 30)=w7 at *
 generalize w1.heap.size=X at *
 refine(Hh (zM 1 (some ⟨X,0,none⟩) 3 3 _ w7 (Ce.Nu [0,0,a1,b1,a2,b2] CX) (by omega)) (b:=.agg #[.int .i64 1,.int .u64 0,.int .u64 0,.int .u64 a1,.int .u64 b1,.int .u64 a2,.int .u64 b2]) rfl).mono ?_
 rintro x w8 ⟨rfl,hb⟩
 have R8:=hid (R7.below hb)
 have B8:=hid (B7.trans (hb.mono (Nat.le_trans (by have:=B7.size;rw[HK.out]at this;exact this) (Nat.le_refl _))))
 clear hb CX B7 R7
 have SR:=hid (R8.out.fv ⟨0,a,q,fun _=>iD,⟨1,fL,⟨a1,b1⟩,⟨a2,b2⟩⟩⟩)
 have PN:=Hr a q a1 b1 a2 b2
 go_wp2_with ((with_reducible refine ah ?_);refine cE rfl rfl rfl rfl SR.out ?_;refine dZ rfl rfl ?_;refine aJ ?_;apply_assumption;refine wp_ret ?_;(repeat refine aI ?_);(show bodyPost _ _ _ _ _ _);refine bodyPost_ret (v:=.tuple #[.agg (PA ⟨0,a,q,fun _=>iD,⟨1,fL,⟨a1,b1⟩,⟨a2,b2⟩⟩⟩),()]) (ez Tryz.results29 _ rfl rfl (R8.out.whole ⟨0,a,q,fun _=>iD,⟨1,fL,⟨a1,b1⟩,⟨a2,b2⟩⟩⟩)) rfl ⟨rfl,by rw[HK.out];exact B8.out.trans (aH R (PA ⟨0,a,q,fun _=>iD,⟨1,fL,⟨a1,b1⟩,⟨a2,b2⟩⟩⟩).toList 0 w8 P lR)⟩)
end Go.Proofs.YtalnfkijiehjhaaGreat
namespace Go.Proofs.YtalnfkijiehjhaaGreat
set_option linter.unusedVariables false
set_option linter.unusedSimpArgs false
open Go.RowKit Go.ChangeShapes Go.WideShapes Go.ChangeAt
def mD (k:Int):Int:=bif k/48%29==0 then k/48%66 else k/8%6
def rZ (k:Int):Int→En
 |0=>⟨1,mD k,k/400%5,k/2000%3,1+k/6000%8,fL⟩
 |1=>⟨1,mD k,k/400%5,k/2000%3,1+k/6000%8,fL⟩
 |2=>⟨2,mD k,0,0,0,fL⟩
 |3=>⟨3,mD k,0,0,0,fL⟩
 |4=>⟨4,mD k,0,0,0,fL⟩
 |5=>⟨5,mD k,0,0,0,fL⟩
 | _=>⟨6,0,0,0,0,vg k⟩
def tV (n:Int):En:=rZ (wi n 1125899906842624) (wi n 1125899906842624%8)
theorem qJY{P:Prop}(h:P:=by
 have r0:=CR.out.2.1 0 _ rfl
 have f0:=CR.out.2.2 0
 have r1:=CR.out.2.1 1 _ rfl
 have f1:=CR.out.2.2 1
 have r2:=CR.out.2.1 2 _ rfl
 have f2:=CR.out.2.2 2
 have r3:=CR.out.2.1 3 _ rfl
 have f3:=CR.out.2.2 3
 have r4:=CR.out.2.1 4 _ rfl
 have f4:=CR.out.2.2 4
 have r5:=CR.out.2.1 5 _ rfl
 have f5:=CR.out.2.2 5
 have r6:=CR.out.2.1 6 _ rfl
 have f6:=CR.out.2.2 6
 go_wp2_with fail
 refine bodyPost_ret (by simp[results,Tryz.results32,go_sem,fL,r0,r1,r2,r3,r4,r5,r6]) rfl ⟨rfl,?_⟩
 rw[HK.out]
 repeat' (first |with_reducible exact B.out |with_reducible refine Below.drew ?_ |refine Below.setCell ?_ (by first |exact Nat.le_refl _ |omega) _)
 ):P:=h
theorem qQR{P:Prop}(h:P:=by
 exact qJY
 ):P:=h
theorem qQM{P:Prop}(h:P:=by
 go_enter Tryz.func32,Tryz.ntmps32
 go_wp2_with fail
 have CR:=hid (Ce.made (w:=w) (l:=[(),(),(),(),(),.int .u64 0,.int .u64 0]) (T:=77) (g:=w.heap.size) rfl)
 have B:=hid ((Below.refl w.heap.size w).alloc (Nat.le_refl _) (.cells #[(),(),(),(),(),.int .u64 0,.int .u64 0] 77))
 generalize w.alloc (.cells #[(),(),(),(),(),.int .u64 0,.int .u64 0] 77)=w1 at *
 generalize hK:w.heap.size=R at *
 have HK:=hid hK
 clear hK
 refine(WI.out _).mono ?_
 rintro x w' ⟨rfl,rfl⟩
 exact qJY
 ):P:=h
theorem qJZ{P:Prop}(h:P:=by
 go_enter Tryz.func32,Tryz.ntmps32
 go_wp2_with fail
 have CR:=hid (Ce.made (w:=w) (l:=[(),(),(),(),(),.int .u64 0,.int .u64 0]) (T:=77) (g:=w.heap.size) rfl)
 have B:=hid ((Below.refl w.heap.size w).alloc (Nat.le_refl _) (.cells #[(),(),(),(),(),.int .u64 0,.int .u64 0] 77))
 generalize w.alloc (.cells #[(),(),(),(),(),.int .u64 0,.int .u64 0] 77)=w1 at *
 generalize hK:w.heap.size=R at *
 have HK:=hid hK
 clear hK
 refine(WI.out _).mono ?_
 rintro x w' ⟨rfl,rfl⟩
 go_wp2_with fail
 refine(LK.out _).mono ?_
 rintro x w2 ⟨rfl,hb⟩
 replace B:=hid (B.out.trans (hb.mono (Nat.le_of_lt CR.out.1)))
 replace CR:=hid (CR.out.below hb)
 clear hb
 exact qQR
 ):P:=h
set_option maxRecDepth 100000 in
set_option maxHeartbeats 4000000 in
theorem Bm (n:Int)(w:World):Calls Tryz.prog 32 #[n] w fun x w'=>x =.returned (qu (tV n))∧Below w.heap.size w w':=by
 obtain ⟨k,hk⟩:∃k,k=wi n 1125899906842624:=⟨_,rfl⟩
 have kb:=jE n 1125899906842624 (by omega)
 rw[←hk]at kb
 have WI:=hid (fun w=>c_ (wm n 1125899906842624 w (by omega) (by omega)) hk.symm)
 have LK:=fun w=>re k w
 unfold eO at LK
 replace LK:=hid LK
 unfold tV
 rw[←hk]
 clear hk
 obtain ⟨jN,Ih⟩:=kb
 unfold qu
 have h8:k%8=0∨k%8=1∨k%8=2∨k%8=3∨k%8=4∨k%8=5∨k%8=6∨k%8=7:=by omega
 cases t_:(k/48%29==0)
 all_goals
  rcases h8 with h8 |h8 |h8 |h8 |h8 |h8 |h8 |h8
  ·simp only[mD,rZ,h8,t_,cond_true,cond_false]
   exact qQM
  ·simp only[mD,rZ,h8,t_,cond_true,cond_false]
   exact qQM
  ·simp only[mD,rZ,h8,t_,cond_true,cond_false]
   exact qQM
  ·simp only[mD,rZ,h8,t_,cond_true,cond_false]
   exact qQM
  ·simp only[mD,rZ,h8,t_,cond_true,cond_false]
   exact qQM
  ·simp only[mD,rZ,h8,t_,cond_true,cond_false]
   exact qQM
  ·simp only[mD,rZ,h8,t_,cond_true,cond_false]
   exact qJZ
  simp only[mD,rZ,h8,t_,cond_true,cond_false]
  exact qJZ
def i6 (p:Pl)(K:Int):Prop:=(0≤p.v∧p.v≤K)∧(1≤p.r.e∧p.r.e≤K+1)∧∀i,i<64→(0≤(p.s i).si∧(p.s i).si≤K+1)∧0≤(p.s i).st∧(p.s i).st≤4
theorem i6.pb {p:Pl}{K:Int}(h:i6 p K)(hK:K≤1000000):PB p:=by
 obtain ⟨⟨a,b⟩,⟨c,d⟩,e⟩:=h
 refine⟨⟨by omega,by omega⟩,⟨by omega,by omega⟩,fun i hi=>?_⟩
 obtain ⟨⟨f,g⟩,_⟩:=e i hi
 omega
theorem i6.st {p:Pl}{K:Int}(h:i6 p K):JF p:=fun i hi=>(h.2.2 i hi).2
theorem i6.mono {p:Pl}{K L:Int}(h:i6 p K)(hl:K≤L):i6 p L:=by
 obtain ⟨⟨a,b⟩,⟨c,d⟩,e⟩:=h
 refine⟨⟨a,by omega⟩,⟨c,by omega⟩,fun i hi=>?_⟩
 obtain ⟨⟨f,g⟩,k⟩:=e i hi
 exact⟨⟨f,by omega⟩,k⟩
theorem sc {p:Pl}{e:En}(h:(jY p e).2=0):pu e=0∧oP p e e.s.toNat=0∧(jY p e).1=kP p e:=by
 unfold jY at h ⊢
 by_cases hc:pu e=0
 ·rw[if_pos hc]at h ⊢
  by_cases hr:oP p e e.s.toNat=0
  ·rw[if_pos hr];exact⟨hc,hr,rfl⟩
  rw[if_neg hr]at h;exact absurd h hr
 rw[if_neg hc]at h;exact absurd h hc
theorem Gp {p:Pl}{K:Int}(h:i6 p K)(e:En)(i:Nat)(hi:i<64):(0≤(jX p e i).si∧(jX p e i).si≤K+1)∧0≤(jX p e i).st∧(jX p e i).st≤4:=by
 obtain ⟨⟨a,b⟩,⟨c,d⟩,f⟩:=h
 obtain ⟨⟨f1,f2⟩,f3,f4⟩:=f i hi
 unfold jX
 cases (e.k==1)
 ·cases (e.k==2)
  ·cases (e.k==3)
   ·cases (e.k==4)
    ·cases (e.k==5)
     ·exact⟨⟨f1,f2⟩,f3,f4⟩
     simp only[cond_false,cond_true,iD];omega
    simp only[cond_false,cond_true];omega
   simp only[cond_false,cond_true];omega
  simp only[cond_false,cond_true];omega
 simp only[cond_true];omega
theorem F6 {p:Pl}{K:Int}(h:i6 p K)(e:En)(hs:e.s.toNat<64):i6 (kP p e) (K+1):=by
 have hC:=Gp h e e.s.toNat hs
 obtain ⟨⟨a,b⟩,⟨c,d⟩,f⟩:=h
 unfold kP
 cases (e.k==6)
 ·refine⟨⟨by simp only[cond_false];omega,by simp only[cond_false];omega⟩,⟨by simp only[cond_false];omega,by simp only[cond_false];omega⟩,fun i hi=>?_⟩
  simp only[cond_false,dC]
  by_cases he:i=e.s.toNat
  ·rw[if_pos he];omega
  rw[if_neg he]
  have:=f i hi
  omega
 refine⟨⟨by simp only[cond_true];omega,by simp only[cond_true];omega⟩,⟨by simp only[cond_true];omega,by simp only[cond_true];omega⟩,fun i hi=>?_⟩
 simp only[cond_true]
 have:=f i hi
 omega
theorem Gu {p:Pl}{K:Int}(h:i6 p K){e:En}(h0:(jY p e).2=0):i6 (jY p e).1 (K+1):=by
 obtain ⟨hc,_,h1⟩:=sc h0
 obtain ⟨_,_,s0,s1,_⟩:=vA hc
 rw[h1]
 exact F6 h e (by omega)
def qT (p:Pl)(g:Nat→En):Nat→Option Pl
 |0=>some p
 |k+1=>match qT p g k with
  |none=>none
  |some q=>if (jY q (g k)).2=0 then some (jY q (g k)).1 else none
def pS (p:Pl)(g:Nat→En)(n:Nat)(q:Pl)(k:Nat)(er:Int):Prop:=qT p g k=some q∧(k=n∧er=0∨k<n∧er=(jY q (g k)).2∧er≠0)
def enc (e:En)(k:Nat):Value:=match k with |0=>.int .i64 e.k |1=>.int .i64 e.s |2=>.int .i64 e.a |3=>.int .i64 e.p |4=>.int .i64 e.w |5=>.int .u64 e.y.a | _=>.int .u64 e.y.b
def Se (w:World)(A:Option Addr)(n:Nat)(g:Nat→En):Prop:=Sl w A (n*7) (fun j=>enc (g (j/7)) (j%7))
theorem Se.below {w w':World}{A:Option Addr}{n:Nat}{g:Nat→En}{B:Nat}(h:Se w A n g)(hb:Below B w w')(hB:w.heap.size≤B):Se w' A n g:=Sl.below h hb hB
theorem Se.load {w:World}{b off n:Nat}{g:Nat→En}(h:Se w (some ⟨b,off,none⟩) n g)(k:Nat)(hk:k<n):(Instr.loadAt 77 (.pointer (some ⟨b,off+k*7,none⟩))).run Tryz.prog w =.ok (qu (g k)) w:=by
 refine run_loadAt_mid w b (off+k*7) 77 [(g k).k,(g k).s,(g k).a,(g k).p,(g k).w,.int .u64 (g k).y.a,.int .u64 (g k).y.b] _ (fun j v hj=>?_) Tryz.underlying77 rfl (by kernel_rfl)
 have hl:j<7:=(List.getElem?_eq_some_iff.1 hj).1
 have:=Sl.at_ h (j:=k*7+j) (by omega)
 rw[show (k*7+j)/7=k by omega,show (k*7+j)%7=j by omega]at this
 rw[Nat.add_assoc,this,←hj]
 exact qYJ
theorem mr {l:Nat}{Q:Exit→Act→World→Prop}{a:Act}{w:World}(h:Q .ret a w):Exit.inBlock l Q .ret a w:=h
attribute [local irreducible] PA
end Go.Proofs.YtalnfkijiehjhaaGreat
namespace Go.Proofs.YtalnfkijiehjhaaGreat
set_option linter.unusedVariables false
set_option linter.unusedSimpArgs false
open Go.RowKit Go.ChangeShapes Go.WideShapes Go.ChangeAt
def NU:En:=⟨1,5,3,4,1,fL⟩
def NT:En:=⟨2,5,0,0,0,fL⟩
def kG (j:Nat):En:=if j=0 then NU else NT
def NR:Pl:=⟨2,1,2,dC (dC (fun _=>iD) 5 ⟨1,3,4,1,0⟩) 5 ⟨2,3,4,1,0⟩,⟨1,fL,⟨1,0⟩,⟨2,0⟩⟩⟩
theorem kA:jY NR ⟨5,5,0,0,0,fL⟩=(cm,12):=rfl
attribute [local irreducible] PA
end Go.Proofs.YtalnfkijiehjhaaGreat
namespace Go.Proofs.YtalnfkijiehjhaaGreat
set_option linter.unusedVariables false
set_option linter.unusedSimpArgs false
open Go.RowKit Go.ChangeShapes Go.WideShapes Go.ChangeAt
def SS (W w:World)(L:List (Nat×Pl))(A:Option Addr)(n:Nat)(g:Nat→Int):Prop:=(∀x,x∈L→au w x.1 x.2)∧Is w A n g∧Below W.heap.size W w
section
variable {W w w':World}{L:List (Nat×Pl)}{A:Option Addr}{n:Nat}{g:Nat→Int}
theorem SS.get (h:SS W w L A n g){b:Nat}{p:Pl}(hx:(b,p)∈L):au w b p:=h.1 (b,p) hx
theorem SS.bl (h:SS W w L A n g):Below W.heap.size W w:=h.2.2
theorem SS.row (h:SS W w L A n g):Is w A n g:=h.2.1
theorem SS.below (h:SS W w L A n g)(hb:Below w.heap.size w w'):SS W w' L A n g:=⟨fun x hx=>(h.1 x hx).below hb,Sl.below h.2.1 hb (Nat.le_refl _),h.2.2.trans (hb.mono h.2.2.size)⟩
theorem SS.alloc (h:SS W w L A n g)(o:Obj):SS W (w.alloc o) L A n g:=h.below ((Below.refl _ _).alloc (Nat.le_refl _) o)
theorem SS.drew (h:SS W w L A n g):SS W w.drew L A n g:=⟨fun x hx=>(h.1 x hx).drew,Sl.drew h.2.1,h.2.2.drew⟩
theorem SS.cons (h:SS W w L A n g){b:Nat}{p:Pl}(hp:au w b p):SS W w ((b,p)::L) A n g:=
 ⟨fun x hx=>by rcases List.mem_cons.1 hx with e |hx;(rw[e];exact hp);exact h.1 x hx,h.2.1,h.2.2⟩
theorem SS.less (h:SS W w L A n g){L':List (Nat×Pl)}(hl:∀x,x∈L'→x∈L):SS W w L' A n g:=⟨fun x hx=>h.1 x (hl x hx),h.2.1,h.2.2⟩
theorem Sl.sets {f:Nat→Value}{m:Nat}(h:Sl w A m f){c o:Nat}{vs:List Value}(hc:∀ad,A=some ad→0<m→ad.block≠c):Sl (w.setCells c o vs) A m f:=by
 intro h0
 obtain ⟨b,off,rfl,hlt,hcell⟩:=h h0
 refine⟨b,off,rfl,by rw[size_setCells];exact hlt,fun j hj=>?_⟩
 rw[World.cell?_setCells_out c vs o w ⟨b,off+j,none⟩ (fun e _=>absurd e (hc ⟨b,off,none⟩ rfl h0))]
 exact hcell j hj
theorem SS.sets (h:SS W w L A n g){c o:Nat}{vs:List Value}(hL:∀x,x∈L→c≠x.1)(hA:∀ad,A=some ad→0<n→ad.block<W.heap.size)(hc:W.heap.size≤c):SS W (w.setCells c o vs) L A n g:=
 ⟨fun x hx=>(h.1 x hx).others (hL x hx),Sl.sets h.2.1 (fun ad e h0=>by have:=hA ad e h0;omega),h.2.2.trans (aH c vs o w _ hc)⟩
theorem SS.ne (h:SS W w L A n g):∀x,x∈L→w.heap.size≠x.1:=fun x hx=>Nat.ne_of_gt (h.1 x hx).1
end
theorem H8 {a q:Int}(ha:0≤a∧a≤1000)(hq:0≤q∧q≤1000)(k1 k2:Ky):Aw a q k1 k2=(⟨0,a,q,fun _=>iD,⟨1,fL,k1,k2⟩⟩,0):=by
 have:ku a q=true:=by unfold ku d_;simp;omega
 unfold Aw
 rw[this]
 rfl
theorem F7 (a q:Int)(k1 k2:Ky):i6 ⟨0,a,q,fun _=>iD,⟨1,fL,k1,k2⟩⟩ 0:=⟨(by show ((0:Int)≤0∧(0:Int)≤0);decide),(by show ((1:Int)≤1∧(1:Int)≤0+1);decide),fun i hi=>(by show ((0:Int)≤0∧(0:Int)≤0+1)∧(0:Int)≤0∧(0:Int)≤4;decide)⟩
end Go.Proofs.YtalnfkijiehjhaaGreat
