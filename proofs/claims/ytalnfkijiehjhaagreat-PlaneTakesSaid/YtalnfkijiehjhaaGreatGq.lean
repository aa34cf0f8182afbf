/- Whether an entry fits. Whether an entry is bad. An entry's slot behind it. Why an entry is refused. -/
import Derived.Test.YtalnfkijiehjhaaGreatGa
import Derived.Test.YtalnfkijiehjhaaGreatGf
import Derived.BigQuiet
import Derived.Deep.RegionHeld3
import Derived.Deep.Cut
import Derived.RegionTactic
namespace Go.Proofs.YtalnfkijiehjhaaGreat
set_option linter.unusedVariables false
set_option linter.unusedSimpArgs false
open Go.RowKit Go.ChangeShapes Go.WideShapes Go.ChangeAt
def pd (p:Pl)(e:En)(i:Nat):Bool:=
 bif e.k==1 then ((p.s i).st==0 &&!uu p e.a e.p) else bif (e.k==2 || e.k==4) then ((p.s i).st==1 || (p.s i).st==3) else bif e.k==3 then (p.s i).st==2 else bif e.k==5 then (p.s i).st==4 else true
def oP (p:Pl)(e:En)(i:Nat):Int:=bif !(pd p e i) then 12 else bif (e.k==5&&decide (p.r.e<(p.s i).si+3)) then 13 else 0
def jX (p:Pl)(e:En)(i:Nat):Sp:=
 bif e.k==1 then ⟨1,e.a,e.p,e.w,0⟩ else bif e.k==2 then { p.s i with st:=2 } else bif e.k==3 then { p.s i with st:=3 } else bif e.k==4 then { p.s i with st:=4,si:=p.r.e } else bif e.k==5 then iD else p.s i
theorem qZZ{P:Prop}(h:P:=by
 generalize w.heap.size+1=E at *
 generalize hK:w.heap.size=P at *
 have HK:=hid hK
 clear hK
 have c0:=CX.out.2.1 0 _ rfl
 have c1:=CX.out.2.1 1 _ rfl
 have cst:w1.cell? ⟨P,3+i*5,none⟩=some (.int .i64 (p.s i).st):=P1.out.cs i 0 h64 (by omega)
 go_wp2_with fail
 go_ret
 exact⟨by simp[b1,b3],by rw[HK.out];exact HB.out⟩
 ):P:=h
theorem qXR{P:Prop}(h:P:=by
 generalize w.heap.size+1=E at *
 generalize hK:w.heap.size=P at *
 have HK:=hid hK
 clear hK
 have c0:=CX.out.2.1 0 _ rfl
 have c1:=CX.out.2.1 1 _ rfl
 have cst:w1.cell? ⟨P,3+i*5,none⟩=some (.int .i64 (p.s i).st):=P1.out.cs i 0 h64 (by omega)
 go_wp2_with fail
 go_ret
 exact⟨by simp[b0],by rw[HK.out];exact HB.out⟩
 ):P:=h
set_option maxRecDepth 100000 in
set_option maxHeartbeats 4000000 in
theorem Gt (p:Pl)(e:En)(i:Nat)(hi:e.s=i)(h64:i<64)(hk:1≤e.k∧e.k≤6)(w:World):Calls Tryz.prog 68 #[gG p,qu e] w fun x w'=>x =.returned (.bool (!(pd p e i)))∧Below w.heap.size w w':=by
 obtain ⟨k,s,a,q,m,y1,y2⟩:=e
 simp only at hi hk
 subst hi
 have i0:(0:Int)≤i:=by omega
 have i1:(i:Int)<64:=by omega
 have TK:=hid (fun w=>DK p a q w)
 unfold gG qu
 unfold pd
 simp only
 generalize uu p a q=hb at *
 have h6:k=1∨k=2∨k=3∨k=4∨k=5∨k=6:=by omega
 clear hk
 rcases h6 with rfl |rfl |rfl |rfl |rfl |rfl
 ·cases b0:((p.s i).st==0)
  ·have n1:((p.s i).st != 0) =!((p.s i).st==0):=rfl
   rw[b0]at n1
   go_enter Tryz.func68,Tryz.ntmps68
   go_upto_region 1 with (fail)
   have P1:=hid ((au.made (w:=w) (p:=p) (T:=34) rfl).alloc (.cells #[.int .i64 1,(i:Int),a,q,m,.int .u64 y1,.int .u64 y2] 77))
   have CX:=hid (Ce.made (w:=w.alloc (.cells (PA p) 34)) (l:=[.int .i64 1,(i:Int),a,q,m,.int .u64 y1,.int .u64 y2]) (T:=77) (g:=w.heap.size+1) (by simp))
   have HB:=hid (((Below.refl w.heap.size w).alloc (Nat.le_refl _) (.cells (PA p) 34)).alloc (by simp) (.cells #[.int .i64 1,(i:Int),a,q,m,.int .u64 y1,.int .u64 y2] 77))
   generalize (w.alloc (.cells (PA p) 34)).alloc (.cells #[.int .i64 1,(i:Int),a,q,m,.int .u64 y1,.int .u64 y2] 77)=w1 at *
   exact qXR
  have n1:((p.s i).st != 0) =!((p.s i).st==0):=rfl
  rw[b0]at n1
  go_enter Tryz.func68,Tryz.ntmps68
  go_upto_region 1 with (fail)
  have P1:=hid ((au.made (w:=w) (p:=p) (T:=34) rfl).alloc (.cells #[.int .i64 1,(i:Int),a,q,m,.int .u64 y1,.int .u64 y2] 77))
  have CX:=hid (Ce.made (w:=w.alloc (.cells (PA p) 34)) (l:=[.int .i64 1,(i:Int),a,q,m,.int .u64 y1,.int .u64 y2]) (T:=77) (g:=w.heap.size+1) (by simp))
  have HB:=hid (((Below.refl w.heap.size w).alloc (Nat.le_refl _) (.cells (PA p) 34)).alloc (by simp) (.cells #[.int .i64 1,(i:Int),a,q,m,.int .u64 y1,.int .u64 y2] 77))
  generalize (w.alloc (.cells (PA p) 34)).alloc (.cells #[.int .i64 1,(i:Int),a,q,m,.int .u64 y1,.int .u64 y2] 77)=w1 at *
  generalize w.heap.size+1=E at *
  generalize hK:w.heap.size=P at *
  have HK:=hid hK
  clear hK
  have c0:=CX.out.2.1 0 _ rfl
  have c1:=CX.out.2.1 1 _ rfl
  have c2:=CX.out.2.1 2 _ rfl
  have c3:=CX.out.2.1 3 _ rfl
  have cst:w1.cell? ⟨P,3+i*5,none⟩=some (.int .i64 (p.s i).st):=P1.out.cs i 0 h64 (by omega)
  have LP:=P1.out.load
  go_wp2_with (refine cu rfl rfl rfl LP ?_)
  refine(TK.out _).mono ?_
  rintro x w2 ⟨rfl,hb2⟩
  have HB3:=hid (HB.out.trans (hb2.mono (by have:=HB.out.size;rw[HK.out]at this;exact this)))
  clear hb2 c0 c1 c2 c3 cst LP
  go_wp2_with fail
  go_ret
  exact⟨by simp[b0],by rw[HK.out];exact HB3.out⟩
 ·cases b1:((p.s i).st==1) <;> cases b3:((p.s i).st==3)
  all_goals
   have n1:((p.s i).st != 1) =!((p.s i).st==1):=rfl
   have n3:((p.s i).st != 3) =!((p.s i).st==3):=rfl
   rw[b1]at n1
   rw[b3]at n3
   go_enter Tryz.func68,Tryz.ntmps68
   go_upto_region 1 with (fail)
   have P1:=hid ((au.made (w:=w) (p:=p) (T:=34) rfl).alloc (.cells #[.int .i64 2,(i:Int),a,q,m,.int .u64 y1,.int .u64 y2] 77))
   have CX:=hid (Ce.made (w:=w.alloc (.cells (PA p) 34)) (l:=[.int .i64 2,(i:Int),a,q,m,.int .u64 y1,.int .u64 y2]) (T:=77) (g:=w.heap.size+1) (by simp))
   have HB:=hid (((Below.refl w.heap.size w).alloc (Nat.le_refl _) (.cells (PA p) 34)).alloc (by simp) (.cells #[.int .i64 2,(i:Int),a,q,m,.int .u64 y1,.int .u64 y2] 77))
   generalize (w.alloc (.cells (PA p) 34)).alloc (.cells #[.int .i64 2,(i:Int),a,q,m,.int .u64 y1,.int .u64 y2] 77)=w1 at *
   exact qZZ
 ·cases b0:((p.s i).st==2)
  all_goals
   have n1:((p.s i).st != 2) =!((p.s i).st==2):=rfl
   rw[b0]at n1
   go_enter Tryz.func68,Tryz.ntmps68
   go_upto_region 1 with (fail)
   have P1:=hid ((au.made (w:=w) (p:=p) (T:=34) rfl).alloc (.cells #[.int .i64 3,(i:Int),a,q,m,.int .u64 y1,.int .u64 y2] 77))
   have CX:=hid (Ce.made (w:=w.alloc (.cells (PA p) 34)) (l:=[.int .i64 3,(i:Int),a,q,m,.int .u64 y1,.int .u64 y2]) (T:=77) (g:=w.heap.size+1) (by simp))
   have HB:=hid (((Below.refl w.heap.size w).alloc (Nat.le_refl _) (.cells (PA p) 34)).alloc (by simp) (.cells #[.int .i64 3,(i:Int),a,q,m,.int .u64 y1,.int .u64 y2] 77))
   generalize (w.alloc (.cells (PA p) 34)).alloc (.cells #[.int .i64 3,(i:Int),a,q,m,.int .u64 y1,.int .u64 y2] 77)=w1 at *
   exact qXR
 ·cases b1:((p.s i).st==1) <;> cases b3:((p.s i).st==3)
  all_goals
   have n1:((p.s i).st != 1) =!((p.s i).st==1):=rfl
   have n3:((p.s i).st != 3) =!((p.s i).st==3):=rfl
   rw[b1]at n1
   rw[b3]at n3
   go_enter Tryz.func68,Tryz.ntmps68
   go_upto_region 1 with (fail)
   have P1:=hid ((au.made (w:=w) (p:=p) (T:=34) rfl).alloc (.cells #[.int .i64 4,(i:Int),a,q,m,.int .u64 y1,.int .u64 y2] 77))
   have CX:=hid (Ce.made (w:=w.alloc (.cells (PA p) 34)) (l:=[.int .i64 4,(i:Int),a,q,m,.int .u64 y1,.int .u64 y2]) (T:=77) (g:=w.heap.size+1) (by simp))
   have HB:=hid (((Below.refl w.heap.size w).alloc (Nat.le_refl _) (.cells (PA p) 34)).alloc (by simp) (.cells #[.int .i64 4,(i:Int),a,q,m,.int .u64 y1,.int .u64 y2] 77))
   generalize (w.alloc (.cells (PA p) 34)).alloc (.cells #[.int .i64 4,(i:Int),a,q,m,.int .u64 y1,.int .u64 y2] 77)=w1 at *
   exact qZZ
 ·cases b0:((p.s i).st==4)
  all_goals
   have n1:((p.s i).st != 4) =!((p.s i).st==4):=rfl
   rw[b0]at n1
   go_enter Tryz.func68,Tryz.ntmps68
   go_upto_region 1 with (fail)
   have P1:=hid ((au.made (w:=w) (p:=p) (T:=34) rfl).alloc (.cells #[.int .i64 5,(i:Int),a,q,m,.int .u64 y1,.int .u64 y2] 77))
   have CX:=hid (Ce.made (w:=w.alloc (.cells (PA p) 34)) (l:=[.int .i64 5,(i:Int),a,q,m,.int .u64 y1,.int .u64 y2]) (T:=77) (g:=w.heap.size+1) (by simp))
   have HB:=hid (((Below.refl w.heap.size w).alloc (Nat.le_refl _) (.cells (PA p) 34)).alloc (by simp) (.cells #[.int .i64 5,(i:Int),a,q,m,.int .u64 y1,.int .u64 y2] 77))
   generalize (w.alloc (.cells (PA p) 34)).alloc (.cells #[.int .i64 5,(i:Int),a,q,m,.int .u64 y1,.int .u64 y2] 77)=w1 at *
   exact qXR
 go_enter Tryz.func68,Tryz.ntmps68
 go_upto_region 1 with (fail)
 have P1:=hid ((au.made (w:=w) (p:=p) (T:=34) rfl).alloc (.cells #[.int .i64 6,(i:Int),a,q,m,.int .u64 y1,.int .u64 y2] 77))
 have CX:=hid (Ce.made (w:=w.alloc (.cells (PA p) 34)) (l:=[.int .i64 6,(i:Int),a,q,m,.int .u64 y1,.int .u64 y2]) (T:=77) (g:=w.heap.size+1) (by simp))
 have HB:=hid (((Below.refl w.heap.size w).alloc (Nat.le_refl _) (.cells (PA p) 34)).alloc (by simp) (.cells #[.int .i64 6,(i:Int),a,q,m,.int .u64 y1,.int .u64 y2] 77))
 generalize (w.alloc (.cells (PA p) 34)).alloc (.cells #[.int .i64 6,(i:Int),a,q,m,.int .u64 y1,.int .u64 y2] 77)=w1 at *
 generalize w.heap.size+1=E at *
 generalize hK:w.heap.size=P at *
 have HK:=hid hK
 clear hK
 have c0:=CX.out.2.1 0 _ rfl
 have c1:=CX.out.2.1 1 _ rfl
 have cst:w1.cell? ⟨P,3+i*5,none⟩=some (.int .i64 (p.s i).st):=P1.out.cs i 0 h64 (by omega)
 go_wp2_with fail
 go_ret
 exact⟨rfl,by rw[HK.out];exact HB.out⟩
end Go.Proofs.YtalnfkijiehjhaaGreat
