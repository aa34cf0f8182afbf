/- What a body's sum is of; is a packet whole? Bytes that are written over. Write, Age. Nat. -/
import Derived.Test.YtalnfkijiehjhaaGreatGa
import Derived.Test.YtalnfkijiehjhaaGreatGwb
import Derived.ArgAppend
import Derived.BigQuiet
import Derived.Deep.RegionHeld3
import Derived.Deep.Cut
namespace Go.Proofs.YtalnfkijiehjhaaGreat
open List renaming setIfInBounds_toArray→zA,set_cons_zero→zB,set_cons_succ→zC
set_option linter.unusedVariables false
set_option linter.unusedSimpArgs false
open Go.RowKit Go.ChangeShapes Go.WideShapes Go.ChangeAt
theorem CJ {w:World}(A1:Option Addr)(k:Nat)(f1:Nat→Int)(hr1:By w A1 k f1)(hk:0<k)(A:Option Addr)(m c:Nat)(f2:Nat→Int)(hr:By w A m f2)(hm:0<m)(hsz:k+m≤1000000)(ty:TypeId) :
 ∃A' c' w',(Builtin.append_ #[23,23] ty #[.slice A1 k k,.slice A m c]).run Tryz.prog w =.ok (.slice A' (k+m) c') w'∧OB w' w.heap.size (.slice A' (k+m) c') (k+m) (fun j=>if j<k then f1 j else f2 (j-k))∧w.grownBy w' none:=by
 obtain ⟨i0,hi,hz0,hz1,hz2⟩:=info_parts kj
 obtain ⟨b1,o1,rfl,hl1,hc1⟩:=hr1 hk
 obtain ⟨b2,o2,rfl,hl2,hc2⟩:=hr hm
 have cells:∀(b o q:Nat) (f:Nat→Int),(∀j,j<q→w.cell? ⟨b,o+j,none⟩=some (.int .u8 (f j)))→∀j u,((List.range q).map (fun j=>Value.int .u8 (f j)))[j]? = some u→w.cell? ((⟨b,o,none⟩:Addr).add j)=some u:=by
  intro b o q f hc j u hu
  rcases Nat.lt_or_ge j q with hj |hj
  ·simp[hj]at hu
   subst hu
   rw[add_plain]
   exact hc j hj
  simp[Nat.not_lt.2 hj]at hu
 obtain ⟨v',w',hrun,h2,h3⟩:=run_append_arg_grows (P:=Tryz.prog) w 23 ty 5 i0 (.int .u8 0) 1 1 Tryz.underlying23 hi hz0 hz1 hz2 rfl (by decide) ⟨b1,o1,none⟩ k k
  ((List.range k).map (fun j=>Value.int .u8 (f1 j))) (by simp) (cells b1 o1 k f1 hc1) ⟨b2,o2,none⟩ m c ((List.range m).map (fun j=>Value.int .u8 (f2 j))) (by simp) (cells b2 o2 m f2 hc2) (by omega) (by simp only[maxLen];omega) (by omega)
 have h4:Ow w' w.heap.size 5 1 v' (k+m) (fun j=>.int .u8 (if j<k then f1 j else f2 (j-k))):=by
  unfold Ow
  rw[Nat.mul_one]
  have e:=mw (k*1) (m*1) (fun j=>Value.int .u8 (f1 j)) (fun j=>Value.int .u8 (f2 j))
  rw[Nat.mul_one,Nat.mul_one]at e
  rw[e]at h2
  have e2:two k (fun j=>Value.int .u8 (f1 j)) (fun j=>Value.int .u8 (f2 j))=(fun j=>.int .u8 (if j<k then f1 j else f2 (j-k))):=by funext j;unfold two;split <;> rfl
  rw[e2]at h2
  exact h2
 obtain ⟨A',c',rfl,_,_,_⟩:=h4.aF
 exact⟨A',c',w',hrun,h4,h3⟩
theorem qM {w:World}{o:Oper}{a:Act}{K:Act→World→Prop}{Q:Exit→Act→World→Prop}(s x:Operand)(ho:o.op =.call { callee:=.builtin .append,args:=#[s,x],argTypes:=#[23,23] })
 (A1:Option Addr) (k:Nat) (f1:Nat→Int) (hs:a.eval s =.slice A1 k k) (hr1:By w A1 k f1) (hk:0<k) (A:Option Addr) (m c:Nat) (f2:Nat→Int) (hx:a.eval x =.slice A m c) (hr:By w A m f2) (hm:0<m) (hsz:k+m≤1000000)
 (h:∀A' c' w',OB w' w.heap.size (.slice A' (k+m) c') (k+m) (fun j=>if j<k then f1 j else f2 (j-k))→w.grownBy w' none→K (a.put o.dst (.slice A' (k+m) c')) w'):Oper.wp Tryz.prog o a w K Q:=by
 obtain ⟨A',c',w',hrun,h4,h3⟩:=CJ A1 k f1 hr1 hk A m c f2 hr hm hsz o.type
 unfold Oper.wp execOp
 simp only[ho,resolve,invoke,builtin,Sem.run_bind,Sem.run_pure,Result.andThen_ok,List.map_toArray,List.map_cons,List.map_nil,hs,hx,hrun]
 exact h A' c' w' h4 h3
theorem fJ {w w':World}(h:w.grownBy w' none):Below w.heap.size w w':=⟨h.os,h.tape,h.output,h.size,fun k hk=>h.block k hk (by simp)⟩
theorem Jn {w:World}{b:Nat}{x0 x1 x2 x3:Int}(h:Ce w b [.int .u8 x0,.int .u8 x1,.int .u8 x2,.int .u8 x3]):By w (some ⟨b,0,none⟩) 4 (fun j=>if j=0 then x0 else if j=1 then x1 else if j=2 then x2 else x3):=by
 intro _
 refine⟨b,0,rfl,h.1,fun j hj=>?_⟩
 rw[Nat.zero_add]
 match j,hj with
 |0,_=>exact h.2.1 0 _ rfl
 |1,_=>exact h.2.1 1 _ rfl
 |2,_=>exact h.2.1 2 _ rfl
 |3,_=>exact h.2.1 3 _ rfl
def JE (w:World)(g:Nat→Int)(n:Nat)(e:Ending)(w':World):Prop:=∃A' c',e =.returned (.slice A' (eg g n) c')∧By w' A' (eg g n) (eQ g n)∧Below w.heap.size w w'
set_option maxHeartbeats 4000000 in
theorem ry (A:Option Addr)(n c:Nat)(g:Nat→Int)(w:World)(h:By w A n g)(hg:aC g)(hn:24≤n)(hc:n≤c)(hb:n≤1500) :
 Calls Tryz.prog 154 #[.slice A n c] w (JE w g n):=by
 have HB:=hid h
 have HG:=hid hg
 obtain ⟨b,off,rfl,hblt,hcell⟩:=h (by omega)
 have c0:=hcell 0 (by omega)
 rw[Nat.add_zero]at c0
 have i0:(0:Int)<n:=by omega
 have vn:IntKind.i64.wrap ((n:Int)-16)=(n:Int)-16:=IntWalk.i64_in _ (by omega)
 clear hcell h hg
 have HC:=hid (Ce.made (w:=w) (l:=[.int .u8 0,.int .u8 (g 0),.int .u8 (((n:Int)-16)/256),.int .u8 (((n:Int)-16)%256)]) (T:=237) (g:=w.heap.size) rfl)
 have HB1:=hid (HB.out.below ((Below.refl w.heap.size w).alloc (Nat.le_refl _) (.cells #[.int .u8 0,.int .u8 (g 0),.int .u8 (((n:Int)-16)/256),.int .u8 (((n:Int)-16)%256)] 237)) (Nat.le_refl _))
 have HW1:=hid ((Below.refl w.heap.size w).alloc (Nat.le_refl _) (.cells #[.int .u8 0,.int .u8 (g 0),.int .u8 (((n:Int)-16)/256),.int .u8 (((n:Int)-16)%256)] 237))
 simp only[List.toArray]at HC
 have HR:=hid (Jn HC.out)
 have lW:=HC.out.1
 have hE:Hid ((fun j=>if j=0 then (0:Int) else if j=1 then g 0 else if j=2 then ((n:Int)-16)/256 else ((n:Int)-16)%256)=ie g n):=hid (by funext j;unfold ie;rw[qf,qe,show ((n:Int)-16)/256%256=((n:Int)-16)/256 from by omega])
 rw[hE.out]at HR
 clear hE HC
 have hal:Tryz.prog.arrayLen 237=4:=by kernel_rfl
 cases b3:(g 0==3)
 ·have k3:¬g 0=3:=by simpa using b3
  have HN:Hid (eg g n=12+(n-16)):=hid (by unfold eg;rw[if_neg k3];omega)
  have HF:Hid (eQ g n=fun j=>if j<12 then (if j<8 then g (4+j) else ie g n (j-8)) else g (16+(j-12))):=hid (by
   funext j;unfold eQ;rw[if_neg k3]
   by_cases h1:j<8
   ·rw[if_pos h1,if_pos (by omega),if_pos h1]
   rw[if_neg h1]
   by_cases h2:j<12
   ·rw[if_pos h2,if_pos h2,if_neg h1]
   rw[if_neg h2,if_neg h2,show 16+(j-12)=4+j from by omega])
  obtain ⟨A9,r1,r2⟩:=eA (some ⟨b,off,none⟩) n c 16 (by omega) hc 16 rfl
  replace r2:=hid r2
  have hk:¬c=4:=by omega
  have hsl:∀W,(Instr.slice 23 (.slice (some ⟨b,off,none⟩) n c) (some (.int .i64 4)) (some (.int .i64 12)) (some (.int .i64 12))).run Tryz.prog W =.ok (.slice (some ⟨b,off+4,none⟩) 8 8) W:=fun W=>by
   rw[run_slice_lhm W 23 _ n c jU .i64 .i64 .i64 _ _ _ (by omega) (by omega) (by omega) (by omega),jF W]
   simp[Result.andThen,sliced,Addr.add]
  have Po:=hid (fun (W:World) (hW:By W (some ⟨b,off,none⟩) n g)=>(show By W (some ⟨b,off+4,none⟩) 8 (fun j=>g (4+j)) from Sl.cut hW 8 (by omega)))
  clear k3
  go_enter Tryz.func154,Tryz.ntmps154
  go_upto_region 5 with (fail)
  generalize (w.alloc (.cells #[.int .u8 0,.int .u8 (g 0),.int .u8 (((n:Int)-16)/256),.int .u8 (((n:Int)-16)%256)] 237))=w1 at *
  have hwz:w.heap.size≤w1.heap.size:=HW1.out.size
  refine wp_region_held_drew (S:=fun w'=>By w' (some ⟨b,off,none⟩) n g) (by kernel_rfl) ?_ (fun hHeld=>?_)
  ·exact HB1.out.drew
  refine ae 0 hHeld ?_
  refine ae 1 hHeld ?_
  refine ae 2 hHeld ?_
  refine only 3 rfl (by kernel_rfl) rfl (fun K hK=>?_)
  refine qM (.tmp 27) (.tmp 28) rfl _ 8 _ rfl (Po.out _ hHeld) (by omega) _ 4 _ (ie g n) rfl HR.out.drew (by omega) (by omega) ?_
  intro A2 c2 w2 O2 g2
  refine hK.out _ _ (Sl.below hHeld (fJ g2) (Nat.le_refl _)) (fun _=>?_)
  have HB2:=hid (Sl.below hHeld (fJ g2) (Nat.le_refl _))
  have HW2:=hid (HW1.out.trans ((show Below w1.heap.size w1 w2 from fJ (fe g2)).mono hwz))
  have bQ:=hid O2
  have hz2:w1.heap.size≤w2.heap.size:=(show Below w1.heap.size w1 w2 from fJ (fe g2)).size
  clear hK O2 g2 hHeld HB1 HW1
  try simp only[Act.put,zA,zB,zC]
  refine ae 4 (by assumption) ?_
  refine wpAnyH_done (by kernel_rfl) ?_ _
  go_wp2_with (at_builtin;refine dM rfl (.tmp 30) (.tmp 32) rfl w1.heap.size _ 12 _ rfl bQ.out _ (n-16) _ (fun j=>g (16+j)) rfl (r2.out _ g HB2.out) (by omega) (by simpa using hz2) ?_;intro A3 c3 w3 h1 h2 h3 h4 h5 h6;have O3:=hid h1;have B3:=hid h4;clear h1 h2 h3 h4 h5 h6)
  go_ret
  refine⟨A3,c3,by rw[HN.out];rfl,?_,HW2.out.trans (B3.out.mono hwz)⟩
  rw[HN.out,HF.out]
  exact O3.out.sl1
 have k3:g 0=3:=by simpa using b3
 have HN:Hid (eg g n=4+(n-16)):=hid (by unfold eg;rw[if_pos k3];omega)
 have HF:Hid (eQ g n=fun j=>if j<4 then ie g n j else g (16+(j-4))):=hid (by
  funext j;unfold eQ;rw[if_pos k3]
  by_cases h1:j<4
  ·rw[if_pos h1,if_pos h1]
  rw[if_neg h1,if_neg h1,show 16+(j-4)=12+j from by omega])
 obtain ⟨A9,r1,r2⟩:=eA (some ⟨b,off,none⟩) n c 16 (by omega) hc 16 rfl
 replace r2:=hid r2
 clear k3
 go_enter Tryz.func154,Tryz.ntmps154
 go_upto_region 4 with (fail)
 generalize (w.alloc (.cells #[.int .u8 0,.int .u8 (g 0),.int .u8 (((n:Int)-16)/256),.int .u8 (((n:Int)-16)%256)] 237))=w1 at *
 have hwz:w.heap.size≤w1.heap.size:=HW1.out.size
 refine wp_region_held_drew (S:=fun w'=>By w' (some ⟨b,off,none⟩) n g) (by kernel_rfl) ?_ (fun hHeld=>?_)
 ·exact HB1.out.drew
 refine ae 0 hHeld ?_
 refine ae 1 hHeld ?_
 refine ae 2 hHeld ?_
 refine only 3 rfl (by kernel_rfl) rfl (fun K hK=>?_)
 refine qM (.tmp 22) (.tmp 24) rfl _ 4 _ rfl HR.out.drew (by omega) _ (n-16) _ (fun j=>g (16+j)) rfl (r2.out _ g hHeld) (by omega) (by omega) ?_
 intro A2 c2 w2 O2 g2
 refine hK.out _ _ (Sl.below hHeld (fJ g2) (Nat.le_refl _)) (fun _=>?_)
 have HW2:=hid (HW1.out.trans ((show Below w1.heap.size w1 w2 from fJ (fe g2)).mono hwz))
 have bQ:=hid O2
 clear hK O2 g2 hHeld HB1 HW1
 try simp only[Act.put,zA,zB,zC]
 refine ae 4 (by assumption) ?_
 refine wpAnyH_done (by kernel_rfl) ?_ _
 go_wp2_with fail
 go_ret
 refine⟨A2,c2,by rw[HN.out];rfl,?_,HW2.out⟩
 rw[HN.out,HF.out]
 exact bQ.out.sl1
theorem MI {w:World}{g:Nat→Int}{n:Nat}(hb:n≤1500)(hn:16≤n):OB (w.alloc (.cells #[.int .u8 0,.int .u8 (g 0),.int .u8 (((n:Int)-16)/256),.int .u8 (((n:Int)-16)%256)] 5)) w.heap.size (.slice (some ⟨w.heap.size,0,none⟩) 4 4) 4 (ie g n):=by
 refine OB.of_cells (Nat.le_refl _) (by simp only[maxLen];omega) ?_
 rw[heap_alloc_new]
 have e:((List.range 4).map (fun j=>Value.int .u8 (ie g n j))) =[.int .u8 0,.int .u8 (g 0),.int .u8 (((n:Int)-16)/256),.int .u8 (((n:Int)-16)%256)]:=by
  show [Value.int .u8 (ie g n 0),.int .u8 (ie g n 1),.int .u8 (ie g n 2),.int .u8 (ie g n 3)]=_
  simp only[ie,qf,qe,show ((n:Int)-16)/256%256=((n:Int)-16)/256 from by omega,if_true,if_neg (show ¬(1:Nat)=0 from by omega),if_neg (show ¬(2:Nat)=0 from by omega),if_neg (show ¬(2:Nat)=1 from by omega),if_neg (show ¬(3:Nat)=0 from by omega),if_neg (show ¬(3:Nat)=1 from by omega),if_neg (show ¬(3:Nat)=2 from by omega)]
 rw[e]
set_option maxHeartbeats 4000000 in
theorem mN (A:Option Addr)(n c:Nat)(g:Nat→Int)(w:World)(h:By w A n g)(hg:aC g)(hn:24≤n)(hc:n≤c)(hb:n≤1500) :
 Calls Tryz.prog 59 #[.slice A n c] w (JE w g n):=by
 have HB:=hid h
 have HG:=hid hg
 obtain ⟨b,off,rfl,hblt,hcell⟩:=h (by omega)
 have c0:=hcell 0 (by omega)
 rw[Nat.add_zero]at c0
 have i0:(0:Int)<n:=by omega
 have vn:IntKind.i64.wrap ((n:Int)-16)=(n:Int)-16:=IntWalk.i64_in _ (by omega)
 clear hcell h hg
 have HR:=hid (MI (w:=w) (g:=g) hb (by omega))
 have HB1:=hid (HB.out.below ((Below.refl w.heap.size w).alloc (Nat.le_refl _) (.cells #[.int .u8 0,.int .u8 (g 0),.int .u8 (((n:Int)-16)/256),.int .u8 (((n:Int)-16)%256)] 5)) (Nat.le_refl _))
 have HW1:=hid ((Below.refl w.heap.size w).alloc (Nat.le_refl _) (.cells #[.int .u8 0,.int .u8 (g 0),.int .u8 (((n:Int)-16)/256),.int .u8 (((n:Int)-16)%256)] 5))
 obtain ⟨A9,r1,r2⟩:=eA (some ⟨b,off,none⟩) n c 16 (by omega) hc 16 rfl
 replace r2:=hid r2
 cases b3:(g 0 != 3)
 ·have k3:g 0=3:=by simpa using b3
  have HN:Hid (eg g n=4+(n-16)):=hid (by unfold eg;rw[if_pos k3];omega)
  have HF:Hid (eQ g n=fun j=>if j<4 then ie g n j else g (16+(j-4))):=hid (by
   funext j;unfold eQ;rw[if_pos k3]
   by_cases h1:j<4
   ·rw[if_pos h1,if_pos h1]
   rw[if_neg h1,if_neg h1,show 16+(j-4)=12+j from by omega])
  clear k3
  go_enter Tryz.func59,Tryz.ntmps59
  go_upto_region 5 with (fail)
  generalize (w.alloc (.cells #[.int .u8 0,.int .u8 (g 0),.int .u8 (((n:Int)-16)/256),.int .u8 (((n:Int)-16)%256)] 5))=w1 at *
  go_wp2_with (at_builtin;refine dM rfl (.tmp 27) (.tmp 29) rfl w.heap.size _ 4 _ rfl HR.out _ (n-16) _ (fun j=>g (16+j)) rfl (r2.out _ g HB1.out) (by omega) HW1.out.size ?_;intro A3 c3 w3 h1 h2 h3 h4 h5 h6;have O3:=hid h1;have B3:=hid (HW1.out.trans h4);clear h1 h2 h3 h4 h5 h6)
  go_ret
  refine⟨A3,c3,by rw[HN.out];rfl,?_,B3.out⟩
  rw[HN.out,HF.out]
  exact O3.out.sl1
 have k3:¬g 0=3:=by simpa using b3
 have HN:Hid (eg g n=12+(n-16)):=hid (by unfold eg;rw[if_neg k3];omega)
 have HF:Hid (eQ g n=fun j=>if j<12 then (if j<8 then g (4+j) else ie g n (j-8)) else g (16+(j-12))):=hid (by
  funext j;unfold eQ;rw[if_neg k3]
  by_cases h1:j<8
  ·rw[if_pos h1,if_pos (by omega),if_pos h1]
  rw[if_neg h1]
  by_cases h2:j<12
  ·rw[if_pos h2,if_pos h2,if_neg h1]
  rw[if_neg h2,if_neg h2,show 16+(j-12)=4+j from by omega])
 obtain ⟨A8,s1,s2⟩:=iK (some ⟨b,off,none⟩) n c 4 12 (by omega) (by omega) hc 4 12 rfl rfl
 replace s2:=hid s2
 clear k3
 go_enter Tryz.func59,Tryz.ntmps59
 go_upto_region 4 with (fail)
 generalize (w.alloc (.cells #[.int .u8 0,.int .u8 (g 0),.int .u8 (((n:Int)-16)/256),.int .u8 (((n:Int)-16)%256)] 5))=w1 at *
 go_wp2_with (first
  | (at_builtin;refine eK rfl (.tmp 21) (.tmp 23) rfl w1.heap.size _ rfl (fun f=>Ow.new' (w:=w1) rfl) _ 8 _ (fun j=>g (4+j)) rfl (Sl.alloc (s2.out _ g HB1.out) _) (by omega) (by simp) ?_;intro A2 c2 w2 h1 h2 h3 h4 h5 h6;have O2:=hid h1;have B2:=hid (Below.trans ((Below.refl w1.heap.size w1).alloc (Nat.le_refl _) (.cells #[] 5)) h4);clear h1 h2 h3 h4 h5 h6)
  | (at_builtin;refine dM rfl (.tmp 24) (.tmp 25) rfl w1.heap.size _ 8 _ rfl O2.out _ 4 _ (ie g n) rfl (Sl.below HR.out.sl1 B2.out (Nat.le_refl _)) (by omega) B2.out.size ?_;intro A4 c4 w4 h1 h2 h3 h4 h5 h6;have O4:=hid h1;have B4:=hid (B2.out.trans h4);clear h1 h2 h3 h4 h5 h6)
  | (at_builtin;refine dM rfl (.tmp 27) (.tmp 29) rfl w1.heap.size _ 12 _ rfl O4.out _ (n-16) _ (fun j=>g (16+j)) rfl (r2.out _ g (Sl.below HB1.out B4.out (Nat.le_refl _))) (by omega) B4.out.size ?_;intro A3 c3 w3 h1 h2 h3 h4 h5 h6;have O3:=hid h1;have B3:=hid (B4.out.trans h4);clear h1 h2 h3 h4 h5 h6))
 go_ret
 refine⟨A3,c3,by rw[HN.out];rfl,?_,HW1.out.trans (B3.out.mono HW1.out.size)⟩
 rw[HN.out,HF.out]
 exact O3.out.sl1
theorem wH {g:Nat→Int}{n:Nat}(h:az g n=0):(ax g n).bare=du g:=by
 unfold ax
 rw[if_pos h]
 unfold eY du
 split
 ·rename_i k;rw[k];rfl
 split
 ·rename_i k;rw[k];rfl
 rename_i k;rw[show (g 0==2)=false from by simpa using k];rfl
theorem and_even (a:Nat):a &&& 18446744073709551614=(a-a%2)%18446744073709551616:=by
 apply Nat.eq_of_testBit_eq
 intro i
 rw[Nat.testBit_and,show a-a%2=2*(a/2) from by omega,show (18446744073709551614:Nat)=2*(2^63-1) from by decide,show (18446744073709551616:Nat)=2^64 from by decide,Nat.testBit_mod_two_pow]
 cases i with
 |zero=>simp[Nat.testBit_zero]
 |succ i=>
  rw[Nat.testBit_succ,Nat.testBit_succ,Nat.testBit_succ,Nat.mul_div_cancel_left _ (by decide),Nat.mul_div_cancel_left _ (by decide),Nat.testBit_two_pow_sub_one,Bool.and_comm]
  by_cases h:i<63
  ·simp[h,show i+1<64 from by omega]
  simp[h,show ¬i+1<64 from by omega]
theorem yN (a:Nat)(h:a≤1000000):bits .andNot .i64 (a:Int) 1=((a-a%2:Nat):Int):=by
 show IntKind.i64.wrap ((BitVec.ofInt 64 (a:Int) &&& ~~~ BitVec.ofInt 64 1).toNat:Int)=_
 rw[BitVec.toNat_and,BitVec.ofInt_natCast,BitVec.toNat_ofNat,show (~~~ (BitVec.ofInt 64 1)).toNat=18446744073709551614 from by decide,and_even,Nat.mod_eq_of_lt (show a<2^64 from by omega),Nat.mod_eq_of_lt (by omega),IntKind.wrap_i64]
 omega
theorem fB (s L:Nat)(g:Nat→Int):∀(k i:Nat) (x:Nat→Int),bh s L g (aQ s L g k i x) (i+2*k)=aQ s L g (k+1) i x
 |0,i,x=>rfl
 |k+1,i,x=>by
  show bh s L g (aQ s L g k (i+2) (bh s L g x i)) (i+2*(k+1))=aQ s L g (k+1) (i+2) (bh s L g x i)
  rw[show i+2*(k+1)=i+2+2*k from by omega]
  exact fB s L g k (i+2) _
theorem gC (g:Nat→Int):16≤a_ (g 0)∧a_ (g 0)≤22:=by have:=sH (g 0);omega
set_option maxHeartbeats 4000000 in
theorem iF {w:World}{B G L c cb b off:Nat}{x g:Nat→Int}(O:OB w B (.slice (some ⟨G,0,none⟩) L c) L x)(hx:aC x)(h:By w (some ⟨b,off,none⟩) L g)(hne:b≠G)(hg:aC g)(hc:L≤c)(hcb:L≤cb)(hL:L≤1000000)(hL0:24≤L)(a m:Nat)(hm:a+m≤L) :
 Calls Tryz.prog 157 #[(.slice (some ⟨G,0,none⟩) L c),.slice (some ⟨b,off,none⟩) L cb,a,m] w fun e w'=>e =.returned (.tuple #[])∧OB w' B (.slice (some ⟨G,0,none⟩) L c) L (aQ (a_ (g 0)) L g ((m+a%2+1)/2) (a-a%2) x)∧w.grownBy w' (some G):=by
 have oq:=yN a (by omega)
 have q1:IntKind.i64.wrap ((a:Int)+m)=(a:Int)+m:=IntWalk.i64_in _ (by omega)
 obtain ⟨a0,ha0⟩:∃a0,a0=a-a%2:=⟨_,rfl⟩
 rw[←ha0]at oq ⊢
 have A0:=hid ha0
 obtain ⟨K,hK⟩:∃K,K=(m+a%2+1)/2:=⟨_,rfl⟩
 rw[←hK]
 have KK:=hid hK
 have tf:a0≤a:=by omega
 clear ha0 hK
 have HY:=hid h
 have HG:=hid hg
 have HX:=hid hx
 have SA:=hid (fun (W:World) (hW:By W (some ⟨b,off,none⟩) L g)=>jk (some ⟨b,off,none⟩) L cb g W hW (by omega))
 have PG:=hid (fun (W:World) (i:Nat) (hi:i<L) (hW:By W (some ⟨b,off,none⟩) L g)=>fj (some ⟨b,off,none⟩) L cb g W hW hg i hi hcb hL)
 have sl:=gC g
 obtain ⟨s,hs⟩:∃s,s=a_ (g 0):=⟨_,rfl⟩
 rw[←hs]at SA sl ⊢
 clear hs h hg hx
 go_enter Tryz.func157,Tryz.ntmps157
 go_wp2_with fail
 go_loopw [8] (fun i wr=>∃k:Nat,k≤K∧i =.int .i64 ((a0+2*k:Nat):Int)∧OB wr B (.slice (some ⟨G,0,none⟩) L c) L (aQ s L g k a0 x)∧w.grownBy wr (some G)) (fun i _=>(a+m+2)-(intOf i).toNat)
 case atStart=>exact⟨0,by omega,rfl,O,World.grownBy.refl _ _⟩
 obtain ⟨k,hk,rfl,ho,hgr⟩:=hrel
 obtain ⟨i,hi⟩:∃i,i=a0+2*k:=⟨_,rfl⟩
 rw[←hi]
 have HI:=hid hi
 have HO:=hid ho
 have HR:=hid hgr
 have dG:k<K↔i<a+m:=by have:=A0.out;have:=KK.out;omega
 clear hi ho hgr O
 by_cases hlt:i<a+m
 ·have i1:(i:Int)<(a:Int)+m:=by omega
  have i2:i<L:=by omega
  have i3:IntKind.i64.wrap ((i:Int)+2)=(i:Int)+2:=IntWalk.i64_in _ (by omega)
  have HB:=hid (cJ (s:=s) (L:=L) (g:=g) k a0 x HX.out)
  have kl:=dG.2 hlt
  have HW:=hid (bT HY.out HR.out hne)
  have bx:=dh HB.out L i
  have bg:=dh HG.out L i
  have PO:=hid (fj (some ⟨G,0,none⟩) L c (aQ s L g k a0 x) wr HO.out.sl1 HB.out i i2 hc hL)
  have TU:=hid (ml HO.out HB.out s (by omega) hc hL (aL g L i) (aL (aQ s L g k a0 x) L i) bg.1 bg.2 bx.1 bx.2)
  clear dG bx bg hlt
  go_wp2_with fail
  refine(SA.out _ HW.out).mono ?_
  rintro e w' ⟨rfl,rfl⟩
  go_wp2_with fail
  refine(PG.out _ i i2 HW.out).mono ?_
  rintro e w' ⟨rfl,rfl⟩
  go_wp2_with fail
  refine PO.out.mono ?_
  rintro e w' ⟨rfl,rfl⟩
  go_wp2_with fail
  refine TU.out.mono ?_
  rintro e w2 ⟨rfl,ho2,hg2⟩
  have bQ:=hid ho2
  have HR2:=hid (HR.out.trans hg2)
  clear ho2 hg2
  go_wp2_with fail
  go_roundw
  case rel=>
   refine⟨k+1,kl,by rw[HI.out];go_num,?_,HR2.out⟩
   have e:=fB s L g k a0 x
   rw[←e,←HI.out]
   exact bQ.out
  simp[intOf];omega
 have i1:¬(i:Int)<(a:Int)+m:=by omega
 have kk:k=K:=by omega
 subst kk
 clear dG hlt
 go_wp2_with fail
 go_end0
 exact⟨rfl,HO.out,HR.out⟩
theorem qZD{P:Prop}(h:P:=by
 go_wp2_with fail
 refine(IR.out _).mono ?_
 rintro e w' ⟨rfl,rfl⟩
 go_wp2_with fail
 go_ret
 exact⟨cT (by rw[HM.out];rfl),rfl⟩
 ):P:=h
theorem qZQ{P:Prop}(h:P:=by
 go_enter Tryz.func156,Tryz.ntmps156
 go_wp2_with fail
 refine(IR.out _).mono ?_
 rintro e w' ⟨rfl,rfl⟩
 go_wp2_with fail
 go_ret
 exact⟨cT (by rw[HM.out,d1];rfl),rfl⟩
 ):P:=h
theorem qX8{P:Prop}(h:P:=by
 go_enter Tryz.func156,Tryz.ntmps156
 go_wp2_with fail
 refine(IR.out _).mono ?_
 rintro e w' ⟨rfl,rfl⟩
 go_wp2_with fail
 go_ret
 exact⟨cT (by rw[HM.out,d1,d2];rfl),rfl⟩
 ):P:=h
theorem qXI{P:Prop}(h:P:=by
 go_enter Tryz.func156,Tryz.ntmps156
 go_wp2_with fail
 refine(IR.out _).mono ?_
 rintro e w' ⟨rfl,rfl⟩
 go_wp2_with fail
 refine SA.out.mono ?_
 rintro e w' ⟨rfl,rfl⟩
 go_wp2_with fail
 go_ret
 exact⟨cT (by rw[HM.out,d1,d2,d3];rfl),rfl⟩
 ):P:=h
theorem qXG{P:Prop}(h:P:=by
 go_enter Tryz.func156,Tryz.ntmps156
 go_wp2_with fail
 refine(IR.out _).mono ?_
 rintro e w' ⟨rfl,rfl⟩
 go_wp2_with fail
 refine SA.out.mono ?_
 rintro e w' ⟨rfl,rfl⟩
 go_wp2_with fail
 refine SA.out.mono ?_
 rintro e w' ⟨rfl,rfl⟩
 go_wp2_with fail
 go_ret
 exact⟨cT (by rw[HM.out,d1,d2,d3,d4];rfl),rfl⟩
 ):P:=h
set_option maxHeartbeats 4000000 in
theorem Dv (A:Option Addr)(L c:Nat)(g:Nat→Int)(w:World)(h:By w A L g)(hL0:24≤L)(hL:L≤1500)(a v:Int)(ra: -9223372036854775808≤a∧a≤9223372036854775807) :
 Calls Tryz.prog 156 #[.slice A L c,a,.int .i64 1,v] w fun e w'=>e =.returned (.bool (di g L a 1 v))∧w=w':=by
 have SA:=hid (jk A L c g w h (by omega))
 have sl:=gC g
 have HM:Hid (di g L a 1 v=(cW v 255 &&!decide (a<16) &&!decide ((L:Int)-1<a)&&(decide (a+1≤(a_ (g 0):Int)) || decide ((a_ (g 0):Int)+2≤a)))):=hid (by
  rw[Bool.eq_iff_iff]
  unfold di cW
  simp only[Bool.and_eq_true,Bool.or_eq_true,decide_eq_true_eq,beq_iff_eq,Bool.not_eq_true',decide_eq_false_iff_not]
  constructor
  ·rintro ⟨⟨⟨⟨h1,h2⟩,h3⟩,h4⟩,h5⟩
   refine⟨⟨⟨?_,by omega⟩,by omega⟩,h5⟩
   omega
  rintro ⟨⟨⟨h1,h3⟩,h4⟩,h5⟩
  refine⟨⟨⟨⟨?_,by omega⟩,by omega⟩,by omega⟩,h5⟩
  simp
  omega)
 obtain ⟨s,hs⟩:∃s,s=a_ (g 0):=⟨_,rfl⟩
 rw[←hs]at SA sl HM
 have q1:IntKind.i64.wrap ((s:Int)+2)=(s:Int)+2:=IntWalk.i64_in _ (by omega)
 have IR:=hid (dH v 255)
 clear hs h
 obtain ⟨r,hr⟩:∃r,r=cW v 255:=⟨_,rfl⟩
 rw[←hr]at IR HM
 clear hr
 cases r
 ·go_enter Tryz.func156,Tryz.ntmps156
  exact qZD
 cases d1:decide (a<16)
 ·have e1:16≤a:=by simpa using d1
  cases d2:decide ((L:Int)-1<a)
  ·have e2:a≤(L:Int)-1:=by simpa using d2
   have q2:IntKind.i64.wrap (a+1)=a+1:=IntWalk.i64_in _ (by omega)
   cases d3:decide (a+1≤(s:Int))
   ·cases d4:decide ((s:Int)+2≤a)
    all_goals
     exact qXG
   exact qXI
  exact qX8
 exact qZQ
set_option maxHeartbeats 4000000 in
theorem Du (A:Option Addr)(L c:Nat)(g:Nat→Int)(w:World)(h:By w A L g)(hL0:24≤L)(hL:L≤1500)(a v:Int)(ra: -9223372036854775808≤a∧a≤9223372036854775807) :
 Calls Tryz.prog 156 #[.slice A L c,a,.int .i64 2,v] w fun e w'=>e =.returned (.bool (di g L a 2 v))∧w=w':=by
 have SA:=hid (jk A L c g w h (by omega))
 have sl:=gC g
 have HM:Hid (di g L a 2 v=(cW v 65535 &&!decide (a<16) &&!decide ((L:Int)-2<a)&&(decide (a+2≤(a_ (g 0):Int)) || decide ((a_ (g 0):Int)+2≤a)))):=hid (by
  rw[Bool.eq_iff_iff]
  unfold di cW
  simp only[Bool.and_eq_true,Bool.or_eq_true,decide_eq_true_eq,beq_iff_eq,Bool.not_eq_true',decide_eq_false_iff_not]
  constructor
  ·rintro ⟨⟨⟨⟨h1,h2⟩,h3⟩,h4⟩,h5⟩
   refine⟨⟨⟨?_,by omega⟩,by omega⟩,h5⟩
   omega
  rintro ⟨⟨⟨h1,h3⟩,h4⟩,h5⟩
  refine⟨⟨⟨⟨?_,by omega⟩,by omega⟩,by omega⟩,h5⟩
  simp
  omega)
 obtain ⟨s,hs⟩:∃s,s=a_ (g 0):=⟨_,rfl⟩
 rw[←hs]at SA sl HM
 have q1:IntKind.i64.wrap ((s:Int)+2)=(s:Int)+2:=IntWalk.i64_in _ (by omega)
 have IR:=hid (dH v 65535)
 clear hs h
 obtain ⟨r,hr⟩:∃r,r=cW v 65535:=⟨_,rfl⟩
 rw[←hr]at IR HM
 clear hr
 cases r
 ·go_enter Tryz.func156,Tryz.ntmps156
  exact qZD
 cases d1:decide (a<16)
 ·have e1:16≤a:=by simpa using d1
  cases d2:decide ((L:Int)-2<a)
  ·have e2:a≤(L:Int)-2:=by simpa using d2
   have q2:IntKind.i64.wrap (a+2)=a+2:=IntWalk.i64_in _ (by omega)
   cases d3:decide (a+2≤(s:Int))
   ·cases d4:decide ((s:Int)+2≤a)
    all_goals
     exact qXG
   exact qXI
  exact qX8
 exact qZQ
set_option maxHeartbeats 4000000 in
theorem Dt (A:Option Addr)(L c:Nat)(g:Nat→Int)(w:World)(h:By w A L g)(hL0:24≤L)(hL:L≤1500)(a v:Int)(ra: -9223372036854775808≤a∧a≤9223372036854775807) :
 Calls Tryz.prog 156 #[.slice A L c,a,.int .i64 4,v] w fun e w'=>e =.returned (.bool (di g L a 4 v))∧w=w':=by
 have SA:=hid (jk A L c g w h (by omega))
 have sl:=gC g
 have HM:Hid (di g L a 4 v=(cW v 4294967295 &&!decide (a<16) &&!decide ((L:Int)-4<a)&&(decide (a+4≤(a_ (g 0):Int)) || decide ((a_ (g 0):Int)+2≤a)))):=hid (by
  rw[Bool.eq_iff_iff]
  unfold di cW
  simp only[Bool.and_eq_true,Bool.or_eq_true,decide_eq_true_eq,beq_iff_eq,Bool.not_eq_true',decide_eq_false_iff_not]
  constructor
  ·rintro ⟨⟨⟨⟨h1,h2⟩,h3⟩,h4⟩,h5⟩
   refine⟨⟨⟨?_,by omega⟩,by omega⟩,h5⟩
   omega
  rintro ⟨⟨⟨h1,h3⟩,h4⟩,h5⟩
  refine⟨⟨⟨⟨?_,by omega⟩,by omega⟩,by omega⟩,h5⟩
  simp
  omega)
 obtain ⟨s,hs⟩:∃s,s=a_ (g 0):=⟨_,rfl⟩
 rw[←hs]at SA sl HM
 have q1:IntKind.i64.wrap ((s:Int)+2)=(s:Int)+2:=IntWalk.i64_in _ (by omega)
 have IR:=hid (dH v 4294967295)
 clear hs h
 obtain ⟨r,hr⟩:∃r,r=cW v 4294967295:=⟨_,rfl⟩
 rw[←hr]at IR HM
 clear hr
 cases r
 ·go_enter Tryz.func156,Tryz.ntmps156
  exact qZD
 cases d1:decide (a<16)
 ·have e1:16≤a:=by simpa using d1
  cases d2:decide ((L:Int)-4<a)
  ·have e2:a≤(L:Int)-4:=by simpa using d2
   have q2:IntKind.i64.wrap (a+4)=a+4:=IntWalk.i64_in _ (by omega)
   cases d3:decide (a+4≤(s:Int))
   ·cases d4:decide ((s:Int)+2≤a)
    all_goals
     exact qXG
   exact qXI
  exact qX8
 exact qZQ
theorem Gb (A:Option Addr)(L c:Nat)(g:Nat→Int)(w:World)(h:By w A L g)(hL0:24≤L)(hL:L≤1500)(a m v:Int)(ra: -9223372036854775808≤a∧a≤9223372036854775807) :
 Calls Tryz.prog 156 #[.slice A L c,a,m,v] w fun e w'=>e =.returned (.bool (di g L a m v))∧w=w':=by
 by_cases h1:m=1
 ·subst h1;exact Dv A L c g w h hL0 hL a v ra
 by_cases h2:m=2
 ·subst h2;exact Du A L c g w h hL0 hL a v ra
 by_cases h4:m=4
 ·subst h4;exact Dt A L c g w h hL0 hL a v ra
 have HM:Hid (di g L a m v=false):=hid (by
  rw[Bool.eq_false_iff]
  intro e
  have:=q_ e
  omega)
 have e1:(m != 1)=true:=by simpa using h1
 have e2:(m != 2)=true:=by simpa using h2
 have e4:(m != 4)=true:=by simpa using h4
 clear h h1 h2 h4
 go_enter Tryz.func156,Tryz.ntmps156
 go_wp2_with fail
 go_ret
 exact⟨cT HM.out.symm,rfl⟩
def ij (w:World)(E:Int)(L:Nat)(F:Nat→Int)(e:Ending)(w':World):Prop:=∃v:Value,e =.returned (.tuple #[v,E])∧OB w' w.heap.size v (if E=0 then L else 0) F∧Below w.heap.size w w'
theorem gn {g:Nat→Int}{n:Nat}(h:az g n=0):(ax g n).life=g 1∧(ax g n).kind=g 0:=by
 unfold ax
 rw[if_pos h]
 unfold eY
 split
 ·exact⟨rfl,rfl⟩
 split <;> exact⟨rfl,rfl⟩
theorem aV {w w':World}{E:Int}{L:Nat}{F:Nat→Int}(h:E≠0)(hb:Below w.heap.size w w'):ij w E L F (.returned (.tuple #[.slice none 0 0,E])) w':=
 ⟨_,rfl,by rw[if_neg h];exact OB.nil,hb⟩
set_option maxHeartbeats 4000000 in
theorem yV (A:Option Addr)(L c:Nat)(g:Nat→Int)(w:World)(h:By w A L g)(hg:aC g)(hc:L≤c)(hb:L≤1000000)(a m v:Int)(ra: -9223372036854775808≤a∧a≤9223372036854775807) :
 Calls Tryz.prog 121 #[.slice A L c,a,m,v] w (ij w (fG g L a m v) L (cB g L a.toNat m.toNat v)):=by
 have HP:=hid (jm A L c g w h hg hc hb)
 have cx:=hid (fun (W:World) (hw:Below w.heap.size w W)=>Sl.below h hw (Nat.le_refl _))
 have HG:=hid hg
 have HH:=hid h
 clear h hg
 obtain ⟨z,hz⟩:∃z,z=az g L:=⟨_,rfl⟩
 unfold Parsed at HP
 rw[←hz]at HP
 cases hz0:(z != 0)
 ·have z0:az g L=0:=by rw[←hz];simpa using hz0
  have pf:=eW z0
  have n24:=pf.1
  have n15:=pf.2.1
  have HE:Hid (fG g L a m v=if di g L a m v=true then 0 else 14):=hid (by unfold fG;rw[if_neg (fun h=>h z0)])
  clear pf z0
  generalize ax g L=p at HP
  have MA:=hid (fun (W:World) (hW:By W A L g)=>Gb A L c g W hW n24 n15 a m v ra)
  cases hm:di g L a m v
  ·rw[hm,if_neg (by decide)]at HE
   rw[hm]at MA
   clear hm hz
   go_enter Tryz.func121,Tryz.ntmps121
   go_wp2_with fail
   refine HP.out.mono ?_
   rintro x w1 ⟨O,D,rfl,hO,hD,hb1⟩
   obtain ⟨AO,cO,rfl,_,_,_⟩:=hO.aF
   obtain ⟨AD,cD,rfl,_,_,_⟩:=hD.aF
   have B1:=hid (hb1.alloc hb1.size (.cells #[p.kind,p.life,p.piece,p.src,p.dst,p.fp,p.tp,p.flags,p.label,p.bare,p.code,.slice AO p.no cO,.slice AD p.nd cD] 53))
   clear hb1 HP hO hD
   unfold ct de
   go_simp
   go_wp2_with fail
   refine(MA.out _ (cx.out _ B1.out)).mono ?_
   rintro e w' ⟨rfl,rfl⟩
   go_wp2_with fail
   refine bodyPost_ret (v:=.tuple #[.slice none 0 0,.int .i64 14]) (by simp[results,Tryz.results121,go_sem]) rfl ?_
   rw[HE.out]
   exact aV (by decide) B1.out
  rw[hm,if_pos rfl]at HE
  rw[hm]at MA
  have mf:=q_ hm
  have sl:=gC g
  have SO:Hid (a.toNat+m.toNat≤a_ (g 0)∨a_ (g 0)+2≤a.toNat):=hid (by omega)
  obtain ⟨q,hq⟩:∃q:Nat,a=(q:Int):=⟨a.toNat,by omega⟩
  obtain ⟨k,hk⟩:∃k:Nat,m=(k:Int):=⟨m.toNat,by omega⟩
  subst hq
  subst hk
  rw[Int.toNat_natCast,Int.toNat_natCast]at *
  have kq:q+k≤L:=by omega
  have k4:0<k∧k≤4:=by omega
  have q16:16≤q:=by omega
  obtain ⟨k0,k4⟩:=k4
  clear hm hz mf
  obtain ⟨b,off,rfl,hblt,_⟩:=HH.out (by omega)
  have q1:IntKind.i64.wrap ((q:Int)+k)=(q:Int)+k:=IntWalk.i64_in _ (by omega)
  go_enter Tryz.func121,Tryz.ntmps121
  go_wp2_with fail
  refine HP.out.mono ?_
  rintro x w1 ⟨O,D,rfl,hO,hD,hb1⟩
  obtain ⟨AO,cO,rfl,_,_,_⟩:=hO.aF
  obtain ⟨AD,cD,rfl,_,_,_⟩:=hD.aF
  have B1:=hid (hb1.alloc hb1.size (.cells #[p.kind,p.life,p.piece,p.src,p.dst,p.fp,p.tp,p.flags,p.label,p.bare,p.code,.slice AO p.no cO,.slice AD p.nd cD] 53))
  clear hb1 HP hO hD
  unfold ct de
  go_simp
  have CL:=hid (fun (W:World) (hW:By W (some ⟨b,off,none⟩) L g)=>gZ (some ⟨b,off,none⟩) L c g W hW hb)
  go_wp2_with fail
  refine(MA.out _ (cx.out _ B1.out)).mono ?_
  rintro e w' ⟨rfl,rfl⟩
  go_wp2_with fail
  refine(CL.out _ (cx.out _ B1.out)).mono ?_
  rintro e w2 ⟨G,rfl,hG,hO,hb2⟩
  have O2:=hid (OB.base hO (show w.heap.size≤_ from B1.out.size))
  have cz:w.heap.size≤G:=Nat.le_trans B1.out.size hG
  have B2:=hid (B1.out.trans (hb2.mono B1.out.size))
  have hne:b≠G:=by omega
  clear hO hb2 hG MA CL B1
  have CP:=fun W=>eP (G:=G) (n:=L) (c:=L) q k kq (Nat.le_refl _) k0 q (q+k) (q+k) rfl rfl rfl W
  go_wp2_with fail
  refine(dX O2.out q k k v kq (by omega)).mono ?_
  rintro e w3 ⟨rfl,hO,hg3⟩
  have O3:=hid hO
  have B3:=hid (B2.out.trans (af hg3 cz B2.out.size))
  clear hO hg3 O2 B2 CP
  have IB:=hid (nS (some ⟨b,off,none⟩) L c g w3 (cx.out _ B3.out) HG.out (by omega) (.inr n24) hc hb)
  have PB:=hid (dy HG.out q k v)
  cases hbf:du g
  ·have WF:Hid (cB g L q k v=cZ (aQ (a_ (g 0)) L g ((k+q%2+1)/2) (q-q%2) (ao g q k v))):=hid (by unfold cB;rw[hbf,if_neg (by decide)])
   rw[hbf]at IB
   have TB:=hid (iF O3.out PB.out (cx.out _ B3.out) hne HG.out (Nat.le_refl _) hc hb n24 q k kq)
   clear hbf
   go_wp2_with fail
   refine IB.out.mono ?_
   rintro e w' ⟨rfl,rfl⟩
   go_wp2_with fail
   refine TB.out.mono ?_
   rintro e w4 ⟨rfl,hO,hg4⟩
   have O4:=hid hO
   have B4:=hid (B3.out.trans (af hg4 cz B3.out.size))
   clear hO hg4 TB IB
   have O_:=hid (cJ (s:=a_ (g 0)) (L:=L) (g:=g) ((k+q%2+1)/2) (q-q%2) _ PB.out)
   go_wp2_with fail
   refine(lU O4.out O_.out (by omega) (.inr n24) (Nat.le_refl _) hb).mono ?_
   rintro e w5 ⟨rfl,hO,hg5⟩
   have O5:=hid hO
   have B5:=hid (B4.out.trans (af hg5 cz B4.out.size))
   clear hO hg5
   go_wp2_with fail
   refine bodyPost_ret (v:=.tuple #[.slice (some ⟨G,0,none⟩) L L,()]) (by simp[results,Tryz.results121,go_sem]) rfl ?_
   rw[HE.out,WF.out]
   exact⟨_,rfl,O5.out,B5.out⟩
  have WF:Hid (cB g L q k v=ao g q k v):=hid (by unfold cB;rw[hbf,if_pos rfl])
  rw[hbf]at IB
  clear hbf
  go_wp2_with fail
  refine IB.out.mono ?_
  rintro e w' ⟨rfl,rfl⟩
  go_wp2_with fail
  refine bodyPost_ret (v:=.tuple #[.slice (some ⟨G,0,none⟩) L L,()]) (by simp[results,Tryz.results121,go_sem]) rfl ?_
  rw[HE.out,WF.out]
  exact⟨_,rfl,O3.out,B3.out⟩
 have HE:Hid (fG g L a m v=z):=hid (by unfold fG;rw[←hz,if_pos (by simpa using hz0)])
 have HZ0:Hid (z≠0):=hid (by simpa using hz0)
 generalize ax g L=p at HP
 clear hz
 go_enter Tryz.func121,Tryz.ntmps121
 go_wp2_with fail
 refine HP.out.mono ?_
 rintro x w1 ⟨O,D,rfl,hO,hD,hb1⟩
 obtain ⟨AO,cO,rfl,_,_,_⟩:=hO.aF
 obtain ⟨AD,cD,rfl,_,_,_⟩:=hD.aF
 have B1:=hid (hb1.alloc hb1.size (.cells #[p.kind,p.life,p.piece,p.src,p.dst,p.fp,p.tp,p.flags,p.label,p.bare,p.code,.slice AO p.no cO,.slice AD p.nd cD] 53))
 clear hb1 HP hO hD
 unfold ct de
 go_simp
 go_wp2_with fail
 refine bodyPost_ret (v:=.tuple #[.slice none 0 0,z]) (by simp[results,Tryz.results121,go_sem]) rfl ?_
 rw[HE.out]
 exact aV HZ0.out B1.out
theorem Jy {g:Nat→Int}:ao (set1 g 1 (g 1-1)) 14 2 (turn (num (set1 g 1 (g 1-1)) 14 2) (num g 0 2) (num (set1 g 1 (g 1-1)) 0 2))=aN g:=by
 unfold aN
 rw[show num (set1 g 1 (g 1-1)) 14 2=num g 14 2 from ly fun j h1 h2=>by unfold set1;rw[if_neg (by omega)]]
theorem mW {g:Nat→Int}(hg:aC g)(i:Nat)(x:Int)(h:0≤x)(h':x≤255):aC (set1 g i x):=fun j=>by unfold set1;split;exact⟨h,h'⟩;exact hg j
set_option maxHeartbeats 4000000 in
theorem Gx (A:Option Addr)(L c:Nat)(g:Nat→Int)(w:World)(h:By w A L g)(hg:aC g)(hc:L≤c)(hb:L≤1000000) :
 Calls Tryz.prog 119 #[.slice A L c] w (ij w (iL g L) L (aN g)):=by
 have HP:=hid (jm A L c g w h hg hc hb)
 have cx:=hid (fun (W:World) (hw:Below w.heap.size w W)=>Sl.below h hw (Nat.le_refl _))
 have HG:=hid hg
 have HH:=hid h
 clear h hg
 obtain ⟨z,hz⟩:∃z,z=az g L:=⟨_,rfl⟩
 unfold Parsed at HP
 rw[←hz]at HP
 cases hz0:(z != 0)
 ·have z0:az g L=0:=by rw[←hz];simpa using hz0
  have pf:=eW z0
  have n24:=pf.1
  have n15:=pf.2.1
  have HE:Hid (iL g L=if g 1≤1 then 7 else 0):=hid (by unfold iL;rw[if_neg (fun h=>h z0)])
  have PL:=hid (gn z0).1
  clear pf z0
  generalize ax g L=p at HP PL
  have hl0:=HG.out 1
  rw[←PL.out]at hl0 HE
  obtain ⟨hl0,hl1⟩:=hl0
  by_cases hl:p.life≤1
  ·rw[if_pos hl]at HE
   clear hz
   go_enter Tryz.func119,Tryz.ntmps119
   go_wp2_with fail
   refine HP.out.mono ?_
   rintro x w1 ⟨O,D,rfl,hO,hD,hb1⟩
   obtain ⟨AO,cO,rfl,_,_,_⟩:=hO.aF
   obtain ⟨AD,cD,rfl,_,_,_⟩:=hD.aF
   have B1:=hid (hb1.alloc hb1.size (.cells #[p.kind,p.life,p.piece,p.src,p.dst,p.fp,p.tp,p.flags,p.label,p.bare,p.code,.slice AO p.no cO,.slice AD p.nd cD] 53))
   clear hb1 HP hO hD
   unfold ct de
   go_simp
   go_wp2_with fail
   refine bodyPost_ret (v:=.tuple #[.slice none 0 0,.int .i64 7]) (by simp[results,Tryz.results119,go_sem]) rfl ?_
   rw[HE.out]
   exact aV (by decide) B1.out
  rw[if_neg hl]at HE
  have hl2:1<p.life:=by omega
  clear hz
  obtain ⟨b,off,rfl,hblt,_⟩:=HH.out (by omega)
  have v1:IntKind.i64.wrap (p.life-1)=p.life-1:=IntWalk.i64_in _ (by omega)
  go_enter Tryz.func119,Tryz.ntmps119
  go_wp2_with fail
  refine HP.out.mono ?_
  rintro x w1 ⟨O,D,rfl,hO,hD,hb1⟩
  obtain ⟨AO,cO,rfl,_,_,_⟩:=hO.aF
  obtain ⟨AD,cD,rfl,_,_,_⟩:=hD.aF
  have B1:=hid (hb1.alloc hb1.size (.cells #[p.kind,p.life,p.piece,p.src,p.dst,p.fp,p.tp,p.flags,p.label,p.bare,p.code,.slice AO p.no cO,.slice AD p.nd cD] 53))
  clear hb1 HP hO hD
  unfold ct de
  go_simp
  have CL:=hid (fun (W:World) (hW:By W (some ⟨b,off,none⟩) L g)=>gZ (some ⟨b,off,none⟩) L c g W hW hb)
  have CE:=hid (Ce.made (w:=w1) (l:=[p.kind,p.life,p.piece,p.src,p.dst,p.fp,p.tp,p.flags,p.label,p.bare,p.code,.slice AO p.no cO,.slice AD p.nd cD]) (T:=53) rfl)
  simp only[List.toArray]at CE
  go_wp2_with fail
  refine(CL.out _ (cx.out _ B1.out)).mono ?_
  rintro e w2 ⟨G,rfl,hG,hO,hb2⟩
  have O2:=hid (OB.base hO (show w.heap.size≤_ from B1.out.size))
  have cz:w.heap.size≤G:=Nat.le_trans B1.out.size hG
  have B2:=hid (B1.out.trans (hb2.mono B1.out.size))
  have hne:b≠G:=by omega
  have aE:=hid (CE.out.below hb2)
  clear hO hb2 hG CL B1 CE
  have y1:=aE.out.2.1 1 _ rfl
  obtain ⟨g',e,hB,hgs,hce,hfr⟩:=Ow.block_ O2.out (by omega)
  injection e with e
  injection e with e _
  subst e
  have c1:=hce 1 (by omega)
  have f1:=hfr 1
  have i1:(1:Int)<L:=by omega
  have u1:IntKind.u8.wrap (p.life-1)=p.life-1:=by rw[IntKind.wrap_u8];omega
  clear hce hfr
  go_upto_region 8 with (fail)
  have O3:=hid (OB.store O2.out 1 (p.life-1))
  have B3:=hid (B2.out.trans (af (kW w2 ⟨G,1,none⟩ (.int .u8 (p.life-1))) cz B2.out.size))
  clear y1 c1 f1 aE O2 B2
  generalize w2.setCell ⟨G,1,none⟩ (.int .u8 (p.life-1))=w3 at *
  have XB:=hid (mW HG.out 1 (p.life-1) (by omega) (by omega))
  have PG:=hid (c_ (fj (some ⟨b,off,none⟩) L c g w3 (cx.out _ B3.out) HG.out 0 (by omega) hc hb) (show aL g L 0=num g 0 2 from by unfold aL;rw[if_neg (by omega)]))
  have PX:=hid (c_ (fj (some ⟨G,0,none⟩) L L (set1 g 1 (p.life-1)) w3 O3.out.sl1 XB.out 0 (by omega) (Nat.le_refl _) hb) (show aL _ L 0=num (set1 g 1 (p.life-1)) 0 2 from by unfold aL;rw[if_neg (by omega)]))
  have b1:=bE HG.out 0
  have b2:=bE XB.out 0
  have TU:=hid (ml O3.out XB.out 14 (by omega) (Nat.le_refl _) hb (num g 0 2) (num (set1 g 1 (p.life-1)) 0 2) b1.1 b1.2 b2.1 b2.2)
  clear b1 b2
  go_wp2_with fail
  refine PG.out.mono ?_
  rintro e w' ⟨rfl,rfl⟩
  go_wp2_with fail
  refine PX.out.mono ?_
  rintro e w' ⟨rfl,rfl⟩
  go_wp2_with fail
  refine TU.out.mono ?_
  rintro e w4 ⟨rfl,hO,hg4⟩
  have O4:=hid hO
  have B4:=hid (B3.out.trans (af hg4 cz B3.out.size))
  clear hO hg4
  go_wp2_with fail
  refine bodyPost_ret (v:=.tuple #[.slice (some ⟨G,0,none⟩) L L,()]) (by simp[results,Tryz.results119,go_sem]) rfl ?_
  rw[HE.out]
  refine⟨_,rfl,?_,B4.out⟩
  have:=O4.out
  rw[PL.out,Jy]at this
  exact this
 have HE:Hid (iL g L=z):=hid (by unfold iL;rw[←hz,if_pos (by simpa using hz0)])
 have HZ0:Hid (z≠0):=hid (by simpa using hz0)
 generalize ax g L=p at HP
 clear hz
 go_enter Tryz.func119,Tryz.ntmps119
 go_wp2_with fail
 refine HP.out.mono ?_
 rintro x w1 ⟨O,D,rfl,hO,hD,hb1⟩
 obtain ⟨AO,cO,rfl,_,_,_⟩:=hO.aF
 obtain ⟨AD,cD,rfl,_,_,_⟩:=hD.aF
 have B1:=hid (hb1.alloc hb1.size (.cells #[p.kind,p.life,p.piece,p.src,p.dst,p.fp,p.tp,p.flags,p.label,p.bare,p.code,.slice AO p.no cO,.slice AD p.nd cD] 53))
 clear hb1 HP hO hD
 unfold ct de
 go_simp
 go_wp2_with fail
 refine bodyPost_ret (v:=.tuple #[.slice none 0 0,z]) (by simp[results,Tryz.results119,go_sem]) rfl ?_
 rw[HE.out]
 exact aV HZ0.out B1.out
theorem qZ6{P:Prop}(h:P:=by
 rintro e w' ⟨rfl,rfl⟩
 go_wp2_with fail
 refine bodyPost_ret (v:=.tuple #[.slice none 0 0,.int .i64 14]) (by simp[results,Tryz.results125,go_sem]) rfl ?_
 rw[HE.out]
 exact aV (by decide) B1.out
 ):P:=h
theorem qZ4{P:Prop}(h:P:=by
 rw[hbf]at k9
 clear hbf
 go_wp2_with fail
 refine bodyPost_ret (v:=.tuple #[.slice (some ⟨G,0,none⟩) L L,()]) (by simp[results,Tryz.results125,go_sem]) rfl ?_
 rw[HE.out,NF.out]
 exact⟨_,rfl,HO.out,B5.out⟩
 ):P:=h
theorem qX5{P:Prop}(h:P:=by
 go_wp2_with fail
 refine(lU O7.out Y7.out (by omega) (.inr n24) (Nat.le_refl _) hb).mono ?_
 rintro e w8 ⟨rfl,ho,Ba⟩
 have O8:=hid ho
 have B8:=hid (B7.out.trans (af Ba cz B7.out.size))
 clear ho Ba
 go_wp2_with fail
 refine bodyPost_ret (v:=.tuple #[.slice (some ⟨G,0,none⟩) L L,()]) (by simp[results,Tryz.results125,go_sem]) rfl ?_
 rw[HE.out,NF.out]
 exact⟨_,rfl,O8.out,B8.out⟩
 ):P:=h
set_option maxHeartbeats 8000000 in
theorem Ga (A:Option Addr)(L c:Nat)(g:Nat→Int)(w:World)(h:By w A L g)(hg:aC g)(hc:L≤c)(hb:L≤1000000)(s:Bool)(ad po:Int) :
 Calls Tryz.prog 125 #[.slice A L c,s,ad,po] w (ij w (iZ g L ad po) L (bA g L s ad po)):=by
 have HP:=hid (jm A L c g w h hg hc hb)
 have cx:=hid (fun (W:World) (hw:Below w.heap.size w W)=>Sl.below h hw (Nat.le_refl _))
 have HG:=hid hg
 have HH:=hid h
 clear h hg
 obtain ⟨z,hz⟩:∃z,z=az g L:=⟨_,rfl⟩
 unfold Parsed at HP
 rw[←hz]at HP
 cases hz0:(z != 0)
 ·have z0:az g L=0:=by rw[←hz];simpa using hz0
  have pf:=eW z0
  have n24:=pf.1
  have n15:=pf.2.1
  have PK:=hid (gn z0).2
  have BX:=hid (wH z0)
  have HE:Hid (iZ g L ad po=if g 0=3 then 2 else if (cW ad 4294967295&&cW po 65535)=true then 0 else 14):=hid (by unfold iZ;rw[if_neg (fun h=>h z0)])
  clear pf z0
  generalize ax g L=p at HP PK BX
  cases k3:(p.kind==3)
  ·have gH:¬g 0=3:=by rw[←PK.out];simpa using k3
   rw[if_neg gH]at HE
   have E8:Hid (a_ (g 0)=22):=hid (by unfold a_;rw[if_neg gH])
   clear gH
   have RA:=hid (fun w=>dH ad 4294967295 w)
   have RP:=hid (fun w=>dH po 65535 w)
   cases r1:cW ad 4294967295
   ·rw[r1]at RA HE
    rw[Bool.false_and,if_neg (by decide)]at HE
    clear r1 hz
    go_enter Tryz.func125,Tryz.ntmps125
    go_wp2_with fail
    refine HP.out.mono ?_
    rintro x w1 ⟨O,D,rfl,hO,hD,hb1⟩
    obtain ⟨AO,cO,rfl,_,_,_⟩:=hO.aF
    obtain ⟨AD,cD,rfl,_,_,_⟩:=hD.aF
    have B1:=hid (hb1.alloc hb1.size (.cells #[p.kind,p.life,p.piece,p.src,p.dst,p.fp,p.tp,p.flags,p.label,p.bare,p.code,.slice AO p.no cO,.slice AD p.nd cD] 53))
    clear hb1 HP hO hD
    unfold ct de
    go_simp
    have CE:=hid (Ce.made (w:=w1) (l:=[p.kind,p.life,p.piece,p.src,p.dst,p.fp,p.tp,p.flags,p.label,p.bare,p.code,.slice AO p.no cO,.slice AD p.nd cD]) (T:=53) rfl)
    simp only[List.toArray]at CE
    have k0:=CE.out.2.1 0 _ rfl
    go_wp2_with fail
    refine(RA.out _).mono ?_
    exact qZ6
   cases r2:cW po 65535
   ·rw[r1]at RA HE
    rw[r2]at RP HE
    rw[Bool.and_false,if_neg (by decide)]at HE
    clear r1 r2 hz
    go_enter Tryz.func125,Tryz.ntmps125
    go_wp2_with fail
    refine HP.out.mono ?_
    rintro x w1 ⟨O,D,rfl,hO,hD,hb1⟩
    obtain ⟨AO,cO,rfl,_,_,_⟩:=hO.aF
    obtain ⟨AD,cD,rfl,_,_,_⟩:=hD.aF
    have B1:=hid (hb1.alloc hb1.size (.cells #[p.kind,p.life,p.piece,p.src,p.dst,p.fp,p.tp,p.flags,p.label,p.bare,p.code,.slice AO p.no cO,.slice AD p.nd cD] 53))
    clear hb1 HP hO hD
    unfold ct de
    go_simp
    have CE:=hid (Ce.made (w:=w1) (l:=[p.kind,p.life,p.piece,p.src,p.dst,p.fp,p.tp,p.flags,p.label,p.bare,p.code,.slice AO p.no cO,.slice AD p.nd cD]) (T:=53) rfl)
    simp only[List.toArray]at CE
    have k0:=CE.out.2.1 0 _ rfl
    go_wp2_with fail
    refine(RA.out _).mono ?_
    rintro e w' ⟨rfl,rfl⟩
    go_wp2_with fail
    refine(RP.out _).mono ?_
    exact qZ6
   rw[r1]at RA HE
   rw[r2]at RP HE
   rw[Bool.and_true,if_pos rfl]at HE
   clear r1 r2 hz
   obtain ⟨b,off,rfl,hblt,_⟩:=HH.out (by omega)
   cases s
   ·skip
    have NP:aO g false ad po=ao (ao g 8 4 ad) 18 2 po:=rfl
    go_enter Tryz.func125,Tryz.ntmps125
    go_wp2_with fail
    refine HP.out.mono ?_
    rintro x w1 ⟨O,D,rfl,hO,hD,hb1⟩
    obtain ⟨AO,cO,rfl,_,_,_⟩:=hO.aF
    obtain ⟨AD,cD,rfl,_,_,_⟩:=hD.aF
    have B1:=hid (hb1.alloc hb1.size (.cells #[p.kind,p.life,p.piece,p.src,p.dst,p.fp,p.tp,p.flags,p.label,p.bare,p.code,.slice AO p.no cO,.slice AD p.nd cD] 53))
    clear hb1 HP hO hD
    unfold ct de
    go_simp
    have CE:=hid (Ce.made (w:=w1) (l:=[p.kind,p.life,p.piece,p.src,p.dst,p.fp,p.tp,p.flags,p.label,p.bare,p.code,.slice AO p.no cO,.slice AD p.nd cD]) (T:=53) rfl)
    simp only[List.toArray]at CE
    have k0:=CE.out.2.1 0 _ rfl
    go_wp2_with fail
    refine(RA.out _).mono ?_
    rintro e w' ⟨rfl,rfl⟩
    go_wp2_with fail
    refine(RP.out _).mono ?_
    rintro e w' ⟨rfl,rfl⟩
    clear k0
    have CL:=hid (fun (W:World) (hW:By W (some ⟨b,off,none⟩) L g)=>gZ (some ⟨b,off,none⟩) L c g W hW hb)
    go_wp2_with fail
    refine(CL.out _ (cx.out _ B1.out)).mono ?_
    rintro e w2 ⟨G,rfl,hG,hO,hb2⟩
    have O2:=hid (OB.base hO (show w.heap.size≤_ from B1.out.size))
    have cz:w.heap.size≤G:=Nat.le_trans B1.out.size hG
    have xu:w1.heap.size≠G:=by simp at hG;omega
    have B2:=hid (B1.out.trans (hb2.mono B1.out.size))
    have hne:b≠G:=by omega
    have aE:=hid (CE.out.below hb2)
    clear hO hb2 hG CL B1 CE RA RP
    have CP:=fun W=>eP (G:=G) (n:=L) (c:=L) 8 4 (by omega) (Nat.le_refl _) (by omega) 8 (8+4) (8+4) rfl rfl rfl W
    have CQ:=fun W=>eP (G:=G) (n:=L) (c:=L) 18 2 (by omega) (Nat.le_refl _) (by omega) 18 (18+2) (18+2) rfl rfl rfl W
    simp only[Int.reduceAdd]at CP CQ
    go_wp2_with fail
    refine(dX O2.out 8 4 4 ad (by omega) (by omega)).mono ?_
    rintro e w3 ⟨rfl,hO,hg3⟩
    have O3:=hid hO
    have G3:=hid hg3
    clear hO hg3 O2
    go_wp2_with fail
    refine(dX O3.out 18 2 2 po (by omega) (by omega)).mono ?_
    rintro e w4 ⟨rfl,hO,hg3⟩
    rw[←NP]at hO
    have O4:=hid hO
    have G4:=hid (G3.out.trans hg3)
    clear hO hg3 O3 G3 CP CQ NP
    have XB:=hid (show aC (aO g false ad po) from by unfold aO;split <;> exact dy (dy HG.out _ _ _) _ _ _)
    go_wp2_with fail
    go_loopw [15] (fun i wr=>∃k:Nat,k≤2∧i =.int .i64 ((8+2*k:Nat):Int)∧OB wr w.heap.size (.slice (some ⟨G,0,none⟩) L L) L (aQ 14 L g k 8 (aO g false ad po))∧w2.grownBy wr (some G)) (fun i _=>20-(intOf i).toNat)
    case atStart=>exact⟨0,by omega,rfl,O4.out,G4.out⟩
    obtain ⟨k,hk,rfl,ho,hgr⟩:=hrel
    obtain ⟨i,hi⟩:∃i,i=8+2*k:=⟨_,rfl⟩
    rw[←hi]
    have HI:=hid hi
    have HO:=hid ho
    have HR:=hid hgr
    have dG:k<2↔i<8+4:=by omega
    clear hi ho hgr O4 G4
    have B5:=hid (B2.out.trans (af HR.out cz B2.out.size))
    by_cases hlt:i<8+4
    ·have i1:(i:Int)<8+4:=by omega
     have NY:(i:Int)<12:=by omega
     have i2:i<L:=by omega
     have i3:IntKind.i64.wrap ((i:Int)+2)=(i:Int)+2:=IntWalk.i64_in _ (by omega)
     have HB:=hid (cJ (s:=14) (L:=L) (g:=g) k 8 _ XB.out)
     have kl:=dG.2 hlt
     have bx:=dh HB.out L i
     have bg:=dh HG.out L i
     have PG:=hid (fj (some ⟨b,off,none⟩) L c g wr (cx.out _ B5.out) HG.out i i2 hc hb)
     have PO:=hid (fj (some ⟨G,0,none⟩) L L _ wr HO.out.sl1 HB.out i i2 (Nat.le_refl _) hb)
     have TU:=hid (ml HO.out HB.out 14 (by omega) (Nat.le_refl _) hb (aL g L i) (aL (aQ 14 L g k 8 (aO g false ad po)) L i) bg.1 bg.2 bx.1 bx.2)
     clear dG bx bg hlt
     go_wp2_with fail
     refine PG.out.mono ?_
     rintro e w' ⟨rfl,rfl⟩
     go_wp2_with fail
     refine PO.out.mono ?_
     rintro e w' ⟨rfl,rfl⟩
     go_wp2_with fail
     refine TU.out.mono ?_
     rintro e w5 ⟨rfl,ho2,hg2⟩
     have bQ:=hid ho2
     have HR2:=hid (HR.out.trans hg2)
     clear ho2 hg2
     go_wp2_with fail
     go_roundw
     case rel=>
      refine⟨k+1,kl,by rw[HI.out];go_num,?_,HR2.out⟩
      have e:=fB 14 L g k 8 (aO g false ad po)
      rw[←e,←HI.out]
      exact bQ.out
     simp[intOf];omega
    have i1:¬(i:Int)<12:=by omega
    have kk:k=2:=by omega
    subst kk
    clear dG hlt HI
    have Cl:=aE.out.grown HR.out (fun e=>xu (by injection e with e;exact e.symm))
    have k9:=Cl.2.1 9 _ rfl
    clear Cl
    have YB:=hid (cJ (s:=14) (L:=L) (g:=g) 2 8 _ XB.out)
    cases hbf:p.bare
    ·have NF:Hid (bA g L false ad po=cZ (aQ 22 L g 1 18 (aQ 22 L g 2 8 (aQ 14 L g 2 8 (aO g false ad po))))):=hid (by unfold bA;rw[←BX.out,hbf];rfl)
     rw[hbf]at k9
     have TB:=hid (iF HO.out YB.out (cx.out _ B5.out) hne HG.out (Nat.le_refl _) hc hb n24 8 4 (by omega))
     rw[E8.out,show (4+8%2+1)/2=2 from rfl,show 8-8%2=8 from rfl]at TB
     clear hbf
     go_wp2_with fail
     refine TB.out.mono ?_
     rintro e w6 ⟨rfl,ho,Bb⟩
     have O6:=hid ho
     have B6:=hid (B5.out.trans (af Bb cz B5.out.size))
     clear ho Bb TB HO k9
     have Y6:=hid (cJ (s:=22) (L:=L) (g:=g) 2 8 _ YB.out)
     have TB:=hid (iF O6.out Y6.out (cx.out _ B6.out) hne HG.out (Nat.le_refl _) hc hb n24 18 2 (by omega))
     rw[E8.out,show (2+18%2+1)/2=1 from rfl,show 18-18%2=18 from rfl]at TB
     go_wp2_with fail
     refine TB.out.mono ?_
     rintro e w7 ⟨rfl,ho,kT⟩
     have O7:=hid ho
     have B7:=hid (B6.out.trans (af kT cz B6.out.size))
     clear ho kT TB O6
     have Y7:=hid (cJ (s:=22) (L:=L) (g:=g) 1 18 _ Y6.out)
     exact qX5
    have NF:Hid (bA g L false ad po=aQ 14 L g 2 8 (aO g false ad po)):=hid (by unfold bA;rw[←BX.out,hbf];rfl)
    exact qZ4
   skip
   have NP:aO g true ad po=ao (ao g 4 4 ad) 16 2 po:=rfl
   go_enter Tryz.func125,Tryz.ntmps125
   go_wp2_with fail
   refine HP.out.mono ?_
   rintro x w1 ⟨O,D,rfl,hO,hD,hb1⟩
   obtain ⟨AO,cO,rfl,_,_,_⟩:=hO.aF
   obtain ⟨AD,cD,rfl,_,_,_⟩:=hD.aF
   have B1:=hid (hb1.alloc hb1.size (.cells #[p.kind,p.life,p.piece,p.src,p.dst,p.fp,p.tp,p.flags,p.label,p.bare,p.code,.slice AO p.no cO,.slice AD p.nd cD] 53))
   clear hb1 HP hO hD
   unfold ct de
   go_simp
   have CE:=hid (Ce.made (w:=w1) (l:=[p.kind,p.life,p.piece,p.src,p.dst,p.fp,p.tp,p.flags,p.label,p.bare,p.code,.slice AO p.no cO,.slice AD p.nd cD]) (T:=53) rfl)
   simp only[List.toArray]at CE
   have k0:=CE.out.2.1 0 _ rfl
   go_wp2_with fail
   refine(RA.out _).mono ?_
   rintro e w' ⟨rfl,rfl⟩
   go_wp2_with fail
   refine(RP.out _).mono ?_
   rintro e w' ⟨rfl,rfl⟩
   clear k0
   have CL:=hid (fun (W:World) (hW:By W (some ⟨b,off,none⟩) L g)=>gZ (some ⟨b,off,none⟩) L c g W hW hb)
   go_wp2_with fail
   refine(CL.out _ (cx.out _ B1.out)).mono ?_
   rintro e w2 ⟨G,rfl,hG,hO,hb2⟩
   have O2:=hid (OB.base hO (show w.heap.size≤_ from B1.out.size))
   have cz:w.heap.size≤G:=Nat.le_trans B1.out.size hG
   have xu:w1.heap.size≠G:=by simp at hG;omega
   have B2:=hid (B1.out.trans (hb2.mono B1.out.size))
   have hne:b≠G:=by omega
   have aE:=hid (CE.out.below hb2)
   clear hO hb2 hG CL B1 CE RA RP
   have CP:=fun W=>eP (G:=G) (n:=L) (c:=L) 4 4 (by omega) (Nat.le_refl _) (by omega) 4 (4+4) (4+4) rfl rfl rfl W
   have CQ:=fun W=>eP (G:=G) (n:=L) (c:=L) 16 2 (by omega) (Nat.le_refl _) (by omega) 16 (16+2) (16+2) rfl rfl rfl W
   simp only[Int.reduceAdd]at CP CQ
   go_wp2_with fail
   refine(dX O2.out 4 4 4 ad (by omega) (by omega)).mono ?_
   rintro e w3 ⟨rfl,hO,hg3⟩
   have O3:=hid hO
   have G3:=hid hg3
   clear hO hg3 O2
   go_wp2_with fail
   refine(dX O3.out 16 2 2 po (by omega) (by omega)).mono ?_
   rintro e w4 ⟨rfl,hO,hg3⟩
   rw[←NP]at hO
   have O4:=hid hO
   have G4:=hid (G3.out.trans hg3)
   clear hO hg3 O3 G3 CP CQ NP
   have XB:=hid (show aC (aO g true ad po) from by unfold aO;split <;> exact dy (dy HG.out _ _ _) _ _ _)
   go_wp2_with fail
   go_loopw [15] (fun i wr=>∃k:Nat,k≤2∧i =.int .i64 ((4+2*k:Nat):Int)∧OB wr w.heap.size (.slice (some ⟨G,0,none⟩) L L) L (aQ 14 L g k 4 (aO g true ad po))∧w2.grownBy wr (some G)) (fun i _=>20-(intOf i).toNat)
   case atStart=>exact⟨0,by omega,rfl,O4.out,G4.out⟩
   obtain ⟨k,hk,rfl,ho,hgr⟩:=hrel
   obtain ⟨i,hi⟩:∃i,i=4+2*k:=⟨_,rfl⟩
   rw[←hi]
   have HI:=hid hi
   have HO:=hid ho
   have HR:=hid hgr
   have dG:k<2↔i<4+4:=by omega
   clear hi ho hgr O4 G4
   have B5:=hid (B2.out.trans (af HR.out cz B2.out.size))
   by_cases hlt:i<4+4
   ·have i1:(i:Int)<4+4:=by omega
    have NY:(i:Int)<8:=by omega
    have i2:i<L:=by omega
    have i3:IntKind.i64.wrap ((i:Int)+2)=(i:Int)+2:=IntWalk.i64_in _ (by omega)
    have HB:=hid (cJ (s:=14) (L:=L) (g:=g) k 4 _ XB.out)
    have kl:=dG.2 hlt
    have bx:=dh HB.out L i
    have bg:=dh HG.out L i
    have PG:=hid (fj (some ⟨b,off,none⟩) L c g wr (cx.out _ B5.out) HG.out i i2 hc hb)
    have PO:=hid (fj (some ⟨G,0,none⟩) L L _ wr HO.out.sl1 HB.out i i2 (Nat.le_refl _) hb)
    have TU:=hid (ml HO.out HB.out 14 (by omega) (Nat.le_refl _) hb (aL g L i) (aL (aQ 14 L g k 4 (aO g true ad po)) L i) bg.1 bg.2 bx.1 bx.2)
    clear dG bx bg hlt
    go_wp2_with fail
    refine PG.out.mono ?_
    rintro e w' ⟨rfl,rfl⟩
    go_wp2_with fail
    refine PO.out.mono ?_
    rintro e w' ⟨rfl,rfl⟩
    go_wp2_with fail
    refine TU.out.mono ?_
    rintro e w5 ⟨rfl,ho2,hg2⟩
    have bQ:=hid ho2
    have HR2:=hid (HR.out.trans hg2)
    clear ho2 hg2
    go_wp2_with fail
    go_roundw
    case rel=>
     refine⟨k+1,kl,by rw[HI.out];go_num,?_,HR2.out⟩
     have e:=fB 14 L g k 4 (aO g true ad po)
     rw[←e,←HI.out]
     exact bQ.out
    simp[intOf];omega
   have i1:¬(i:Int)<8:=by omega
   have kk:k=2:=by omega
   subst kk
   clear dG hlt HI
   have Cl:=aE.out.grown HR.out (fun e=>xu (by injection e with e;exact e.symm))
   have k9:=Cl.2.1 9 _ rfl
   clear Cl
   have YB:=hid (cJ (s:=14) (L:=L) (g:=g) 2 4 _ XB.out)
   cases hbf:p.bare
   ·have NF:Hid (bA g L true ad po=cZ (aQ 22 L g 1 16 (aQ 22 L g 2 4 (aQ 14 L g 2 4 (aO g true ad po))))):=hid (by unfold bA;rw[←BX.out,hbf];rfl)
    rw[hbf]at k9
    have TB:=hid (iF HO.out YB.out (cx.out _ B5.out) hne HG.out (Nat.le_refl _) hc hb n24 4 4 (by omega))
    rw[E8.out,show (4+4%2+1)/2=2 from rfl,show 4-4%2=4 from rfl]at TB
    clear hbf
    go_wp2_with fail
    refine TB.out.mono ?_
    rintro e w6 ⟨rfl,ho,Bb⟩
    have O6:=hid ho
    have B6:=hid (B5.out.trans (af Bb cz B5.out.size))
    clear ho Bb TB HO k9
    have Y6:=hid (cJ (s:=22) (L:=L) (g:=g) 2 4 _ YB.out)
    have TB:=hid (iF O6.out Y6.out (cx.out _ B6.out) hne HG.out (Nat.le_refl _) hc hb n24 16 2 (by omega))
    rw[E8.out,show (2+16%2+1)/2=1 from rfl,show 16-16%2=16 from rfl]at TB
    go_wp2_with fail
    refine TB.out.mono ?_
    rintro e w7 ⟨rfl,ho,kT⟩
    have O7:=hid ho
    have B7:=hid (B6.out.trans (af kT cz B6.out.size))
    clear ho kT TB O6
    have Y7:=hid (cJ (s:=22) (L:=L) (g:=g) 1 16 _ Y6.out)
    exact qX5
   have NF:Hid (bA g L true ad po=aQ 14 L g 2 4 (aO g true ad po)):=hid (by unfold bA;rw[←BX.out,hbf];rfl)
   exact qZ4
  have gH:g 0=3:=by rw[←PK.out];simpa using k3
  rw[if_pos gH]at HE
  clear gH hz
  go_enter Tryz.func125,Tryz.ntmps125
  go_wp2_with fail
  refine HP.out.mono ?_
  rintro x w1 ⟨O,D,rfl,hO,hD,hb1⟩
  obtain ⟨AO,cO,rfl,_,_,_⟩:=hO.aF
  obtain ⟨AD,cD,rfl,_,_,_⟩:=hD.aF
  have B1:=hid (hb1.alloc hb1.size (.cells #[p.kind,p.life,p.piece,p.src,p.dst,p.fp,p.tp,p.flags,p.label,p.bare,p.code,.slice AO p.no cO,.slice AD p.nd cD] 53))
  clear hb1 HP hO hD
  unfold ct de
  go_simp
  have CE:=hid (Ce.made (w:=w1) (l:=[p.kind,p.life,p.piece,p.src,p.dst,p.fp,p.tp,p.flags,p.label,p.bare,p.code,.slice AO p.no cO,.slice AD p.nd cD]) (T:=53) rfl)
  simp only[List.toArray]at CE
  have k0:=CE.out.2.1 0 _ rfl
  go_wp2_with fail
  refine bodyPost_ret (v:=.tuple #[.slice none 0 0,.int .i64 2]) (by simp[results,Tryz.results125,go_sem]) rfl ?_
  rw[HE.out]
  exact aV (by decide) B1.out
 have HE:Hid (iZ g L ad po=z):=hid (by unfold iZ;rw[←hz,if_pos (by simpa using hz0)])
 have HZ0:Hid (z≠0):=hid (by simpa using hz0)
 generalize ax g L=p at HP
 clear hz
 go_enter Tryz.func125,Tryz.ntmps125
 go_wp2_with fail
 refine HP.out.mono ?_
 rintro x w1 ⟨O,D,rfl,hO,hD,hb1⟩
 obtain ⟨AO,cO,rfl,_,_,_⟩:=hO.aF
 obtain ⟨AD,cD,rfl,_,_,_⟩:=hD.aF
 have B1:=hid (hb1.alloc hb1.size (.cells #[p.kind,p.life,p.piece,p.src,p.dst,p.fp,p.tp,p.flags,p.label,p.bare,p.code,.slice AO p.no cO,.slice AD p.nd cD] 53))
 clear hb1 HP hO hD
 unfold ct de
 go_simp
 go_wp2_with fail
 refine bodyPost_ret (v:=.tuple #[.slice none 0 0,z]) (by simp[results,Tryz.results125,go_sem]) rfl ?_
 rw[HE.out]
 exact aV HZ0.out B1.out
end Go.Proofs.YtalnfkijiehjhaaGreat
