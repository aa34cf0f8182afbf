/- The reference's Parse. The reference's Parse of a gram. -/
import Derived.Test.YtalnfkijiehjhaaGreatGa
import Derived.Test.YtalnfkijiehjhaaGreatGwb
import Derived.BigQuiet
import Derived.Deep.RegionHeld3
import Derived.Deep.Cut
namespace Go.Proofs.YtalnfkijiehjhaaGreat
open List renaming setIfInBounds_toArray→zA,set_cons_zero→zB,set_cons_succ→zC
set_option linter.unusedVariables false
set_option linter.unusedSimpArgs false
open Go.RowKit Go.ChangeShapes Go.WideShapes Go.ChangeAt
theorem oZ {x:Int}(h:isK x=true):x=1∨x=2∨x=3:=by unfold isK at h;simp at h;omega
theorem kt {g:Nat→Int}{n:Nat}(e:Int)(h:cC g n=e)(he:e≠0):az g n=e:=by unfold az;rw[h,if_neg he]
theorem qXV{P:Prop}(h:P:=by
 exact⟨.slice none 0 0,.slice none 0 0,by rw[HR.out,HE.out],by rw[HR.out];exact OB.nil,by rw[HR.out];exact OB.nil,(Below.refl _ _).alloc (Nat.le_refl _) _⟩
 ):P:=h
theorem qJS{P:Prop}(h:P:=by
 go_wp2_with fail
 refine bodyPost_ret (v:=.tuple #[ct {} (.slice none 0 0) (.slice none 0 0),.int .i64 2]) (by simp[results,Tryz.results19,go_sem,ct,de]) rfl ?_
 exact qXV
 ):P:=h
theorem qJ6{P:Prop}(h:P:=by
 go_wp2_with fail
 refine bodyPost_ret (v:=.tuple #[ct {} (.slice none 0 0) (.slice none 0 0),.int .i64 1]) (by simp[results,Tryz.results19,go_sem,ct,de]) rfl ?_
 exact qXV
 ):P:=h
set_option maxRecDepth 100000 in
set_option maxHeartbeats 8000000 in
theorem zN (A:Option Addr)(n c:Nat)(g:Nat→Int)(w:World)(h:By w A n g)(hg:aC g)(hc:n≤c)(hb:n≤1000000)(hne:cC g n≠0∧cC g n≠4) :
 Calls Tryz.prog 19 #[.slice A n c] w (Parsed w g n):=by
 have hz:∀w:World,(zeroValue 53).run Tryz.prog w =.ok (.agg #[(),(),(),(),(),(),(),(),(),false,(),.slice none 0 0,.slice none 0 0]) w:=fun w=>by kernel_rfl
 by_cases h16:n<16
 ·have i1:(n:Int)<16:=by omega
  have hE:az g n=1:=kt 1 (by unfold cC;rw[if_pos h16]) (by decide)
  have HR:Hid (ax g n ={}):=hid (by unfold ax;rw[hE,if_neg (by decide)])
  have HE:=hid hE
  clear hE
  clear h h16 hne
  go_enter Tryz.func19,Tryz.ntmps19
  exact qJ6
 have i1:¬(n:Int)<16:=by omega
 have gb:=hg 0
 obtain ⟨xx,ov⟩:=gb
 have HN:=hid (fun (w':World) (h':By w' A n g)=>aX A n c g w' h' hg 2 2 (by omega) (by omega) hb)
 have hA:=hid (h.below ((Below.refl w.heap.size w).alloc (Nat.le_refl _) (.cells #[(),(),(),(),(),(),(),(),(),false,(),.slice none 0 0,.slice none 0 0] 53)) (Nat.le_refl _))
 obtain ⟨b,off,rfl,hblt,hcell⟩:=hA.out (by omega)
 have c0:=hcell 0 (by omega)
 have c13:=hcell 13 (by omega)
 rw[Nat.add_zero]at c0
 have i2:(0:Int)<n:=by omega
 have i3:(13:Int)<n:=by omega
 clear hcell h
 cases b0:isK (g 0)
 ·have hk:g 0<1∨3<g 0:=by unfold isK at b0;simp at b0;omega
  have hE:az g n=2:=kt 2 (by unfold cC;rw[if_neg h16,if_pos b0]) (by decide)
  have HR:Hid (ax g n ={}):=hid (by unfold ax;rw[hE,if_neg (by decide)])
  have HE:=hid hE
  clear hE
  clear h16 b0 hne
  rcases hk with hk |hk
  ·go_enter Tryz.func19,Tryz.ntmps19
   exact qJS
  have hk2:¬g 0<1:=by omega
  go_enter Tryz.func19,Tryz.ntmps19
  exact qJS
 have hp:aL g n 2=num g 2 2:=by unfold aL;rw[if_neg (by omega)]
 have hx:cC g n=if ((num g 2 2 != (n:Int)) || decide (1500<(n:Int)) || (g 13 != 0))=true then 3 else if (norm (tot g 16)==65535)=false then 4 else 0:=by
  unfold cC;rw[if_neg h16,if_neg (by simp[b0]),hp]
 have hk:=oZ b0
 have k1:¬g 0<1:=by omega
 have k2:¬3<g 0:=by omega
 obtain ⟨p,hpp⟩:∃p,p=num g 2 2:=⟨_,rfl⟩
 rw[←hpp]at HN hx
 clear hpp hp h16 b0 hk
 cases b1:(p != (n:Int)) <;> cases b2:decide (1500<(n:Int)) <;> cases b3:(g 13 != 0)
 ·exfalso
  rw[b1,b2,b3]at hx
  simp only[Bool.false_or,Bool.false_eq_true,if_false]at hx
  split at hx
  ·exact hne.2 hx
  exact hne.1 hx
 all_goals
  have hE:az g n=3:=kt 3 (by rw[hx,b1,b2,b3];rfl) (by decide)
  have HR:Hid (ax g n ={}):=hid (by unfold ax;rw[hE,if_neg (by decide)])
  have HE:=hid hE
  clear hE hx hne
  go_enter Tryz.func19,Tryz.ntmps19
  go_wp2_with fail
  refine(HN.out _ hA.out).mono ?_
  rintro x w' ⟨rfl,rfl⟩
  go_wp2_with fail
  refine bodyPost_ret (v:=.tuple #[ct {} (.slice none 0 0) (.slice none 0 0),.int .i64 3]) (by simp[results,Tryz.results19,go_sem,ct,de]) rfl ?_
  exact qXV
theorem sX {g:Nat→Int}{n:Nat}(h:cC g n=0∨cC g n=4):16≤n∧isK (g 0)=true∧num g 2 2=n∧n≤1500∧g 13=0∧cC g n=if (norm (tot g 16)==65535)=false then 4 else 0:=by
 have hx:cC g n=cC g n:=rfl
 unfold cC at h
 split at h
 ·rcases h with h |h <;> cases h
 split at h
 ·rcases h with h |h <;> cases h
 split at h
 ·rcases h with h |h <;> cases h
 rename_i h1 h2 h3
 refine⟨by omega,by simpa using h2,?_,?_,?_,?_⟩
 ·have hp:aL g n 2=num g 2 2:=by unfold aL;rw[if_neg (by simp at h3;omega)]
  rw[←hp];simp at h3;exact h3.1.1
 ·simp at h3;omega
 ·simp at h3;exact h3.2
 unfold cC;rw[if_neg h1,if_neg h2,if_neg h3]
theorem cU {w w':World}{B n b size:Nat}{e:TypeId}{v:Value}{f:Nat→Value}(h:Ow w B e size v n f)(hg:w.grownBy w' (some b))(hne:v.ownBlock≠some b):Ow w' B e size v n f:=by
 exact qZW
theorem rK {w:World}{B n size:Nat}{e:TypeId}{v:Value}{f:Nat→Value}(h:Ow w B e size v n f)(x:Nat)(hx:w.heap.size≤x):v.ownBlock≠some x:=by
 rcases h.2 with ⟨rfl,_⟩ |⟨g',cap,cur,rfl,hB,hh,h1⟩
 ·intro e;cases e
 intro e
 simp only[Value.ownBlock,Option.some.injEq]at e
 rw[Array.getElem?_eq_none (by omega)]at hh
 cases hh
theorem fD {w:World}{o:Oper}{a:Act}{K:Act→World→Prop}{Q:Exit→Act→World→Prop}(hgd:o.guard=none)(s x:Operand)(ho:o.op =.call { callee:=.builtin .append,args:=#[s,x],argTypes:=#[23,23] })
 (E:Nat) (hs:a.eval s =.slice (some ⟨E,0,none⟩) 0 0) (hown:∀f,Ow w E 5 1 (.slice (some ⟨E,0,none⟩) 0 0) 0 f) (hE:E<w.heap.size)
 (A:Option Addr) (m c:Nat) (f2:Nat→Int) (hx:a.eval x =.slice A m c) (hr:By w A m f2) (hsz:m≤140737488355328)
 (h:∀A' c' w',OB w' E (.slice A' m c') m f2→w.grownBy w' (some E)→(∀x,x≠E→x<w.heap.size→(Value.slice A' m c').ownBlock≠some x)→K (a.put o.dst (.slice A' m c')) w'):Oper.wp Tryz.prog o a w K Q:=by
 have:=ql (ops:=#[]) (a:=a) (K:=K) (Q:=Q) (E:=True) hgd s x ho E _ hs hown A m c f2 hx hr hsz (by omega) (fun A' c' w' h1 _ _ h4 h5 h6=>h A' c' w' h1 h5 (fun x h7 h8 h9=>by
  rcases h6 x h9 with h10 |h10
  ·exact h7 (by injection h10 with h10;exact h10.symm)
  omega))
 rw[if_pos (by simp[Region.wanted,hgd])]at this
 exact this
theorem qJ3{P:Prop}(h:P:=by
 clear hK
 try simp only[Act.put,zA,zB,zC]
 refine only 15 rfl (by kernel_rfl) rfl (fun K hK=>?_)
 go_simp
 refine(fV.out _ cH.1 8 (by omega)).mono ?_
 rintro e' w' ⟨rfl,rfl⟩
 try go_wp2_with fail
 refine hK.out _ _ cH (fun _=>?_)
 clear hK
 try simp only[Act.put,zA,zB,zC]
 refine ae 16 (by assumption) ?_
 refine only 18 rfl (by kernel_rfl) rfl (fun K hK=>?_)
 exact qY5
 ):P:=h
theorem qQJ{P:Prop}(h:P:=by
 refine wp_region_held_drew (S:=fun w'=>By w' (some ⟨b,off,none⟩) n g∧Ce w' w.heap.size [(),(),(),(),(),(),(),(),(),false,(),.slice none 0 0,.slice none 0 0]∧Below w.heap.size w w') (by kernel_rfl) ?_ (fun hHeld=>?_)
 ·exact⟨h2.out.drew,fz.out,below_drewN B2.out 1⟩
 refine ae 0 (by assumption) ?_
 refine ae 1 (by assumption) ?_
 refine ae 2 (by assumption) ?_ (hy:=by intro w hSw;(try dsimp only at hSw);obtain ⟨hA,hC,hB⟩:=hSw;have z0:=hA.at_ (j:=0) (by omega);have z1:=hA.at_ (j:=1) (by omega);have z12:=hA.at_ (j:=12) (by omega);rw[Nat.add_zero]at z0;go_simp;(try with_reducible rfl))
 refine ae 3 (by assumption) ?_
 refine ae 4 (by assumption) ?_
 refine ae 5 (by assumption) ?_
 refine ae 6 (by assumption) ?_ (hy:=by intro w hSw;(try dsimp only at hSw);obtain ⟨hA,hC,hB⟩:=hSw;have z0:=hA.at_ (j:=0) (by omega);have z1:=hA.at_ (j:=1) (by omega);have z12:=hA.at_ (j:=12) (by omega);rw[Nat.add_zero]at z0;go_simp;(try with_reducible rfl))
 refine ae 7 (by assumption) ?_
 refine ae 8 (by assumption) ?_
 refine ae 9 (by assumption) ?_
 refine ae 10 (by assumption) ?_ (hy:=by intro w hSw;(try dsimp only at hSw);obtain ⟨hA,hC,hB⟩:=hSw;have z0:=hA.at_ (j:=0) (by omega);have z1:=hA.at_ (j:=1) (by omega);have z12:=hA.at_ (j:=12) (by omega);rw[Nat.add_zero]at z0;go_simp;(try with_reducible rfl))
 refine ae 11 (by assumption) ?_
 refine ae 12 (by assumption) ?_
 refine ae 14 (by assumption) ?_
 refine eX 13 17 rfl rfl (by kernel_rfl) rfl rfl (fun K hK=>?_) (fun K hK=>?_)
 ·go_simp
  refine(fV.out _ hHeld.1 4 (by omega)).mono ?_
  rintro e' w' ⟨rfl,rfl⟩
  try go_wp2_with fail
  refine hK.out _ _ hHeld (fun _=>?_)
  clear hK
  try simp only[Act.put,zA,zB,zC]
  refine eX 15 17 rfl rfl (by kernel_rfl) rfl rfl (fun K hK=>?_) (fun K hK=>?_)
  ·go_simp
   refine(fV.out _ hHeld.1 8 (by omega)).mono ?_
   rintro e' w' ⟨rfl,rfl⟩
   try go_wp2_with fail
   refine hK.out _ _ hHeld (fun _=>?_)
   clear hK
   try simp only[Act.put,zA,zB,zC]
   refine ae 16 (by assumption) ?_
   refine only 17 rfl (by kernel_rfl) rfl (fun K hK=>?_)
   go_simp
   refine hK.out _ _ ⟨hHeld.1.alloc _,hHeld.2.1.alloc _,hHeld.2.2.alloc hHeld.2.2.size _⟩ (fun cH=>?_)
   clear hK
   try simp only[Act.put,zA,zB,zC]
   refine only 18 rfl (by kernel_rfl) rfl (fun K hK=>?_)
   exact qY5
  go_simp
  refine hK.out _ _ ⟨hHeld.1.alloc _,hHeld.2.1.alloc _,hHeld.2.2.alloc hHeld.2.2.size _⟩ (fun cH=>?_)
  exact qJ3
 go_simp
 refine hK.out _ _ ⟨hHeld.1.alloc _,hHeld.2.1.alloc _,hHeld.2.2.alloc hHeld.2.2.size _⟩ (fun cH=>?_)
 clear hK
 try simp only[Act.put,zA,zB,zC]
 refine only 13 rfl (by kernel_rfl) rfl (fun K hK=>?_)
 go_simp
 refine(fV.out _ cH.1 4 (by omega)).mono ?_
 rintro e' w' ⟨rfl,rfl⟩
 try go_wp2_with fail
 refine hK.out _ _ cH (fun _=>?_)
 exact qJ3
 ):P:=h
theorem qQQ{P:Prop}(h:P:=by
 refine only 8 rfl (by kernel_rfl) rfl (fun K hK=>?_)
 refine fD rfl (.tmp 113) (.tmp 115) rfl E6 rfl e6 (by omega) _ (n-24) _ (fun j=>g (24+j)) rfl (r2.out _ g h6.1) (by omega) ?_
 intro A7 c7 w7 o7 g7 q7
 have h7:By w7 (some ⟨b,off,none⟩) n g∧Ce w7 w.heap.size [(),(),(),(),(),(),(),(),(),false,(),.slice none 0 0,.slice none 0 0]∧Below w.heap.size w w7:=⟨bT h6.1 g7 (by omega),h6.2.1.grown g7 (fun e=>by injection e with e;omega),h6.2.2.trans (af g7 (by omega) h6.2.2.size)⟩
 have Cm:=Cn.grown g7 (fun e=>by injection e with e;omega)
 have s7:=g7.size
 refine hK.out _ _ h7 (fun _=>?_)
 clear hK
 try simp only[Act.put,zA,zB,zC]
 have CC:=hid Cm
 have y0:=CC.out.2.1 0 _ rfl
 have y1:=CC.out.2.1 1 _ rfl
 have y2:=CC.out.2.1 2 _ rfl
 have y3:=CC.out.2.1 3 _ rfl
 have y4:=CC.out.2.1 4 _ rfl
 have y5:=CC.out.2.1 5 _ rfl
 have y6:=CC.out.2.1 6 _ rfl
 have y7:=CC.out.2.1 7 _ rfl
 have y8:=CC.out.2.1 8 _ rfl
 have y9:=CC.out.2.1 9 _ rfl
 have al:=CC.out.2.1 10 _ rfl
 have ak:=CC.out.2.1 11 _ rfl
 have aj:=CC.out.2.1 12 _ rfl
 have yf:=CC.out.2.2
 have yl:=CC.out.1
 have HH:=hid h7
 refine only 10 rfl (by kernel_rfl) rfl (fun K hK=>?_)
 go_simp
 refine hK.out _ _ ⟨bT HH.out.1 (gs 8 (.int .i64 (num g 20 2)) (World.grownBy.refl w7 (some L))) hBlt,HH.out.2.1.grown (gs 8 (.int .i64 (num g 20 2)) (World.grownBy.refl w7 (some L))) (fun e=>eI (by injection e)),(HH.out.2.2).setCell (p:=⟨L,8,none⟩) (Nat.le_of_lt hL) (.int .i64 (num g 20 2))⟩ (fun hN0=>?_)
 clear hK
 try simp only[Act.put,zA,zB,zC]
 refine ae 11 hN0 ?_
 clear hN0
 refine only 12 rfl (by kernel_rfl) rfl (fun K hK=>?_)
 go_simp
 refine hK.out _ _ ⟨bT HH.out.1 (gs 9 (.bool (num g 22 2==0)) (gs 8 (.int .i64 (num g 20 2)) (World.grownBy.refl w7 (some L)))) hBlt,HH.out.2.1.grown (gs 9 (.bool (num g 22 2==0)) (gs 8 (.int .i64 (num g 20 2)) (World.grownBy.refl w7 (some L)))) (fun e=>eI (by injection e)),((HH.out.2.2).setCell (p:=⟨L,8,none⟩) (Nat.le_of_lt hL) (.int .i64 (num g 20 2))).setCell (p:=⟨L,9,none⟩) (Nat.le_of_lt hL) (.bool (num g 22 2==0))⟩ (fun hN1=>?_)
 clear hK
 try simp only[Act.put,zA,zB,zC]
 refine ae 13 hN1 ?_
 clear hN1
 refine only 14 rfl (by kernel_rfl) rfl (fun K hK=>?_)
 go_simp
 refine hK.out _ _ ⟨bT HH.out.1 (gs 12 (.slice A7 (n-24) c7) (gs 9 (.bool (num g 22 2==0)) (gs 8 (.int .i64 (num g 20 2)) (World.grownBy.refl w7 (some L))))) hBlt,HH.out.2.1.grown (gs 12 (.slice A7 (n-24) c7) (gs 9 (.bool (num g 22 2==0)) (gs 8 (.int .i64 (num g 20 2)) (World.grownBy.refl w7 (some L))))) (fun e=>eI (by injection e)),(((HH.out.2.2).setCell (p:=⟨L,8,none⟩) (Nat.le_of_lt hL) (.int .i64 (num g 20 2))).setCell (p:=⟨L,9,none⟩) (Nat.le_of_lt hL) (.bool (num g 22 2==0))).setCell (p:=⟨L,12,none⟩) (Nat.le_of_lt hL) (.slice A7 (n-24) c7)⟩ (fun mC=>?_)
 clear hK
 try simp only[Act.put,zA,zB,zC]
 refine wpAnyH_done (by kernel_rfl) ?_ _
 have bR:=hid ((((CC.out).set 8 (.int .i64 (num g 20 2)) (by simp)).set 9 (.bool (num g 22 2==0)) (by simp)).set 12 (.slice A7 (n-24) c7) (by simp))
 have bG:=hid (HH.out.2.1.grown (gs 12 (.slice A7 (n-24) c7) (gs 9 (.bool (num g 22 2==0)) (gs 8 (.int .i64 (num g 20 2)) (World.grownBy.refl w7 (some L))))) (fun e=>eI (by injection e)))
 have pP:=hid ((((HH.out.2.2).setCell (p:=⟨L,8,none⟩) (Nat.le_of_lt hL) (.int .i64 (num g 20 2))).setCell (p:=⟨L,9,none⟩) (Nat.le_of_lt hL) (.bool (num g 22 2==0))).setCell (p:=⟨L,12,none⟩) (Nat.le_of_lt hL) (.slice A7 (n-24) c7))
 have k5:=hid (OB.grown o7 (gs 12 (.slice A7 (n-24) c7) (gs 9 (.bool (num g 22 2==0)) (gs 8 (.int .i64 (num g 20 2)) (World.grownBy.refl w7 (some L))))) (OB.ne o7 l6))
 clear mC
 clear y0 y1 y2 y3 y4 y5 y6 y7 y8 y9 al ak aj yf yl
 generalize (((w7.setCell ⟨L,8,none⟩ (.int .i64 (num g 20 2))).setCell ⟨L,9,none⟩ (.bool (num g 22 2==0))).setCell ⟨L,12,none⟩ (.slice A7 (n-24) c7))=w8 at *
 have y0:=bR.out.2.1 0 _ rfl
 have y1:=bR.out.2.1 1 _ rfl
 have y2:=bR.out.2.1 2 _ rfl
 have y3:=bR.out.2.1 3 _ rfl
 have y4:=bR.out.2.1 4 _ rfl
 have y5:=bR.out.2.1 5 _ rfl
 have y6:=bR.out.2.1 6 _ rfl
 have y7:=bR.out.2.1 7 _ rfl
 have y8:=bR.out.2.1 8 _ rfl
 have y9:=bR.out.2.1 9 _ rfl
 have al:=bR.out.2.1 10 _ rfl
 have ak:=bR.out.2.1 11 _ rfl
 have aj:=bR.out.2.1 12 _ rfl
 have yf:=bR.out.2.2
 have yl:=bR.out.1
 have z0:=bG.out.2.1 0 _ rfl
 have z1:=bG.out.2.1 1 _ rfl
 have z2:=bG.out.2.1 2 _ rfl
 have z3:=bG.out.2.1 3 _ rfl
 have z4:=bG.out.2.1 4 _ rfl
 have z5:=bG.out.2.1 5 _ rfl
 have z6:=bG.out.2.1 6 _ rfl
 have z7:=bG.out.2.1 7 _ rfl
 have z8:=bG.out.2.1 8 _ rfl
 have z9:=bG.out.2.1 9 _ rfl
 have kB:=bG.out.2.1 10 _ rfl
 have kz:=bG.out.2.1 11 _ rfl
 have z12:=bG.out.2.1 12 _ rfl
 have zf:=bG.out.2.2
 have zl:=bG.out.1
 go_wp2_with fail
 have CE:=(bG.out).s13 (.int .i64 (g 0)) (.int .i64 (g 1)) (.int .i64 (g 12)) (.int .i64 (num g 4 4)) (.int .i64 (num g 8 4)) (.int .i64 (num g 16 2)) (.int .i64 (num g 18 2)) (.int .i64 0) (.int .i64 (num g 20 2)) (.bool (num g 22 2==0)) (.int .i64 0) (.slice none 0 0) (.slice A7 (n-24) c7)
 have BE:=dz (b:=w.heap.size) (pP.out) (Nat.le_refl _) (.int .i64 (g 0)) (.int .i64 (g 1)) (.int .i64 (g 12)) (.int .i64 (num g 4 4)) (.int .i64 (num g 8 4)) (.int .i64 (num g 16 2)) (.int .i64 (num g 18 2)) (.int .i64 0) (.int .i64 (num g 20 2)) (.bool (num g 22 2==0)) (.int .i64 0) (.slice none 0 0) (.slice A7 (n-24) c7)
 have dr:=OB.grown (k5.out) (aY _ w.heap.size (.int .i64 (g 0)) (.int .i64 (g 1)) (.int .i64 (g 12)) (.int .i64 (num g 4 4)) (.int .i64 (num g 8 4)) (.int .i64 (num g 16 2)) (.int .i64 (num g 18 2)) (.int .i64 0) (.int .i64 (num g 20 2)) (.bool (num g 22 2==0)) (.int .i64 0) (.slice none 0 0) (.slice A7 (n-24) c7)) (OB.ne (k5.out) (by omega))
 unfold cK at CE BE dr
 replace CE:=hid CE
 replace BE:=hid BE
 replace dr:=hid dr
 refine cV (fun w'=>Ce w' w.heap.size [(g 0),(g 1),(g 12),(num g 4 4),(num g 8 4),(num g 16 2),(num g 18 2),(),(num g 20 2),.bool (num g 22 2==0),(),.slice none 0 0,.slice A7 (n-24) c7]∧Below w.heap.size w w'∧OB w' E6 (.slice A7 (n-24) c7) (n-24) (fun j=>g (24+j))) ⟨CE.out,BE.out,dr.out⟩ (fun wf hwf=>?_)
 obtain ⟨hc2,hbf,ho0⟩:=hwf
 have x0:=hc2.2.1 0 _ rfl
 have x1:=hc2.2.1 1 _ rfl
 have x2:=hc2.2.1 2 _ rfl
 have x3:=hc2.2.1 3 _ rfl
 have x4:=hc2.2.1 4 _ rfl
 have x5:=hc2.2.1 5 _ rfl
 have x6:=hc2.2.1 6 _ rfl
 have x7:=hc2.2.1 7 _ rfl
 have x8:=hc2.2.1 8 _ rfl
 have x9:=hc2.2.1 9 _ rfl
 have gj:=hc2.2.1 10 _ rfl
 have gi:=hc2.2.1 11 _ rfl
 have gg:=hc2.2.1 12 _ rfl
 refine bodyPost_ret (v:=.tuple #[.agg #[(g 0),(g 1),(g 12),(num g 4 4),(num g 8 4),(num g 16 2),(num g 18 2),(),(num g 20 2),.bool (num g 22 2==0),(),.slice none 0 0,.slice A7 (n-24) c7],()]) (by simp[results,Tryz.results19,go_sem,x0,x1,x2,x3,x4,x5,x6,x7,x8,x9,gj,gi,gg]) rfl ?_
 exact⟨.slice none 0 0,(.slice A7 (n-24) c7),by rw[jB.out,HE.out];rfl,by rw[jB.out];exact OB.nil,by rw[jB.out];exact OB.base ho0 (by omega),hbf⟩
 ):P:=h
theorem qJN{P:Prop}(h:P:=by
 refine only 3 rfl (by kernel_rfl) rfl (fun K hK=>?_)
 go_simp
 refine(mR.out _ h6.1 22 (by omega)).mono ?_
 rintro e' w' ⟨rfl,rfl⟩
 try go_wp2_with fail
 refine hK.out _ _ h6 (fun _=>?_)
 clear hK
 try simp only[Act.put,zA,zB,zC]
 refine ae 4 (by assumption) ?_
 exact qQQ
 ):P:=h
set_option maxRecDepth 100000 in
set_option maxHeartbeats 8000000 in
theorem wE (A:Option Addr)(n c:Nat)(g:Nat→Int)(w:World)(h:By w A n g)(hg:aC g)(hc:n≤c)(hb:n≤1000000)(hne:cC g n=0)(n24:24≤n)(b3:(g 0==3)=false)(b2:(g 0==2)=true) :
 Calls Tryz.prog 19 #[.slice A n c] w (Parsed w g n):=by
 have hz:∀w:World,(zeroValue 53).run Tryz.prog w =.ok (.agg #[(),(),(),(),(),(),(),(),(),false,(),.slice none 0 0,.slice none 0 0]) w:=fun w=>by kernel_rfl
 obtain ⟨h16,hk,hp,na,ou,hx⟩:=sX (.inl hne)
 have i1:¬(n:Int)<16:=by omega
 have gb:=hg 0
 obtain ⟨xx,ov⟩:=gb
 have HN:=hid (fun (w':World) (h':By w' A n g)=>c_ (aX A n c g w' h' hg 2 2 (by omega) (by omega) hb) hp)
 have hs:(norm (tot g 16)==65535)=true:=by rw[hne]at hx;split at hx;(cases hx);rename_i h;simpa using h
 have pJ:=hid (fun (w':World) (h':By w' A n g) c'=>iS (nI A 16 c' g w' (h'.less (k:=16) (by omega)) hg (by omega)) hs)
 clear hx hs
 have hA:=hid (h.below ((Below.refl w.heap.size w).alloc (Nat.le_refl _) (.cells #[(),(),(),(),(),(),(),(),(),false,(),.slice none 0 0,.slice none 0 0] 53)) (Nat.le_refl _))
 have nA:=hid h
 obtain ⟨b,off,rfl,hblt,hcell⟩:=hA.out (by omega)
 have c0:=hcell 0 (by omega)
 have c13:=hcell 13 (by omega)
 rw[Nat.add_zero]at c0
 have i2:(0:Int)<n:=by omega
 have i3:(13:Int)<n:=by omega
 have i4:(16:Int)≤c:=by omega
 have i5:¬(1500:Int)<n:=by omega
 have hk3:=oZ hk
 have k1:¬g 0<1:=by omega
 have k2:¬3<g 0:=by omega
 have e13:(g 13 != 0)=false:=by simpa using ou
 have sq:=hid hk3
 have HG:=hid hg
 clear hcell h hp hk hk3 sq ou hg
 have j7:az g n=dk g n:=by unfold az;rw[if_pos hne]
 clear hne
 have k3:¬g 0=3:=by simpa using b3
 have sa:decide ((n:Int)<24)=false:=by simp;omega
 have K2:Hid (g 0=2):=hid (by simpa using b2)
 go_enter Tryz.func19,Tryz.ntmps19
 go_wp2_with fail
 refine(HN.out _ hA.out).mono ?_
 rintro x w' ⟨rfl,rfl⟩
 go_wp2_with fail
 refine(pJ.out _ hA.out _).mono ?_
 rintro x w' ⟨rfl,rfl⟩
 go_upto_region 11 with (fail)
 have fz:=hid (Ce.made (w:=w) (l:=[(),(),(),(),(),(),(),(),(),false,(),.slice none 0 0,.slice none 0 0]) (T:=53) rfl)
 have B2:=hid ((Below.refl w.heap.size w).alloc (Nat.le_refl _) (.cells #[(),(),(),(),(),(),(),(),(),false,(),.slice none 0 0,.slice none 0 0] 53))
 have h2:=hA
 have jM:=fz.out.1
 simp only[List.toArray]at fz
 clear c0 c13 HN pJ hA
 generalize w.alloc (.cells #[(),(),(),(),(),(),(),(),(),false,(),.slice none 0 0,.slice none 0 0] 53)=w1 at *
 have hbw:b<w.heap.size:=Sl.lt nA.out (by omega)
 have fV:=hid (fun (w':World) (hw:By w' (some ⟨b,off,none⟩) n g) (a:Nat) (ha:a+4≤n)=>aX _ n c g w' hw HG.out a 4 (by omega) ha hb)
 have ov:=HG.out 1
 have rn:=HG.out 12
 obtain ⟨DX,DW⟩:=ov
 obtain ⟨yF,yE⟩:=rn
 have j1:(12:Int)<n:=by omega
 have j2:(1:Int)<n:=by omega
 have j3:0<n:=by omega
 have j4:1<n:=by omega
 have j5:12<n:=by omega
 have v0:IntKind.i64.wrap (g 0)=g 0:=IntWalk.i64_in _ (by omega)
 have v1:IntKind.i64.wrap (g 1)=g 1:=IntWalk.i64_in _ (by omega)
 have v2:IntKind.i64.wrap (g 12)=g 12:=IntWalk.i64_in _ (by omega)
 go_cut [4] from 63 (fun p wx=>∃L:Nat,p =.pointer (some ⟨L,0,none⟩)∧w.heap.size<L∧Ce wx L [(g 0),(g 1),(g 12),(num g 4 4),(num g 8 4),(),(),(),(),false,(),.slice none 0 0,.slice none 0 0]∧By wx (some ⟨b,off,none⟩) n g∧Ce wx w.heap.size [(),(),(),(),(),(),(),(),(),false,(),.slice none 0 0,.slice none 0 0]∧Below w.heap.size w wx)
 case first=>
  exact qQJ
 obtain ⟨L,rfl,hL,bq,hA,fx,hB⟩:=hcut
 replace bq:=hid bq
 replace fx:=hid fx
 replace hA:=hid hA
 replace hB:=hid hB
 have eI:L≠w.heap.size:=Nat.ne_of_gt hL
 have JX:w.heap.size≠L:=Nat.ne_of_lt hL
 have hBlt:b≠L:=by omega
 have IU:b≠w.heap.size:=by omega
 clear fz B2 h2 jM nA
 have o8:az g n=0:=by rw[j7];unfold dk;rw[if_neg k3,if_neg (by omega),if_neg (fun e=>by have:=e.1;have:=K2.out;omega)]
 have jB:Hid (ax g n ={ kind:=g 0,life:=g 1,piece:=g 12,src:=num g 4 4,dst:=num g 8 4,fp:=num g 16 2,tp:=num g 18 2,label:=num g 20 2,bare:=num g 22 2==0,nd:=n-24,gd:=fun j=>g (24+j) }):=hid (by unfold ax;rw[o8,if_pos rfl];unfold eY;rw[if_neg k3,if_pos K2.out])
 have HE:=hid o8
 clear o8 j7 sa k3
 obtain ⟨A9,r1,r2⟩:=eA (some ⟨b,off,none⟩) n c 24 n24 hc 24 rfl
 replace r2:=hid r2
 have mR:=hid (fun (w':World) (hw:By w' (some ⟨b,off,none⟩) n g) (a:Nat) (ha:a+2≤n)=>aX _ n c g w' hw HG.out a 2 (by omega) ha hb)
 have y0:=bq.out.2.1 0 _ rfl
 have y1:=bq.out.2.1 1 _ rfl
 have y2:=bq.out.2.1 2 _ rfl
 have y3:=bq.out.2.1 3 _ rfl
 have y4:=bq.out.2.1 4 _ rfl
 have y5:=bq.out.2.1 5 _ rfl
 have y6:=bq.out.2.1 6 _ rfl
 have y7:=bq.out.2.1 7 _ rfl
 have y8:=bq.out.2.1 8 _ rfl
 have y9:=bq.out.2.1 9 _ rfl
 have al:=bq.out.2.1 10 _ rfl
 have ak:=bq.out.2.1 11 _ rfl
 have aj:=bq.out.2.1 12 _ rfl
 have yf:=bq.out.2.2
 have yl:=bq.out.1
 go_wp2_with fail
 refine(mR.out _ hA.out 16 (by omega)).mono ?_
 rintro x w' ⟨rfl,rfl⟩
 go_wp2_with fail
 refine(mR.out _ hA.out 18 (by omega)).mono ?_
 rintro x w' ⟨rfl,rfl⟩
 have C2:=hid (((bq.out).set 5 (.int .i64 (num g 16 2)) (by simp)).set 6 (.int .i64 (num g 18 2)) (by simp))
 have R2:=hid (fx.out.grown (gs 6 (.int .i64 (num g 18 2)) (gs 5 (.int .i64 (num g 16 2)) (World.grownBy.refl wc (some L)))) (fun e=>eI (by injection e)))
 have A2:=hid (bT hA.out (gs 6 (.int .i64 (num g 18 2)) (gs 5 (.int .i64 (num g 16 2)) (World.grownBy.refl wc (some L)))) hBlt)
 have D2:=hid (((hB.out).setCell (p:=⟨L,5,none⟩) (Nat.le_of_lt hL) (.int .i64 (num g 16 2))).setCell (p:=⟨L,6,none⟩) (Nat.le_of_lt hL) (.int .i64 (num g 18 2)))
 go_upto_region 19 with (fail)
 clear y0 y1 y2 y3 y4 y5 y6 y7 y8 y9 al ak aj yf yl bq fx hA hB
 generalize ((wc.setCell ⟨L,5,none⟩ (.int .i64 (num g 16 2))).setCell ⟨L,6,none⟩ (.int .i64 (num g 18 2)))=wq at *
 have pR:=C2.out.bo
 refine wp_region_held_drew (S:=fun w'=>By w' (some ⟨b,off,none⟩) n g∧Ce w' w.heap.size [(),(),(),(),(),(),(),(),(),false,(),.slice none 0 0,.slice none 0 0]∧Below w.heap.size w w') (by kernel_rfl) ?_ (fun hHeld=>?_)
 ·exact⟨A2.out.drew,R2.out,below_drewN D2.out 1⟩
 clear A2 R2 D2 C2
 refine ae 0 (by assumption) ?_
 refine ae 2 (by assumption) ?_
 refine ae 6 (by assumption) ?_
 refine ae 7 (by assumption) ?_
 refine eX 1 5 rfl rfl (by kernel_rfl) rfl rfl (fun K hK=>?_) (fun K hK=>?_)
 ·go_simp
  refine(mR.out _ hHeld.1 20 (by omega)).mono ?_
  rintro e' w' ⟨rfl,rfl⟩
  try go_wp2_with fail
  refine hK.out _ _ hHeld (fun _=>?_)
  clear hK
  try simp only[Act.put,zA,zB,zC]
  refine ae 9 (by assumption) ?_
  refine eX 3 5 rfl rfl (by kernel_rfl) rfl rfl (fun K hK=>?_) (fun K hK=>?_)
  ·go_simp
   refine(mR.out _ hHeld.1 22 (by omega)).mono ?_
   rintro e' w' ⟨rfl,rfl⟩
   try go_wp2_with fail
   refine hK.out _ _ hHeld (fun _=>?_)
   clear hK
   try simp only[Act.put,zA,zB,zC]
   refine ae 4 (by assumption) ?_
   refine only 5 rfl (by kernel_rfl) rfl (fun K hK=>?_)
   go_simp
   have h6:By ((wq.alloc (.cells #[] 5)).drew) (some ⟨b,off,none⟩) n g∧Ce ((wq.alloc (.cells #[] 5)).drew) w.heap.size [(),(),(),(),(),(),(),(),(),false,(),.slice none 0 0,.slice none 0 0]∧Below w.heap.size w ((wq.alloc (.cells #[] 5)).drew):=⟨hHeld.1.alloc _,hHeld.2.1.alloc _,hHeld.2.2.alloc hHeld.2.2.size _⟩
   have Cn:Ce ((wq.alloc (.cells #[] 5)).drew) L [(g 0),(g 1),(g 12),(num g 4 4),(num g 8 4),(num g 16 2),(num g 18 2),(),(),false,(),.slice none 0 0,.slice none 0 0]:=pR.alloc (.cells #[] 5)
   have e6:∀f,Ow ((wq.alloc (.cells #[] 5)).drew) wq.heap.size 5 1 (.slice (some ⟨wq.heap.size,0,none⟩) 0 0) 0 f:=fun f=>Ow.new' (w:=wq.drew) rfl
   have l6:L<wq.heap.size:=pR.1
   have s6:((wq.alloc (.cells #[] 5)).drew).heap.size=wq.heap.size+1:=by simp
   refine hK.out _ _ h6 (fun _=>?_)
   clear hK
   try simp only[Act.put,zA,zB,zC]
   generalize ((wq.alloc (.cells #[] 5)).drew)=w6 at *
   generalize wq.heap.size=E6 at *
   exact qQQ
  go_simp
  have h6:By ((wq.alloc (.cells #[] 5)).drew) (some ⟨b,off,none⟩) n g∧Ce ((wq.alloc (.cells #[] 5)).drew) w.heap.size [(),(),(),(),(),(),(),(),(),false,(),.slice none 0 0,.slice none 0 0]∧Below w.heap.size w ((wq.alloc (.cells #[] 5)).drew):=⟨hHeld.1.alloc _,hHeld.2.1.alloc _,hHeld.2.2.alloc hHeld.2.2.size _⟩
  have Cn:Ce ((wq.alloc (.cells #[] 5)).drew) L [(g 0),(g 1),(g 12),(num g 4 4),(num g 8 4),(num g 16 2),(num g 18 2),(),(),false,(),.slice none 0 0,.slice none 0 0]:=pR.alloc (.cells #[] 5)
  have e6:∀f,Ow ((wq.alloc (.cells #[] 5)).drew) wq.heap.size 5 1 (.slice (some ⟨wq.heap.size,0,none⟩) 0 0) 0 f:=fun f=>Ow.new' (w:=wq.drew) rfl
  have l6:L<wq.heap.size:=pR.1
  have s6:((wq.alloc (.cells #[] 5)).drew).heap.size=wq.heap.size+1:=by simp
  refine hK.out _ _ h6 (fun _=>?_)
  clear hK
  try simp only[Act.put,zA,zB,zC]
  generalize ((wq.alloc (.cells #[] 5)).drew)=w6 at *
  generalize wq.heap.size=E6 at *
  exact qJN
 go_simp
 have h6:By ((wq.alloc (.cells #[] 5)).drew) (some ⟨b,off,none⟩) n g∧Ce ((wq.alloc (.cells #[] 5)).drew) w.heap.size [(),(),(),(),(),(),(),(),(),false,(),.slice none 0 0,.slice none 0 0]∧Below w.heap.size w ((wq.alloc (.cells #[] 5)).drew):=⟨hHeld.1.alloc _,hHeld.2.1.alloc _,hHeld.2.2.alloc hHeld.2.2.size _⟩
 have Cn:Ce ((wq.alloc (.cells #[] 5)).drew) L [(g 0),(g 1),(g 12),(num g 4 4),(num g 8 4),(num g 16 2),(num g 18 2),(),(),false,(),.slice none 0 0,.slice none 0 0]:=pR.alloc (.cells #[] 5)
 have e6:∀f,Ow ((wq.alloc (.cells #[] 5)).drew) wq.heap.size 5 1 (.slice (some ⟨wq.heap.size,0,none⟩) 0 0) 0 f:=fun f=>Ow.new' (w:=wq.drew) rfl
 have l6:L<wq.heap.size:=pR.1
 have s6:((wq.alloc (.cells #[] 5)).drew).heap.size=wq.heap.size+1:=by simp
 refine hK.out _ _ h6 (fun _=>?_)
 clear hK
 try simp only[Act.put,zA,zB,zC]
 generalize ((wq.alloc (.cells #[] 5)).drew)=w6 at *
 generalize wq.heap.size=E6 at *
 refine only 1 rfl (by kernel_rfl) rfl (fun K hK=>?_)
 go_simp
 refine(mR.out _ h6.1 20 (by omega)).mono ?_
 rintro e' w' ⟨rfl,rfl⟩
 try go_wp2_with fail
 refine hK.out _ _ h6 (fun _=>?_)
 clear hK
 try simp only[Act.put,zA,zB,zC]
 refine ae 9 (by assumption) ?_
 exact qJN
end Go.Proofs.YtalnfkijiehjhaaGreat
