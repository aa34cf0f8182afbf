/- The reference's Parse, on. -/
import Derived.Test.YtalnfkijiehjhaaGreatGa
import Derived.Test.YtalnfkijiehjhaaGreatWirRstream
import Derived.BigQuiet
import Derived.Deep.RegionHeld3
import Derived.Deep.Cut
namespace Go.Proofs.YtalnfkijiehjhaaGreat
open List renaming setIfInBounds_toArray→zA,set_cons_zero→zB,set_cons_succ→zC
set_option linter.unusedVariables false
set_option linter.unusedSimpArgs false
open Go.RowKit Go.ChangeShapes Go.WideShapes Go.ChangeAt
theorem GI {w:World}{o:Oper}{a:Act}{K:Act→World→Prop}{Q:Exit→Act→World→Prop}(hgd:o.guard=none)(s x:Operand)(ho:o.op =.call { callee:=.builtin .append,args:=#[s,x],argTypes:=#[23,23] })
 (base:Nat) (v:Value) (hs:a.eval s=v) (hown:∀f,Ow w base 5 1 v 0 f)
 (A:Option Addr) (m c:Nat) (f2:Nat→Int) (hx:a.eval x =.slice A m c) (hr:By w A m f2) (hsz:m≤140737488355328) (hbase:base≤w.heap.size)
 (h:∀A' c' w',OB w' base (.slice A' m c') m f2→Below base w w'→K (a.put o.dst (.slice A' m c')) w'):Oper.wp Tryz.prog o a w K Q:=by
 have:=ql (ops:=#[]) (a:=a) (K:=K) (Q:=Q) (E:=True) hgd s x ho base v hs hown A m c f2 hx hr hsz hbase (fun A' c' w' h1 _ _ h4 _ _=>h A' c' w' h1 h4)
 rw[if_pos (by simp[Region.wanted,hgd])]at this
 exact this
theorem qJW{P:Prop}(h:P:=by
 go_enter Tryz.func19,Tryz.ntmps19
 go_wp2_with fail
 refine(HN.out _ hA.out).mono ?_
 rintro x w' ⟨rfl,rfl⟩
 go_wp2_with fail
 refine(pJ.out _ hA.out _).mono ?_
 rintro x w' ⟨rfl,rfl⟩
 exact qJ6
 ):P:=h
set_option maxRecDepth 100000 in
set_option maxHeartbeats 8000000 in
theorem yc (A:Option Addr)(n c:Nat)(g:Nat→Int)(w:World)(h:By w A n g)(hg:aC g)(hc:n≤c)(hb:n≤1000000)(hne:cC g n=0∨cC g n=4) :
 Calls Tryz.prog 19 #[.slice A n c] w (Parsed w g n):=by
 have hz:∀w:World,(zeroValue 53).run Tryz.prog w =.ok (.agg #[(),(),(),(),(),(),(),(),(),false,(),.slice none 0 0,.slice none 0 0]) w:=fun w=>by kernel_rfl
 obtain ⟨h16,hk,hp,na,ou,hx⟩:=sX hne
 have i1:¬(n:Int)<16:=by omega
 have gb:=hg 0
 obtain ⟨xx,ov⟩:=gb
 have HN:=hid (fun (w':World) (h':By w' A n g)=>c_ (aX A n c g w' h' hg 2 2 (by omega) (by omega) hb) hp)
 obtain ⟨s,hs⟩:∃s,s=(norm (tot g 16)==65535):=⟨_,rfl⟩
 have pJ:=hid (fun (w':World) (h':By w' A n g) c'=>iS (nI A 16 c' g w' (h'.less (k:=16) (by omega)) hg (by omega)) hs.symm)
 rw[←hs]at hx
 have hA:=hid (h.below ((Below.refl w.heap.size w).alloc (Nat.le_refl _) (.cells #[(),(),(),(),(),(),(),(),(),false,(),.slice none 0 0,.slice none 0 0] 53)) (Nat.le_refl _))
 have nA:=hid h
 obtain ⟨b,off,rfl,hblt,hcell⟩:=hA.out (by omega)
 have c0:=hcell 0 (by omega)
 have c13:=hcell 13 (by omega)
 rw[Nat.add_zero]at c0
 have i2:(0:Int)<n:=by omega
 have i3:(13:Int)<n:=by omega
 have i4:(16:Int)≤c:=by omega
 have i5:¬(1500:Int)<n:=by omega
 have hk3:=oZ hk
 have k1:¬g 0<1:=by omega
 have k2:¬3<g 0:=by omega
 have e13:(g 13 != 0)=false:=by simpa using ou
 have sq:=hid hk3
 have HG:=hid hg
 clear hcell h hp hs hk hk3 ou hg
 cases s
 ·rw[if_pos rfl]at hx
  have hE:az g n=4:=kt 4 hx (by decide)
  have HR:Hid (ax g n ={}):=hid (by unfold ax;rw[hE,if_neg (by decide)])
  have HE:=hid hE
  clear hE
  clear hx hne
  go_enter Tryz.func19,Tryz.ntmps19
  go_wp2_with fail
  refine(HN.out _ hA.out).mono ?_
  rintro x w' ⟨rfl,rfl⟩
  go_wp2_with fail
  refine(pJ.out _ hA.out _).mono ?_
  rintro x w' ⟨rfl,rfl⟩
  go_wp2_with fail
  refine bodyPost_ret (v:=.tuple #[ct {} (.slice none 0 0) (.slice none 0 0),.int .i64 4]) (by simp[results,Tryz.results19,go_sem,ct,de]) rfl ?_
  exact qXV
 rw[if_neg (by decide)]at hx
 have j7:az g n=dk g n:=by unfold az;rw[if_pos hx]
 have DI:=hx
 replace DI:=hid DI
 clear hx hne
 cases sa:decide ((n:Int)<24)
 ·have n24:24≤n:=by simp at sa;omega
  cases b3:(g 0==3)
  ·have hx0:cC g n=0:=DI.out
   cases b2:(g 0==2)
   ·refine uh _ n c g w nA.out HG.out hc hb hx0 n24 b3 b2 (hid ?_)
    have h2:¬g 0=2:=by simpa using b2
    have h3:¬g 0=3:=by simpa using b3
    rcases sq.out with h |h |h
    ·exact h
    ·exact absurd h h2
    exact absurd h h3
   exact wE _ n c g w nA.out HG.out hc hb hx0 n24 b3 b2
  cases LX:decide ((n:Int)<44)
  ·have n44:44≤n:=by simp at LX;omega
   go_enter Tryz.func19,Tryz.ntmps19
   go_wp2_with fail
   refine(HN.out _ hA.out).mono ?_
   rintro x w' ⟨rfl,rfl⟩
   go_wp2_with fail
   refine(pJ.out _ hA.out _).mono ?_
   rintro x w' ⟨rfl,rfl⟩
   go_upto_region 11 with (fail)
   have fz:=hid (Ce.made (w:=w) (l:=[(),(),(),(),(),(),(),(),(),false,(),.slice none 0 0,.slice none 0 0]) (T:=53) rfl)
   have B2:=hid ((Below.refl w.heap.size w).alloc (Nat.le_refl _) (.cells #[(),(),(),(),(),(),(),(),(),false,(),.slice none 0 0,.slice none 0 0] 53))
   have h2:=hA
   have jM:=fz.out.1
   simp only[List.toArray]at fz
   clear c0 c13 HN pJ hA
   generalize w.alloc (.cells #[(),(),(),(),(),(),(),(),(),false,(),.slice none 0 0,.slice none 0 0] 53)=w1 at *
   have hbw:b<w.heap.size:=Sl.lt nA.out (by omega)
   have fV:=hid (fun (w':World) (hw:By w' (some ⟨b,off,none⟩) n g) (a:Nat) (ha:a+4≤n)=>aX _ n c g w' hw HG.out a 4 (by omega) ha hb)
   have ov:=HG.out 1
   have rn:=HG.out 12
   obtain ⟨DX,DW⟩:=ov
   obtain ⟨yF,yE⟩:=rn
   have j1:(12:Int)<n:=by omega
   have j2:(1:Int)<n:=by omega
   have j3:0<n:=by omega
   have j4:1<n:=by omega
   have j5:12<n:=by omega
   have v0:IntKind.i64.wrap (g 0)=g 0:=IntWalk.i64_in _ (by omega)
   have v1:IntKind.i64.wrap (g 1)=g 1:=IntWalk.i64_in _ (by omega)
   have v2:IntKind.i64.wrap (g 12)=g 12:=IntWalk.i64_in _ (by omega)
   go_cut [4] from 63 (fun p wx=>∃L:Nat,p =.pointer (some ⟨L,0,none⟩)∧w.heap.size<L∧Ce wx L [(g 0),(g 1),(g 12),(num g 4 4),(num g 8 4),(),(),(),(),false,(),.slice none 0 0,.slice none 0 0]∧By wx (some ⟨b,off,none⟩) n g∧Ce wx w.heap.size [(),(),(),(),(),(),(),(),(),false,(),.slice none 0 0,.slice none 0 0]∧Below w.heap.size w wx)
   case first=>
    exact qQJ
   obtain ⟨L,rfl,hL,bq,hA,fx,hB⟩:=hcut
   replace bq:=hid bq
   replace fx:=hid fx
   replace hA:=hid hA
   replace hB:=hid hB
   have eI:L≠w.heap.size:=Nat.ne_of_gt hL
   have JX:w.heap.size≠L:=Nat.ne_of_lt hL
   have hBlt:b≠L:=by omega
   have IU:b≠w.heap.size:=by omega
   clear fz B2 h2 jM nA
   have HB:=hid j7
   clear j7
   have c17:=hA.out.at_ (j:=17) (by omega)
   have i17:(17:Int)<n:=by omega
   have y0:=bq.out.2.1 0 _ rfl
   have y1:=bq.out.2.1 1 _ rfl
   have y2:=bq.out.2.1 2 _ rfl
   have y3:=bq.out.2.1 3 _ rfl
   have y4:=bq.out.2.1 4 _ rfl
   have y5:=bq.out.2.1 5 _ rfl
   have y6:=bq.out.2.1 6 _ rfl
   have y7:=bq.out.2.1 7 _ rfl
   have y8:=bq.out.2.1 8 _ rfl
   have y9:=bq.out.2.1 9 _ rfl
   have al:=bq.out.2.1 10 _ rfl
   have ak:=bq.out.2.1 11 _ rfl
   have aj:=bq.out.2.1 12 _ rfl
   have yf:=bq.out.2.2
   have yl:=bq.out.1
   have z0:=fx.out.2.1 0 _ rfl
   have z1:=fx.out.2.1 1 _ rfl
   have z2:=fx.out.2.1 2 _ rfl
   have z3:=fx.out.2.1 3 _ rfl
   have z4:=fx.out.2.1 4 _ rfl
   have z5:=fx.out.2.1 5 _ rfl
   have z6:=fx.out.2.1 6 _ rfl
   have z7:=fx.out.2.1 7 _ rfl
   have z8:=fx.out.2.1 8 _ rfl
   have z9:=fx.out.2.1 9 _ rfl
   have kB:=fx.out.2.1 10 _ rfl
   have kz:=fx.out.2.1 11 _ rfl
   have z12:=fx.out.2.1 12 _ rfl
   have zf:=fx.out.2.2
   have zl:=fx.out.1
   cases b17:(g 17 != 0)
   ·have o8:az g n=0:=by rw[HB.out];unfold dk;rw[if_pos (by simpa using b3),if_neg (by omega),if_neg (by simpa using b17)]
    have vR:Hid (ax g n ={ kind:=g 0,life:=g 1,piece:=g 12,src:=num g 4 4,dst:=num g 8 4,code:=g 16,nd:=n-20,gd:=fun j=>g (20+j) }):=hid (by unfold ax;rw[o8,if_pos rfl];unfold eY;rw[if_pos (by simpa using b3)])
    have HE:=hid o8
    clear o8
    have DY:=HG.out 16
    obtain ⟨KR,KP⟩:=DY
    have i16:(16:Int)<n:=by omega
    have v16:IntKind.i64.wrap (g 16)=g 16:=IntWalk.i64_in _ (by omega)
    obtain ⟨A9,r1,r2⟩:=eA (some ⟨b,off,none⟩) n c 20 (by omega) hc 20 rfl
    replace r2:=hid r2
    go_upto_region 15 with (fail)
    clear c17 z0 z1 z2 z3 z4 z5 z6 z7 z8 z9 kB kz z12 zf zl
    refine wp_region_held_drew (S:=fun w'=>By w' (some ⟨b,off,none⟩) n g∧Ce w' w.heap.size [(),(),(),(),(),(),(),(),(),false,(),.slice none 0 0,.slice none 0 0]∧Below w.heap.size w w') (by kernel_rfl) ?_ (fun hHeld=>?_)
    ·exact⟨hA.out.drew,fx.out,below_drewN hB.out 1⟩
    refine ae 0 (by assumption) ?_
    refine ae 1 (by assumption) ?_
    refine ae 2 (by assumption) ?_ (hy:=by intro w hSw;(try dsimp only at hSw);obtain ⟨hA,hC,hB⟩:=hSw;have Qx:=hA.at_ (j:=16) (by omega);go_simp;(try with_reducible rfl))
    refine ae 3 (by assumption) ?_
    refine ae 5 (by assumption) ?_
    refine ae 6 (by assumption) ?_
    refine ae 8 (by assumption) ?_
    refine only 4 rfl (by kernel_rfl) rfl (fun K hK=>?_)
    go_simp
    have IQ:By (wc.drew.alloc (.cells #[] 5)) (some ⟨b,off,none⟩) n g∧Ce (wc.drew.alloc (.cells #[] 5)) w.heap.size [(),(),(),(),(),(),(),(),(),false,(),.slice none 0 0,.slice none 0 0]∧Below w.heap.size w (wc.drew.alloc (.cells #[] 5)):=⟨hHeld.1.alloc _,hHeld.2.1.alloc _,hHeld.2.2.alloc hHeld.2.2.size _⟩
    refine hK.out _ _ IQ (fun _=>?_)
    clear hK
    try simp only[Act.put,zA,zB,zC]
    refine only 7 rfl (by kernel_rfl) rfl (fun K hK=>?_)
    refine GI rfl (.tmp 92) (.tmp 94) rfl wc.heap.size _ rfl (fun f=>Ow.new' (w:=wc.drew) (g:=wc.heap.size) rfl) _ (n-20) _ (fun j=>g (20+j)) rfl (r2.out _ g IQ.1) (by omega) (by simp) ?_
    intro A7 c7 w7 Lq o5
    have jR:wc.heap.size≤w7.heap.size:=by have:=o5.size;simp at this;omega
    have hH7:By w7 (some ⟨b,off,none⟩) n g∧Ce w7 w.heap.size [(),(),(),(),(),(),(),(),(),false,(),.slice none 0 0,.slice none 0 0]∧Below w.heap.size w w7:=⟨Sl.below hHeld.1 (Below.trans ((Below.refl wc.drew.heap.size wc.drew).alloc (Nat.le_refl _) (.cells #[] 5)) o5) (Nat.le_refl _),hHeld.2.1.below (Below.trans ((Below.refl wc.drew.heap.size wc.drew).alloc (Nat.le_refl _) (.cells #[] 5)) o5),hHeld.2.2.trans ((Below.trans ((Below.refl wc.drew.heap.size wc.drew).alloc (Nat.le_refl _) (.cells #[] 5)) o5).mono hHeld.2.2.size)⟩
    refine hK.out _ _ hH7 (fun _=>?_)
    clear hK
    try simp only[Act.put,zA,zB,zC]
    have rW:=bq.out.1
    have C6:=hid (bq.out.bo.below (Below.trans ((Below.refl wc.drew.heap.size wc.drew).alloc (Nat.le_refl _) (.cells #[] 5)) o5))
    have OO:=hid Lq
    clear Lq o5 hHeld IQ
    clear y0 y1 y2 y3 y4 y5 y6 y7 y8 y9 al ak aj yf yl
    have y0:=C6.out.2.1 0 _ rfl
    have y1:=C6.out.2.1 1 _ rfl
    have y2:=C6.out.2.1 2 _ rfl
    have y3:=C6.out.2.1 3 _ rfl
    have y4:=C6.out.2.1 4 _ rfl
    have y5:=C6.out.2.1 5 _ rfl
    have y6:=C6.out.2.1 6 _ rfl
    have y7:=C6.out.2.1 7 _ rfl
    have y8:=C6.out.2.1 8 _ rfl
    have y9:=C6.out.2.1 9 _ rfl
    have al:=C6.out.2.1 10 _ rfl
    have ak:=C6.out.2.1 11 _ rfl
    have aj:=C6.out.2.1 12 _ rfl
    have yf:=C6.out.2.2
    have yl:=C6.out.1
    have k_:=hid hH7
    clear hH7
    refine only 9 rfl (by kernel_rfl) rfl (fun K hK=>?_)
    go_simp
    refine hK.out _ _ ⟨bT k_.out.1 (gs 10 (.int .i64 (g 16)) (World.grownBy.refl w7 (some L))) hBlt,k_.out.2.1.grown (gs 10 (.int .i64 (g 16)) (World.grownBy.refl w7 (some L))) (fun e=>eI (by injection e)),(k_.out.2.2).setCell (p:=⟨L,10,none⟩) (Nat.le_of_lt hL) (.int .i64 (g 16))⟩ (fun hN0=>?_)
    clear hK
    try simp only[Act.put,zA,zB,zC]
    refine ae 10 hN0 ?_
    clear hN0
    refine only 11 rfl (by kernel_rfl) rfl (fun K hK=>?_)
    go_simp
    refine hK.out _ _ ⟨bT k_.out.1 (gs 12 (.slice A7 (n-20) c7) (gs 10 (.int .i64 (g 16)) (World.grownBy.refl w7 (some L)))) hBlt,k_.out.2.1.grown (gs 12 (.slice A7 (n-20) c7) (gs 10 (.int .i64 (g 16)) (World.grownBy.refl w7 (some L)))) (fun e=>eI (by injection e)),((k_.out.2.2).setCell (p:=⟨L,10,none⟩) (Nat.le_of_lt hL) (.int .i64 (g 16))).setCell (p:=⟨L,12,none⟩) (Nat.le_of_lt hL) (.slice A7 (n-20) c7)⟩ (fun hN1=>?_)
    clear hK
    try simp only[Act.put,zA,zB,zC]
    refine wpAnyH_done (by kernel_rfl) ?_ _
    have C7:=hid (((C6.out).set 10 (.int .i64 (g 16)) (by simp)).set 12 (.slice A7 (n-20) c7) (by simp))
    have R7:=hid (k_.out.2.1.grown (gs 12 (.slice A7 (n-20) c7) (gs 10 (.int .i64 (g 16)) (World.grownBy.refl w7 (some L)))) (fun e=>eI (by injection e)))
    have D7:=hid (((k_.out.2.2).setCell (p:=⟨L,10,none⟩) (Nat.le_of_lt hL) (.int .i64 (g 16))).setCell (p:=⟨L,12,none⟩) (Nat.le_of_lt hL) (.slice A7 (n-20) c7))
    have B_:=hid (OB.grown OO.out (gs 12 (.slice A7 (n-20) c7) (gs 10 (.int .i64 (g 16)) (World.grownBy.refl w7 (some L)))) (OB.ne OO.out rW))
    clear hN1
    clear y0 y1 y2 y3 y4 y5 y6 y7 y8 y9 al ak aj yf yl
    generalize ((w7.setCell ⟨L,10,none⟩ (.int .i64 (g 16))).setCell ⟨L,12,none⟩ (.slice A7 (n-20) c7))=w8 at *
    have y0:=C7.out.2.1 0 _ rfl
    have y1:=C7.out.2.1 1 _ rfl
    have y2:=C7.out.2.1 2 _ rfl
    have y3:=C7.out.2.1 3 _ rfl
    have y4:=C7.out.2.1 4 _ rfl
    have y5:=C7.out.2.1 5 _ rfl
    have y6:=C7.out.2.1 6 _ rfl
    have y7:=C7.out.2.1 7 _ rfl
    have y8:=C7.out.2.1 8 _ rfl
    have y9:=C7.out.2.1 9 _ rfl
    have al:=C7.out.2.1 10 _ rfl
    have ak:=C7.out.2.1 11 _ rfl
    have aj:=C7.out.2.1 12 _ rfl
    have yf:=C7.out.2.2
    have yl:=C7.out.1
    have z0:=R7.out.2.1 0 _ rfl
    have z1:=R7.out.2.1 1 _ rfl
    have z2:=R7.out.2.1 2 _ rfl
    have z3:=R7.out.2.1 3 _ rfl
    have z4:=R7.out.2.1 4 _ rfl
    have z5:=R7.out.2.1 5 _ rfl
    have z6:=R7.out.2.1 6 _ rfl
    have z7:=R7.out.2.1 7 _ rfl
    have z8:=R7.out.2.1 8 _ rfl
    have z9:=R7.out.2.1 9 _ rfl
    have kB:=R7.out.2.1 10 _ rfl
    have kz:=R7.out.2.1 11 _ rfl
    have z12:=R7.out.2.1 12 _ rfl
    have zf:=R7.out.2.2
    have zl:=R7.out.1
    go_wp2_with fail
    have CE:=(R7.out).s13 (.int .i64 (g 0)) (.int .i64 (g 1)) (.int .i64 (g 12)) (.int .i64 (num g 4 4)) (.int .i64 (num g 8 4)) (.int .i64 0) (.int .i64 0) (.int .i64 0) (.int .i64 0) (.bool false) (.int .i64 (g 16)) (.slice none 0 0) (.slice A7 (n-20) c7)
    have BE:=dz (b:=w.heap.size) (D7.out) (Nat.le_refl _) (.int .i64 (g 0)) (.int .i64 (g 1)) (.int .i64 (g 12)) (.int .i64 (num g 4 4)) (.int .i64 (num g 8 4)) (.int .i64 0) (.int .i64 0) (.int .i64 0) (.int .i64 0) (.bool false) (.int .i64 (g 16)) (.slice none 0 0) (.slice A7 (n-20) c7)
    have dr:=OB.grown (B_.out) (aY _ w.heap.size (.int .i64 (g 0)) (.int .i64 (g 1)) (.int .i64 (g 12)) (.int .i64 (num g 4 4)) (.int .i64 (num g 8 4)) (.int .i64 0) (.int .i64 0) (.int .i64 0) (.int .i64 0) (.bool false) (.int .i64 (g 16)) (.slice none 0 0) (.slice A7 (n-20) c7)) (OB.ne (B_.out) (by omega))
    unfold cK at CE BE dr
    replace CE:=hid CE
    replace BE:=hid BE
    replace dr:=hid dr
    refine cV (fun w'=>Ce w' w.heap.size [(g 0),(g 1),(g 12),(num g 4 4),(num g 8 4),(),(),(),(),false,(g 16),.slice none 0 0,.slice A7 (n-20) c7]∧Below w.heap.size w w'∧OB w' wc.heap.size (.slice A7 (n-20) c7) (n-20) (fun j=>g (20+j))) ⟨CE.out,BE.out,dr.out⟩ (fun wf hwf=>?_)
    obtain ⟨hc2,hbf,ho0⟩:=hwf
    have x0:=hc2.2.1 0 _ rfl
    have x1:=hc2.2.1 1 _ rfl
    have x2:=hc2.2.1 2 _ rfl
    have x3:=hc2.2.1 3 _ rfl
    have x4:=hc2.2.1 4 _ rfl
    have x5:=hc2.2.1 5 _ rfl
    have x6:=hc2.2.1 6 _ rfl
    have x7:=hc2.2.1 7 _ rfl
    have x8:=hc2.2.1 8 _ rfl
    have x9:=hc2.2.1 9 _ rfl
    have gj:=hc2.2.1 10 _ rfl
    have gi:=hc2.2.1 11 _ rfl
    have gg:=hc2.2.1 12 _ rfl
    refine bodyPost_ret (v:=.tuple #[.agg #[(g 0),(g 1),(g 12),(num g 4 4),(num g 8 4),(),(),(),(),false,(g 16),.slice none 0 0,.slice A7 (n-20) c7],()]) (by simp[results,Tryz.results19,go_sem,x0,x1,x2,x3,x4,x5,x6,x7,x8,x9,gj,gi,gg]) rfl ?_
    exact⟨.slice none 0 0,(.slice A7 (n-20) c7),by rw[vR.out,HE.out];rfl,by rw[vR.out];exact OB.nil,by rw[vR.out];exact OB.base ho0 (by omega),hbf⟩
   have hE:az g n=2:=by rw[HB.out];unfold dk;rw[if_pos (by simpa using b3),if_neg (by omega),if_pos (by simpa using b17)]
   have HR:Hid (ax g n ={}):=hid (by unfold ax;rw[hE,if_neg (by decide)])
   have HE:=hid hE
   clear hE
   clear n44 n24
   go_wp2_with fail
   have CE:=Ce.s13 fx.out (.int .i64 0) (.int .i64 0) (.int .i64 0) (.int .i64 0) (.int .i64 0) (.int .i64 0) (.int .i64 0) (.int .i64 0) (.int .i64 0) (.bool false) (.int .i64 0) (.slice none 0 0) (.slice none 0 0)
   have BE:=dz (b:=w.heap.size) hB.out (Nat.le_refl _) (.int .i64 0) (.int .i64 0) (.int .i64 0) (.int .i64 0) (.int .i64 0) (.int .i64 0) (.int .i64 0) (.int .i64 0) (.int .i64 0) (.bool false) (.int .i64 0) (.slice none 0 0) (.slice none 0 0)
   unfold cK at CE BE
   replace CE:=hid CE
   replace BE:=hid BE
   refine cV (fun w'=>Ce w' w.heap.size [(),(),(),(),(),(),(),(),(),false,(),.slice none 0 0,.slice none 0 0]∧Below w.heap.size w w') ⟨CE.out,BE.out⟩ (fun wf hwf=>?_)
   obtain ⟨hc2,hbf⟩:=hwf
   have x0:=hc2.2.1 0 _ rfl
   have x1:=hc2.2.1 1 _ rfl
   have x2:=hc2.2.1 2 _ rfl
   have x3:=hc2.2.1 3 _ rfl
   have x4:=hc2.2.1 4 _ rfl
   have x5:=hc2.2.1 5 _ rfl
   have x6:=hc2.2.1 6 _ rfl
   have x7:=hc2.2.1 7 _ rfl
   have x8:=hc2.2.1 8 _ rfl
   have x9:=hc2.2.1 9 _ rfl
   have gj:=hc2.2.1 10 _ rfl
   have gi:=hc2.2.1 11 _ rfl
   have gg:=hc2.2.1 12 _ rfl
   refine bodyPost_ret (v:=.tuple #[ct {} (.slice none 0 0) (.slice none 0 0),.int .i64 2]) (by simp[results,Tryz.results19,go_sem,ct,de,x0,x1,x2,x3,x4,x5,x6,x7,x8,x9,gj,gi,gg]) rfl ?_
   exact qZA
  have n44:n<44:=by simp at LX;omega
  have hE:az g n=1:=by rw[j7];unfold dk;rw[if_pos (by simpa using b3),if_pos n44]
  have HR:Hid (ax g n ={}):=hid (by unfold ax;rw[hE,if_neg (by decide)])
  have HE:=hid hE
  clear hE
  clear j7 n44 n24
  exact qJW
 have n24:n<24:=by simp at sa;omega
 have hE:az g n=1:=by rw[j7];unfold dk;by_cases h3:g 0=3;(rw[if_pos h3,if_pos (by omega)]);(rw[if_neg h3,if_pos n24])
 have HR:Hid (ax g n ={}):=hid (by unfold ax;rw[hE,if_neg (by decide)])
 have HE:=hid hE
 clear hE
 clear j7 n24
 exact qJW
theorem hH (A:Option Addr)(n c:Nat)(g:Nat→Int)(w:World)(h:By w A n g)(hg:aC g)(hc:n≤c)(hb:n≤1000000) :
 Calls Tryz.prog 19 #[.slice A n c] w (Parsed w g n):=by
 by_cases h0:cC g n=0∨cC g n=4
 ·exact yc A n c g w h hg hc hb h0
 exact zN A n c g w h hg hc hb ⟨fun e=>h0 (.inl e),fun e=>h0 (.inr e)⟩
end Go.Proofs.YtalnfkijiehjhaaGreat
