/- The reference's Parse of a stream. -/
import Derived.Test.YtalnfkijiehjhaaGreatGa
import Derived.Test.YtalnfkijiehjhaaGreatWrf
import Derived.BigQuiet
import Derived.Deep.RegionHeld3
import Derived.Deep.Cut
namespace Go.Proofs.YtalnfkijiehjhaaGreat
open List renaming setIfInBounds_toArray→zA,set_cons_zero→zB,set_cons_succ→zC
set_option linter.unusedVariables false
set_option linter.unusedSimpArgs false
open Go.RowKit Go.ChangeShapes Go.WideShapes Go.ChangeAt
def qP1 (w:World)(g:Nat→Int)(n:Nat)(e:Ending)(w':World):Prop:=
 ∃O D:Value,e =.returned (.tuple #[bS (aj g n) O D,(ax g n)])∧OB w' w.heap.size O (aj g n).no (aj g n).go∧OB w' w.heap.size D (aj g n).nd (aj g n).gd∧(∀b,O.ownBlock=some b→D.ownBlock≠some b)∧Below w.heap.size w w'
set_option maxRecDepth 100000 in
set_option maxHeartbeats 8000000 in
theorem qrs2 (A:Option Addr)(n c:Nat)(g:Nat→Int)(w:World)(h:By w A n g)(hg:az g)(hc:n≤c)(hb:n≤1000000)(hne:cz g n=0)(n24:24≤n)(b3:(g 0==3)=false)(b2:(g 0==2)=false)(K1:Hid (g 0=1)) :
 Calls Tryz.prog 19 #[.slice A n c] w (qP1 w g n):=by
 have hz:∀w:World,(zeroValue 53).run Tryz.prog w =.ok (.agg #[(),(),(),(),(),(),(),(),(),false,(),.slice none 0 0,.slice none 0 0]) w:=fun w=>by kernel_rfl
 obtain ⟨h16,hk,hp,oz,nC,hx⟩:=rT (.inl hne)
 have i1:¬(n:Int)<16:=by omega
 have gb:=hg 0
 obtain ⟨wu,nD⟩:=gb
 have HN:=hid (fun (w':World) (h':By w' A n g)=>dc (aY A n c g w' h' hg 2 2 (by omega) (by omega) hb) hp)
 have hs:(norm (tot g 16)==65535)=true:=by rw[hne]at hx;split at hx;(cases hx);rename_i h;simpa using h
 have oQ:=hid (fun (w':World) (h':By w' A n g) c'=>iD (kO A 16 c' g w' (h'.less (k:=16) (by omega)) hg (by omega)) hs)
 clear hx hs
 have hA:=hid (h.below ((Below.refl w.heap.size w).alloc (Nat.le_refl _) (.cells #[(),(),(),(),(),(),(),(),(),false,(),.slice none 0 0,.slice none 0 0] 53)) (Nat.le_refl _))
 have mV:=hid h
 obtain ⟨b,off,rfl,hblt,hcell⟩:=hA.out (by omega)
 have c0:=hcell 0 (by omega)
 have c13:=hcell 13 (by omega)
 rw[Nat.add_zero]at c0
 have i2:(0:Int)<n:=by omega
 have i3:(13:Int)<n:=by omega
 have i4:(16:Int)≤c:=by omega
 have i5:¬(1500:Int)<n:=by omega
 have hk3:=q8 hk
 have k1:¬g 0<1:=by omega
 have k2:¬3<g 0:=by omega
 have e13:(g 13 != 0)=false:=by simpa using nC
 have An:=hid hk3
 have HG:=hid hg
 clear hcell h hp hk hk3 An nC hg
 have jL:ax g n=cJ g n:=by unfold ax;rw[if_pos hne]
 clear hne
 have k3:¬g 0=3:=by simpa using b3
 have rv:decide ((n:Int)<24)=false:=by simp;omega
 have M7:¬g 0=2:=by simpa using b2
 go_enter Tryz.func19,Tryz.ntmps19
 go_wp2_with fail
 refine(HN.out _ hA.out).mono ?_
 rintro x w' ⟨rfl,rfl⟩
 go_wp2_with fail
 refine(oQ.out _ hA.out _).mono ?_
 rintro x w' ⟨rfl,rfl⟩
 go_upto_region 11 with (fail)
 have ff:=hid (Ce.made (w:=w) (l:=[(),(),(),(),(),(),(),(),(),false,(),.slice none 0 0,.slice none 0 0]) (T:=53) rfl)
 have B2:=hid ((Below.refl w.heap.size w).alloc (Nat.le_refl _) (.cells #[(),(),(),(),(),(),(),(),(),false,(),.slice none 0 0,.slice none 0 0] 53))
 have h2:=hA
 have jt:=ff.out.1
 simp only[List.toArray]at ff
 clear c0 c13 HN oQ hA
 generalize w.alloc (.cells #[(),(),(),(),(),(),(),(),(),false,(),.slice none 0 0,.slice none 0 0] 53)=w1 at *
 have hbw:b<w.heap.size:=Sl.lt mV.out (by omega)
 have g_:=hid (fun (w':World) (hw:By w' (some ⟨b,off,none⟩) n g) (a:Nat) (ha:a+4≤n)=>aY _ n c g w' hw HG.out a 4 (by omega) ha hb)
 have nD:=HG.out 1
 have qf:=HG.out 12
 obtain ⟨Cg,Cf⟩:=nD
 obtain ⟨xI,xH⟩:=qf
 have j1:(12:Int)<n:=by omega
 have j2:(1:Int)<n:=by omega
 have j3:0<n:=by omega
 have j4:1<n:=by omega
 have j5:12<n:=by omega
 have v0:IntKind.i64.wrap (g 0)=g 0:=IntWalk.i64_in _ (by omega)
 have v1:IntKind.i64.wrap (g 1)=g 1:=IntWalk.i64_in _ (by omega)
 have v2:IntKind.i64.wrap (g 12)=g 12:=IntWalk.i64_in _ (by omega)
 go_cut [4] from 63 (fun p wx=>∃L:Nat,p =.pointer (some ⟨L,0,none⟩)∧w.heap.size<L∧Ce wx L [(g 0),(g 1),(g 12),(num g 4 4),(num g 8 4),(),(),(),(),false,(),.slice none 0 0,.slice none 0 0]∧By wx (some ⟨b,off,none⟩) n g∧Ce wx w.heap.size [(),(),(),(),(),(),(),(),(),false,(),.slice none 0 0,.slice none 0 0]∧Below w.heap.size w wx)
 case first=>
  refine wp_region_held_drew (S:=fun w'=>By w' (some ⟨b,off,none⟩) n g∧Ce w' w.heap.size [(),(),(),(),(),(),(),(),(),false,(),.slice none 0 0,.slice none 0 0]∧Below w.heap.size w w') (by kernel_rfl) ?_ (fun hHeld=>?_)
  ·exact⟨h2.out.drew,ff.out,below_drewN B2.out 1⟩
  refine ae 0 (by assumption) ?_
  refine ae 1 (by assumption) ?_
  refine ae 2 (by assumption) ?_ (hy:=by intro w hSw;(try dsimp only at hSw);obtain ⟨hA,hC,hB⟩:=hSw;have z0:=hA.at_ (j:=0) (by omega);have z1:=hA.at_ (j:=1) (by omega);have z12:=hA.at_ (j:=12) (by omega);rw[Nat.add_zero]at z0;go_simp;(try with_reducible rfl))
  refine ae 3 (by assumption) ?_
  refine ae 4 (by assumption) ?_
  refine ae 5 (by assumption) ?_
  refine ae 6 (by assumption) ?_ (hy:=by intro w hSw;(try dsimp only at hSw);obtain ⟨hA,hC,hB⟩:=hSw;have z0:=hA.at_ (j:=0) (by omega);have z1:=hA.at_ (j:=1) (by omega);have z12:=hA.at_ (j:=12) (by omega);rw[Nat.add_zero]at z0;go_simp;(try with_reducible rfl))
  refine ae 7 (by assumption) ?_
  refine ae 8 (by assumption) ?_
  refine ae 9 (by assumption) ?_
  refine ae 10 (by assumption) ?_ (hy:=by intro w hSw;(try dsimp only at hSw);obtain ⟨hA,hC,hB⟩:=hSw;have z0:=hA.at_ (j:=0) (by omega);have z1:=hA.at_ (j:=1) (by omega);have z12:=hA.at_ (j:=12) (by omega);rw[Nat.add_zero]at z0;go_simp;(try with_reducible rfl))
  refine ae 11 (by assumption) ?_
  refine ae 12 (by assumption) ?_
  refine ae 14 (by assumption) ?_
  refine eO 13 17 rfl rfl (by kernel_rfl) rfl rfl (fun K hK=>?_) (fun K hK=>?_)
  ·go_simp
   refine(g_.out _ hHeld.1 4 (by omega)).mono ?_
   rintro e' w' ⟨rfl,rfl⟩
   try go_wp2_with fail
   refine hK.out _ _ hHeld (fun _=>?_)
   clear hK
   try simp only[Act.put,zA,zB,zC]
   refine eO 15 17 rfl rfl (by kernel_rfl) rfl rfl (fun K hK=>?_) (fun K hK=>?_)
   ·go_simp
    refine(g_.out _ hHeld.1 8 (by omega)).mono ?_
    rintro e' w' ⟨rfl,rfl⟩
    try go_wp2_with fail
    refine hK.out _ _ hHeld (fun _=>?_)
    clear hK
    try simp only[Act.put,zA,zB,zC]
    refine ae 16 (by assumption) ?_
    refine only 17 rfl (by kernel_rfl) rfl (fun K hK=>?_)
    go_simp
    refine hK.out _ _ ⟨hHeld.1.alloc _,hHeld.2.1.alloc _,hHeld.2.2.alloc hHeld.2.2.size _⟩ (fun cA=>?_)
    clear hK
    try simp only[Act.put,zA,zB,zC]
    refine only 18 rfl (by kernel_rfl) rfl (fun K hK=>?_)
    go_simp
    refine hK.out _ _ ⟨hHeld.1.alloc _,hHeld.2.1.alloc _,hHeld.2.2.alloc hHeld.2.2.size _⟩ (fun _=>?_)
    clear hK
    try simp only[Act.put,zA,zB,zC]
    refine wpAnyH_done (by kernel_rfl) ?_ _
    go_wp2_with fail
    go_meet
    exact⟨_,rfl,jt,(Ce.made (w:=w1) (l:=[(g 0),(g 1),(g 12),(num g 4 4),(num g 8 4),(),(),(),(),false,(),.slice none 0 0,.slice none 0 0]) rfl).aZ,(h2.out.alloc _).drew,(ff.out.alloc _).aZ,(B2.out.alloc B2.out.size _).drew⟩
   go_simp
   refine hK.out _ _ ⟨hHeld.1.alloc _,hHeld.2.1.alloc _,hHeld.2.2.alloc hHeld.2.2.size _⟩ (fun cA=>?_)
   clear hK
   try simp only[Act.put,zA,zB,zC]
   refine only 15 rfl (by kernel_rfl) rfl (fun K hK=>?_)
   go_simp
   refine(g_.out _ cA.1 8 (by omega)).mono ?_
   rintro e' w' ⟨rfl,rfl⟩
   try go_wp2_with fail
   refine hK.out _ _ cA (fun _=>?_)
   clear hK
   try simp only[Act.put,zA,zB,zC]
   refine ae 16 (by assumption) ?_
   refine only 18 rfl (by kernel_rfl) rfl (fun K hK=>?_)
   go_simp
   refine hK.out _ _ ⟨hHeld.1.alloc _,hHeld.2.1.alloc _,hHeld.2.2.alloc hHeld.2.2.size _⟩ (fun _=>?_)
   clear hK
   try simp only[Act.put,zA,zB,zC]
   refine wpAnyH_done (by kernel_rfl) ?_ _
   go_wp2_with fail
   go_meet
   exact⟨_,rfl,jt,(Ce.made (w:=w1) (l:=[(g 0),(g 1),(g 12),(num g 4 4),(num g 8 4),(),(),(),(),false,(),.slice none 0 0,.slice none 0 0]) rfl).aZ,(h2.out.alloc _).drew,(ff.out.alloc _).aZ,(B2.out.alloc B2.out.size _).drew⟩
  go_simp
  refine hK.out _ _ ⟨hHeld.1.alloc _,hHeld.2.1.alloc _,hHeld.2.2.alloc hHeld.2.2.size _⟩ (fun cA=>?_)
  clear hK
  try simp only[Act.put,zA,zB,zC]
  refine only 13 rfl (by kernel_rfl) rfl (fun K hK=>?_)
  go_simp
  refine(g_.out _ cA.1 4 (by omega)).mono ?_
  rintro e' w' ⟨rfl,rfl⟩
  try go_wp2_with fail
  refine hK.out _ _ cA (fun _=>?_)
  clear hK
  try simp only[Act.put,zA,zB,zC]
  refine only 15 rfl (by kernel_rfl) rfl (fun K hK=>?_)
  go_simp
  refine(g_.out _ cA.1 8 (by omega)).mono ?_
  rintro e' w' ⟨rfl,rfl⟩
  try go_wp2_with fail
  refine hK.out _ _ cA (fun _=>?_)
  clear hK
  try simp only[Act.put,zA,zB,zC]
  refine ae 16 (by assumption) ?_
  refine only 18 rfl (by kernel_rfl) rfl (fun K hK=>?_)
  go_simp
  refine hK.out _ _ ⟨hHeld.1.alloc _,hHeld.2.1.alloc _,hHeld.2.2.alloc hHeld.2.2.size _⟩ (fun _=>?_)
  clear hK
  try simp only[Act.put,zA,zB,zC]
  refine wpAnyH_done (by kernel_rfl) ?_ _
  go_wp2_with fail
  go_meet
  exact⟨_,rfl,jt,(Ce.made (w:=w1) (l:=[(g 0),(g 1),(g 12),(num g 4 4),(num g 8 4),(),(),(),(),false,(),.slice none 0 0,.slice none 0 0]) rfl).aZ,(h2.out.alloc _).drew,(ff.out.alloc _).aZ,(B2.out.alloc B2.out.size _).drew⟩
 obtain ⟨L,rfl,hL,bm,hA,fe,hB⟩:=hcut
 replace bm:=hid bm
 replace fe:=hid fe
 replace hA:=hid hA
 replace hB:=hid hB
 have eB:L≠w.heap.size:=Nat.ne_of_gt hL
 have IT:w.heap.size≠L:=Nat.ne_of_lt hL
 have hBlt:b≠L:=by omega
 have Hl:b≠w.heap.size:=by omega
 clear ff B2 h2 jt mV
 have uw:=HG.out 21
 have Cd:=HG.out 20
 obtain ⟨JV,JU⟩:=Cd
 obtain ⟨q,hq⟩:∃q:Nat,g 21=(q:Int):=⟨(g 21).toNat,by omega⟩
 rw[hq]at uw
 obtain ⟨JS,JR⟩:=uw
 have HQ:Hid ((g 21).toNat=q):=hid (by omega)
 have uU:=hid hq
 clear hq
 have i21:(21:Int)<n:=by omega
 have i20:(20:Int)<n:=by omega
 have v20:IntKind.i64.wrap (g 20)=g 20:=IntWalk.i64_in _ (by omega)
 have v21:IntKind.i64.wrap (q:Int)=(q:Int):=IntWalk.i64_in _ (by omega)
 have v24:IntKind.i64.wrap (24+(q:Int))=24+(q:Int):=IntWalk.i64_in _ (by omega)
 have vn:IntKind.i64.wrap ((n:Int)-24)=(n:Int)-24:=IntWalk.i64_in _ (by omega)
 have mC:=hid (fun (w':World) (hw:By w' (some ⟨b,off,none⟩) n g) (a:Nat) (ha:a+2≤n)=>aY _ n c g w' hw HG.out a 2 (by omega) ha hb)
 have y0:=bm.out.2.1 0 _ rfl
 have y1:=bm.out.2.1 1 _ rfl
 have y2:=bm.out.2.1 2 _ rfl
 have y3:=bm.out.2.1 3 _ rfl
 have y4:=bm.out.2.1 4 _ rfl
 have y5:=bm.out.2.1 5 _ rfl
 have y6:=bm.out.2.1 6 _ rfl
 have y7:=bm.out.2.1 7 _ rfl
 have y8:=bm.out.2.1 8 _ rfl
 have y9:=bm.out.2.1 9 _ rfl
 have au:=bm.out.2.1 10 _ rfl
 have ao:=bm.out.2.1 11 _ rfl
 have al:=bm.out.2.1 12 _ rfl
 have yf:=bm.out.2.2
 have yl:=bm.out.1
 go_wp2_with fail
 refine(mC.out _ hA.out 16 (by omega)).mono ?_
 rintro x w' ⟨rfl,rfl⟩
 go_wp2_with fail
 refine(mC.out _ hA.out 18 (by omega)).mono ?_
 rintro x w' ⟨rfl,rfl⟩
 have C2:=hid (((bm.out).set 5 (.int .i64 (num g 16 2)) (by simp)).set 6 (.int .i64 (num g 18 2)) (by simp))
 have R2:=hid (fe.out.grown (gs 6 (.int .i64 (num g 18 2)) (gs 5 (.int .i64 (num g 16 2)) (World.grownBy.refl wc (some L)))) (fun e=>eB (by injection e)))
 have A2:=hid (bL hA.out (gs 6 (.int .i64 (num g 18 2)) (gs 5 (.int .i64 (num g 16 2)) (World.grownBy.refl wc (some L)))) hBlt)
 have D2:=hid (((hB.out).setCell (p:=⟨L,5,none⟩) (Nat.le_of_lt hL) (.int .i64 (num g 16 2))).setCell (p:=⟨L,6,none⟩) (Nat.le_of_lt hL) (.int .i64 (num g 18 2)))
 have uI:=A2.out.at_ (j:=21) (by omega)
 rw[uU.out]at uI
 have Mm:=A2.out.at_ (j:=20) (by omega)
 have MF:=C2.out.1
 cases b20:decide ((15:Int)<g 20)
 ·cases K_:decide ((40:Int)<(q:Int))
  ·cases bn:decide ((n:Int)-24<(q:Int))
   ·have ov:ax g n=0:=by rw[jL];unfold cJ;rw[if_neg k3,if_neg (by omega),if_neg];rintro ⟨_,e⟩;rw[uU.out]at e;simp at b20 K_ bn;omega
    have lF:Hid (aj g n ={ kind:=g 0,life:=g 1,piece:=g 12,src:=num g 4 4,dst:=num g 8 4,fp:=num g 16 2,tp:=num g 18 2,flags:=g 20,no:=(g 21).toNat,go:=fun j=>g (24+j),nd:=n-24-(g 21).toNat,gd:=fun j=>g (24+(g 21).toNat+j) }):=hid (by unfold aj;rw[ov,if_pos rfl];unfold dW;rw[if_neg k3,if_neg M7])
    rw[HQ.out]at lF
    have HE:=hid ov
    have zr:24+q≤n:=by simp at bn;omega
    clear ov jL rv k3
    obtain ⟨A8,r1,r2⟩:=iw (some ⟨b,off,none⟩) n c 24 (24+q) (by omega) zr hc 24 (24+(q:Int)) rfl (by omega)
    rw[show 24+q-24=q from by omega]at r1 r2
    obtain ⟨Qb,s1,s2⟩:=ev (some ⟨b,off,none⟩) n c (24+q) zr hc (24+(q:Int)) (by omega)
    rw[show n-(24+q)=n-24-q from by omega]at s1 s2
    replace r2:=hid r2
    replace s2:=hid s2
    go_upto_region 24 with (fail)
    clear uI Mm
    clear y0 y1 y2 y3 y4 y5 y6 y7 y8 y9 au ao al yf yl bm fe hA hB
    generalize ((wc.setCell ⟨L,5,none⟩ (.int .i64 (num g 16 2))).setCell ⟨L,6,none⟩ (.int .i64 (num g 18 2)))=wq at *
    have oW:=C2.out.aZ
    refine wp_region_held_drew (S:=fun w'=>By w' (some ⟨b,off,none⟩) n g∧Ce w' w.heap.size [(),(),(),(),(),(),(),(),(),false,(),.slice none 0 0,.slice none 0 0]∧Below w.heap.size w w') (by kernel_rfl) ?_ (fun hHeld=>?_)
    ·exact⟨A2.out.drew,R2.out,below_drewN D2.out 1⟩
    clear A2 R2 D2 C2
    refine ae 0 (by assumption) ?_
    refine ae 1 (by assumption) ?_
    refine ae 2 (by assumption) ?_ (hy:=by intro w hSw;(try dsimp only at hSw);obtain ⟨hA,hC,hB⟩:=hSw;have z20:=hA.at_ (j:=20) (by omega);go_simp;(try with_reducible rfl))
    refine ae 3 (by assumption) ?_
    refine ae 5 (by assumption) ?_
    refine ae 6 (by assumption) ?_
    refine ae 7 (by assumption) ?_
    refine ae 8 (by assumption) ?_
    refine ae 11 (by assumption) ?_
    refine ae 12 (by assumption) ?_
    refine ae 13 (by assumption) ?_
    refine ae 14 (by assumption) ?_
    refine ae 16 (by assumption) ?_
    refine eO 4 10 rfl rfl (by kernel_rfl) rfl rfl (fun K hK=>?_) (fun K hK=>?_)
    ·go_simp
     have h4:By ((wq.alloc (.cells #[] 5)).drew) (some ⟨b,off,none⟩) n g∧Ce ((wq.alloc (.cells #[] 5)).drew) w.heap.size [(),(),(),(),(),(),(),(),(),false,(),.slice none 0 0,.slice none 0 0]∧Below w.heap.size w ((wq.alloc (.cells #[] 5)).drew):=⟨hHeld.1.alloc _,hHeld.2.1.alloc _,hHeld.2.2.alloc hHeld.2.2.size _⟩
     have Ay:Ce ((wq.alloc (.cells #[] 5)).drew) L [(g 0),(g 1),(g 12),(num g 4 4),(num g 8 4),(num g 16 2),(num g 18 2),(),(),false,(),.slice none 0 0,.slice none 0 0]:=oW.alloc (.cells #[] 5)
     have e4:∀f,Ow ((wq.alloc (.cells #[] 5)).drew) wq.heap.size 5 1 (.slice (some ⟨wq.heap.size,0,none⟩) 0 0) 0 f:=fun f=>Ow.new' (w:=wq.drew) rfl
     have l4:L<wq.heap.size:=oW.1
     have s4:wq.heap.size<((wq.alloc (.cells #[] 5)).drew).heap.size:=by simp
     refine hK.out _ _ h4 (fun _=>?_)
     clear hK
     try simp only[Act.put,zA,zB,zC]
     generalize ((wq.alloc (.cells #[] 5)).drew)=w4 at *
     generalize wq.heap.size=E4 at *
     refine eO 9 10 rfl rfl (by kernel_rfl) rfl rfl (fun K hK=>?_) (fun K hK=>?_)
     ·refine fj rfl (.tmp 145) (.tmp 149) rfl E4 rfl e4 (by omega) _ (q) _ (fun j=>g (24+j)) rfl (r2.out _ g h4.1) (by omega) ?_
      intro A9 c9 w9 o9 g9 q9
      have h9:By w9 (some ⟨b,off,none⟩) n g∧Ce w9 w.heap.size [(),(),(),(),(),(),(),(),(),false,(),.slice none 0 0,.slice none 0 0]∧Below w.heap.size w w9:=⟨bL h4.1 g9 (by omega),h4.2.1.grown g9 (fun e=>by injection e with e;omega),h4.2.2.trans (af g9 (by omega) h4.2.2.size)⟩
      have wM:=Ay.grown g9 (fun e=>by injection e with e;omega)
      have s9:=g9.size
      refine hK.out _ _ h9 (fun _=>?_)
      clear hK
      try simp only[Act.put,zA,zB,zC]
      refine only 10 rfl (by kernel_rfl) rfl (fun K hK=>?_)
      have qb:=xj o9
      go_simp
      have h10:By ((w9.alloc (.cells #[] 5))) (some ⟨b,off,none⟩) n g∧Ce ((w9.alloc (.cells #[] 5))) w.heap.size [(),(),(),(),(),(),(),(),(),false,(),.slice none 0 0,.slice none 0 0]∧Below w.heap.size w ((w9.alloc (.cells #[] 5))):=⟨h9.1.alloc _,h9.2.1.alloc _,h9.2.2.alloc h9.2.2.size _⟩
      have r9:Ce ((w9.alloc (.cells #[] 5))) L [(g 0),(g 1),(g 12),(num g 4 4),(num g 8 4),(num g 16 2),(num g 18 2),(),(),false,(),.slice none 0 0,.slice none 0 0]:=wM.alloc (.cells #[] 5)
      have o9:=Ow.alloc o9 (.cells #[] 5)
      have e10:∀f,Ow ((w9.alloc (.cells #[] 5))) w9.heap.size 5 1 (.slice (some ⟨w9.heap.size,0,none⟩) 0 0) 0 f:=fun f=>Ow.new' (w:=w9) rfl
      have l10:L<w9.heap.size:=wM.1
      have s10:w9.heap.size<((w9.alloc (.cells #[] 5))).heap.size:=by simp
      refine hK.out _ _ h10 (fun _=>?_)
      clear hK
      try simp only[Act.put,zA,zB,zC]
      generalize ((w9.alloc (.cells #[] 5)))=eW at *
      generalize w9.heap.size=oT at *
      refine only 15 rfl (by kernel_rfl) rfl (fun K hK=>?_)
      refine fj rfl (.tmp 151) (.tmp 155) rfl oT rfl e10 (by omega) _ (n-24-q) _ (fun j=>g (24+q+j)) rfl (s2.out _ g h10.1) (by omega) ?_
      intro dB c15 ew sr g15 Kh
      have oz:By ew (some ⟨b,off,none⟩) n g∧Ce ew w.heap.size [(),(),(),(),(),(),(),(),(),false,(),.slice none 0 0,.slice none 0 0]∧Below w.heap.size w ew:=⟨bL h10.1 g15 (by omega),h10.2.1.grown g15 (fun e=>by injection e with e;omega),h10.2.2.trans (af g15 (by omega) h10.2.2.size)⟩
      have u4:=r9.grown g15 (fun e=>by injection e with e;omega)
      have s15:=g15.size
      have hap:=hid (fun (x:Nat) (h:(Value.slice A9 q c9).ownBlock=some x)=>Kh x (fun e=>qb x (by omega) h) (by rcases Nat.lt_or_ge x oT with h1 |h1;omega;exact absurd h (qb x h1)))
      have o9:=cF o9 g15 (qb oT (by omega))
      refine hK.out _ _ oz (fun _=>?_)
      clear hK
      try simp only[Act.put,zA,zB,zC]
      have CC:=hid u4
      have y0:=CC.out.2.1 0 _ rfl
      have y1:=CC.out.2.1 1 _ rfl
      have y2:=CC.out.2.1 2 _ rfl
      have y3:=CC.out.2.1 3 _ rfl
      have y4:=CC.out.2.1 4 _ rfl
      have y5:=CC.out.2.1 5 _ rfl
      have y6:=CC.out.2.1 6 _ rfl
      have y7:=CC.out.2.1 7 _ rfl
      have y8:=CC.out.2.1 8 _ rfl
      have y9:=CC.out.2.1 9 _ rfl
      have au:=CC.out.2.1 10 _ rfl
      have ao:=CC.out.2.1 11 _ rfl
      have al:=CC.out.2.1 12 _ rfl
      have yf:=CC.out.2.2
      have yl:=CC.out.1
      have HH:=hid oz
      refine only 17 rfl (by kernel_rfl) rfl (fun K hK=>?_)
      go_simp
      refine hK.out _ _ ⟨bL HH.out.1 (gs 7 (.int .i64 (g 20)) (World.grownBy.refl ew (some L))) hBlt,HH.out.2.1.grown (gs 7 (.int .i64 (g 20)) (World.grownBy.refl ew (some L))) (fun e=>eB (by injection e)),(HH.out.2.2).setCell (p:=⟨L,7,none⟩) (Nat.le_of_lt hL) (.int .i64 (g 20))⟩ (fun hN0=>?_)
      clear hK
      try simp only[Act.put,zA,zB,zC]
      refine ae 18 hN0 ?_
      clear hN0
      refine only 19 rfl (by kernel_rfl) rfl (fun K hK=>?_)
      go_simp
      refine hK.out _ _ ⟨bL HH.out.1 (gs 11 (.slice A9 q c9) (gs 7 (.int .i64 (g 20)) (World.grownBy.refl ew (some L)))) hBlt,HH.out.2.1.grown (gs 11 (.slice A9 q c9) (gs 7 (.int .i64 (g 20)) (World.grownBy.refl ew (some L)))) (fun e=>eB (by injection e)),((HH.out.2.2).setCell (p:=⟨L,7,none⟩) (Nat.le_of_lt hL) (.int .i64 (g 20))).setCell (p:=⟨L,11,none⟩) (Nat.le_of_lt hL) (.slice A9 q c9)⟩ (fun hN1=>?_)
      clear hK
      try simp only[Act.put,zA,zB,zC]
      refine ae 20 hN1 ?_
      clear hN1
      refine only 21 rfl (by kernel_rfl) rfl (fun K hK=>?_)
      go_simp
      refine hK.out _ _ ⟨bL HH.out.1 (gs 12 (.slice dB (n-24-q) c15) (gs 11 (.slice A9 q c9) (gs 7 (.int .i64 (g 20)) (World.grownBy.refl ew (some L))))) hBlt,HH.out.2.1.grown (gs 12 (.slice dB (n-24-q) c15) (gs 11 (.slice A9 q c9) (gs 7 (.int .i64 (g 20)) (World.grownBy.refl ew (some L))))) (fun e=>eB (by injection e)),(((HH.out.2.2).setCell (p:=⟨L,7,none⟩) (Nat.le_of_lt hL) (.int .i64 (g 20))).setCell (p:=⟨L,11,none⟩) (Nat.le_of_lt hL) (.slice A9 q c9)).setCell (p:=⟨L,12,none⟩) (Nat.le_of_lt hL) (.slice dB (n-24-q) c15)⟩ (fun mg=>?_)
      clear hK
      try simp only[Act.put,zA,zB,zC]
      refine wpAnyH_done (by kernel_rfl) ?_ _
      have bJ:=hid ((((CC.out).set 7 (.int .i64 (g 20)) (by simp)).set 11 (.slice A9 q c9) (by simp)).set 12 (.slice dB (n-24-q) c15) (by simp))
      have bB:=hid (HH.out.2.1.grown (gs 12 (.slice dB (n-24-q) c15) (gs 11 (.slice A9 q c9) (gs 7 (.int .i64 (g 20)) (World.grownBy.refl ew (some L))))) (fun e=>eB (by injection e)))
      have oU:=hid ((((HH.out.2.2).setCell (p:=⟨L,7,none⟩) (Nat.le_of_lt hL) (.int .i64 (g 20))).setCell (p:=⟨L,11,none⟩) (Nat.le_of_lt hL) (.slice A9 q c9)).setCell (p:=⟨L,12,none⟩) (Nat.le_of_lt hL) (.slice dB (n-24-q) c15))
      have kE:=hid (OB.grown o9 (gs 12 (.slice dB (n-24-q) c15) (gs 11 (.slice A9 q c9) (gs 7 (.int .i64 (g 20)) (World.grownBy.refl ew (some L))))) (OB.ne o9 l4))
      have sS:=hid (OB.grown sr (gs 12 (.slice dB (n-24-q) c15) (gs 11 (.slice A9 q c9) (gs 7 (.int .i64 (g 20)) (World.grownBy.refl ew (some L))))) (OB.ne sr l10))
      clear mg
      clear y0 y1 y2 y3 y4 y5 y6 y7 y8 y9 au ao al yf yl
      generalize (((ew.setCell ⟨L,7,none⟩ (.int .i64 (g 20))).setCell ⟨L,11,none⟩ (.slice A9 q c9)).setCell ⟨L,12,none⟩ (.slice dB (n-24-q) c15))=w8 at *
      have y0:=bJ.out.2.1 0 _ rfl
      have y1:=bJ.out.2.1 1 _ rfl
      have y2:=bJ.out.2.1 2 _ rfl
      have y3:=bJ.out.2.1 3 _ rfl
      have y4:=bJ.out.2.1 4 _ rfl
      have y5:=bJ.out.2.1 5 _ rfl
      have y6:=bJ.out.2.1 6 _ rfl
      have y7:=bJ.out.2.1 7 _ rfl
      have y8:=bJ.out.2.1 8 _ rfl
      have y9:=bJ.out.2.1 9 _ rfl
      have au:=bJ.out.2.1 10 _ rfl
      have ao:=bJ.out.2.1 11 _ rfl
      have al:=bJ.out.2.1 12 _ rfl
      have yf:=bJ.out.2.2
      have yl:=bJ.out.1
      have z0:=bB.out.2.1 0 _ rfl
      have z1:=bB.out.2.1 1 _ rfl
      have z2:=bB.out.2.1 2 _ rfl
      have z3:=bB.out.2.1 3 _ rfl
      have z4:=bB.out.2.1 4 _ rfl
      have z5:=bB.out.2.1 5 _ rfl
      have z6:=bB.out.2.1 6 _ rfl
      have z7:=bB.out.2.1 7 _ rfl
      have z8:=bB.out.2.1 8 _ rfl
      have z9:=bB.out.2.1 9 _ rfl
      have j_:=bB.out.2.1 10 _ rfl
      have j9:=bB.out.2.1 11 _ rfl
      have z12:=bB.out.2.1 12 _ rfl
      have zf:=bB.out.2.2
      have zl:=bB.out.1
      go_wp2_with fail
      have CE:=(bB.out).s13 (.int .i64 (g 0)) (.int .i64 (g 1)) (.int .i64 (g 12)) (.int .i64 (num g 4 4)) (.int .i64 (num g 8 4)) (.int .i64 (num g 16 2)) (.int .i64 (num g 18 2)) (.int .i64 (g 20)) (.int .i64 0) (.bool false) (.int .i64 0) (.slice A9 q c9) (.slice dB (n-24-q) c15)
      have BE:=dr (b:=w.heap.size) (oU.out) (Nat.le_refl _) (.int .i64 (g 0)) (.int .i64 (g 1)) (.int .i64 (g 12)) (.int .i64 (num g 4 4)) (.int .i64 (num g 8 4)) (.int .i64 (num g 16 2)) (.int .i64 (num g 18 2)) (.int .i64 (g 20)) (.int .i64 0) (.bool false) (.int .i64 0) (.slice A9 q c9) (.slice dB (n-24-q) c15)
      have da:=OB.grown (kE.out) (aU _ w.heap.size (.int .i64 (g 0)) (.int .i64 (g 1)) (.int .i64 (g 12)) (.int .i64 (num g 4 4)) (.int .i64 (num g 8 4)) (.int .i64 (num g 16 2)) (.int .i64 (num g 18 2)) (.int .i64 (g 20)) (.int .i64 0) (.bool false) (.int .i64 0) (.slice A9 q c9) (.slice dB (n-24-q) c15)) (OB.ne (kE.out) (by omega))
      have g8:=OB.grown (sS.out) (aU _ w.heap.size (.int .i64 (g 0)) (.int .i64 (g 1)) (.int .i64 (g 12)) (.int .i64 (num g 4 4)) (.int .i64 (num g 8 4)) (.int .i64 (num g 16 2)) (.int .i64 (num g 18 2)) (.int .i64 (g 20)) (.int .i64 0) (.bool false) (.int .i64 0) (.slice A9 q c9) (.slice dB (n-24-q) c15)) (OB.ne (sS.out) (by omega))
      unfold de at CE BE da g8
      replace CE:=hid CE
      replace BE:=hid BE
      replace da:=hid da
      replace g8:=hid g8
      refine cG (fun w'=>Ce w' w.heap.size [(g 0),(g 1),(g 12),(num g 4 4),(num g 8 4),(num g 16 2),(num g 18 2),(g 20),(),false,(),.slice A9 q c9,.slice dB (n-24-q) c15]∧Below w.heap.size w w'∧OB w' E4 (.slice A9 q c9) q (fun j=>g (24+j))∧OB w' oT (.slice dB (n-24-q) c15) (n-24-q) (fun j=>g (24+q+j))) ⟨CE.out,BE.out,da.out,g8.out⟩ (fun wf hwf=>?_)
      obtain ⟨hc2,hbf,ho0,ho1⟩:=hwf
      have x0:=hc2.2.1 0 _ rfl
      have x1:=hc2.2.1 1 _ rfl
      have x2:=hc2.2.1 2 _ rfl
      have x3:=hc2.2.1 3 _ rfl
      have x4:=hc2.2.1 4 _ rfl
      have x5:=hc2.2.1 5 _ rfl
      have x6:=hc2.2.1 6 _ rfl
      have x7:=hc2.2.1 7 _ rfl
      have x8:=hc2.2.1 8 _ rfl
      have x9:=hc2.2.1 9 _ rfl
      have f7:=hc2.2.1 10 _ rfl
      have fZ:=hc2.2.1 11 _ rfl
      have fY:=hc2.2.1 12 _ rfl
      refine bodyPost_ret (v:=.tuple #[.agg #[(g 0),(g 1),(g 12),(num g 4 4),(num g 8 4),(num g 16 2),(num g 18 2),(g 20),(),false,(),.slice A9 q c9,.slice dB (n-24-q) c15],()]) (by simp[results,Tryz.results19,go_sem,x0,x1,x2,x3,x4,x5,x6,x7,x8,x9,f7,fZ,fY]) rfl ?_
      exact⟨(.slice A9 q c9),(.slice dB (n-24-q) c15),by rw[lF.out,HE.out];rfl,by rw[lF.out];exact OB.base ho0 (by omega),by rw[lF.out];exact OB.base ho1 (by omega),hap.out,hbf⟩
     go_simp
     have h10:By ((w4.alloc (.cells #[] 5))) (some ⟨b,off,none⟩) n g∧Ce ((w4.alloc (.cells #[] 5))) w.heap.size [(),(),(),(),(),(),(),(),(),false,(),.slice none 0 0,.slice none 0 0]∧Below w.heap.size w ((w4.alloc (.cells #[] 5))):=⟨h4.1.alloc _,h4.2.1.alloc _,h4.2.2.alloc h4.2.2.size _⟩
     have r9:Ce ((w4.alloc (.cells #[] 5))) L [(g 0),(g 1),(g 12),(num g 4 4),(num g 8 4),(num g 16 2),(num g 18 2),(),(),false,(),.slice none 0 0,.slice none 0 0]:=Ay.alloc (.cells #[] 5)
     have e4:=fun f=>Ow.alloc (e4 f) (.cells #[] 5)
     have e10:∀f,Ow ((w4.alloc (.cells #[] 5))) w4.heap.size 5 1 (.slice (some ⟨w4.heap.size,0,none⟩) 0 0) 0 f:=fun f=>Ow.new' (w:=w4) rfl
     have l10:L<w4.heap.size:=Ay.1
     have s10:w4.heap.size<((w4.alloc (.cells #[] 5))).heap.size:=by simp
     refine hK.out _ _ h10 (fun _=>?_)
     clear hK
     try simp only[Act.put,zA,zB,zC]
     generalize ((w4.alloc (.cells #[] 5)))=eW at *
     generalize w4.heap.size=oT at *
     refine only 9 rfl (by kernel_rfl) rfl (fun K hK=>?_)
     refine fj rfl (.tmp 145) (.tmp 149) rfl E4 rfl e4 (by omega) _ (q) _ (fun j=>g (24+j)) rfl (r2.out _ g h10.1) (by omega) ?_
     intro A9 c9 w9 o9 g9 q9
     have h9:By w9 (some ⟨b,off,none⟩) n g∧Ce w9 w.heap.size [(),(),(),(),(),(),(),(),(),false,(),.slice none 0 0,.slice none 0 0]∧Below w.heap.size w w9:=⟨bL h10.1 g9 (by omega),h10.2.1.grown g9 (fun e=>by injection e with e;omega),h10.2.2.trans (af g9 (by omega) h10.2.2.size)⟩
     have wM:=r9.grown g9 (fun e=>by injection e with e;omega)
     have s9:=g9.size
     have e10:=fun f=>cF (e10 f) g9 (fun e=>by simp only[Value.ownBlock,Option.some.injEq]at e;omega)
     refine hK.out _ _ h9 (fun _=>?_)
     clear hK
     try simp only[Act.put,zA,zB,zC]
     refine only 15 rfl (by kernel_rfl) rfl (fun K hK=>?_)
     refine fj rfl (.tmp 151) (.tmp 155) rfl oT rfl e10 (by omega) _ (n-24-q) _ (fun j=>g (24+q+j)) rfl (s2.out _ g h9.1) (by omega) ?_
     intro dB c15 ew sr g15 Kh
     have oz:By ew (some ⟨b,off,none⟩) n g∧Ce ew w.heap.size [(),(),(),(),(),(),(),(),(),false,(),.slice none 0 0,.slice none 0 0]∧Below w.heap.size w ew:=⟨bL h9.1 g15 (by omega),h9.2.1.grown g15 (fun e=>by injection e with e;omega),h9.2.2.trans (af g15 (by omega) h9.2.2.size)⟩
     have u4:=wM.grown g15 (fun e=>by injection e with e;omega)
     have s15:=g15.size
     have hap:=hid (fun (x:Nat) (h:(Value.slice A9 q c9).ownBlock=some x)=>Kh x (fun e=>q9 oT (by omega) (by omega) (by rw[←e];exact h)) (by rcases Nat.lt_or_ge x w9.heap.size with h1 |h1;exact h1;exact absurd h (xj o9 x h1)))
     have o9:=cF o9 g15 (q9 oT (by omega) (by omega))
     refine hK.out _ _ oz (fun _=>?_)
     clear hK
     try simp only[Act.put,zA,zB,zC]
     have CC:=hid u4
     have y0:=CC.out.2.1 0 _ rfl
     have y1:=CC.out.2.1 1 _ rfl
     have y2:=CC.out.2.1 2 _ rfl
     have y3:=CC.out.2.1 3 _ rfl
     have y4:=CC.out.2.1 4 _ rfl
     have y5:=CC.out.2.1 5 _ rfl
     have y6:=CC.out.2.1 6 _ rfl
     have y7:=CC.out.2.1 7 _ rfl
     have y8:=CC.out.2.1 8 _ rfl
     have y9:=CC.out.2.1 9 _ rfl
     have au:=CC.out.2.1 10 _ rfl
     have ao:=CC.out.2.1 11 _ rfl
     have al:=CC.out.2.1 12 _ rfl
     have yf:=CC.out.2.2
     have yl:=CC.out.1
     have HH:=hid oz
     refine only 17 rfl (by kernel_rfl) rfl (fun K hK=>?_)
     go_simp
     refine hK.out _ _ ⟨bL HH.out.1 (gs 7 (.int .i64 (g 20)) (World.grownBy.refl ew (some L))) hBlt,HH.out.2.1.grown (gs 7 (.int .i64 (g 20)) (World.grownBy.refl ew (some L))) (fun e=>eB (by injection e)),(HH.out.2.2).setCell (p:=⟨L,7,none⟩) (Nat.le_of_lt hL) (.int .i64 (g 20))⟩ (fun hN0=>?_)
     clear hK
     try simp only[Act.put,zA,zB,zC]
     refine ae 18 hN0 ?_
     clear hN0
     refine only 19 rfl (by kernel_rfl) rfl (fun K hK=>?_)
     go_simp
     refine hK.out _ _ ⟨bL HH.out.1 (gs 11 (.slice A9 q c9) (gs 7 (.int .i64 (g 20)) (World.grownBy.refl ew (some L)))) hBlt,HH.out.2.1.grown (gs 11 (.slice A9 q c9) (gs 7 (.int .i64 (g 20)) (World.grownBy.refl ew (some L)))) (fun e=>eB (by injection e)),((HH.out.2.2).setCell (p:=⟨L,7,none⟩) (Nat.le_of_lt hL) (.int .i64 (g 20))).setCell (p:=⟨L,11,none⟩) (Nat.le_of_lt hL) (.slice A9 q c9)⟩ (fun hN1=>?_)
     clear hK
     try simp only[Act.put,zA,zB,zC]
     refine ae 20 hN1 ?_
     clear hN1
     refine only 21 rfl (by kernel_rfl) rfl (fun K hK=>?_)
     go_simp
     refine hK.out _ _ ⟨bL HH.out.1 (gs 12 (.slice dB (n-24-q) c15) (gs 11 (.slice A9 q c9) (gs 7 (.int .i64 (g 20)) (World.grownBy.refl ew (some L))))) hBlt,HH.out.2.1.grown (gs 12 (.slice dB (n-24-q) c15) (gs 11 (.slice A9 q c9) (gs 7 (.int .i64 (g 20)) (World.grownBy.refl ew (some L))))) (fun e=>eB (by injection e)),(((HH.out.2.2).setCell (p:=⟨L,7,none⟩) (Nat.le_of_lt hL) (.int .i64 (g 20))).setCell (p:=⟨L,11,none⟩) (Nat.le_of_lt hL) (.slice A9 q c9)).setCell (p:=⟨L,12,none⟩) (Nat.le_of_lt hL) (.slice dB (n-24-q) c15)⟩ (fun mg=>?_)
     clear hK
     try simp only[Act.put,zA,zB,zC]
     refine wpAnyH_done (by kernel_rfl) ?_ _
     have bJ:=hid ((((CC.out).set 7 (.int .i64 (g 20)) (by simp)).set 11 (.slice A9 q c9) (by simp)).set 12 (.slice dB (n-24-q) c15) (by simp))
     have bB:=hid (HH.out.2.1.grown (gs 12 (.slice dB (n-24-q) c15) (gs 11 (.slice A9 q c9) (gs 7 (.int .i64 (g 20)) (World.grownBy.refl ew (some L))))) (fun e=>eB (by injection e)))
     have oU:=hid ((((HH.out.2.2).setCell (p:=⟨L,7,none⟩) (Nat.le_of_lt hL) (.int .i64 (g 20))).setCell (p:=⟨L,11,none⟩) (Nat.le_of_lt hL) (.slice A9 q c9)).setCell (p:=⟨L,12,none⟩) (Nat.le_of_lt hL) (.slice dB (n-24-q) c15))
     have kE:=hid (OB.grown o9 (gs 12 (.slice dB (n-24-q) c15) (gs 11 (.slice A9 q c9) (gs 7 (.int .i64 (g 20)) (World.grownBy.refl ew (some L))))) (OB.ne o9 l4))
     have sS:=hid (OB.grown sr (gs 12 (.slice dB (n-24-q) c15) (gs 11 (.slice A9 q c9) (gs 7 (.int .i64 (g 20)) (World.grownBy.refl ew (some L))))) (OB.ne sr l10))
     clear mg
     clear y0 y1 y2 y3 y4 y5 y6 y7 y8 y9 au ao al yf yl
     generalize (((ew.setCell ⟨L,7,none⟩ (.int .i64 (g 20))).setCell ⟨L,11,none⟩ (.slice A9 q c9)).setCell ⟨L,12,none⟩ (.slice dB (n-24-q) c15))=w8 at *
     have y0:=bJ.out.2.1 0 _ rfl
     have y1:=bJ.out.2.1 1 _ rfl
     have y2:=bJ.out.2.1 2 _ rfl
     have y3:=bJ.out.2.1 3 _ rfl
     have y4:=bJ.out.2.1 4 _ rfl
     have y5:=bJ.out.2.1 5 _ rfl
     have y6:=bJ.out.2.1 6 _ rfl
     have y7:=bJ.out.2.1 7 _ rfl
     have y8:=bJ.out.2.1 8 _ rfl
     have y9:=bJ.out.2.1 9 _ rfl
     have au:=bJ.out.2.1 10 _ rfl
     have ao:=bJ.out.2.1 11 _ rfl
     have al:=bJ.out.2.1 12 _ rfl
     have yf:=bJ.out.2.2
     have yl:=bJ.out.1
     have z0:=bB.out.2.1 0 _ rfl
     have z1:=bB.out.2.1 1 _ rfl
     have z2:=bB.out.2.1 2 _ rfl
     have z3:=bB.out.2.1 3 _ rfl
     have z4:=bB.out.2.1 4 _ rfl
     have z5:=bB.out.2.1 5 _ rfl
     have z6:=bB.out.2.1 6 _ rfl
     have z7:=bB.out.2.1 7 _ rfl
     have z8:=bB.out.2.1 8 _ rfl
     have z9:=bB.out.2.1 9 _ rfl
     have j_:=bB.out.2.1 10 _ rfl
     have j9:=bB.out.2.1 11 _ rfl
     have z12:=bB.out.2.1 12 _ rfl
     have zf:=bB.out.2.2
     have zl:=bB.out.1
     go_wp2_with fail
     have CE:=(bB.out).s13 (.int .i64 (g 0)) (.int .i64 (g 1)) (.int .i64 (g 12)) (.int .i64 (num g 4 4)) (.int .i64 (num g 8 4)) (.int .i64 (num g 16 2)) (.int .i64 (num g 18 2)) (.int .i64 (g 20)) (.int .i64 0) (.bool false) (.int .i64 0) (.slice A9 q c9) (.slice dB (n-24-q) c15)
     have BE:=dr (b:=w.heap.size) (oU.out) (Nat.le_refl _) (.int .i64 (g 0)) (.int .i64 (g 1)) (.int .i64 (g 12)) (.int .i64 (num g 4 4)) (.int .i64 (num g 8 4)) (.int .i64 (num g 16 2)) (.int .i64 (num g 18 2)) (.int .i64 (g 20)) (.int .i64 0) (.bool false) (.int .i64 0) (.slice A9 q c9) (.slice dB (n-24-q) c15)
     have da:=OB.grown (kE.out) (aU _ w.heap.size (.int .i64 (g 0)) (.int .i64 (g 1)) (.int .i64 (g 12)) (.int .i64 (num g 4 4)) (.int .i64 (num g 8 4)) (.int .i64 (num g 16 2)) (.int .i64 (num g 18 2)) (.int .i64 (g 20)) (.int .i64 0) (.bool false) (.int .i64 0) (.slice A9 q c9) (.slice dB (n-24-q) c15)) (OB.ne (kE.out) (by omega))
     have g8:=OB.grown (sS.out) (aU _ w.heap.size (.int .i64 (g 0)) (.int .i64 (g 1)) (.int .i64 (g 12)) (.int .i64 (num g 4 4)) (.int .i64 (num g 8 4)) (.int .i64 (num g 16 2)) (.int .i64 (num g 18 2)) (.int .i64 (g 20)) (.int .i64 0) (.bool false) (.int .i64 0) (.slice A9 q c9) (.slice dB (n-24-q) c15)) (OB.ne (sS.out) (by omega))
     unfold de at CE BE da g8
     replace CE:=hid CE
     replace BE:=hid BE
     replace da:=hid da
     replace g8:=hid g8
     refine cG (fun w'=>Ce w' w.heap.size [(g 0),(g 1),(g 12),(num g 4 4),(num g 8 4),(num g 16 2),(num g 18 2),(g 20),(),false,(),.slice A9 q c9,.slice dB (n-24-q) c15]∧Below w.heap.size w w'∧OB w' E4 (.slice A9 q c9) q (fun j=>g (24+j))∧OB w' oT (.slice dB (n-24-q) c15) (n-24-q) (fun j=>g (24+q+j))) ⟨CE.out,BE.out,da.out,g8.out⟩ (fun wf hwf=>?_)
     obtain ⟨hc2,hbf,ho0,ho1⟩:=hwf
     have x0:=hc2.2.1 0 _ rfl
     have x1:=hc2.2.1 1 _ rfl
     have x2:=hc2.2.1 2 _ rfl
     have x3:=hc2.2.1 3 _ rfl
     have x4:=hc2.2.1 4 _ rfl
     have x5:=hc2.2.1 5 _ rfl
     have x6:=hc2.2.1 6 _ rfl
     have x7:=hc2.2.1 7 _ rfl
     have x8:=hc2.2.1 8 _ rfl
     have x9:=hc2.2.1 9 _ rfl
     have f7:=hc2.2.1 10 _ rfl
     have fZ:=hc2.2.1 11 _ rfl
     have fY:=hc2.2.1 12 _ rfl
     refine bodyPost_ret (v:=.tuple #[.agg #[(g 0),(g 1),(g 12),(num g 4 4),(num g 8 4),(num g 16 2),(num g 18 2),(g 20),(),false,(),.slice A9 q c9,.slice dB (n-24-q) c15],()]) (by simp[results,Tryz.results19,go_sem,x0,x1,x2,x3,x4,x5,x6,x7,x8,x9,f7,fZ,fY]) rfl ?_
     exact⟨(.slice A9 q c9),(.slice dB (n-24-q) c15),by rw[lF.out,HE.out];rfl,by rw[lF.out];exact OB.base ho0 (by omega),by rw[lF.out];exact OB.base ho1 (by omega),hap.out,hbf⟩
    go_simp
    have h10:By ((wq.alloc (.cells #[] 5)).drew) (some ⟨b,off,none⟩) n g∧Ce ((wq.alloc (.cells #[] 5)).drew) w.heap.size [(),(),(),(),(),(),(),(),(),false,(),.slice none 0 0,.slice none 0 0]∧Below w.heap.size w ((wq.alloc (.cells #[] 5)).drew):=⟨hHeld.1.alloc _,hHeld.2.1.alloc _,hHeld.2.2.alloc hHeld.2.2.size _⟩
    have r9:Ce ((wq.alloc (.cells #[] 5)).drew) L [(g 0),(g 1),(g 12),(num g 4 4),(num g 8 4),(num g 16 2),(num g 18 2),(),(),false,(),.slice none 0 0,.slice none 0 0]:=oW.alloc (.cells #[] 5)
    have e10:∀f,Ow ((wq.alloc (.cells #[] 5)).drew) wq.heap.size 5 1 (.slice (some ⟨wq.heap.size,0,none⟩) 0 0) 0 f:=fun f=>Ow.new' (w:=wq.drew) rfl
    have l10:L<wq.heap.size:=oW.1
    have s10:wq.heap.size<((wq.alloc (.cells #[] 5)).drew).heap.size:=by simp
    refine hK.out _ _ h10 (fun _=>?_)
    clear hK
    try simp only[Act.put,zA,zB,zC]
    generalize ((wq.alloc (.cells #[] 5)).drew)=eW at *
    generalize wq.heap.size=oT at *
    refine only 4 rfl (by kernel_rfl) rfl (fun K hK=>?_)
    go_simp
    have h4:By ((eW.alloc (.cells #[] 5))) (some ⟨b,off,none⟩) n g∧Ce ((eW.alloc (.cells #[] 5))) w.heap.size [(),(),(),(),(),(),(),(),(),false,(),.slice none 0 0,.slice none 0 0]∧Below w.heap.size w ((eW.alloc (.cells #[] 5))):=⟨h10.1.alloc _,h10.2.1.alloc _,h10.2.2.alloc h10.2.2.size _⟩
    have Ay:Ce ((eW.alloc (.cells #[] 5))) L [(g 0),(g 1),(g 12),(num g 4 4),(num g 8 4),(num g 16 2),(num g 18 2),(),(),false,(),.slice none 0 0,.slice none 0 0]:=r9.alloc (.cells #[] 5)
    have e10:=fun f=>Ow.alloc (e10 f) (.cells #[] 5)
    have e4:∀f,Ow ((eW.alloc (.cells #[] 5))) eW.heap.size 5 1 (.slice (some ⟨eW.heap.size,0,none⟩) 0 0) 0 f:=fun f=>Ow.new' (w:=eW) rfl
    have l4:L<eW.heap.size:=r9.1
    have s4:eW.heap.size<((eW.alloc (.cells #[] 5))).heap.size:=by simp
    refine hK.out _ _ h4 (fun _=>?_)
    clear hK
    try simp only[Act.put,zA,zB,zC]
    generalize ((eW.alloc (.cells #[] 5)))=w4 at *
    generalize eW.heap.size=E4 at *
    refine only 9 rfl (by kernel_rfl) rfl (fun K hK=>?_)
    refine fj rfl (.tmp 145) (.tmp 149) rfl E4 rfl e4 (by omega) _ (q) _ (fun j=>g (24+j)) rfl (r2.out _ g h4.1) (by omega) ?_
    intro A9 c9 w9 o9 g9 q9
    have h9:By w9 (some ⟨b,off,none⟩) n g∧Ce w9 w.heap.size [(),(),(),(),(),(),(),(),(),false,(),.slice none 0 0,.slice none 0 0]∧Below w.heap.size w w9:=⟨bL h4.1 g9 (by omega),h4.2.1.grown g9 (fun e=>by injection e with e;omega),h4.2.2.trans (af g9 (by omega) h4.2.2.size)⟩
    have wM:=Ay.grown g9 (fun e=>by injection e with e;omega)
    have s9:=g9.size
    have e10:=fun f=>cF (e10 f) g9 (fun e=>by simp only[Value.ownBlock,Option.some.injEq]at e;omega)
    refine hK.out _ _ h9 (fun _=>?_)
    clear hK
    try simp only[Act.put,zA,zB,zC]
    refine only 15 rfl (by kernel_rfl) rfl (fun K hK=>?_)
    refine fj rfl (.tmp 151) (.tmp 155) rfl oT rfl e10 (by omega) _ (n-24-q) _ (fun j=>g (24+q+j)) rfl (s2.out _ g h9.1) (by omega) ?_
    intro dB c15 ew sr g15 Kh
    have oz:By ew (some ⟨b,off,none⟩) n g∧Ce ew w.heap.size [(),(),(),(),(),(),(),(),(),false,(),.slice none 0 0,.slice none 0 0]∧Below w.heap.size w ew:=⟨bL h9.1 g15 (by omega),h9.2.1.grown g15 (fun e=>by injection e with e;omega),h9.2.2.trans (af g15 (by omega) h9.2.2.size)⟩
    have u4:=wM.grown g15 (fun e=>by injection e with e;omega)
    have s15:=g15.size
    have hap:=hid (fun (x:Nat) (h:(Value.slice A9 q c9).ownBlock=some x)=>Kh x (fun e=>q9 oT (by omega) (by omega) (by rw[←e];exact h)) (by rcases Nat.lt_or_ge x w9.heap.size with h1 |h1;exact h1;exact absurd h (xj o9 x h1)))
    have o9:=cF o9 g15 (q9 oT (by omega) (by omega))
    refine hK.out _ _ oz (fun _=>?_)
    clear hK
    try simp only[Act.put,zA,zB,zC]
    have CC:=hid u4
    have y0:=CC.out.2.1 0 _ rfl
    have y1:=CC.out.2.1 1 _ rfl
    have y2:=CC.out.2.1 2 _ rfl
    have y3:=CC.out.2.1 3 _ rfl
    have y4:=CC.out.2.1 4 _ rfl
    have y5:=CC.out.2.1 5 _ rfl
    have y6:=CC.out.2.1 6 _ rfl
    have y7:=CC.out.2.1 7 _ rfl
    have y8:=CC.out.2.1 8 _ rfl
    have y9:=CC.out.2.1 9 _ rfl
    have au:=CC.out.2.1 10 _ rfl
    have ao:=CC.out.2.1 11 _ rfl
    have al:=CC.out.2.1 12 _ rfl
    have yf:=CC.out.2.2
    have yl:=CC.out.1
    have HH:=hid oz
    refine only 17 rfl (by kernel_rfl) rfl (fun K hK=>?_)
    go_simp
    refine hK.out _ _ ⟨bL HH.out.1 (gs 7 (.int .i64 (g 20)) (World.grownBy.refl ew (some L))) hBlt,HH.out.2.1.grown (gs 7 (.int .i64 (g 20)) (World.grownBy.refl ew (some L))) (fun e=>eB (by injection e)),(HH.out.2.2).setCell (p:=⟨L,7,none⟩) (Nat.le_of_lt hL) (.int .i64 (g 20))⟩ (fun hN0=>?_)
    clear hK
    try simp only[Act.put,zA,zB,zC]
    refine ae 18 hN0 ?_
    clear hN0
    refine only 19 rfl (by kernel_rfl) rfl (fun K hK=>?_)
    go_simp
    refine hK.out _ _ ⟨bL HH.out.1 (gs 11 (.slice A9 q c9) (gs 7 (.int .i64 (g 20)) (World.grownBy.refl ew (some L)))) hBlt,HH.out.2.1.grown (gs 11 (.slice A9 q c9) (gs 7 (.int .i64 (g 20)) (World.grownBy.refl ew (some L)))) (fun e=>eB (by injection e)),((HH.out.2.2).setCell (p:=⟨L,7,none⟩) (Nat.le_of_lt hL) (.int .i64 (g 20))).setCell (p:=⟨L,11,none⟩) (Nat.le_of_lt hL) (.slice A9 q c9)⟩ (fun hN1=>?_)
    clear hK
    try simp only[Act.put,zA,zB,zC]
    refine ae 20 hN1 ?_
    clear hN1
    refine only 21 rfl (by kernel_rfl) rfl (fun K hK=>?_)
    go_simp
    refine hK.out _ _ ⟨bL HH.out.1 (gs 12 (.slice dB (n-24-q) c15) (gs 11 (.slice A9 q c9) (gs 7 (.int .i64 (g 20)) (World.grownBy.refl ew (some L))))) hBlt,HH.out.2.1.grown (gs 12 (.slice dB (n-24-q) c15) (gs 11 (.slice A9 q c9) (gs 7 (.int .i64 (g 20)) (World.grownBy.refl ew (some L))))) (fun e=>eB (by injection e)),(((HH.out.2.2).setCell (p:=⟨L,7,none⟩) (Nat.le_of_lt hL) (.int .i64 (g 20))).setCell (p:=⟨L,11,none⟩) (Nat.le_of_lt hL) (.slice A9 q c9)).setCell (p:=⟨L,12,none⟩) (Nat.le_of_lt hL) (.slice dB (n-24-q) c15)⟩ (fun mg=>?_)
    clear hK
    try simp only[Act.put,zA,zB,zC]
    refine wpAnyH_done (by kernel_rfl) ?_ _
    have bJ:=hid ((((CC.out).set 7 (.int .i64 (g 20)) (by simp)).set 11 (.slice A9 q c9) (by simp)).set 12 (.slice dB (n-24-q) c15) (by simp))
    have bB:=hid (HH.out.2.1.grown (gs 12 (.slice dB (n-24-q) c15) (gs 11 (.slice A9 q c9) (gs 7 (.int .i64 (g 20)) (World.grownBy.refl ew (some L))))) (fun e=>eB (by injection e)))
    have oU:=hid ((((HH.out.2.2).setCell (p:=⟨L,7,none⟩) (Nat.le_of_lt hL) (.int .i64 (g 20))).setCell (p:=⟨L,11,none⟩) (Nat.le_of_lt hL) (.slice A9 q c9)).setCell (p:=⟨L,12,none⟩) (Nat.le_of_lt hL) (.slice dB (n-24-q) c15))
    have kE:=hid (OB.grown o9 (gs 12 (.slice dB (n-24-q) c15) (gs 11 (.slice A9 q c9) (gs 7 (.int .i64 (g 20)) (World.grownBy.refl ew (some L))))) (OB.ne o9 l4))
    have sS:=hid (OB.grown sr (gs 12 (.slice dB (n-24-q) c15) (gs 11 (.slice A9 q c9) (gs 7 (.int .i64 (g 20)) (World.grownBy.refl ew (some L))))) (OB.ne sr l10))
    clear mg
    clear y0 y1 y2 y3 y4 y5 y6 y7 y8 y9 au ao al yf yl
    generalize (((ew.setCell ⟨L,7,none⟩ (.int .i64 (g 20))).setCell ⟨L,11,none⟩ (.slice A9 q c9)).setCell ⟨L,12,none⟩ (.slice dB (n-24-q) c15))=w8 at *
    have y0:=bJ.out.2.1 0 _ rfl
    have y1:=bJ.out.2.1 1 _ rfl
    have y2:=bJ.out.2.1 2 _ rfl
    have y3:=bJ.out.2.1 3 _ rfl
    have y4:=bJ.out.2.1 4 _ rfl
    have y5:=bJ.out.2.1 5 _ rfl
    have y6:=bJ.out.2.1 6 _ rfl
    have y7:=bJ.out.2.1 7 _ rfl
    have y8:=bJ.out.2.1 8 _ rfl
    have y9:=bJ.out.2.1 9 _ rfl
    have au:=bJ.out.2.1 10 _ rfl
    have ao:=bJ.out.2.1 11 _ rfl
    have al:=bJ.out.2.1 12 _ rfl
    have yf:=bJ.out.2.2
    have yl:=bJ.out.1
    have z0:=bB.out.2.1 0 _ rfl
    have z1:=bB.out.2.1 1 _ rfl
    have z2:=bB.out.2.1 2 _ rfl
    have z3:=bB.out.2.1 3 _ rfl
    have z4:=bB.out.2.1 4 _ rfl
    have z5:=bB.out.2.1 5 _ rfl
    have z6:=bB.out.2.1 6 _ rfl
    have z7:=bB.out.2.1 7 _ rfl
    have z8:=bB.out.2.1 8 _ rfl
    have z9:=bB.out.2.1 9 _ rfl
    have j_:=bB.out.2.1 10 _ rfl
    have j9:=bB.out.2.1 11 _ rfl
    have z12:=bB.out.2.1 12 _ rfl
    have zf:=bB.out.2.2
    have zl:=bB.out.1
    go_wp2_with fail
    have CE:=(bB.out).s13 (.int .i64 (g 0)) (.int .i64 (g 1)) (.int .i64 (g 12)) (.int .i64 (num g 4 4)) (.int .i64 (num g 8 4)) (.int .i64 (num g 16 2)) (.int .i64 (num g 18 2)) (.int .i64 (g 20)) (.int .i64 0) (.bool false) (.int .i64 0) (.slice A9 q c9) (.slice dB (n-24-q) c15)
    have BE:=dr (b:=w.heap.size) (oU.out) (Nat.le_refl _) (.int .i64 (g 0)) (.int .i64 (g 1)) (.int .i64 (g 12)) (.int .i64 (num g 4 4)) (.int .i64 (num g 8 4)) (.int .i64 (num g 16 2)) (.int .i64 (num g 18 2)) (.int .i64 (g 20)) (.int .i64 0) (.bool false) (.int .i64 0) (.slice A9 q c9) (.slice dB (n-24-q) c15)
    have da:=OB.grown (kE.out) (aU _ w.heap.size (.int .i64 (g 0)) (.int .i64 (g 1)) (.int .i64 (g 12)) (.int .i64 (num g 4 4)) (.int .i64 (num g 8 4)) (.int .i64 (num g 16 2)) (.int .i64 (num g 18 2)) (.int .i64 (g 20)) (.int .i64 0) (.bool false) (.int .i64 0) (.slice A9 q c9) (.slice dB (n-24-q) c15)) (OB.ne (kE.out) (by omega))
    have g8:=OB.grown (sS.out) (aU _ w.heap.size (.int .i64 (g 0)) (.int .i64 (g 1)) (.int .i64 (g 12)) (.int .i64 (num g 4 4)) (.int .i64 (num g 8 4)) (.int .i64 (num g 16 2)) (.int .i64 (num g 18 2)) (.int .i64 (g 20)) (.int .i64 0) (.bool false) (.int .i64 0) (.slice A9 q c9) (.slice dB (n-24-q) c15)) (OB.ne (sS.out) (by omega))
    unfold de at CE BE da g8
    replace CE:=hid CE
    replace BE:=hid BE
    replace da:=hid da
    replace g8:=hid g8
    refine cG (fun w'=>Ce w' w.heap.size [(g 0),(g 1),(g 12),(num g 4 4),(num g 8 4),(num g 16 2),(num g 18 2),(g 20),(),false,(),.slice A9 q c9,.slice dB (n-24-q) c15]∧Below w.heap.size w w'∧OB w' E4 (.slice A9 q c9) q (fun j=>g (24+j))∧OB w' oT (.slice dB (n-24-q) c15) (n-24-q) (fun j=>g (24+q+j))) ⟨CE.out,BE.out,da.out,g8.out⟩ (fun wf hwf=>?_)
    obtain ⟨hc2,hbf,ho0,ho1⟩:=hwf
    have x0:=hc2.2.1 0 _ rfl
    have x1:=hc2.2.1 1 _ rfl
    have x2:=hc2.2.1 2 _ rfl
    have x3:=hc2.2.1 3 _ rfl
    have x4:=hc2.2.1 4 _ rfl
    have x5:=hc2.2.1 5 _ rfl
    have x6:=hc2.2.1 6 _ rfl
    have x7:=hc2.2.1 7 _ rfl
    have x8:=hc2.2.1 8 _ rfl
    have x9:=hc2.2.1 9 _ rfl
    have f7:=hc2.2.1 10 _ rfl
    have fZ:=hc2.2.1 11 _ rfl
    have fY:=hc2.2.1 12 _ rfl
    refine bodyPost_ret (v:=.tuple #[.agg #[(g 0),(g 1),(g 12),(num g 4 4),(num g 8 4),(num g 16 2),(num g 18 2),(g 20),(),false,(),.slice A9 q c9,.slice dB (n-24-q) c15],()]) (by simp[results,Tryz.results19,go_sem,x0,x1,x2,x3,x4,x5,x6,x7,x8,x9,f7,fZ,fY]) rfl ?_
    exact⟨(.slice A9 q c9),(.slice dB (n-24-q) c15),by rw[lF.out,HE.out];rfl,by rw[lF.out];exact OB.base ho0 (by omega),by rw[lF.out];exact OB.base ho1 (by omega),hap.out,hbf⟩
   have hE:ax g n=5:=by rw[jL];unfold cJ;rw[if_neg k3,if_neg (by omega),if_pos];refine⟨K1.out,?_⟩;rw[uU.out];simp at bn;omega
   have HR:Hid (aj g n ={}):=hid (by unfold aj;rw[hE,if_neg (by decide)])
   have HE:=hid hE
   clear hE
   clear jL rv k3
   have z0:=R2.out.2.1 0 _ rfl
   have z1:=R2.out.2.1 1 _ rfl
   have z2:=R2.out.2.1 2 _ rfl
   have z3:=R2.out.2.1 3 _ rfl
   have z4:=R2.out.2.1 4 _ rfl
   have z5:=R2.out.2.1 5 _ rfl
   have z6:=R2.out.2.1 6 _ rfl
   have z7:=R2.out.2.1 7 _ rfl
   have z8:=R2.out.2.1 8 _ rfl
   have z9:=R2.out.2.1 9 _ rfl
   have j_:=R2.out.2.1 10 _ rfl
   have j9:=R2.out.2.1 11 _ rfl
   have z12:=R2.out.2.1 12 _ rfl
   have zf:=R2.out.2.2
   have zl:=R2.out.1
   go_wp2_with fail
   have CE:=Ce.s13 R2.out (.int .i64 0) (.int .i64 0) (.int .i64 0) (.int .i64 0) (.int .i64 0) (.int .i64 0) (.int .i64 0) (.int .i64 0) (.int .i64 0) (.bool false) (.int .i64 0) (.slice none 0 0) (.slice none 0 0)
   have BE:=dr (b:=w.heap.size) D2.out (Nat.le_refl _) (.int .i64 0) (.int .i64 0) (.int .i64 0) (.int .i64 0) (.int .i64 0) (.int .i64 0) (.int .i64 0) (.int .i64 0) (.int .i64 0) (.bool false) (.int .i64 0) (.slice none 0 0) (.slice none 0 0)
   unfold de at CE BE
   replace CE:=hid CE
   replace BE:=hid BE
   refine cG (fun w'=>Ce w' w.heap.size [(),(),(),(),(),(),(),(),(),false,(),.slice none 0 0,.slice none 0 0]∧Below w.heap.size w w') ⟨CE.out,BE.out⟩ (fun wf hwf=>?_)
   obtain ⟨hc2,hbf⟩:=hwf
   have x0:=hc2.2.1 0 _ rfl
   have x1:=hc2.2.1 1 _ rfl
   have x2:=hc2.2.1 2 _ rfl
   have x3:=hc2.2.1 3 _ rfl
   have x4:=hc2.2.1 4 _ rfl
   have x5:=hc2.2.1 5 _ rfl
   have x6:=hc2.2.1 6 _ rfl
   have x7:=hc2.2.1 7 _ rfl
   have x8:=hc2.2.1 8 _ rfl
   have x9:=hc2.2.1 9 _ rfl
   have f7:=hc2.2.1 10 _ rfl
   have fZ:=hc2.2.1 11 _ rfl
   have fY:=hc2.2.1 12 _ rfl
   refine bodyPost_ret (v:=.tuple #[bS {} (.slice none 0 0) (.slice none 0 0),.int .i64 5]) (by simp[results,Tryz.results19,go_sem,bS,cC,x0,x1,x2,x3,x4,x5,x6,x7,x8,x9,f7,fZ,fY]) rfl ?_
   exact⟨.slice none 0 0,.slice none 0 0,by rw[HR.out,HE.out],by rw[HR.out];exact OB.nil,by rw[HR.out];exact OB.nil,(fun b h=>by cases h),hbf⟩
  have hE:ax g n=5:=by rw[jL];unfold cJ;rw[if_neg k3,if_neg (by omega),if_pos];refine⟨K1.out,?_⟩;rw[uU.out];simp at K_;omega
  have HR:Hid (aj g n ={}):=hid (by unfold aj;rw[hE,if_neg (by decide)])
  have HE:=hid hE
  clear hE
  clear jL rv k3
  have z0:=R2.out.2.1 0 _ rfl
  have z1:=R2.out.2.1 1 _ rfl
  have z2:=R2.out.2.1 2 _ rfl
  have z3:=R2.out.2.1 3 _ rfl
  have z4:=R2.out.2.1 4 _ rfl
  have z5:=R2.out.2.1 5 _ rfl
  have z6:=R2.out.2.1 6 _ rfl
  have z7:=R2.out.2.1 7 _ rfl
  have z8:=R2.out.2.1 8 _ rfl
  have z9:=R2.out.2.1 9 _ rfl
  have j_:=R2.out.2.1 10 _ rfl
  have j9:=R2.out.2.1 11 _ rfl
  have z12:=R2.out.2.1 12 _ rfl
  have zf:=R2.out.2.2
  have zl:=R2.out.1
  go_wp2_with fail
  have CE:=Ce.s13 R2.out (.int .i64 0) (.int .i64 0) (.int .i64 0) (.int .i64 0) (.int .i64 0) (.int .i64 0) (.int .i64 0) (.int .i64 0) (.int .i64 0) (.bool false) (.int .i64 0) (.slice none 0 0) (.slice none 0 0)
  have BE:=dr (b:=w.heap.size) D2.out (Nat.le_refl _) (.int .i64 0) (.int .i64 0) (.int .i64 0) (.int .i64 0) (.int .i64 0) (.int .i64 0) (.int .i64 0) (.int .i64 0) (.int .i64 0) (.bool false) (.int .i64 0) (.slice none 0 0) (.slice none 0 0)
  unfold de at CE BE
  replace CE:=hid CE
  replace BE:=hid BE
  refine cG (fun w'=>Ce w' w.heap.size [(),(),(),(),(),(),(),(),(),false,(),.slice none 0 0,.slice none 0 0]∧Below w.heap.size w w') ⟨CE.out,BE.out⟩ (fun wf hwf=>?_)
  obtain ⟨hc2,hbf⟩:=hwf
  have x0:=hc2.2.1 0 _ rfl
  have x1:=hc2.2.1 1 _ rfl
  have x2:=hc2.2.1 2 _ rfl
  have x3:=hc2.2.1 3 _ rfl
  have x4:=hc2.2.1 4 _ rfl
  have x5:=hc2.2.1 5 _ rfl
  have x6:=hc2.2.1 6 _ rfl
  have x7:=hc2.2.1 7 _ rfl
  have x8:=hc2.2.1 8 _ rfl
  have x9:=hc2.2.1 9 _ rfl
  have f7:=hc2.2.1 10 _ rfl
  have fZ:=hc2.2.1 11 _ rfl
  have fY:=hc2.2.1 12 _ rfl
  refine bodyPost_ret (v:=.tuple #[bS {} (.slice none 0 0) (.slice none 0 0),.int .i64 5]) (by simp[results,Tryz.results19,go_sem,bS,cC,x0,x1,x2,x3,x4,x5,x6,x7,x8,x9,f7,fZ,fY]) rfl ?_
  exact⟨.slice none 0 0,.slice none 0 0,by rw[HR.out,HE.out],by rw[HR.out];exact OB.nil,by rw[HR.out];exact OB.nil,(fun b h=>by cases h),hbf⟩
 have hE:ax g n=5:=by rw[jL];unfold cJ;rw[if_neg k3,if_neg (by omega),if_pos];refine⟨K1.out,?_⟩;rw[uU.out];simp at b20;omega
 have HR:Hid (aj g n ={}):=hid (by unfold aj;rw[hE,if_neg (by decide)])
 have HE:=hid hE
 clear hE
 clear jL rv k3
 have z0:=R2.out.2.1 0 _ rfl
 have z1:=R2.out.2.1 1 _ rfl
 have z2:=R2.out.2.1 2 _ rfl
 have z3:=R2.out.2.1 3 _ rfl
 have z4:=R2.out.2.1 4 _ rfl
 have z5:=R2.out.2.1 5 _ rfl
 have z6:=R2.out.2.1 6 _ rfl
 have z7:=R2.out.2.1 7 _ rfl
 have z8:=R2.out.2.1 8 _ rfl
 have z9:=R2.out.2.1 9 _ rfl
 have j_:=R2.out.2.1 10 _ rfl
 have j9:=R2.out.2.1 11 _ rfl
 have z12:=R2.out.2.1 12 _ rfl
 have zf:=R2.out.2.2
 have zl:=R2.out.1
 go_wp2_with fail
 have CE:=Ce.s13 R2.out (.int .i64 0) (.int .i64 0) (.int .i64 0) (.int .i64 0) (.int .i64 0) (.int .i64 0) (.int .i64 0) (.int .i64 0) (.int .i64 0) (.bool false) (.int .i64 0) (.slice none 0 0) (.slice none 0 0)
 have BE:=dr (b:=w.heap.size) D2.out (Nat.le_refl _) (.int .i64 0) (.int .i64 0) (.int .i64 0) (.int .i64 0) (.int .i64 0) (.int .i64 0) (.int .i64 0) (.int .i64 0) (.int .i64 0) (.bool false) (.int .i64 0) (.slice none 0 0) (.slice none 0 0)
 unfold de at CE BE
 replace CE:=hid CE
 replace BE:=hid BE
 refine cG (fun w'=>Ce w' w.heap.size [(),(),(),(),(),(),(),(),(),false,(),.slice none 0 0,.slice none 0 0]∧Below w.heap.size w w') ⟨CE.out,BE.out⟩ (fun wf hwf=>?_)
 obtain ⟨hc2,hbf⟩:=hwf
 have x0:=hc2.2.1 0 _ rfl
 have x1:=hc2.2.1 1 _ rfl
 have x2:=hc2.2.1 2 _ rfl
 have x3:=hc2.2.1 3 _ rfl
 have x4:=hc2.2.1 4 _ rfl
 have x5:=hc2.2.1 5 _ rfl
 have x6:=hc2.2.1 6 _ rfl
 have x7:=hc2.2.1 7 _ rfl
 have x8:=hc2.2.1 8 _ rfl
 have x9:=hc2.2.1 9 _ rfl
 have f7:=hc2.2.1 10 _ rfl
 have fZ:=hc2.2.1 11 _ rfl
 have fY:=hc2.2.1 12 _ rfl
 refine bodyPost_ret (v:=.tuple #[bS {} (.slice none 0 0) (.slice none 0 0),.int .i64 5]) (by simp[results,Tryz.results19,go_sem,bS,cC,x0,x1,x2,x3,x4,x5,x6,x7,x8,x9,f7,fZ,fY]) rfl ?_
 exact⟨.slice none 0 0,.slice none 0 0,by rw[HR.out,HE.out],by rw[HR.out];exact OB.nil,by rw[HR.out];exact OB.nil,(fun b h=>by cases h),hbf⟩
theorem sZ (A:Option Addr)(n c:Nat)(g:Nat→Int)(w:World)(h:By w A n g)(hg:az g)(hc:n≤c)(hb:n≤1000000)(hne:cz g n=0)(n24:24≤n)(b3:(g 0==3)=false)(b2:(g 0==2)=false)(K1:Hid (g 0=1)) :
 Calls Tryz.prog 19 #[.slice A n c] w (Parsed w g n):=
 (qrs2 A n c g w h hg hc hb hne n24 b3 b2 K1).mono fun e w' ⟨O,D,h1,h2,h3,_,h5⟩=>⟨O,D,h1,h2,h3,h5⟩
end Go.Proofs.YtalnfkijiehjhaaGreat
