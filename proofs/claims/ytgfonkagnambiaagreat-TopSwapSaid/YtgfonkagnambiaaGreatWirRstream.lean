/- The reference's Parse of a stream. -/
import Derived.Test.YtgfonkagnambiaaGreatGa
import Derived.Test.YtgfonkagnambiaaGreatWrf
import Derived.BigQuiet
import Derived.Deep.RegionHeld3
import Derived.Deep.Cut
namespace Go.Proofs.YtgfonkagnambiaaGreat
open List renaming setIfInBounds_toArray→zA,set_cons_zero→zB,set_cons_succ→zC
set_option linter.unusedVariables false
set_option linter.unusedSimpArgs false
open Go.RowKit Go.ChangeShapes Go.WideShapes Go.ChangeAt
set_option maxRecDepth 100000 in
set_option maxHeartbeats 8000000 in
theorem qY (A:Option Addr)(n c:Nat)(g:Nat→Int)(w:World)(h:By w A n g)(hg:az g)(hc:n≤c)(hb:n≤1000000)(hne:bT g n=0)(n24:24≤n)(b3:(g 0==3)=false)(b2:(g 0==2)=false)(K1:Hid (g 0=1)) :
 Calls Tryz.prog 87 #[.slice A n c] w (Parsed w g n):=by
 have hz:∀w:World,(zeroValue 45).run Tryz.prog w =.ok (.agg #[(),(),(),(),(),(),(),(),(),false,(),.slice none 0 0,.slice none 0 0]) w:=fun w=>by kernel_rfl
 obtain ⟨h16,hk,hp,mQ,ma,hx⟩:=pT (.inl hne)
 have i1:¬(n:Int)<16:=by omega
 have gb:=hg 0
 obtain ⟨uy,mc⟩:=gb
 have HN:=hid (fun (w':World) (h':By w' A n g)=>cq (bv A n c g w' h' hg 2 2 (by omega) (by omega) hb) hp)
 have hs:(norm (tot g 16)==65535)=true:=by rw[hne]at hx;split at hx;(cases hx);rename_i h;simpa using h
 have m6:=hid (fun (w':World) (h':By w' A n g) c'=>fY (lq A 16 c' g w' (h'.less (k:=16) (by omega)) hg (by omega)) hs)
 clear hx hs
 have hA:=hid (h.below ((Below.refl w.heap.size w).alloc (Nat.le_refl _) (.cells #[(),(),(),(),(),(),(),(),(),false,(),.slice none 0 0,.slice none 0 0] 45)) (Nat.le_refl _))
 have lh:=hid h
 obtain ⟨b,off,rfl,hblt,hcell⟩:=hA.out (by omega)
 have c0:=hcell 0 (by omega)
 have c13:=hcell 13 (by omega)
 rw[Nat.add_zero]at c0
 have i2:(0:Int)<n:=by omega
 have i3:(13:Int)<n:=by omega
 have i4:(16:Int)≤c:=by omega
 have i5:¬(1500:Int)<n:=by omega
 have hk3:=mK hk
 have k1:¬g 0<1:=by omega
 have k2:¬3<g 0:=by omega
 have e13:(g 13 != 0)=false:=by simpa using ma
 have yv:=hid hk3
 have HG:=hid hg
 clear hcell h hp hk hk3 yv ma hg
 have iM:aB g n=cg g n:=by unfold aB;rw[if_pos hne]
 clear hne
 have k3:¬g 0=3:=by simpa using b3
 have px:decide ((n:Int)<24)=false:=by simp;omega
 have Kv:¬g 0=2:=by simpa using b2
 go_enter Tryz.func87,Tryz.ntmps87
 go_wp2_with fail
 refine(HN.out _ hA.out).mono ?_
 rintro x w' ⟨rfl,rfl⟩
 go_wp2_with fail
 refine(m6.out _ hA.out _).mono ?_
 rintro x w' ⟨rfl,rfl⟩
 go_upto_region 11 with (fail)
 have eu:=hid (Ce.made (w:=w) (l:=[(),(),(),(),(),(),(),(),(),false,(),.slice none 0 0,.slice none 0 0]) (T:=45) rfl)
 have B2:=hid ((Below.refl w.heap.size w).alloc (Nat.le_refl _) (.cells #[(),(),(),(),(),(),(),(),(),false,(),.slice none 0 0,.slice none 0 0] 45))
 have h2:=hA
 have iz:=eu.out.1
 simp only[List.toArray]at eu
 clear c0 c13 HN m6 hA
 generalize w.alloc (.cells #[(),(),(),(),(),(),(),(),(),false,(),.slice none 0 0,.slice none 0 0] 45)=w1 at *
 have hbw:b<w.heap.size:=Sl.lt lh.out (by omega)
 have gj:=hid (fun (w':World) (hw:By w' (some ⟨b,off,none⟩) n g) (a:Nat) (ha:a+4≤n)=>bv _ n c g w' hw HG.out a 4 (by omega) ha hb)
 have mc:=HG.out 1
 have oE:=HG.out 12
 obtain ⟨zV,zU⟩:=mc
 obtain ⟨vv,vu⟩:=oE
 have j1:(12:Int)<n:=by omega
 have j2:(1:Int)<n:=by omega
 have j3:0<n:=by omega
 have j4:1<n:=by omega
 have j5:12<n:=by omega
 have v0:IntKind.i64.wrap (g 0)=g 0:=IntWalk.i64_in _ (by omega)
 have v1:IntKind.i64.wrap (g 1)=g 1:=IntWalk.i64_in _ (by omega)
 have v2:IntKind.i64.wrap (g 12)=g 12:=IntWalk.i64_in _ (by omega)
 go_cut [4] from 63 (fun p wx=>∃L:Nat,p =.pointer (some ⟨L,0,none⟩)∧w.heap.size<L∧Ce wx L [(g 0),(g 1),(g 12),(num g 4 4),(num g 8 4),(),(),(),(),false,(),.slice none 0 0,.slice none 0 0]∧By wx (some ⟨b,off,none⟩) n g∧Ce wx w.heap.size [(),(),(),(),(),(),(),(),(),false,(),.slice none 0 0,.slice none 0 0]∧Below w.heap.size w wx)
 case first=>
  refine wp_region_held_drew (S:=fun w'=>By w' (some ⟨b,off,none⟩) n g∧Ce w' w.heap.size [(),(),(),(),(),(),(),(),(),false,(),.slice none 0 0,.slice none 0 0]∧Below w.heap.size w w') (by kernel_rfl) ?_ (fun hHeld=>?_)
  ·exact⟨h2.out.drew,eu.out,below_drewN B2.out 1⟩
  refine ae 0 (by assumption) ?_
  refine ae 1 (by assumption) ?_
  refine ae 2 (by assumption) ?_ (hy:=by intro w hSw;(try dsimp only at hSw);obtain ⟨hA,hC,hB⟩:=hSw;have z0:=hA.at_ (j:=0) (by omega);have z1:=hA.at_ (j:=1) (by omega);have z12:=hA.at_ (j:=12) (by omega);rw[Nat.add_zero]at z0;go_simp;(try with_reducible rfl))
  refine ae 3 (by assumption) ?_
  refine ae 4 (by assumption) ?_
  refine ae 5 (by assumption) ?_
  refine ae 6 (by assumption) ?_ (hy:=by intro w hSw;(try dsimp only at hSw);obtain ⟨hA,hC,hB⟩:=hSw;have z0:=hA.at_ (j:=0) (by omega);have z1:=hA.at_ (j:=1) (by omega);have z12:=hA.at_ (j:=12) (by omega);rw[Nat.add_zero]at z0;go_simp;(try with_reducible rfl))
  refine ae 7 (by assumption) ?_
  refine ae 8 (by assumption) ?_
  refine ae 9 (by assumption) ?_
  refine ae 10 (by assumption) ?_ (hy:=by intro w hSw;(try dsimp only at hSw);obtain ⟨hA,hC,hB⟩:=hSw;have z0:=hA.at_ (j:=0) (by omega);have z1:=hA.at_ (j:=1) (by omega);have z12:=hA.at_ (j:=12) (by omega);rw[Nat.add_zero]at z0;go_simp;(try with_reducible rfl))
  refine ae 11 (by assumption) ?_
  refine ae 12 (by assumption) ?_
  refine ae 14 (by assumption) ?_
  refine dO 13 17 rfl rfl (by kernel_rfl) rfl rfl (fun K hK=>?_) (fun K hK=>?_)
  ·go_simp
   refine(gj.out _ hHeld.1 4 (by omega)).mono ?_
   rintro e' w' ⟨rfl,rfl⟩
   try go_wp2_with fail
   refine hK.out _ _ hHeld (fun _=>?_)
   clear hK
   try simp only[Act.put,zA,zB,zC]
   refine dO 15 17 rfl rfl (by kernel_rfl) rfl rfl (fun K hK=>?_) (fun K hK=>?_)
   ·go_simp
    refine(gj.out _ hHeld.1 8 (by omega)).mono ?_
    rintro e' w' ⟨rfl,rfl⟩
    try go_wp2_with fail
    refine hK.out _ _ hHeld (fun _=>?_)
    clear hK
    try simp only[Act.put,zA,zB,zC]
    refine ae 16 (by assumption) ?_
    refine only 17 rfl (by kernel_rfl) rfl (fun K hK=>?_)
    go_simp
    refine hK.out _ _ ⟨hHeld.1.alloc _,hHeld.2.1.alloc _,hHeld.2.2.alloc hHeld.2.2.size _⟩ (fun bV=>?_)
    clear hK
    try simp only[Act.put,zA,zB,zC]
    refine only 18 rfl (by kernel_rfl) rfl (fun K hK=>?_)
    go_simp
    refine hK.out _ _ ⟨hHeld.1.alloc _,hHeld.2.1.alloc _,hHeld.2.2.alloc hHeld.2.2.size _⟩ (fun _=>?_)
    clear hK
    try simp only[Act.put,zA,zB,zC]
    refine wpAnyH_done (by kernel_rfl) ?_ _
    go_wp2_with fail
    go_meet
    exact⟨_,rfl,iz,(Ce.made (w:=w1) (l:=[(g 0),(g 1),(g 12),(num g 4 4),(num g 8 4),(),(),(),(),false,(),.slice none 0 0,.slice none 0 0]) rfl).aP,(h2.out.alloc _).drew,(eu.out.alloc _).aP,(B2.out.alloc B2.out.size _).drew⟩
   go_simp
   refine hK.out _ _ ⟨hHeld.1.alloc _,hHeld.2.1.alloc _,hHeld.2.2.alloc hHeld.2.2.size _⟩ (fun bV=>?_)
   clear hK
   try simp only[Act.put,zA,zB,zC]
   refine only 15 rfl (by kernel_rfl) rfl (fun K hK=>?_)
   go_simp
   refine(gj.out _ bV.1 8 (by omega)).mono ?_
   rintro e' w' ⟨rfl,rfl⟩
   try go_wp2_with fail
   refine hK.out _ _ bV (fun _=>?_)
   clear hK
   try simp only[Act.put,zA,zB,zC]
   refine ae 16 (by assumption) ?_
   refine only 18 rfl (by kernel_rfl) rfl (fun K hK=>?_)
   go_simp
   refine hK.out _ _ ⟨hHeld.1.alloc _,hHeld.2.1.alloc _,hHeld.2.2.alloc hHeld.2.2.size _⟩ (fun _=>?_)
   clear hK
   try simp only[Act.put,zA,zB,zC]
   refine wpAnyH_done (by kernel_rfl) ?_ _
   go_wp2_with fail
   go_meet
   exact⟨_,rfl,iz,(Ce.made (w:=w1) (l:=[(g 0),(g 1),(g 12),(num g 4 4),(num g 8 4),(),(),(),(),false,(),.slice none 0 0,.slice none 0 0]) rfl).aP,(h2.out.alloc _).drew,(eu.out.alloc _).aP,(B2.out.alloc B2.out.size _).drew⟩
  go_simp
  refine hK.out _ _ ⟨hHeld.1.alloc _,hHeld.2.1.alloc _,hHeld.2.2.alloc hHeld.2.2.size _⟩ (fun bV=>?_)
  clear hK
  try simp only[Act.put,zA,zB,zC]
  refine only 13 rfl (by kernel_rfl) rfl (fun K hK=>?_)
  go_simp
  refine(gj.out _ bV.1 4 (by omega)).mono ?_
  rintro e' w' ⟨rfl,rfl⟩
  try go_wp2_with fail
  refine hK.out _ _ bV (fun _=>?_)
  clear hK
  try simp only[Act.put,zA,zB,zC]
  refine only 15 rfl (by kernel_rfl) rfl (fun K hK=>?_)
  go_simp
  refine(gj.out _ bV.1 8 (by omega)).mono ?_
  rintro e' w' ⟨rfl,rfl⟩
  try go_wp2_with fail
  refine hK.out _ _ bV (fun _=>?_)
  clear hK
  try simp only[Act.put,zA,zB,zC]
  refine ae 16 (by assumption) ?_
  refine only 18 rfl (by kernel_rfl) rfl (fun K hK=>?_)
  go_simp
  refine hK.out _ _ ⟨hHeld.1.alloc _,hHeld.2.1.alloc _,hHeld.2.2.alloc hHeld.2.2.size _⟩ (fun _=>?_)
  clear hK
  try simp only[Act.put,zA,zB,zC]
  refine wpAnyH_done (by kernel_rfl) ?_ _
  go_wp2_with fail
  go_meet
  exact⟨_,rfl,iz,(Ce.made (w:=w1) (l:=[(g 0),(g 1),(g 12),(num g 4 4),(num g 8 4),(),(),(),(),false,(),.slice none 0 0,.slice none 0 0]) rfl).aP,(h2.out.alloc _).drew,(eu.out.alloc _).aP,(B2.out.alloc B2.out.size _).drew⟩
 obtain ⟨L,rfl,hL,aT,hA,eo,hB⟩:=hcut
 replace aT:=hid aT
 replace eo:=hid eo
 replace hA:=hid hA
 replace hB:=hid hB
 have dG:L≠w.heap.size:=Nat.ne_of_gt hL
 have FX:w.heap.size≠L:=Nat.ne_of_lt hL
 have hBlt:b≠L:=by omega
 have ET:b≠w.heap.size:=by omega
 clear eu B2 h2 iz lh
 have sk:=HG.out 21
 have zT:=HG.out 20
 obtain ⟨GV,GU⟩:=zT
 obtain ⟨q,hq⟩:∃q:Nat,g 21=(q:Int):=⟨(g 21).toNat,by omega⟩
 rw[hq]at sk
 obtain ⟨GR,GQ⟩:=sk
 have HQ:Hid ((g 21).toNat=q):=hid (by omega)
 have s_:=hid hq
 clear hq
 have i21:(21:Int)<n:=by omega
 have i20:(20:Int)<n:=by omega
 have v20:IntKind.i64.wrap (g 20)=g 20:=IntWalk.i64_in _ (by omega)
 have v21:IntKind.i64.wrap (q:Int)=(q:Int):=IntWalk.i64_in _ (by omega)
 have v24:IntKind.i64.wrap (24+(q:Int))=24+(q:Int):=IntWalk.i64_in _ (by omega)
 have vn:IntKind.i64.wrap ((n:Int)-24)=(n:Int)-24:=IntWalk.i64_in _ (by omega)
 have kO:=hid (fun (w':World) (hw:By w' (some ⟨b,off,none⟩) n g) (a:Nat) (ha:a+2≤n)=>bv _ n c g w' hw HG.out a 2 (by omega) ha hb)
 have y0:=aT.out.2.1 0 _ rfl
 have y1:=aT.out.2.1 1 _ rfl
 have y2:=aT.out.2.1 2 _ rfl
 have y3:=aT.out.2.1 3 _ rfl
 have y4:=aT.out.2.1 4 _ rfl
 have y5:=aT.out.2.1 5 _ rfl
 have y6:=aT.out.2.1 6 _ rfl
 have y7:=aT.out.2.1 7 _ rfl
 have y8:=aT.out.2.1 8 _ rfl
 have y9:=aT.out.2.1 9 _ rfl
 have aj:=aT.out.2.1 10 _ rfl
 have ah:=aT.out.2.1 11 _ rfl
 have ag:=aT.out.2.1 12 _ rfl
 have yf:=aT.out.2.2
 have yl:=aT.out.1
 go_wp2_with fail
 refine(kO.out _ hA.out 16 (by omega)).mono ?_
 rintro x w' ⟨rfl,rfl⟩
 go_wp2_with fail
 refine(kO.out _ hA.out 18 (by omega)).mono ?_
 rintro x w' ⟨rfl,rfl⟩
 have C2:=hid (((aT.out).set 5 (.int .i64 (num g 16 2)) (by simp)).set 6 (.int .i64 (num g 18 2)) (by simp))
 have R2:=hid (eo.out.grown (gs 6 (.int .i64 (num g 18 2)) (gs 5 (.int .i64 (num g 16 2)) (World.grownBy.refl wc (some L)))) (fun e=>dG (by injection e)))
 have A2:=hid (bz hA.out (gs 6 (.int .i64 (num g 18 2)) (gs 5 (.int .i64 (num g 16 2)) (World.grownBy.refl wc (some L)))) hBlt)
 have D2:=hid (((hB.out).setCell (p:=⟨L,5,none⟩) (Nat.le_of_lt hL) (.int .i64 (num g 16 2))).setCell (p:=⟨L,6,none⟩) (Nat.le_of_lt hL) (.int .i64 (num g 18 2)))
 have sI:=A2.out.at_ (j:=21) (by omega)
 rw[s_.out]at sI
 have JO:=A2.out.at_ (j:=20) (by omega)
 have J0:=C2.out.1
 cases b20:decide ((15:Int)<g 20)
 ·cases Ip:decide ((40:Int)<(q:Int))
  ·cases bn:decide ((n:Int)-24<(q:Int))
   ·have mO:aB g n=0:=by rw[iM];unfold cg;rw[if_neg k3,if_neg (by omega),if_neg];rintro ⟨_,e⟩;rw[s_.out]at e;simp at b20 Ip bn;omega
    have kf:Hid (au g n ={ kind:=g 0,life:=g 1,piece:=g 12,src:=num g 4 4,dst:=num g 8 4,fp:=num g 16 2,tp:=num g 18 2,flags:=g 20,no:=(g 21).toNat,go:=fun j=>g (24+j),nd:=n-24-(g 21).toNat,gd:=fun j=>g (24+(g 21).toNat+j) }):=hid (by unfold au;rw[mO,if_pos rfl];unfold ez;rw[if_neg k3,if_neg Kv])
    rw[HQ.out]at kf
    have HE:=hid mO
    have xF:24+q≤n:=by simp at bn;omega
    clear mO iM px k3
    obtain ⟨A8,r1,r2⟩:=gp (some ⟨b,off,none⟩) n c 24 (24+q) (by omega) xF hc 24 (24+(q:Int)) rfl (by omega)
    rw[show 24+q-24=q from by omega]at r1 r2
    obtain ⟨My,s1,s2⟩:=dU (some ⟨b,off,none⟩) n c (24+q) xF hc (24+(q:Int)) (by omega)
    rw[show n-(24+q)=n-24-q from by omega]at s1 s2
    replace r2:=hid r2
    replace s2:=hid s2
    go_upto_region 24 with (fail)
    clear sI JO
    clear y0 y1 y2 y3 y4 y5 y6 y7 y8 y9 aj ah ag yf yl aT eo hA hB
    generalize ((wc.setCell ⟨L,5,none⟩ (.int .i64 (num g 16 2))).setCell ⟨L,6,none⟩ (.int .i64 (num g 18 2)))=wq at *
    have na:=C2.out.aP
    refine wp_region_held_drew (S:=fun w'=>By w' (some ⟨b,off,none⟩) n g∧Ce w' w.heap.size [(),(),(),(),(),(),(),(),(),false,(),.slice none 0 0,.slice none 0 0]∧Below w.heap.size w w') (by kernel_rfl) ?_ (fun hHeld=>?_)
    ·exact⟨A2.out.drew,R2.out,below_drewN D2.out 1⟩
    clear A2 R2 D2 C2
    refine ae 0 (by assumption) ?_
    refine ae 1 (by assumption) ?_
    refine ae 2 (by assumption) ?_ (hy:=by intro w hSw;(try dsimp only at hSw);obtain ⟨hA,hC,hB⟩:=hSw;have z20:=hA.at_ (j:=20) (by omega);go_simp;(try with_reducible rfl))
    refine ae 3 (by assumption) ?_
    refine ae 5 (by assumption) ?_
    refine ae 6 (by assumption) ?_
    refine ae 7 (by assumption) ?_
    refine ae 8 (by assumption) ?_
    refine ae 11 (by assumption) ?_
    refine ae 12 (by assumption) ?_
    refine ae 13 (by assumption) ?_
    refine ae 14 (by assumption) ?_
    refine ae 16 (by assumption) ?_
    refine dO 4 10 rfl rfl (by kernel_rfl) rfl rfl (fun K hK=>?_) (fun K hK=>?_)
    ·go_simp
     have h4:By ((wq.alloc (.cells #[] 5)).drew) (some ⟨b,off,none⟩) n g∧Ce ((wq.alloc (.cells #[] 5)).drew) w.heap.size [(),(),(),(),(),(),(),(),(),false,(),.slice none 0 0,.slice none 0 0]∧Below w.heap.size w ((wq.alloc (.cells #[] 5)).drew):=⟨hHeld.1.alloc _,hHeld.2.1.alloc _,hHeld.2.2.alloc hHeld.2.2.size _⟩
     have yH:Ce ((wq.alloc (.cells #[] 5)).drew) L [(g 0),(g 1),(g 12),(num g 4 4),(num g 8 4),(num g 16 2),(num g 18 2),(),(),false,(),.slice none 0 0,.slice none 0 0]:=na.alloc (.cells #[] 5)
     have e4:∀f,Ow ((wq.alloc (.cells #[] 5)).drew) wq.heap.size 5 1 (.slice (some ⟨wq.heap.size,0,none⟩) 0 0) 0 f:=fun f=>Ow.new' (w:=wq.drew) rfl
     have l4:L<wq.heap.size:=na.1
     have s4:wq.heap.size<((wq.alloc (.cells #[] 5)).drew).heap.size:=by simp
     refine hK.out _ _ h4 (fun _=>?_)
     clear hK
     try simp only[Act.put,zA,zB,zC]
     generalize ((wq.alloc (.cells #[] 5)).drew)=w4 at *
     generalize wq.heap.size=E4 at *
     refine dO 9 10 rfl rfl (by kernel_rfl) rfl rfl (fun K hK=>?_) (fun K hK=>?_)
     ·refine ew rfl (.tmp 145) (.tmp 149) rfl E4 rfl e4 (by omega) _ (q) _ (fun j=>g (24+j)) rfl (r2.out _ g h4.1) (by omega) ?_
      intro A9 c9 w9 o9 g9 q9
      have h9:By w9 (some ⟨b,off,none⟩) n g∧Ce w9 w.heap.size [(),(),(),(),(),(),(),(),(),false,(),.slice none 0 0,.slice none 0 0]∧Below w.heap.size w w9:=⟨bz h4.1 g9 (by omega),h4.2.1.grown g9 (fun e=>by injection e with e;omega),h4.2.2.trans (af g9 (by omega) h4.2.2.size)⟩
      have uK:=yH.grown g9 (fun e=>by injection e with e;omega)
      have s9:=g9.size
      refine hK.out _ _ h9 (fun _=>?_)
      clear hK
      try simp only[Act.put,zA,zB,zC]
      refine only 10 rfl (by kernel_rfl) rfl (fun K hK=>?_)
      have qb:=ve o9
      go_simp
      have h10:By ((w9.alloc (.cells #[] 5))) (some ⟨b,off,none⟩) n g∧Ce ((w9.alloc (.cells #[] 5))) w.heap.size [(),(),(),(),(),(),(),(),(),false,(),.slice none 0 0,.slice none 0 0]∧Below w.heap.size w ((w9.alloc (.cells #[] 5))):=⟨h9.1.alloc _,h9.2.1.alloc _,h9.2.2.alloc h9.2.2.size _⟩
      have p7:Ce ((w9.alloc (.cells #[] 5))) L [(g 0),(g 1),(g 12),(num g 4 4),(num g 8 4),(num g 16 2),(num g 18 2),(),(),false,(),.slice none 0 0,.slice none 0 0]:=uK.alloc (.cells #[] 5)
      have o9:=Ow.alloc o9 (.cells #[] 5)
      have e10:∀f,Ow ((w9.alloc (.cells #[] 5))) w9.heap.size 5 1 (.slice (some ⟨w9.heap.size,0,none⟩) 0 0) 0 f:=fun f=>Ow.new' (w:=w9) rfl
      have l10:L<w9.heap.size:=uK.1
      have s10:w9.heap.size<((w9.alloc (.cells #[] 5))).heap.size:=by simp
      refine hK.out _ _ h10 (fun _=>?_)
      clear hK
      try simp only[Act.put,zA,zB,zC]
      generalize ((w9.alloc (.cells #[] 5)))=eh at *
      generalize w9.heap.size=m9 at *
      refine only 15 rfl (by kernel_rfl) rfl (fun K hK=>?_)
      refine ew rfl (.tmp 151) (.tmp 155) rfl m9 rfl e10 (by omega) _ (n-24-q) _ (fun j=>g (24+q+j)) rfl (s2.out _ g h10.1) (by omega) ?_
      intro cW c15 dA ql g15 Hm
      have mQ:By dA (some ⟨b,off,none⟩) n g∧Ce dA w.heap.size [(),(),(),(),(),(),(),(),(),false,(),.slice none 0 0,.slice none 0 0]∧Below w.heap.size w dA:=⟨bz h10.1 g15 (by omega),h10.2.1.grown g15 (fun e=>by injection e with e;omega),h10.2.2.trans (af g15 (by omega) h10.2.2.size)⟩
      have tj:=p7.grown g15 (fun e=>by injection e with e;omega)
      have s15:=g15.size
      have o9:=bZ o9 g15 (qb m9 (by omega))
      refine hK.out _ _ mQ (fun _=>?_)
      clear hK
      try simp only[Act.put,zA,zB,zC]
      have CC:=hid tj
      have y0:=CC.out.2.1 0 _ rfl
      have y1:=CC.out.2.1 1 _ rfl
      have y2:=CC.out.2.1 2 _ rfl
      have y3:=CC.out.2.1 3 _ rfl
      have y4:=CC.out.2.1 4 _ rfl
      have y5:=CC.out.2.1 5 _ rfl
      have y6:=CC.out.2.1 6 _ rfl
      have y7:=CC.out.2.1 7 _ rfl
      have y8:=CC.out.2.1 8 _ rfl
      have y9:=CC.out.2.1 9 _ rfl
      have aj:=CC.out.2.1 10 _ rfl
      have ah:=CC.out.2.1 11 _ rfl
      have ag:=CC.out.2.1 12 _ rfl
      have yf:=CC.out.2.2
      have yl:=CC.out.1
      have HH:=hid mQ
      refine only 17 rfl (by kernel_rfl) rfl (fun K hK=>?_)
      go_simp
      refine hK.out _ _ ⟨bz HH.out.1 (gs 7 (.int .i64 (g 20)) (World.grownBy.refl dA (some L))) hBlt,HH.out.2.1.grown (gs 7 (.int .i64 (g 20)) (World.grownBy.refl dA (some L))) (fun e=>dG (by injection e)),(HH.out.2.2).setCell (p:=⟨L,7,none⟩) (Nat.le_of_lt hL) (.int .i64 (g 20))⟩ (fun hN0=>?_)
      clear hK
      try simp only[Act.put,zA,zB,zC]
      refine ae 18 hN0 ?_
      clear hN0
      refine only 19 rfl (by kernel_rfl) rfl (fun K hK=>?_)
      go_simp
      refine hK.out _ _ ⟨bz HH.out.1 (gs 11 (.slice A9 q c9) (gs 7 (.int .i64 (g 20)) (World.grownBy.refl dA (some L)))) hBlt,HH.out.2.1.grown (gs 11 (.slice A9 q c9) (gs 7 (.int .i64 (g 20)) (World.grownBy.refl dA (some L)))) (fun e=>dG (by injection e)),((HH.out.2.2).setCell (p:=⟨L,7,none⟩) (Nat.le_of_lt hL) (.int .i64 (g 20))).setCell (p:=⟨L,11,none⟩) (Nat.le_of_lt hL) (.slice A9 q c9)⟩ (fun hN1=>?_)
      clear hK
      try simp only[Act.put,zA,zB,zC]
      refine ae 20 hN1 ?_
      clear hN1
      refine only 21 rfl (by kernel_rfl) rfl (fun K hK=>?_)
      go_simp
      refine hK.out _ _ ⟨bz HH.out.1 (gs 12 (.slice cW (n-24-q) c15) (gs 11 (.slice A9 q c9) (gs 7 (.int .i64 (g 20)) (World.grownBy.refl dA (some L))))) hBlt,HH.out.2.1.grown (gs 12 (.slice cW (n-24-q) c15) (gs 11 (.slice A9 q c9) (gs 7 (.int .i64 (g 20)) (World.grownBy.refl dA (some L))))) (fun e=>dG (by injection e)),(((HH.out.2.2).setCell (p:=⟨L,7,none⟩) (Nat.le_of_lt hL) (.int .i64 (g 20))).setCell (p:=⟨L,11,none⟩) (Nat.le_of_lt hL) (.slice A9 q c9)).setCell (p:=⟨L,12,none⟩) (Nat.le_of_lt hL) (.slice cW (n-24-q) c15)⟩ (fun kB=>?_)
      clear hK
      try simp only[Act.put,zA,zB,zC]
      refine wpAnyH_done (by kernel_rfl) ?_ _
      have bw:=hid ((((CC.out).set 7 (.int .i64 (g 20)) (by simp)).set 11 (.slice A9 q c9) (by simp)).set 12 (.slice cW (n-24-q) c15) (by simp))
      have aZ:=hid (HH.out.2.1.grown (gs 12 (.slice cW (n-24-q) c15) (gs 11 (.slice A9 q c9) (gs 7 (.int .i64 (g 20)) (World.grownBy.refl dA (some L))))) (fun e=>dG (by injection e)))
      have m_:=hid ((((HH.out.2.2).setCell (p:=⟨L,7,none⟩) (Nat.le_of_lt hL) (.int .i64 (g 20))).setCell (p:=⟨L,11,none⟩) (Nat.le_of_lt hL) (.slice A9 q c9)).setCell (p:=⟨L,12,none⟩) (Nat.le_of_lt hL) (.slice cW (n-24-q) c15))
      have jy:=hid (OB.grown o9 (gs 12 (.slice cW (n-24-q) c15) (gs 11 (.slice A9 q c9) (gs 7 (.int .i64 (g 20)) (World.grownBy.refl dA (some L))))) (OB.ne o9 l4))
      have qO:=hid (OB.grown ql (gs 12 (.slice cW (n-24-q) c15) (gs 11 (.slice A9 q c9) (gs 7 (.int .i64 (g 20)) (World.grownBy.refl dA (some L))))) (OB.ne ql l10))
      clear kB
      clear y0 y1 y2 y3 y4 y5 y6 y7 y8 y9 aj ah ag yf yl
      generalize (((dA.setCell ⟨L,7,none⟩ (.int .i64 (g 20))).setCell ⟨L,11,none⟩ (.slice A9 q c9)).setCell ⟨L,12,none⟩ (.slice cW (n-24-q) c15))=w8 at *
      have y0:=bw.out.2.1 0 _ rfl
      have y1:=bw.out.2.1 1 _ rfl
      have y2:=bw.out.2.1 2 _ rfl
      have y3:=bw.out.2.1 3 _ rfl
      have y4:=bw.out.2.1 4 _ rfl
      have y5:=bw.out.2.1 5 _ rfl
      have y6:=bw.out.2.1 6 _ rfl
      have y7:=bw.out.2.1 7 _ rfl
      have y8:=bw.out.2.1 8 _ rfl
      have y9:=bw.out.2.1 9 _ rfl
      have aj:=bw.out.2.1 10 _ rfl
      have ah:=bw.out.2.1 11 _ rfl
      have ag:=bw.out.2.1 12 _ rfl
      have yf:=bw.out.2.2
      have yl:=bw.out.1
      have z0:=aZ.out.2.1 0 _ rfl
      have z1:=aZ.out.2.1 1 _ rfl
      have z2:=aZ.out.2.1 2 _ rfl
      have z3:=aZ.out.2.1 3 _ rfl
      have z4:=aZ.out.2.1 4 _ rfl
      have z5:=aZ.out.2.1 5 _ rfl
      have z6:=aZ.out.2.1 6 _ rfl
      have z7:=aZ.out.2.1 7 _ rfl
      have z8:=aZ.out.2.1 8 _ rfl
      have z9:=aZ.out.2.1 9 _ rfl
      have je:=aZ.out.2.1 10 _ rfl
      have jd:=aZ.out.2.1 11 _ rfl
      have z12:=aZ.out.2.1 12 _ rfl
      have zf:=aZ.out.2.2
      have zl:=aZ.out.1
      go_wp2_with fail
      have CE:=(aZ.out).s13 (.int .i64 (g 0)) (.int .i64 (g 1)) (.int .i64 (g 12)) (.int .i64 (num g 4 4)) (.int .i64 (num g 8 4)) (.int .i64 (num g 16 2)) (.int .i64 (num g 18 2)) (.int .i64 (g 20)) (.int .i64 0) (.bool false) (.int .i64 0) (.slice A9 q c9) (.slice cW (n-24-q) c15)
      have BE:=cF (b:=w.heap.size) (m_.out) (Nat.le_refl _) (.int .i64 (g 0)) (.int .i64 (g 1)) (.int .i64 (g 12)) (.int .i64 (num g 4 4)) (.int .i64 (num g 8 4)) (.int .i64 (num g 16 2)) (.int .i64 (num g 18 2)) (.int .i64 (g 20)) (.int .i64 0) (.bool false) (.int .i64 0) (.slice A9 q c9) (.slice cW (n-24-q) c15)
      have cn:=OB.grown (jy.out) (aJ _ w.heap.size (.int .i64 (g 0)) (.int .i64 (g 1)) (.int .i64 (g 12)) (.int .i64 (num g 4 4)) (.int .i64 (num g 8 4)) (.int .i64 (num g 16 2)) (.int .i64 (num g 18 2)) (.int .i64 (g 20)) (.int .i64 0) (.bool false) (.int .i64 0) (.slice A9 q c9) (.slice cW (n-24-q) c15)) (OB.ne (jy.out) (by omega))
      have gi:=OB.grown (qO.out) (aJ _ w.heap.size (.int .i64 (g 0)) (.int .i64 (g 1)) (.int .i64 (g 12)) (.int .i64 (num g 4 4)) (.int .i64 (num g 8 4)) (.int .i64 (num g 16 2)) (.int .i64 (num g 18 2)) (.int .i64 (g 20)) (.int .i64 0) (.bool false) (.int .i64 0) (.slice A9 q c9) (.slice cW (n-24-q) c15)) (OB.ne (qO.out) (by omega))
      unfold cG at CE BE cn gi
      replace CE:=hid CE
      replace BE:=hid BE
      replace cn:=hid cn
      replace gi:=hid gi
      refine b5 (fun w'=>Ce w' w.heap.size [(g 0),(g 1),(g 12),(num g 4 4),(num g 8 4),(num g 16 2),(num g 18 2),(g 20),(),false,(),.slice A9 q c9,.slice cW (n-24-q) c15]∧Below w.heap.size w w'∧OB w' E4 (.slice A9 q c9) q (fun j=>g (24+j))∧OB w' m9 (.slice cW (n-24-q) c15) (n-24-q) (fun j=>g (24+q+j))) ⟨CE.out,BE.out,cn.out,gi.out⟩ (fun wf hwf=>?_)
      obtain ⟨hc2,hbf,ho0,ho1⟩:=hwf
      have x0:=hc2.2.1 0 _ rfl
      have x1:=hc2.2.1 1 _ rfl
      have x2:=hc2.2.1 2 _ rfl
      have x3:=hc2.2.1 3 _ rfl
      have x4:=hc2.2.1 4 _ rfl
      have x5:=hc2.2.1 5 _ rfl
      have x6:=hc2.2.1 6 _ rfl
      have x7:=hc2.2.1 7 _ rfl
      have x8:=hc2.2.1 8 _ rfl
      have x9:=hc2.2.1 9 _ rfl
      have eX:=hc2.2.1 10 _ rfl
      have eW:=hc2.2.1 11 _ rfl
      have eV:=hc2.2.1 12 _ rfl
      refine bodyPost_ret (v:=.tuple #[.agg #[(g 0),(g 1),(g 12),(num g 4 4),(num g 8 4),(num g 16 2),(num g 18 2),(g 20),(),false,(),.slice A9 q c9,.slice cW (n-24-q) c15],()]) (by simp[results,Tryz.results87,go_sem,x0,x1,x2,x3,x4,x5,x6,x7,x8,x9,eX,eW,eV]) rfl ?_
      exact⟨(.slice A9 q c9),(.slice cW (n-24-q) c15),by rw[kf.out,HE.out];rfl,by rw[kf.out];exact OB.base ho0 (by omega),by rw[kf.out];exact OB.base ho1 (by omega),hbf⟩
     go_simp
     have h10:By ((w4.alloc (.cells #[] 5))) (some ⟨b,off,none⟩) n g∧Ce ((w4.alloc (.cells #[] 5))) w.heap.size [(),(),(),(),(),(),(),(),(),false,(),.slice none 0 0,.slice none 0 0]∧Below w.heap.size w ((w4.alloc (.cells #[] 5))):=⟨h4.1.alloc _,h4.2.1.alloc _,h4.2.2.alloc h4.2.2.size _⟩
     have p7:Ce ((w4.alloc (.cells #[] 5))) L [(g 0),(g 1),(g 12),(num g 4 4),(num g 8 4),(num g 16 2),(num g 18 2),(),(),false,(),.slice none 0 0,.slice none 0 0]:=yH.alloc (.cells #[] 5)
     have e4:=fun f=>Ow.alloc (e4 f) (.cells #[] 5)
     have e10:∀f,Ow ((w4.alloc (.cells #[] 5))) w4.heap.size 5 1 (.slice (some ⟨w4.heap.size,0,none⟩) 0 0) 0 f:=fun f=>Ow.new' (w:=w4) rfl
     have l10:L<w4.heap.size:=yH.1
     have s10:w4.heap.size<((w4.alloc (.cells #[] 5))).heap.size:=by simp
     refine hK.out _ _ h10 (fun _=>?_)
     clear hK
     try simp only[Act.put,zA,zB,zC]
     generalize ((w4.alloc (.cells #[] 5)))=eh at *
     generalize w4.heap.size=m9 at *
     refine only 9 rfl (by kernel_rfl) rfl (fun K hK=>?_)
     refine ew rfl (.tmp 145) (.tmp 149) rfl E4 rfl e4 (by omega) _ (q) _ (fun j=>g (24+j)) rfl (r2.out _ g h10.1) (by omega) ?_
     intro A9 c9 w9 o9 g9 q9
     have h9:By w9 (some ⟨b,off,none⟩) n g∧Ce w9 w.heap.size [(),(),(),(),(),(),(),(),(),false,(),.slice none 0 0,.slice none 0 0]∧Below w.heap.size w w9:=⟨bz h10.1 g9 (by omega),h10.2.1.grown g9 (fun e=>by injection e with e;omega),h10.2.2.trans (af g9 (by omega) h10.2.2.size)⟩
     have uK:=p7.grown g9 (fun e=>by injection e with e;omega)
     have s9:=g9.size
     have e10:=fun f=>bZ (e10 f) g9 (fun e=>by simp only[Value.ownBlock,Option.some.injEq]at e;omega)
     refine hK.out _ _ h9 (fun _=>?_)
     clear hK
     try simp only[Act.put,zA,zB,zC]
     refine only 15 rfl (by kernel_rfl) rfl (fun K hK=>?_)
     refine ew rfl (.tmp 151) (.tmp 155) rfl m9 rfl e10 (by omega) _ (n-24-q) _ (fun j=>g (24+q+j)) rfl (s2.out _ g h9.1) (by omega) ?_
     intro cW c15 dA ql g15 Hm
     have mQ:By dA (some ⟨b,off,none⟩) n g∧Ce dA w.heap.size [(),(),(),(),(),(),(),(),(),false,(),.slice none 0 0,.slice none 0 0]∧Below w.heap.size w dA:=⟨bz h9.1 g15 (by omega),h9.2.1.grown g15 (fun e=>by injection e with e;omega),h9.2.2.trans (af g15 (by omega) h9.2.2.size)⟩
     have tj:=uK.grown g15 (fun e=>by injection e with e;omega)
     have s15:=g15.size
     have o9:=bZ o9 g15 (q9 m9 (by omega) (by omega))
     refine hK.out _ _ mQ (fun _=>?_)
     clear hK
     try simp only[Act.put,zA,zB,zC]
     have CC:=hid tj
     have y0:=CC.out.2.1 0 _ rfl
     have y1:=CC.out.2.1 1 _ rfl
     have y2:=CC.out.2.1 2 _ rfl
     have y3:=CC.out.2.1 3 _ rfl
     have y4:=CC.out.2.1 4 _ rfl
     have y5:=CC.out.2.1 5 _ rfl
     have y6:=CC.out.2.1 6 _ rfl
     have y7:=CC.out.2.1 7 _ rfl
     have y8:=CC.out.2.1 8 _ rfl
     have y9:=CC.out.2.1 9 _ rfl
     have aj:=CC.out.2.1 10 _ rfl
     have ah:=CC.out.2.1 11 _ rfl
     have ag:=CC.out.2.1 12 _ rfl
     have yf:=CC.out.2.2
     have yl:=CC.out.1
     have HH:=hid mQ
     refine only 17 rfl (by kernel_rfl) rfl (fun K hK=>?_)
     go_simp
     refine hK.out _ _ ⟨bz HH.out.1 (gs 7 (.int .i64 (g 20)) (World.grownBy.refl dA (some L))) hBlt,HH.out.2.1.grown (gs 7 (.int .i64 (g 20)) (World.grownBy.refl dA (some L))) (fun e=>dG (by injection e)),(HH.out.2.2).setCell (p:=⟨L,7,none⟩) (Nat.le_of_lt hL) (.int .i64 (g 20))⟩ (fun hN0=>?_)
     clear hK
     try simp only[Act.put,zA,zB,zC]
     refine ae 18 hN0 ?_
     clear hN0
     refine only 19 rfl (by kernel_rfl) rfl (fun K hK=>?_)
     go_simp
     refine hK.out _ _ ⟨bz HH.out.1 (gs 11 (.slice A9 q c9) (gs 7 (.int .i64 (g 20)) (World.grownBy.refl dA (some L)))) hBlt,HH.out.2.1.grown (gs 11 (.slice A9 q c9) (gs 7 (.int .i64 (g 20)) (World.grownBy.refl dA (some L)))) (fun e=>dG (by injection e)),((HH.out.2.2).setCell (p:=⟨L,7,none⟩) (Nat.le_of_lt hL) (.int .i64 (g 20))).setCell (p:=⟨L,11,none⟩) (Nat.le_of_lt hL) (.slice A9 q c9)⟩ (fun hN1=>?_)
     clear hK
     try simp only[Act.put,zA,zB,zC]
     refine ae 20 hN1 ?_
     clear hN1
     refine only 21 rfl (by kernel_rfl) rfl (fun K hK=>?_)
     go_simp
     refine hK.out _ _ ⟨bz HH.out.1 (gs 12 (.slice cW (n-24-q) c15) (gs 11 (.slice A9 q c9) (gs 7 (.int .i64 (g 20)) (World.grownBy.refl dA (some L))))) hBlt,HH.out.2.1.grown (gs 12 (.slice cW (n-24-q) c15) (gs 11 (.slice A9 q c9) (gs 7 (.int .i64 (g 20)) (World.grownBy.refl dA (some L))))) (fun e=>dG (by injection e)),(((HH.out.2.2).setCell (p:=⟨L,7,none⟩) (Nat.le_of_lt hL) (.int .i64 (g 20))).setCell (p:=⟨L,11,none⟩) (Nat.le_of_lt hL) (.slice A9 q c9)).setCell (p:=⟨L,12,none⟩) (Nat.le_of_lt hL) (.slice cW (n-24-q) c15)⟩ (fun kB=>?_)
     clear hK
     try simp only[Act.put,zA,zB,zC]
     refine wpAnyH_done (by kernel_rfl) ?_ _
     have bw:=hid ((((CC.out).set 7 (.int .i64 (g 20)) (by simp)).set 11 (.slice A9 q c9) (by simp)).set 12 (.slice cW (n-24-q) c15) (by simp))
     have aZ:=hid (HH.out.2.1.grown (gs 12 (.slice cW (n-24-q) c15) (gs 11 (.slice A9 q c9) (gs 7 (.int .i64 (g 20)) (World.grownBy.refl dA (some L))))) (fun e=>dG (by injection e)))
     have m_:=hid ((((HH.out.2.2).setCell (p:=⟨L,7,none⟩) (Nat.le_of_lt hL) (.int .i64 (g 20))).setCell (p:=⟨L,11,none⟩) (Nat.le_of_lt hL) (.slice A9 q c9)).setCell (p:=⟨L,12,none⟩) (Nat.le_of_lt hL) (.slice cW (n-24-q) c15))
     have jy:=hid (OB.grown o9 (gs 12 (.slice cW (n-24-q) c15) (gs 11 (.slice A9 q c9) (gs 7 (.int .i64 (g 20)) (World.grownBy.refl dA (some L))))) (OB.ne o9 l4))
     have qO:=hid (OB.grown ql (gs 12 (.slice cW (n-24-q) c15) (gs 11 (.slice A9 q c9) (gs 7 (.int .i64 (g 20)) (World.grownBy.refl dA (some L))))) (OB.ne ql l10))
     clear kB
     clear y0 y1 y2 y3 y4 y5 y6 y7 y8 y9 aj ah ag yf yl
     generalize (((dA.setCell ⟨L,7,none⟩ (.int .i64 (g 20))).setCell ⟨L,11,none⟩ (.slice A9 q c9)).setCell ⟨L,12,none⟩ (.slice cW (n-24-q) c15))=w8 at *
     have y0:=bw.out.2.1 0 _ rfl
     have y1:=bw.out.2.1 1 _ rfl
     have y2:=bw.out.2.1 2 _ rfl
     have y3:=bw.out.2.1 3 _ rfl
     have y4:=bw.out.2.1 4 _ rfl
     have y5:=bw.out.2.1 5 _ rfl
     have y6:=bw.out.2.1 6 _ rfl
     have y7:=bw.out.2.1 7 _ rfl
     have y8:=bw.out.2.1 8 _ rfl
     have y9:=bw.out.2.1 9 _ rfl
     have aj:=bw.out.2.1 10 _ rfl
     have ah:=bw.out.2.1 11 _ rfl
     have ag:=bw.out.2.1 12 _ rfl
     have yf:=bw.out.2.2
     have yl:=bw.out.1
     have z0:=aZ.out.2.1 0 _ rfl
     have z1:=aZ.out.2.1 1 _ rfl
     have z2:=aZ.out.2.1 2 _ rfl
     have z3:=aZ.out.2.1 3 _ rfl
     have z4:=aZ.out.2.1 4 _ rfl
     have z5:=aZ.out.2.1 5 _ rfl
     have z6:=aZ.out.2.1 6 _ rfl
     have z7:=aZ.out.2.1 7 _ rfl
     have z8:=aZ.out.2.1 8 _ rfl
     have z9:=aZ.out.2.1 9 _ rfl
     have je:=aZ.out.2.1 10 _ rfl
     have jd:=aZ.out.2.1 11 _ rfl
     have z12:=aZ.out.2.1 12 _ rfl
     have zf:=aZ.out.2.2
     have zl:=aZ.out.1
     go_wp2_with fail
     have CE:=(aZ.out).s13 (.int .i64 (g 0)) (.int .i64 (g 1)) (.int .i64 (g 12)) (.int .i64 (num g 4 4)) (.int .i64 (num g 8 4)) (.int .i64 (num g 16 2)) (.int .i64 (num g 18 2)) (.int .i64 (g 20)) (.int .i64 0) (.bool false) (.int .i64 0) (.slice A9 q c9) (.slice cW (n-24-q) c15)
     have BE:=cF (b:=w.heap.size) (m_.out) (Nat.le_refl _) (.int .i64 (g 0)) (.int .i64 (g 1)) (.int .i64 (g 12)) (.int .i64 (num g 4 4)) (.int .i64 (num g 8 4)) (.int .i64 (num g 16 2)) (.int .i64 (num g 18 2)) (.int .i64 (g 20)) (.int .i64 0) (.bool false) (.int .i64 0) (.slice A9 q c9) (.slice cW (n-24-q) c15)
     have cn:=OB.grown (jy.out) (aJ _ w.heap.size (.int .i64 (g 0)) (.int .i64 (g 1)) (.int .i64 (g 12)) (.int .i64 (num g 4 4)) (.int .i64 (num g 8 4)) (.int .i64 (num g 16 2)) (.int .i64 (num g 18 2)) (.int .i64 (g 20)) (.int .i64 0) (.bool false) (.int .i64 0) (.slice A9 q c9) (.slice cW (n-24-q) c15)) (OB.ne (jy.out) (by omega))
     have gi:=OB.grown (qO.out) (aJ _ w.heap.size (.int .i64 (g 0)) (.int .i64 (g 1)) (.int .i64 (g 12)) (.int .i64 (num g 4 4)) (.int .i64 (num g 8 4)) (.int .i64 (num g 16 2)) (.int .i64 (num g 18 2)) (.int .i64 (g 20)) (.int .i64 0) (.bool false) (.int .i64 0) (.slice A9 q c9) (.slice cW (n-24-q) c15)) (OB.ne (qO.out) (by omega))
     unfold cG at CE BE cn gi
     replace CE:=hid CE
     replace BE:=hid BE
     replace cn:=hid cn
     replace gi:=hid gi
     refine b5 (fun w'=>Ce w' w.heap.size [(g 0),(g 1),(g 12),(num g 4 4),(num g 8 4),(num g 16 2),(num g 18 2),(g 20),(),false,(),.slice A9 q c9,.slice cW (n-24-q) c15]∧Below w.heap.size w w'∧OB w' E4 (.slice A9 q c9) q (fun j=>g (24+j))∧OB w' m9 (.slice cW (n-24-q) c15) (n-24-q) (fun j=>g (24+q+j))) ⟨CE.out,BE.out,cn.out,gi.out⟩ (fun wf hwf=>?_)
     obtain ⟨hc2,hbf,ho0,ho1⟩:=hwf
     have x0:=hc2.2.1 0 _ rfl
     have x1:=hc2.2.1 1 _ rfl
     have x2:=hc2.2.1 2 _ rfl
     have x3:=hc2.2.1 3 _ rfl
     have x4:=hc2.2.1 4 _ rfl
     have x5:=hc2.2.1 5 _ rfl
     have x6:=hc2.2.1 6 _ rfl
     have x7:=hc2.2.1 7 _ rfl
     have x8:=hc2.2.1 8 _ rfl
     have x9:=hc2.2.1 9 _ rfl
     have eX:=hc2.2.1 10 _ rfl
     have eW:=hc2.2.1 11 _ rfl
     have eV:=hc2.2.1 12 _ rfl
     refine bodyPost_ret (v:=.tuple #[.agg #[(g 0),(g 1),(g 12),(num g 4 4),(num g 8 4),(num g 16 2),(num g 18 2),(g 20),(),false,(),.slice A9 q c9,.slice cW (n-24-q) c15],()]) (by simp[results,Tryz.results87,go_sem,x0,x1,x2,x3,x4,x5,x6,x7,x8,x9,eX,eW,eV]) rfl ?_
     exact⟨(.slice A9 q c9),(.slice cW (n-24-q) c15),by rw[kf.out,HE.out];rfl,by rw[kf.out];exact OB.base ho0 (by omega),by rw[kf.out];exact OB.base ho1 (by omega),hbf⟩
    go_simp
    have h10:By ((wq.alloc (.cells #[] 5)).drew) (some ⟨b,off,none⟩) n g∧Ce ((wq.alloc (.cells #[] 5)).drew) w.heap.size [(),(),(),(),(),(),(),(),(),false,(),.slice none 0 0,.slice none 0 0]∧Below w.heap.size w ((wq.alloc (.cells #[] 5)).drew):=⟨hHeld.1.alloc _,hHeld.2.1.alloc _,hHeld.2.2.alloc hHeld.2.2.size _⟩
    have p7:Ce ((wq.alloc (.cells #[] 5)).drew) L [(g 0),(g 1),(g 12),(num g 4 4),(num g 8 4),(num g 16 2),(num g 18 2),(),(),false,(),.slice none 0 0,.slice none 0 0]:=na.alloc (.cells #[] 5)
    have e10:∀f,Ow ((wq.alloc (.cells #[] 5)).drew) wq.heap.size 5 1 (.slice (some ⟨wq.heap.size,0,none⟩) 0 0) 0 f:=fun f=>Ow.new' (w:=wq.drew) rfl
    have l10:L<wq.heap.size:=na.1
    have s10:wq.heap.size<((wq.alloc (.cells #[] 5)).drew).heap.size:=by simp
    refine hK.out _ _ h10 (fun _=>?_)
    clear hK
    try simp only[Act.put,zA,zB,zC]
    generalize ((wq.alloc (.cells #[] 5)).drew)=eh at *
    generalize wq.heap.size=m9 at *
    refine only 4 rfl (by kernel_rfl) rfl (fun K hK=>?_)
    go_simp
    have h4:By ((eh.alloc (.cells #[] 5))) (some ⟨b,off,none⟩) n g∧Ce ((eh.alloc (.cells #[] 5))) w.heap.size [(),(),(),(),(),(),(),(),(),false,(),.slice none 0 0,.slice none 0 0]∧Below w.heap.size w ((eh.alloc (.cells #[] 5))):=⟨h10.1.alloc _,h10.2.1.alloc _,h10.2.2.alloc h10.2.2.size _⟩
    have yH:Ce ((eh.alloc (.cells #[] 5))) L [(g 0),(g 1),(g 12),(num g 4 4),(num g 8 4),(num g 16 2),(num g 18 2),(),(),false,(),.slice none 0 0,.slice none 0 0]:=p7.alloc (.cells #[] 5)
    have e10:=fun f=>Ow.alloc (e10 f) (.cells #[] 5)
    have e4:∀f,Ow ((eh.alloc (.cells #[] 5))) eh.heap.size 5 1 (.slice (some ⟨eh.heap.size,0,none⟩) 0 0) 0 f:=fun f=>Ow.new' (w:=eh) rfl
    have l4:L<eh.heap.size:=p7.1
    have s4:eh.heap.size<((eh.alloc (.cells #[] 5))).heap.size:=by simp
    refine hK.out _ _ h4 (fun _=>?_)
    clear hK
    try simp only[Act.put,zA,zB,zC]
    generalize ((eh.alloc (.cells #[] 5)))=w4 at *
    generalize eh.heap.size=E4 at *
    refine only 9 rfl (by kernel_rfl) rfl (fun K hK=>?_)
    refine ew rfl (.tmp 145) (.tmp 149) rfl E4 rfl e4 (by omega) _ (q) _ (fun j=>g (24+j)) rfl (r2.out _ g h4.1) (by omega) ?_
    intro A9 c9 w9 o9 g9 q9
    have h9:By w9 (some ⟨b,off,none⟩) n g∧Ce w9 w.heap.size [(),(),(),(),(),(),(),(),(),false,(),.slice none 0 0,.slice none 0 0]∧Below w.heap.size w w9:=⟨bz h4.1 g9 (by omega),h4.2.1.grown g9 (fun e=>by injection e with e;omega),h4.2.2.trans (af g9 (by omega) h4.2.2.size)⟩
    have uK:=yH.grown g9 (fun e=>by injection e with e;omega)
    have s9:=g9.size
    have e10:=fun f=>bZ (e10 f) g9 (fun e=>by simp only[Value.ownBlock,Option.some.injEq]at e;omega)
    refine hK.out _ _ h9 (fun _=>?_)
    clear hK
    try simp only[Act.put,zA,zB,zC]
    refine only 15 rfl (by kernel_rfl) rfl (fun K hK=>?_)
    refine ew rfl (.tmp 151) (.tmp 155) rfl m9 rfl e10 (by omega) _ (n-24-q) _ (fun j=>g (24+q+j)) rfl (s2.out _ g h9.1) (by omega) ?_
    intro cW c15 dA ql g15 Hm
    have mQ:By dA (some ⟨b,off,none⟩) n g∧Ce dA w.heap.size [(),(),(),(),(),(),(),(),(),false,(),.slice none 0 0,.slice none 0 0]∧Below w.heap.size w dA:=⟨bz h9.1 g15 (by omega),h9.2.1.grown g15 (fun e=>by injection e with e;omega),h9.2.2.trans (af g15 (by omega) h9.2.2.size)⟩
    have tj:=uK.grown g15 (fun e=>by injection e with e;omega)
    have s15:=g15.size
    have o9:=bZ o9 g15 (q9 m9 (by omega) (by omega))
    refine hK.out _ _ mQ (fun _=>?_)
    clear hK
    try simp only[Act.put,zA,zB,zC]
    have CC:=hid tj
    have y0:=CC.out.2.1 0 _ rfl
    have y1:=CC.out.2.1 1 _ rfl
    have y2:=CC.out.2.1 2 _ rfl
    have y3:=CC.out.2.1 3 _ rfl
    have y4:=CC.out.2.1 4 _ rfl
    have y5:=CC.out.2.1 5 _ rfl
    have y6:=CC.out.2.1 6 _ rfl
    have y7:=CC.out.2.1 7 _ rfl
    have y8:=CC.out.2.1 8 _ rfl
    have y9:=CC.out.2.1 9 _ rfl
    have aj:=CC.out.2.1 10 _ rfl
    have ah:=CC.out.2.1 11 _ rfl
    have ag:=CC.out.2.1 12 _ rfl
    have yf:=CC.out.2.2
    have yl:=CC.out.1
    have HH:=hid mQ
    refine only 17 rfl (by kernel_rfl) rfl (fun K hK=>?_)
    go_simp
    refine hK.out _ _ ⟨bz HH.out.1 (gs 7 (.int .i64 (g 20)) (World.grownBy.refl dA (some L))) hBlt,HH.out.2.1.grown (gs 7 (.int .i64 (g 20)) (World.grownBy.refl dA (some L))) (fun e=>dG (by injection e)),(HH.out.2.2).setCell (p:=⟨L,7,none⟩) (Nat.le_of_lt hL) (.int .i64 (g 20))⟩ (fun hN0=>?_)
    clear hK
    try simp only[Act.put,zA,zB,zC]
    refine ae 18 hN0 ?_
    clear hN0
    refine only 19 rfl (by kernel_rfl) rfl (fun K hK=>?_)
    go_simp
    refine hK.out _ _ ⟨bz HH.out.1 (gs 11 (.slice A9 q c9) (gs 7 (.int .i64 (g 20)) (World.grownBy.refl dA (some L)))) hBlt,HH.out.2.1.grown (gs 11 (.slice A9 q c9) (gs 7 (.int .i64 (g 20)) (World.grownBy.refl dA (some L)))) (fun e=>dG (by injection e)),((HH.out.2.2).setCell (p:=⟨L,7,none⟩) (Nat.le_of_lt hL) (.int .i64 (g 20))).setCell (p:=⟨L,11,none⟩) (Nat.le_of_lt hL) (.slice A9 q c9)⟩ (fun hN1=>?_)
    clear hK
    try simp only[Act.put,zA,zB,zC]
    refine ae 20 hN1 ?_
    clear hN1
    refine only 21 rfl (by kernel_rfl) rfl (fun K hK=>?_)
    go_simp
    refine hK.out _ _ ⟨bz HH.out.1 (gs 12 (.slice cW (n-24-q) c15) (gs 11 (.slice A9 q c9) (gs 7 (.int .i64 (g 20)) (World.grownBy.refl dA (some L))))) hBlt,HH.out.2.1.grown (gs 12 (.slice cW (n-24-q) c15) (gs 11 (.slice A9 q c9) (gs 7 (.int .i64 (g 20)) (World.grownBy.refl dA (some L))))) (fun e=>dG (by injection e)),(((HH.out.2.2).setCell (p:=⟨L,7,none⟩) (Nat.le_of_lt hL) (.int .i64 (g 20))).setCell (p:=⟨L,11,none⟩) (Nat.le_of_lt hL) (.slice A9 q c9)).setCell (p:=⟨L,12,none⟩) (Nat.le_of_lt hL) (.slice cW (n-24-q) c15)⟩ (fun kB=>?_)
    clear hK
    try simp only[Act.put,zA,zB,zC]
    refine wpAnyH_done (by kernel_rfl) ?_ _
    have bw:=hid ((((CC.out).set 7 (.int .i64 (g 20)) (by simp)).set 11 (.slice A9 q c9) (by simp)).set 12 (.slice cW (n-24-q) c15) (by simp))
    have aZ:=hid (HH.out.2.1.grown (gs 12 (.slice cW (n-24-q) c15) (gs 11 (.slice A9 q c9) (gs 7 (.int .i64 (g 20)) (World.grownBy.refl dA (some L))))) (fun e=>dG (by injection e)))
    have m_:=hid ((((HH.out.2.2).setCell (p:=⟨L,7,none⟩) (Nat.le_of_lt hL) (.int .i64 (g 20))).setCell (p:=⟨L,11,none⟩) (Nat.le_of_lt hL) (.slice A9 q c9)).setCell (p:=⟨L,12,none⟩) (Nat.le_of_lt hL) (.slice cW (n-24-q) c15))
    have jy:=hid (OB.grown o9 (gs 12 (.slice cW (n-24-q) c15) (gs 11 (.slice A9 q c9) (gs 7 (.int .i64 (g 20)) (World.grownBy.refl dA (some L))))) (OB.ne o9 l4))
    have qO:=hid (OB.grown ql (gs 12 (.slice cW (n-24-q) c15) (gs 11 (.slice A9 q c9) (gs 7 (.int .i64 (g 20)) (World.grownBy.refl dA (some L))))) (OB.ne ql l10))
    clear kB
    clear y0 y1 y2 y3 y4 y5 y6 y7 y8 y9 aj ah ag yf yl
    generalize (((dA.setCell ⟨L,7,none⟩ (.int .i64 (g 20))).setCell ⟨L,11,none⟩ (.slice A9 q c9)).setCell ⟨L,12,none⟩ (.slice cW (n-24-q) c15))=w8 at *
    have y0:=bw.out.2.1 0 _ rfl
    have y1:=bw.out.2.1 1 _ rfl
    have y2:=bw.out.2.1 2 _ rfl
    have y3:=bw.out.2.1 3 _ rfl
    have y4:=bw.out.2.1 4 _ rfl
    have y5:=bw.out.2.1 5 _ rfl
    have y6:=bw.out.2.1 6 _ rfl
    have y7:=bw.out.2.1 7 _ rfl
    have y8:=bw.out.2.1 8 _ rfl
    have y9:=bw.out.2.1 9 _ rfl
    have aj:=bw.out.2.1 10 _ rfl
    have ah:=bw.out.2.1 11 _ rfl
    have ag:=bw.out.2.1 12 _ rfl
    have yf:=bw.out.2.2
    have yl:=bw.out.1
    have z0:=aZ.out.2.1 0 _ rfl
    have z1:=aZ.out.2.1 1 _ rfl
    have z2:=aZ.out.2.1 2 _ rfl
    have z3:=aZ.out.2.1 3 _ rfl
    have z4:=aZ.out.2.1 4 _ rfl
    have z5:=aZ.out.2.1 5 _ rfl
    have z6:=aZ.out.2.1 6 _ rfl
    have z7:=aZ.out.2.1 7 _ rfl
    have z8:=aZ.out.2.1 8 _ rfl
    have z9:=aZ.out.2.1 9 _ rfl
    have je:=aZ.out.2.1 10 _ rfl
    have jd:=aZ.out.2.1 11 _ rfl
    have z12:=aZ.out.2.1 12 _ rfl
    have zf:=aZ.out.2.2
    have zl:=aZ.out.1
    go_wp2_with fail
    have CE:=(aZ.out).s13 (.int .i64 (g 0)) (.int .i64 (g 1)) (.int .i64 (g 12)) (.int .i64 (num g 4 4)) (.int .i64 (num g 8 4)) (.int .i64 (num g 16 2)) (.int .i64 (num g 18 2)) (.int .i64 (g 20)) (.int .i64 0) (.bool false) (.int .i64 0) (.slice A9 q c9) (.slice cW (n-24-q) c15)
    have BE:=cF (b:=w.heap.size) (m_.out) (Nat.le_refl _) (.int .i64 (g 0)) (.int .i64 (g 1)) (.int .i64 (g 12)) (.int .i64 (num g 4 4)) (.int .i64 (num g 8 4)) (.int .i64 (num g 16 2)) (.int .i64 (num g 18 2)) (.int .i64 (g 20)) (.int .i64 0) (.bool false) (.int .i64 0) (.slice A9 q c9) (.slice cW (n-24-q) c15)
    have cn:=OB.grown (jy.out) (aJ _ w.heap.size (.int .i64 (g 0)) (.int .i64 (g 1)) (.int .i64 (g 12)) (.int .i64 (num g 4 4)) (.int .i64 (num g 8 4)) (.int .i64 (num g 16 2)) (.int .i64 (num g 18 2)) (.int .i64 (g 20)) (.int .i64 0) (.bool false) (.int .i64 0) (.slice A9 q c9) (.slice cW (n-24-q) c15)) (OB.ne (jy.out) (by omega))
    have gi:=OB.grown (qO.out) (aJ _ w.heap.size (.int .i64 (g 0)) (.int .i64 (g 1)) (.int .i64 (g 12)) (.int .i64 (num g 4 4)) (.int .i64 (num g 8 4)) (.int .i64 (num g 16 2)) (.int .i64 (num g 18 2)) (.int .i64 (g 20)) (.int .i64 0) (.bool false) (.int .i64 0) (.slice A9 q c9) (.slice cW (n-24-q) c15)) (OB.ne (qO.out) (by omega))
    unfold cG at CE BE cn gi
    replace CE:=hid CE
    replace BE:=hid BE
    replace cn:=hid cn
    replace gi:=hid gi
    refine b5 (fun w'=>Ce w' w.heap.size [(g 0),(g 1),(g 12),(num g 4 4),(num g 8 4),(num g 16 2),(num g 18 2),(g 20),(),false,(),.slice A9 q c9,.slice cW (n-24-q) c15]∧Below w.heap.size w w'∧OB w' E4 (.slice A9 q c9) q (fun j=>g (24+j))∧OB w' m9 (.slice cW (n-24-q) c15) (n-24-q) (fun j=>g (24+q+j))) ⟨CE.out,BE.out,cn.out,gi.out⟩ (fun wf hwf=>?_)
    obtain ⟨hc2,hbf,ho0,ho1⟩:=hwf
    have x0:=hc2.2.1 0 _ rfl
    have x1:=hc2.2.1 1 _ rfl
    have x2:=hc2.2.1 2 _ rfl
    have x3:=hc2.2.1 3 _ rfl
    have x4:=hc2.2.1 4 _ rfl
    have x5:=hc2.2.1 5 _ rfl
    have x6:=hc2.2.1 6 _ rfl
    have x7:=hc2.2.1 7 _ rfl
    have x8:=hc2.2.1 8 _ rfl
    have x9:=hc2.2.1 9 _ rfl
    have eX:=hc2.2.1 10 _ rfl
    have eW:=hc2.2.1 11 _ rfl
    have eV:=hc2.2.1 12 _ rfl
    refine bodyPost_ret (v:=.tuple #[.agg #[(g 0),(g 1),(g 12),(num g 4 4),(num g 8 4),(num g 16 2),(num g 18 2),(g 20),(),false,(),.slice A9 q c9,.slice cW (n-24-q) c15],()]) (by simp[results,Tryz.results87,go_sem,x0,x1,x2,x3,x4,x5,x6,x7,x8,x9,eX,eW,eV]) rfl ?_
    exact⟨(.slice A9 q c9),(.slice cW (n-24-q) c15),by rw[kf.out,HE.out];rfl,by rw[kf.out];exact OB.base ho0 (by omega),by rw[kf.out];exact OB.base ho1 (by omega),hbf⟩
   have hE:aB g n=5:=by rw[iM];unfold cg;rw[if_neg k3,if_neg (by omega),if_pos];refine⟨K1.out,?_⟩;rw[s_.out];simp at bn;omega
   have HR:Hid (au g n ={}):=hid (by unfold au;rw[hE,if_neg (by decide)])
   have HE:=hid hE
   clear hE
   clear iM px k3
   have z0:=R2.out.2.1 0 _ rfl
   have z1:=R2.out.2.1 1 _ rfl
   have z2:=R2.out.2.1 2 _ rfl
   have z3:=R2.out.2.1 3 _ rfl
   have z4:=R2.out.2.1 4 _ rfl
   have z5:=R2.out.2.1 5 _ rfl
   have z6:=R2.out.2.1 6 _ rfl
   have z7:=R2.out.2.1 7 _ rfl
   have z8:=R2.out.2.1 8 _ rfl
   have z9:=R2.out.2.1 9 _ rfl
   have je:=R2.out.2.1 10 _ rfl
   have jd:=R2.out.2.1 11 _ rfl
   have z12:=R2.out.2.1 12 _ rfl
   have zf:=R2.out.2.2
   have zl:=R2.out.1
   go_wp2_with fail
   have CE:=Ce.s13 R2.out (.int .i64 0) (.int .i64 0) (.int .i64 0) (.int .i64 0) (.int .i64 0) (.int .i64 0) (.int .i64 0) (.int .i64 0) (.int .i64 0) (.bool false) (.int .i64 0) (.slice none 0 0) (.slice none 0 0)
   have BE:=cF (b:=w.heap.size) D2.out (Nat.le_refl _) (.int .i64 0) (.int .i64 0) (.int .i64 0) (.int .i64 0) (.int .i64 0) (.int .i64 0) (.int .i64 0) (.int .i64 0) (.int .i64 0) (.bool false) (.int .i64 0) (.slice none 0 0) (.slice none 0 0)
   unfold cG at CE BE
   replace CE:=hid CE
   replace BE:=hid BE
   refine b5 (fun w'=>Ce w' w.heap.size [(),(),(),(),(),(),(),(),(),false,(),.slice none 0 0,.slice none 0 0]∧Below w.heap.size w w') ⟨CE.out,BE.out⟩ (fun wf hwf=>?_)
   obtain ⟨hc2,hbf⟩:=hwf
   have x0:=hc2.2.1 0 _ rfl
   have x1:=hc2.2.1 1 _ rfl
   have x2:=hc2.2.1 2 _ rfl
   have x3:=hc2.2.1 3 _ rfl
   have x4:=hc2.2.1 4 _ rfl
   have x5:=hc2.2.1 5 _ rfl
   have x6:=hc2.2.1 6 _ rfl
   have x7:=hc2.2.1 7 _ rfl
   have x8:=hc2.2.1 8 _ rfl
   have x9:=hc2.2.1 9 _ rfl
   have eX:=hc2.2.1 10 _ rfl
   have eW:=hc2.2.1 11 _ rfl
   have eV:=hc2.2.1 12 _ rfl
   refine bodyPost_ret (v:=.tuple #[de {} (.slice none 0 0) (.slice none 0 0),.int .i64 5]) (by simp[results,Tryz.results87,go_sem,de,ea,x0,x1,x2,x3,x4,x5,x6,x7,x8,x9,eX,eW,eV]) rfl ?_
   exact⟨.slice none 0 0,.slice none 0 0,by rw[HR.out,HE.out],by rw[HR.out];exact OB.nil,by rw[HR.out];exact OB.nil,hbf⟩
  have hE:aB g n=5:=by rw[iM];unfold cg;rw[if_neg k3,if_neg (by omega),if_pos];refine⟨K1.out,?_⟩;rw[s_.out];simp at Ip;omega
  have HR:Hid (au g n ={}):=hid (by unfold au;rw[hE,if_neg (by decide)])
  have HE:=hid hE
  clear hE
  clear iM px k3
  have z0:=R2.out.2.1 0 _ rfl
  have z1:=R2.out.2.1 1 _ rfl
  have z2:=R2.out.2.1 2 _ rfl
  have z3:=R2.out.2.1 3 _ rfl
  have z4:=R2.out.2.1 4 _ rfl
  have z5:=R2.out.2.1 5 _ rfl
  have z6:=R2.out.2.1 6 _ rfl
  have z7:=R2.out.2.1 7 _ rfl
  have z8:=R2.out.2.1 8 _ rfl
  have z9:=R2.out.2.1 9 _ rfl
  have je:=R2.out.2.1 10 _ rfl
  have jd:=R2.out.2.1 11 _ rfl
  have z12:=R2.out.2.1 12 _ rfl
  have zf:=R2.out.2.2
  have zl:=R2.out.1
  go_wp2_with fail
  have CE:=Ce.s13 R2.out (.int .i64 0) (.int .i64 0) (.int .i64 0) (.int .i64 0) (.int .i64 0) (.int .i64 0) (.int .i64 0) (.int .i64 0) (.int .i64 0) (.bool false) (.int .i64 0) (.slice none 0 0) (.slice none 0 0)
  have BE:=cF (b:=w.heap.size) D2.out (Nat.le_refl _) (.int .i64 0) (.int .i64 0) (.int .i64 0) (.int .i64 0) (.int .i64 0) (.int .i64 0) (.int .i64 0) (.int .i64 0) (.int .i64 0) (.bool false) (.int .i64 0) (.slice none 0 0) (.slice none 0 0)
  unfold cG at CE BE
  replace CE:=hid CE
  replace BE:=hid BE
  refine b5 (fun w'=>Ce w' w.heap.size [(),(),(),(),(),(),(),(),(),false,(),.slice none 0 0,.slice none 0 0]∧Below w.heap.size w w') ⟨CE.out,BE.out⟩ (fun wf hwf=>?_)
  obtain ⟨hc2,hbf⟩:=hwf
  have x0:=hc2.2.1 0 _ rfl
  have x1:=hc2.2.1 1 _ rfl
  have x2:=hc2.2.1 2 _ rfl
  have x3:=hc2.2.1 3 _ rfl
  have x4:=hc2.2.1 4 _ rfl
  have x5:=hc2.2.1 5 _ rfl
  have x6:=hc2.2.1 6 _ rfl
  have x7:=hc2.2.1 7 _ rfl
  have x8:=hc2.2.1 8 _ rfl
  have x9:=hc2.2.1 9 _ rfl
  have eX:=hc2.2.1 10 _ rfl
  have eW:=hc2.2.1 11 _ rfl
  have eV:=hc2.2.1 12 _ rfl
  refine bodyPost_ret (v:=.tuple #[de {} (.slice none 0 0) (.slice none 0 0),.int .i64 5]) (by simp[results,Tryz.results87,go_sem,de,ea,x0,x1,x2,x3,x4,x5,x6,x7,x8,x9,eX,eW,eV]) rfl ?_
  exact⟨.slice none 0 0,.slice none 0 0,by rw[HR.out,HE.out],by rw[HR.out];exact OB.nil,by rw[HR.out];exact OB.nil,hbf⟩
 have hE:aB g n=5:=by rw[iM];unfold cg;rw[if_neg k3,if_neg (by omega),if_pos];refine⟨K1.out,?_⟩;rw[s_.out];simp at b20;omega
 have HR:Hid (au g n ={}):=hid (by unfold au;rw[hE,if_neg (by decide)])
 have HE:=hid hE
 clear hE
 clear iM px k3
 have z0:=R2.out.2.1 0 _ rfl
 have z1:=R2.out.2.1 1 _ rfl
 have z2:=R2.out.2.1 2 _ rfl
 have z3:=R2.out.2.1 3 _ rfl
 have z4:=R2.out.2.1 4 _ rfl
 have z5:=R2.out.2.1 5 _ rfl
 have z6:=R2.out.2.1 6 _ rfl
 have z7:=R2.out.2.1 7 _ rfl
 have z8:=R2.out.2.1 8 _ rfl
 have z9:=R2.out.2.1 9 _ rfl
 have je:=R2.out.2.1 10 _ rfl
 have jd:=R2.out.2.1 11 _ rfl
 have z12:=R2.out.2.1 12 _ rfl
 have zf:=R2.out.2.2
 have zl:=R2.out.1
 go_wp2_with fail
 have CE:=Ce.s13 R2.out (.int .i64 0) (.int .i64 0) (.int .i64 0) (.int .i64 0) (.int .i64 0) (.int .i64 0) (.int .i64 0) (.int .i64 0) (.int .i64 0) (.bool false) (.int .i64 0) (.slice none 0 0) (.slice none 0 0)
 have BE:=cF (b:=w.heap.size) D2.out (Nat.le_refl _) (.int .i64 0) (.int .i64 0) (.int .i64 0) (.int .i64 0) (.int .i64 0) (.int .i64 0) (.int .i64 0) (.int .i64 0) (.int .i64 0) (.bool false) (.int .i64 0) (.slice none 0 0) (.slice none 0 0)
 unfold cG at CE BE
 replace CE:=hid CE
 replace BE:=hid BE
 refine b5 (fun w'=>Ce w' w.heap.size [(),(),(),(),(),(),(),(),(),false,(),.slice none 0 0,.slice none 0 0]∧Below w.heap.size w w') ⟨CE.out,BE.out⟩ (fun wf hwf=>?_)
 obtain ⟨hc2,hbf⟩:=hwf
 have x0:=hc2.2.1 0 _ rfl
 have x1:=hc2.2.1 1 _ rfl
 have x2:=hc2.2.1 2 _ rfl
 have x3:=hc2.2.1 3 _ rfl
 have x4:=hc2.2.1 4 _ rfl
 have x5:=hc2.2.1 5 _ rfl
 have x6:=hc2.2.1 6 _ rfl
 have x7:=hc2.2.1 7 _ rfl
 have x8:=hc2.2.1 8 _ rfl
 have x9:=hc2.2.1 9 _ rfl
 have eX:=hc2.2.1 10 _ rfl
 have eW:=hc2.2.1 11 _ rfl
 have eV:=hc2.2.1 12 _ rfl
 refine bodyPost_ret (v:=.tuple #[de {} (.slice none 0 0) (.slice none 0 0),.int .i64 5]) (by simp[results,Tryz.results87,go_sem,de,ea,x0,x1,x2,x3,x4,x5,x6,x7,x8,x9,eX,eW,eV]) rfl ?_
 exact⟨.slice none 0 0,.slice none 0 0,by rw[HR.out,HE.out],by rw[HR.out];exact OB.nil,by rw[HR.out];exact OB.nil,hbf⟩
end Go.Proofs.YtgfonkagnambiaaGreat
