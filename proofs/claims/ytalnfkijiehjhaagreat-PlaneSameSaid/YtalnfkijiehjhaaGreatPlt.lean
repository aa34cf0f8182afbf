/- faultIn. Take of a fault, and of any bytes. Take of any bytes, by things. -/
import Derived.Test.YtalnfkijiehjhaaGreatGa
import Derived.Test.YtalnfkijiehjhaaGreatPlr
import Derived.Test.YtalnfkijiehjhaaGreatGz
import Derived.BigQuiet
import Derived.Deep.RegionHeld3
import Derived.Deep.Cut
import Derived.IntWalk
import Derived.Test.YtalnfkijiehjhaaGreatTth
namespace Go.Proofs.YtalnfkijiehjhaaGreat
open List renaming setIfInBounds_toArray→zA,set_cons_zero→zB,set_cons_succ→zC
set_option linter.unusedVariables false
set_option linter.unusedSimpArgs false
open Go.RowKit Go.ChangeShapes Go.WideShapes Go.ChangeAt
theorem Jn (w:World):(zeroValue 26).run Tryz.prog w =.ok (.agg ([(),(),(),(),()]:List Value).toArray) w:=by kernel_rfl
theorem JP:(Tryz.prog.info? 26).map (·.size)=some 5:=by kernel_rfl
theorem Hr (p:Pl)(x:Pk):i6 p x = -1∨∃k:Nat,k<64∧i6 p x=k:=by
 unfold i6
 have hb:=qO (fx p (num x.gd 8 4) (num x.gd 18 2))
 rcases tt (p:=p) (j:=(iQ (fx p (num x.gd 8 4) (num x.gd 18 2))).toNat) (by omega) with h |⟨i,h1,_,h3⟩
 ·exact .inl h
 exact .inr ⟨i,h1,h3⟩
set_option maxRecDepth 100000
set_option maxHeartbeats 9000000 in
theorem zO (p:Pl)(pb sb wb:Nat)(nr:Nat→Option Int)(g:Nat→Int)(n c:Nat)(x:Pk)(X AO:Option Addr)(cO:Nat)(AD:Option Addr)(cD:Nat)(w:World)(hx:x=aj g n)(hg:az g)(hE:ax g n=0)(h1:1<g 1)(h3:g 0=3)(hp:Pt p)(hF:Fb w pb 130 (dD sb nr))(hS:iz w sb wb p)(hX:By w X n g)(hc:n≤c)(hD:By w AD x.nd x.gd)(G_:x.nd≤cD) :
 Calls Tryz.prog 45 #[.pointer (some ⟨sb,0,none⟩),.slice X n c,.agg #[x.kind,x.life,x.piece,x.src,x.dst,x.fp,x.tp,x.flags,x.label,x.bare,x.code,.slice AO x.no cO,.slice AD x.nd cD]] w (qm w pb sb (iZ p nr g n x)):=by
 have bd:=qM hg hE
 have ln:=gW hg hE
 rw[←hx]at bd ln
 obtain ⟨l1,l2,l3,l4,l5,l6,l7,l8,l9⟩:=ln
 obtain ⟨m1,m2,m3⟩:=l9 h3
 have hd6:=bd.2.2.2.2.2.2
 obtain ⟨p1,p2,p3,p4,p5⟩:=hp
 have SA:=hid hS
 have HF:=hid hF
 have HX:=hid (fun (w':World) (hb:Below w.heap.size w w')=>(show By w' X n g from Sl.below hX hb (Nat.le_refl _)))
 have HD:=hid (fun (w':World) (hb:Below w.heap.size w w')=>(show By w' AD x.nd x.gd from Sl.below hD hb (Nat.le_refl _)))
 have b4:=f9 hd6 4 4
 have b16:=f9 hd6 16 2
 have b8:=f9 hd6 8 4
 have b18:=f9 hd6 18 2
 rw[show (256:Int)^4=4294967296 by decide]at b4 b8
 rw[show (256:Int)^2=65536 by decide]at b16 b18
 have pH:(fx p (num x.gd 8 4) (num x.gd 18 2)).I:=⟨⟨by show _≤num x.gd 8 4;omega,by show num x.gd 8 4≤_;omega⟩,⟨by show _≤num x.gd 18 2;omega,by show num x.gd 18 2≤_;omega⟩,⟨by show _≤p.a;omega,by show p.a≤_;omega⟩,⟨by show _≤p.p;omega,by show p.p≤_;omega⟩⟩
 have PK:=hid (fun (w':World) (hs:Hid (Is w' (some ⟨wb,0,none⟩) 127 (eC p)))=>tZ (some ⟨wb,0,none⟩) 127 (eC p) (fx p (num x.gd 8 4) (num x.gd 18 2)) pH w' hs.out)
 have PB:=hid (fun (k:Nat) (hk:k<64)=>(show (0≤(p.s k).ad∧(p.s k).ad≤4294967295)∧0≤(p.s k).po∧(p.s k).po≤65535 from ⟨(p1 k hk).1,(p1 k hk).2.1⟩))
 have FS:=hid (fun (k:Nat) (hk:k<64)=>sG hg hE h1 h3 (PB.out k hk).1 (PB.out k hk).2)
 have AG:=hid (iO hE h1)
 have sT:Hid (44≤n∧x.nd=n-20∧n≤1500):=hid ⟨m1,m2,l2⟩
 have nB:n≤1000000:=by omega
 have HG:=hid hg
 have HC:=hid hc
 have HB0:=hid (hd6 0)
 have HT:Hid (iZ p nr g n x=if ni p x=true then c_ 8 nr else if i6 p x = -1 then c_ 9 nr else ⟨0,i6 p x,false,n,iu g n (p.s (i6 p x).toNat),nr⟩):=hid rfl
 have wL:Hid (ni p x=(((x.gd 0 != 1&&x.gd 0 != 2) || num x.gd 4 4 != p.a) || num x.gd 16 2 != p.p)):=hid rfl
 have sV:Hid (i6 p x = -1∨∃k:Nat,k<64∧i6 p x=k):=hid (Hr p x)
 have Lt:Hid (i6 p x=eC p (iQ (fx p (num x.gd 8 4) (num x.gd 18 2))).toNat):=hid rfl
 obtain ⟨bD,oD,rfl⟩:=hD.addr (by omega)
 have g_:=hid (fun (w':World) (hb:Below w.heap.size w w') (a m k:Nat) (hm:m≤4) (h:a+m≤x.nd)=>(show Calls Tryz.prog 88 #[.slice (some ⟨bD,oD+a,none⟩) m k] w' fun e w2=>e =.returned (.int .i64 (num x.gd a m))∧w'=w2 from by
  have:=vk (some ⟨bD,oD+a,none⟩) m k (fun j=>x.gd (a+j)) w' (Sl.cut (HD.out w' hb) m h) (fun j=>hd6 _) hm
  rw[lZ]at this
  exact this))
 have hsl:∀(W:World) (a b:Nat) (z u:Int) (_:z=a) (_:u=b) (_:a<b) (_:b≤24),(Instr.slice 23 (.slice (some ⟨bD,oD,none⟩) x.nd cD) (some (.int .i64 z)) (some (.int .i64 u)) none).run Tryz.prog W =.ok (.slice (some ⟨bD,oD+a,none⟩) (b-a) (cD-a)) W:=fun W a b z u hz hu h1 h2=>by
  subst hz hu
  have hne:¬cD=a:=by omega
  rw[run_slice_lh W 23 _ x.nd cD jA .i64 .i64 _ _ (by omega) (by omega) (by omega),jq W]
  simp[Result.andThen,sliced,Addr.add,hne]
 have s4:=fun W=>hsl W 4 8 4 8 rfl rfl (by omega) (by omega)
 have s16:=fun W=>hsl W 16 18 16 18 rfl rfl (by omega) (by omega)
 have s8:=fun W=>hsl W 8 12 8 12 rfl rfl (by omega) (by omega)
 have MN:=fun W=>hsl W 18 20 18 20 rfl rfl (by omega) (by omega)
 dsimp only[Nat.reduceSub,Nat.reduceAdd]at s4 s16 s8 MN
 have S0:Hid (HS [] w w []):=hid HS.start
 clear m3 hsl hS hF hX hD hE h3 h1 hx pH b4 b16 b8 b18 bd l1 l2 l3 l4 l5 l6 l7 l8 l9 m1 m2 p1 p2 p3 p4 p5 hc hg hd6
 go_enter Tryz.func45,Tryz.ntmps45
 go_upto_region 1 with (first | ((with_reducible refine ay ?_);refine aS rfl (iF (l:=[x.kind,x.life,x.piece,x.src,x.dst,x.fp,x.tp,x.flags,x.label,x.bare,x.code,.slice AO x.no cO,.slice (some ⟨bD,oD,none⟩) x.nd cD]) rfl rfl (by simp) S0.out ?_);intro E w_ hZ _;have S1:=hid hZ;clear hZ) | ((with_reducible refine ay ?_);refine aS rfl (bZ rfl (px _) (by simp) S1.out ?_);intro U w_ hZ _;have S2:=hid hZ;clear hZ))
 have HB1:=HB0.out
 have v0:IntKind.i64.wrap (x.gd 0)=x.gd 0:=IntWalk.i64_in _ (by omega)
 obtain ⟨y0,y1,y2,y3,y4,y5,y6,y7,y8,y9,au,ao,al⟩:=(S2.out.ce 1 rfl).c13
 have e0:=(HD.out _ S2.out.bl).at_ (j:=0) (by have:=sT.out;omega)
 have i1:(0:Int)<(x.nd:Int):=by have:=sT.out;omega
 rw[Nat.add_zero]at e0
 go_upto_region 2 with (fail)
 clear y0 y1 y2 y3 y4 y5 y6 y7 y8 y9 au ao al e0 v0 HB1
 go_cut [45] from 16 to 44 (fun s wx=>s =.bool (ni p x)∧HS [] w wx [aB U [(),(),false,.slice none 0 0],aB E [x.kind,x.life,x.piece,x.src,x.dst,x.fp,x.tp,x.flags,x.label,x.bare,x.code,.slice AO x.no cO,.slice (some ⟨bD,oD,none⟩) x.nd cD]])
 case first=>
  refine wp_region_held_drew (S:=fun (w':World)=>HS [] w w' [aB U [(),(),false,.slice none 0 0],aB E [x.kind,x.life,x.piece,x.src,x.dst,x.fp,x.tp,x.flags,x.label,x.bare,x.code,.slice AO x.no cO,.slice (some ⟨bD,oD,none⟩) x.nd cD]]) (by kernel_rfl) ?_ (fun hHeld=>?_)
  ·exact S2.out.drew
  cases b1:(x.gd 0 != 1)
  ·
   refine ae 0 hHeld ?_
   refine ae 1 hHeld ?_
   refine ae 2 hHeld ?_
   refine bF 3 hHeld ?_
   refine bF 4 hHeld ?_
   refine ae 5 hHeld ?_
   refine ae 6 hHeld ?_
   refine ae 7 hHeld ?_
   refine ae 8 hHeld ?_ (hy:=by intro w hSw;(try dsimp only at hSw);obtain ⟨y0,y1,y2,y3,y4,y5,y6,y7,y8,y9,au,ao,al⟩:=(hSw.ce 1 rfl).c13;go_simp;(try with_reducible rfl))
   refine ae 9 hHeld ?_
   refine ae 11 hHeld ?_
   refine ae 12 hHeld ?_
   refine ae 13 hHeld ?_
   refine ae 14 hHeld ?_
   refine ae 15 hHeld ?_ (hy:=by intro w hSw;(try dsimp only at hSw);have q1:=(SA.out.below hSw.bl).pl.c1;have q2:=(SA.out.below hSw.bl).pl.c2;have q3:=(SA.out.below hSw.bl).sl;go_simp;(try with_reducible rfl))
   refine only 10 rfl (by kernel_rfl) rfl (fun K hK=>?_)
   go_simp
   refine(g_.out _ hHeld.bl 4 4 _ (by omega) (by have:=sT.out;omega)).mono ?_
   rintro e w3 ⟨rfl,rfl⟩
   try go_wp2_with fail
   refine hK.out _ _ hHeld (fun h4=>?_)
   clear hK
   try simp only[Act.put,zA,zB,zC]
   cases b3:(num x.gd 4 4 != p.a)
   ·clear hHeld;have hHeld:=h4;clear h4
    refine ae 16 hHeld ?_
    refine ae 17 hHeld ?_
    refine ae 18 hHeld ?_
    refine ae 19 hHeld ?_
    refine ae 20 hHeld ?_ (hy:=by intro w hSw;(try dsimp only at hSw);obtain ⟨y0,y1,y2,y3,y4,y5,y6,y7,y8,y9,au,ao,al⟩:=(hSw.ce 1 rfl).c13;go_simp;(try with_reducible rfl))
    refine ae 21 hHeld ?_
    refine ae 23 hHeld ?_
    refine ae 24 hHeld ?_
    refine ae 25 hHeld ?_
    refine ae 26 hHeld ?_
    refine ae 27 hHeld ?_ (hy:=by intro w hSw;(try dsimp only at hSw);have q1:=(SA.out.below hSw.bl).pl.c1;have q2:=(SA.out.below hSw.bl).pl.c2;have q3:=(SA.out.below hSw.bl).sl;go_simp;(try with_reducible rfl))
    refine only 22 rfl (by kernel_rfl) rfl (fun K hK=>?_)
    go_simp
    refine(g_.out _ hHeld.bl 16 2 _ (by omega) (by have:=sT.out;omega)).mono ?_
    rintro e w3 ⟨rfl,rfl⟩
    try go_wp2_with fail
    refine hK.out _ _ hHeld (fun hE=>?_)
    clear hK
    try simp only[Act.put,zA,zB,zC]
    refine ae 28 hE ?_
    refine ae 29 hE ?_
    have S3:=hid hE
    clear hHeld hE
    refine wpAnyH_done (by kernel_rfl) ?_ _
    go_wp2_with fail
    go_meet
    exact⟨by rw[wL.out];simp[b1,b3],S3.out⟩
   clear hHeld;have hHeld:=h4;clear h4
   refine ae 16 hHeld ?_
   refine ae 17 hHeld ?_
   refine ae 18 hHeld ?_
   refine bF 19 hHeld ?_
   refine bF 20 hHeld ?_
   refine bF 21 hHeld ?_
   refine bF 22 hHeld ?_
   refine bF 23 hHeld ?_
   refine bF 24 hHeld ?_
   refine bF 25 hHeld ?_
   refine bF 26 hHeld ?_
   refine bF 27 hHeld ?_
   refine bF 28 hHeld ?_
   refine ae 29 hHeld ?_
   have hE:=hHeld
   have S3:=hid hE
   clear hHeld hE
   refine wpAnyH_done (by kernel_rfl) ?_ _
   go_wp2_with fail
   go_meet
   exact⟨by rw[wL.out];simp[b1,b3],S3.out⟩
  cases b2:(x.gd 0 != 2)
  ·
   refine ae 0 hHeld ?_
   refine ae 1 hHeld ?_
   refine ae 2 hHeld ?_
   refine ae 3 hHeld ?_
   refine ae 4 hHeld ?_
   refine ae 5 hHeld ?_
   refine ae 6 hHeld ?_
   refine ae 7 hHeld ?_
   refine ae 8 hHeld ?_ (hy:=by intro w hSw;(try dsimp only at hSw);obtain ⟨y0,y1,y2,y3,y4,y5,y6,y7,y8,y9,au,ao,al⟩:=(hSw.ce 1 rfl).c13;go_simp;(try with_reducible rfl))
   refine ae 9 hHeld ?_
   refine ae 11 hHeld ?_
   refine ae 12 hHeld ?_
   refine ae 13 hHeld ?_
   refine ae 14 hHeld ?_
   refine ae 15 hHeld ?_ (hy:=by intro w hSw;(try dsimp only at hSw);have q1:=(SA.out.below hSw.bl).pl.c1;have q2:=(SA.out.below hSw.bl).pl.c2;have q3:=(SA.out.below hSw.bl).sl;go_simp;(try with_reducible rfl))
   refine only 10 rfl (by kernel_rfl) rfl (fun K hK=>?_)
   go_simp
   refine(g_.out _ hHeld.bl 4 4 _ (by omega) (by have:=sT.out;omega)).mono ?_
   rintro e w3 ⟨rfl,rfl⟩
   try go_wp2_with fail
   refine hK.out _ _ hHeld (fun h4=>?_)
   clear hK
   try simp only[Act.put,zA,zB,zC]
   cases b3:(num x.gd 4 4 != p.a)
   ·clear hHeld;have hHeld:=h4;clear h4
    refine ae 16 hHeld ?_
    refine ae 17 hHeld ?_
    refine ae 18 hHeld ?_
    refine ae 19 hHeld ?_
    refine ae 20 hHeld ?_ (hy:=by intro w hSw;(try dsimp only at hSw);obtain ⟨y0,y1,y2,y3,y4,y5,y6,y7,y8,y9,au,ao,al⟩:=(hSw.ce 1 rfl).c13;go_simp;(try with_reducible rfl))
    refine ae 21 hHeld ?_
    refine ae 23 hHeld ?_
    refine ae 24 hHeld ?_
    refine ae 25 hHeld ?_
    refine ae 26 hHeld ?_
    refine ae 27 hHeld ?_ (hy:=by intro w hSw;(try dsimp only at hSw);have q1:=(SA.out.below hSw.bl).pl.c1;have q2:=(SA.out.below hSw.bl).pl.c2;have q3:=(SA.out.below hSw.bl).sl;go_simp;(try with_reducible rfl))
    refine only 22 rfl (by kernel_rfl) rfl (fun K hK=>?_)
    go_simp
    refine(g_.out _ hHeld.bl 16 2 _ (by omega) (by have:=sT.out;omega)).mono ?_
    rintro e w3 ⟨rfl,rfl⟩
    try go_wp2_with fail
    refine hK.out _ _ hHeld (fun hE=>?_)
    clear hK
    try simp only[Act.put,zA,zB,zC]
    refine ae 28 hE ?_
    refine ae 29 hE ?_
    have S3:=hid hE
    clear hHeld hE
    refine wpAnyH_done (by kernel_rfl) ?_ _
    go_wp2_with fail
    go_meet
    exact⟨by rw[wL.out];simp[b1,b2,b3],S3.out⟩
   clear hHeld;have hHeld:=h4;clear h4
   refine ae 16 hHeld ?_
   refine ae 17 hHeld ?_
   refine ae 18 hHeld ?_
   refine bF 19 hHeld ?_
   refine bF 20 hHeld ?_
   refine bF 21 hHeld ?_
   refine bF 22 hHeld ?_
   refine bF 23 hHeld ?_
   refine bF 24 hHeld ?_
   refine bF 25 hHeld ?_
   refine bF 26 hHeld ?_
   refine bF 27 hHeld ?_
   refine bF 28 hHeld ?_
   refine ae 29 hHeld ?_
   have hE:=hHeld
   have S3:=hid hE
   clear hHeld hE
   refine wpAnyH_done (by kernel_rfl) ?_ _
   go_wp2_with fail
   go_meet
   exact⟨by rw[wL.out];simp[b1,b2,b3],S3.out⟩
  refine ae 0 hHeld ?_
  refine ae 1 hHeld ?_
  refine ae 2 hHeld ?_
  refine ae 3 hHeld ?_
  refine ae 4 hHeld ?_
  refine ae 5 hHeld ?_
  refine ae 6 hHeld ?_
  refine bF 7 hHeld ?_
  refine bF 8 hHeld ?_
  refine bF 9 hHeld ?_
  refine bF 10 hHeld ?_
  refine bF 11 hHeld ?_
  refine bF 12 hHeld ?_
  refine bF 13 hHeld ?_
  refine bF 14 hHeld ?_
  refine bF 15 hHeld ?_
  refine bF 16 hHeld ?_
  refine ae 17 hHeld ?_
  refine ae 18 hHeld ?_
  refine bF 19 hHeld ?_
  refine bF 20 hHeld ?_
  refine bF 21 hHeld ?_
  refine bF 22 hHeld ?_
  refine bF 23 hHeld ?_
  refine bF 24 hHeld ?_
  refine bF 25 hHeld ?_
  refine bF 26 hHeld ?_
  refine bF 27 hHeld ?_
  refine bF 28 hHeld ?_
  refine ae 29 hHeld ?_
  have hE:=hHeld
  have S3:=hid hE
  clear hHeld hE
  refine wpAnyH_done (by kernel_rfl) ?_ _
  go_wp2_with fail
  go_meet
  exact⟨by rw[wL.out];simp[b1,b2],S3.out⟩
 obtain ⟨rfl,hz⟩:=hcut
 have S3:=hid hz
 clear hz S2 S1 S0
 obtain ⟨bb,hbb⟩:∃bb,bb=ni p x:=⟨_,rfl⟩
 rw[←hbb]at HT ⊢
 clear hbb wL
 cases bb
 ·go_upto_region 4 with (fail)
  refine wp_region_held_drew (S:=fun (w':World)=>HS [] w w' [aB U [(),(),false,.slice none 0 0],aB E [x.kind,x.life,x.piece,x.src,x.dst,x.fp,x.tp,x.flags,x.label,x.bare,x.code,.slice AO x.no cO,.slice (some ⟨bD,oD,none⟩) x.nd cD]]) (by kernel_rfl) ?_ (fun hHeld=>?_)
  ·exact S3.out.drew
  refine ae 0 hHeld ?_
  refine ae 1 hHeld ?_
  refine ae 2 hHeld ?_
  refine ae 3 hHeld ?_ (hy:=by intro w hSw;(try dsimp only at hSw);have q1:=(SA.out.below hSw.bl).pl.c1;have q2:=(SA.out.below hSw.bl).pl.c2;have q3:=(SA.out.below hSw.bl).sl;go_simp;(try with_reducible rfl))
  refine ae 4 hHeld ?_
  refine ae 5 hHeld ?_
  refine ae 6 hHeld ?_ (hy:=by intro w hSw;(try dsimp only at hSw);obtain ⟨y0,y1,y2,y3,y4,y5,y6,y7,y8,y9,au,ao,al⟩:=(hSw.ce 1 rfl).c13;go_simp;(try with_reducible rfl))
  refine ae 7 hHeld ?_
  refine ae 9 hHeld ?_
  refine ae 10 hHeld ?_ (hy:=by intro w hSw;(try dsimp only at hSw);obtain ⟨y0,y1,y2,y3,y4,y5,y6,y7,y8,y9,au,ao,al⟩:=(hSw.ce 1 rfl).c13;go_simp;(try with_reducible rfl))
  refine ae 11 hHeld ?_
  refine only 8 rfl (by kernel_rfl) rfl (fun K hK=>?_)
  go_simp
  refine(g_.out _ hHeld.bl 8 4 _ (by omega) (by have:=sT.out;omega)).mono ?_
  rintro e w3 ⟨rfl,rfl⟩
  try go_wp2_with fail
  refine hK.out _ _ hHeld (fun h3=>?_)
  clear hK
  try simp only[Act.put,zA,zB,zC]
  clear hHeld;have hHeld:=h3;clear h3
  refine only 12 rfl (by kernel_rfl) rfl (fun K hK=>?_)
  go_simp
  refine(g_.out _ hHeld.bl 18 2 _ (by omega) (by have:=sT.out;omega)).mono ?_
  rintro e w3 ⟨rfl,rfl⟩
  try go_wp2_with fail
  refine hK.out _ _ hHeld (fun h3=>?_)
  clear hK
  try simp only[Act.put,zA,zB,zC]
  clear hHeld;have hHeld:=h3;clear h3
  refine only 13 rfl (by kernel_rfl) rfl (fun K hK=>?_)
  have q1:=(SA.out.below hHeld.bl).pl.c1
  have q2:=(SA.out.below hHeld.bl).pl.c2
  have hlt:=(SA.out.below hHeld.bl).pl.1
  go_simp
  refine(qg p sb (num x.gd 8 4) (num x.gd 18 2) _ q1 q2 hlt).mono ?_
  rintro e w3 ⟨rfl,hb⟩
  try go_wp2_with fail
  refine hK.out _ _ (hHeld.below hb) (fun h3=>?_)
  clear hK hb hHeld q1 q2 hlt
  try simp only[Act.put,zA,zB,zC]
  refine only 14 rfl (by kernel_rfl) rfl (fun K hK=>?_)
  go_simp
  refine(PK.out _ (hid (SA.out.below h3.bl).wh.slice)).mono ?_
  rintro e w4 ⟨rfl,hb⟩
  rw[←Lt.out]
  try go_wp2_with fail
  refine hK.out _ _ (h3.below hb) (fun h4=>?_)
  clear hK hb h3
  try simp only[Act.put,zA,zB,zC]
  refine ae 15 h4 ?_
  have S5:=hid h4
  clear h4 S3
  refine wpAnyH_done (by kernel_rfl) ?_ _
  obtain ⟨sl,hsl⟩:∃sl,sl=i6 p x:=⟨_,rfl⟩
  rw[←hsl]at HT sV ⊢
  clear hsl Lt
  rcases sV.out with rfl |⟨k,hk,rfl⟩
  ·have HR:Hid (iZ p nr g n x=c_ 9 nr):=hid (by rw[HT.out,if_neg (by simp),if_pos rfl])
   clear HT sV
   go_wp2_with fail
   refine(fK 9 _).mono ?_
   rintro e jH ⟨rfl,hb⟩
   have eZ:=hid (S5.out.below hb)
   clear hb S5
   unfold gH
   go_simp
   go_wp2_with (((with_reducible refine ay ?_);refine aS rfl (aT (A:=[]) [.int .i64 9,.int .i64 (-1),false,.slice none 0 0] rfl rfl (rfl) eZ.out rfl dY rfl ?_);intro w_ hZ;have bV:=hid hZ;clear hZ;(first |refine aW ?_ |refine bP ?_);apply_assumption;refine wp_ret ?_;(repeat refine aV ?_);(show bodyPost _ _ _ _ _ _);exact bodyPost_ret (v:=.agg ([.int .i64 9,.int .i64 (-1),false,.slice none 0 0]:List Value).toArray) (bQ Tryz.results45 _ rfl (bV.out.ce 0 rfl) Tryz.underlying45 rfl dY) rfl (by rw[HR.out];exact⟨none,0,rfl,OB.nil,Nat.le_refl _,HF.out.below bV.out.bl,Ch.of_below bV.out.bl⟩)))
  have HR:Hid (iZ p nr g n x=⟨0,(k:Int),false,n,bN (bN (eJ (aO g) n (p.s k).ad) n (24:Int).toNat (4:Int).toNat (p.s k).ad) n (36:Int).toNat (2:Int).toNat (p.s k).po,nr⟩):=hid (by rw[HT.out,if_neg (by simp),if_neg (by omega)];rfl)
  clear HT sV
  have M6:((k:Int) == -1)=false:=by simp
  have i0:(0:Int)≤k:=by omega
  have i1:(k:Int)<64:=by omega
  obtain ⟨a0,a1,a2,a3,a4⟩:=(SA.out.below S5.out.bl).pl.s5 k hk
  go_upto_region 8 with (first | ((with_reducible refine ay ?_);refine aS rfl (bZ rfl (Jn _) (by simp) S5.out ?_);intro Z w_ hZ _;have S6:=hid hZ;clear hZ) | ((with_reducible refine ay ?_);refine aS rfl (aT (A:=[]) [(p.s k).st,(p.s k).ad,(p.s k).po,(p.s k).we,(p.s k).si] rfl rfl (rfl) S6.out rfl JP rfl ?_);intro w_ hZ;have S7:=hid hZ;clear hZ))
  clear a0 a1 a2 a3 a4 S5
  go_upto_region 9 with (((with_reducible refine ay ?_);refine aS rfl (iF (l:=[.slice X n c,()]) rfl rfl (by simp) S7.out ?_);intro Q w_ hZ _;have S8:=hid hZ;clear hZ))
  go_wp2_with fail
  refine(rF (S8.out.ce 0 rfl) (HX.out _ S8.out.bl) HG.out nB HC.out AG.out).mono ?_
  rintro e w9 ⟨rfl,hw⟩
  obtain ⟨X1,c1,hz,hc1⟩:=HS.way (A:=[]) S8.out hw rfl
  have S9:=hid hz
  have Ar:=hid hc1
  clear hz hc1 hw S8 S7
  go_simp
  have z1:=(S9.out.ce 2 rfl).2.1 1 _ rfl
  go_wp2_with fail
  refine(Eb (S9.out.ce 1 rfl) (Ow.sl1 (S9.out.nth 0 rfl)) (FS.out k hk).1.2.2 (FS.out k hk).1.1 (FS.out k hk).1.2.1 Ar.out (p.s k).ad (PB.out k hk).1).mono ?_
  rintro e eW ⟨rfl,hw⟩
  obtain ⟨X2,c2,hz,hc2⟩:=HS.way (A:=[cB w.heap.size 5 1 (.slice X1 n c1) n (fun j=>.int .u8 (aO g j))]) S9.out hw rfl
  have iJ:=hid hz
  have dN:=hid hc2
  clear hz hc2 hw S9 z1
  go_simp
  have z1:=(iJ.out.ce 3 rfl).2.1 1 _ rfl
  go_wp2_with fail
  refine(kf (iJ.out.ce 2 rfl) (Ow.sl1 (iJ.out.nth 0 rfl)) (FS.out k hk).2.1.1 nB dN.out 24 4 (p.s k).ad ⟨by omega,by omega⟩ (FS.out k hk).2.1.2).mono ?_
  rintro e pB ⟨rfl,hw⟩
  obtain ⟨X3,c3,hz,hc3⟩:=HS.way (A:=[cB w.heap.size 5 1 (.slice X2 n c2) n (fun j=>.int .u8 (eJ (aO g) n (p.s k).ad j)),cB w.heap.size 5 1 (.slice X1 n c1) n (fun j=>.int .u8 (aO g j))]) iJ.out hw rfl
  have gi:=hid hz
  have uZ:=hid hc3
  clear hz hc3 hw iJ z1
  go_simp
  have z2:=(gi.out.ce 4 rfl).2.1 2 _ rfl
  go_wp2_with fail
  refine(kf (gi.out.ce 3 rfl) (Ow.sl1 (gi.out.nth 0 rfl)) (FS.out k hk).2.2.1 nB uZ.out 36 2 (p.s k).po ⟨by omega,by omega⟩ (FS.out k hk).2.2.2).mono ?_
  rintro e sd ⟨rfl,hw⟩
  obtain ⟨X4,c4,hz,hc4⟩:=HS.way (A:=[cB w.heap.size 5 1 (.slice X3 n c3) n (fun j=>.int .u8 (bN (eJ (aO g) n (p.s k).ad) n (24:Int).toNat (4:Int).toNat (p.s k).ad j)),cB w.heap.size 5 1 (.slice X2 n c2) n (fun j=>.int .u8 (eJ (aO g) n (p.s k).ad j)),cB w.heap.size 5 1 (.slice X1 n c1) n (fun j=>.int .u8 (aO g j))]) gi.out hw rfl
  have kC:=hid hz
  have OX:=hid hc4
  clear hz hc4 hw gi z2
  go_simp
  go_wp2_with fail
  refine(iW (kC.out.ce 4 rfl) (k:Int) false).mono ?_
  rintro e jH ⟨rfl,hb⟩
  have eZ:=hid (kC.out.below hb)
  clear hb kC
  unfold gH
  go_simp
  go_wp2_with (((with_reducible refine ay ?_);refine aS rfl (aT (A:=[cB w.heap.size 5 1 (.slice X4 n c4) n (fun j=>.int .u8 (bN (bN (eJ (aO g) n (p.s k).ad) n (24:Int).toNat (4:Int).toNat (p.s k).ad) n (36:Int).toNat (2:Int).toNat (p.s k).po j)),cB w.heap.size 5 1 (.slice X3 n c3) n (fun j=>.int .u8 (bN (eJ (aO g) n (p.s k).ad) n (24:Int).toNat (4:Int).toNat (p.s k).ad j)),cB w.heap.size 5 1 (.slice X2 n c2) n (fun j=>.int .u8 (eJ (aO g) n (p.s k).ad j)),cB w.heap.size 5 1 (.slice X1 n c1) n (fun j=>.int .u8 (aO g j)),aB Q [.slice X4 n c4,()],aB Z [(p.s k).st,(p.s k).ad,(p.s k).po,(p.s k).we,(p.s k).si]]) [(),(k:Int),false,.slice X4 n c4] rfl rfl (rfl) eZ.out rfl dY rfl ?_);intro w_ hZ;have bV:=hid hZ;clear hZ;(first |refine aW ?_ |refine bP ?_);apply_assumption;refine wp_ret ?_;(repeat refine aV ?_);(show bodyPost _ _ _ _ _ _);exact bodyPost_ret (v:=.agg ([(),(k:Int),false,.slice X4 n c4]:List Value).toArray) (bQ Tryz.results45 _ rfl (bV.out.ce 6 rfl) Tryz.underlying45 rfl dY) rfl (by rw[HR.out];exact⟨X4,c4,rfl,bV.out.nth 0 rfl,OX.out,HF.out.below bV.out.bl,Ch.of_below bV.out.bl⟩)))
 have HR:Hid (iZ p nr g n x=c_ 8 nr):=hid (by rw[HT.out,if_pos rfl])
 clear HT sV
 go_wp2_with fail
 refine(fK 8 _).mono ?_
 rintro e jH ⟨rfl,hb⟩
 have eZ:=hid (S3.out.below hb)
 clear hb S3
 unfold gH
 go_simp
 go_wp2_with (((with_reducible refine ay ?_);refine aS rfl (aT (A:=[]) [.int .i64 8,.int .i64 (-1),false,.slice none 0 0] rfl rfl (rfl) eZ.out rfl dY rfl ?_);intro w_ hZ;have bV:=hid hZ;clear hZ;(first |refine aW ?_ |refine bP ?_);apply_assumption;refine wp_ret ?_;(repeat refine aV ?_);(show bodyPost _ _ _ _ _ _);exact bodyPost_ret (v:=.agg ([.int .i64 8,.int .i64 (-1),false,.slice none 0 0]:List Value).toArray) (bQ Tryz.results45 _ rfl (bV.out.ce 0 rfl) Tryz.underlying45 rfl dY) rfl (by rw[HR.out];exact⟨none,0,rfl,OB.nil,Nat.le_refl _,HF.out.below bV.out.bl,Ch.of_below bV.out.bl⟩)))
end Go.Proofs.YtalnfkijiehjhaaGreat
namespace Go.Proofs.YtalnfkijiehjhaaGreat
set_option linter.unusedVariables false
set_option linter.unusedSimpArgs false
open Go.RowKit Go.ChangeShapes Go.WideShapes Go.ChangeAt
set_option maxRecDepth 100000
attribute [local irreducible] PA
set_option maxHeartbeats 9000000 in
theorem yu (p:Pl)(pb sb wb:Nat)(nr:Nat→Option Int)(g:Nat→Int)(n c:Nat)(X:Option Addr)(w:World)(hg:az g)(hn:n≤1000000)(hq:ax g n=0)(h3:g 0=3)(hp:Pt p)(hF:Fb w pb 130 (dD sb nr))(hpl:pb≠sb∧pb≠wb)(hS:iz w sb wb p)(hX:By w X n g)(hc:n≤c) :
 Calls Tryz.prog 16 #[.pointer (some ⟨pb,0,none⟩),.slice X n c] w (qm w pb sb (df p true nr g n)):=by
 have PS:=hid (fun (w':World) (hb:Below w.heap.size w w')=>ig X n c g w' (Sl.below hX hb (Nat.le_refl _)) hg hc hn)
 have SA:=hid hS
 have HF:=hid hF
 have HX:=hid (fun (w':World) (hb:Below w.heap.size w w')=>(show By w' X n g from Sl.below hX hb (Nat.le_refl _)))
 have HG:=hid hg
 have HP:=hid hp
 have HC:=hid hc
 have H3:=hid h3
 have HQ:=hid hq
 have S0:Hid (HS [] w w []):=hid HS.start
 clear hS hF hX hg hp hc h3 hpl hq
 go_enter Tryz.func16,Tryz.ntmps16
 go_upto_region 1 with ((with_reducible refine ay ?_);refine aS rfl (bZ rfl (px _) (by simp) S0.out ?_);intro U w_ hZ _;have S1:=hid hZ;clear hZ)
 have hF1:=HF.out.below S1.out.bl
 have c0:w_.cell? ⟨pb,0,none⟩=some (.pointer (some ⟨sb,0,none⟩)):=hF1.2.1 0 (by omega)
 have c1:w_.cell? ⟨pb,1,none⟩=some (.bool true):=hF1.2.1 1 (by omega)
 clear hF1
 go_wp2_with fail
 refine(lv (some ⟨sb,0,none⟩) true _).mono ?_
 rintro e w2 ⟨rfl,hb⟩
 have S2:=hid (S1.out.below hb)
 clear hb S0 S1 c0 c1
 go_simp
 go_wp2_with fail
 refine(PS.out _ S2.out.bl).mono ?_
 rintro e w3 ⟨O,D,rfl,hO,hD,hb⟩
 have S3:=hid (S2.out.xu hb hO hD rfl)
 obtain ⟨AO,cO,rfl,_,_,_⟩:=hO.aD
 obtain ⟨AD,cD,rfl,G_,_,_⟩:=hD.aD
 have Lv:=hid G_
 clear hb S2 PS hO hD G_
 obtain ⟨x,hx⟩:∃x,x=aj g n:=⟨_,rfl⟩
 have HT:Hid (df p true nr g n=if x.piece≠0 then c_ 6 nr else if x.life≤1 then c_ 7 nr else if x.dst=p.a∧x.kind=3 then iZ p nr g n x else if x.dst=p.a∧x.tp=p.p then inT p nr g n x else if x.kind=3 then c_ 8 nr else match fD p x.src x.fp with |none=>c_ 8 nr |some s=>outT p nr g n x s):=hid (by
  rw[hx];unfold df;rw[if_neg (by simp),if_neg (by rw[HQ.out];simp)];rfl)
 rw[←hx]at S3 Lv
 rw[←hx,HQ.out]
 unfold bS cC
 have XX:=hid hx
 have LN:=hid (gW HG.out HQ.out)
 rw[←XX.out]at LN
 have KI:Hid (x.kind=3):=hid (by have h1:=LN.out.2.2.1;have:=H3.out;omega)
 clear hx
 go_simp
 go_upto_region 5 with (first | ((with_reducible refine ay ?_);refine aS rfl (bZ rfl (qn _) (by simp) S3.out ?_);intro E1 w_ hZ _;have S4:=hid hZ;clear hZ) | ((with_reducible refine ay ?_);refine aS rfl (aT (A:=[]) [x.kind,x.life,x.piece,x.src,x.dst,x.fp,x.tp,x.flags,x.label,x.bare,x.code,.slice AO x.no cO,.slice AD x.nd cD] rfl rfl (rfl) S4.out rfl lq rfl ?_);intro w_ hZ;have S5:=hid hZ;clear hZ))
 clear S3
 obtain ⟨y0,y1,y2,y3,y4,y5,y6,y7,y8,y9,au,ao,al⟩:=(S5.out.ce 0 rfl).c13
 have k3:(x.kind==3)=true:=by simp[KI.out]
 cases e2:(x.piece != 0)
 ·cases e1:decide (x.life≤1)
  ·have h1:¬x.life≤1:=by simpa using e1
   have H1:Hid (1<g 1):=hid (by have:=LN.out.2.2.2.1;omega)
   have HT2:Hid (df p true nr g n=if x.dst=p.a then iZ p nr g n x else c_ 8 nr):=hid (by
    rw[HT.out,if_neg (by simpa using e2),if_neg h1]
    by_cases hd:x.dst=p.a
    ·rw[if_pos ⟨hd,KI.out⟩,if_pos hd]
    rw[if_neg (fun h=>hd h.1),if_neg (fun h=>hd h.1),if_pos KI.out,if_neg hd])
   have CM:=hid (fun (w':World) (hb:Below w.heap.size w w')=>(show Calls Tryz.prog 44 #[.pointer (some ⟨sb,0,none⟩),.agg #[x.kind,x.life,x.piece,x.src,x.dst,x.fp,x.tp,x.flags,x.label,x.bare,x.code,.slice AO x.no cO,.slice AD x.nd cD]] w' fun e w2=>e =.returned (.bool (x.dst==p.a))∧Below w'.heap.size w' w2 from by
    have h:=sK p sb x AO cO AD cD w' (SA.out.below hb).pl.c1 (SA.out.below hb).pl.c2 (SA.out.below hb).pl.1
    rw[k3,Bool.true_or,Bool.and_true]at h
    exact h))
   have OZ:=hid (fun (w':World) (hb:Below w.heap.size w w') (zx:Hid (By w' AD x.nd x.gd))=>zO p pb sb wb nr g n c x X AO cO AD cD w' XX.out HG.out HQ.out H1.out H3.out HP.out (HF.out.below hb) (SA.out.below hb) (HX.out w' hb) HC.out zx.out Lv.out)
   obtain ⟨kc,hkc⟩:∃kc,kc=(x.dst==p.a):=⟨_,rfl⟩
   have uX:=hid hkc
   rw[←hkc]at CM
   clear h1 hkc HT
   cases kc
   ·have HR:Hid (df p true nr g n=c_ 8 nr):=hid (by
     have h:=uX.out
     rw[HT2.out,if_neg (fun hh=>by rw[beq_iff_eq.2 hh]at h;cases h)])
    clear HT2 uX
    go_wp2_with fail
    refine(CM.out _ S5.out.bl).mono ?_
    rintro e w6 ⟨rfl,hb⟩
    have S6:=hid (S5.out.below hb)
    clear hb S5 y0 y1 y2 y3 y4 y5 y6 y7 y8 y9 au ao al
    obtain ⟨y0,y1,y2,y3,y4,y5,y6,y7,y8,y9,au,ao,al⟩:=(S6.out.ce 0 rfl).c13
    go_simp
    go_wp2_with fail
    refine(CM.out _ S6.out.bl).mono ?_
    rintro e w7 ⟨rfl,hb⟩
    have S7:=hid (S6.out.below hb)
    clear hb S6 y0 y1 y2 y3 y4 y5 y6 y7 y8 y9 au ao al
    obtain ⟨y0,y1,y2,y3,y4,y5,y6,y7,y8,y9,au,ao,al⟩:=(S7.out.ce 0 rfl).c13
    go_simp
    go_wp2_with fail
    refine(fK 8 _).mono ?_
    rintro e jH ⟨rfl,hb⟩
    have eZ:=hid (S7.out.below hb)
    clear hb S7
    unfold gH
    go_simp
    go_wp2_with (((with_reducible refine ay ?_);refine aS rfl (aT (A:=[aB E1 [x.kind,x.life,x.piece,x.src,x.dst,x.fp,x.tp,x.flags,x.label,x.bare,x.code,.slice AO x.no cO,.slice AD x.nd cD],fS w2.heap.size (.slice AO x.no cO) (.slice AD x.nd cD) x.no x.nd x.go x.gd]) [.int .i64 8,.int .i64 (-1),false,.slice none 0 0] rfl rfl (rfl) eZ.out rfl dY rfl ?_);intro w_ hZ;have bV:=hid hZ;clear hZ;(first |refine aW ?_ |refine bP ?_);apply_assumption;refine wp_ret ?_;(repeat (first |refine aV ?_ |refine gC ?_));(show bodyPost _ _ _ _ _ _);exact bodyPost_ret (v:=.agg ([.int .i64 8,.int .i64 (-1),false,.slice none 0 0]:List Value).toArray) (bQ Tryz.results16 _ rfl (bV.out.ce 2 rfl) Tryz.underlying45 rfl dY) rfl (by rw[HR.out];exact⟨none,0,rfl,OB.nil,Nat.le_refl _,HF.out.below bV.out.bl,Ch.of_below bV.out.bl⟩)))
   have HR:Hid (df p true nr g n=iZ p nr g n x):=hid (by
    have h:=uX.out.symm
    rw[HT2.out,if_pos (beq_iff_eq.1 h)])
   clear HT2 uX
   go_wp2_with fail
   refine(CM.out _ S5.out.bl).mono ?_
   rintro e w6 ⟨rfl,hb⟩
   have S6:=hid (S5.out.below hb)
   clear hb S5 y0 y1 y2 y3 y4 y5 y6 y7 y8 y9 au ao al
   obtain ⟨y0,y1,y2,y3,y4,y5,y6,y7,y8,y9,au,ao,al⟩:=(S6.out.ce 0 rfl).c13
   go_simp
   go_wp2_with fail
   refine(OZ.out _ S6.out.bl (hid (Ow.sl1 (S6.out.nth 1 rfl).2))).mono ?_
   intro e eW hT
   generalize iZ p nr g n x=t at HR hT
   obtain ⟨X9,c9,rfl,hz,re⟩:=S6.out.took (HF.out.below S6.out.bl) HF.out.1 hT
   have eZ:=hid hz
   have Aq:=hid re
   clear hz hT re y0 y1 y2 y3 y4 y5 y6 y7 y8 y9 au ao al
   unfold gH
   go_simp
   go_wp2_with (((with_reducible refine ay ?_);refine aS rfl (aT (A:=[cB w.heap.size 5 1 (.slice X9 t.n c9) t.n (fun j=>.int .u8 (t.f j)),aP pb 130 (dD sb t.nr),aB E1 [x.kind,x.life,x.piece,x.src,x.dst,x.fp,x.tp,x.flags,x.label,x.bare,x.code,.slice AO x.no cO,.slice AD x.nd cD],fS w2.heap.size (.slice AO x.no cO) (.slice AD x.nd cD) x.no x.nd x.go x.gd]) [t.d,t.s,t.c,.slice X9 t.n c9] rfl rfl (rfl) eZ.out rfl dY rfl ?_);intro w_ hZ;have bV:=hid hZ;clear hZ;(first |refine aW ?_ |refine bP ?_);apply_assumption;refine wp_ret ?_;(repeat (first |refine aV ?_ |refine gC ?_));(show bodyPost _ _ _ _ _ _);exact bodyPost_ret (v:=.agg ([t.d,t.s,t.c,.slice X9 t.n c9]:List Value).toArray) (bQ Tryz.results16 _ rfl (bV.out.ce 4 rfl) Tryz.underlying45 rfl dY) rfl (by rw[HR.out];exact⟨X9,c9,rfl,bV.out.nth 0 rfl,Aq.out,bV.out.fb 1 rfl,bV.out.ch⟩)))
  have h1:x.life≤1:=by simpa using e1
  have HR:Hid (df p true nr g n=c_ 7 nr):=hid (by rw[HT.out,if_neg (by simpa using e2),if_pos h1])
  clear HT
  go_wp2_with fail
  refine(fK 7 _).mono ?_
  rintro e jH ⟨rfl,hb⟩
  have eZ:=hid (S5.out.below hb)
  clear hb S5
  unfold gH
  go_simp
  go_wp2_with (((with_reducible refine ay ?_);refine aS rfl (aT (A:=[aB E1 [x.kind,x.life,x.piece,x.src,x.dst,x.fp,x.tp,x.flags,x.label,x.bare,x.code,.slice AO x.no cO,.slice AD x.nd cD],fS w2.heap.size (.slice AO x.no cO) (.slice AD x.nd cD) x.no x.nd x.go x.gd]) [.int .i64 7,.int .i64 (-1),false,.slice none 0 0] rfl rfl (rfl) eZ.out rfl dY rfl ?_);intro w_ hZ;have bV:=hid hZ;clear hZ;(first |refine aW ?_ |refine bP ?_);apply_assumption;refine wp_ret ?_;(repeat (first |refine aV ?_ |refine gC ?_));(show bodyPost _ _ _ _ _ _);exact bodyPost_ret (v:=.agg ([.int .i64 7,.int .i64 (-1),false,.slice none 0 0]:List Value).toArray) (bQ Tryz.results16 _ rfl (bV.out.ce 2 rfl) Tryz.underlying45 rfl dY) rfl (by rw[HR.out];exact⟨none,0,rfl,OB.nil,Nat.le_refl _,HF.out.below bV.out.bl,Ch.of_below bV.out.bl⟩)))
 have HR:Hid (df p true nr g n=c_ 6 nr):=hid (by rw[HT.out,if_pos (by simpa using e2)])
 clear HT
 go_wp2_with fail
 refine(fK 6 _).mono ?_
 rintro e jH ⟨rfl,hb⟩
 have eZ:=hid (S5.out.below hb)
 clear hb S5
 unfold gH
 go_simp
 go_wp2_with (((with_reducible refine ay ?_);refine aS rfl (aT (A:=[aB E1 [x.kind,x.life,x.piece,x.src,x.dst,x.fp,x.tp,x.flags,x.label,x.bare,x.code,.slice AO x.no cO,.slice AD x.nd cD],fS w2.heap.size (.slice AO x.no cO) (.slice AD x.nd cD) x.no x.nd x.go x.gd]) [.int .i64 6,.int .i64 (-1),false,.slice none 0 0] rfl rfl (rfl) eZ.out rfl dY rfl ?_);intro w_ hZ;have bV:=hid hZ;clear hZ;(first |refine aW ?_ |refine bP ?_);apply_assumption;refine wp_ret ?_;(repeat (first |refine aV ?_ |refine gC ?_));(show bodyPost _ _ _ _ _ _);exact bodyPost_ret (v:=.agg ([.int .i64 6,.int .i64 (-1),false,.slice none 0 0]:List Value).toArray) (bQ Tryz.results16 _ rfl (bV.out.ce 2 rfl) Tryz.underlying45 rfl dY) rfl (by rw[HR.out];exact⟨none,0,rfl,OB.nil,Nat.le_refl _,HF.out.below bV.out.bl,Ch.of_below bV.out.bl⟩)))
theorem AW (p:Pl)(pb sb wb:Nat)(nr:Nat→Option Int)(g:Nat→Int)(n c:Nat)(X:Option Addr)(w:World)(hg:az g)(hn:n≤1000000)(hp:Pt p)(hnr:mB nr)(hF:Fb w pb 130 (dD sb nr))(hpl:pb≠sb∧pb≠wb)(hS:iz w sb wb p)(hX:By w X n g)(hc:n≤c) :
 Calls Tryz.prog 16 #[.pointer (some ⟨pb,0,none⟩),.slice X n c] w (qm w pb sb (df p true nr g n)):=by
 by_cases h:ax g n=0∧g 0=3
 ·exact yu p pb sb wb nr g n c X w hg hn h.1 h.2 hp hF hpl hS hX hc
 exact tJ p pb sb wb nr g n c X w hg hn (fun h1 h2=>h ⟨h1,h2⟩) hp hnr hF hpl hS hX hc
end Go.Proofs.YtalnfkijiehjhaaGreat
namespace Go.Proofs.YtalnfkijiehjhaaGreat
set_option linter.unusedVariables false
set_option linter.unusedSimpArgs false
open Go.RowKit Go.ChangeShapes Go.WideShapes Go.ChangeAt
set_option maxRecDepth 100000
attribute [local irreducible] FA FL
theorem Mx {S:List Nat}{W w:World}{A B:List Th}{pb sb wb:Nat}{nr:Nat→Option Int}{p:Pl}(hS:HS S W w (A++aP pb 130 (dD sb nr)::B))(hSt:iz w sb wb p)(hne:pb≠sb∧pb≠wb)(hp:Pt p)(hnr:mB nr)(g:Nat→Int)(n c:Nat)(X:Option Addr)(hg:az g)(hn:n≤1000000)(hX:By w X n g)(hc:n≤c)(t:To)(ht:df p true nr g n=t) :
 Calls Tryz.prog 16 #[.pointer (some ⟨pb,0,none⟩),.slice X n c] w fun e w'=>∃X' c',e =.returned (.agg #[t.d,t.s,t.c,.slice X' t.n c'])∧HS S W w' (dx (.slice X' t.n c') t.n t.f::(A++aP pb 130 (dD sb t.nr)::B))∧t.n≤c':=by
 have hF:Fb w pb 130 (dD sb nr):=hS.1 (aP pb 130 (dD sb nr)) (by simp)
 subst ht
 refine(AW p pb sb wb nr g n c X w hg hn hp hnr hF hne hSt hX hc).mono ?_
 rintro e w' ⟨X',c',rfl,hO,hc',hF2,hch⟩
 exact⟨X',c',rfl,hS.AE (aP pb 130 (dD sb (df p true nr g n).nr)) (dx _ _ _) rfl hch hF2 (OB.base hO (Nat.zero_le _)) (tH _ _ _) (tI hO),hc'⟩
end Go.Proofs.YtalnfkijiehjhaaGreat
