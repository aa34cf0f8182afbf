/- faultIn. Take of a fault, and of any bytes. Take of any bytes, by things. -/
import Derived.Test.YtalnfkijiehjhaaGreatGa
import Derived.Test.YtalnfkijiehjhaaGreatPlr
import Derived.Test.YtalnfkijiehjhaaGreatGz
import Derived.BigQuiet
import Derived.Deep.RegionHeld3
import Derived.Deep.Cut
import Derived.IntWalk
import Derived.Test.YtalnfkijiehjhaaGreatTth
namespace Go.Proofs.YtalnfkijiehjhaaGreat
open List renaming setIfInBounds_toArray→zA,set_cons_zero→zB,set_cons_succ→zC
set_option linter.unusedVariables false
set_option linter.unusedSimpArgs false
open Go.RowKit Go.ChangeShapes Go.WideShapes Go.ChangeAt
theorem Ke (w:World):(zeroValue 26).run Tryz.prog w =.ok (.agg ([(),(),(),(),()]:List Value).toArray) w:=by kernel_rfl
theorem KC:(Tryz.prog.info? 26).map (·.size)=some 5:=by kernel_rfl
theorem Bj (p:Pl)(x:Pk):gS p x = -1∨∃k:Nat,k<64∧gS p x=k:=by
 unfold gS
 have hb:=uY (dV p (num x.gd 8 4) (num x.gd 18 2))
 rcases zc (p:=p) (j:=(jI (dV p (num x.gd 8 4) (num x.gd 18 2))).toNat) (by omega) with h |⟨i,h1,_,h3⟩
 ·exact .inl h
 exact .inr ⟨i,h1,h3⟩
set_option maxRecDepth 100000
theorem qX7{P:Prop}(h:P:=by
 refine aW 21 hHeld ?_
 refine aW 22 hHeld ?_
 refine aW 23 hHeld ?_
 refine aW 24 hHeld ?_
 refine aW 25 hHeld ?_
 refine aW 26 hHeld ?_
 refine aW 27 hHeld ?_
 refine aW 28 hHeld ?_
 refine ae 29 hHeld ?_
 have hE:=hHeld
 have S3:=hid hE
 clear hHeld hE
 refine wpAnyH_done (by kernel_rfl) ?_ _
 go_wp2_with fail
 go_meet
 exact⟨by rw[nw.out];simp[b1,b2],S3.out⟩
 ):P:=h
theorem qX4{P:Prop}(h:P:=by
 have S3:=hid hE
 clear hHeld hE
 refine wpAnyH_done (by kernel_rfl) ?_ _
 go_wp2_with fail
 go_meet
 exact⟨by rw[nw.out];simp[b1,b3],S3.out⟩
 ):P:=h
theorem qX2{P:Prop}(h:P:=by
 have S3:=hid hE
 clear hHeld hE
 refine wpAnyH_done (by kernel_rfl) ?_ _
 go_wp2_with fail
 go_meet
 exact⟨by rw[nw.out];simp[b1,b2,b3],S3.out⟩
 ):P:=h
theorem qJT{P:Prop}(h:P:=by
 rintro e w3 ⟨rfl,rfl⟩
 try go_wp2_with fail
 refine hK.out _ _ hHeld (fun hE=>?_)
 clear hK
 try simp only[Act.put,zA,zB,zC]
 refine ae 28 hE ?_
 refine ae 29 hE ?_
 exact qX2
 ):P:=h
theorem qJG{P:Prop}(h:P:=by
 rintro e w3 ⟨rfl,rfl⟩
 try go_wp2_with fail
 refine hK.out _ _ hHeld (fun hE=>?_)
 clear hK
 try simp only[Act.put,zA,zB,zC]
 refine ae 28 hE ?_
 refine ae 29 hE ?_
 exact qX4
 ):P:=h
theorem qJR{P:Prop}(h:P:=by
 refine aW 21 hHeld ?_
 refine aW 22 hHeld ?_
 refine aW 23 hHeld ?_
 refine aW 24 hHeld ?_
 refine aW 25 hHeld ?_
 refine aW 26 hHeld ?_
 refine aW 27 hHeld ?_
 refine aW 28 hHeld ?_
 refine ae 29 hHeld ?_
 have hE:=hHeld
 exact qX2
 ):P:=h
theorem qJL{P:Prop}(h:P:=by
 refine aW 21 hHeld ?_
 refine aW 22 hHeld ?_
 refine aW 23 hHeld ?_
 refine aW 24 hHeld ?_
 refine aW 25 hHeld ?_
 refine aW 26 hHeld ?_
 refine aW 27 hHeld ?_
 refine aW 28 hHeld ?_
 refine ae 29 hHeld ?_
 have hE:=hHeld
 exact qX4
 ):P:=h
set_option maxHeartbeats 4000000 in
theorem Bi (p:Pl)(pb sb wb:Nat)(nr:Nat→Option Int)(g:Nat→Int)(n c:Nat)(x:Pk)(X AO:Option Addr)(cO:Nat)(AD:Option Addr)(cD:Nat)(w:World)(hx:x=ax g n)(hg:aC g)(hE:az g n=0)(h1:1<g 1)(h3:g 0=3)(hp:Pt p)(hF:Fb w pb 130 (dw sb nr))(hS:iM w sb wb p)(hX:By w X n g)(hc:n≤c)(hD:By w AD x.nd x.gd)(rU:x.nd≤cD) :
 Calls Tryz.prog 45 #[.pointer (some ⟨sb,0,none⟩),.slice X n c,.agg #[x.kind,x.life,x.piece,x.src,x.dst,x.fp,x.tp,x.flags,x.label,x.bare,x.code,.slice AO x.no cO,.slice AD x.nd cD]] w (rq w pb sb (fS p nr g n x)):=by
 have bd:=kr hg hE
 have ln:=ew hg hE
 rw[←hx]at bd ln
 obtain ⟨l1,l2,l3,l4,l5,l6,l7,l8,l9⟩:=ln
 obtain ⟨m1,m2,m3⟩:=l9 h3
 have hd6:=bd.2.2.2.2.2.2
 obtain ⟨p1,p2,p3,p4,p5⟩:=hp
 have SA:=hid hS
 have HF:=hid hF
 have HX:=hid (fun (w':World) (hb:Below w.heap.size w w')=>(show By w' X n g from Sl.below hX hb (Nat.le_refl _)))
 have HD:=hid (fun (w':World) (hb:Below w.heap.size w w')=>(show By w' AD x.nd x.gd from Sl.below hD hb (Nat.le_refl _)))
 have b4:=fF hd6 4 4
 have b16:=fF hd6 16 2
 have b8:=fF hd6 8 4
 have b18:=fF hd6 18 2
 rw[show (256:Int)^4=4294967296 by decide]at b4 b8
 rw[show (256:Int)^2=65536 by decide]at b16 b18
 have jb:(dV p (num x.gd 8 4) (num x.gd 18 2)).I:=⟨⟨by show _≤num x.gd 8 4;omega,by show num x.gd 8 4≤_;omega⟩,⟨by show _≤num x.gd 18 2;omega,by show num x.gd 18 2≤_;omega⟩,⟨by show _≤p.a;omega,by show p.a≤_;omega⟩,⟨by show _≤p.p;omega,by show p.p≤_;omega⟩⟩
 have PK:=hid (fun (w':World) (hs:Hid (Is w' (some ⟨wb,0,none⟩) 127 (cF p)))=>uZ (some ⟨wb,0,none⟩) 127 (cF p) (dV p (num x.gd 8 4) (num x.gd 18 2)) jb w' hs.out)
 have PB:=hid (fun (k:Nat) (hk:k<64)=>(show (0≤(p.s k).ad∧(p.s k).ad≤4294967295)∧0≤(p.s k).po∧(p.s k).po≤65535 from ⟨(p1 k hk).1,(p1 k hk).2.1⟩))
 have FS:=hid (fun (k:Nat) (hk:k<64)=>tU hg hE h1 h3 (PB.out k hk).1 (PB.out k hk).2)
 have AG:=hid (gk hE h1)
 have jd:Hid (44≤n∧x.nd=n-20∧n≤1500):=hid ⟨m1,m2,l2⟩
 have gX:n≤1000000:=by omega
 have HG:=hid hg
 have HC:=hid hc
 have HB0:=hid (hd6 0)
 have HT:Hid (fS p nr g n x=if nV p x=true then bB 8 nr else if gS p x = -1 then bB 9 nr else ⟨0,gS p x,false,n,D1 g n (p.s (gS p x).toNat),nr⟩):=hid rfl
 have nw:Hid (nV p x=(((x.gd 0 != 1&&x.gd 0 != 2) || num x.gd 4 4 != p.a) || num x.gd 16 2 != p.p)):=hid rfl
 have j9:Hid (gS p x = -1∨∃k:Nat,k<64∧gS p x=k):=hid (Bj p x)
 have Cf:Hid (gS p x=cF p (jI (dV p (num x.gd 8 4) (num x.gd 18 2))).toNat):=hid rfl
 obtain ⟨bD,oD,rfl⟩:=hD.addr (by omega)
 have fV:=hid (fun (w':World) (hb:Below w.heap.size w w') (a m k:Nat) (hm:m≤4) (h:a+m≤x.nd)=>(show Calls Tryz.prog 88 #[.slice (some ⟨bD,oD+a,none⟩) m k] w' fun e w2=>e =.returned (.int .i64 (num x.gd a m))∧w'=w2 from by
  have:=wG (some ⟨bD,oD+a,none⟩) m k (fun j=>x.gd (a+j)) w' (Sl.cut (HD.out w' hb) m h) (fun j=>hd6 _) hm
  rw[oU]at this
  exact this))
 have hsl:∀(W:World) (a b:Nat) (z u:Int) (_:z=a) (_:u=b) (_:a<b) (_:b≤24),(Instr.slice 23 (.slice (some ⟨bD,oD,none⟩) x.nd cD) (some (.int .i64 z)) (some (.int .i64 u)) none).run Tryz.prog W =.ok (.slice (some ⟨bD,oD+a,none⟩) (b-a) (cD-a)) W:=fun W a b z u hz hu h1 h2=>by
  subst hz hu
  have hne:¬cD=a:=by omega
  rw[run_slice_lh W 23 _ x.nd cD jU .i64 .i64 _ _ (by omega) (by omega) (by omega),jF W]
  simp[Result.andThen,sliced,Addr.add,hne]
 have s4:=fun W=>hsl W 4 8 4 8 rfl rfl (by omega) (by omega)
 have s16:=fun W=>hsl W 16 18 16 18 rfl rfl (by omega) (by omega)
 have s8:=fun W=>hsl W 8 12 8 12 rfl rfl (by omega) (by omega)
 have Nv:=fun W=>hsl W 18 20 18 20 rfl rfl (by omega) (by omega)
 dsimp only[Nat.reduceSub,Nat.reduceAdd]at s4 s16 s8 Nv
 have S0:Hid (HS [] w w []):=hid HS.start
 clear m3 hsl hS hF hX hD hE h3 h1 hx jb b4 b16 b8 b18 bd l1 l2 l3 l4 l5 l6 l7 l8 l9 m1 m2 p1 p2 p3 p4 p5 hc hg hd6
 go_enter Tryz.func45,Tryz.ntmps45
 go_upto_region 1 with (first | ((with_reducible refine ah ?_);refine ay rfl (fi (l:=[x.kind,x.life,x.piece,x.src,x.dst,x.fp,x.tp,x.flags,x.label,x.bare,x.code,.slice AO x.no cO,.slice (some ⟨bD,oD,none⟩) x.nd cD]) rfl rfl (by simp) S0.out ?_);intro E w_ hZ _;have S1:=hid hZ;clear hZ) | ((with_reducible refine ah ?_);refine ay rfl (bw rfl (oC _) (by simp) S1.out ?_);intro U w_ hZ _;have S2:=hid hZ;clear hZ))
 have HB1:=HB0.out
 have v0:IntKind.i64.wrap (x.gd 0)=x.gd 0:=IntWalk.i64_in _ (by omega)
 obtain ⟨y0,y1,y2,y3,y4,y5,y6,y7,y8,y9,al,ak,aj⟩:=(S2.out.ce 1 rfl).c13
 have e0:=(HD.out _ S2.out.bl).at_ (j:=0) (by have:=jd.out;omega)
 have i1:(0:Int)<(x.nd:Int):=by have:=jd.out;omega
 rw[Nat.add_zero]at e0
 go_upto_region 2 with (fail)
 clear y0 y1 y2 y3 y4 y5 y6 y7 y8 y9 al ak aj e0 v0 HB1
 go_cut [45] from 16 to 44 (fun s wx=>s =.bool (nV p x)∧HS [] w wx [aw U [(),(),false,.slice none 0 0],aw E [x.kind,x.life,x.piece,x.src,x.dst,x.fp,x.tp,x.flags,x.label,x.bare,x.code,.slice AO x.no cO,.slice (some ⟨bD,oD,none⟩) x.nd cD]])
 case first=>
  refine wp_region_held_drew (S:=fun (w':World)=>HS [] w w' [aw U [(),(),false,.slice none 0 0],aw E [x.kind,x.life,x.piece,x.src,x.dst,x.fp,x.tp,x.flags,x.label,x.bare,x.code,.slice AO x.no cO,.slice (some ⟨bD,oD,none⟩) x.nd cD]]) (by kernel_rfl) ?_ (fun hHeld=>?_)
  ·exact S2.out.drew
  cases b1:(x.gd 0 != 1)
  ·
   refine ae 0 hHeld ?_
   refine ae 1 hHeld ?_
   refine ae 2 hHeld ?_
   refine aW 3 hHeld ?_
   refine aW 4 hHeld ?_
   refine ae 5 hHeld ?_
   refine ae 6 hHeld ?_
   refine ae 7 hHeld ?_
   refine ae 8 hHeld ?_ (hy:=by intro w hSw;(try dsimp only at hSw);obtain ⟨y0,y1,y2,y3,y4,y5,y6,y7,y8,y9,al,ak,aj⟩:=(hSw.ce 1 rfl).c13;go_simp;(try with_reducible rfl))
   refine ae 9 hHeld ?_
   refine ae 11 hHeld ?_
   refine ae 12 hHeld ?_
   refine ae 13 hHeld ?_
   refine ae 14 hHeld ?_
   refine ae 15 hHeld ?_ (hy:=by intro w hSw;(try dsimp only at hSw);have q1:=(SA.out.below hSw.bl).pl.c1;have q2:=(SA.out.below hSw.bl).pl.c2;have q3:=(SA.out.below hSw.bl).sl;go_simp;(try with_reducible rfl))
   refine only 10 rfl (by kernel_rfl) rfl (fun K hK=>?_)
   go_simp
   refine(fV.out _ hHeld.bl 4 4 _ (by omega) (by have:=jd.out;omega)).mono ?_
   rintro e w3 ⟨rfl,rfl⟩
   try go_wp2_with fail
   refine hK.out _ _ hHeld (fun h4=>?_)
   clear hK
   try simp only[Act.put,zA,zB,zC]
   cases b3:(num x.gd 4 4 != p.a)
   ·clear hHeld;have hHeld:=h4;clear h4
    refine ae 16 hHeld ?_
    refine ae 17 hHeld ?_
    refine ae 18 hHeld ?_
    refine ae 19 hHeld ?_
    refine ae 20 hHeld ?_ (hy:=by intro w hSw;(try dsimp only at hSw);obtain ⟨y0,y1,y2,y3,y4,y5,y6,y7,y8,y9,al,ak,aj⟩:=(hSw.ce 1 rfl).c13;go_simp;(try with_reducible rfl))
    refine ae 21 hHeld ?_
    refine ae 23 hHeld ?_
    refine ae 24 hHeld ?_
    refine ae 25 hHeld ?_
    refine ae 26 hHeld ?_
    refine ae 27 hHeld ?_ (hy:=by intro w hSw;(try dsimp only at hSw);have q1:=(SA.out.below hSw.bl).pl.c1;have q2:=(SA.out.below hSw.bl).pl.c2;have q3:=(SA.out.below hSw.bl).sl;go_simp;(try with_reducible rfl))
    refine only 22 rfl (by kernel_rfl) rfl (fun K hK=>?_)
    go_simp
    refine(fV.out _ hHeld.bl 16 2 _ (by omega) (by have:=jd.out;omega)).mono ?_
    exact qJG
   clear hHeld;have hHeld:=h4;clear h4
   refine ae 16 hHeld ?_
   refine ae 17 hHeld ?_
   refine ae 18 hHeld ?_
   refine aW 19 hHeld ?_
   refine aW 20 hHeld ?_
   exact qJL
  cases b2:(x.gd 0 != 2)
  ·
   refine ae 0 hHeld ?_
   refine ae 1 hHeld ?_
   refine ae 2 hHeld ?_
   refine ae 3 hHeld ?_
   refine ae 4 hHeld ?_
   refine ae 5 hHeld ?_
   refine ae 6 hHeld ?_
   refine ae 7 hHeld ?_
   refine ae 8 hHeld ?_ (hy:=by intro w hSw;(try dsimp only at hSw);obtain ⟨y0,y1,y2,y3,y4,y5,y6,y7,y8,y9,al,ak,aj⟩:=(hSw.ce 1 rfl).c13;go_simp;(try with_reducible rfl))
   refine ae 9 hHeld ?_
   refine ae 11 hHeld ?_
   refine ae 12 hHeld ?_
   refine ae 13 hHeld ?_
   refine ae 14 hHeld ?_
   refine ae 15 hHeld ?_ (hy:=by intro w hSw;(try dsimp only at hSw);have q1:=(SA.out.below hSw.bl).pl.c1;have q2:=(SA.out.below hSw.bl).pl.c2;have q3:=(SA.out.below hSw.bl).sl;go_simp;(try with_reducible rfl))
   refine only 10 rfl (by kernel_rfl) rfl (fun K hK=>?_)
   go_simp
   refine(fV.out _ hHeld.bl 4 4 _ (by omega) (by have:=jd.out;omega)).mono ?_
   rintro e w3 ⟨rfl,rfl⟩
   try go_wp2_with fail
   refine hK.out _ _ hHeld (fun h4=>?_)
   clear hK
   try simp only[Act.put,zA,zB,zC]
   cases b3:(num x.gd 4 4 != p.a)
   ·clear hHeld;have hHeld:=h4;clear h4
    refine ae 16 hHeld ?_
    refine ae 17 hHeld ?_
    refine ae 18 hHeld ?_
    refine ae 19 hHeld ?_
    refine ae 20 hHeld ?_ (hy:=by intro w hSw;(try dsimp only at hSw);obtain ⟨y0,y1,y2,y3,y4,y5,y6,y7,y8,y9,al,ak,aj⟩:=(hSw.ce 1 rfl).c13;go_simp;(try with_reducible rfl))
    refine ae 21 hHeld ?_
    refine ae 23 hHeld ?_
    refine ae 24 hHeld ?_
    refine ae 25 hHeld ?_
    refine ae 26 hHeld ?_
    refine ae 27 hHeld ?_ (hy:=by intro w hSw;(try dsimp only at hSw);have q1:=(SA.out.below hSw.bl).pl.c1;have q2:=(SA.out.below hSw.bl).pl.c2;have q3:=(SA.out.below hSw.bl).sl;go_simp;(try with_reducible rfl))
    refine only 22 rfl (by kernel_rfl) rfl (fun K hK=>?_)
    go_simp
    refine(fV.out _ hHeld.bl 16 2 _ (by omega) (by have:=jd.out;omega)).mono ?_
    exact qJT
   clear hHeld;have hHeld:=h4;clear h4
   refine ae 16 hHeld ?_
   refine ae 17 hHeld ?_
   refine ae 18 hHeld ?_
   refine aW 19 hHeld ?_
   refine aW 20 hHeld ?_
   exact qJR
  refine ae 0 hHeld ?_
  refine ae 1 hHeld ?_
  refine ae 2 hHeld ?_
  refine ae 3 hHeld ?_
  refine ae 4 hHeld ?_
  refine ae 5 hHeld ?_
  refine ae 6 hHeld ?_
  refine aW 7 hHeld ?_
  refine aW 8 hHeld ?_
  refine aW 9 hHeld ?_
  refine aW 10 hHeld ?_
  refine aW 11 hHeld ?_
  refine aW 12 hHeld ?_
  refine aW 13 hHeld ?_
  refine aW 14 hHeld ?_
  refine aW 15 hHeld ?_
  refine aW 16 hHeld ?_
  refine ae 17 hHeld ?_
  refine ae 18 hHeld ?_
  refine aW 19 hHeld ?_
  refine aW 20 hHeld ?_
  exact qX7
 obtain ⟨rfl,hz⟩:=hcut
 have S3:=hid hz
 clear hz S2 S1 S0
 obtain ⟨bb,hbb⟩:∃bb,bb=nV p x:=⟨_,rfl⟩
 rw[←hbb]at HT ⊢
 clear hbb nw
 cases bb
 ·go_upto_region 4 with (fail)
  refine wp_region_held_drew (S:=fun (w':World)=>HS [] w w' [aw U [(),(),false,.slice none 0 0],aw E [x.kind,x.life,x.piece,x.src,x.dst,x.fp,x.tp,x.flags,x.label,x.bare,x.code,.slice AO x.no cO,.slice (some ⟨bD,oD,none⟩) x.nd cD]]) (by kernel_rfl) ?_ (fun hHeld=>?_)
  ·exact S3.out.drew
  refine ae 0 hHeld ?_
  refine ae 1 hHeld ?_
  refine ae 2 hHeld ?_
  refine ae 3 hHeld ?_ (hy:=by intro w hSw;(try dsimp only at hSw);have q1:=(SA.out.below hSw.bl).pl.c1;have q2:=(SA.out.below hSw.bl).pl.c2;have q3:=(SA.out.below hSw.bl).sl;go_simp;(try with_reducible rfl))
  refine ae 4 hHeld ?_
  refine ae 5 hHeld ?_
  refine ae 6 hHeld ?_ (hy:=by intro w hSw;(try dsimp only at hSw);obtain ⟨y0,y1,y2,y3,y4,y5,y6,y7,y8,y9,al,ak,aj⟩:=(hSw.ce 1 rfl).c13;go_simp;(try with_reducible rfl))
  refine ae 7 hHeld ?_
  refine ae 9 hHeld ?_
  refine ae 10 hHeld ?_ (hy:=by intro w hSw;(try dsimp only at hSw);obtain ⟨y0,y1,y2,y3,y4,y5,y6,y7,y8,y9,al,ak,aj⟩:=(hSw.ce 1 rfl).c13;go_simp;(try with_reducible rfl))
  refine ae 11 hHeld ?_
  refine only 8 rfl (by kernel_rfl) rfl (fun K hK=>?_)
  go_simp
  refine(fV.out _ hHeld.bl 8 4 _ (by omega) (by have:=jd.out;omega)).mono ?_
  rintro e w3 ⟨rfl,rfl⟩
  try go_wp2_with fail
  refine hK.out _ _ hHeld (fun h3=>?_)
  clear hK
  try simp only[Act.put,zA,zB,zC]
  clear hHeld;have hHeld:=h3;clear h3
  refine only 12 rfl (by kernel_rfl) rfl (fun K hK=>?_)
  go_simp
  refine(fV.out _ hHeld.bl 18 2 _ (by omega) (by have:=jd.out;omega)).mono ?_
  rintro e w3 ⟨rfl,rfl⟩
  try go_wp2_with fail
  refine hK.out _ _ hHeld (fun h3=>?_)
  clear hK
  try simp only[Act.put,zA,zB,zC]
  clear hHeld;have hHeld:=h3;clear h3
  refine only 13 rfl (by kernel_rfl) rfl (fun K hK=>?_)
  have q1:=(SA.out.below hHeld.bl).pl.c1
  have q2:=(SA.out.below hHeld.bl).pl.c2
  have hlt:=(SA.out.below hHeld.bl).pl.1
  go_simp
  refine(rp p sb (num x.gd 8 4) (num x.gd 18 2) _ q1 q2 hlt).mono ?_
  rintro e w3 ⟨rfl,hb⟩
  try go_wp2_with fail
  refine hK.out _ _ (hHeld.below hb) (fun h3=>?_)
  clear hK hb hHeld q1 q2 hlt
  try simp only[Act.put,zA,zB,zC]
  refine only 14 rfl (by kernel_rfl) rfl (fun K hK=>?_)
  go_simp
  refine(PK.out _ (hid (SA.out.below h3.bl).wh.slice)).mono ?_
  rintro e w4 ⟨rfl,hb⟩
  rw[←Cf.out]
  try go_wp2_with fail
  refine hK.out _ _ (h3.below hb) (fun h4=>?_)
  clear hK hb h3
  try simp only[Act.put,zA,zB,zC]
  refine ae 15 h4 ?_
  have S5:=hid h4
  clear h4 S3
  refine wpAnyH_done (by kernel_rfl) ?_ _
  obtain ⟨sl,hsl⟩:∃sl,sl=gS p x:=⟨_,rfl⟩
  rw[←hsl]at HT j9 ⊢
  clear hsl Cf
  rcases j9.out with rfl |⟨k,hk,rfl⟩
  ·have HR:Hid (fS p nr g n x=bB 9 nr):=hid (by rw[HT.out,if_neg (by simp),if_pos rfl])
   clear HT j9
   go_wp2_with fail
   refine(fT 9 _).mono ?_
   rintro e gL ⟨rfl,hb⟩
   have dA:=hid (S5.out.below hb)
   clear hb S5
   unfold eN
   go_simp
   go_wp2_with (((with_reducible refine ah ?_);refine ay rfl (aB (A:=[]) [.int .i64 9,.int .i64 (-1),false,.slice none 0 0] rfl rfl (rfl) dA.out rfl d9 rfl ?_);intro w_ hZ;have aK:=hid hZ;clear hZ;(first |refine aJ ?_ |refine aR ?_);apply_assumption;refine wp_ret ?_;(repeat refine aI ?_);(show bodyPost _ _ _ _ _ _);exact bodyPost_ret (v:=.agg ([.int .i64 9,.int .i64 (-1),false,.slice none 0 0]:List Value).toArray) (aS Tryz.results45 _ rfl (aK.out.ce 0 rfl) Tryz.underlying45 rfl d9) rfl (by rw[HR.out];exact⟨none,0,rfl,OB.nil,Nat.le_refl _,HF.out.below aK.out.bl,Ch.of_below aK.out.bl⟩)))
  have HR:Hid (fS p nr g n x=⟨0,(k:Int),false,n,cB (cB (eS (aN g) n (p.s k).ad) n (24:Int).toNat (4:Int).toNat (p.s k).ad) n (36:Int).toNat (2:Int).toNat (p.s k).po,nr⟩):=hid (by rw[HT.out,if_neg (by simp),if_neg (by omega)];rfl)
  clear HT j9
  have Ig:((k:Int) == -1)=false:=by simp
  have i0:(0:Int)≤k:=by omega
  have i1:(k:Int)<64:=by omega
  obtain ⟨a0,a1,a2,a3,a4⟩:=(SA.out.below S5.out.bl).pl.s5 k hk
  go_upto_region 8 with (first | ((with_reducible refine ah ?_);refine ay rfl (bw rfl (Ke _) (by simp) S5.out ?_);intro Z w_ hZ _;have S6:=hid hZ;clear hZ) | ((with_reducible refine ah ?_);refine ay rfl (aB (A:=[]) [(p.s k).st,(p.s k).ad,(p.s k).po,(p.s k).we,(p.s k).si] rfl rfl (rfl) S6.out rfl KC rfl ?_);intro w_ hZ;have S7:=hid hZ;clear hZ))
  clear a0 a1 a2 a3 a4 S5
  go_upto_region 9 with (((with_reducible refine ah ?_);refine ay rfl (fi (l:=[.slice X n c,()]) rfl rfl (by simp) S7.out ?_);intro Q w_ hZ _;have S8:=hid hZ;clear hZ))
  go_wp2_with fail
  refine(sy (S8.out.ce 0 rfl) (HX.out _ S8.out.bl) HG.out gX HC.out AG.out).mono ?_
  rintro e w9 ⟨rfl,hw⟩
  obtain ⟨X1,c1,hz,hc1⟩:=HS.way (A:=[]) S8.out hw rfl
  have S9:=hid hz
  have pN:=hid hc1
  clear hz hc1 hw S8 S7
  go_simp
  have z1:=(S9.out.ce 2 rfl).2.1 1 _ rfl
  go_wp2_with fail
  refine(Fs (S9.out.ce 1 rfl) (Ow.sl1 (S9.out.nth 0 rfl)) (FS.out k hk).1.2.2 (FS.out k hk).1.1 (FS.out k hk).1.2.1 pN.out (p.s k).ad (PB.out k hk).1).mono ?_
  rintro e ea ⟨rfl,hw⟩
  obtain ⟨X2,c2,hz,hc2⟩:=HS.way (A:=[bU w.heap.size 5 1 (.slice X1 n c1) n (fun j=>.int .u8 (aN g j))]) S9.out hw rfl
  have eo:=hid hz
  have cI:=hid hc2
  clear hz hc2 hw S9 z1
  go_simp
  have z1:=(eo.out.ce 3 rfl).2.1 1 _ rfl
  go_wp2_with fail
  refine(kC (eo.out.ce 2 rfl) (Ow.sl1 (eo.out.nth 0 rfl)) (FS.out k hk).2.1.1 gX cI.out 24 4 (p.s k).ad ⟨by omega,by omega⟩ (FS.out k hk).2.1.2).mono ?_
  rintro e li ⟨rfl,hw⟩
  obtain ⟨X3,c3,hz,hc3⟩:=HS.way (A:=[bU w.heap.size 5 1 (.slice X2 n c2) n (fun j=>.int .u8 (eS (aN g) n (p.s k).ad j)),bU w.heap.size 5 1 (.slice X1 n c1) n (fun j=>.int .u8 (aN g j))]) eo.out hw rfl
  have dT:=hid hz
  have me:=hid hc3
  clear hz hc3 hw eo z1
  go_simp
  have z2:=(dT.out.ce 4 rfl).2.1 2 _ rfl
  go_wp2_with fail
  refine(kC (dT.out.ce 3 rfl) (Ow.sl1 (dT.out.nth 0 rfl)) (FS.out k hk).2.2.1 gX me.out 36 2 (p.s k).po ⟨by omega,by omega⟩ (FS.out k hk).2.2.2).mono ?_
  rintro e og ⟨rfl,hw⟩
  obtain ⟨X4,c4,hz,hc4⟩:=HS.way (A:=[bU w.heap.size 5 1 (.slice X3 n c3) n (fun j=>.int .u8 (cB (eS (aN g) n (p.s k).ad) n (24:Int).toNat (4:Int).toNat (p.s k).ad j)),bU w.heap.size 5 1 (.slice X2 n c2) n (fun j=>.int .u8 (eS (aN g) n (p.s k).ad j)),bU w.heap.size 5 1 (.slice X1 n c1) n (fun j=>.int .u8 (aN g j))]) dT.out hw rfl
  have iN:=hid hz
  have xO:=hid hc4
  clear hz hc4 hw dT z2
  go_simp
  go_wp2_with fail
  refine(jh (iN.out.ce 4 rfl) (k:Int) false).mono ?_
  rintro e gL ⟨rfl,hb⟩
  have dA:=hid (iN.out.below hb)
  clear hb iN
  unfold eN
  go_simp
  go_wp2_with (((with_reducible refine ah ?_);refine ay rfl (aB (A:=[bU w.heap.size 5 1 (.slice X4 n c4) n (fun j=>.int .u8 (cB (cB (eS (aN g) n (p.s k).ad) n (24:Int).toNat (4:Int).toNat (p.s k).ad) n (36:Int).toNat (2:Int).toNat (p.s k).po j)),bU w.heap.size 5 1 (.slice X3 n c3) n (fun j=>.int .u8 (cB (eS (aN g) n (p.s k).ad) n (24:Int).toNat (4:Int).toNat (p.s k).ad j)),bU w.heap.size 5 1 (.slice X2 n c2) n (fun j=>.int .u8 (eS (aN g) n (p.s k).ad j)),bU w.heap.size 5 1 (.slice X1 n c1) n (fun j=>.int .u8 (aN g j)),aw Q [.slice X4 n c4,()],aw Z [(p.s k).st,(p.s k).ad,(p.s k).po,(p.s k).we,(p.s k).si]]) [(),(k:Int),false,.slice X4 n c4] rfl rfl (rfl) dA.out rfl d9 rfl ?_);intro w_ hZ;have aK:=hid hZ;clear hZ;(first |refine aJ ?_ |refine aR ?_);apply_assumption;refine wp_ret ?_;(repeat refine aI ?_);(show bodyPost _ _ _ _ _ _);exact bodyPost_ret (v:=.agg ([(),(k:Int),false,.slice X4 n c4]:List Value).toArray) (aS Tryz.results45 _ rfl (aK.out.ce 6 rfl) Tryz.underlying45 rfl d9) rfl (by rw[HR.out];exact⟨X4,c4,rfl,aK.out.nth 0 rfl,xO.out,HF.out.below aK.out.bl,Ch.of_below aK.out.bl⟩)))
 have HR:Hid (fS p nr g n x=bB 8 nr):=hid (by rw[HT.out,if_pos rfl])
 clear HT j9
 go_wp2_with fail
 refine(fT 8 _).mono ?_
 rintro e gL ⟨rfl,hb⟩
 have dA:=hid (S3.out.below hb)
 clear hb S3
 unfold eN
 go_simp
 go_wp2_with (((with_reducible refine ah ?_);refine ay rfl (aB (A:=[]) [.int .i64 8,.int .i64 (-1),false,.slice none 0 0] rfl rfl (rfl) dA.out rfl d9 rfl ?_);intro w_ hZ;have aK:=hid hZ;clear hZ;(first |refine aJ ?_ |refine aR ?_);apply_assumption;refine wp_ret ?_;(repeat refine aI ?_);(show bodyPost _ _ _ _ _ _);exact bodyPost_ret (v:=.agg ([.int .i64 8,.int .i64 (-1),false,.slice none 0 0]:List Value).toArray) (aS Tryz.results45 _ rfl (aK.out.ce 0 rfl) Tryz.underlying45 rfl d9) rfl (by rw[HR.out];exact⟨none,0,rfl,OB.nil,Nat.le_refl _,HF.out.below aK.out.bl,Ch.of_below aK.out.bl⟩)))
end Go.Proofs.YtalnfkijiehjhaaGreat
namespace Go.Proofs.YtalnfkijiehjhaaGreat
set_option linter.unusedVariables false
set_option linter.unusedSimpArgs false
open Go.RowKit Go.ChangeShapes Go.WideShapes Go.ChangeAt
set_option maxRecDepth 100000
attribute [local irreducible] PA
set_option maxHeartbeats 4000000 in
theorem zr (p:Pl)(pb sb wb:Nat)(nr:Nat→Option Int)(g:Nat→Int)(n c:Nat)(X:Option Addr)(w:World)(hg:aC g)(hn:n≤1000000)(hq:az g n=0)(h3:g 0=3)(hp:Pt p)(hF:Fb w pb 130 (dw sb nr))(hpl:pb≠sb∧pb≠wb)(hS:iM w sb wb p)(hX:By w X n g)(hc:n≤c) :
 Calls Tryz.prog 16 #[.pointer (some ⟨pb,0,none⟩),.slice X n c] w (rq w pb sb (cY p true nr g n)):=by
 have PS:=hid (fun (w':World) (hb:Below w.heap.size w w')=>jm X n c g w' (Sl.below hX hb (Nat.le_refl _)) hg hc hn)
 have SA:=hid hS
 have HF:=hid hF
 have HX:=hid (fun (w':World) (hb:Below w.heap.size w w')=>(show By w' X n g from Sl.below hX hb (Nat.le_refl _)))
 have HG:=hid hg
 have HP:=hid hp
 have HC:=hid hc
 have H3:=hid h3
 have HQ:=hid hq
 have S0:Hid (HS [] w w []):=hid HS.start
 clear hS hF hX hg hp hc h3 hpl hq
 go_enter Tryz.func16,Tryz.ntmps16
 go_upto_region 1 with ((with_reducible refine ah ?_);refine ay rfl (bw rfl (oC _) (by simp) S0.out ?_);intro U w_ hZ _;have S1:=hid hZ;clear hZ)
 have hF1:=HF.out.below S1.out.bl
 have c0:w_.cell? ⟨pb,0,none⟩=some (.pointer (some ⟨sb,0,none⟩)):=hF1.2.1 0 (by omega)
 have c1:w_.cell? ⟨pb,1,none⟩=some (.bool true):=hF1.2.1 1 (by omega)
 clear hF1
 go_wp2_with fail
 refine(lT (some ⟨sb,0,none⟩) true _).mono ?_
 rintro e w2 ⟨rfl,hb⟩
 have S2:=hid (S1.out.below hb)
 clear hb S0 S1 c0 c1
 go_simp
 go_wp2_with fail
 refine(PS.out _ S2.out.bl).mono ?_
 rintro e w3 ⟨O,D,rfl,hO,hD,hb⟩
 have S3:=hid (S2.out.yr hb hO hD rfl)
 obtain ⟨AO,cO,rfl,_,_,_⟩:=hO.aF
 obtain ⟨AD,cD,rfl,rU,_,_⟩:=hD.aF
 have Fj:=hid rU
 clear hb S2 PS hO hD rU
 obtain ⟨x,hx⟩:∃x,x=ax g n:=⟨_,rfl⟩
 have HT:Hid (cY p true nr g n=if x.piece≠0 then bB 6 nr else if x.life≤1 then bB 7 nr else if x.dst=p.a∧x.kind=3 then fS p nr g n x else if x.dst=p.a∧x.tp=p.p then inT p nr g n x else if x.kind=3 then bB 8 nr else match fu p x.src x.fp with |none=>bB 8 nr |some s=>outT p nr g n x s):=hid (by
  rw[hx];unfold cY;rw[if_neg (by simp),if_neg (by rw[HQ.out];simp)];rfl)
 rw[←hx]at S3 Fj
 rw[←hx,HQ.out]
 unfold ct de
 have XX:=hid hx
 have LN:=hid (ew HG.out HQ.out)
 rw[←XX.out]at LN
 have KI:Hid (x.kind=3):=hid (by have h1:=LN.out.2.2.1;have:=H3.out;omega)
 clear hx
 go_simp
 go_upto_region 5 with (first | ((with_reducible refine ah ?_);refine ay rfl (bw rfl (oB _) (by simp) S3.out ?_);intro E1 w_ hZ _;have S4:=hid hZ;clear hZ) | ((with_reducible refine ah ?_);refine ay rfl (aB (A:=[]) [x.kind,x.life,x.piece,x.src,x.dst,x.fp,x.tp,x.flags,x.label,x.bare,x.code,.slice AO x.no cO,.slice AD x.nd cD] rfl rfl (rfl) S4.out rfl jt rfl ?_);intro w_ hZ;have S5:=hid hZ;clear hZ))
 clear S3
 obtain ⟨y0,y1,y2,y3,y4,y5,y6,y7,y8,y9,al,ak,aj⟩:=(S5.out.ce 0 rfl).c13
 have k3:(x.kind==3)=true:=by simp[KI.out]
 cases e2:(x.piece != 0)
 ·cases e1:decide (x.life≤1)
  ·have h1:¬x.life≤1:=by simpa using e1
   have H1:Hid (1<g 1):=hid (by have:=LN.out.2.2.2.1;omega)
   have HT2:Hid (cY p true nr g n=if x.dst=p.a then fS p nr g n x else bB 8 nr):=hid (by
    rw[HT.out,if_neg (by simpa using e2),if_neg h1]
    by_cases hd:x.dst=p.a
    ·rw[if_pos ⟨hd,KI.out⟩,if_pos hd]
    rw[if_neg (fun h=>hd h.1),if_neg (fun h=>hd h.1),if_pos KI.out,if_neg hd])
   have CM:=hid (fun (w':World) (hb:Below w.heap.size w w')=>(show Calls Tryz.prog 44 #[.pointer (some ⟨sb,0,none⟩),.agg #[x.kind,x.life,x.piece,x.src,x.dst,x.fp,x.tp,x.flags,x.label,x.bare,x.code,.slice AO x.no cO,.slice AD x.nd cD]] w' fun e w2=>e =.returned (.bool (x.dst==p.a))∧Below w'.heap.size w' w2 from by
    have h:=tY p sb x AO cO AD cD w' (SA.out.below hb).pl.c1 (SA.out.below hb).pl.c2 (SA.out.below hb).pl.1
    rw[k3,Bool.true_or,Bool.and_true]at h
    exact h))
   have PE:=hid (fun (w':World) (hb:Below w.heap.size w w') (Bd:Hid (By w' AD x.nd x.gd))=>Bi p pb sb wb nr g n c x X AO cO AD cD w' XX.out HG.out HQ.out H1.out H3.out HP.out (HF.out.below hb) (SA.out.below hb) (HX.out w' hb) HC.out Bd.out Fj.out)
   obtain ⟨kc,hkc⟩:∃kc,kc=(x.dst==p.a):=⟨_,rfl⟩
   have vW:=hid hkc
   rw[←hkc]at CM
   clear h1 hkc HT
   cases kc
   ·have HR:Hid (cY p true nr g n=bB 8 nr):=hid (by
     have h:=vW.out
     rw[HT2.out,if_neg (fun hh=>by rw[beq_iff_eq.2 hh]at h;cases h)])
    clear HT2 vW
    go_wp2_with fail
    refine(CM.out _ S5.out.bl).mono ?_
    rintro e w6 ⟨rfl,hb⟩
    have S6:=hid (S5.out.below hb)
    clear hb S5 y0 y1 y2 y3 y4 y5 y6 y7 y8 y9 al ak aj
    obtain ⟨y0,y1,y2,y3,y4,y5,y6,y7,y8,y9,al,ak,aj⟩:=(S6.out.ce 0 rfl).c13
    go_simp
    go_wp2_with fail
    refine(CM.out _ S6.out.bl).mono ?_
    rintro e w7 ⟨rfl,hb⟩
    have S7:=hid (S6.out.below hb)
    clear hb S6 y0 y1 y2 y3 y4 y5 y6 y7 y8 y9 al ak aj
    obtain ⟨y0,y1,y2,y3,y4,y5,y6,y7,y8,y9,al,ak,aj⟩:=(S7.out.ce 0 rfl).c13
    go_simp
    go_wp2_with fail
    refine(fT 8 _).mono ?_
    rintro e gL ⟨rfl,hb⟩
    have dA:=hid (S7.out.below hb)
    clear hb S7
    exact qXU
   have HR:Hid (cY p true nr g n=fS p nr g n x):=hid (by
    have h:=vW.out.symm
    rw[HT2.out,if_pos (beq_iff_eq.1 h)])
   clear HT2 vW
   go_wp2_with fail
   refine(CM.out _ S5.out.bl).mono ?_
   rintro e w6 ⟨rfl,hb⟩
   have S6:=hid (S5.out.below hb)
   clear hb S5 y0 y1 y2 y3 y4 y5 y6 y7 y8 y9 al ak aj
   obtain ⟨y0,y1,y2,y3,y4,y5,y6,y7,y8,y9,al,ak,aj⟩:=(S6.out.ce 0 rfl).c13
   go_simp
   go_wp2_with fail
   refine(PE.out _ S6.out.bl (hid (Ow.sl1 (S6.out.nth 1 rfl).2))).mono ?_
   intro e ea hT
   generalize fS p nr g n x=t at HR hT
   obtain ⟨X9,c9,rfl,hz,jZ⟩:=S6.out.took (HF.out.below S6.out.bl) HF.out.1 hT
   exact qQ2
  have h1:x.life≤1:=by simpa using e1
  have HR:Hid (cY p true nr g n=bB 7 nr):=hid (by rw[HT.out,if_neg (by simpa using e2),if_pos h1])
  clear HT
  exact qXZ
 have HR:Hid (cY p true nr g n=bB 6 nr):=hid (by rw[HT.out,if_pos (by simpa using e2)])
 clear HT
 exact qXY
theorem Cz (p:Pl)(pb sb wb:Nat)(nr:Nat→Option Int)(g:Nat→Int)(n c:Nat)(X:Option Addr)(w:World)(hg:aC g)(hn:n≤1000000)(hp:Pt p)(hnr:iP nr)(hF:Fb w pb 130 (dw sb nr))(hpl:pb≠sb∧pb≠wb)(hS:iM w sb wb p)(hX:By w X n g)(hc:n≤c) :
 Calls Tryz.prog 16 #[.pointer (some ⟨pb,0,none⟩),.slice X n c] w (rq w pb sb (cY p true nr g n)):=by
 by_cases h:az g n=0∧g 0=3
 ·exact zr p pb sb wb nr g n c X w hg hn h.1 h.2 hp hF hpl hS hX hc
 exact uJ p pb sb wb nr g n c X w hg hn (fun h1 h2=>h ⟨h1,h2⟩) hp hnr hF hpl hS hX hc
end Go.Proofs.YtalnfkijiehjhaaGreat
namespace Go.Proofs.YtalnfkijiehjhaaGreat
set_option linter.unusedVariables false
set_option linter.unusedSimpArgs false
open Go.RowKit Go.ChangeShapes Go.WideShapes Go.ChangeAt
set_option maxRecDepth 100000
attribute [local irreducible] FA FL
theorem p_ {S:List Nat}{W w:World}{A B:List Th}{pb sb wb:Nat}{nr:Nat→Option Int}{p:Pl}(hS:HS S W w (A++aD pb 130 (dw sb nr)::B))(hSt:iM w sb wb p)(hne:pb≠sb∧pb≠wb)(hp:Pt p)(hnr:iP nr)(g:Nat→Int)(n c:Nat)(X:Option Addr)(hg:aC g)(hn:n≤1000000)(hX:By w X n g)(hc:n≤c)(t:To)(ht:cY p true nr g n=t) :
 Calls Tryz.prog 16 #[.pointer (some ⟨pb,0,none⟩),.slice X n c] w fun e w'=>∃X' c',e =.returned (.agg #[t.d,t.s,t.c,.slice X' t.n c'])∧HS S W w' (bS (.slice X' t.n c') t.n t.f::(A++aD pb 130 (dw sb t.nr)::B))∧t.n≤c':=by
 have hF:Fb w pb 130 (dw sb nr):=hS.1 (aD pb 130 (dw sb nr)) (by simp)
 subst ht
 refine(Cz p pb sb wb nr g n c X w hg hn hp hnr hF hne hSt hX hc).mono ?_
 exact qYQ
end Go.Proofs.YtalnfkijiehjhaaGreat
