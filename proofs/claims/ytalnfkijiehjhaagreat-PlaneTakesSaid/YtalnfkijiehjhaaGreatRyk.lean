/- The reference's unit: a fault. The reference's unit: Take of any bytes. The reference's units as things. -/
import Derived.Test.YtalnfkijiehjhaaGreatGa
import Derived.Test.YtalnfkijiehjhaaGreatRyw
import Derived.Test.YtalnfkijiehjhaaGreatRyRe
import Derived.Test.YtalnfkijiehjhaaGreatWirRef1
import Derived.Test.YtalnfkijiehjhaaGreatWirRef2
import Derived.Test.YtalnfkijiehjhaaGreatGh
import Derived.Test.YtalnfkijiehjhaaGreatPlt
import Derived.BigQuiet
import Derived.Deep.RegionHeld3
import Derived.Deep.Cut
import Derived.IntWalk
import Derived.Test.YtalnfkijiehjhaaGreatRyi
import Derived.Test.YtalnfkijiehjhaaGreatGz
import Derived.Test.YtalnfkijiehjhaaGreatWirRparse2
import Derived.Test.YtalnfkijiehjhaaGreatGf
import Derived.Test.YtalnfkijiehjhaaGreatTth
import Derived.Test.YtalnfkijiehjhaaGreatPkn
import Derived.Deep.LoopGhost
namespace Go.Proofs.YtalnfkijiehjhaaGreat
open List renaming setIfInBounds_toArray→zA,set_cons_zero→zB,set_cons_succ→zC
set_option linter.unusedVariables false
set_option linter.unusedSimpArgs false
open Go.RowKit Go.ChangeShapes Go.WideShapes Go.ChangeAt
theorem Hb (A:Option Addr)(L c:Nat)(g:Nat→Int)(w:World)(h:By w A L g)(hg:aC g)(hc:L≤c)(hb:L≤1000000)(hp:az g L=0)(h3:g 0=3)(hd:num g 10 2≤65534)(ad:Int)(ha:0≤ad∧ad≤4294967295) :
 Calls Tryz.prog 104 #[.slice A L c,ad] w fun e w'=>∃A' c',e =.returned (.slice A' L c')∧OB w' w.heap.size (.slice A' L c') L (eS g L ad)∧L≤c'∧Below w.heap.size w w':=by
 refine(CN A L c g w h hg hc hb (ew hg hp).1 ad).mono ?_
 rintro e w' ⟨A',c',rfl,hO,hc',hb'⟩
 exact⟨A',c',rfl,OB.mJ hO (fun j _=>Kr hg hp h3 ha hd j),hc',hb'⟩
set_option maxRecDepth 100000
set_option maxHeartbeats 4000000 in
theorem Ab (p:Pl)(pb wb:Nat)(nr:Nat→Option Int)(g:Nat→Int)(n c:Nat)(x:Pk)(X AO:Option Addr)(cO:Nat)(AD:Option Addr)(cD:Nat)(w:World)(hx:x=ax g n)(hg:aC g)(hE:az g n=0)(h1:1<g 1)(h3:g 0=3)(hlo:num g 10 2≤65534)(hp:Pt p)(hS:fy w pb wb p nr)(hX:By w X n g)(hc:n≤c)(hD:By w AD x.nd x.gd)(rU:x.nd≤cD) :
 Calls Tryz.prog 50 #[.pointer (some ⟨pb,0,none⟩),.agg #[x.kind,x.life,x.piece,x.src,x.dst,x.fp,x.tp,x.flags,x.label,x.bare,x.code,.slice AO x.no cO,.slice AD x.nd cD],.slice X n c] w (sd w pb wb p (fS p nr g n x)):=by
 have bd:=kr hg hE
 have ln:=ew hg hE
 rw[←hx]at bd ln
 obtain ⟨l1,l2,l3,l4,l5,l6,l7,l8,l9⟩:=ln
 obtain ⟨m1,m2,m3⟩:=l9 h3
 have hd6:=bd.2.2.2.2.2.2
 obtain ⟨p1,p2,p3,p4,p5⟩:=hp
 have SA:=hid hS
 have HX:=hid (fun (w':World) (hb:Below w.heap.size w w')=>(show By w' X n g from Sl.below hX hb (Nat.le_refl _)))
 have HD:=hid (fun (w':World) (hb:Below w.heap.size w w')=>(show By w' AD x.nd x.gd from Sl.below hD hb (Nat.le_refl _)))
 have b4:=fF hd6 4 4
 have b16:=fF hd6 16 2
 have b8:=fF hd6 8 4
 have b18:=fF hd6 18 2
 rw[show (256:Int)^4=4294967296 by decide]at b4 b8
 rw[show (256:Int)^2=65536 by decide]at b16 b18
 have jb:(dV p (num x.gd 8 4) (num x.gd 18 2)).I:=⟨⟨by show _≤num x.gd 8 4;omega,by show num x.gd 8 4≤_;omega⟩,⟨by show _≤num x.gd 18 2;omega,by show num x.gd 18 2≤_;omega⟩,⟨by show _≤p.a;omega,by show p.a≤_;omega⟩,⟨by show _≤p.p;omega,by show p.p≤_;omega⟩⟩
 have PK:=hid (fun (w':World) (hs:Hid (Is w' (some ⟨wb,0,none⟩) 127 (cF p)))=>tG (some ⟨wb,0,none⟩) 127 (cF p) (dV p (num x.gd 8 4) (num x.gd 18 2)) jb w' hs.out)
 have PB:=hid (fun (k:Nat) (hk:k<64)=>(show (0≤(p.s k).ad∧(p.s k).ad≤4294967295)∧0≤(p.s k).po∧(p.s k).po≤65535 from ⟨(p1 k hk).1,(p1 k hk).2.1⟩))
 have FS:=hid (fun (k:Nat) (hk:k<64)=>tU hg hE h1 h3 (PB.out k hk).1 (PB.out k hk).2)
 have AG:=hid (gk hE h1)
 have jd:Hid (44≤n∧x.nd=n-20∧n≤1500):=hid ⟨m1,m2,l2⟩
 have gX:n≤1000000:=by omega
 have HG:=hid hg
 have HC:=hid hc
 have HB0:=hid (hd6 0)
 have HT:Hid (fS p nr g n x=if nV p x=true then bB 8 nr else if gS p x = -1 then bB 9 nr else ⟨0,gS p x,false,n,D1 g n (p.s (gS p x).toNat),nr⟩):=hid rfl
 have nw:Hid (nV p x=(((x.gd 0 != 1&&x.gd 0 != 2) || num x.gd 4 4 != p.a) || num x.gd 16 2 != p.p)):=hid rfl
 have j9:Hid (gS p x = -1∨∃k:Nat,k<64∧gS p x=k):=hid (Bj p x)
 have Cf:Hid (gS p x=cF p (jI (dV p (num x.gd 8 4) (num x.gd 18 2))).toNat):=hid rfl
 obtain ⟨bD,oD,rfl⟩:=hD.addr (by omega)
 have fV:=hid (fun (w':World) (hb:Below w.heap.size w w') (a m:Nat) (hm:m≤4) (h:a+m≤x.nd)=>aX (some ⟨bD,oD,none⟩) x.nd cD x.gd w' (HD.out w' hb) hd6 a m hm h (by omega))
 have vV:Hid (num (aN g) 10 2≤65534):=hid (by rw[ly (g':=g) (fun j q1 q2=>iA (by omega) (by omega))];exact hlo)
 have S0:Hid (HS [] w w []):=hid HS.start
 clear m3 hS hX hD hE h3 h1 hx jb b4 b16 b8 b18 bd l1 l2 l3 l4 l5 l6 l7 l8 l9 m1 m2 p1 p2 p3 p4 p5 hc hg hd6 hlo
 go_enter Tryz.func50,Tryz.ntmps50
 go_upto_region 1 with (first | ((with_reducible refine ah ?_);refine ay rfl (fi (l:=[x.kind,x.life,x.piece,x.src,x.dst,x.fp,x.tp,x.flags,x.label,x.bare,x.code,.slice AO x.no cO,.slice (some ⟨bD,oD,none⟩) x.nd cD]) rfl rfl (by simp) S0.out ?_);intro E w_ hZ _;have S1:=hid hZ;clear hZ) | ((with_reducible refine ah ?_);refine ay rfl (bw rfl (uA _) (by simp) S1.out ?_);intro U w_ hZ _;have S2:=hid hZ;clear hZ))
 obtain ⟨y0,y1,y2,y3,y4,y5,y6,y7,y8,y9,al,ak,aj⟩:=(S2.out.ce 1 rfl).c13
 go_upto_region 2 with (fail)
 clear y0 y1 y2 y3 y4 y5 y6 y7 y8 y9 al ak aj
 have i1:(0:Int)<(x.nd:Int):=by have:=jd.out;omega
 have QT:0<x.nd:=by omega
 go_cut [40] from 11 to 39 (fun s wx=>s =.bool (nV p x)∧HS [] w wx [aw U [(),(),false,.slice none 0 0],aw E [x.kind,x.life,x.piece,x.src,x.dst,x.fp,x.tp,x.flags,x.label,x.bare,x.code,.slice AO x.no cO,.slice (some ⟨bD,oD,none⟩) x.nd cD]])
 case first=>
  refine wp_region_held_drew (S:=fun (w':World)=>HS [] w w' [aw U [(),(),false,.slice none 0 0],aw E [x.kind,x.life,x.piece,x.src,x.dst,x.fp,x.tp,x.flags,x.label,x.bare,x.code,.slice AO x.no cO,.slice (some ⟨bD,oD,none⟩) x.nd cD]]) (by kernel_rfl) ?_ (fun hHeld=>?_)
  ·exact S2.out.drew
  cases b1:(x.gd 0 != 1)
  ·refine ae 0 hHeld ?_
   refine ae 1 hHeld ?_
   refine ae 2 hHeld ?_ (hy:=by intro w hSw;(try dsimp only at hSw);have e0:=(HD.out _ hSw.bl).at_ (j:=0) (by have:=jd.out;omega);rw[Nat.add_zero]at e0;go_simp;(try with_reducible rfl))
   refine ae 3 hHeld ?_
   refine ae 4 hHeld ?_
   refine aW 5 hHeld ?_
   refine aW 6 hHeld ?_
   refine aW 7 hHeld ?_
   refine aW 8 hHeld ?_
   refine ae 9 hHeld ?_
   refine ae 10 hHeld ?_
   refine ae 11 hHeld ?_
   refine ae 13 hHeld ?_
   refine ae 14 hHeld ?_
   refine ae 15 hHeld ?_
   refine ae 16 hHeld ?_
   refine ae 17 hHeld ?_ (hy:=by intro w hSw;(try dsimp only at hSw);have q1:=(SA.out.below hSw.bl).ca;have q2:=(SA.out.below hSw.bl).cp;have q3:=(SA.out.below hSw.bl).cw;go_simp;(try with_reducible rfl))
   refine only 12 rfl (by kernel_rfl) rfl (fun K hK=>?_)
   go_simp
   refine(fV.out _ hHeld.bl 4 4 (by omega) (by have:=jd.out;omega)).mono ?_
   rintro e w3 ⟨rfl,rfl⟩
   try go_wp2_with fail
   refine hK.out _ _ hHeld (fun h4=>?_)
   clear hK
   try simp only[Act.put,zA,zB,zC]
   cases b3:(num x.gd 4 4 != p.a)
   ·clear hHeld;have hHeld:=h4;clear h4
    refine ae 18 hHeld ?_
    refine ae 19 hHeld ?_
    refine ae 20 hHeld ?_
    refine ae 21 hHeld ?_
    refine ae 23 hHeld ?_
    refine ae 24 hHeld ?_
    refine ae 25 hHeld ?_
    refine ae 26 hHeld ?_
    refine ae 27 hHeld ?_ (hy:=by intro w hSw;(try dsimp only at hSw);have q1:=(SA.out.below hSw.bl).ca;have q2:=(SA.out.below hSw.bl).cp;have q3:=(SA.out.below hSw.bl).cw;go_simp;(try with_reducible rfl))
    refine only 22 rfl (by kernel_rfl) rfl (fun K hK=>?_)
    go_simp
    refine(fV.out _ hHeld.bl 16 2 (by omega) (by have:=jd.out;omega)).mono ?_
    exact qJG
   clear hHeld;have hHeld:=h4;clear h4
   refine ae 18 hHeld ?_
   refine ae 19 hHeld ?_
   refine ae 20 hHeld ?_
   exact qJL
  cases b2:(x.gd 0 != 2)
  ·refine ae 0 hHeld ?_
   refine ae 1 hHeld ?_
   refine ae 2 hHeld ?_ (hy:=by intro w hSw;(try dsimp only at hSw);have e0:=(HD.out _ hSw.bl).at_ (j:=0) (by have:=jd.out;omega);rw[Nat.add_zero]at e0;go_simp;(try with_reducible rfl))
   refine ae 3 hHeld ?_
   refine ae 4 hHeld ?_
   refine ae 5 hHeld ?_
   refine ae 6 hHeld ?_
   refine ae 7 hHeld ?_ (hy:=by intro w hSw;(try dsimp only at hSw);have e0:=(HD.out _ hSw.bl).at_ (j:=0) (by have:=jd.out;omega);rw[Nat.add_zero]at e0;go_simp;(try with_reducible rfl))
   refine ae 8 hHeld ?_
   refine ae 9 hHeld ?_
   refine ae 10 hHeld ?_
   refine ae 11 hHeld ?_
   refine ae 13 hHeld ?_
   refine ae 14 hHeld ?_
   refine ae 15 hHeld ?_
   refine ae 16 hHeld ?_
   refine ae 17 hHeld ?_ (hy:=by intro w hSw;(try dsimp only at hSw);have q1:=(SA.out.below hSw.bl).ca;have q2:=(SA.out.below hSw.bl).cp;have q3:=(SA.out.below hSw.bl).cw;go_simp;(try with_reducible rfl))
   refine only 12 rfl (by kernel_rfl) rfl (fun K hK=>?_)
   go_simp
   refine(fV.out _ hHeld.bl 4 4 (by omega) (by have:=jd.out;omega)).mono ?_
   rintro e w3 ⟨rfl,rfl⟩
   try go_wp2_with fail
   refine hK.out _ _ hHeld (fun h4=>?_)
   clear hK
   try simp only[Act.put,zA,zB,zC]
   cases b3:(num x.gd 4 4 != p.a)
   ·clear hHeld;have hHeld:=h4;clear h4
    refine ae 18 hHeld ?_
    refine ae 19 hHeld ?_
    refine ae 20 hHeld ?_
    refine ae 21 hHeld ?_
    refine ae 23 hHeld ?_
    refine ae 24 hHeld ?_
    refine ae 25 hHeld ?_
    refine ae 26 hHeld ?_
    refine ae 27 hHeld ?_ (hy:=by intro w hSw;(try dsimp only at hSw);have q1:=(SA.out.below hSw.bl).ca;have q2:=(SA.out.below hSw.bl).cp;have q3:=(SA.out.below hSw.bl).cw;go_simp;(try with_reducible rfl))
    refine only 22 rfl (by kernel_rfl) rfl (fun K hK=>?_)
    go_simp
    refine(fV.out _ hHeld.bl 16 2 (by omega) (by have:=jd.out;omega)).mono ?_
    exact qJT
   clear hHeld;have hHeld:=h4;clear h4
   refine ae 18 hHeld ?_
   refine ae 19 hHeld ?_
   refine ae 20 hHeld ?_
   exact qJR
  refine ae 0 hHeld ?_
  refine ae 1 hHeld ?_
  refine ae 2 hHeld ?_ (hy:=by intro w hSw;(try dsimp only at hSw);have e0:=(HD.out _ hSw.bl).at_ (j:=0) (by have:=jd.out;omega);rw[Nat.add_zero]at e0;go_simp;(try with_reducible rfl))
  refine ae 3 hHeld ?_
  refine ae 4 hHeld ?_
  refine ae 5 hHeld ?_
  refine ae 6 hHeld ?_
  refine ae 7 hHeld ?_ (hy:=by intro w hSw;(try dsimp only at hSw);have e0:=(HD.out _ hSw.bl).at_ (j:=0) (by have:=jd.out;omega);rw[Nat.add_zero]at e0;go_simp;(try with_reducible rfl))
  refine ae 8 hHeld ?_
  refine ae 9 hHeld ?_
  refine ae 10 hHeld ?_
  refine aW 11 hHeld ?_
  refine aW 12 hHeld ?_
  refine aW 13 hHeld ?_
  refine aW 14 hHeld ?_
  refine aW 15 hHeld ?_
  refine aW 16 hHeld ?_
  refine aW 17 hHeld ?_
  refine aW 18 hHeld ?_
  refine ae 19 hHeld ?_
  refine ae 20 hHeld ?_
  exact qX7
 obtain ⟨rfl,hz⟩:=hcut
 have S3:=hid hz
 clear hz S2 S1 S0
 obtain ⟨bb,hbb⟩:∃bb,bb=nV p x:=⟨_,rfl⟩
 rw[←hbb]at HT ⊢
 clear hbb nw
 cases bb
 ·go_upto_region 4 with (fail)
  refine wp_region_held_drew (S:=fun (w':World)=>HS [] w w' [aw U [(),(),false,.slice none 0 0],aw E [x.kind,x.life,x.piece,x.src,x.dst,x.fp,x.tp,x.flags,x.label,x.bare,x.code,.slice AO x.no cO,.slice (some ⟨bD,oD,none⟩) x.nd cD]]) (by kernel_rfl) ?_ (fun hHeld=>?_)
  ·exact S3.out.drew
  refine ae 0 hHeld ?_
  refine ae 1 hHeld ?_
  refine ae 2 hHeld ?_
  refine ae 3 hHeld ?_ (hy:=by intro w hSw;(try dsimp only at hSw);have q1:=(SA.out.below hSw.bl).ca;have q2:=(SA.out.below hSw.bl).cp;have q3:=(SA.out.below hSw.bl).cw;go_simp;(try with_reducible rfl))
  refine ae 4 hHeld ?_
  refine ae 6 hHeld ?_
  refine ae 8 hHeld ?_
  refine ae 9 hHeld ?_
  refine ae 10 hHeld ?_
  refine ae 11 hHeld ?_
  refine ae 12 hHeld ?_ (hy:=by intro w hSw;(try dsimp only at hSw);have q1:=(SA.out.below hSw.bl).ca;have q2:=(SA.out.below hSw.bl).cp;have q3:=(SA.out.below hSw.bl).cw;go_simp;(try with_reducible rfl))
  refine ae 13 hHeld ?_
  refine ae 14 hHeld ?_
  refine ae 15 hHeld ?_
  refine ae 16 hHeld ?_
  refine ae 17 hHeld ?_ (hy:=by intro w hSw;(try dsimp only at hSw);have q1:=(SA.out.below hSw.bl).ca;have q2:=(SA.out.below hSw.bl).cp;have q3:=(SA.out.below hSw.bl).cw;go_simp;(try with_reducible rfl))
  refine only 5 rfl (by kernel_rfl) rfl (fun K hK=>?_)
  go_simp
  refine(fV.out _ hHeld.bl 8 4 (by omega) (by have:=jd.out;omega)).mono ?_
  rintro e w3 ⟨rfl,rfl⟩
  try go_wp2_with fail
  refine hK.out _ _ hHeld (fun h3=>?_)
  clear hK
  try simp only[Act.put,zA,zB,zC]
  clear hHeld
  refine only 7 rfl (by kernel_rfl) rfl (fun K hK=>?_)
  go_simp
  refine(fV.out _ h3.bl 18 2 (by omega) (by have:=jd.out;omega)).mono ?_
  rintro e w3 ⟨rfl,rfl⟩
  try go_wp2_with fail
  refine hK.out _ _ h3 (fun h4=>?_)
  clear hK
  try simp only[Act.put,zA,zB,zC]
  clear h3
  refine ae 18 h4 ?_
  refine only 19 rfl (by kernel_rfl) rfl (fun K hK=>?_)
  go_simp
  refine(PK.out _ (hid (SA.out.below h4.bl).wh.slice)).mono ?_
  rintro e w4 ⟨rfl,hb⟩
  rw[←Cf.out]
  try go_wp2_with fail
  refine hK.out _ _ (h4.below hb) (fun h5=>?_)
  clear hK hb h4
  try simp only[Act.put,zA,zB,zC]
  refine ae 20 h5 ?_
  have S5:=hid h5
  clear h5 S3
  refine wpAnyH_done (by kernel_rfl) ?_ _
  obtain ⟨sl,hsl⟩:∃sl,sl=gS p x:=⟨_,rfl⟩
  rw[←hsl]at HT j9 ⊢
  clear hsl Cf
  rcases j9.out with rfl |⟨k,hk,rfl⟩
  ·have HR:Hid (fS p nr g n x=bB 9 nr):=hid (by rw[HT.out,if_neg (by simp),if_pos rfl])
   clear HT j9
   go_wp2_with fail
   refine(gm 9 _).mono ?_
   rintro e gL ⟨rfl,hb⟩
   have dA:=hid (S5.out.below hb)
   clear hb S5
   unfold eN
   go_simp
   go_wp2_with (((with_reducible refine ah ?_);refine ay rfl (aB (A:=[]) [.int .i64 9,.int .i64 (-1),false,.slice none 0 0] rfl rfl (rfl) dA.out rfl dQ rfl ?_);intro w_ hZ;have aK:=hid hZ;clear hZ;(first |refine aJ ?_ |refine aR ?_);apply_assumption;refine wp_ret ?_;(repeat (first |refine aI ?_ |refine dL ?_));(show bodyPost _ _ _ _ _ _);exact bodyPost_ret (v:=.agg ([.int .i64 9,.int .i64 (-1),false,.slice none 0 0]:List Value).toArray) (aS Tryz.results50 _ rfl (aK.out.ce 0 rfl) Tryz.underlying48 rfl dQ) rfl (by rw[HR.out];exact⟨none,0,rfl,OB.nil,Nat.le_refl _,SA.out.below aK.out.bl,Ch.of_below aK.out.bl⟩)))
  have HR2:Hid (fS p nr g n x=⟨0,(k:Int),false,n,cB (cB (eS (aN g) n (p.s k).ad) n (24:Int).toNat (4:Int).toNat (p.s k).ad) n (36:Int).toNat (2:Int).toNat (p.s k).po,nr⟩):=hid (by rw[HT.out,if_neg (by simp),if_neg (by omega)];rfl)
  clear HT j9
  have Ig:¬(k:Int)<0:=by omega
  have i0:(0:Int)≤k:=by omega
  have i1:(k:Int)<64:=by omega
  go_wp2_with fail
  refine(iR (qV X n c g _ (HX.out _ S5.out.bl) HG.out HC.out gX) AG.out).mono ?_
  rintro e w9 ⟨X1,c1,rfl,hO,hc1,hb⟩
  have S9:=hid (S5.out.lO hb hO)
  have pN:=hid hc1
  clear hO hb hc1 S5
  go_simp
  obtain ⟨a0,a1,a2,a3,a4⟩:=(SA.out.below S9.out.bl).s5 k hk
  go_wp2_with fail
  refine(Hb X1 n c1 (aN g) _ (Ow.sl1 (S9.out.nth 0 rfl)) (FS.out k hk).1.2.2 pN.out gX (FS.out k hk).1.1 (FS.out k hk).1.2.1 vV.out (p.s k).ad (PB.out k hk).1).mono ?_
  rintro e ea ⟨X2,c2,rfl,hO,hc2,hb⟩
  have eo:=hid (S9.out.lO hb hO)
  have cI:=hid hc2
  clear hO hb hc2 S9 a0 a1 a2 a3 a4
  go_simp
  obtain ⟨a0,a1,a2,a3,a4⟩:=(SA.out.below eo.out.bl).s5 k hk
  go_wp2_with fail
  refine(iR (jH X2 n c2 _ _ (Ow.sl1 (eo.out.nth 0 rfl)) (FS.out k hk).2.1.1 cI.out gX 24 4 (p.s k).ad ⟨by omega,by omega⟩) (FS.out k hk).2.1.2).mono ?_
  rintro e li ⟨X3,c3,rfl,hO,hc3,hb⟩
  have dT:=hid (eo.out.lO hb hO)
  have me:=hid hc3
  clear hO hb hc3 eo a0 a1 a2 a3 a4
  go_simp
  obtain ⟨a0,a1,a2,a3,a4⟩:=(SA.out.below dT.out.bl).s5 k hk
  go_wp2_with fail
  refine(iR (jH X3 n c3 _ _ (Ow.sl1 (dT.out.nth 0 rfl)) (FS.out k hk).2.2.1 me.out gX 36 2 (p.s k).po ⟨by omega,by omega⟩) (FS.out k hk).2.2.2).mono ?_
  rintro e og ⟨X4,c4,rfl,hO,hc4,hb⟩
  have iN:=hid (dT.out.lO hb hO)
  have xO:=hid hc4
  clear hO hb hc4 dT a0 a1 a2 a3 a4
  go_simp
  go_wp2_with (((with_reducible refine ah ?_);refine ay rfl (aB (A:=[bU w.heap.size 5 1 (.slice X4 n c4) n (fun j=>.int .u8 (cB (cB (eS (aN g) n (p.s k).ad) n (24:Int).toNat (4:Int).toNat (p.s k).ad) n (36:Int).toNat (2:Int).toNat (p.s k).po j)),bU w.heap.size 5 1 (.slice X3 n c3) n (fun j=>.int .u8 (cB (eS (aN g) n (p.s k).ad) n (24:Int).toNat (4:Int).toNat (p.s k).ad j)),bU w.heap.size 5 1 (.slice X2 n c2) n (fun j=>.int .u8 (eS (aN g) n (p.s k).ad j)),bU w.heap.size 5 1 (.slice X1 n c1) n (fun j=>.int .u8 (aN g j))]) [(),(k:Int),false,.slice X4 n c4] rfl rfl (rfl) iN.out rfl dQ rfl ?_);intro w_ hZ;have aK:=hid hZ;clear hZ;(first |refine aJ ?_ |refine aR ?_);apply_assumption;refine wp_ret ?_;(repeat refine aI ?_);(show bodyPost _ _ _ _ _ _);exact bodyPost_ret (v:=.agg ([(),(k:Int),false,.slice X4 n c4]:List Value).toArray) (aS Tryz.results50 _ rfl (aK.out.ce 4 rfl) Tryz.underlying48 rfl dQ) rfl (by rw[HR2.out];exact⟨X4,c4,rfl,aK.out.nth 0 rfl,xO.out,SA.out.below aK.out.bl,Ch.of_below aK.out.bl⟩)))
 have HR:Hid (fS p nr g n x=bB 8 nr):=hid (by rw[HT.out,if_pos rfl])
 clear HT j9
 go_wp2_with fail
 refine(gm 8 _).mono ?_
 rintro e gL ⟨rfl,hb⟩
 have dA:=hid (S3.out.below hb)
 clear hb S3
 unfold eN
 go_simp
 go_wp2_with (((with_reducible refine ah ?_);refine ay rfl (aB (A:=[]) [.int .i64 8,.int .i64 (-1),false,.slice none 0 0] rfl rfl (rfl) dA.out rfl dQ rfl ?_);intro w_ hZ;have aK:=hid hZ;clear hZ;(first |refine aJ ?_ |refine aR ?_);apply_assumption;refine wp_ret ?_;(repeat (first |refine aI ?_ |refine dL ?_));(show bodyPost _ _ _ _ _ _);exact bodyPost_ret (v:=.agg ([.int .i64 8,.int .i64 (-1),false,.slice none 0 0]:List Value).toArray) (aS Tryz.results50 _ rfl (aK.out.ce 0 rfl) Tryz.underlying48 rfl dQ) rfl (by rw[HR.out];exact⟨none,0,rfl,OB.nil,Nat.le_refl _,SA.out.below aK.out.bl,Ch.of_below aK.out.bl⟩)))
end Go.Proofs.YtalnfkijiehjhaaGreat
namespace Go.Proofs.YtalnfkijiehjhaaGreat
open List renaming setIfInBounds_toArray→zA,set_cons_zero→zB,set_cons_succ→zC
set_option linter.unusedVariables false
set_option linter.unusedSimpArgs false
open Go.RowKit Go.ChangeShapes Go.WideShapes Go.ChangeAt
set_option maxRecDepth 100000
theorem HS.xV {W w1 w2:World}{L:List Th}{pb wb:Nat}{p:Pl}{nr:Nat→Option Int}{t:To}{e:Ending}(h:HS [] W w1 L)(hpw:pb≠wb)(hR:fy W pb wb p nr)(hT:sd w1 pb wb p t e w2) :
 ∃X c,e =.returned (eN t.d t.s t.c (.slice X t.n c))∧HS [pb] W w2 (bU W.heap.size 5 1 (.slice X t.n c) t.n (fun j=>.int .u8 (t.f j))::aD pb 460 (fN true p (gU wb) t.nr)::L)∧t.n≤c:=by
 obtain ⟨X,c,he,hO,hc,hF2,hch⟩:=hT
 refine⟨X,c,he,?_,hc⟩
 have hA:=HS.yO h (aD pb 460 (fN true p (gU wb) nr)) ((hR.below h.bl).fb) (by simp[aD]) (fun b hb=>by simp[aD]at hb;subst hb;exact hR.fb.1)
 have h2:=HS.sB (A:=[]) hA (aD pb 460 (fN true p (gU wb) t.nr)) (bU W.heap.size 5 1 (.slice X t.n c) t.n (fun j=>.int .u8 (t.f j))) rfl hch hF2.fb (OB.base hO h.jf) (by unfold bU;dsimp only;cases (Value.slice X t.n c).ownBlock <;> simp) (fun b hb=>(World.ownsRow.lt hO b (by simpa [bU]using hb)).1)
 exact h2
theorem KU {S:List Nat}{W w:World}{L:List Th}(hS:HS S W w L)(g:Nat→Int)(n:Nat)(hg:aC g)(hn:n≤1000000)(A:Option Addr)(c:Nat)(hc:n≤c)(h:By w A n g)(p:Pk)(hp:p=ax g n)(E:Int)(hE:E=az g n) :
 Calls Tryz.prog 19 #[.slice A n c] w fun e w'=>∃AO cO AD cD,e =.returned (.tuple #[.agg #[p.kind,p.life,p.piece,p.src,p.dst,p.fp,p.tp,p.flags,p.label,p.bare,p.code,.slice AO p.no cO,.slice AD p.nd cD],E])∧HS S W w' (dN 0 (.slice AO p.no cO) (.slice AD p.nd cD) p.no p.nd p.go p.gd::L)∧p.no≤cO∧p.nd≤cD:=by
 subst hp hE
 refine(hH A n c g w h hg hc hn).mono ?_
 rintro e w' ⟨O,D,rfl,hO,hD,hb⟩
 obtain ⟨AO,cO,rfl,h1,_⟩:=hO.aF
 obtain ⟨AD,cD,rfl,h2,_⟩:=hD.aF
 exact⟨AO,cO,AD,cD,rfl,hS.newP hb hO hD,h1,h2⟩
theorem Dc (p:Pl)(a q:Int)(w:World):Calls Tryz.prog 52 #[.agg (FA 330 (_root_.Go.Proofs.YtalnfkijiehjhaaGreat.pc p)),a,q] w fun x w'=>x =.returned (xC (fu p a q))∧Below w.heap.size w w':=Aa p a q w
attribute [local irreducible] FA FL
theorem qXJ{P:Prop}(h:P:=by
 go_wp2_with fail
 refine(gm 8 _).mono ?_
 rintro e gL ⟨rfl,hb⟩
 have dA:=hid (S8.out.below hb)
 clear hb S8
 unfold eN
 go_simp
 go_wp2_with (((with_reducible refine ah ?_);refine ay rfl (aB (A:=[aw E1 [x.kind,x.life,x.piece,x.src,x.dst,x.fp,x.tp,x.flags,x.label,x.bare,x.code,.slice AO x.no cO,.slice AD x.nd cD],dN 0 (.slice AO x.no cO) (.slice AD x.nd cD) x.no x.nd x.go x.gd]) [.int .i64 8,.int .i64 (-1),false,.slice none 0 0] rfl rfl (rfl) dA.out rfl dQ rfl ?_);intro w_ hZ;have aK:=hid hZ;clear hZ;(first |refine aJ ?_ |refine aR ?_);apply_assumption;refine wp_ret ?_;(repeat (first |refine aI ?_ |refine dL ?_));(show bodyPost _ _ _ _ _ _);exact bodyPost_ret (v:=.agg ([.int .i64 8,.int .i64 (-1),false,.slice none 0 0]:List Value).toArray) (aS Tryz.results17 _ rfl (aK.out.ce 2 rfl) Tryz.underlying48 rfl dQ) rfl (by rw[HR.out];exact⟨none,0,rfl,OB.nil,Nat.le_refl _,SA.out.below aK.out.bl,Ch.of_below aK.out.bl⟩)))
 ):P:=h
theorem qQ0{P:Prop}(h:P:=by
 have dA:=hid hz
 have pM:=hid jZ
 clear hz hT jZ y0 y1 y2 y3 y4 y5 y6 y7 y8 y9 al ak aj
 unfold eN
 go_simp
 go_wp2_with (((with_reducible refine ah ?_);refine ay rfl (aB (A:=[bU w.heap.size 5 1 (.slice X9 t.n c9) t.n (fun j=>.int .u8 (t.f j)),aD pb 460 (fN true p (gU wb) t.nr),aw E1 [x.kind,x.life,x.piece,x.src,x.dst,x.fp,x.tp,x.flags,x.label,x.bare,x.code,.slice AO x.no cO,.slice AD x.nd cD],dN 0 (.slice AO x.no cO) (.slice AD x.nd cD) x.no x.nd x.go x.gd]) [t.d,t.s,t.c,.slice X9 t.n c9] rfl rfl (rfl) dA.out rfl dQ rfl ?_);intro w_ hZ;have aK:=hid hZ;clear hZ;(first |refine aJ ?_ |refine aR ?_);apply_assumption;refine wp_ret ?_;(repeat (first |refine aI ?_ |refine dL ?_));(show bodyPost _ _ _ _ _ _);exact bodyPost_ret (v:=.agg ([t.d,t.s,t.c,.slice X9 t.n c9]:List Value).toArray) (aS Tryz.results17 _ rfl (aK.out.ce 4 rfl) Tryz.underlying48 rfl dQ) rfl ⟨X9,c9,rfl,aK.out.nth 0 rfl,pM.out,⟨aK.out.fb 1 rfl,aK.out.ch.ia SA.out.wh (by simp;exact fun h=>g8.out h.symm)⟩,aK.out.ch⟩))
 ):P:=h
set_option maxHeartbeats 8000000 in
theorem yb (p:Pl)(pb wb:Nat)(nr:Nat→Option Int)(g:Nat→Int)(n c:Nat)(X:Option Addr)(w:World)(hg:aC g)(hn:n≤1000000)(hp:Pt p)(hlo:p.a%65536≤65534)(hnr:iP nr)(hpw:pb≠wb)(hS:fy w pb wb p nr)(hX:By w X n g)(hc:n≤c) :
 Calls Tryz.prog 17 #[.pointer (some ⟨pb,0,none⟩),.slice X n c] w (sd w pb wb p (cY p true nr g n)):=by
 obtain ⟨E,hE⟩:∃E,E=az g n:=⟨_,rfl⟩
 obtain ⟨x,hx⟩:∃x,x=ax g n:=⟨_,rfl⟩
 have HT:Hid (cY p true nr g n=if E≠0 then bB E nr else if x.piece≠0 then bB 6 nr else if x.life≤1 then bB 7 nr else if x.dst=p.a∧x.kind=3 then fS p nr g n x else if x.dst=p.a∧x.tp=p.p then inT p nr g n x else if x.kind=3 then bB 8 nr else match fu p x.src x.fp with
  |none=>bB 8 nr
  |some s=>outT p nr g n x s):=hid (by rw[hE,hx];rfl)
 have SA:=hid hS
 have HX:=hid (fun (w':World) (hb:Below w.heap.size w w')=>(show By w' X n g from Sl.below hX hb (Nat.le_refl _)))
 have FD:=hid (fun w=>Dc p x.src x.fp w)
 have PS:=hid (fun (L:List Th) (w':World) (hS:HS [] w w' L)=>KU hS g n hg hn X c hc (Sl.below hX hS.bl (Nat.le_refl _)) x hx E hE)
 have RI:=hid (fun (hE0:E=0) (h1:1<x.life) (h3:x.kind≠3) (AO AD:Option Addr) (cO cD:Nat) (gI:x.no≤cO) (w':World) (hS:fy w' pb wb p nr) (hX:By w' X n g) (hB:By w' AO x.no x.go)=>Db p pb wb nr g n c x X AO cO AD cD w' hx hg (by rw[←hE];exact hE0) (by rw[←(ew hg (by rw[←hE];exact hE0)).2.2.2.1,←hx];exact h1) (by rw[←(ew hg (by rw[←hE];exact hE0)).2.2.1,←hx];exact h3) hp hnr hS hX hc hB gI)
 have RO:=hid (fun (hE0:E=0) (h1:1<x.life) (h3:x.kind≠3) (s:Nat) (hs:s<64) (AO AD:Option Addr) (cO cD:Nat) (gI:x.no≤cO) (w':World) (hS:fy w' pb wb p nr) (hX:By w' X n g) (hB:By w' AO x.no x.go)=>zP p pb wb nr g n c x X AO cO AD cD s hs w' hx hg (by rw[←hE];exact hE0) (by rw[←(ew hg (by rw[←hE];exact hE0)).2.2.2.1,←hx];exact h1) (by rw[←(ew hg (by rw[←hE];exact hE0)).2.2.1,←hx];exact h3) hp hpw hS hX hc hB gI)
 have RF:=hid (fun (hE0:E=0) (h1:1<x.life) (h3:x.kind=3) (hd:x.dst=p.a) (AO AD:Option Addr) (cO cD:Nat) (rU:x.nd≤cD) (w':World) (hS:fy w' pb wb p nr) (hX:By w' X n g) (hD:By w' AD x.nd x.gd)=>Ab p pb wb nr g n c x X AO cO AD cD w' hx hg (by rw[←hE];exact hE0) (by rw[←(ew hg (by rw[←hE];exact hE0)).2.2.2.1,←hx];exact h1) (by rw[←(ew hg (by rw[←hE];exact hE0)).2.2.1,←hx];exact h3) (by
  have hp0:az g n=0:=by rw[←hE];exact hE0
  have e8:x.dst=num g 8 4:=by rw[hx];unfold ax;rw[if_pos hp0];unfold eY;split;rfl;split <;> rfl
  replace e8:x.dst=((g 8*256+g 9)*256+g 10)*256+g 11:=e8.trans (yo g 8)
  have b2:num g 10 2=g 10*256+g 11:=iB g 10
  have h10:=hg 10
  have h11:=hg 11
  rw[←hd,e8]at hlo
  rw[b2]
  omega) hp hS hX hc hD rU)
 have g8:=hid hpw
 have S0:Hid (HS [] w w []):=hid HS.start
 clear hS hX hp hnr hlo hg hE hx hpw hc hn
 obtain ⟨t,ht⟩:∃t,t=cY p true nr g n:=⟨_,rfl⟩
 have k6:=hid (ht.trans HT.out)
 rw[←ht]
 clear ht HT
 go_enter Tryz.func17,Tryz.ntmps17
 go_upto_region 1 with (((with_reducible refine ah ?_);refine ay rfl (bw rfl (uA _) (by simp) S0.out ?_);intro U w_ hZ _;have S1:=hid hZ;clear hZ))
 have c0:=(SA.out.below S1.out.bl).c0
 go_wp2_with fail
 refine(PS.out _ _ S1.out).mono ?_
 rintro e w2 ⟨AO,cO,AD,cD,rfl,hz,gI,rU⟩
 have S2:=hid hz
 have pL:=hid gI
 have Fj:=hid rU
 clear hz gI rU c0 S0 S1 PS
 go_simp
 go_upto_region 4 with (first | ((with_reducible refine ah ?_);refine ay rfl (bw rfl (oB _) (by simp) S2.out ?_);intro E1 w_ hZ _;have S3:=hid hZ;clear hZ) | ((with_reducible refine ah ?_);refine ay rfl (aB (A:=[]) [x.kind,x.life,x.piece,x.src,x.dst,x.fp,x.tp,x.flags,x.label,x.bare,x.code,.slice AO x.no cO,.slice AD x.nd cD] rfl rfl (rfl) S3.out rfl jt rfl ?_);intro w_ hZ;have S4:=hid hZ;clear hZ))
 obtain ⟨y0,y1,y2,y3,y4,y5,y6,y7,y8,y9,al,ak,aj⟩:=(S4.out.ce 0 rfl).c13
 clear S2 S3
 cases e0:(E != 0)
 ·replace e0:E=0:=by simpa using e0
  have vO:=hid (RI.out e0)
  have vN:=hid (RO.out e0)
  have xI:=hid (RF.out e0)
  have HR1:Hid (t=if x.piece≠0 then bB 6 nr else if x.life≤1 then bB 7 nr else if x.dst=p.a∧x.kind=3 then fS p nr g n x else if x.dst=p.a∧x.tp=p.p then inT p nr g n x else if x.kind=3 then bB 8 nr else match fu p x.src x.fp with
   |none=>bB 8 nr
   |some s=>outT p nr g n x s):=hid (by rw[k6.out,if_neg (by simpa using e0)])
  subst e0
  clear k6 RI RO RF
  cases e2:(x.piece != 0)
  ·replace HR1:Hid (t=if x.life≤1 then bB 7 nr else if x.dst=p.a∧x.kind=3 then fS p nr g n x else if x.dst=p.a∧x.tp=p.p then inT p nr g n x else if x.kind=3 then bB 8 nr else match fu p x.src x.fp with
   |none=>bB 8 nr
   |some s=>outT p nr g n x s):=hid (by rw[HR1.out,if_neg (by simpa using e2)])
   by_cases e1:x.life<2
   ·have HR:Hid (t=bB 7 nr):=hid (by rw[HR1.out,if_pos (by omega)])
    go_wp2_with fail
    refine(gm 7 _).mono ?_
    rintro e gL ⟨rfl,hb⟩
    have dA:=hid (S4.out.below hb)
    clear hb S4
    unfold eN
    go_simp
    go_wp2_with (((with_reducible refine ah ?_);refine ay rfl (aB (A:=[aw E1 [x.kind,x.life,x.piece,x.src,x.dst,x.fp,x.tp,x.flags,x.label,x.bare,x.code,.slice AO x.no cO,.slice AD x.nd cD],dN 0 (.slice AO x.no cO) (.slice AD x.nd cD) x.no x.nd x.go x.gd]) [.int .i64 7,.int .i64 (-1),false,.slice none 0 0] rfl rfl (rfl) dA.out rfl dQ rfl ?_);intro w_ hZ;have aK:=hid hZ;clear hZ;(first |refine aJ ?_ |refine aR ?_);apply_assumption;refine wp_ret ?_;(repeat (first |refine aI ?_ |refine dL ?_));(show bodyPost _ _ _ _ _ _);exact bodyPost_ret (v:=.agg ([.int .i64 7,.int .i64 (-1),false,.slice none 0 0]:List Value).toArray) (aS Tryz.results17 _ rfl (aK.out.ce 2 rfl) Tryz.underlying48 rfl dQ) rfl (by rw[HR.out];exact⟨none,0,rfl,OB.nil,Nat.le_refl _,SA.out.below aK.out.bl,Ch.of_below aK.out.bl⟩)))
   replace HR1:Hid (t=if x.dst=p.a∧x.kind=3 then fS p nr g n x else if x.dst=p.a∧x.tp=p.p then inT p nr g n x else if x.kind=3 then bB 8 nr else match fu p x.src x.fp with
   |none=>bB 8 nr
   |some s=>outT p nr g n x s):=hid (by rw[HR1.out,if_neg (by omega)])
   replace vO:=hid (vO.out (by omega))
   replace vN:=hid (vN.out (by omega))
   replace xI:=hid (xI.out (by omega))
   go_upto_region 10 with (fail)
   have q1:=(SA.out.below S4.out.bl).ca
   have q2:=(SA.out.below S4.out.bl).cp
   obtain ⟨kf,Ls⟩:∃b,b=(x.dst==p.a&&x.kind==3):=⟨_,rfl⟩
   have xN:=hid Ls
   obtain ⟨ki,hki⟩:∃b,b=(x.dst==p.a&&x.tp==p.p&&x.kind != 3):=⟨_,rfl⟩
   have xM:=hid hki
   clear Ls hki
   go_cut [47] from 35 to 46 (fun s wx=>s =.bool kf∧HS [] w wx [aw E1 [x.kind,x.life,x.piece,x.src,x.dst,x.fp,x.tp,x.flags,x.label,x.bare,x.code,.slice AO x.no cO,.slice AD x.nd cD],dN 0 (.slice AO x.no cO) (.slice AD x.nd cD) x.no x.nd x.go x.gd,aw U [(),(),false,.slice none 0 0]])
   case first=>
    cases b1:(x.dst==p.a) <;> cases b2:(x.kind==3)
    all_goals
     go_quiet (fail)
     go_wp2_with fail
     go_meet
     exact⟨by rw[xN.out,b1,b2];rfl,by first |exact S4.out |exact S4.out.drewN _⟩
   obtain ⟨rfl,hz⟩:=hcut
   have S5:=hid hz
   clear hz S4 y0 y1 y2 y3 y4 y5 y6 y7 y8 y9 al ak aj q1 q2
   obtain ⟨y0,y1,y2,y3,y4,y5,y6,y7,y8,y9,al,ak,aj⟩:=(S5.out.ce 0 rfl).c13
   cases kf
   ·have HR2:Hid (t=if x.dst=p.a∧x.tp=p.p then inT p nr g n x else if x.kind=3 then bB 8 nr else match fu p x.src x.fp with
    |none=>bB 8 nr
    |some s=>outT p nr g n x s):=hid (by rw[HR1.out,if_neg];intro h;have:=xN.out;simp[h]at this)
    have sq:Hid (x.dst=p.a→x.kind≠3):=hid (fun h1 h2=>by have:=xN.out;simp[h1,h2]at this)
    clear HR1 xN xI
    go_upto_region 12 with (fail)
    have q1:=(SA.out.below S5.out.bl).ca
    have q2:=(SA.out.below S5.out.bl).cp
    go_cut [74] from 52 to 73 (fun s wx=>s =.bool ki∧HS [] w wx [aw E1 [x.kind,x.life,x.piece,x.src,x.dst,x.fp,x.tp,x.flags,x.label,x.bare,x.code,.slice AO x.no cO,.slice AD x.nd cD],dN 0 (.slice AO x.no cO) (.slice AD x.nd cD) x.no x.nd x.go x.gd,aw U [(),(),false,.slice none 0 0]])
    case first=>
     cases b1:(x.dst==p.a) <;> cases b2:(x.tp==p.p) <;> cases b3:(x.kind != 3)
     all_goals
      go_quiet (fail)
      go_wp2_with fail
      go_meet
      exact⟨by rw[xM.out,b1,b2,b3];rfl,by first |exact S5.out |exact S5.out.drewN _⟩
    obtain ⟨rfl,hz⟩:=hcut
    have S6:=hid hz
    clear hz S5 y0 y1 y2 y3 y4 y5 y6 y7 y8 y9 al ak aj q1 q2
    obtain ⟨y0,y1,y2,y3,y4,y5,y6,y7,y8,y9,al,ak,aj⟩:=(S6.out.ce 0 rfl).c13
    cases ki
    ·have HR3:Hid (t=if x.kind=3 then bB 8 nr else match fu p x.src x.fp with
     |none=>bB 8 nr
     |some s=>outT p nr g n x s):=hid (by rw[HR2.out,if_neg];intro h;have h3:=sq.out h.1;have:=xM.out;simp[h]at this;exact h3 this)
     clear HR2 xM sq vO
     go_upto_region 14 with (fail)
     clear y0 y1 y2 y3 y4 y5 y6 y7 y8 y9 al ak aj
     refine wp_region_held_drew (S:=fun (w':World)=>HS [] w w' [aw E1 [x.kind,x.life,x.piece,x.src,x.dst,x.fp,x.tp,x.flags,x.label,x.bare,x.code,.slice AO x.no cO,.slice AD x.nd cD],dN 0 (.slice AO x.no cO) (.slice AD x.nd cD) x.no x.nd x.go x.gd,aw U [(),(),false,.slice none 0 0]]) (by kernel_rfl) ?_ (fun hHeld=>?_)
     ·exact S6.out.drew
     refine ae 0 hHeld ?_
     refine ae 1 hHeld ?_
     refine ae 2 hHeld ?_
     refine tk 3 (v:=.agg (FA 330 (_root_.Go.Proofs.YtalnfkijiehjhaaGreat.pc p))) rfl (by kernel_rfl) (by kernel_rfl) (by kernel_rfl) (fun _ _ _ h=>h) rfl (fun w hSw=>iV rfl rfl (SA.out.below hSw.bl).NM) hHeld ?_;(try simp only[Act.put,zA,zB,zC])
     refine ae 4 hHeld ?_
     refine ae 5 hHeld ?_ (hy:=by intro w hSw;(try dsimp only at hSw);obtain ⟨y0,y1,y2,y3,y4,y5,y6,y7,y8,y9,al,ak,aj⟩:=(hSw.ce 0 rfl).c13;go_simp;(try with_reducible rfl))
     refine ae 6 hHeld ?_
     refine ae 7 hHeld ?_ (hy:=by intro w hSw;(try dsimp only at hSw);obtain ⟨y0,y1,y2,y3,y4,y5,y6,y7,y8,y9,al,ak,aj⟩:=(hSw.ce 0 rfl).c13;go_simp;(try with_reducible rfl))
     refine only 8 rfl (by kernel_rfl) rfl (fun K hK=>?_)
     go_simp
     refine(FD.out _).mono ?_
     rintro e w8 ⟨rfl,hb⟩
     try go_wp2_with fail
     refine hK.out _ _ (hHeld.below hb) (fun h8=>?_)
     clear hK hb hHeld
     obtain ⟨o,ho⟩:∃o,o=fu p x.src x.fp:=⟨_,rfl⟩
     rw[←ho]at HR3 ⊢
     have J2:=hid (fun s (h:o=some s)=>xA (ho ▸ h))
     clear ho
     unfold xC
     try simp only[Act.put,zA,zB,zC]
     refine ae 9 h8 ?_
     refine ae 10 h8 ?_
     refine ae 11 h8 ?_
     refine ae 12 h8 ?_
     refine ae 13 h8 ?_
     have S8:=hid h8
     clear h8 S6 FD
     refine wpAnyH_done (by kernel_rfl) ?_ _
     obtain ⟨y0,y1,y2,y3,y4,y5,y6,y7,y8,y9,al,ak,aj⟩:=(S8.out.ce 0 rfl).c13
     cases o with
     |none=>
      have HR:Hid (t=bB 8 nr):=hid (by rw[HR3.out];split <;> rfl)
      dsimp only[Option.getD,Option.isSome]
      exact qXJ
     |some s=>
      have hs:=J2.out s rfl
      dsimp only[Option.getD,Option.isSome]
      cases b3:(x.kind==3)
      ·have HR:Hid (t=outT p nr g n x s):=hid (by rw[HR3.out,if_neg (by simpa using b3)])
       replace vN:=hid (vN.out (by simpa using b3) s hs AO AD cO cD pL.out)
       go_wp2_with fail
       refine(vN.out _ (SA.out.below S8.out.bl) (HX.out _ S8.out.bl) (S8.out.Jp 1 rfl).1).mono ?_
       intro e ea hT
       rw[←HR.out]at hT
       obtain ⟨X9,c9,rfl,hz,jZ⟩:=S8.out.xV g8.out SA.out hT
       exact qQ0
      have HR:Hid (t=bB 8 nr):=hid (by rw[HR3.out,if_pos (by simpa using b3)])
      exact qXJ
    have HR:Hid (t=inT p nr g n x):=hid (by
    have h:=xM.out.symm
    simp only[Bool.and_eq_true,beq_iff_eq]at h
    rw[HR2.out,if_pos h.1])
    have h3:x.kind≠3:=by
     have h:=xM.out.symm
     simp only[Bool.and_eq_true,beq_iff_eq,bne_iff_ne,ne_eq]at h
     exact h.2
    replace vO:=hid (vO.out h3 AO AD cO cD pL.out)
    clear HR2 xM sq vN h3
    go_wp2_with fail
    refine(vO.out _ (SA.out.below S6.out.bl) (HX.out _ S6.out.bl) (S6.out.Jp 1 rfl).1).mono ?_
    intro e ea hT
    rw[←HR.out]at hT
    obtain ⟨X9,c9,rfl,hz,jZ⟩:=S6.out.xV g8.out SA.out hT
    exact qQ0
   have hk2:=xN.out.symm
   simp only[Bool.and_eq_true,beq_iff_eq]at hk2
   have HR:Hid (t=fS p nr g n x):=hid (by rw[HR1.out,if_pos hk2])
   replace xI:=hid (xI.out hk2.2 hk2.1 AO AD cO cD Fj.out)
   clear HR1 xN vO vN hk2
   go_wp2_with fail
   refine(xI.out _ (SA.out.below S5.out.bl) (HX.out _ S5.out.bl) (S5.out.Jp 1 rfl).2).mono ?_
   intro e ea hT
   rw[←HR.out]at hT
   obtain ⟨X9,c9,rfl,hz,jZ⟩:=S5.out.xV g8.out SA.out hT
   exact qQ0
  have HR:Hid (t=bB 6 nr):=hid (by rw[HR1.out,if_pos (by simpa using e2)])
  go_wp2_with fail
  refine(gm 6 _).mono ?_
  rintro e gL ⟨rfl,hb⟩
  have dA:=hid (S4.out.below hb)
  clear hb S4
  unfold eN
  go_simp
  go_wp2_with (((with_reducible refine ah ?_);refine ay rfl (aB (A:=[aw E1 [x.kind,x.life,x.piece,x.src,x.dst,x.fp,x.tp,x.flags,x.label,x.bare,x.code,.slice AO x.no cO,.slice AD x.nd cD],dN 0 (.slice AO x.no cO) (.slice AD x.nd cD) x.no x.nd x.go x.gd]) [.int .i64 6,.int .i64 (-1),false,.slice none 0 0] rfl rfl (rfl) dA.out rfl dQ rfl ?_);intro w_ hZ;have aK:=hid hZ;clear hZ;(first |refine aJ ?_ |refine aR ?_);apply_assumption;refine wp_ret ?_;(repeat (first |refine aI ?_ |refine dL ?_));(show bodyPost _ _ _ _ _ _);exact bodyPost_ret (v:=.agg ([.int .i64 6,.int .i64 (-1),false,.slice none 0 0]:List Value).toArray) (aS Tryz.results17 _ rfl (aK.out.ce 2 rfl) Tryz.underlying48 rfl dQ) rfl (by rw[HR.out];exact⟨none,0,rfl,OB.nil,Nat.le_refl _,SA.out.below aK.out.bl,Ch.of_below aK.out.bl⟩)))
 have HR:Hid (t=bB E nr):=hid (by rw[k6.out,if_pos (by simpa using e0)])
 go_wp2_with fail
 refine(gm E _).mono ?_
 rintro e gL ⟨rfl,hb⟩
 have dA:=hid (S4.out.below hb)
 clear hb S4
 unfold eN
 go_simp
 go_wp2_with (((with_reducible refine ah ?_);refine ay rfl (aB (A:=[aw E1 [x.kind,x.life,x.piece,x.src,x.dst,x.fp,x.tp,x.flags,x.label,x.bare,x.code,.slice AO x.no cO,.slice AD x.nd cD],dN 0 (.slice AO x.no cO) (.slice AD x.nd cD) x.no x.nd x.go x.gd]) [E,.int .i64 (-1),false,.slice none 0 0] rfl rfl (rfl) dA.out rfl dQ rfl ?_);intro w_ hZ;have aK:=hid hZ;clear hZ;(first |refine aJ ?_ |refine aR ?_);apply_assumption;refine wp_ret ?_;(repeat (first |refine aI ?_ |refine dL ?_));(show bodyPost _ _ _ _ _ _);exact bodyPost_ret (v:=.agg ([E,.int .i64 (-1),false,.slice none 0 0]:List Value).toArray) (aS Tryz.results17 _ rfl (aK.out.ce 2 rfl) Tryz.underlying48 rfl dQ) rfl (by rw[HR.out];exact⟨none,0,rfl,OB.nil,Nat.le_refl _,SA.out.below aK.out.bl,Ch.of_below aK.out.bl⟩)))
end Go.Proofs.YtalnfkijiehjhaaGreat
namespace Go.Proofs.YtalnfkijiehjhaaGreat
set_option linter.unusedVariables false
set_option linter.unusedSimpArgs false
open Go.RowKit Go.ChangeShapes Go.WideShapes Go.ChangeAt
set_option maxRecDepth 100000
attribute [local irreducible] FA FL
theorem vC {S:List Nat}{W w:World}{A B:List Th}{pb:Nat}{up:Bool}{q:Pl}{v:Value}(hS:HS S W w (A++aD pb 460 (rpc up q v)::B))(p:Pl)(hp:Pw p) :
 Calls Tryz.prog 13 #[.pointer (some ⟨pb,0,none⟩),.agg (FA 330 (pc p))] w fun x w'=>∃wb,x =.returned (.tuple #[])∧pb≠wb∧HS S W w' (fM wb (cF p)::(A++aD pb 460 (fN true p (gU wb) (fun _=>none))::B)):=by
 have hF:Fb w pb 460 (rpc up q v):=hS.1 (aD pb 460 (rpc up q v)) (by simp)
 refine(CU hF hp).mono ?_
 rintro x w' ⟨rfl,wb,hR,hne,hge,hch⟩
 exact⟨wb,rfl,hne,hS.sB (aD pb 460 (fN true p (gU wb) (fun _=>none))) (fM wb (cF p)) rfl hch hR.fb hR.wh (by simp[fM]) (by simpa [fM]using hge)⟩
theorem qd {S:List Nat}{W w:World}{A B:List Th}{pb wb:Nat}{nr:Nat→Option Int}{p:Pl}(hS:HS S W w (A++aD pb 460 (fN true p (gU wb) nr)::B))(hI:IA w wb 127 (cF p))(hne:pb≠wb)(hp:Pt p)(hlo:p.a%65536≤65534)(hnr:iP nr)(g:Nat→Int)(n c:Nat)(X:Option Addr)(hg:aC g)(hn:n≤1000000)(hX:By w X n g)(hc:n≤c)(t:To)(ht:cY p true nr g n=t) :
 Calls Tryz.prog 17 #[.pointer (some ⟨pb,0,none⟩),.slice X n c] w fun e w'=>∃X' c',e =.returned (.agg #[t.d,t.s,t.c,.slice X' t.n c'])∧HS S W w' (bS (.slice X' t.n c') t.n t.f::(A++aD pb 460 (fN true p (gU wb) t.nr)::B))∧t.n≤c':=by
 have hF:Fb w pb 460 (fN true p (gU wb) nr):=hS.1 (aD pb 460 (fN true p (gU wb) nr)) (by simp)
 subst ht
 refine(yb p pb wb nr g n c X w hg hn hp hlo hnr hne ⟨hF,hI⟩ hX hc).mono ?_
 rintro e w' ⟨X',c',rfl,hO,hc',hF2,hch⟩
 exact⟨X',c',rfl,hS.sB (aD pb 460 (fN true p (gU wb) (cY p true nr g n).nr)) (bS _ _ _) rfl hch hF2.fb (OB.base hO (Nat.zero_le _)) (rv _ _ _) (rx hO),hc'⟩
theorem F_ (pb:Nat)(s:Int)(hs:s<0∨64≤s)(w:World):Calls Tryz.prog 26 #[.pointer (some ⟨pb,0,none⟩),s] w fun x w'=>x =.returned (.tuple #[.int .u32 0,false])∧Below w.heap.size w w':=by
 rcases hs with hs |hs
 ·go_enter Tryz.func26,Tryz.ntmps26
  go_wp2_with fail
  go_ret2
  exact⟨rfl,Below.refl _ _⟩
 have i2:¬s<0:=by omega
 go_enter Tryz.func26,Tryz.ntmps26
 go_wp2_with fail
 go_ret2
 exact⟨rfl,Below.refl _ _⟩
set_option maxHeartbeats 4000000 in
theorem Az {w:World}{pb sb qb wb:Nat}{p:Pl}{nr:Nat→Option Int}(hF:Fb w pb 130 (dw sb nr))(hR:fy w qb wb p nr):Calls Tryz.prog 18 #[.pointer (some ⟨pb,0,none⟩),.pointer (some ⟨qb,0,none⟩)] w fun x w'=>x =.returned (.bool true)∧Below w.heap.size w w':=by
 have NE:=hid (fun (s:Int)=>(show ∃(v:Int) (b:Bool),(∀w',Below w.heap.size w w'→Calls Tryz.prog 26 #[.pointer (some ⟨pb,0,none⟩),s] w' fun x w2=>x =.returned (.tuple #[.int .u32 v,b])∧Below w'.heap.size w' w2)∧(∀w',Below w.heap.size w w'→Calls Tryz.prog 54 #[.pointer (some ⟨qb,0,none⟩),s] w' fun x w2=>x =.returned (.tuple #[.int .u32 v,b])∧Below w'.heap.size w' w2) from by
  by_cases hs:s<0∨64≤s
  ·exact⟨0,false,fun w' _=>F_ pb s hs w',fun w' _=>zU qb s hs w'⟩
  obtain ⟨k,rfl⟩:∃k:Nat,s=(k:Int):=⟨s.toNat,by omega⟩
  exact⟨(nr k).getD 0,(nr k).isSome,fun w' hb=>AE (hF.below hb) k (by omega),fun w' hb=>yd (hR.below hb) k (by omega)⟩))
 clear hF hR
 go_enter Tryz.func18,Tryz.ntmps18
 go_wp2_with fail
 go_loopg [5] 66 (fun gh i wx=>∃k:Nat,gh=66-k∧k≤66∧i =.int .i64 ((k:Int)-1)∧Below w.heap.size w wx)
 case atStart=>exact⟨0,by omega,by omega,rfl,Below.refl _ _⟩
 obtain ⟨k,hgh,hk,rfl,hb⟩:=hrel
 have B0:=hid hb
 clear hb
 by_cases QZ:k=66
 ·have k1:¬(k:Int)-1≤64:=by omega
  go_wp2_with fail
  go_ret
  exact⟨rfl,B0.out⟩
 have k1:(k:Int)-1≤64:=by omega
 obtain ⟨v,b,hP,hQ⟩:=NE.out ((k:Int)-1)
 have HP:=hid hP
 have HQ:=hid hQ
 have e1:(v != v)=false:=by simp
 have e2:(b != b)=false:=by simp
 clear hP hQ NE
 go_wp2_with fail
 refine(HP.out _ B0.out).mono ?_
 rintro x w1 ⟨rfl,hb⟩
 have B1:=hid (then_ B0.out hb)
 clear hb
 go_simp
 go_wp2_with fail
 refine(HQ.out _ B1.out).mono ?_
 rintro x w2 ⟨rfl,hb⟩
 have B2:=hid (then_ B1.out hb)
 clear hb
 go_simp
 have q1:IntKind.i64.wrap ((k:Int)-1+1)=((k+1:Nat):Int)-1:=by rw[IntWalk.i64_in _ (by omega)];omega
 go_wp2_with fail
 go_roundg (66-(k+1))
 case rel=>exact⟨k+1,by omega,by omega,by rw[show ((k+1:Nat):Int)-1=(k:Int) by omega],B2.out⟩
 omega
theorem t6:∀(l:List Int) (r:ByteArray),(l.foldl (fun r z=>r.push (UInt8.ofNat z.toNat)) r).data=r.data++(l.map fun z=>UInt8.ofNat z.toNat).toArray
 | [],r=>by simp
 |z::l,r=>by rw[List.foldl_cons,t6 l];simp[ByteArray.push]
theorem t9 (g:Nat→Int)(n:Nat):(l0 g n).data=((List.range n).map fun j=>UInt8.ofNat (g j).toNat).toArray:=by
 unfold l0
 rw[t6,List.map_map]
 simp
theorem BJ (g:Nat→Int)(n:Nat):(l0 g n).size=n:=by
 show (l0 g n).data.size=n
 rw[t9]
 simp
theorem Gs (g:Nat→Int)(n j:Nat)(h:j<(l0 g n).size)(hg:aC g):((l0 g n)[j].toNat:Int)=g j:=by
 show (((l0 g n).data[j]'h).toNat:Int)=g j
 have hg:=hg j
 have e:(l0 g n).data[j]'h=UInt8.ofNat (g j).toNat:=by simp[t9]
 rw[e]
 simp
 omega
theorem tC (w:World)(g:Nat→Int)(n:Nat)(hg:aC g):∃(c:Nat) (w':World),(convert 9 23 (.string (l0 g n))).run Tryz.prog w =.ok (.slice (some ⟨w.heap.size,0,none⟩) n c) w'∧Below w.heap.size w w'∧By w' (some ⟨w.heap.size,0,none⟩) n g∧n≤c:=by
 obtain ⟨s,hs⟩:∃s,s=l0 g n:=⟨_,rfl⟩
 have hz:s.size=n:=by rw[hs];exact BJ g n
 have ha:∀j (h:j<s.size),(s[j].toNat:Int)=g j:=by subst hs;exact fun j h=>Gs g n j h hg
 rw[←hs]
 have hc:=run_bytes_of_string w 9 23 5 s Tryz.underlying9 Tryz.underlying23 Tryz.underlying5
 rw[hz]at hc
 refine⟨_,_,hc,((Below.refl w.heap.size w).drew).alloc (Nat.le_refl _) _,Sl.mk (by simp) (fun j hj=>?_),hz ▸ grownCap_ge w s.size 0 _⟩
 rw[Nat.zero_add]
 have h:=heap_alloc_new w.drew (.cells (bytesRow s (grownCap w s.size 0 5)) 5 ((bytesRow s (grownCap w s.size 0 5)).size,(bytesRow s (grownCap w s.size 0 5)).size+1))
 rw[hz]at h
 show World.cell? _ ⟨w.drew.heap.size,j,none⟩=_
 rw[cell_of_row _ w.drew.heap.size j _ _ _ h,bytesRow_at s _ j (by show j<s.size;rw[hz];exact hj),←ha j (by rw[hz];exact hj)]
 rfl
end Go.Proofs.YtalnfkijiehjhaaGreat
