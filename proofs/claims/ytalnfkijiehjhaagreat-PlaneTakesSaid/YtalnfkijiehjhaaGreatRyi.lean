/- The reference's unit: in. The reference's unit: out. -/
import Derived.Test.YtalnfkijiehjhaaGreatGa
import Derived.Test.YtalnfkijiehjhaaGreatRyw
import Derived.Test.YtalnfkijiehjhaaGreatWirRef1
import Derived.Test.YtalnfkijiehjhaaGreatWirRef2
import Derived.Test.YtalnfkijiehjhaaGreatWirRef3
import Derived.Test.YtalnfkijiehjhaaGreatGh
import Derived.BigQuiet
import Derived.Deep.RegionHeld3
import Derived.Deep.Cut
import Derived.IntWalk
import Derived.Test.YtalnfkijiehjhaaGreatGz
namespace Go.Proofs.YtalnfkijiehjhaaGreat
open List renaming setIfInBounds_toArray→zA,set_cons_zero→zB,set_cons_succ→zC
set_option linter.unusedVariables false
set_option linter.unusedSimpArgs false
open Go.RowKit Go.ChangeShapes Go.WideShapes Go.ChangeAt
set_option maxRecDepth 100000
theorem qXN{P:Prop}(h:P:=by
 go_wp2_with (((with_reducible refine ah ?_);refine ay rfl (aB (A:=[bU w.heap.size 5 1 (.slice X2 n c2) n (fun j=>.int .u8 (bA (aN g) n false (p.s k).ad (p.s k).po j)),bU w.heap.size 5 1 (.slice X1 n c1) n (fun j=>.int .u8 (aN g j)),aw V [x.src,x.fp,p.a,p.p]]) [(),(k:Int),o.isSome,.slice X2 n c2] rfl rfl (rfl) dT.out rfl dQ rfl ?_);intro w_ hZ;have aK:=hid hZ;clear hZ;(first |refine aJ ?_ |refine aR ?_);apply_assumption;refine wp_ret ?_;(repeat refine aI ?_);(show bodyPost _ _ _ _ _ _);exact bodyPost_ret (v:=.agg ([(),(k:Int),o.isSome,.slice X2 n c2]:List Value).toArray) (aS Tryz.results51 _ rfl (aK.out.ce 3 rfl) Tryz.underlying48 rfl dQ) rfl (by rw[HR2.out];exact⟨X2,c2,rfl,aK.out.nth 0 rfl,cI.out,SA.out.below aK.out.bl,Ch.of_below aK.out.bl⟩)))
 ):P:=h
set_option maxHeartbeats 4000000 in
theorem Db (p:Pl)(pb wb:Nat)(nr:Nat→Option Int)(g:Nat→Int)(n c:Nat)(x:Pk)(X AO:Option Addr)(cO:Nat)(AD:Option Addr)(cD:Nat)(w:World)(hx:x=ax g n)(hg:aC g)(hE:az g n=0)(h1:1<g 1)(h3:g 0≠3)(hp:Pt p)(hnr:iP nr)(hS:fy w pb wb p nr)(hX:By w X n g)(hc:n≤c)(hB:By w AO x.no x.go)(gI:x.no≤cO) :
 Calls Tryz.prog 51 #[.pointer (some ⟨pb,0,none⟩),.agg #[x.kind,x.life,x.piece,x.src,x.dst,x.fp,x.tp,x.flags,x.label,x.bare,x.code,.slice AO x.no cO,.slice AD x.nd cD],.slice X n c] w (sd w pb wb p (inT p nr g n x)):=by
 have bd:=kr hg hE
 have ln:=ew hg hE
 rw[←hx]at bd ln
 obtain ⟨l1,l2,l3,l4,l5,l6,l7,l8,_⟩:=ln
 have hkd:x.kind=1∨x.kind=2:=by rw[l3];omega
 obtain ⟨d1,d2,d3,d4,d5,d6,d7⟩:=bd
 obtain ⟨p1,p2,p3,p4,p5⟩:=hp
 have jb:(dV p x.src x.fp).I:=⟨⟨by show _≤x.src;omega,by show x.src≤_;omega⟩,⟨by show _≤x.fp;omega,by show x.fp≤_;omega⟩,⟨by show _≤p.a;omega,by show p.a≤_;omega⟩,⟨by show _≤p.p;omega,by show p.p≤_;omega⟩⟩
 have st:=@uj x
 have su:=lK d6
 have BY:=hid (fun (w':World) (hb:Below w.heap.size w w')=>yi p pb wb nr x hkd ⟨p1,p2,p3,p4,p5⟩ AO cO AD cD w' (hS.below hb) (Sl.below hB hb (Nat.le_refl _)) d6 (by omega) gI jb)
 have ST:=hid (fun (w':World) (hb:Below w.heap.size w w')=>(show Calls Tryz.prog 20 #[.slice AO x.no cO] w' fun e w2=>e =.returned (.tuple #[(bV x).1,.int .u32 (bV x).2.1,.int .u32 (bV x).2.2.1,(bV x).2.2.2])∧Below w'.heap.size w' w2 from nG AO x.no cO x.go w' (Sl.below hB hb (Nat.le_refl _)) d6 (by omega) gI))
 have SA:=hid hS
 have HX:=hid (fun (w':World) (hb:Below w.heap.size w w')=>(show By w' X n g from Sl.below hX hb (Nat.le_refl _)))
 have PK:=hid (fun (w':World) (hs:Hid (Is w' (some ⟨wb,0,none⟩) 127 (cF p)))=>tG (some ⟨wb,0,none⟩) 127 (cF p) (dV p x.src x.fp) jb w' hs.out)
 obtain ⟨o,ho⟩:∃o,o=iX p x:=⟨_,rfl⟩
 have HSL:Hid (iq p x=o.getD (cF p (jI (dV p x.src x.fp)).toNat)):=hid (by unfold iq;rw[←ho])
 have ud:Hid (inT p nr g n x=if iq p x = -1 then bB 9 nr else ⟨0,iq p x,o.isSome,n,oo p nr g n x (iq p x).toNat,nr⟩):=hid (by unfold inT;rw[←ho])
 have j9:Hid (iq p x = -1∨∃k:Nat,k<64∧iq p x=k):=hid (Er p x)
 rw[←ho]at BY
 obtain ⟨sl,hsl⟩:∃sl,sl=iq p x:=⟨_,rfl⟩
 rw[←hsl]at HSL ud j9
 have PB:=hid (fun (k:Nat) (hk:k<64)=>(show (0≤(p.s k).ad∧(p.s k).ad≤4294967295)∧0≤(p.s k).po∧(p.s k).po≤65535 from ⟨(p1 k hk).1,(p1 k hk).2.1⟩))
 have AG:=hid (gk hE h1)
 have AI:=hid (jz hg (gk hE h1))
 have WN:=hid (fun (k:Nat) (hk:k<64)=>oH hg hE h1 h3 (PB.out k hk).1 (PB.out k hk).2)
 have NI:=hid (fun (k:Nat)=>ru (n:=n) (s:=false) (ad:=(p.s k).ad) (po:=(p.s k).po) hg hE h1)
 have WW:=hid (fun (k:Nat) (hk:k<64) (a:Nat) (v:Int) (hv:0≤v) (hv':v<4294967296) (ha:24≤a) (hL:a+4≤n)=>pU (n:=n) (s:=false) (a:=(a:Int)) (m:=4) (v:=v) hg hE h1 h3 (PB.out k hk).1 (PB.out k hk).2 (.inr ⟨rfl,by omega⟩) hv (by omega) (by omega) (.inr (by omega)))
 have SI:Hid ((bV x).2.2.2=true→∃a:Nat,(bV x).1=a∧2≤a∧24+a+8≤n):=hid (fun h=>by
  obtain ⟨e1,e2,e3⟩:=st h
  refine⟨(bV x).1.toNat,e3,by omega,?_⟩
  by_cases k2:g 0=2
  ·have:=l6 k2;omega
  have:=l7 (by omega);omega)
 have SU:=hid su.2
 have oz:Hid (∀k,oo p nr g n x k=if (bV x).2.2.2=true∧(bV x).2.2.1≠0 then cB (bA (aN g) n false (p.s k).ad (p.s k).po) n (28+(bV x).1.toNat) 4 (ei nr k (bV x).2.2.1) else bA (aN g) n false (p.s k).ad (p.s k).po):=hid (fun k=>rfl)
 have n15:n≤1500:=l2
 have HC:=hid hc
 have pK:=hid hnr
 have S0:Hid (HS [] w w []):=hid HS.start
 clear hS hB hX ho hsl hnr hE hx h1 h3 l1 l2 l3 l4 l5 l6 l7 l8 d1 d2 d3 d4 d5 d6 d7 p1 p2 p3 p4 p5 st su hkd jb hc gI
 replace hg:=hid hg
 generalize bV x=z at ST SI SU oz
 obtain ⟨z1,z2,z3,z4⟩:=z
 dsimp only at ST SI SU oz
 go_enter Tryz.func51,Tryz.ntmps51
 go_upto_region 1 with (first | ((with_reducible refine ah ?_);refine ay rfl (fi (l:=[x.kind,x.life,x.piece,x.src,x.dst,x.fp,x.tp,x.flags,x.label,x.bare,x.code,.slice AO x.no cO,.slice AD x.nd cD]) rfl rfl (by simp) S0.out ?_);intro E w_ hZ _;have S1:=hid hZ;clear hZ) | ((with_reducible refine ah ?_);refine ay rfl (bw rfl (uA _) (by simp) S1.out ?_);intro U w_ hZ _;have S2:=hid hZ;clear hZ))
 refine wp_region_held_drew (S:=fun (w':World)=>HS [] w w' [aw U [(),(),false,.slice none 0 0],aw E [x.kind,x.life,x.piece,x.src,x.dst,x.fp,x.tp,x.flags,x.label,x.bare,x.code,.slice AO x.no cO,.slice AD x.nd cD]]) (by kernel_rfl) ?_ (fun hHeld=>?_)
 ·exact S2.out.drew
 refine ae 0 hHeld ?_
 refine ae 1 hHeld ?_ (hy:=by intro w hSw;(try dsimp only at hSw);obtain ⟨y0,y1,y2,y3,y4,y5,y6,y7,y8,y9,al,ak,aj⟩:=(hSw.ce 1 rfl).c13;go_simp;(try with_reducible rfl))
 refine ae 2 hHeld ?_
 refine ae 3 hHeld ?_ (hy:=by intro w hSw;(try dsimp only at hSw);obtain ⟨y0,y1,y2,y3,y4,y5,y6,y7,y8,y9,al,ak,aj⟩:=(hSw.ce 1 rfl).c13;go_simp;(try with_reducible rfl))
 refine ae 4 hHeld ?_
 refine ae 5 hHeld ?_
 refine ae 6 hHeld ?_
 refine ae 7 hHeld ?_
 refine ae 8 hHeld ?_ (hy:=by intro w hSw;(try dsimp only at hSw);have q1:=(SA.out.below hSw.bl).ca;go_simp;(try with_reducible rfl))
 refine ae 9 hHeld ?_
 refine ae 10 hHeld ?_
 refine ae 11 hHeld ?_
 refine ae 12 hHeld ?_
 refine ae 13 hHeld ?_ (hy:=by intro w hSw;(try dsimp only at hSw);have q1:=(SA.out.below hSw.bl).cp;go_simp;(try with_reducible rfl))
 refine ae 14 hHeld ?_
 refine only 15 rfl (by kernel_rfl) rfl (fun K hK=>?_)
 refine bw rfl (Ei _) (by simp) hHeld (fun V w3 hZ _=>?_)
 refine hK.out _ _ hZ.tail (fun _=>more (fun w'=>∃l,HS [] w w' [aw V l,aw U [(),(),false,.slice none 0 0],aw E [x.kind,x.life,x.piece,x.src,x.dst,x.fp,x.tp,x.flags,x.label,x.bare,x.code,.slice AO x.no cO,.slice AD x.nd cD]]) (fun _ ⟨_,h⟩=>h.tail) ⟨_,hZ⟩ (fun _=>?_))
 clear hK hHeld
 try simp only[Act.put,zA,zB,zC]
 refine only 16 rfl (by kernel_rfl) rfl (fun K hK=>?_)
 refine aB (A:=[]) [x.src,x.fp,p.a,p.p] rfl rfl rfl hZ rfl AX rfl (fun w4 hY=>?_)
 refine hK.out _ _ ⟨_,hY⟩ (fun _=>?_)
 clear hK hZ
 try simp only[Act.put,zA,zB,zC]
 have S5:=hid hY
 clear hY S0 S1 S2
 refine wpAnyH_done (by kernel_rfl) ?_ _
 obtain ⟨y0,y1,y2,y3,y4,y5,y6,y7,y8,y9,al,ak,aj⟩:=(S5.out.ce 2 rfl).c13
 obtain ⟨f0,f1,f2,f3⟩:=(S5.out.ce 0 rfl).c4
 go_wp2_with fail
 refine(BY.out _ S5.out.bl).mono ?_
 rintro e w6 ⟨rfl,hb⟩
 have S6:=hid (S5.out.below hb)
 clear hb S5 y0 y1 y2 y3 y4 y5 y6 y7 y8 y9 al ak aj f0 f1 f2 f3 BY
 go_simp
 go_upto_if 38 with (fail)
 go_cut [8] from 39 to 44 (fun s wx=>s =.int .i64 sl∧HS [] w wx [aw V [x.src,x.fp,p.a,p.p],aw U [(),(),false,.slice none 0 0],aw E [x.kind,x.life,x.piece,x.src,x.dst,x.fp,x.tp,x.flags,x.label,x.bare,x.code,.slice AO x.no cO,.slice AD x.nd cD]])
 case first=>
  cases o with
  |some s=>
   exact qYI
  |none=>
   dsimp only[Option.getD,Option.isSome]
   go_upto_region 4 with (fail)
   refine wp_region_held_drew (S:=fun (w':World)=>HS [] w w' [aw V [x.src,x.fp,p.a,p.p],aw U [(),(),false,.slice none 0 0],aw E [x.kind,x.life,x.piece,x.src,x.dst,x.fp,x.tp,x.flags,x.label,x.bare,x.code,.slice AO x.no cO,.slice AD x.nd cD]]) (by kernel_rfl) ?_ (fun hHeld=>?_)
   ·exact S6.out.drew
   refine ae 0 hHeld ?_
   refine ae 1 hHeld ?_
   refine ae 2 hHeld ?_
   refine ae 3 hHeld ?_ (hy:=by intro w hSw;(try dsimp only at hSw);have x1:=(SA.out.below hSw.bl).cw;go_simp;(try with_reducible rfl))
   refine ae 4 hHeld ?_ (hy:=by intro w hSw;(try dsimp only at hSw);obtain ⟨f0,f1,f2,f3⟩:=(hSw.ce 0 rfl).c4;go_simp;(try with_reducible rfl))
   refine only 5 rfl (by kernel_rfl) rfl (fun K hK=>?_)
   go_simp
   refine(PK.out _ (hid (SA.out.below hHeld.bl).wh.slice)).mono ?_
   exact qZK
 obtain ⟨rfl,hz⟩:=hcut
 have S7:=hid hz
 clear hz S6 PK
 rcases j9.out with rfl |⟨k,hk,rfl⟩
 ·have HR:Hid (inT p nr g n x=bB 9 nr):=hid (by rw[ud.out,if_pos rfl])
  go_wp2_with fail
  refine(gm 9 _).mono ?_
  rintro e gL ⟨rfl,hb⟩
  have dA:=hid (S7.out.below hb)
  clear hb S7
  unfold eN
  go_simp
  go_wp2_with (((with_reducible refine ah ?_);refine ay rfl (aB (A:=[aw V [x.src,x.fp,p.a,p.p]]) [.int .i64 9,.int .i64 (-1),false,.slice none 0 0] rfl rfl (rfl) dA.out rfl dQ rfl ?_);intro w_ hZ;have aK:=hid hZ;clear hZ;(first |refine aJ ?_ |refine aR ?_);apply_assumption;refine wp_ret ?_;(repeat (first |refine aI ?_ |refine dL ?_));(show bodyPost _ _ _ _ _ _);exact bodyPost_ret (v:=.agg ([.int .i64 9,.int .i64 (-1),false,.slice none 0 0]:List Value).toArray) (aS Tryz.results51 _ rfl (aK.out.ce 1 rfl) Tryz.underlying48 rfl dQ) rfl (by rw[HR.out];exact⟨none,0,rfl,OB.nil,Nat.le_refl _,SA.out.below aK.out.bl,Ch.of_below aK.out.bl⟩)))
 have HR:Hid (inT p nr g n x=⟨0,(k:Int),o.isSome,n,oo p nr g n x k,nr⟩):=hid (by rw[ud.out,if_neg (by omega)];rfl)
 have Ig:¬(k:Int)<0:=by omega
 have i0:(0:Int)≤k:=by omega
 have i1:(k:Int)<64:=by omega
 have gX:n≤1000000:=by omega
 clear ud j9 HSL
 go_wp2_with fail
 refine(iR (qV X n c g _ (HX.out _ S7.out.bl) hg.out HC.out gX) AG.out).mono ?_
 rintro e w9 ⟨X1,c1,rfl,hO,hc1,hb⟩
 have S9:=hid (S7.out.lO hb hO)
 have pN:=hid hc1
 clear hO hb hc1 S7
 go_simp
 go_upto_region 8 with (fail)
 refine wp_region_held_drew (S:=fun (w':World)=>Below w.heap.size w w') (by kernel_rfl) ?_ (fun hHeld=>?_)
 ·exact S9.out.bl.drew
 have F0:=hid S9.out.drew
 refine ae 0 hHeld ?_
 refine ae 1 hHeld ?_
 refine ae 2 hHeld ?_
 refine ae 3 hHeld ?_
 refine ae 4 hHeld ?_
 refine ae 5 hHeld ?_
 refine ae 6 hHeld ?_
 refine ae 7 hHeld ?_
 refine ae 8 hHeld ?_ (hy:=by intro w hSw;(try dsimp only at hSw);obtain ⟨a0,a1,a2,a3,a4⟩:=(SA.out.below hSw).s5 k hk;go_simp;(try with_reducible rfl))
 refine ae 9 hHeld ?_
 refine ae 10 hHeld ?_
 refine ae 11 hHeld ?_
 refine ae 12 hHeld ?_
 refine ae 13 hHeld ?_
 refine ae 14 hHeld ?_
 refine ae 15 hHeld ?_
 refine ae 16 hHeld ?_ (hy:=by intro w hSw;(try dsimp only at hSw);obtain ⟨a0,a1,a2,a3,a4⟩:=(SA.out.below hSw).s5 k hk;go_simp;(try with_reducible rfl))
 refine only 17 rfl (by kernel_rfl) rfl (fun K hK=>?_)
 go_simp
 refine(iR (qU X1 n c1 (aN g) _ (Ow.sl1 (F0.out.nth 0 rfl)) AI.out pN.out gX false (p.s k).ad (p.s k).po) (WN.out k hk)).mono ?_
 rintro e ea ⟨X2,c2,rfl,hO,hc2,hb⟩
 try go_wp2_with fail
 have hz:=F0.out.lO hb hO
 refine hK.out _ _ hz.bl (fun _=>?_)
 have eo:=hid hz
 have cI:=hid hc2
 clear hK hHeld hz hO hb hc2 S9 F0
 try simp only[Act.put,zA,zB,zC]
 refine tk 18 (v:=?_) rfl (by kernel_rfl) (by kernel_rfl) (by kernel_rfl) (fun _ _ _ h=>h) rfl ?_ eo.out.bl ?_;rotate_left;(focus (intro w hSw;(try dsimp only at hSw);go_simp;(try with_reducible rfl)));(try simp only[Act.put,zA,zB,zC])
 refine tk 19 (v:=?_) rfl (by kernel_rfl) (by kernel_rfl) (by kernel_rfl) (fun _ _ _ h=>h) rfl ?_ eo.out.bl ?_;rotate_left;(focus (intro w hSw;(try dsimp only at hSw);go_simp;(try with_reducible rfl)));(try simp only[Act.put,zA,zB,zC])
 refine tk 20 (v:=?_) rfl (by kernel_rfl) (by kernel_rfl) (by kernel_rfl) (fun _ _ _ h=>h) rfl ?_ eo.out.bl ?_;rotate_left;(focus (intro w hSw;(try dsimp only at hSw);go_simp;(try with_reducible rfl)));(try simp only[Act.put,zA,zB,zC])
 refine tk 21 (v:=?_) rfl (by kernel_rfl) (by kernel_rfl) (by kernel_rfl) (fun _ _ _ h=>h) rfl ?_ eo.out.bl ?_;rotate_left;(focus (intro w hSw;(try dsimp only at hSw);go_simp;(try with_reducible rfl)));(try simp only[Act.put,zA,zB,zC])
 refine wpAnyH_done (by kernel_rfl) ?_ _
 obtain ⟨y0,y1,y2,y3,y4,y5,y6,y7,y8,y9,al,ak,aj⟩:=(eo.out.ce 4 rfl).c13
 go_wp2_with fail
 refine(ST.out _ eo.out.bl).mono ?_
 rintro e li ⟨rfl,hb⟩
 have dT:=hid (eo.out.below hb)
 clear hb eo y0 y1 y2 y3 y4 y5 y6 y7 y8 y9 al ak aj ST
 go_simp
 cases z4 with
 |false=>
  have HR2:Hid (inT p nr g n x=⟨0,(k:Int),o.isSome,n,bA (aN g) n false (p.s k).ad (p.s k).po,nr⟩):=hid (by rw[HR.out,oz.out,if_neg (by simp)])
  exact qXN
 |true=>
  cases hz3:(z3 != 0)
  ·have HR2:Hid (inT p nr g n x=⟨0,(k:Int),o.isSome,n,bA (aN g) n false (p.s k).ad (p.s k).po,nr⟩):=hid (by rw[HR.out,oz.out,if_neg (by simp at hz3;simp[hz3])])
   exact qXN
  have HR1:Hid (oo p nr g n x k=cB (bA (aN g) n false (p.s k).ad (p.s k).po) n (28+z1.toNat) 4 (ei nr k z3)):=hid (by rw[oz.out,if_pos (by simp at hz3;simp[hz3])])
  obtain ⟨a,rfl,a2,a3⟩:=SI.out rfl
  have q1:IntKind.i64.wrap (24+(a:Int))=24+(a:Int):=IntWalk.i64_in _ (by omega)
  have q2:IntKind.i64.wrap (24+(a:Int)+4)=24+(a:Int)+4:=IntWalk.i64_in _ (by omega)
  have HV:=hid (vJ nr k z3)
  have HW:Hid (fG (bA (aN g) n false (p.s k).ad (p.s k).po) n (24+(a:Int)+4) 4 (ei nr k z3)=0):=hid (by
   have:=WW.out k hk (28+a) (ei nr k z3) HV.out.1 HV.out.2 (by omega) (by omega)
   rwa [show ((28+a:Nat):Int)=24+(a:Int)+4 by omega]at this)
  have HR2:Hid (inT p nr g n x=⟨0,(k:Int),o.isSome,n,cB (bA (aN g) n false (p.s k).ad (p.s k).po) n (24+(a:Int)+4).toNat (4:Int).toNat (ei nr k z3),nr⟩):=hid (by rw[HR.out,HR1.out,Int.toNat_natCast,show (24+(a:Int)+4).toNat=28+a by omega];rfl)
  clear HR HR1 oz
  obtain ⟨b0,b1⟩:=(SA.out.below dT.out.bl).rem k hk
  go_upto_if 92 with (fail)
  clear b0 b1
  go_cut [14] from 92 to 100 (fun s wx=>s =.int .u32 (ei nr k z3)∧HS [] w wx [bU w.heap.size 5 1 (.slice X2 n c2) n (fun j=>.int .u8 (bA (aN g) n false (p.s k).ad (p.s k).po j)),bU w.heap.size 5 1 (.slice X1 n c1) n (fun j=>.int .u8 (aN g j)),aw V [x.src,x.fp,p.a,p.p],aw U [(),(),false,.slice none 0 0],aw E [x.kind,x.life,x.piece,x.src,x.dst,x.fp,x.tp,x.flags,x.label,x.bare,x.code,.slice AO x.no cO,.slice AD x.nd cD]])
  case first=>
   obtain ⟨b0,b1⟩:=(SA.out.below dT.out.bl).rem k hk
   cases hn:nr k with
   |none=>
    rw[hn]at b0 b1
    dsimp only[Option.getD,Option.isSome]at b0 b1
    go_wp2_with fail
    go_meet
    exact⟨by unfold ei;rw[hn],dT.out⟩
   |some v=>
    have hv:=pK.out k v hn
    have BK:=hid (fun (w:World)=>Ag z3 v SU.out hv w)
    rw[hn]at b0 b1
    dsimp only[Option.getD,Option.isSome]at b0 b1
    go_wp2_with fail
    refine(BK.out _).mono ?_
    rintro e w' ⟨rfl,rfl⟩
    go_simp
    go_wp2_with fail
    go_meet
    exact⟨by unfold ei;rw[hn],dT.out⟩
  obtain ⟨rfl,hz⟩:=hcut
  have iN:=hid hz
  clear hz dT
  generalize ei nr k z3=bv at *
  have q3:IntKind.i64.wrap bv=bv:=IntWalk.i64_in _ (by have:=HV.out;omega)
  go_wp2_with fail
  refine(iR (jH X2 n c2 _ _ (Ow.sl1 (iN.out.nth 0 rfl)) (NI.out k) cI.out gX (24+(a:Int)+4) 4 bv ⟨by omega,by omega⟩) HW.out).mono ?_
  rintro e tz ⟨X3,c3,rfl,hO,hc3,hb⟩
  have cK:=hid (iN.out.lO hb hO)
  have me:=hid hc3
  clear hO hb hc3 iN
  go_simp
  go_wp2_with (((with_reducible refine ah ?_);refine ay rfl (aB (A:=[bU w.heap.size 5 1 (.slice X3 n c3) n (fun j=>.int .u8 (cB (bA (aN g) n false (p.s k).ad (p.s k).po) n (24+(a:Int)+4).toNat (4:Int).toNat bv j)),bU w.heap.size 5 1 (.slice X2 n c2) n (fun j=>.int .u8 (bA (aN g) n false (p.s k).ad (p.s k).po j)),bU w.heap.size 5 1 (.slice X1 n c1) n (fun j=>.int .u8 (aN g j)),aw V [x.src,x.fp,p.a,p.p]]) [(),(k:Int),o.isSome,.slice X3 n c3] rfl rfl (rfl) cK.out rfl dQ rfl ?_);intro w_ hZ;have aK:=hid hZ;clear hZ;(first |refine aJ ?_ |refine aR ?_);apply_assumption;refine wp_ret ?_;(repeat refine aI ?_);(show bodyPost _ _ _ _ _ _);exact bodyPost_ret (v:=.agg ([(),(k:Int),o.isSome,.slice X3 n c3]:List Value).toArray) (aS Tryz.results51 _ rfl (aK.out.ce 4 rfl) Tryz.underlying48 rfl dQ) rfl (by rw[HR2.out];exact⟨X3,c3,rfl,aK.out.nth 0 rfl,me.out,SA.out.below aK.out.bl,Ch.of_below aK.out.bl⟩)))
end Go.Proofs.YtalnfkijiehjhaaGreat
namespace Go.Proofs.YtalnfkijiehjhaaGreat
open List renaming setIfInBounds_toArray→zA,set_cons_zero→zB,set_cons_succ→zC
set_option linter.unusedVariables false
set_option linter.unusedSimpArgs false
open Go.RowKit Go.ChangeShapes Go.WideShapes Go.ChangeAt
theorem Ch.ia {S:List Nat}{w w':World}(h:Ch S w w'){b n:Nat}{f:Nat→Int}(hf:IA w b n f)(hb:b ∉ S):IA w' b n f:=
 ⟨gp hf.1 (h.2.2 b hf.1 hb),fun j hj=>(World.cell?_of_block (a:=⟨b,j,none⟩) (h.2.2 b hf.1 hb)).trans (hf.2.1 j hj),fun j=>(World.frozen?_of_block (a:=⟨b,j,none⟩) (h.2.2 b hf.1 hb)).trans (hf.2.2 j)⟩
set_option maxRecDepth 100000
set_option maxHeartbeats 4000000 in
theorem zP (p:Pl)(pb wb:Nat)(nr:Nat→Option Int)(g:Nat→Int)(n c:Nat)(x:Pk)(X AO:Option Addr)(cO:Nat)(AD:Option Addr)(cD:Nat)(s:Nat)(hs:s<64)(w:World)(hx:x=ax g n)(hg:aC g)(hE:az g n=0)(h1:1<g 1)(h3:g 0≠3)(hp:Pt p)(hpw:pb≠wb)(hS:fy w pb wb p nr)(hX:By w X n g)(hc:n≤c)(hB:By w AO x.no x.go)(gI:x.no≤cO) :
 Calls Tryz.prog 53 #[.pointer (some ⟨pb,0,none⟩),.agg #[x.kind,x.life,x.piece,x.src,x.dst,x.fp,x.tp,x.flags,x.label,x.bare,x.code,.slice AO x.no cO,.slice AD x.nd cD],.slice X n c,(s:Int)] w (sd w pb wb p (outT p nr g n x s)):=by
 have bd:=kr hg hE
 have ln:=ew hg hE
 rw[←hx]at bd ln
 obtain ⟨l1,l2,l3,l4,l5,l6,l7,l8,_⟩:=ln
 have hkd:x.kind=1∨x.kind=2:=by rw[l3];omega
 obtain ⟨d1,d2,d3,d4,d5,d6,d7⟩:=bd
 obtain ⟨p1,p2,p3,p4,p5⟩:=hp
 have jb:(dV p x.dst x.tp).I:=⟨⟨by show _≤x.dst;omega,by show x.dst≤_;omega⟩,⟨by show _≤x.tp;omega,by show x.tp≤_;omega⟩,⟨by show _≤p.a;omega,by show p.a≤_;omega⟩,⟨by show _≤p.p;omega,by show p.p≤_;omega⟩⟩
 have st:=@uj x
 have su:=lK d6
 have ob:=Au p x s hs
 have MK:=hid (fun (w':World)=>(show Calls Tryz.prog 75 #[.agg #[p.r.e,.int .u64 p.r.p.a,.int .u64 p.r.p.b,.int .u64 p.r.c.a,.int .u64 p.r.c.b,.int .u64 p.r.n.a,.int .u64 p.r.n.b],x.kind,.agg #[x.dst,x.tp,p.a,p.p],(s:Int)] w' fun e w2=>e =.returned (.int .i64 (jJ p x s))∧Below w'.heap.size w' w2 from by
  unfold jJ
  rcases hkd with h |h
  ·rw[h];exact zX p.r (dV p x.dst x.tp) s jb (by omega) w'
  rw[h];exact zW p.r (dV p x.dst x.tp) s jb (by omega) w'))
 have ST:=hid (fun (w':World) (hb:Below w.heap.size w w')=>(show Calls Tryz.prog 20 #[.slice AO x.no cO] w' fun e w2=>e =.returned (.tuple #[(bV x).1,.int .u32 (bV x).2.1,.int .u32 (bV x).2.2.1,(bV x).2.2.2])∧Below w'.heap.size w' w2 from nG AO x.no cO x.go w' (Sl.below hB hb (Nat.le_refl _)) d6 (by omega) gI))
 have SA:=hid hS
 have HX:=hid (fun (w':World) (hb:Below w.heap.size w w')=>(show By w' X n g from Sl.below hX hb (Nat.le_refl _)))
 have AG:=hid (gk hE h1)
 have AI:=hid (jz hg (gk hE h1))
 have WN:=hid (oH (n:=n) (ad:=p.a) (po:=p.p) hg hE h1 h3 p4 p5)
 have NI:=hid (ru (n:=n) (s:=true) (ad:=p.a) (po:=p.p) hg hE h1)
 have WG:=hid (fun (hk:x.kind=2)=>pU (n:=n) (s:=true) (a:=20) (m:=2) (v:=jJ p x s) hg hE h1 h3 p4 p5 (.inl ⟨rfl,by have:=ob.1 hk;omega⟩) ob.2.1 (by omega) (by omega) (.inl (by omega)))
 have WS:=hid (fun (a:Nat) (v:Int) (hv:0≤v) (hv':v<4294967296) (ha:24≤a) (hL:a+4≤n)=>pU (n:=n) (s:=true) (a:=(a:Int)) (m:=4) (v:=v) hg hE h1 h3 p4 p5 (.inr ⟨rfl,by omega⟩) hv (by omega) (by omega) (.inr (by omega)))
 have SI:Hid ((bV x).2.2.2=true→∃a:Nat,(bV x).1=a∧2≤a∧24+a+8≤n):=hid (fun h=>by
  obtain ⟨e1,e2,e3⟩:=st h
  refine⟨(bV x).1.toNat,e3,by omega,?_⟩
  by_cases k2:g 0=2
  ·have:=l6 k2;omega
  have:=l7 (by omega);omega)
 have SG:Hid (x.kind=2→(bV x).2.2.2=false):=hid (fun h=>by
  cases hq:(bV x).2.2.2
  ·rfl
  have:=(st hq).2.1;have:=l6 (by omega);omega)
 have SU:=hid su.1
 have OB:=hid ob.2
 have HO:Hid (outT p nr g n x s=if x.kind=2 then ⟨0,-1,false,n,cB (bA (aN g) n true p.a p.p) n 20 2 (jJ p x s),nr⟩ else if (bV x).2.2.2=true then ⟨0,-1,false,n,cB (bA (aN g) n true p.a p.p) n (24+(bV x).1.toNat) 4 (fR (bV x).2.1 (jJ p x s)),jG nr s (bV x).2.1⟩ else ⟨0,-1,false,n,bA (aN g) n true p.a p.p,nr⟩):=hid rfl
 have gX:n≤1000000:=by omega
 have HC:=hid hc
 have i0:(0:Int)≤s:=by omega
 have i1:(s:Int)<64:=by omega
 have S0:Hid (HS [] w w []):=hid HS.start
 clear hS hB hX hE hx h1 h3 l1 l2 l3 l4 l5 l6 l7 l8 d1 d2 d3 d4 d5 d6 d7 p1 p2 p3 p4 p5 st su hkd jb hc gI ob
 replace hg:=hid hg
 generalize bV x=z at ST SI SU HO SG
 obtain ⟨z1,z2,z3,z4⟩:=z
 dsimp only at ST SI SU HO SG
 generalize jJ p x s=ck at MK WG OB HO
 go_enter Tryz.func53,Tryz.ntmps53
 go_upto_region 1 with (first | ((with_reducible refine ah ?_);refine ay rfl (fi (l:=[x.kind,x.life,x.piece,x.src,x.dst,x.fp,x.tp,x.flags,x.label,x.bare,x.code,.slice AO x.no cO,.slice AD x.nd cD]) rfl rfl (by simp) S0.out ?_);intro E w_ hZ _;have S1:=hid hZ;clear hZ) | ((with_reducible refine ah ?_);refine ay rfl (bw rfl (uA _) (by simp) S1.out ?_);intro U w_ hZ _;have S2:=hid hZ;clear hZ))
 refine wp_region_held_drew (S:=fun (w':World)=>HS [] w w' [aw U [(),(),false,.slice none 0 0],aw E [x.kind,x.life,x.piece,x.src,x.dst,x.fp,x.tp,x.flags,x.label,x.bare,x.code,.slice AO x.no cO,.slice AD x.nd cD]]) (by kernel_rfl) ?_ (fun hHeld=>?_)
 ·exact S2.out.drew
 refine ae 0 hHeld ?_
 refine ae 1 hHeld ?_
 refine ae 2 hHeld ?_
 refine ae 3 hHeld ?_
 refine ae 4 hHeld ?_ (hy:=by intro w hSw;(try dsimp only at hSw);obtain ⟨r0,r1,r2,r3,r4,r5,r6⟩:=(SA.out.below hSw.bl).r7;go_simp;(try with_reducible rfl))
 refine ae 5 hHeld ?_
 refine ae 6 hHeld ?_ (hy:=by intro w hSw;(try dsimp only at hSw);obtain ⟨y0,y1,y2,y3,y4,y5,y6,y7,y8,y9,al,ak,aj⟩:=(hSw.ce 1 rfl).c13;go_simp;(try with_reducible rfl))
 refine ae 7 hHeld ?_
 refine ae 8 hHeld ?_ (hy:=by intro w hSw;(try dsimp only at hSw);obtain ⟨y0,y1,y2,y3,y4,y5,y6,y7,y8,y9,al,ak,aj⟩:=(hSw.ce 1 rfl).c13;go_simp;(try with_reducible rfl))
 refine ae 9 hHeld ?_
 refine ae 10 hHeld ?_ (hy:=by intro w hSw;(try dsimp only at hSw);obtain ⟨y0,y1,y2,y3,y4,y5,y6,y7,y8,y9,al,ak,aj⟩:=(hSw.ce 1 rfl).c13;go_simp;(try with_reducible rfl))
 refine ae 11 hHeld ?_
 refine ae 12 hHeld ?_
 refine ae 13 hHeld ?_
 refine ae 14 hHeld ?_
 refine ae 15 hHeld ?_ (hy:=by intro w hSw;(try dsimp only at hSw);have q1:=(SA.out.below hSw.bl).ca;go_simp;(try with_reducible rfl))
 refine ae 16 hHeld ?_
 refine ae 17 hHeld ?_
 refine ae 18 hHeld ?_
 refine ae 19 hHeld ?_
 refine ae 20 hHeld ?_ (hy:=by intro w hSw;(try dsimp only at hSw);have q1:=(SA.out.below hSw.bl).cp;go_simp;(try with_reducible rfl))
 refine ae 21 hHeld ?_
 refine ae 22 hHeld ?_
 refine only 23 rfl (by kernel_rfl) rfl (fun K hK=>?_)
 go_simp
 refine(MK.out _).mono ?_
 rintro e w4 ⟨rfl,hb⟩
 try go_wp2_with fail
 refine hK.out _ _ (hHeld.below hb) (fun h4=>?_)
 clear hK hb hHeld
 try simp only[Act.put,zA,zB,zC]
 refine ae 24 h4 ?_
 have S4:=hid h4
 clear h4 S0 S1 S2 MK
 refine wpAnyH_done (by kernel_rfl) ?_ _
 go_wp2_with fail
 refine(iR (qV X n c g _ (HX.out _ S4.out.bl) hg.out HC.out gX) AG.out).mono ?_
 rintro e w9 ⟨X1,c1,rfl,hO,hc1,hb⟩
 have S9:=hid (S4.out.lO hb hO)
 have pN:=hid hc1
 clear hO hb hc1 S4
 go_simp
 go_upto_region 3 with (fail)
 refine wp_region_held_drew (S:=fun (w':World)=>Below w.heap.size w w') (by kernel_rfl) ?_ (fun hHeld=>?_)
 ·exact S9.out.bl.drew
 have F0:=hid S9.out.drew
 refine ae 0 hHeld ?_
 refine ae 1 hHeld ?_
 refine ae 2 hHeld ?_
 refine ae 3 hHeld ?_
 refine ae 4 hHeld ?_
 refine ae 5 hHeld ?_ (hy:=by intro w hSw;(try dsimp only at hSw);have q1:=(SA.out.below hSw).ca;go_simp;(try with_reducible rfl))
 refine ae 6 hHeld ?_
 refine ae 7 hHeld ?_
 refine ae 8 hHeld ?_
 refine ae 9 hHeld ?_
 refine ae 10 hHeld ?_ (hy:=by intro w hSw;(try dsimp only at hSw);have q1:=(SA.out.below hSw).cp;go_simp;(try with_reducible rfl))
 refine only 11 rfl (by kernel_rfl) rfl (fun K hK=>?_)
 go_simp
 refine(iR (qU X1 n c1 (aN g) _ (Ow.sl1 (F0.out.nth 0 rfl)) AI.out pN.out gX true p.a p.p) WN.out).mono ?_
 rintro e ea ⟨X2,c2,rfl,hO,hc2,hb⟩
 try go_wp2_with fail
 have hz:=F0.out.lO hb hO
 refine hK.out _ _ hz.bl (fun _=>?_)
 have eo:=hid hz
 have cI:=hid hc2
 clear hK hHeld hz hO hb hc2 S9 F0
 try simp only[Act.put,zA,zB,zC]
 refine tk 12 (v:=?_) rfl (by kernel_rfl) (by kernel_rfl) (by kernel_rfl) (fun _ _ _ h=>h) rfl ?_ eo.out.bl ?_;rotate_left;(focus (intro w hSw;(try dsimp only at hSw);go_simp;(try with_reducible rfl)));(try simp only[Act.put,zA,zB,zC])
 refine tk 13 (v:=?_) rfl (by kernel_rfl) (by kernel_rfl) (by kernel_rfl) (fun _ _ _ h=>h) rfl ?_ eo.out.bl ?_;rotate_left;(focus (intro w hSw;(try dsimp only at hSw);go_simp;(try with_reducible rfl)));(try simp only[Act.put,zA,zB,zC])
 refine tk 14 (v:=?_) rfl (by kernel_rfl) (by kernel_rfl) (by kernel_rfl) (fun _ _ _ h=>h) rfl ?_ eo.out.bl ?_;rotate_left;(focus (intro w hSw;(try dsimp only at hSw);go_simp;(try with_reducible rfl)));(try simp only[Act.put,zA,zB,zC])
 refine tk 15 (v:=?_) rfl (by kernel_rfl) (by kernel_rfl) (by kernel_rfl) (fun _ _ _ h=>h) rfl ?_ eo.out.bl ?_;rotate_left;(focus (intro w hSw;(try dsimp only at hSw);go_simp;(try with_reducible rfl)));(try simp only[Act.put,zA,zB,zC])
 refine wpAnyH_done (by kernel_rfl) ?_ _
 obtain ⟨y0,y1,y2,y3,y4,y5,y6,y7,y8,y9,al,ak,aj⟩:=(eo.out.ce 3 rfl).c13
 go_wp2_with fail
 refine(ST.out _ eo.out.bl).mono ?_
 rintro e li ⟨rfl,hb⟩
 have dT:=hid (eo.out.below hb)
 clear hb eo y0 y1 y2 y3 y4 y5 y6 y7 y8 y9 al ak aj ST
 go_simp
 obtain ⟨y0,y1,y2,y3,y4,y5,y6,y7,y8,y9,al,ak,aj⟩:=(dT.out.ce 3 rfl).c13
 cases k2:(x.kind==2)
 ·cases z4 with
  |false=>
   have HR2:Hid (outT p nr g n x s=⟨0,-1,false,n,bA (aN g) n true p.a p.p,nr⟩):=hid (by rw[HO.out,if_neg (by simpa using k2),if_neg (by simp)])
   go_wp2_with (((with_reducible refine ah ?_);refine ay rfl (aB (A:=[bU w.heap.size 5 1 (.slice X2 n c2) n (fun j=>.int .u8 (bA (aN g) n true p.a p.p j)),bU w.heap.size 5 1 (.slice X1 n c1) n (fun j=>.int .u8 (aN g j))]) [(),.int .i64 (-1),false,.slice X2 n c2] rfl rfl (rfl) dT.out rfl dQ rfl ?_);intro w_ hZ;have aK:=hid hZ;clear hZ;(first |refine aJ ?_ |refine aR ?_);apply_assumption;refine wp_ret ?_;(repeat refine aI ?_);(show bodyPost _ _ _ _ _ _);exact bodyPost_ret (v:=.agg ([(),.int .i64 (-1),false,.slice X2 n c2]:List Value).toArray) (aS Tryz.results53 _ rfl (aK.out.ce 2 rfl) Tryz.underlying48 rfl dQ) rfl (by rw[HR2.out];exact⟨X2,c2,rfl,aK.out.nth 0 rfl,cI.out,SA.out.below aK.out.bl,Ch.of_below aK.out.bl⟩)))
  |true=>
   obtain ⟨a,rfl,a2,a3⟩:=SI.out rfl
   have q1:IntKind.i64.wrap (24+(a:Int))=24+(a:Int):=IntWalk.i64_in _ (by omega)
   have HV:=hid (Ai z2 ck SU.out OB.out)
   have HW:Hid (fG (bA (aN g) n true p.a p.p) n (24+(a:Int)) 4 (fR z2 ck)=0):=hid (by
    have:=WS.out (24+a) (fR z2 ck) HV.out.1 HV.out.2 (by omega) (by omega)
    rwa [show ((24+a:Nat):Int)=24+(a:Int) by omega]at this)
   have HR2:Hid (outT p nr g n x s=⟨0,-1,false,n,cB (bA (aN g) n true p.a p.p) n (24+(a:Int)).toNat (4:Int).toNat (fR z2 ck),jG nr s z2⟩):=hid (by rw[HO.out,if_neg (by simpa using k2),if_pos rfl,Int.toNat_natCast,show (24+(a:Int)).toNat=24+a by omega];rfl)
   have PT:=hid (fun (w':World)=>uO z2 ck SU.out OB.out w')
   go_upto_region 8 with (fail)
   clear y0 y1 y2 y3 y4 y5 y6 y7 y8 y9 al ak aj
   have h0:=(SA.out.below dT.out.bl)
   have hA:HS [pb] w li.drew (aD pb 460 (fN true p (gU wb) nr) :: [bU w.heap.size 5 1 (.slice X2 n c2) n (fun j=>.int .u8 (bA (aN g) n true p.a p.p j)),bU w.heap.size 5 1 (.slice X1 n c1) n (fun j=>.int .u8 (aN g j)),aw U [(),(),false,.slice none 0 0],aw E [x.kind,x.life,x.piece,x.src,x.dst,x.fp,x.tp,x.flags,x.label,x.bare,x.code,.slice AO x.no cO,.slice AD x.nd cD]]):=HS.yO dT.out.drew (aD pb 460 (fN true p (gU wb) nr)) h0.fb (by simp[aD]) (fun b hb=>by simp[aD]at hb;subst hb;exact SA.out.fb.1)
   clear h0
   refine wp_region_held_drew (S:=fun _=>True) (by kernel_rfl) ?_ (fun hHeld=>?_)
   ·trivial
   refine ae 0 hHeld ?_
   refine ae 1 hHeld ?_
   refine ae 2 hHeld ?_
   refine ae 3 hHeld ?_
   refine ae 4 hHeld ?_
   refine ae 5 hHeld ?_
   refine ae 6 hHeld ?_
   refine ae 7 hHeld ?_
   refine ae 9 hHeld ?_
   refine ae 10 hHeld ?_
   refine only 8 rfl (by kernel_rfl) rfl (fun K hK=>?_)
   have c1:=(hA.fb 0 rfl).2.1 (332+s) (by omega)
   have Jm:=(hA.fb 0 rfl).2.2 (332+s)
   refine eZ rfl rfl rfl (w':=li.drew.setCell ⟨pb,332+s,none⟩ (.bool true)) (by go_simp) ?_
   have hA2:=HS.ya (A:=[]) hA (332+s) (.bool true) (by omega) (patch (fN true p (gU wb) nr) (332+s) 1 (fun _=>.bool true)) (fun j hj=>rfl)
   refine hK.out _ _ trivial (fun _=>?_)
   clear hK hA c1 Jm
   try simp only[Act.put,zA,zB,zC]
   refine ae 11 hHeld ?_
   refine only 12 rfl (by kernel_rfl) rfl (fun K hK=>?_)
   generalize li.drew.setCell ⟨pb,332+s,none⟩ (.bool true)=og at *
   have c1:=(hA2.fb 0 rfl).2.1 (396+s) (by omega)
   have Jm:=(hA2.fb 0 rfl).2.2 (396+s)
   refine eZ rfl rfl rfl (w':=og.setCell ⟨pb,396+s,none⟩ (.int .u32 z2)) (by go_simp) ?_
   have hA3:=HS.ya (A:=[]) hA2 (396+s) (.int .u32 z2) (by omega) (fN true p (gU wb) (jG nr s z2)) (fun j hj=>FH s hs z2 j hj)
   refine hK.out _ _ trivial (fun _=>?_)
   clear hK hHeld hA2 c1 Jm
   try simp only[Act.put,zA,zB,zC]
   generalize og.setCell ⟨pb,396+s,none⟩ (.int .u32 z2)=tz at *
   have cK:=hid hA3
   clear hA3 dT
   refine wpAnyH_done (by kernel_rfl) ?_ _
   go_wp2_with fail
   refine(PT.out _).mono ?_
   rintro e w' ⟨rfl,rfl⟩
   go_simp
   generalize fR z2 ck=pv at *
   have q3:IntKind.i64.wrap pv=pv:=IntWalk.i64_in _ (by have:=HV.out;omega)
   go_wp2_with fail
   refine(iR (jH X2 n c2 _ _ (Ow.sl1 (cK.out.nth 1 rfl)) NI.out cI.out gX (24+(a:Int)) 4 pv ⟨by omega,by omega⟩) HW.out).mono ?_
   rintro e El ⟨X3,c3,rfl,hO,hc3,hb⟩
   have JH:=hid (cK.out.lO hb hO)
   have me:=hid hc3
   clear hO hb hc3 cK
   go_simp
   go_wp2_with (((with_reducible refine ah ?_);refine ay rfl (aB (A:=[bU w.heap.size 5 1 (.slice X3 n c3) n (fun j=>.int .u8 (cB (bA (aN g) n true p.a p.p) n (24+(a:Int)).toNat (4:Int).toNat pv j)),aD pb 460 (fN true p (gU wb) (jG nr s z2)),bU w.heap.size 5 1 (.slice X2 n c2) n (fun j=>.int .u8 (bA (aN g) n true p.a p.p j)),bU w.heap.size 5 1 (.slice X1 n c1) n (fun j=>.int .u8 (aN g j))]) [(),.int .i64 (-1),false,.slice X3 n c3] rfl rfl (rfl) JH.out rfl dQ rfl ?_);intro w_ hZ;have aK:=hid hZ;clear hZ;(first |refine aJ ?_ |refine aR ?_);apply_assumption;refine wp_ret ?_;(repeat refine aI ?_);(show bodyPost _ _ _ _ _ _);exact bodyPost_ret (v:=.agg ([(),.int .i64 (-1),false,.slice X3 n c3]:List Value).toArray) (aS Tryz.results53 _ rfl (aK.out.ce 4 rfl) Tryz.underlying48 rfl dQ) rfl (by rw[HR2.out];exact⟨X3,c3,rfl,aK.out.nth 0 rfl,me.out,⟨aK.out.fb 1 rfl,aK.out.ch.ia SA.out.wh (by simp;exact fun h=>hpw h.symm)⟩,aK.out.ch⟩)))
 have HR2:Hid (outT p nr g n x s=⟨0,-1,false,n,cB (bA (aN g) n true p.a p.p) n 20 2 ck,nr⟩):=hid (by rw[HO.out,if_pos (by simpa using k2)])
 have Ir:=SG.out (by simpa using k2)
 subst Ir
 go_wp2_with fail
 refine(iR (jH X2 n c2 _ _ (Ow.sl1 (dT.out.nth 0 rfl)) NI.out cI.out gX 20 2 ck ⟨by omega,by omega⟩) (WG.out (by simpa using k2))).mono ?_
 rintro e El ⟨X3,c3,rfl,hO,hc3,hb⟩
 have JH:=hid (dT.out.lO hb hO)
 have me:=hid hc3
 clear hO hb hc3 dT y0 y1 y2 y3 y4 y5 y6 y7 y8 y9 al ak aj
 go_simp
 go_wp2_with (((with_reducible refine ah ?_);refine ay rfl (aB (A:=[bU w.heap.size 5 1 (.slice X3 n c3) n (fun j=>.int .u8 (cB (bA (aN g) n true p.a p.p) n (20:Int).toNat (2:Int).toNat ck j)),bU w.heap.size 5 1 (.slice X2 n c2) n (fun j=>.int .u8 (bA (aN g) n true p.a p.p j)),bU w.heap.size 5 1 (.slice X1 n c1) n (fun j=>.int .u8 (aN g j))]) [(),.int .i64 (-1),false,.slice X3 n c3] rfl rfl (rfl) JH.out rfl dQ rfl ?_);intro w_ hZ;have aK:=hid hZ;clear hZ;(first |refine aJ ?_ |refine aR ?_);apply_assumption;refine wp_ret ?_;(repeat refine aI ?_);(show bodyPost _ _ _ _ _ _);exact bodyPost_ret (v:=.agg ([(),.int .i64 (-1),false,.slice X3 n c3]:List Value).toArray) (aS Tryz.results53 _ rfl (aK.out.ce 3 rfl) Tryz.underlying48 rfl dQ) rfl (by rw[HR2.out];exact⟨X3,c3,rfl,aK.out.nth 0 rfl,me.out,SA.out.below aK.out.bl,Ch.of_below aK.out.bl⟩)))
end Go.Proofs.YtalnfkijiehjhaaGreat
