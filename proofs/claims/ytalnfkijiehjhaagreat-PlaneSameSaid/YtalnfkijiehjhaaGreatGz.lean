/- in. out. Take. New, Load. -/
import Derived.Test.YtalnfkijiehjhaaGreatGa
import Derived.Test.YtalnfkijiehjhaaGreatGy
import Derived.BigQuiet
import Derived.Deep.RegionHeld3
import Derived.Deep.Cut
import Derived.IntWalk
import Derived.Test.YtalnfkijiehjhaaGreatGkb
import Derived.Test.YtalnfkijiehjhaaGreatGx
namespace Go.Proofs.YtalnfkijiehjhaaGreat
open List renaming setIfInBounds_toArray→zA,set_cons_zero→zB,set_cons_succ→zC
set_option linter.unusedVariables false
set_option linter.unusedSimpArgs false
open Go.RowKit Go.ChangeShapes Go.WideShapes Go.ChangeAt
set_option maxRecDepth 100000
set_option maxHeartbeats 9000000 in
theorem GN (p:Pl)(pb sb wb:Nat)(nr:Nat→Option Int)(g:Nat→Int)(n c:Nat)(x:Pk)(X AO:Option Addr)(cO:Nat)(AD:Option Addr)(cD:Nat)(w:World)(hx:x=aj g n)(hg:az g)(hE:ax g n=0)(h1:1<g 1)(h3:g 0≠3)(hp:Pt p)(hnr:mB nr)(hF:Fb w pb 130 (dD sb nr))(hS:iz w sb wb p)(hX:By w X n g)(hc:n≤c)(hB:By w AO x.no x.go)(oj:x.no≤cO) :
 Calls Tryz.prog 46 #[.pointer (some ⟨pb,0,none⟩),.pointer (some ⟨sb,0,none⟩),.slice X n c,.agg #[x.kind,x.life,x.piece,x.src,x.dst,x.fp,x.tp,x.flags,x.label,x.bare,x.code,.slice AO x.no cO,.slice AD x.nd cD]] w (qm w pb sb (inT p nr g n x)):=by
 have bd:=qM hg hE
 have ln:=gW hg hE
 rw[←hx]at bd ln
 obtain ⟨l1,l2,l3,l4,l5,l6,l7,l8,_⟩:=ln
 have hkd:x.kind=1∨x.kind=2:=by rw[l3];omega
 obtain ⟨d1,d2,d3,d4,d5,d6,d7⟩:=bd
 obtain ⟨p1,p2,p3,p4,p5⟩:=hp
 have pH:(fx p x.src x.fp).I:=⟨⟨by show _≤x.src;omega,by show x.src≤_;omega⟩,⟨by show _≤x.fp;omega,by show x.fp≤_;omega⟩,⟨by show _≤p.a;omega,by show p.a≤_;omega⟩,⟨by show _≤p.p;omega,by show p.p≤_;omega⟩⟩
 have st:=@qz x
 have su:=qy d6
 have BY:=hid (fun (w':World) (hb:Below w.heap.size w w')=>uJ p sb wb x hkd ⟨p1,p2,p3,p4,p5⟩ AO cO AD cD w' (hS.below hb) (Sl.below hB hb (Nat.le_refl _)) d6 (by omega) oj pH)
 have ST:=hid (fun (w':World) (hb:Below w.heap.size w w')=>(show Calls Tryz.prog 97 #[.slice AO x.no cO] w' fun e w2=>e =.returned (.tuple #[(ct x).1,.int .u32 (ct x).2.1,.int .u32 (ct x).2.2.1,(ct x).2.2.2])∧Below w'.heap.size w' w2 from nR AO x.no cO x.go w' (Sl.below hB hb (Nat.le_refl _)) d6 (by omega) oj))
 have SA:=hid hS
 have HF:=hid hF
 have HX:=hid (fun (w':World) (hb:Below w.heap.size w w')=>(show By w' X n g from Sl.below hX hb (Nat.le_refl _)))
 have PK:=hid (fun (w':World) (hb:Below w.heap.size w w') (hs:Hid (Is w' (some ⟨wb,0,none⟩) 127 (eC p)))=>tZ (some ⟨wb,0,none⟩) 127 (eC p) (fx p x.src x.fp) pH w' hs.out)
 obtain ⟨o,ho⟩:∃o,o=iT p x:=⟨_,rfl⟩
 have HSL:Hid (jJ p x=o.getD (eC p (iQ (fx p x.src x.fp)).toNat)):=hid (by unfold jJ;rw[←ho])
 have I0:Hid (inT p nr g n x=if jJ p x = -1 then c_ 9 nr else ⟨0,jJ p x,o.isSome,n,og p nr g n x (jJ p x).toNat,nr⟩):=hid (by unfold inT;rw[←ho])
 have sV:Hid (jJ p x = -1∨∃k:Nat,k<64∧jJ p x=k):=hid (CZ p x)
 rw[←ho]at BY
 obtain ⟨sl,hsl⟩:∃sl,sl=jJ p x:=⟨_,rfl⟩
 rw[←hsl]at HSL I0 sV
 have PB:=hid (fun (k:Nat) (hk:k<64)=>(show (0≤(p.s k).ad∧(p.s k).ad≤4294967295)∧0≤(p.s k).po∧(p.s k).po≤65535 from ⟨(p1 k hk).1,(p1 k hk).2.1⟩))
 have AG:=hid (iO hE h1)
 have AI:=hid (jj hg (iO hE h1))
 have WN:=hid (fun (k:Nat) (hk:k<64)=>tF hg hE h1 h3 (PB.out k hk).1 (PB.out k hk).2)
 have NI:=hid (fun (k:Nat)=>yp (n:=n) (s:=false) (ad:=(p.s k).ad) (po:=(p.s k).po) hg hE h1)
 have WW:=hid (fun (k:Nat) (hk:k<64) (a:Nat) (v:Int) (hv:0≤v) (hv':v<4294967296) (ha:24≤a) (hL:a+4≤n)=>wT (n:=n) (s:=false) (a:=(a:Int)) (m:=4) (v:=v) hg hE h1 h3 (PB.out k hk).1 (PB.out k hk).2 (.inr ⟨rfl,by omega⟩) hv (by omega) (by omega) (.inr (by omega)))
 have SI:Hid ((ct x).2.2.2=true→∃a:Nat,(ct x).1=a∧2≤a∧24+a+8≤n):=hid (fun h=>by
  obtain ⟨e1,e2,e3⟩:=st h
  refine⟨(ct x).1.toNat,e3,by omega,?_⟩
  by_cases k2:g 0=2
  ·have:=l6 k2;omega
  have:=l7 (by omega);omega)
 have SU:=hid su.2
 have Ao:Hid (∀k,og p nr g n x k=if (ct x).2.2.2=true∧(ct x).2.2.1≠0 then bN (bp (aO g) n false (p.s k).ad (p.s k).po) n (28+(ct x).1.toNat) 4 (fE nr k (ct x).2.2.1) else bp (aO g) n false (p.s k).ad (p.s k).po):=hid (fun k=>rfl)
 have n15:n≤1500:=l2
 have HC:=hid hc
 have IW:=hid hnr
 have S0:Hid (HS [] w w []):=hid HS.start
 clear hS hB hF hX ho hsl hnr hE hx h1 h3 l1 l2 l3 l4 l5 l6 l7 l8 d1 d2 d3 d4 d5 d6 d7 p1 p2 p3 p4 p5 st su hkd pH hc oj
 replace hg:=hid hg
 generalize ct x=z at ST SI SU Ao
 obtain ⟨z1,z2,z3,z4⟩:=z
 dsimp only at ST SI SU Ao
 go_enter Tryz.func46,Tryz.ntmps46
 go_upto_region 1 with (first | ((with_reducible refine ay ?_);refine aS rfl (iF (l:=[x.kind,x.life,x.piece,x.src,x.dst,x.fp,x.tp,x.flags,x.label,x.bare,x.code,.slice AO x.no cO,.slice AD x.nd cD]) rfl rfl (by simp) S0.out ?_);intro E w_ hZ _;have S1:=hid hZ;clear hZ) | ((with_reducible refine ay ?_);refine aS rfl (bZ rfl (px _) (by simp) S1.out ?_);intro U w_ hZ _;have S2:=hid hZ;clear hZ))
 obtain ⟨y0,y1,y2,y3,y4,y5,y6,y7,y8,y9,au,ao,al⟩:=(S2.out.ce 1 rfl).c13
 have hst:=(SA.out.below S2.out.bl).pl
 have q1:=hst.c1
 have q2:=hst.c2
 have hlt:=hst.1
 go_wp2_with fail
 refine(qg p sb x.src x.fp _ q1 q2 hlt).mono ?_
 rintro e w3 ⟨rfl,hb⟩
 have S3:=hid (S2.out.below hb)
 clear hb S0 S1 S2 y0 y1 y2 y3 y4 y5 y6 y7 y8 y9 au ao al q1 q2 hlt hst
 go_simp
 go_upto_region 2 with (first | ((with_reducible refine ay ?_);refine aS rfl (bZ rfl (Fs _) (by simp) S3.out ?_);intro V w_ hZ _;have S4:=hid hZ;clear hZ) | ((with_reducible refine ay ?_);refine aS rfl (aT (A:=[]) [x.src,x.fp,p.a,p.p] rfl rfl (rfl) S4.out rfl Dv rfl ?_);intro w_ hZ;have S5:=hid hZ;clear hZ))
 obtain ⟨y0,y1,y2,y3,y4,y5,y6,y7,y8,y9,au,ao,al⟩:=(S5.out.ce 2 rfl).c13
 obtain ⟨f0,f1,f2,f3⟩:=(S5.out.ce 0 rfl).c4
 go_wp2_with fail
 refine(BY.out _ S5.out.bl).mono ?_
 rintro e w6 ⟨rfl,hb⟩
 have S6:=hid (S5.out.below hb)
 clear hb S3 S4 S5 y0 y1 y2 y3 y4 y5 y6 y7 y8 y9 au ao al f0 f1 f2 f3 BY
 go_simp
 go_upto_if 31 with (fail)
 go_cut [10] from 32 to 37 (fun s wx=>s =.int .i64 sl∧HS [] w wx [aB V [x.src,x.fp,p.a,p.p],aB U [(),(),false,.slice none 0 0],aB E [x.kind,x.life,x.piece,x.src,x.dst,x.fp,x.tp,x.flags,x.label,x.bare,x.code,.slice AO x.no cO,.slice AD x.nd cD]])
 case first=>
  cases o with
  |some s=>
   dsimp only[Option.getD,Option.isSome]
   go_wp2_with fail
   go_meet
   exact⟨by rw[HSL.out];rfl,S6.out⟩
  |none=>
   dsimp only[Option.getD,Option.isSome]
   go_upto_region 4 with (fail)
   refine wp_region_held_drew (S:=fun (w':World)=>HS [] w w' [aB V [x.src,x.fp,p.a,p.p],aB U [(),(),false,.slice none 0 0],aB E [x.kind,x.life,x.piece,x.src,x.dst,x.fp,x.tp,x.flags,x.label,x.bare,x.code,.slice AO x.no cO,.slice AD x.nd cD]]) (by kernel_rfl) ?_ (fun hHeld=>?_)
   ·exact S6.out.drew
   refine ae 0 hHeld ?_
   refine ae 1 hHeld ?_
   refine ae 2 hHeld ?_
   refine ae 3 hHeld ?_ (hy:=by intro w hSw;(try dsimp only at hSw);have x1:=(SA.out.below hSw.bl).sl;go_simp;(try with_reducible rfl))
   refine ae 4 hHeld ?_ (hy:=by intro w hSw;(try dsimp only at hSw);obtain ⟨f0,f1,f2,f3⟩:=(hSw.ce 0 rfl).c4;go_simp;(try with_reducible rfl))
   refine only 5 rfl (by kernel_rfl) rfl (fun K hK=>?_)
   go_simp
   refine(PK.out _ hHeld.bl (hid (SA.out.below hHeld.bl).wh.slice)).mono ?_
   rintro e w7 ⟨rfl,hb⟩
   try go_wp2_with fail
   refine hK.out _ _ (hHeld.below hb) (fun h7=>?_)
   clear hK hb
   try simp only[Act.put,zA,zB,zC]
   refine ae 6 h7 ?_
   have S7:=hid h7
   clear h7 hHeld
   refine wpAnyH_done (by kernel_rfl) ?_ _
   go_wp2_with fail
   go_meet
   exact⟨by rw[HSL.out];rfl,S7.out⟩
 obtain ⟨rfl,hz⟩:=hcut
 have S7:=hid hz
 clear hz S6 PK
 rcases sV.out with rfl |⟨k,hk,rfl⟩
 ·have HR:Hid (inT p nr g n x=c_ 9 nr):=hid (by rw[I0.out,if_pos rfl])
  go_wp2_with fail
  refine(fK 9 _).mono ?_
  rintro e w8 ⟨rfl,hb⟩
  have S8:=hid (S7.out.below hb)
  clear hb S7
  go_simp
  go_wp2_with (((with_reducible refine ay ?_);refine aS rfl (aT (A:=[aB V [x.src,x.fp,p.a,p.p]]) [.int .i64 9,.int .i64 (-1),false,.slice none 0 0] rfl rfl (rfl) S8.out rfl dY rfl ?_);intro w_ hZ;have S9:=hid hZ;clear hZ;(first |refine aW ?_ |refine bP ?_);apply_assumption;refine wp_ret ?_;(repeat refine aV ?_);(show bodyPost _ _ _ _ _ _);exact bodyPost_ret (v:=.agg ([.int .i64 9,.int .i64 (-1),false,.slice none 0 0]:List Value).toArray) (bQ Tryz.results46 _ rfl (S9.out.ce 1 rfl) Tryz.underlying45 rfl dY) rfl (by rw[HR.out];exact⟨none,0,rfl,OB.nil,Nat.le_refl _,HF.out.below S9.out.bl,Ch.of_below S9.out.bl⟩)))
 have HR:Hid (inT p nr g n x=⟨0,(k:Int),o.isSome,n,og p nr g n x k,nr⟩):=hid (by rw[I0.out,if_neg (by omega)];rfl)
 have M6:((k:Int) == -1)=false:=by simp
 have i0:(0:Int)≤k:=by omega
 have i1:(k:Int)<64:=by omega
 have nB:n≤1000000:=by omega
 go_upto_region 8 with (((with_reducible refine ay ?_);refine aS rfl (iF (l:=[.slice X n c,()]) rfl rfl (by simp) S7.out ?_);intro Q w_ hZ _;have S8:=hid hZ;clear hZ))
 go_wp2_with fail
 refine(rF (S8.out.ce 0 rfl) (HX.out _ S8.out.bl) hg.out nB HC.out AG.out).mono ?_
 rintro e w9 ⟨rfl,hw⟩
 obtain ⟨X1,c1,hz,hc1⟩:=HS.way (A:=[]) S8.out hw rfl
 have S9:=hid hz
 have Ar:=hid hc1
 clear hz hc1 hw S8 S7
 go_simp
 go_upto_region 9 with (fail)
 refine wp_region_held_drew (S:=fun (w':World)=>Below w.heap.size w w') (by kernel_rfl) ?_ (fun hHeld=>?_)
 ·exact S9.out.bl.drew
 have F0:=hid S9.out.drew
 refine ae 0 hHeld ?_
 refine ae 1 hHeld ?_
 refine ae 2 hHeld ?_
 refine ae 3 hHeld ?_
 refine ae 4 hHeld ?_
 refine ae 5 hHeld ?_
 refine ae 6 hHeld ?_
 refine ae 7 hHeld ?_
 refine ae 8 hHeld ?_ (hy:=by intro w hSw;(try dsimp only at hSw);obtain ⟨a0,a1,a2,a3,a4⟩:=(SA.out.below hSw).pl.s5 k hk;go_simp;(try with_reducible rfl))
 refine ae 9 hHeld ?_
 refine ae 10 hHeld ?_
 refine ae 11 hHeld ?_
 refine ae 12 hHeld ?_
 refine ae 13 hHeld ?_
 refine ae 14 hHeld ?_
 refine ae 15 hHeld ?_
 refine ae 16 hHeld ?_ (hy:=by intro w hSw;(try dsimp only at hSw);obtain ⟨a0,a1,a2,a3,a4⟩:=(SA.out.below hSw).pl.s5 k hk;go_simp;(try with_reducible rfl))
 refine only 17 rfl (by kernel_rfl) rfl (fun K hK=>?_)
 go_simp
 refine(vA (F0.out.ce 1 rfl) (Ow.sl1 (F0.out.nth 0 rfl)) AI.out nB Ar.out false (p.s k).ad (p.s k).po (WN.out k hk)).mono ?_
 rintro e eW ⟨rfl,hw⟩
 obtain ⟨X2,c2,hz,hc2⟩:=HS.way (A:=[cB w.heap.size 5 1 (.slice X1 n c1) n (fun j=>.int .u8 (aO g j))]) F0.out hw rfl
 try go_wp2_with fail
 refine hK.out _ _ hz.bl (fun _=>?_)
 clear hK hHeld
 try simp only[Act.put,zA,zB,zC]
 have iJ:=hid hz
 have dN:=hid hc2
 clear hz hc2 hw S9 F0
 refine wpAnyH_done (by kernel_rfl) ?_ _
 go_upto_region 10 with (fail)
 obtain ⟨y0,y1,y2,y3,y4,y5,y6,y7,y8,y9,au,ao,al⟩:=(iJ.out.ce 5 rfl).c13
 go_wp2_with fail
 refine(ST.out _ iJ.out.bl).mono ?_
 rintro e pB ⟨rfl,hb⟩
 have gi:=hid (iJ.out.below hb)
 clear hb iJ y0 y1 y2 y3 y4 y5 y6 y7 y8 y9 au ao al ST
 go_simp
 cases z4 with
 |false=>
  have HR2:Hid (inT p nr g n x=⟨0,(k:Int),o.isSome,n,bp (aO g) n false (p.s k).ad (p.s k).po,nr⟩):=hid (by rw[HR.out,Ao.out,if_neg (by simp)])
  go_wp2_with fail
  refine(iW (gi.out.ce 2 rfl) (k:Int) o.isSome).mono ?_
  rintro e jH ⟨rfl,hb⟩
  have eZ:=hid (gi.out.below hb)
  clear hb gi
  unfold gH
  go_simp
  go_wp2_with (((with_reducible refine ay ?_);refine aS rfl (aT (A:=[cB w.heap.size 5 1 (.slice X2 n c2) n (fun j=>.int .u8 (bp (aO g) n false (p.s k).ad (p.s k).po j)),cB w.heap.size 5 1 (.slice X1 n c1) n (fun j=>.int .u8 (aO g j)),aB Q [.slice X2 n c2,()],aB V [x.src,x.fp,p.a,p.p]]) [(),(k:Int),o.isSome,.slice X2 n c2] rfl rfl (rfl) eZ.out rfl dY rfl ?_);intro w_ hZ;have bV:=hid hZ;clear hZ;(first |refine aW ?_ |refine bP ?_);apply_assumption;refine wp_ret ?_;(repeat refine aV ?_);(show bodyPost _ _ _ _ _ _);exact bodyPost_ret (v:=.agg ([(),(k:Int),o.isSome,.slice X2 n c2]:List Value).toArray) (bQ Tryz.results46 _ rfl (bV.out.ce 4 rfl) Tryz.underlying45 rfl dY) rfl (by rw[HR2.out];exact⟨X2,c2,rfl,bV.out.nth 0 rfl,dN.out,HF.out.below bV.out.bl,Ch.of_below bV.out.bl⟩)))
 |true=>
  cases hz3:(z3 != 0)
  ·have HR2:Hid (inT p nr g n x=⟨0,(k:Int),o.isSome,n,bp (aO g) n false (p.s k).ad (p.s k).po,nr⟩):=hid (by rw[HR.out,Ao.out,if_neg (by simp at hz3;simp[hz3])])
   go_wp2_with fail
   refine(iW (gi.out.ce 2 rfl) (k:Int) o.isSome).mono ?_
   rintro e jH ⟨rfl,hb⟩
   have eZ:=hid (gi.out.below hb)
   clear hb gi
   unfold gH
   go_simp
   go_wp2_with (((with_reducible refine ay ?_);refine aS rfl (aT (A:=[cB w.heap.size 5 1 (.slice X2 n c2) n (fun j=>.int .u8 (bp (aO g) n false (p.s k).ad (p.s k).po j)),cB w.heap.size 5 1 (.slice X1 n c1) n (fun j=>.int .u8 (aO g j)),aB Q [.slice X2 n c2,()],aB V [x.src,x.fp,p.a,p.p]]) [(),(k:Int),o.isSome,.slice X2 n c2] rfl rfl (rfl) eZ.out rfl dY rfl ?_);intro w_ hZ;have bV:=hid hZ;clear hZ;(first |refine aW ?_ |refine bP ?_);apply_assumption;refine wp_ret ?_;(repeat refine aV ?_);(show bodyPost _ _ _ _ _ _);exact bodyPost_ret (v:=.agg ([(),(k:Int),o.isSome,.slice X2 n c2]:List Value).toArray) (bQ Tryz.results46 _ rfl (bV.out.ce 4 rfl) Tryz.underlying45 rfl dY) rfl (by rw[HR2.out];exact⟨X2,c2,rfl,bV.out.nth 0 rfl,dN.out,HF.out.below bV.out.bl,Ch.of_below bV.out.bl⟩)))
  have HR1:Hid (og p nr g n x k=bN (bp (aO g) n false (p.s k).ad (p.s k).po) n (28+z1.toNat) 4 (fE nr k z3)):=hid (by rw[Ao.out,if_pos (by simp at hz3;simp[hz3])])
  obtain ⟨a,rfl,a2,a3⟩:=SI.out rfl
  have q1:IntKind.i64.wrap (24+(a:Int))=24+(a:Int):=IntWalk.i64_in _ (by omega)
  have q2:IntKind.i64.wrap (24+(a:Int)+4)=24+(a:Int)+4:=IntWalk.i64_in _ (by omega)
  have HV:=hid (Cu nr k z3)
  have q3:IntKind.i64.wrap (fE nr k z3)=fE nr k z3:=IntWalk.i64_in _ (by have:=HV.out;omega)
  have HW:Hid (fF (bp (aO g) n false (p.s k).ad (p.s k).po) n (24+(a:Int)+4) 4 (fE nr k z3)=0):=hid (by
   have:=WW.out k hk (28+a) (fE nr k z3) HV.out.1 HV.out.2 (by omega) (by omega)
   rwa [show ((28+a:Nat):Int)=24+(a:Int)+4 by omega]at this)
  have HR2:Hid (inT p nr g n x=⟨0,(k:Int),o.isSome,n,bN (bp (aO g) n false (p.s k).ad (p.s k).po) n (24+(a:Int)+4).toNat (4:Int).toNat (fE nr k z3),nr⟩):=hid (by rw[HR.out,HR1.out,Int.toNat_natCast,show (24+(a:Int)+4).toNat=28+a by omega];rfl)
  have BK:=hid (fun (w':World) (hb:Below w.heap.size w w')=>Ie p pb sb nr k hk z3 SU.out IW.out w' (HF.out.below hb))
  go_wp2_with fail
  refine(BK.out _ gi.out.bl).mono ?_
  rintro e sd ⟨rfl,hb⟩
  have kC:=hid (gi.out.below hb)
  clear hb gi BK
  go_simp
  go_wp2_with fail
  refine(kf (kC.out.ce 2 rfl) (Ow.sl1 (kC.out.nth 0 rfl)) (NI.out k) nB dN.out (24+(a:Int)+4) 4 (fE nr k z3) ⟨by omega,by omega⟩ HW.out).mono ?_
  rintro e vB ⟨rfl,hw⟩
  obtain ⟨X3,c3,hz,hc3⟩:=HS.way (A:=[cB w.heap.size 5 1 (.slice X2 n c2) n (fun j=>.int .u8 (bp (aO g) n false (p.s k).ad (p.s k).po j)),cB w.heap.size 5 1 (.slice X1 n c1) n (fun j=>.int .u8 (aO g j))]) kC.out hw rfl
  have de:=hid hz
  have uZ:=hid hc3
  clear hz hc3 hw kC
  go_simp
  go_wp2_with fail
  refine(iW (de.out.ce 3 rfl) (k:Int) o.isSome).mono ?_
  rintro e jH ⟨rfl,hb⟩
  have eZ:=hid (de.out.below hb)
  clear hb de
  unfold gH
  go_simp
  go_wp2_with (((with_reducible refine ay ?_);refine aS rfl (aT (A:=[cB w.heap.size 5 1 (.slice X3 n c3) n (fun j=>.int .u8 (bN (bp (aO g) n false (p.s k).ad (p.s k).po) n (24+(a:Int)+4).toNat (4:Int).toNat (fE nr k z3) j)),cB w.heap.size 5 1 (.slice X2 n c2) n (fun j=>.int .u8 (bp (aO g) n false (p.s k).ad (p.s k).po j)),cB w.heap.size 5 1 (.slice X1 n c1) n (fun j=>.int .u8 (aO g j)),aB Q [.slice X3 n c3,()],aB V [x.src,x.fp,p.a,p.p]]) [(),(k:Int),o.isSome,.slice X3 n c3] rfl rfl (rfl) eZ.out rfl dY rfl ?_);intro w_ hZ;have bV:=hid hZ;clear hZ;(first |refine aW ?_ |refine bP ?_);apply_assumption;refine wp_ret ?_;(repeat refine aV ?_);(show bodyPost _ _ _ _ _ _);exact bodyPost_ret (v:=.agg ([(),(k:Int),o.isSome,.slice X3 n c3]:List Value).toArray) (bQ Tryz.results46 _ rfl (bV.out.ce 5 rfl) Tryz.underlying45 rfl dY) rfl (by rw[HR2.out];exact⟨X3,c3,rfl,bV.out.nth 0 rfl,uZ.out,HF.out.below bV.out.bl,Ch.of_below bV.out.bl⟩)))
end Go.Proofs.YtalnfkijiehjhaaGreat
namespace Go.Proofs.YtalnfkijiehjhaaGreat
set_option linter.unusedVariables false
set_option linter.unusedSimpArgs false
open Go.RowKit Go.ChangeShapes Go.WideShapes Go.ChangeAt
set_option maxRecDepth 100000
theorem Gb (v c:Int)(hv:ea v)(hc:0≤c∧c<1048576):0≤gk v c∧gk v c<4294967296:=by
 unfold gk;omega
theorem DN (k:Ky)(kd:Int)(f:Fl)(x e T:Int)(hT:T=4096∨T=256):0≤W7 k kd f x e%T∧W7 k kd f x e%T<T:=by rcases hT with rfl |rfl <;> omega
theorem ze (p:Pl)(x:Pk)(s:Nat)(hs:s<64):(x.kind=2→0≤ja p x s∧ja p x s<65536)∧0≤ja p x s∧ja p x s<1048576:=by
 unfold ja ix
 have hx:=kI s (W7 p.r.c x.kind (fx p x.dst x.tp) 64 (p.r.e%4)%64) (by omega) (by omega)
 unfold vF
 split
 ·have:=DN p.r.c x.kind (fx p x.dst x.tp) s (p.r.e%4) 4096 (.inl rfl)
  exact⟨fun h=>by omega,by omega⟩
 have:=DN p.r.c x.kind (fx p x.dst x.tp) s (p.r.e%4) 256 (.inr rfl)
 exact⟨fun h=>by omega,by omega⟩
def mb (v:Int)(j:Nat):Value:=if j=0 then .int .u32 v else .bool true
theorem JI (v:Int):Value.agg #[.int .u32 v,true] =.agg (FA 2 (mb v)):=rfl
theorem Ex {sb:Nat}{nr:Nat→Option Int}(s:Nat)(hs:s<64)(v:Int)(j:Nat):patch (dD sb nr) (2+s*2) 2 (mb v) j=dD sb (m8 nr s v) j:=by
 unfold patch dD qV m8 mb
 by_cases e1:j=2+s*2+1
 ·subst e1
  rw[if_pos (by omega),if_neg (by omega),if_neg (by omega),if_neg (by omega),if_neg (by omega),if_pos (by omega)];rfl
 by_cases e0:j=2+s*2
 ·subst e0
  rw[if_pos (by omega),if_pos (by omega),if_neg (by omega),if_neg (by omega),if_pos (by omega),if_pos (by omega)];rfl
 rw[if_neg (by omega)]
 split
 ·rfl
 split
 ·rfl
 have e:¬(j-2)/2=s:=by omega
 rw[if_neg e]
theorem HS.Il {W w:World}{L:List Th}(h:HS [] W w L)(t:Th)(ht:t.at_ w)(hn:t.bs.Nodup)(hl:∀b,b∈t.bs→b<W.heap.size):HS t.bs W w (t::L):=by
 refine⟨fun x hx=>?_,h.2.1.mono (by simp),?_,fun b hb=>?_⟩
 ·rcases List.mem_cons.1 hx with rfl |hx
  ·exact ht
  exact h.1 x hx
 ·rw[List.flatMap_cons,List.nodup_append]
  refine⟨hn,h.2.2.1,fun a ha b hb e=>?_⟩
  subst e
  have:=hl a ha
  rcases h.2.2.2 a hb with h1 |h1
  ·cases h1
  omega
 rw[List.flatMap_cons]at hb
 rcases List.mem_append.1 hb with hb |hb
 ·exact .inl hb
 rcases h.2.2.2 b hb with h1 |h1
 ·cases h1
 exact .inr h1
theorem z32 (w:World):(zeroValue 83).run Tryz.prog w =.ok (.agg ([.int .u32 0,false]:List Value).toArray) w:=by kernel_rfl
theorem i32:(Tryz.prog.info? 83).map (·.size)=some 2:=by kernel_rfl
theorem wW (v:Int)(w:World):Calls Tryz.prog 101 #[.int .u32 v] w fun x w'=>x =.returned (.agg #[.int .u32 v,true])∧Below w.heap.size w w':=by
 have S0:Hid (HS [] w w []):=hid HS.start
 go_enter Tryz.func101,Tryz.ntmps101
 go_wp2_with (first | ((with_reducible refine ay ?_);refine aS rfl (bZ rfl (z32 _) (by simp) S0.out ?_);intro U w_ hZ _;have S1:=hid hZ;clear hZ) | ((with_reducible refine ay ?_);refine aS rfl (aT (A:=[]) [.int .u32 v,true] rfl rfl (rfl) S1.out rfl i32 rfl ?_);intro w_ hZ;have S9:=hid hZ;clear hZ;(first |refine aW ?_ |refine bP ?_);apply_assumption;refine wp_ret ?_;(repeat refine aV ?_);(show bodyPost _ _ _ _ _ _);exact bodyPost_ret (v:=.agg ([.int .u32 v,true]:List Value).toArray) (bQ Tryz.results101 _ rfl (S9.out.ce 0 rfl) Tryz.underlying83 rfl i32) rfl ⟨rfl,S9.out.bl⟩))
set_option maxHeartbeats 9000000 in
theorem EA (p:Pl)(pb sb wb:Nat)(nr:Nat→Option Int)(g:Nat→Int)(n c:Nat)(x:Pk)(X AO:Option Addr)(cO:Nat)(AD:Option Addr)(cD:Nat)(s:Nat)(hs:s<64)(w:World)(hx:x=aj g n)(hg:az g)(hE:ax g n=0)(h1:1<g 1)(h3:g 0≠3)(hp:Pt p)(hF:Fb w pb 130 (dD sb nr))(hpl:pb≠sb∧pb≠wb)(hS:iz w sb wb p)(hX:By w X n g)(hc:n≤c)(hB:By w AO x.no x.go)(oj:x.no≤cO) :
 Calls Tryz.prog 48 #[.pointer (some ⟨pb,0,none⟩),.pointer (some ⟨sb,0,none⟩),.slice X n c,.agg #[x.kind,x.life,x.piece,x.src,x.dst,x.fp,x.tp,x.flags,x.label,x.bare,x.code,.slice AO x.no cO,.slice AD x.nd cD],(s:Int)] w (qm w pb sb (outT p nr g n x s)):=by
 have bd:=qM hg hE
 have ln:=gW hg hE
 rw[←hx]at bd ln
 obtain ⟨l1,l2,l3,l4,l5,l6,l7,l8,_⟩:=ln
 have hkd:x.kind=1∨x.kind=2:=by rw[l3];omega
 obtain ⟨d1,d2,d3,d4,d5,d6,d7⟩:=bd
 obtain ⟨p1,p2,p3,p4,p5⟩:=hp
 have pH:(fx p x.dst x.tp).I:=⟨⟨by show _≤x.dst;omega,by show x.dst≤_;omega⟩,⟨by show _≤x.tp;omega,by show x.tp≤_;omega⟩,⟨by show _≤p.a;omega,by show p.a≤_;omega⟩,⟨by show _≤p.p;omega,by show p.p≤_;omega⟩⟩
 have st:=@qz x
 have su:=qy d6
 have ob:=ze p x s hs
 have MK:=hid (fun (w':World)=>(show Calls Tryz.prog 99 #[.agg #[p.r.e,.int .u64 p.r.p.a,.int .u64 p.r.p.b,.int .u64 p.r.c.a,.int .u64 p.r.c.b,.int .u64 p.r.n.a,.int .u64 p.r.n.b],x.kind,fu (fx p x.dst x.tp),(s:Int)] w' fun e w2=>e =.returned (.int .i64 (ja p x s))∧Below w'.heap.size w' w2 from by
  unfold ja
  rcases hkd with h |h
  ·rw[h];exact H8 p.r (fx p x.dst x.tp) s pH (by omega) w'
  rw[h];exact H7 p.r (fx p x.dst x.tp) s pH (by omega) w'))
 have ST:=hid (fun (w':World) (hb:Below w.heap.size w w')=>(show Calls Tryz.prog 97 #[.slice AO x.no cO] w' fun e w2=>e =.returned (.tuple #[(ct x).1,.int .u32 (ct x).2.1,.int .u32 (ct x).2.2.1,(ct x).2.2.2])∧Below w'.heap.size w' w2 from nR AO x.no cO x.go w' (Sl.below hB hb (Nat.le_refl _)) d6 (by omega) oj))
 have SA:=hid hS
 have HF:=hid hF
 have HX:=hid (fun (w':World) (hb:Below w.heap.size w w')=>(show By w' X n g from Sl.below hX hb (Nat.le_refl _)))
 have AG:=hid (iO hE h1)
 have AI:=hid (jj hg (iO hE h1))
 have WN:=hid (tF (n:=n) (ad:=p.a) (po:=p.p) hg hE h1 h3 p4 p5)
 have NI:=hid (yp (n:=n) (s:=true) (ad:=p.a) (po:=p.p) hg hE h1)
 have WG:=hid (fun (hk:x.kind=2)=>wT (n:=n) (s:=true) (a:=20) (m:=2) (v:=ja p x s) hg hE h1 h3 p4 p5 (.inl ⟨rfl,by have:=ob.1 hk;omega⟩) ob.2.1 (by omega) (by omega) (.inl (by omega)))
 have WS:=hid (fun (a:Nat) (v:Int) (hv:0≤v) (hv':v<4294967296) (ha:24≤a) (hL:a+4≤n)=>wT (n:=n) (s:=true) (a:=(a:Int)) (m:=4) (v:=v) hg hE h1 h3 p4 p5 (.inr ⟨rfl,by omega⟩) hv (by omega) (by omega) (.inr (by omega)))
 have SI:Hid ((ct x).2.2.2=true→∃a:Nat,(ct x).1=a∧2≤a∧24+a+8≤n):=hid (fun h=>by
  obtain ⟨e1,e2,e3⟩:=st h
  refine⟨(ct x).1.toNat,e3,by omega,?_⟩
  by_cases k2:g 0=2
  ·have:=l6 k2;omega
  have:=l7 (by omega);omega)
 have SG:Hid (x.kind=2→(ct x).2.2.2=false):=hid (fun h=>by
  cases hq:(ct x).2.2.2
  ·rfl
  have:=(st hq).2.1;have:=l6 (by omega);omega)
 have SU:=hid su.1
 have OB:=hid ob.2
 have HO:Hid (outT p nr g n x s=if x.kind=2 then ⟨0,-1,false,n,bN (bp (aO g) n true p.a p.p) n 20 2 (ja p x s),nr⟩ else if (ct x).2.2.2=true then ⟨0,-1,false,n,bN (bp (aO g) n true p.a p.p) n (24+(ct x).1.toNat) 4 (gk (ct x).2.1 (ja p x s)),m8 nr s (ct x).2.1⟩ else ⟨0,-1,false,n,bp (aO g) n true p.a p.p,nr⟩):=hid rfl
 have nB:n≤1000000:=by omega
 have HC:=hid hc
 have Lp:=hid hpl
 have i0:(0:Int)≤s:=by omega
 have i1:(s:Int)<64:=by omega
 have S0:Hid (HS [] w w []):=hid HS.start
 clear hS hB hF hX hE hx h1 h3 l1 l2 l3 l4 l5 l6 l7 l8 d1 d2 d3 d4 d5 d6 d7 p1 p2 p3 p4 p5 st su hkd pH hc oj ob hpl
 replace hg:=hid hg
 generalize ct x=z at ST SI SU HO SG
 obtain ⟨z1,z2,z3,z4⟩:=z
 dsimp only at ST SI SU HO SG
 generalize ja p x s=ck at MK WG OB HO
 go_enter Tryz.func48,Tryz.ntmps48
 go_upto_region 1 with (first | ((with_reducible refine ay ?_);refine aS rfl (iF (l:=[x.kind,x.life,x.piece,x.src,x.dst,x.fp,x.tp,x.flags,x.label,x.bare,x.code,.slice AO x.no cO,.slice AD x.nd cD]) rfl rfl (by simp) S0.out ?_);intro E w_ hZ _;have S1:=hid hZ;clear hZ) | ((with_reducible refine ay ?_);refine aS rfl (bZ rfl (px _) (by simp) S1.out ?_);intro U w_ hZ _;have S2:=hid hZ;clear hZ))
 refine wp_region_held_drew (S:=fun (w':World)=>HS [] w w' [aB U [(),(),false,.slice none 0 0],aB E [x.kind,x.life,x.piece,x.src,x.dst,x.fp,x.tp,x.flags,x.label,x.bare,x.code,.slice AO x.no cO,.slice AD x.nd cD]]) (by kernel_rfl) ?_ (fun hHeld=>?_)
 ·exact S2.out.drew
 refine ae 0 hHeld ?_
 refine ae 1 hHeld ?_
 refine ae 2 hHeld ?_
 refine ae 3 hHeld ?_
 refine ae 4 hHeld ?_ (hy:=by intro w hSw;(try dsimp only at hSw);obtain ⟨r0,r1,r2,r3,r4,r5,r6⟩:=(SA.out.below hSw.bl).pl.r7;go_simp;(try with_reducible rfl))
 refine ae 5 hHeld ?_
 refine ae 6 hHeld ?_ (hy:=by intro w hSw;(try dsimp only at hSw);obtain ⟨y0,y1,y2,y3,y4,y5,y6,y7,y8,y9,au,ao,al⟩:=(hSw.ce 1 rfl).c13;go_simp;(try with_reducible rfl))
 refine ae 7 hHeld ?_
 refine ae 8 hHeld ?_
 refine ae 9 hHeld ?_ (hy:=by intro w hSw;(try dsimp only at hSw);obtain ⟨y0,y1,y2,y3,y4,y5,y6,y7,y8,y9,au,ao,al⟩:=(hSw.ce 1 rfl).c13;go_simp;(try with_reducible rfl))
 refine ae 10 hHeld ?_
 refine ae 11 hHeld ?_ (hy:=by intro w hSw;(try dsimp only at hSw);obtain ⟨y0,y1,y2,y3,y4,y5,y6,y7,y8,y9,au,ao,al⟩:=(hSw.ce 1 rfl).c13;go_simp;(try with_reducible rfl))
 refine ae 13 hHeld ?_
 refine only 12 rfl (by kernel_rfl) rfl (fun K hK=>?_)
 go_simp
 refine(qg p sb x.dst x.tp _ (SA.out.below hHeld.bl).pl.c1 (SA.out.below hHeld.bl).pl.c2 (SA.out.below hHeld.bl).pl.1).mono ?_
 rintro e w3 ⟨rfl,hb⟩
 try go_wp2_with fail
 refine hK.out _ _ (hHeld.below hb) (fun h3=>?_)
 clear hK hb hHeld
 try simp only[Act.put,zA,zB,zC]
 refine only 14 rfl (by kernel_rfl) rfl (fun K hK=>?_)
 go_simp
 refine(MK.out _).mono ?_
 rintro e w4 ⟨rfl,hb⟩
 try go_wp2_with fail
 refine hK.out _ _ (h3.below hb) (fun h4=>?_)
 clear hK hb h3
 try simp only[Act.put,zA,zB,zC]
 refine ae 15 h4 ?_
 have S4:=hid h4
 clear h4 S0 S1 S2 MK
 refine wpAnyH_done (by kernel_rfl) ?_ _
 go_upto_region 3 with (((with_reducible refine ay ?_);refine aS rfl (iF (l:=[.slice X n c,()]) rfl rfl (by simp) S4.out ?_);intro Q w_ hZ _;have S5:=hid hZ;clear hZ))
 go_wp2_with fail
 refine(rF (S5.out.ce 0 rfl) (HX.out _ S5.out.bl) hg.out nB HC.out AG.out).mono ?_
 rintro e w9 ⟨rfl,hw⟩
 obtain ⟨X1,c1,hz,hc1⟩:=HS.way (A:=[]) S5.out hw rfl
 have S9:=hid hz
 have Ar:=hid hc1
 clear hz hc1 hw S4 S5
 go_simp
 go_upto_region 4 with (fail)
 refine wp_region_held_drew (S:=fun (w':World)=>Below w.heap.size w w') (by kernel_rfl) ?_ (fun hHeld=>?_)
 ·exact S9.out.bl.drew
 have F0:=hid S9.out.drew
 refine ae 0 hHeld ?_
 refine ae 1 hHeld ?_
 refine ae 2 hHeld ?_
 refine ae 3 hHeld ?_
 refine ae 4 hHeld ?_
 refine ae 5 hHeld ?_ (hy:=by intro w hSw;(try dsimp only at hSw);have x1:=(SA.out.below hSw).pl.c1;go_simp;(try with_reducible rfl))
 refine ae 6 hHeld ?_
 refine ae 7 hHeld ?_
 refine ae 8 hHeld ?_
 refine ae 9 hHeld ?_
 refine ae 10 hHeld ?_ (hy:=by intro w hSw;(try dsimp only at hSw);have x2:=(SA.out.below hSw).pl.c2;go_simp;(try with_reducible rfl))
 refine only 11 rfl (by kernel_rfl) rfl (fun K hK=>?_)
 go_simp
 refine(vA (F0.out.ce 1 rfl) (Ow.sl1 (F0.out.nth 0 rfl)) AI.out nB Ar.out true p.a p.p WN.out).mono ?_
 rintro e eW ⟨rfl,hw⟩
 obtain ⟨X2,c2,hz,hc2⟩:=HS.way (A:=[cB w.heap.size 5 1 (.slice X1 n c1) n (fun j=>.int .u8 (aO g j))]) F0.out hw rfl
 try go_wp2_with fail
 refine hK.out _ _ hz.bl (fun _=>?_)
 clear hK hHeld
 try simp only[Act.put,zA,zB,zC]
 have iJ:=hid hz
 have dN:=hid hc2
 clear hz hc2 hw S9 F0
 refine wpAnyH_done (by kernel_rfl) ?_ _
 go_upto_region 5 with (fail)
 obtain ⟨y0,y1,y2,y3,y4,y5,y6,y7,y8,y9,au,ao,al⟩:=(iJ.out.ce 4 rfl).c13
 go_wp2_with fail
 refine(ST.out _ iJ.out.bl).mono ?_
 rintro e pB ⟨rfl,hb⟩
 have gi:=hid (iJ.out.below hb)
 clear hb iJ y0 y1 y2 y3 y4 y5 y6 y7 y8 y9 au ao al ST
 go_simp
 obtain ⟨y0,y1,y2,y3,y4,y5,y6,y7,y8,y9,au,ao,al⟩:=(gi.out.ce 4 rfl).c13
 cases k2:(x.kind==2)
 ·cases z4 with
  |false=>
   have HR2:Hid (outT p nr g n x s=⟨0,-1,false,n,bp (aO g) n true p.a p.p,nr⟩):=hid (by rw[HO.out,if_neg (by simpa using k2),if_neg (by simp)])
   go_wp2_with fail
   refine(iW (gi.out.ce 2 rfl) (-1) false).mono ?_
   rintro e jH ⟨rfl,hb⟩
   have eZ:=hid (gi.out.below hb)
   clear hb gi
   unfold gH
   go_simp
   go_wp2_with (((with_reducible refine ay ?_);refine aS rfl (aT (A:=[cB w.heap.size 5 1 (.slice X2 n c2) n (fun j=>.int .u8 (bp (aO g) n true p.a p.p j)),cB w.heap.size 5 1 (.slice X1 n c1) n (fun j=>.int .u8 (aO g j)),aB Q [.slice X2 n c2,()]]) [(),.int .i64 (-1),false,.slice X2 n c2] rfl rfl (rfl) eZ.out rfl dY rfl ?_);intro w_ hZ;have bV:=hid hZ;clear hZ;(first |refine aW ?_ |refine bP ?_);apply_assumption;refine wp_ret ?_;(repeat refine aV ?_);(show bodyPost _ _ _ _ _ _);exact bodyPost_ret (v:=.agg ([(),.int .i64 (-1),false,.slice X2 n c2]:List Value).toArray) (bQ Tryz.results48 _ rfl (bV.out.ce 3 rfl) Tryz.underlying45 rfl dY) rfl (by rw[HR2.out];exact⟨X2,c2,rfl,bV.out.nth 0 rfl,dN.out,HF.out.below bV.out.bl,Ch.of_below bV.out.bl⟩)))
  |true=>
   obtain ⟨a,rfl,a2,a3⟩:=SI.out rfl
   have q1:IntKind.i64.wrap (24+(a:Int))=24+(a:Int):=IntWalk.i64_in _ (by omega)
   have HV:=hid (Gb z2 ck SU.out OB.out)
   have q3:IntKind.i64.wrap (gk z2 ck)=gk z2 ck:=IntWalk.i64_in _ (by have:=HV.out;omega)
   have HW:Hid (fF (bp (aO g) n true p.a p.p) n (24+(a:Int)) 4 (gk z2 ck)=0):=hid (by
    have:=WS.out (24+a) (gk z2 ck) HV.out.1 HV.out.2 (by omega) (by omega)
    rwa [show ((24+a:Nat):Int)=24+(a:Int) by omega]at this)
   have HR2:Hid (outT p nr g n x s=⟨0,-1,false,n,bN (bp (aO g) n true p.a p.p) n (24+(a:Int)).toNat (4:Int).toNat (gk z2 ck),m8 nr s z2⟩):=hid (by rw[HO.out,if_neg (by simpa using k2),if_pos rfl,Int.toNat_natCast,show (24+(a:Int)).toNat=24+a by omega];rfl)
   have PT:=hid (fun (w':World)=>Et z2 ck SU.out OB.out w')
   go_wp2_with fail
   refine(PT.out _).mono ?_
   rintro e sd ⟨rfl,hb⟩
   have kC:=hid (gi.out.below hb)
   clear hb gi PT y0 y1 y2 y3 y4 y5 y6 y7 y8 y9 au ao al
   go_simp
   go_wp2_with fail
   refine(kf (kC.out.ce 2 rfl) (Ow.sl1 (kC.out.nth 0 rfl)) NI.out nB dN.out (24+(a:Int)) 4 (gk z2 ck) ⟨by omega,by omega⟩ HW.out).mono ?_
   rintro e vB ⟨rfl,hw⟩
   obtain ⟨X3,c3,hz,hc3⟩:=HS.way (A:=[cB w.heap.size 5 1 (.slice X2 n c2) n (fun j=>.int .u8 (bp (aO g) n true p.a p.p j)),cB w.heap.size 5 1 (.slice X1 n c1) n (fun j=>.int .u8 (aO g j))]) kC.out hw rfl
   have de:=hid hz
   have uZ:=hid hc3
   clear hz hc3 hw kC
   go_simp
   obtain ⟨v0,v1⟩:=(de.out.ce 3 rfl).c2
   go_upto_region 11 with (fail)
   clear v0 v1
   refine wp_region_held_drew (S:=fun _=>True) (by kernel_rfl) ?_ (fun hHeld=>?_)
   ·trivial
   have F0:=de.out.drew
   refine ae 0 hHeld ?_
   refine ae 1 hHeld ?_
   refine ae 2 hHeld ?_
   refine ae 4 hHeld ?_
   refine ae 5 hHeld ?_
   refine only 3 rfl (by kernel_rfl) rfl (fun K hK=>?_)
   go_simp
   refine(wW z2 _).mono ?_
   rintro e J9 ⟨rfl,hb⟩
   try go_wp2_with fail
   have Hp:=F0.below hb
   refine hK.out _ _ trivial (fun _=>?_)
   clear hK hb F0
   try simp only[Act.put,zA,zB,zC]
   refine ae 6 trivial ?_
   refine only 7 rfl (by kernel_rfl) rfl (fun K hK=>?_)
   have hP:Fb J9 pb 130 (dD sb nr):=HF.out.below Hp.bl
   have hA:=HS.Il Hp (aP pb 130 (dD sb nr)) hP (by simp[aP]) (fun b hb=>by simp[aP]at hb;subst hb;exact HF.out.1)
   refine lk (A:=[]) (2+s*2) 2 (mb z2) (dD sb (m8 nr s z2)) rfl rfl (JI z2) hA (by omega) (fun j hj=>Ex s hs z2 j) i32 (fun j=>by unfold mb;split <;> rfl) (fun ew hZ=>?_)
   refine hK.out _ _ trivial (fun _=>?_)
   clear hK hHeld hP hA Hp
   try simp only[Act.put,zA,zB,zC]
   have Iw:=hid hZ
   clear hZ de
   refine wpAnyH_done (by kernel_rfl) ?_ _
   go_wp2_with fail
   refine(iW (Iw.out.ce 4 rfl) (-1) false).mono ?_
   rintro e jH ⟨rfl,hb⟩
   have eZ:=hid (Iw.out.below hb)
   clear hb Iw
   unfold gH
   go_simp
   go_wp2_with (((with_reducible refine ay ?_);refine aS rfl (aT (A:=[aP pb 130 (dD sb (m8 nr s z2)),cB w.heap.size 5 1 (.slice X3 n c3) n (fun j=>.int .u8 (bN (bp (aO g) n true p.a p.p) n (24+(a:Int)).toNat (4:Int).toNat (gk z2 ck) j)),cB w.heap.size 5 1 (.slice X2 n c2) n (fun j=>.int .u8 (bp (aO g) n true p.a p.p j)),cB w.heap.size 5 1 (.slice X1 n c1) n (fun j=>.int .u8 (aO g j)),aB Q [.slice X3 n c3,()]]) [(),.int .i64 (-1),false,.slice X3 n c3] rfl rfl (rfl) eZ.out rfl dY rfl ?_);intro w_ hZ;have bV:=hid hZ;clear hZ;(first |refine aW ?_ |refine bP ?_);apply_assumption;refine wp_ret ?_;(repeat refine aV ?_);(show bodyPost _ _ _ _ _ _);exact bodyPost_ret (v:=.agg ([(),.int .i64 (-1),false,.slice X3 n c3]:List Value).toArray) (bQ Tryz.results48 _ rfl (bV.out.ce 5 rfl) Tryz.underlying45 rfl dY) rfl (by rw[HR2.out];exact⟨X3,c3,rfl,bV.out.nth 1 rfl,uZ.out,bV.out.fb 0 rfl,bV.out.ch⟩)))
 have HR2:Hid (outT p nr g n x s=⟨0,-1,false,n,bN (bp (aO g) n true p.a p.p) n 20 2 ck,nr⟩):=hid (by rw[HO.out,if_pos (by simpa using k2)])
 have Nf:=SG.out (by simpa using k2)
 subst Nf
 go_wp2_with fail
 refine(kf (gi.out.ce 2 rfl) (Ow.sl1 (gi.out.nth 0 rfl)) NI.out nB dN.out 20 2 ck ⟨by omega,by omega⟩ (WG.out (by simpa using k2))).mono ?_
 rintro e vB ⟨rfl,hw⟩
 obtain ⟨X3,c3,hz,hc3⟩:=HS.way (A:=[cB w.heap.size 5 1 (.slice X2 n c2) n (fun j=>.int .u8 (bp (aO g) n true p.a p.p j)),cB w.heap.size 5 1 (.slice X1 n c1) n (fun j=>.int .u8 (aO g j))]) gi.out hw rfl
 have de:=hid hz
 have uZ:=hid hc3
 clear hz hc3 hw gi y0 y1 y2 y3 y4 y5 y6 y7 y8 y9 au ao al
 go_simp
 go_wp2_with fail
 refine(iW (de.out.ce 3 rfl) (-1) false).mono ?_
 rintro e jH ⟨rfl,hb⟩
 have eZ:=hid (de.out.below hb)
 clear hb de
 unfold gH
 go_simp
 go_wp2_with (((with_reducible refine ay ?_);refine aS rfl (aT (A:=[cB w.heap.size 5 1 (.slice X3 n c3) n (fun j=>.int .u8 (bN (bp (aO g) n true p.a p.p) n (20:Int).toNat (2:Int).toNat ck j)),cB w.heap.size 5 1 (.slice X2 n c2) n (fun j=>.int .u8 (bp (aO g) n true p.a p.p j)),cB w.heap.size 5 1 (.slice X1 n c1) n (fun j=>.int .u8 (aO g j)),aB Q [.slice X3 n c3,()]]) [(),.int .i64 (-1),false,.slice X3 n c3] rfl rfl (rfl) eZ.out rfl dY rfl ?_);intro w_ hZ;have bV:=hid hZ;clear hZ;(first |refine aW ?_ |refine bP ?_);apply_assumption;refine wp_ret ?_;(repeat refine aV ?_);(show bodyPost _ _ _ _ _ _);exact bodyPost_ret (v:=.agg ([(),.int .i64 (-1),false,.slice X3 n c3]:List Value).toArray) (bQ Tryz.results48 _ rfl (bV.out.ce 4 rfl) Tryz.underlying45 rfl dY) rfl (by rw[HR2.out];exact⟨X3,c3,rfl,bV.out.nth 0 rfl,uZ.out,HF.out.below bV.out.bl,Ch.of_below bV.out.bl⟩)))
end Go.Proofs.YtalnfkijiehjhaaGreat
namespace Go.Proofs.YtalnfkijiehjhaaGreat
set_option linter.unusedVariables false
set_option linter.unusedSimpArgs false
open Go.RowKit Go.ChangeShapes Go.WideShapes Go.ChangeAt
set_option maxRecDepth 100000
theorem qn (w:World):(zeroValue 53).run Tryz.prog w =.ok (.agg ([(),(),(),(),(),(),(),(),(),false,(),.slice none 0 0,.slice none 0 0]:List Value).toArray) w:=by kernel_rfl
theorem lq:(Tryz.prog.info? 53).map (·.size)=some 13:=by kernel_rfl
theorem lv (A:Option Addr)(up:Bool)(w:World):Calls Tryz.prog 41 #[.agg #[.pointer A,up]] w fun x w'=>x =.returned (.tuple #[.pointer A,up])∧Below w.heap.size w w':=by
 go_enter Tryz.func41,Tryz.ntmps41
 go_wp2_with fail
 go_quiet (fail)
 go_wp2_with fail
 go_ret2
 exact⟨rfl,below_drewN ((Below.refl _ _).alloc (Nat.le_refl _) _) _⟩
theorem HS.took {w w1 w2:World}{L:List Th}{pb sb:Nat}{nr:Nat→Option Int}{t:To}{e:Ending}(h:HS [] w w1 L)(hF:Fb w1 pb 130 (dD sb nr))(hpb:pb<w.heap.size)(hT:qm w1 pb sb t e w2) :
 ∃X c,e =.returned (gH t.d t.s t.c (.slice X t.n c))∧HS [pb] w w2 (cB w.heap.size 5 1 (.slice X t.n c) t.n (fun j=>.int .u8 (t.f j))::aP pb 130 (dD sb t.nr)::L)∧t.n≤c:=by
 obtain ⟨X,c,he,hO,hc,hF2,hch⟩:=hT
 refine⟨X,c,he,?_,hc⟩
 have hA:HS [pb] w w1 (aP pb 130 (dD sb nr)::L):=HS.Il h (aP pb 130 (dD sb nr)) hF (by simp[aP]) (fun b hb=>by simp[aP]at hb;subst hb;exact hpb)
 have h2:HS [pb] w w2 (aP pb 130 (dD sb t.nr)::L):=HS.upd (A:=[]) hA (aP pb 130 (dD sb t.nr)) rfl hch hF2
 have Hg:Ow w2 w.heap.size 5 1 (.slice X t.n c) t.n (fun j=>.int .u8 (t.f j)):=OB.base hO h.kJ
 have hlt:∀b,b∈(aP pb 130 (dD sb t.nr)::L).flatMap Th.bs→b<w1.heap.size:=fun b hb=>by
  rw[List.flatMap_cons]at hb
  rcases List.mem_append.1 hb with hb |hb
  ·simp[aP]at hb;subst hb;exact hF.1
  obtain ⟨t,ht,htb⟩:=List.mem_flatMap.1 hb
  exact t.lt w1 (h.1 t ht) b htb
 have hge:∀b,b∈(cB w.heap.size 5 1 (.slice X t.n c) t.n (fun j=>.int .u8 (t.f j))).bs→w1.heap.size≤b:=fun b hb=>(World.ownsRow.lt hO b (by simpa [cB]using hb)).1
 refine⟨fun u hu=>?_,h2.2.1,?_,fun b hb=>?_⟩
 ·rcases List.mem_cons.1 hu with rfl |hu
  ·exact Hg
  exact h2.1 u hu
 ·rw[List.flatMap_cons,List.nodup_append]
  refine⟨by unfold cB;dsimp only;cases (Value.slice X t.n c).ownBlock <;> simp,h2.2.2.1,fun a ha b hb e=>?_⟩
  subst e
  have:=hlt a hb
  have:=hge a ha
  omega
 rw[List.flatMap_cons]at hb
 rcases List.mem_append.1 hb with hb |hb
 ·exact .inr (Nat.le_trans h.kJ (hge b hb))
 exact h2.2.2.2 b hb
def fS (B:Nat)(O D:Value)(no nd:Nat)(go gd:Nat→Int):Th:=⟨fun w=>Ow w B 5 1 O no (fun j=>.int .u8 (go j))∧Ow w B 5 1 D nd (fun j=>.int .u8 (gd j)),if O.ownBlock=D.ownBlock then O.ownBlock.toList else O.ownBlock.toList++D.ownBlock.toList,
 fun w w' h e=>⟨(cB B 5 1 O no (fun j=>.int .u8 (go j))).keep w w' h.1 (fun b hb=>e b (by dsimp only[cB]at hb;split;exact hb;exact List.mem_append.2 (.inl hb))),(cB B 5 1 D nd (fun j=>.int .u8 (gd j))).keep w w' h.2 (fun b hb=>e b (by dsimp only[cB]at hb;split;rename_i h;rw[h];exact hb;exact List.mem_append.2 (.inr hb)))⟩,
 fun w h b hb=>by
  split at hb
  ·exact(cB B 5 1 O no (fun j=>.int .u8 (go j))).lt w h.1 b hb
  rcases List.mem_append.1 hb with hb |hb
  ·exact(cB B 5 1 O no (fun j=>.int .u8 (go j))).lt w h.1 b hb
  exact(cB B 5 1 D nd (fun j=>.int .u8 (gd j))).lt w h.2 b hb⟩
theorem HS.xu {S:List Nat}{W w w':World}{L:List Th}{O D:Value}{no nd B:Nat}{go gd:Nat→Int}(h:HS S W w L)(hb:Below w.heap.size w w')(hO:OB w' B O no go)(hD:OB w' B D nd gd)(hB:B=w.heap.size):HS S W w' (fS B O D no nd go gd::L):=by
 subst hB
 have gO:∀b,b∈O.ownBlock.toList→w.heap.size≤b:=fun b hb=>(World.ownsRow.lt hO b (by simpa using hb)).1
 have gD:∀b,b∈D.ownBlock.toList→w.heap.size≤b:=fun b hb=>(World.ownsRow.lt hD b (by simpa using hb)).1
 refine h.new (fS w.heap.size O D no nd go gd) hb ⟨hO,hD⟩ ?_ (fun b hb=>?_)
 ·dsimp only[fS]
  split
  ·cases O.ownBlock <;> simp
  rename_i hne
  cases h1:O.ownBlock <;> cases h2:D.ownBlock <;> simp
  intro e;exact hne (by rw[h1,h2,e])
 dsimp only[fS]at hb
 split at hb
 ·exact gO b hb
 rcases List.mem_append.1 hb with hb |hb
 ·exact gO b hb
 exact gD b hb
theorem wy {p:Pl}{a q:Int}{s:Nat}(h:fD p a q=some s):s<64:=by
 unfold fD at h
 have:=List.mem_of_find?_eq_some h
 simpa using this
theorem gC {l:Nat}{Q:Exit→Act→World→Prop}{a:Act}{w:World}(h:Q .ret a w):Exit.inBlock l Q .ret a w:=h
attribute [local irreducible] PA
set_option maxHeartbeats 9000000 in
theorem tJ (p:Pl)(pb sb wb:Nat)(nr:Nat→Option Int)(g:Nat→Int)(n c:Nat)(X:Option Addr)(w:World)(hg:az g)(hn:n≤1000000)(h3:ax g n=0→g 0≠3)(hp:Pt p)(hnr:mB nr)(hF:Fb w pb 130 (dD sb nr))(hpl:pb≠sb∧pb≠wb)(hS:iz w sb wb p)(hX:By w X n g)(hc:n≤c) :
 Calls Tryz.prog 16 #[.pointer (some ⟨pb,0,none⟩),.slice X n c] w (qm w pb sb (df p true nr g n)):=by
 have PS:=hid (fun (w':World) (hb:Below w.heap.size w w')=>ig X n c g w' (Sl.below hX hb (Nat.le_refl _)) hg hc hn)
 have SA:=hid hS
 have HF:=hid hF
 have HX:=hid (fun (w':World) (hb:Below w.heap.size w w')=>(show By w' X n g from Sl.below hX hb (Nat.le_refl _)))
 have HG:=hid hg
 have HP:=hid hp
 have IW:=hid hnr
 have HC:=hid hc
 have H3:=hid h3
 have Lp:=hid hpl
 have S0:Hid (HS [] w w []):=hid HS.start
 clear hS hF hX hg hp hnr hc h3 hpl
 go_enter Tryz.func16,Tryz.ntmps16
 go_upto_region 1 with ((with_reducible refine ay ?_);refine aS rfl (bZ rfl (px _) (by simp) S0.out ?_);intro U w_ hZ _;have S1:=hid hZ;clear hZ)
 have hF1:=HF.out.below S1.out.bl
 have c0:w_.cell? ⟨pb,0,none⟩=some (.pointer (some ⟨sb,0,none⟩)):=hF1.2.1 0 (by omega)
 have c1:w_.cell? ⟨pb,1,none⟩=some (.bool true):=hF1.2.1 1 (by omega)
 clear hF1
 go_wp2_with fail
 refine(lv (some ⟨sb,0,none⟩) true _).mono ?_
 rintro e w2 ⟨rfl,hb⟩
 have S2:=hid (S1.out.below hb)
 clear hb S0 S1 c0 c1
 go_simp
 go_wp2_with fail
 refine(PS.out _ S2.out.bl).mono ?_
 rintro e w3 ⟨O,D,rfl,hO,hD,hb⟩
 have S3:=hid (S2.out.xu hb hO hD rfl)
 obtain ⟨AO,cO,rfl,oj,_,_⟩:=hO.aD
 obtain ⟨AD,cD,rfl,_,_,_⟩:=hD.aD
 have sU:=hid oj
 clear hb S2 PS hO hD oj
 obtain ⟨x,hx⟩:∃x,x=aj g n:=⟨_,rfl⟩
 obtain ⟨E,hE⟩:∃E,E=ax g n:=⟨_,rfl⟩
 have HT:Hid (df p true nr g n=if E≠0 then c_ E nr else if x.piece≠0 then c_ 6 nr else if x.life≤1 then c_ 7 nr else if x.dst=p.a∧x.kind=3 then iZ p nr g n x else if x.dst=p.a∧x.tp=p.p then inT p nr g n x else if x.kind=3 then c_ 8 nr else match fD p x.src x.fp with |none=>c_ 8 nr |some s=>outT p nr g n x s):=hid (by rw[hx,hE];unfold df;rw[if_neg (by simp)];rfl)
 rw[←hx]at S3 sU
 rw[←hx,←hE]
 unfold bS cC
 have XX:=hid hx
 have EE:=hid hE
 clear hx hE
 go_simp
 go_upto_region 5 with (first | ((with_reducible refine ay ?_);refine aS rfl (bZ rfl (qn _) (by simp) S3.out ?_);intro E1 w_ hZ _;have S4:=hid hZ;clear hZ) | ((with_reducible refine ay ?_);refine aS rfl (aT (A:=[]) [x.kind,x.life,x.piece,x.src,x.dst,x.fp,x.tp,x.flags,x.label,x.bare,x.code,.slice AO x.no cO,.slice AD x.nd cD] rfl rfl (rfl) S4.out rfl lq rfl ?_);intro w_ hZ;have S5:=hid hZ;clear hZ))
 clear S3
 cases e0:(E != 0)
 ·have E0:E=0:=by simpa using e0
  obtain ⟨y0,y1,y2,y3,y4,y5,y6,y7,y8,y9,au,ao,al⟩:=(S5.out.ce 0 rfl).c13
  have KD:=hid (H3.out (by rw[←EE.out,E0]))
  have LN:=hid (gW HG.out (by rw[←EE.out,E0]))
  rw[←XX.out]at LN
  have k3:(x.kind==3)=false:=by
   have h1:=LN.out.2.2.1
   have h2:=KD.out
   rw[←h1]at h2
   simpa using h2
  cases e2:(x.piece != 0)
  ·cases e1:decide (x.life≤1)
   ·have h1:¬x.life≤1:=by simpa using e1
    have H1:Hid (1<g 1):=hid (by have:=LN.out.2.2.2.1;omega)
    have HT2:Hid (df p true nr g n=if x.dst=p.a∧x.tp=p.p then inT p nr g n x else match fD p x.src x.fp with |none=>c_ 8 nr |some s=>outT p nr g n x s):=hid (by
     have gp:¬x.kind=3:=by simpa using k3
     rw[HT.out,if_neg (by simpa using E0),if_neg (by simpa using e2),if_neg h1,if_neg (fun h=>gp h.2),if_neg gp])
    have CM:=hid (fun (w':World) (hb:Below w.heap.size w w')=>(show Calls Tryz.prog 44 #[.pointer (some ⟨sb,0,none⟩),.agg #[x.kind,x.life,x.piece,x.src,x.dst,x.fp,x.tp,x.flags,x.label,x.bare,x.code,.slice AO x.no cO,.slice AD x.nd cD]] w' fun e w2=>e =.returned (.bool (x.dst==p.a&&x.tp==p.p))∧Below w'.heap.size w' w2 from by
     have h:=sK p sb x AO cO AD cD w' (SA.out.below hb).pl.c1 (SA.out.below hb).pl.c2 (SA.out.below hb).pl.1
     rw[k3,Bool.false_or]at h
     exact h))
    have OC:=hid (fun (w':World) (hb:Below w.heap.size w w') (zx:Hid (By w' AO x.no x.go))=>GN p pb sb wb nr g n c x X AO cO AD cD w' XX.out HG.out (by rw[←EE.out,E0]) H1.out KD.out HP.out IW.out (HF.out.below hb) (SA.out.below hb) (HX.out w' hb) HC.out zx.out sU.out)
    have Ox:=hid (fun (s:Nat) (hs:s<64) (w':World) (hb:Below w.heap.size w w') (zx:Hid (By w' AO x.no x.go))=>EA p pb sb wb nr g n c x X AO cO AD cD s hs w' XX.out HG.out (by rw[←EE.out,E0]) H1.out KD.out HP.out (HF.out.below hb) Lp.out (SA.out.below hb) (HX.out w' hb) HC.out zx.out sU.out)
    have FD:=hid (fun (w':World)=>(show Calls Tryz.prog 47 #[.agg (PA p),x.src,x.fp] w' fun e w2=>e =.returned (.tuple #[((fD p x.src x.fp).getD 0:Nat),(fD p x.src x.fp).isSome])∧Below w'.heap.size w' w2 from Cj p HP.out.2.2.1 x.src x.fp w'))
    obtain ⟨kc,hkc⟩:∃kc,kc=(x.dst==p.a&&x.tp==p.p):=⟨_,rfl⟩
    have uX:=hid hkc
    rw[←hkc]at CM
    clear h1 hkc
    subst E0
    cases kc
    ·have Am:Hid (df p true nr g n=match fD p x.src x.fp with |none=>c_ 8 nr |some s=>outT p nr g n x s):=hid (by
      have h:=uX.out
      rw[HT2.out,if_neg (fun hh=>by rw[beq_iff_eq.2 hh.1,beq_iff_eq.2 hh.2]at h;cases h)])
     go_wp2_with fail
     refine(CM.out _ S5.out.bl).mono ?_
     rintro e w6 ⟨rfl,hb⟩
     have S6:=hid (S5.out.below hb)
     clear hb S5 y0 y1 y2 y3 y4 y5 y6 y7 y8 y9 au ao al
     obtain ⟨y0,y1,y2,y3,y4,y5,y6,y7,y8,y9,au,ao,al⟩:=(S6.out.ce 0 rfl).c13
     go_simp
     go_wp2_with fail
     refine(CM.out _ S6.out.bl).mono ?_
     rintro e w7 ⟨rfl,hb⟩
     have S7:=hid (S6.out.below hb)
     clear hb S6 y0 y1 y2 y3 y4 y5 y6 y7 y8 y9 au ao al
     obtain ⟨y0,y1,y2,y3,y4,y5,y6,y7,y8,y9,au,ao,al⟩:=(S7.out.ce 0 rfl).c13
     go_simp
     go_upto_region 17 with (fail)
     clear y0 y1 y2 y3 y4 y5 y6 y7 y8 y9 au ao al
     refine wp_region_held_drew (S:=fun (w':World)=>HS [] w w' [aB E1 [x.kind,x.life,x.piece,x.src,x.dst,x.fp,x.tp,x.flags,x.label,x.bare,x.code,.slice AO x.no cO,.slice AD x.nd cD],fS w2.heap.size (.slice AO x.no cO) (.slice AD x.nd cD) x.no x.nd x.go x.gd,aB U [(),(),false,.slice none 0 0]]) (by kernel_rfl) ?_ (fun hHeld=>?_)
     ·exact S7.out.drew
     refine ae 0 hHeld ?_
     refine ae 1 hHeld ?_
     refine ae 2 hHeld ?_
     refine tk 3 (v:=.agg (PA p)) rfl (by kernel_rfl) (by kernel_rfl) (by kernel_rfl) (fun _ _ _ h=>h) rfl (fun w hSw=>jR rfl rfl (SA.out.below hSw.bl).pl.iH) hHeld ?_;(try simp only[Act.put,zA,zB,zC])
     refine ae 4 hHeld ?_
     refine ae 5 hHeld ?_ (hy:=by intro w hSw;(try dsimp only at hSw);obtain ⟨y0,y1,y2,y3,y4,y5,y6,y7,y8,y9,au,ao,al⟩:=(hSw.ce 0 rfl).c13;go_simp;(try with_reducible rfl))
     refine ae 6 hHeld ?_
     refine ae 7 hHeld ?_ (hy:=by intro w hSw;(try dsimp only at hSw);obtain ⟨y0,y1,y2,y3,y4,y5,y6,y7,y8,y9,au,ao,al⟩:=(hSw.ce 0 rfl).c13;go_simp;(try with_reducible rfl))
     refine only 8 rfl (by kernel_rfl) rfl (fun K hK=>?_)
     go_simp
     refine(FD.out _).mono ?_
     rintro e w8 ⟨rfl,hb⟩
     try go_wp2_with fail
     refine hK.out _ _ (hHeld.below hb) (fun h8=>?_)
     clear hK hb hHeld
     try simp only[Act.put,zA,zB,zC]
     refine ae 9 h8 ?_
     refine ae 10 h8 ?_
     refine ae 11 h8 ?_
     refine ae 12 h8 ?_
     refine ae 13 h8 ?_
     have S8:=hid h8
     clear h8 S7 FD
     refine wpAnyH_done (by kernel_rfl) ?_ _
     obtain ⟨o,ho⟩:∃o,o=fD p x.src x.fp:=⟨_,rfl⟩
     rw[←ho]
     have HO:=hid ho
     clear ho
     cases o with
     |none=>
      have HR:Hid (df p true nr g n=c_ 8 nr):=hid (by rw[Am.out,←HO.out])
      dsimp only[Option.getD,Option.isSome]
      go_wp2_with fail
      refine(fK 8 _).mono ?_
      rintro e jH ⟨rfl,hb⟩
      have eZ:=hid (S8.out.below hb)
      clear hb S8
      unfold gH
      go_simp
      go_wp2_with (((with_reducible refine ay ?_);refine aS rfl (aT (A:=[aB E1 [x.kind,x.life,x.piece,x.src,x.dst,x.fp,x.tp,x.flags,x.label,x.bare,x.code,.slice AO x.no cO,.slice AD x.nd cD],fS w2.heap.size (.slice AO x.no cO) (.slice AD x.nd cD) x.no x.nd x.go x.gd]) [.int .i64 8,.int .i64 (-1),false,.slice none 0 0] rfl rfl (rfl) eZ.out rfl dY rfl ?_);intro w_ hZ;have bV:=hid hZ;clear hZ;(first |refine aW ?_ |refine bP ?_);apply_assumption;refine wp_ret ?_;(repeat (first |refine aV ?_ |refine gC ?_));(show bodyPost _ _ _ _ _ _);exact bodyPost_ret (v:=.agg ([.int .i64 8,.int .i64 (-1),false,.slice none 0 0]:List Value).toArray) (bQ Tryz.results16 _ rfl (bV.out.ce 2 rfl) Tryz.underlying45 rfl dY) rfl (by rw[HR.out];exact⟨none,0,rfl,OB.nil,Nat.le_refl _,HF.out.below bV.out.bl,Ch.of_below bV.out.bl⟩)))
     |some s=>
      have HR:Hid (df p true nr g n=outT p nr g n x s):=hid (by rw[Am.out,←HO.out])
      have hs:=wy HO.out.symm
      dsimp only[Option.getD,Option.isSome]
      obtain ⟨y0,y1,y2,y3,y4,y5,y6,y7,y8,y9,au,ao,al⟩:=(S8.out.ce 0 rfl).c13
      go_wp2_with fail
      refine(Ox.out s hs _ S8.out.bl (hid (Ow.sl1 (S8.out.nth 1 rfl).1))).mono ?_
      intro e eW hT
      generalize outT p nr g n x s=t at HR hT
      obtain ⟨X9,c9,rfl,hz,re⟩:=S8.out.took (HF.out.below S8.out.bl) HF.out.1 hT
      have eZ:=hid hz
      have Aq:=hid re
      clear hz hT re y0 y1 y2 y3 y4 y5 y6 y7 y8 y9 au ao al
      unfold gH
      go_simp
      go_wp2_with (((with_reducible refine ay ?_);refine aS rfl (aT (A:=[cB w.heap.size 5 1 (.slice X9 t.n c9) t.n (fun j=>.int .u8 (t.f j)),aP pb 130 (dD sb t.nr),aB E1 [x.kind,x.life,x.piece,x.src,x.dst,x.fp,x.tp,x.flags,x.label,x.bare,x.code,.slice AO x.no cO,.slice AD x.nd cD],fS w2.heap.size (.slice AO x.no cO) (.slice AD x.nd cD) x.no x.nd x.go x.gd]) [t.d,t.s,t.c,.slice X9 t.n c9] rfl rfl (rfl) eZ.out rfl dY rfl ?_);intro w_ hZ;have bV:=hid hZ;clear hZ;(first |refine aW ?_ |refine bP ?_);apply_assumption;refine wp_ret ?_;(repeat (first |refine aV ?_ |refine gC ?_));(show bodyPost _ _ _ _ _ _);exact bodyPost_ret (v:=.agg ([t.d,t.s,t.c,.slice X9 t.n c9]:List Value).toArray) (bQ Tryz.results16 _ rfl (bV.out.ce 4 rfl) Tryz.underlying45 rfl dY) rfl (by rw[HR.out];exact⟨X9,c9,rfl,bV.out.nth 0 rfl,Aq.out,bV.out.fb 1 rfl,bV.out.ch⟩)))
    have HR:Hid (df p true nr g n=inT p nr g n x):=hid (by
     have h:=uX.out.symm
     simp only[Bool.and_eq_true,beq_iff_eq]at h
     rw[HT2.out,if_pos h])
    go_wp2_with fail
    refine(CM.out _ S5.out.bl).mono ?_
    rintro e w6 ⟨rfl,hb⟩
    have S6:=hid (S5.out.below hb)
    clear hb S5 y0 y1 y2 y3 y4 y5 y6 y7 y8 y9 au ao al
    obtain ⟨y0,y1,y2,y3,y4,y5,y6,y7,y8,y9,au,ao,al⟩:=(S6.out.ce 0 rfl).c13
    go_simp
    go_wp2_with fail
    refine(CM.out _ S6.out.bl).mono ?_
    rintro e w7 ⟨rfl,hb⟩
    have S7:=hid (S6.out.below hb)
    clear hb S6 y0 y1 y2 y3 y4 y5 y6 y7 y8 y9 au ao al
    obtain ⟨y0,y1,y2,y3,y4,y5,y6,y7,y8,y9,au,ao,al⟩:=(S7.out.ce 0 rfl).c13
    go_simp
    go_wp2_with fail
    refine(OC.out _ S7.out.bl (hid (Ow.sl1 (S7.out.nth 1 rfl).1))).mono ?_
    intro e eW hT
    generalize inT p nr g n x=t at HR hT
    obtain ⟨X9,c9,rfl,hz,re⟩:=S7.out.took (HF.out.below S7.out.bl) HF.out.1 hT
    have eZ:=hid hz
    have Aq:=hid re
    clear hz hT re y0 y1 y2 y3 y4 y5 y6 y7 y8 y9 au ao al
    unfold gH
    go_simp
    go_wp2_with (((with_reducible refine ay ?_);refine aS rfl (aT (A:=[cB w.heap.size 5 1 (.slice X9 t.n c9) t.n (fun j=>.int .u8 (t.f j)),aP pb 130 (dD sb t.nr),aB E1 [x.kind,x.life,x.piece,x.src,x.dst,x.fp,x.tp,x.flags,x.label,x.bare,x.code,.slice AO x.no cO,.slice AD x.nd cD],fS w2.heap.size (.slice AO x.no cO) (.slice AD x.nd cD) x.no x.nd x.go x.gd]) [t.d,t.s,t.c,.slice X9 t.n c9] rfl rfl (rfl) eZ.out rfl dY rfl ?_);intro w_ hZ;have bV:=hid hZ;clear hZ;(first |refine aW ?_ |refine bP ?_);apply_assumption;refine wp_ret ?_;(repeat (first |refine aV ?_ |refine gC ?_));(show bodyPost _ _ _ _ _ _);exact bodyPost_ret (v:=.agg ([t.d,t.s,t.c,.slice X9 t.n c9]:List Value).toArray) (bQ Tryz.results16 _ rfl (bV.out.ce 4 rfl) Tryz.underlying45 rfl dY) rfl (by rw[HR.out];exact⟨X9,c9,rfl,bV.out.nth 0 rfl,Aq.out,bV.out.fb 1 rfl,bV.out.ch⟩)))
   have h1:x.life≤1:=by simpa using e1
   have HR:Hid (df p true nr g n=c_ 7 nr):=hid (by rw[HT.out,if_neg (by simpa using E0),if_neg (by simpa using e2),if_pos h1])
   go_wp2_with fail
   refine(fK 7 _).mono ?_
   rintro e jH ⟨rfl,hb⟩
   have eZ:=hid (S5.out.below hb)
   clear hb S5
   unfold gH
   go_simp
   go_wp2_with (((with_reducible refine ay ?_);refine aS rfl (aT (A:=[aB E1 [x.kind,x.life,x.piece,x.src,x.dst,x.fp,x.tp,x.flags,x.label,x.bare,x.code,.slice AO x.no cO,.slice AD x.nd cD],fS w2.heap.size (.slice AO x.no cO) (.slice AD x.nd cD) x.no x.nd x.go x.gd]) [.int .i64 7,.int .i64 (-1),false,.slice none 0 0] rfl rfl (rfl) eZ.out rfl dY rfl ?_);intro w_ hZ;have bV:=hid hZ;clear hZ;(first |refine aW ?_ |refine bP ?_);apply_assumption;refine wp_ret ?_;(repeat (first |refine aV ?_ |refine gC ?_));(show bodyPost _ _ _ _ _ _);exact bodyPost_ret (v:=.agg ([.int .i64 7,.int .i64 (-1),false,.slice none 0 0]:List Value).toArray) (bQ Tryz.results16 _ rfl (bV.out.ce 2 rfl) Tryz.underlying45 rfl dY) rfl (by rw[HR.out];exact⟨none,0,rfl,OB.nil,Nat.le_refl _,HF.out.below bV.out.bl,Ch.of_below bV.out.bl⟩)))
  have HR:Hid (df p true nr g n=c_ 6 nr):=hid (by rw[HT.out,if_neg (by simpa using E0),if_pos (by simpa using e2)])
  go_wp2_with fail
  refine(fK 6 _).mono ?_
  rintro e jH ⟨rfl,hb⟩
  have eZ:=hid (S5.out.below hb)
  clear hb S5
  unfold gH
  go_simp
  go_wp2_with (((with_reducible refine ay ?_);refine aS rfl (aT (A:=[aB E1 [x.kind,x.life,x.piece,x.src,x.dst,x.fp,x.tp,x.flags,x.label,x.bare,x.code,.slice AO x.no cO,.slice AD x.nd cD],fS w2.heap.size (.slice AO x.no cO) (.slice AD x.nd cD) x.no x.nd x.go x.gd]) [.int .i64 6,.int .i64 (-1),false,.slice none 0 0] rfl rfl (rfl) eZ.out rfl dY rfl ?_);intro w_ hZ;have bV:=hid hZ;clear hZ;(first |refine aW ?_ |refine bP ?_);apply_assumption;refine wp_ret ?_;(repeat (first |refine aV ?_ |refine gC ?_));(show bodyPost _ _ _ _ _ _);exact bodyPost_ret (v:=.agg ([.int .i64 6,.int .i64 (-1),false,.slice none 0 0]:List Value).toArray) (bQ Tryz.results16 _ rfl (bV.out.ce 2 rfl) Tryz.underlying45 rfl dY) rfl (by rw[HR.out];exact⟨none,0,rfl,OB.nil,Nat.le_refl _,HF.out.below bV.out.bl,Ch.of_below bV.out.bl⟩)))
 have HR:Hid (df p true nr g n=c_ E nr):=hid (by rw[HT.out,if_pos (by simpa using e0)])
 go_wp2_with fail
 refine(fK E _).mono ?_
 rintro e jH ⟨rfl,hb⟩
 have eZ:=hid (S5.out.below hb)
 clear hb S5
 unfold gH
 go_simp
 go_wp2_with (((with_reducible refine ay ?_);refine aS rfl (aT (A:=[aB E1 [x.kind,x.life,x.piece,x.src,x.dst,x.fp,x.tp,x.flags,x.label,x.bare,x.code,.slice AO x.no cO,.slice AD x.nd cD],fS w2.heap.size (.slice AO x.no cO) (.slice AD x.nd cD) x.no x.nd x.go x.gd]) [E,.int .i64 (-1),false,.slice none 0 0] rfl rfl (rfl) eZ.out rfl dY rfl ?_);intro w_ hZ;have bV:=hid hZ;clear hZ;(first |refine aW ?_ |refine bP ?_);apply_assumption;refine wp_ret ?_;(repeat (first |refine aV ?_ |refine gC ?_));(show bodyPost _ _ _ _ _ _);exact bodyPost_ret (v:=.agg ([E,.int .i64 (-1),false,.slice none 0 0]:List Value).toArray) (bQ Tryz.results16 _ rfl (bV.out.ce 2 rfl) Tryz.underlying45 rfl dY) rfl (by rw[HR.out];exact⟨none,0,rfl,OB.nil,Nat.le_refl _,HF.out.below bV.out.bl,Ch.of_below bV.out.bl⟩)))
end Go.Proofs.YtalnfkijiehjhaaGreat
namespace Go.Proofs.YtalnfkijiehjhaaGreat
set_option linter.unusedVariables false
set_option linter.unusedSimpArgs false
open Go.RowKit Go.ChangeShapes Go.WideShapes Go.ChangeAt
set_option maxRecDepth 100000
def fO (A:Option Addr)(up:Bool)(nr:Nat→Value)(j:Nat):Value:=if j=0 then .pointer A else if j=1 then .bool up else nr (j-2)
def js (j:Nat):Value:=if j%2=0 then .int .u32 0 else .bool false
def yv (p:Pl)(r:Value)(j:Nat):Value:=if j<330 then pc p j else r
theorem xD:(Tryz.prog.info? 86).map (·.size)=some 130:=by kernel_rfl
theorem vv (w:World):(Instr.build 86 #[]).run Tryz.prog w =.ok (.agg (FA 130 (fO none false js))) w:=run_build w _ _ _ (by kernel_rfl)
theorem vu (p:Pl)(b:Nat)(w:World):(Instr.build 94 #[(0,.agg (FA 330 (pc p))),(1,.slice (some ⟨b,0,none⟩) 127 127)]).run Tryz.prog w =.ok (.agg (FA 331 (yv p (.slice (some ⟨b,0,none⟩) 127 127)))) w:=run_build w _ _ _ (by kernel_rfl)
theorem zP {P:Program}{w:World}{v:Value}{f:Operand→Value}{o:Oper}{T:TypeId}{i1 i2:Nat}{x1 x2:Operand}{v1 v2:Value}(ho:o.op =.build T #[(i1,x1),(i2,x2)])(h1:f x1=v1)(h2:f x2=v2)(hl:(Instr.build T #[(i1,v1),(i2,v2)]).run P w =.ok v w):(execOp f o).run P w =.ok (.value v) w:=by
 unfold execOp;simp only[ho,List.map_toArray,List.map_cons,List.map_nil,h1,h2,Sem.run_bind,hl,Result.andThen_ok,Sem.run_pure]
theorem HS.boxed {S:List Nat}{W w:World}{L:List Th}(h:HS S W w L){n:Nat}(f:Nat→Value){T:TypeId}:HS S W (w.alloc (.cells (FA n f) T)) (aP w.heap.size n f::L):=
 h.new (aP w.heap.size n f) ((Below.refl _ _).alloc (Nat.le_refl _) _) (Fb.made rfl) (by simp[aP]) (fun b hb=>by simp[aP]at hb;omega)
theorem fa2 (x y:Value):Value.agg #[x,y] =.agg (FA 2 (fun j=>if j=0 then x else y)):=rfl
theorem ng:(Tryz.prog.info? 81).map (·.size)=some 2:=by kernel_rfl
theorem wP (w:World):(zeroValue 81).run Tryz.prog w =.ok (.agg (FA 2 (fun j=>if j=0 then .pointer none else .bool false))) w:=by kernel_rfl
theorem Gc (A A':Option Addr)(up up':Bool)(nr:Nat→Value)(j:Nat)(hj:j<130):patch (fO A up nr) 0 2 (fun j=>if j=0 then .pointer A' else .bool up') j=fO A' up' nr j:=by
 unfold patch fO
 rcases j with _ | _ |j
 ·rfl
 ·rfl
 rw[if_neg (by omega),if_neg (by omega),if_neg (by omega),if_neg (by omega),if_neg (by omega)]
theorem lp:(Tryz.prog.info? 34).map (·.size)=some 330:=by kernel_rfl
theorem ER (p:Pl)(hp:Pw p)(w:World):Calls Tryz.prog 34 #[.agg (FA 330 (pc p))] w fun x w'=>∃B:Nat,x =.returned (.slice (some ⟨B,0,none⟩) 127 127)∧w.heap.size≤B∧IA w' B 127 (eC p)∧Below w.heap.size w w':=zm p hp w
theorem HS.swap_ {S:List Nat}{W w:World}{a b:Th}{L:List Th}(h:HS S W w (a::b::L)):HS S W w (b::a::L):=by
 obtain ⟨h1,h2,h3,h4⟩:=h
 have hp:((a::b::L).flatMap Th.bs).Perm ((b::a::L).flatMap Th.bs):=(List.Perm.swap b a L).flatMap_right Th.bs
 exact⟨fun t ht=>h1 t (by simp at ht ⊢;rcases ht with h |h |h;exact .inr (.inl h);exact .inl h;exact .inr (.inr h)),h2,hp.nodup_iff.1 h3,fun x hx=>h4 x (hp.mem_iff.2 hx)⟩
def sf (b:Nat)(f:Nat→Int):Th:=⟨fun w=>IA w b 127 f,[b],fun w w' h e=>⟨iG h.1 (e b (by simp)),fun j hj=>(World.cell?_of_block (a:=⟨b,j,none⟩) (e b (by simp))).trans (h.2.1 j hj),fun j=>(World.frozen?_of_block (a:=⟨b,j,none⟩) (e b (by simp))).trans (h.2.2 j)⟩,fun _ h x hx=>by simp at hx;subst hx;exact h.1⟩
def wU (pb:Nat)(A:Option Addr)(up:Bool)(nr:Nat→Option Int):Th:=aP pb 130 (fO A up (qV nr))
theorem ak.JH {w:World}{sb:Nat}{p:Pl}{r:Value}(h:Fb w sb 331 (yv p r)):ak w sb p∧w.cell? ⟨sb,330,none⟩=some r:=
 ⟨⟨h.1,fun j hj=>by rw[h.2.1 j (by omega)];unfold yv;rw[if_pos hj],h.2.2⟩,by rw[h.2.1 330 (by omega)];rfl⟩
theorem yQ {w:World}{fn:Func}{r:Tmp}{T:TypeId}{d:TypeDesc}{b n:Nat}{f:Nat→Value}(h:fn.results =#[.cell r T])(tmps:Array Value)(hp:tmps.getD r undef =.pointer (some ⟨b,0,none⟩))(hF:Fb w b n f)(hu:Tryz.prog.underlying T=some d)(hd:d.isRow=true)(hi:(Tryz.prog.info? T).map (·.size)=some n) :
 (results fn tmps).run Tryz.prog w =.ok (.agg (FA n f)) w:=by
 have hp':tmps[r]?.getD undef =.pointer (some ⟨b,0,none⟩):=by simpa using hp
 simp[results,h,hp',asAddr,hF.pq (T:=T) 0 n f (by omega) (fun j hj=>by rw[Nat.zero_add]) hu hd hi]
attribute [local irreducible] FA FL
theorem plane_new {S:List Nat}{W w:World}{L:List Th}(hS:HS S W w L):Calls Tryz.prog 10 #[] w fun x w'=>∃pb:Nat,x =.returned (.pointer (some ⟨pb,0,none⟩))∧HS S W w' (aP pb 130 (fO none false js)::L):=by
 have S0:=hid hS
 clear hS
 go_enter Tryz.func10,Tryz.ntmps10
 go_upto_region 1 with (fail)
 apply wp_region_lit
 refine dV (v:=.agg (FA 130 (fO none false js))) rfl (by unfold execOp;simp only[List.map_toArray,List.map_nil,Sem.run_bind,vv,Result.andThen_ok,Sem.run_pure]) ?_
 try simp only[Act.put,zA,zB,zC]
 refine aS rfl (ll rfl rfl (by omega) S0.out (fun pb w2 hZ hb=>?_))
 have S1:=hid hZ
 clear hZ hb S0
 try simp only[Act.put,zA,zB,zC]
 go_wp2_with fail
 go_ret
 exact⟨pb,rfl,S1.out⟩
set_option maxRecDepth 100000 in
theorem yB (A:Option Addr)(w:World):Calls Tryz.prog 33 #[.pointer A] w fun x w'=>x =.returned (.agg #[.pointer A,true])∧Below w.heap.size w w':=by
 rw[fa2]
 have S0:Hid (HS [] w w []):=hid HS.start
 go_enter Tryz.func33,Tryz.ntmps33
 go_upto_region 0 with (fail)
 apply wp_region_lit
 refine aS rfl (t9 rfl (wP _) (by omega) S0.out ?_)
 intro U w1 hZ _
 have S1:=hid hZ
 clear hZ S0
 try simp only[Act.put,zA,zB,zC]
 go_upto_region 1 with (fail)
 apply wp_region_lit
 refine dV (v:=?_) rfl ?_ ?_;rotate_left;(focus (go_simp;(try with_reducible rfl)));(try simp only[Act.put,zA,zB,zC])
 refine dV (v:=?_) rfl ?_ ?_;rotate_left;(focus (go_simp;(try with_reducible rfl)));(try simp only[Act.put,zA,zB,zC])
 refine aS rfl (lk (A:=[]) 0 2 (fun j=>if j=0 then .pointer A else .bool true) (fun j=>if j=0 then .pointer A else .bool true) rfl rfl (fa2 _ _) S1.out (by omega) (fun j hj=>nY _ _ _ j hj) ng (fun j=>by split <;> rfl) ?_)
 intro w2 hZ
 have S2:=hid hZ
 clear hZ S1
 try simp only[Act.put,zA,zB,zC]
 refine aW ?_
 apply_assumption
 refine wp_ret ?_
 (repeat refine aV ?_)
 (show bodyPost _ _ _ _ _ _)
 exact bodyPost_ret (v:=.agg (FA 2 (fun j=>if j=0 then .pointer A else .bool true))) (yQ Tryz.results33 _ rfl (S2.out.fb 0 rfl) Tryz.underlying81 rfl ng) rfl ⟨rfl,S2.out.bl⟩
set_option maxHeartbeats 8000000 in
theorem Bv {w:World}{pb:Nat}{A:Option Addr}{up:Bool}{nr:Nat→Option Int}(hF:Fb w pb 130 (fO A up (qV nr)))(q:Pl)(hq:Pw q):Calls Tryz.prog 12 #[.pointer (some ⟨pb,0,none⟩),.agg (FA 330 (pc q))] w fun x w'=>x =.returned (.tuple #[])∧∃sb wb,Fb w' pb 130 (dD sb nr)∧iz w' sb wb q∧(pb≠sb∧pb≠wb)∧Ch [pb] w w'∧w.heap.size≤sb∧w.heap.size≤wb:=by
 have S0:Hid (HS [pb] w w [wU pb A up nr]):=hid (HS.yx _ hF (by simp[wU,aP]) (by simp[wU,aP]))
 clear hF
 go_enter Tryz.func12,Tryz.ntmps12
 go_upto_region 1 with (fail)
 have S1:=hid (S0.out.boxed (n:=330) (T:=34) (pc q))
 generalize w.alloc (.cells (FA 330 (pc q)) 34)=w1 at *
 obtain ⟨X,hX⟩:∃X,X=w.heap.size:=⟨_,rfl⟩
 rw[←hX]at S1 ⊢
 replace hX:=hid hX
 clear S0
 refine wp_region_held_drew (S:=fun (w':World)=>∃L,HS [pb] w w' (aP X 330 (pc q)::L)) (by kernel_rfl) ?_ (fun hHeld=>?_)
 ·exact⟨_,S1.out.drew⟩
 have F0:=S1.out.drew
 refine ae 0 hHeld ?_
 refine tk 1 (v:=.agg (FA 330 (pc q))) rfl (by kernel_rfl) (by kernel_rfl) (by kernel_rfl) (fun _ _ _ h=>h) rfl (fun w hSw=>by obtain ⟨_,hS⟩:=hSw;exact jR rfl rfl ((hS.fb 0 rfl).load 0 330 (pc q) (by omega) (fun j hj=>by rw[Nat.zero_add]) Tryz.underlying34 rfl lp)) hHeld ?_;(try simp only[Act.put,zA,zB,zC])
 refine tk 2 (v:=.agg (FA 330 (pc q))) rfl (by kernel_rfl) (by kernel_rfl) (by kernel_rfl) (fun _ _ _ h=>h) rfl (fun w hSw=>by obtain ⟨_,hS⟩:=hSw;exact jR rfl rfl ((hS.fb 0 rfl).load 0 330 (pc q) (by omega) (fun j hj=>by rw[Nat.zero_add]) Tryz.underlying34 rfl lp)) hHeld ?_;(try simp only[Act.put,zA,zB,zC])
 refine only 3 rfl (by kernel_rfl) rfl (fun K hK=>?_)
 go_simp
 refine(ER q hq _).mono ?_
 rintro e' w2 ⟨BW,rfl,hge,KM,hb⟩
 try go_wp2_with fail
 have h2:=F0.new (sf BW (eC q)) hb KM (by simp[sf]) (fun b hb=>by simp[sf]at hb;subst hb;exact hge)
 refine hK.out _ _ ⟨_,h2.swap_⟩ (fun h3=>?_)
 clear hK
 try simp only[Act.put,zA,zB,zC]
 clear hb hHeld F0 hge KM
 refine tk 4 (v:=.agg (FA 331 (yv q (.slice (some ⟨BW,0,none⟩) 127 127)))) rfl (by kernel_rfl) (by kernel_rfl) (by kernel_rfl) (fun _ _ _ h=>h) rfl (fun w hSw=>zP rfl rfl rfl (vu q BW w)) h3 ?_;(try simp only[Act.put,zA,zB,zC])
 refine only 5 rfl (by kernel_rfl) rfl (fun K hK=>?_)
 refine ll rfl rfl (by omega) h2 (fun SB w3 hN _=>?_)
 refine hK.out _ _ ⟨_,hN.tail.swap_⟩ (fun h4=>?_)
 clear hK
 try simp only[Act.put,zA,zB,zC]
 clear h3 h2
 refine only 6 rfl (by kernel_rfl) rfl (fun K hK=>?_)
 go_simp
 refine(yB (some ⟨SB,0,none⟩) _).mono ?_
 rintro e' w4 ⟨rfl,hb⟩
 try go_wp2_with fail
 have hM:=hN.below hb
 refine hK.out _ _ ⟨_,hM.tail.swap_⟩ (fun h5=>?_)
 clear hK
 try simp only[Act.put,zA,zB,zC]
 clear hb hN h4
 refine ae 7 h5 ?_
 refine ae 8 h5 ?_
 refine only 9 rfl (by kernel_rfl) rfl (fun K hK=>?_)
 refine lk (A:=[aP SB 331 (yv q (.slice (some ⟨BW,0,none⟩) 127 127)),sf BW (eC q),aP X 330 (pc q)]) 0 2 (fun j=>if j=0 then .pointer (some ⟨SB,0,none⟩) else .bool true) (fO (some ⟨SB,0,none⟩) true (qV nr)) rfl rfl (fa2 _ _) hM (by omega) (fun j hj=>Gc _ _ _ _ _ j hj) ng (fun j=>by split <;> rfl) (fun w9 hZ=>?_)
 refine hK.out _ _ ⟨_,(HS.tail hZ).swap_⟩ (fun h6=>?_)
 clear hK
 try simp only[Act.put,zA,zB,zC]
 have S9:=hid hZ
 clear h6 h5 hZ hM S1
 refine wpAnyH_done (by kernel_rfl) ?_ _
 go_wp2_with fail
 go_end0
 have hn:=S9.out.2.2.1
 simp only[List.cons_append,List.nil_append,List.flatMap_cons,List.flatMap_nil,aP,sf,wU,List.nodup_cons,List.mem_cons,not_or,List.append_nil]at hn
 have Hm:=ak.JH (S9.out.fb 0 rfl)
 first |refine⟨rfl,SB,BW,S9.out.fb 3 rfl,⟨Hm.1,Hm.2,S9.out.nth 1 rfl⟩,⟨fun e=>?_,fun e=>?_⟩,S9.out.ch,?_,?_⟩ |refine⟨rfl,SB,S9.out.fb 3 rfl,BW,⟨Hm.1,Hm.2,S9.out.nth 1 rfl⟩,⟨fun e=>?_,fun e=>?_⟩,S9.out.ch,?_,?_⟩
 ·subst e;simp at hn
 ·subst e;simp at hn
 ·rcases S9.out.2.2.2 SB (by simp[aP]) with h |h
  ·simp at h;subst h;simp at hn
  exact h
 rcases S9.out.2.2.2 BW (by simp[sf]) with h |h
 ·simp at h;subst h;simp at hn
 exact h
end Go.Proofs.YtalnfkijiehjhaaGreat
