/- in. out. Take. New, Load. -/
import Derived.Test.YtalnfkijiehjhaaGreatGa
import Derived.Test.YtalnfkijiehjhaaGreatGy
import Derived.BigQuiet
import Derived.Deep.RegionHeld3
import Derived.Deep.Cut
import Derived.IntWalk
import Derived.Test.YtalnfkijiehjhaaGreatGkb
import Derived.Test.YtalnfkijiehjhaaGreatGx
namespace Go.Proofs.YtalnfkijiehjhaaGreat
open List renaming setIfInBounds_toArray→zA,set_cons_zero→zB,set_cons_succ→zC
set_option linter.unusedVariables false
set_option linter.unusedSimpArgs false
open Go.RowKit Go.ChangeShapes Go.WideShapes Go.ChangeAt
set_option maxRecDepth 100000
theorem qYI{P:Prop}(h:P:=by
 dsimp only[Option.getD,Option.isSome]
 go_wp2_with fail
 go_meet
 exact⟨by rw[HSL.out];rfl,S6.out⟩
 ):P:=h
theorem qZK{P:Prop}(h:P:=by
 rintro e w7 ⟨rfl,hb⟩
 try go_wp2_with fail
 refine hK.out _ _ (hHeld.below hb) (fun h7=>?_)
 clear hK hb
 try simp only[Act.put,zA,zB,zC]
 refine ae 6 h7 ?_
 have S7:=hid h7
 clear h7 hHeld
 refine wpAnyH_done (by kernel_rfl) ?_ _
 go_wp2_with fail
 go_meet
 exact⟨by rw[HSL.out];rfl,S7.out⟩
 ):P:=h
theorem qXX{P:Prop}(h:P:=by
 go_wp2_with fail
 refine(jh (dT.out.ce 2 rfl) (k:Int) o.isSome).mono ?_
 rintro e gL ⟨rfl,hb⟩
 have dA:=hid (dT.out.below hb)
 clear hb dT
 unfold eN
 go_simp
 go_wp2_with (((with_reducible refine ah ?_);refine ay rfl (aB (A:=[bU w.heap.size 5 1 (.slice X2 n c2) n (fun j=>.int .u8 (bA (aN g) n false (p.s k).ad (p.s k).po j)),bU w.heap.size 5 1 (.slice X1 n c1) n (fun j=>.int .u8 (aN g j)),aw Q [.slice X2 n c2,()],aw V [x.src,x.fp,p.a,p.p]]) [(),(k:Int),o.isSome,.slice X2 n c2] rfl rfl (rfl) dA.out rfl d9 rfl ?_);intro w_ hZ;have aK:=hid hZ;clear hZ;(first |refine aJ ?_ |refine aR ?_);apply_assumption;refine wp_ret ?_;(repeat refine aI ?_);(show bodyPost _ _ _ _ _ _);exact bodyPost_ret (v:=.agg ([(),(k:Int),o.isSome,.slice X2 n c2]:List Value).toArray) (aS Tryz.results46 _ rfl (aK.out.ce 4 rfl) Tryz.underlying45 rfl d9) rfl (by rw[HR2.out];exact⟨X2,c2,rfl,aK.out.nth 0 rfl,cI.out,HF.out.below aK.out.bl,Ch.of_below aK.out.bl⟩)))
 ):P:=h
set_option maxHeartbeats 4000000 in
theorem Io (p:Pl)(pb sb wb:Nat)(nr:Nat→Option Int)(g:Nat→Int)(n c:Nat)(x:Pk)(X AO:Option Addr)(cO:Nat)(AD:Option Addr)(cD:Nat)(w:World)(hx:x=ax g n)(hg:aC g)(hE:az g n=0)(h1:1<g 1)(h3:g 0≠3)(hp:Pt p)(hnr:iP nr)(hF:Fb w pb 130 (dw sb nr))(hS:iM w sb wb p)(hX:By w X n g)(hc:n≤c)(hB:By w AO x.no x.go)(gI:x.no≤cO) :
 Calls Tryz.prog 46 #[.pointer (some ⟨pb,0,none⟩),.pointer (some ⟨sb,0,none⟩),.slice X n c,.agg #[x.kind,x.life,x.piece,x.src,x.dst,x.fp,x.tp,x.flags,x.label,x.bare,x.code,.slice AO x.no cO,.slice AD x.nd cD]] w (rq w pb sb (inT p nr g n x)):=by
 have bd:=kr hg hE
 have ln:=ew hg hE
 rw[←hx]at bd ln
 obtain ⟨l1,l2,l3,l4,l5,l6,l7,l8,_⟩:=ln
 have hkd:x.kind=1∨x.kind=2:=by rw[l3];omega
 obtain ⟨d1,d2,d3,d4,d5,d6,d7⟩:=bd
 obtain ⟨p1,p2,p3,p4,p5⟩:=hp
 have jb:(dV p x.src x.fp).I:=⟨⟨by show _≤x.src;omega,by show x.src≤_;omega⟩,⟨by show _≤x.fp;omega,by show x.fp≤_;omega⟩,⟨by show _≤p.a;omega,by show p.a≤_;omega⟩,⟨by show _≤p.p;omega,by show p.p≤_;omega⟩⟩
 have st:=@uj x
 have su:=lK d6
 have BY:=hid (fun (w':World) (hb:Below w.heap.size w w')=>vH p sb wb x hkd ⟨p1,p2,p3,p4,p5⟩ AO cO AD cD w' (hS.below hb) (Sl.below hB hb (Nat.le_refl _)) d6 (by omega) gI jb)
 have ST:=hid (fun (w':World) (hb:Below w.heap.size w w')=>(show Calls Tryz.prog 97 #[.slice AO x.no cO] w' fun e w2=>e =.returned (.tuple #[(bV x).1,.int .u32 (bV x).2.1,.int .u32 (bV x).2.2.1,(bV x).2.2.2])∧Below w'.heap.size w' w2 from oM AO x.no cO x.go w' (Sl.below hB hb (Nat.le_refl _)) d6 (by omega) gI))
 have SA:=hid hS
 have HF:=hid hF
 have HX:=hid (fun (w':World) (hb:Below w.heap.size w w')=>(show By w' X n g from Sl.below hX hb (Nat.le_refl _)))
 have PK:=hid (fun (w':World) (hb:Below w.heap.size w w') (hs:Hid (Is w' (some ⟨wb,0,none⟩) 127 (cF p)))=>uZ (some ⟨wb,0,none⟩) 127 (cF p) (dV p x.src x.fp) jb w' hs.out)
 obtain ⟨o,ho⟩:∃o,o=iX p x:=⟨_,rfl⟩
 have HSL:Hid (iq p x=o.getD (cF p (jI (dV p x.src x.fp)).toNat)):=hid (by unfold iq;rw[←ho])
 have ud:Hid (inT p nr g n x=if iq p x = -1 then bB 9 nr else ⟨0,iq p x,o.isSome,n,oo p nr g n x (iq p x).toNat,nr⟩):=hid (by unfold inT;rw[←ho])
 have j9:Hid (iq p x = -1∨∃k:Nat,k<64∧iq p x=k):=hid (Er p x)
 rw[←ho]at BY
 obtain ⟨sl,hsl⟩:∃sl,sl=iq p x:=⟨_,rfl⟩
 rw[←hsl]at HSL ud j9
 have PB:=hid (fun (k:Nat) (hk:k<64)=>(show (0≤(p.s k).ad∧(p.s k).ad≤4294967295)∧0≤(p.s k).po∧(p.s k).po≤65535 from ⟨(p1 k hk).1,(p1 k hk).2.1⟩))
 have AG:=hid (gk hE h1)
 have AI:=hid (jz hg (gk hE h1))
 have WN:=hid (fun (k:Nat) (hk:k<64)=>oH hg hE h1 h3 (PB.out k hk).1 (PB.out k hk).2)
 have NI:=hid (fun (k:Nat)=>ru (n:=n) (s:=false) (ad:=(p.s k).ad) (po:=(p.s k).po) hg hE h1)
 have WW:=hid (fun (k:Nat) (hk:k<64) (a:Nat) (v:Int) (hv:0≤v) (hv':v<4294967296) (ha:24≤a) (hL:a+4≤n)=>pU (n:=n) (s:=false) (a:=(a:Int)) (m:=4) (v:=v) hg hE h1 h3 (PB.out k hk).1 (PB.out k hk).2 (.inr ⟨rfl,by omega⟩) hv (by omega) (by omega) (.inr (by omega)))
 have SI:Hid ((bV x).2.2.2=true→∃a:Nat,(bV x).1=a∧2≤a∧24+a+8≤n):=hid (fun h=>by
  obtain ⟨e1,e2,e3⟩:=st h
  refine⟨(bV x).1.toNat,e3,by omega,?_⟩
  by_cases k2:g 0=2
  ·have:=l6 k2;omega
  have:=l7 (by omega);omega)
 have SU:=hid su.2
 have oz:Hid (∀k,oo p nr g n x k=if (bV x).2.2.2=true∧(bV x).2.2.1≠0 then cB (bA (aN g) n false (p.s k).ad (p.s k).po) n (28+(bV x).1.toNat) 4 (ei nr k (bV x).2.2.1) else bA (aN g) n false (p.s k).ad (p.s k).po):=hid (fun k=>rfl)
 have n15:n≤1500:=l2
 have HC:=hid hc
 have pK:=hid hnr
 have S0:Hid (HS [] w w []):=hid HS.start
 clear hS hB hF hX ho hsl hnr hE hx h1 h3 l1 l2 l3 l4 l5 l6 l7 l8 d1 d2 d3 d4 d5 d6 d7 p1 p2 p3 p4 p5 st su hkd jb hc gI
 replace hg:=hid hg
 generalize bV x=z at ST SI SU oz
 obtain ⟨z1,z2,z3,z4⟩:=z
 dsimp only at ST SI SU oz
 go_enter Tryz.func46,Tryz.ntmps46
 go_upto_region 1 with (first | ((with_reducible refine ah ?_);refine ay rfl (fi (l:=[x.kind,x.life,x.piece,x.src,x.dst,x.fp,x.tp,x.flags,x.label,x.bare,x.code,.slice AO x.no cO,.slice AD x.nd cD]) rfl rfl (by simp) S0.out ?_);intro E w_ hZ _;have S1:=hid hZ;clear hZ) | ((with_reducible refine ah ?_);refine ay rfl (bw rfl (oC _) (by simp) S1.out ?_);intro U w_ hZ _;have S2:=hid hZ;clear hZ))
 obtain ⟨y0,y1,y2,y3,y4,y5,y6,y7,y8,y9,al,ak,aj⟩:=(S2.out.ce 1 rfl).c13
 have hst:=(SA.out.below S2.out.bl).pl
 have q1:=hst.c1
 have q2:=hst.c2
 have hlt:=hst.1
 go_wp2_with fail
 refine(rp p sb x.src x.fp _ q1 q2 hlt).mono ?_
 rintro e w3 ⟨rfl,hb⟩
 have S3:=hid (S2.out.below hb)
 clear hb S0 S1 S2 y0 y1 y2 y3 y4 y5 y6 y7 y8 y9 al ak aj q1 q2 hlt hst
 go_simp
 go_upto_region 2 with (first | ((with_reducible refine ah ?_);refine ay rfl (bw rfl (Ei _) (by simp) S3.out ?_);intro V w_ hZ _;have S4:=hid hZ;clear hZ) | ((with_reducible refine ah ?_);refine ay rfl (aB (A:=[]) [x.src,x.fp,p.a,p.p] rfl rfl (rfl) S4.out rfl AX rfl ?_);intro w_ hZ;have S5:=hid hZ;clear hZ))
 obtain ⟨y0,y1,y2,y3,y4,y5,y6,y7,y8,y9,al,ak,aj⟩:=(S5.out.ce 2 rfl).c13
 obtain ⟨f0,f1,f2,f3⟩:=(S5.out.ce 0 rfl).c4
 go_wp2_with fail
 refine(BY.out _ S5.out.bl).mono ?_
 rintro e w6 ⟨rfl,hb⟩
 have S6:=hid (S5.out.below hb)
 clear hb S3 S4 S5 y0 y1 y2 y3 y4 y5 y6 y7 y8 y9 al ak aj f0 f1 f2 f3 BY
 go_simp
 go_upto_if 31 with (fail)
 go_cut [10] from 32 to 37 (fun s wx=>s =.int .i64 sl∧HS [] w wx [aw V [x.src,x.fp,p.a,p.p],aw U [(),(),false,.slice none 0 0],aw E [x.kind,x.life,x.piece,x.src,x.dst,x.fp,x.tp,x.flags,x.label,x.bare,x.code,.slice AO x.no cO,.slice AD x.nd cD]])
 case first=>
  cases o with
  |some s=>
   exact qYI
  |none=>
   dsimp only[Option.getD,Option.isSome]
   go_upto_region 4 with (fail)
   refine wp_region_held_drew (S:=fun (w':World)=>HS [] w w' [aw V [x.src,x.fp,p.a,p.p],aw U [(),(),false,.slice none 0 0],aw E [x.kind,x.life,x.piece,x.src,x.dst,x.fp,x.tp,x.flags,x.label,x.bare,x.code,.slice AO x.no cO,.slice AD x.nd cD]]) (by kernel_rfl) ?_ (fun hHeld=>?_)
   ·exact S6.out.drew
   refine ae 0 hHeld ?_
   refine ae 1 hHeld ?_
   refine ae 2 hHeld ?_
   refine ae 3 hHeld ?_ (hy:=by intro w hSw;(try dsimp only at hSw);have x1:=(SA.out.below hSw.bl).sl;go_simp;(try with_reducible rfl))
   refine ae 4 hHeld ?_ (hy:=by intro w hSw;(try dsimp only at hSw);obtain ⟨f0,f1,f2,f3⟩:=(hSw.ce 0 rfl).c4;go_simp;(try with_reducible rfl))
   refine only 5 rfl (by kernel_rfl) rfl (fun K hK=>?_)
   go_simp
   refine(PK.out _ hHeld.bl (hid (SA.out.below hHeld.bl).wh.slice)).mono ?_
   exact qZK
 obtain ⟨rfl,hz⟩:=hcut
 have S7:=hid hz
 clear hz S6 PK
 rcases j9.out with rfl |⟨k,hk,rfl⟩
 ·have HR:Hid (inT p nr g n x=bB 9 nr):=hid (by rw[ud.out,if_pos rfl])
  go_wp2_with fail
  refine(fT 9 _).mono ?_
  rintro e w8 ⟨rfl,hb⟩
  have S8:=hid (S7.out.below hb)
  clear hb S7
  go_simp
  go_wp2_with (((with_reducible refine ah ?_);refine ay rfl (aB (A:=[aw V [x.src,x.fp,p.a,p.p]]) [.int .i64 9,.int .i64 (-1),false,.slice none 0 0] rfl rfl (rfl) S8.out rfl d9 rfl ?_);intro w_ hZ;have S9:=hid hZ;clear hZ;(first |refine aJ ?_ |refine aR ?_);apply_assumption;refine wp_ret ?_;(repeat refine aI ?_);(show bodyPost _ _ _ _ _ _);exact bodyPost_ret (v:=.agg ([.int .i64 9,.int .i64 (-1),false,.slice none 0 0]:List Value).toArray) (aS Tryz.results46 _ rfl (S9.out.ce 1 rfl) Tryz.underlying45 rfl d9) rfl (by rw[HR.out];exact⟨none,0,rfl,OB.nil,Nat.le_refl _,HF.out.below S9.out.bl,Ch.of_below S9.out.bl⟩)))
 have HR:Hid (inT p nr g n x=⟨0,(k:Int),o.isSome,n,oo p nr g n x k,nr⟩):=hid (by rw[ud.out,if_neg (by omega)];rfl)
 have Ig:((k:Int) == -1)=false:=by simp
 have i0:(0:Int)≤k:=by omega
 have i1:(k:Int)<64:=by omega
 have gX:n≤1000000:=by omega
 go_upto_region 8 with (((with_reducible refine ah ?_);refine ay rfl (fi (l:=[.slice X n c,()]) rfl rfl (by simp) S7.out ?_);intro Q w_ hZ _;have S8:=hid hZ;clear hZ))
 go_wp2_with fail
 refine(sy (S8.out.ce 0 rfl) (HX.out _ S8.out.bl) hg.out gX HC.out AG.out).mono ?_
 rintro e w9 ⟨rfl,hw⟩
 obtain ⟨X1,c1,hz,hc1⟩:=HS.way (A:=[]) S8.out hw rfl
 have S9:=hid hz
 have pN:=hid hc1
 clear hz hc1 hw S8 S7
 go_simp
 go_upto_region 9 with (fail)
 refine wp_region_held_drew (S:=fun (w':World)=>Below w.heap.size w w') (by kernel_rfl) ?_ (fun hHeld=>?_)
 ·exact S9.out.bl.drew
 have F0:=hid S9.out.drew
 refine ae 0 hHeld ?_
 refine ae 1 hHeld ?_
 refine ae 2 hHeld ?_
 refine ae 3 hHeld ?_
 refine ae 4 hHeld ?_
 refine ae 5 hHeld ?_
 refine ae 6 hHeld ?_
 refine ae 7 hHeld ?_
 refine ae 8 hHeld ?_ (hy:=by intro w hSw;(try dsimp only at hSw);obtain ⟨a0,a1,a2,a3,a4⟩:=(SA.out.below hSw).pl.s5 k hk;go_simp;(try with_reducible rfl))
 refine ae 9 hHeld ?_
 refine ae 10 hHeld ?_
 refine ae 11 hHeld ?_
 refine ae 12 hHeld ?_
 refine ae 13 hHeld ?_
 refine ae 14 hHeld ?_
 refine ae 15 hHeld ?_
 refine ae 16 hHeld ?_ (hy:=by intro w hSw;(try dsimp only at hSw);obtain ⟨a0,a1,a2,a3,a4⟩:=(SA.out.below hSw).pl.s5 k hk;go_simp;(try with_reducible rfl))
 refine only 17 rfl (by kernel_rfl) rfl (fun K hK=>?_)
 go_simp
 refine(wU (F0.out.ce 1 rfl) (Ow.sl1 (F0.out.nth 0 rfl)) AI.out gX pN.out false (p.s k).ad (p.s k).po (WN.out k hk)).mono ?_
 rintro e ea ⟨rfl,hw⟩
 obtain ⟨X2,c2,hz,hc2⟩:=HS.way (A:=[bU w.heap.size 5 1 (.slice X1 n c1) n (fun j=>.int .u8 (aN g j))]) F0.out hw rfl
 try go_wp2_with fail
 refine hK.out _ _ hz.bl (fun _=>?_)
 clear hK hHeld
 try simp only[Act.put,zA,zB,zC]
 have eo:=hid hz
 have cI:=hid hc2
 clear hz hc2 hw S9 F0
 refine wpAnyH_done (by kernel_rfl) ?_ _
 go_upto_region 10 with (fail)
 obtain ⟨y0,y1,y2,y3,y4,y5,y6,y7,y8,y9,al,ak,aj⟩:=(eo.out.ce 5 rfl).c13
 go_wp2_with fail
 refine(ST.out _ eo.out.bl).mono ?_
 rintro e li ⟨rfl,hb⟩
 have dT:=hid (eo.out.below hb)
 clear hb eo y0 y1 y2 y3 y4 y5 y6 y7 y8 y9 al ak aj ST
 go_simp
 cases z4 with
 |false=>
  have HR2:Hid (inT p nr g n x=⟨0,(k:Int),o.isSome,n,bA (aN g) n false (p.s k).ad (p.s k).po,nr⟩):=hid (by rw[HR.out,oz.out,if_neg (by simp)])
  exact qXX
 |true=>
  cases hz3:(z3 != 0)
  ·have HR2:Hid (inT p nr g n x=⟨0,(k:Int),o.isSome,n,bA (aN g) n false (p.s k).ad (p.s k).po,nr⟩):=hid (by rw[HR.out,oz.out,if_neg (by simp at hz3;simp[hz3])])
   exact qXX
  have HR1:Hid (oo p nr g n x k=cB (bA (aN g) n false (p.s k).ad (p.s k).po) n (28+z1.toNat) 4 (ei nr k z3)):=hid (by rw[oz.out,if_pos (by simp at hz3;simp[hz3])])
  obtain ⟨a,rfl,a2,a3⟩:=SI.out rfl
  have q1:IntKind.i64.wrap (24+(a:Int))=24+(a:Int):=IntWalk.i64_in _ (by omega)
  have q2:IntKind.i64.wrap (24+(a:Int)+4)=24+(a:Int)+4:=IntWalk.i64_in _ (by omega)
  have HV:=hid (vJ nr k z3)
  have q3:IntKind.i64.wrap (ei nr k z3)=ei nr k z3:=IntWalk.i64_in _ (by have:=HV.out;omega)
  have HW:Hid (fG (bA (aN g) n false (p.s k).ad (p.s k).po) n (24+(a:Int)+4) 4 (ei nr k z3)=0):=hid (by
   have:=WW.out k hk (28+a) (ei nr k z3) HV.out.1 HV.out.2 (by omega) (by omega)
   rwa [show ((28+a:Nat):Int)=24+(a:Int)+4 by omega]at this)
  have HR2:Hid (inT p nr g n x=⟨0,(k:Int),o.isSome,n,cB (bA (aN g) n false (p.s k).ad (p.s k).po) n (24+(a:Int)+4).toNat (4:Int).toNat (ei nr k z3),nr⟩):=hid (by rw[HR.out,HR1.out,Int.toNat_natCast,show (24+(a:Int)+4).toNat=28+a by omega];rfl)
  have BK:=hid (fun (w':World) (hb:Below w.heap.size w w')=>Js p pb sb nr k hk z3 SU.out pK.out w' (HF.out.below hb))
  go_wp2_with fail
  refine(BK.out _ dT.out.bl).mono ?_
  rintro e og ⟨rfl,hb⟩
  have iN:=hid (dT.out.below hb)
  clear hb dT BK
  go_simp
  go_wp2_with fail
  refine(kC (iN.out.ce 2 rfl) (Ow.sl1 (iN.out.nth 0 rfl)) (NI.out k) gX cI.out (24+(a:Int)+4) 4 (ei nr k z3) ⟨by omega,by omega⟩ HW.out).mono ?_
  rintro e tz ⟨rfl,hw⟩
  obtain ⟨X3,c3,hz,hc3⟩:=HS.way (A:=[bU w.heap.size 5 1 (.slice X2 n c2) n (fun j=>.int .u8 (bA (aN g) n false (p.s k).ad (p.s k).po j)),bU w.heap.size 5 1 (.slice X1 n c1) n (fun j=>.int .u8 (aN g j))]) iN.out hw rfl
  have cK:=hid hz
  have me:=hid hc3
  clear hz hc3 hw iN
  go_simp
  go_wp2_with fail
  refine(jh (cK.out.ce 3 rfl) (k:Int) o.isSome).mono ?_
  rintro e gL ⟨rfl,hb⟩
  have dA:=hid (cK.out.below hb)
  clear hb cK
  unfold eN
  go_simp
  go_wp2_with (((with_reducible refine ah ?_);refine ay rfl (aB (A:=[bU w.heap.size 5 1 (.slice X3 n c3) n (fun j=>.int .u8 (cB (bA (aN g) n false (p.s k).ad (p.s k).po) n (24+(a:Int)+4).toNat (4:Int).toNat (ei nr k z3) j)),bU w.heap.size 5 1 (.slice X2 n c2) n (fun j=>.int .u8 (bA (aN g) n false (p.s k).ad (p.s k).po j)),bU w.heap.size 5 1 (.slice X1 n c1) n (fun j=>.int .u8 (aN g j)),aw Q [.slice X3 n c3,()],aw V [x.src,x.fp,p.a,p.p]]) [(),(k:Int),o.isSome,.slice X3 n c3] rfl rfl (rfl) dA.out rfl d9 rfl ?_);intro w_ hZ;have aK:=hid hZ;clear hZ;(first |refine aJ ?_ |refine aR ?_);apply_assumption;refine wp_ret ?_;(repeat refine aI ?_);(show bodyPost _ _ _ _ _ _);exact bodyPost_ret (v:=.agg ([(),(k:Int),o.isSome,.slice X3 n c3]:List Value).toArray) (aS Tryz.results46 _ rfl (aK.out.ce 5 rfl) Tryz.underlying45 rfl d9) rfl (by rw[HR2.out];exact⟨X3,c3,rfl,aK.out.nth 0 rfl,me.out,HF.out.below aK.out.bl,Ch.of_below aK.out.bl⟩)))
end Go.Proofs.YtalnfkijiehjhaaGreat
namespace Go.Proofs.YtalnfkijiehjhaaGreat
open List renaming setIfInBounds_toArray→zA,set_cons_zero→zB,set_cons_succ→zC
set_option linter.unusedVariables false
set_option linter.unusedSimpArgs false
open Go.RowKit Go.ChangeShapes Go.WideShapes Go.ChangeAt
set_option maxRecDepth 100000
theorem Ai (v c:Int)(hv:eH v)(hc:0≤c∧c<1048576):0≤fR v c∧fR v c<4294967296:=by
 unfold fR;omega
theorem E5 (k:Ky)(kd:Int)(f:Fl)(x e T:Int)(hT:T=4096∨T=256):0≤W7 k kd f x e%T∧W7 k kd f x e%T<T:=by rcases hT with rfl |rfl <;> omega
theorem Au (p:Pl)(x:Pk)(s:Nat)(hs:s<64):(x.kind=2→0≤jJ p x s∧jJ p x s<65536)∧0≤jJ p x s∧jJ p x s<1048576:=by
 unfold jJ ix
 have hx:=jD s (W7 p.r.c x.kind (dV p x.dst x.tp) 64 (p.r.e%4)%64) (by omega) (by omega)
 unfold oI
 split
 ·have:=E5 p.r.c x.kind (dV p x.dst x.tp) s (p.r.e%4) 4096 (.inl rfl)
  exact⟨fun h=>by omega,by omega⟩
 have:=E5 p.r.c x.kind (dV p x.dst x.tp) s (p.r.e%4) 256 (.inr rfl)
 exact⟨fun h=>by omega,by omega⟩
def mb (v:Int)(j:Nat):Value:=if j=0 then .int .u32 v else .bool true
theorem Kv (v:Int):Value.agg #[.int .u32 v,true] =.agg (FA 2 (mb v)):=rfl
theorem qYS{P:Prop}(h:P:=by
 rw[if_pos (by omega),if_neg (by omega),if_neg (by omega),if_neg (by omega),if_neg (by omega),if_pos (by omega)];rfl
 ):P:=h
theorem FX {sb:Nat}{nr:Nat→Option Int}(s:Nat)(hs:s<64)(v:Int)(j:Nat):patch (dw sb nr) (2+s*2) 2 (mb v) j=dw sb (jG nr s v) j:=by
 unfold patch dw rO jG mb
 by_cases e1:j=2+s*2+1
 ·subst e1
  exact qYS
 by_cases e0:j=2+s*2
 ·subst e0
  rw[if_pos (by omega),if_pos (by omega),if_neg (by omega),if_neg (by omega),if_pos (by omega),if_pos (by omega)];rfl
 rw[if_neg (by omega)]
 split
 ·rfl
 split
 ·rfl
 have e:¬(j-2)/2=s:=by omega
 rw[if_neg e]
theorem HS.yO {W w:World}{L:List Th}(h:HS [] W w L)(t:Th)(ht:t.at_ w)(hn:t.bs.Nodup)(hl:∀b,b∈t.bs→b<W.heap.size):HS t.bs W w (t::L):=by
 refine⟨fun x hx=>?_,h.2.1.mono (by simp),?_,fun b hb=>?_⟩
 ·rcases List.mem_cons.1 hx with rfl |hx
  ·exact ht
  exact h.1 x hx
 ·rw[List.flatMap_cons,List.nodup_append]
  refine⟨hn,h.2.2.1,fun a ha b hb e=>?_⟩
  subst e
  have:=hl a ha
  rcases h.2.2.2 a hb with h1 |h1
  ·cases h1
  omega
 rw[List.flatMap_cons]at hb
 rcases List.mem_append.1 hb with hb |hb
 ·exact .inl hb
 rcases h.2.2.2 b hb with h1 |h1
 ·cases h1
 exact .inr h1
theorem z32 (w:World):(zeroValue 83).run Tryz.prog w =.ok (.agg ([.int .u32 0,false]:List Value).toArray) w:=by kernel_rfl
theorem i32:(Tryz.prog.info? 83).map (·.size)=some 2:=by kernel_rfl
theorem xY (v:Int)(w:World):Calls Tryz.prog 101 #[.int .u32 v] w fun x w'=>x =.returned (.agg #[.int .u32 v,true])∧Below w.heap.size w w':=by
 have S0:Hid (HS [] w w []):=hid HS.start
 go_enter Tryz.func101,Tryz.ntmps101
 go_wp2_with (first | ((with_reducible refine ah ?_);refine ay rfl (bw rfl (z32 _) (by simp) S0.out ?_);intro U w_ hZ _;have S1:=hid hZ;clear hZ) | ((with_reducible refine ah ?_);refine ay rfl (aB (A:=[]) [.int .u32 v,true] rfl rfl (rfl) S1.out rfl i32 rfl ?_);intro w_ hZ;have S9:=hid hZ;clear hZ;(first |refine aJ ?_ |refine aR ?_);apply_assumption;refine wp_ret ?_;(repeat refine aI ?_);(show bodyPost _ _ _ _ _ _);exact bodyPost_ret (v:=.agg ([.int .u32 v,true]:List Value).toArray) (aS Tryz.results101 _ rfl (S9.out.ce 0 rfl) Tryz.underlying83 rfl i32) rfl ⟨rfl,S9.out.bl⟩))
set_option maxHeartbeats 4000000 in
theorem FY (p:Pl)(pb sb wb:Nat)(nr:Nat→Option Int)(g:Nat→Int)(n c:Nat)(x:Pk)(X AO:Option Addr)(cO:Nat)(AD:Option Addr)(cD:Nat)(s:Nat)(hs:s<64)(w:World)(hx:x=ax g n)(hg:aC g)(hE:az g n=0)(h1:1<g 1)(h3:g 0≠3)(hp:Pt p)(hF:Fb w pb 130 (dw sb nr))(hpl:pb≠sb∧pb≠wb)(hS:iM w sb wb p)(hX:By w X n g)(hc:n≤c)(hB:By w AO x.no x.go)(gI:x.no≤cO) :
 Calls Tryz.prog 48 #[.pointer (some ⟨pb,0,none⟩),.pointer (some ⟨sb,0,none⟩),.slice X n c,.agg #[x.kind,x.life,x.piece,x.src,x.dst,x.fp,x.tp,x.flags,x.label,x.bare,x.code,.slice AO x.no cO,.slice AD x.nd cD],(s:Int)] w (rq w pb sb (outT p nr g n x s)):=by
 have bd:=kr hg hE
 have ln:=ew hg hE
 rw[←hx]at bd ln
 obtain ⟨l1,l2,l3,l4,l5,l6,l7,l8,_⟩:=ln
 have hkd:x.kind=1∨x.kind=2:=by rw[l3];omega
 obtain ⟨d1,d2,d3,d4,d5,d6,d7⟩:=bd
 obtain ⟨p1,p2,p3,p4,p5⟩:=hp
 have jb:(dV p x.dst x.tp).I:=⟨⟨by show _≤x.dst;omega,by show x.dst≤_;omega⟩,⟨by show _≤x.tp;omega,by show x.tp≤_;omega⟩,⟨by show _≤p.a;omega,by show p.a≤_;omega⟩,⟨by show _≤p.p;omega,by show p.p≤_;omega⟩⟩
 have st:=@uj x
 have su:=lK d6
 have ob:=Au p x s hs
 have MK:=hid (fun (w':World)=>(show Calls Tryz.prog 99 #[.agg #[p.r.e,.int .u64 p.r.p.a,.int .u64 p.r.p.b,.int .u64 p.r.c.a,.int .u64 p.r.c.b,.int .u64 p.r.n.a,.int .u64 p.r.n.b],x.kind,ff (dV p x.dst x.tp),(s:Int)] w' fun e w2=>e =.returned (.int .i64 (jJ p x s))∧Below w'.heap.size w' w2 from by
  unfold jJ
  rcases hkd with h |h
  ·rw[h];exact Ji p.r (dV p x.dst x.tp) s jb (by omega) w'
  rw[h];exact Jh p.r (dV p x.dst x.tp) s jb (by omega) w'))
 have ST:=hid (fun (w':World) (hb:Below w.heap.size w w')=>(show Calls Tryz.prog 97 #[.slice AO x.no cO] w' fun e w2=>e =.returned (.tuple #[(bV x).1,.int .u32 (bV x).2.1,.int .u32 (bV x).2.2.1,(bV x).2.2.2])∧Below w'.heap.size w' w2 from oM AO x.no cO x.go w' (Sl.below hB hb (Nat.le_refl _)) d6 (by omega) gI))
 have SA:=hid hS
 have HF:=hid hF
 have HX:=hid (fun (w':World) (hb:Below w.heap.size w w')=>(show By w' X n g from Sl.below hX hb (Nat.le_refl _)))
 have AG:=hid (gk hE h1)
 have AI:=hid (jz hg (gk hE h1))
 have WN:=hid (oH (n:=n) (ad:=p.a) (po:=p.p) hg hE h1 h3 p4 p5)
 have NI:=hid (ru (n:=n) (s:=true) (ad:=p.a) (po:=p.p) hg hE h1)
 have WG:=hid (fun (hk:x.kind=2)=>pU (n:=n) (s:=true) (a:=20) (m:=2) (v:=jJ p x s) hg hE h1 h3 p4 p5 (.inl ⟨rfl,by have:=ob.1 hk;omega⟩) ob.2.1 (by omega) (by omega) (.inl (by omega)))
 have WS:=hid (fun (a:Nat) (v:Int) (hv:0≤v) (hv':v<4294967296) (ha:24≤a) (hL:a+4≤n)=>pU (n:=n) (s:=true) (a:=(a:Int)) (m:=4) (v:=v) hg hE h1 h3 p4 p5 (.inr ⟨rfl,by omega⟩) hv (by omega) (by omega) (.inr (by omega)))
 have SI:Hid ((bV x).2.2.2=true→∃a:Nat,(bV x).1=a∧2≤a∧24+a+8≤n):=hid (fun h=>by
  obtain ⟨e1,e2,e3⟩:=st h
  refine⟨(bV x).1.toNat,e3,by omega,?_⟩
  by_cases k2:g 0=2
  ·have:=l6 k2;omega
  have:=l7 (by omega);omega)
 have SG:Hid (x.kind=2→(bV x).2.2.2=false):=hid (fun h=>by
  cases hq:(bV x).2.2.2
  ·rfl
  have:=(st hq).2.1;have:=l6 (by omega);omega)
 have SU:=hid su.1
 have OB:=hid ob.2
 have HO:Hid (outT p nr g n x s=if x.kind=2 then ⟨0,-1,false,n,cB (bA (aN g) n true p.a p.p) n 20 2 (jJ p x s),nr⟩ else if (bV x).2.2.2=true then ⟨0,-1,false,n,cB (bA (aN g) n true p.a p.p) n (24+(bV x).1.toNat) 4 (fR (bV x).2.1 (jJ p x s)),jG nr s (bV x).2.1⟩ else ⟨0,-1,false,n,bA (aN g) n true p.a p.p,nr⟩):=hid rfl
 have gX:n≤1000000:=by omega
 have HC:=hid hc
 have Mj:=hid hpl
 have i0:(0:Int)≤s:=by omega
 have i1:(s:Int)<64:=by omega
 have S0:Hid (HS [] w w []):=hid HS.start
 clear hS hB hF hX hE hx h1 h3 l1 l2 l3 l4 l5 l6 l7 l8 d1 d2 d3 d4 d5 d6 d7 p1 p2 p3 p4 p5 st su hkd jb hc gI ob hpl
 replace hg:=hid hg
 generalize bV x=z at ST SI SU HO SG
 obtain ⟨z1,z2,z3,z4⟩:=z
 dsimp only at ST SI SU HO SG
 generalize jJ p x s=ck at MK WG OB HO
 go_enter Tryz.func48,Tryz.ntmps48
 go_upto_region 1 with (first | ((with_reducible refine ah ?_);refine ay rfl (fi (l:=[x.kind,x.life,x.piece,x.src,x.dst,x.fp,x.tp,x.flags,x.label,x.bare,x.code,.slice AO x.no cO,.slice AD x.nd cD]) rfl rfl (by simp) S0.out ?_);intro E w_ hZ _;have S1:=hid hZ;clear hZ) | ((with_reducible refine ah ?_);refine ay rfl (bw rfl (oC _) (by simp) S1.out ?_);intro U w_ hZ _;have S2:=hid hZ;clear hZ))
 refine wp_region_held_drew (S:=fun (w':World)=>HS [] w w' [aw U [(),(),false,.slice none 0 0],aw E [x.kind,x.life,x.piece,x.src,x.dst,x.fp,x.tp,x.flags,x.label,x.bare,x.code,.slice AO x.no cO,.slice AD x.nd cD]]) (by kernel_rfl) ?_ (fun hHeld=>?_)
 ·exact S2.out.drew
 refine ae 0 hHeld ?_
 refine ae 1 hHeld ?_
 refine ae 2 hHeld ?_
 refine ae 3 hHeld ?_
 refine ae 4 hHeld ?_ (hy:=by intro w hSw;(try dsimp only at hSw);obtain ⟨r0,r1,r2,r3,r4,r5,r6⟩:=(SA.out.below hSw.bl).pl.r7;go_simp;(try with_reducible rfl))
 refine ae 5 hHeld ?_
 refine ae 6 hHeld ?_ (hy:=by intro w hSw;(try dsimp only at hSw);obtain ⟨y0,y1,y2,y3,y4,y5,y6,y7,y8,y9,al,ak,aj⟩:=(hSw.ce 1 rfl).c13;go_simp;(try with_reducible rfl))
 refine ae 7 hHeld ?_
 refine ae 8 hHeld ?_
 refine ae 9 hHeld ?_ (hy:=by intro w hSw;(try dsimp only at hSw);obtain ⟨y0,y1,y2,y3,y4,y5,y6,y7,y8,y9,al,ak,aj⟩:=(hSw.ce 1 rfl).c13;go_simp;(try with_reducible rfl))
 refine ae 10 hHeld ?_
 refine ae 11 hHeld ?_ (hy:=by intro w hSw;(try dsimp only at hSw);obtain ⟨y0,y1,y2,y3,y4,y5,y6,y7,y8,y9,al,ak,aj⟩:=(hSw.ce 1 rfl).c13;go_simp;(try with_reducible rfl))
 refine ae 13 hHeld ?_
 refine only 12 rfl (by kernel_rfl) rfl (fun K hK=>?_)
 go_simp
 refine(rp p sb x.dst x.tp _ (SA.out.below hHeld.bl).pl.c1 (SA.out.below hHeld.bl).pl.c2 (SA.out.below hHeld.bl).pl.1).mono ?_
 rintro e w3 ⟨rfl,hb⟩
 try go_wp2_with fail
 refine hK.out _ _ (hHeld.below hb) (fun h3=>?_)
 clear hK hb hHeld
 try simp only[Act.put,zA,zB,zC]
 refine only 14 rfl (by kernel_rfl) rfl (fun K hK=>?_)
 go_simp
 refine(MK.out _).mono ?_
 rintro e w4 ⟨rfl,hb⟩
 try go_wp2_with fail
 refine hK.out _ _ (h3.below hb) (fun h4=>?_)
 clear hK hb h3
 try simp only[Act.put,zA,zB,zC]
 refine ae 15 h4 ?_
 have S4:=hid h4
 clear h4 S0 S1 S2 MK
 refine wpAnyH_done (by kernel_rfl) ?_ _
 go_upto_region 3 with (((with_reducible refine ah ?_);refine ay rfl (fi (l:=[.slice X n c,()]) rfl rfl (by simp) S4.out ?_);intro Q w_ hZ _;have S5:=hid hZ;clear hZ))
 go_wp2_with fail
 refine(sy (S5.out.ce 0 rfl) (HX.out _ S5.out.bl) hg.out gX HC.out AG.out).mono ?_
 rintro e w9 ⟨rfl,hw⟩
 obtain ⟨X1,c1,hz,hc1⟩:=HS.way (A:=[]) S5.out hw rfl
 have S9:=hid hz
 have pN:=hid hc1
 clear hz hc1 hw S4 S5
 go_simp
 go_upto_region 4 with (fail)
 refine wp_region_held_drew (S:=fun (w':World)=>Below w.heap.size w w') (by kernel_rfl) ?_ (fun hHeld=>?_)
 ·exact S9.out.bl.drew
 have F0:=hid S9.out.drew
 refine ae 0 hHeld ?_
 refine ae 1 hHeld ?_
 refine ae 2 hHeld ?_
 refine ae 3 hHeld ?_
 refine ae 4 hHeld ?_
 refine ae 5 hHeld ?_ (hy:=by intro w hSw;(try dsimp only at hSw);have x1:=(SA.out.below hSw).pl.c1;go_simp;(try with_reducible rfl))
 refine ae 6 hHeld ?_
 refine ae 7 hHeld ?_
 refine ae 8 hHeld ?_
 refine ae 9 hHeld ?_
 refine ae 10 hHeld ?_ (hy:=by intro w hSw;(try dsimp only at hSw);have x2:=(SA.out.below hSw).pl.c2;go_simp;(try with_reducible rfl))
 refine only 11 rfl (by kernel_rfl) rfl (fun K hK=>?_)
 go_simp
 refine(wU (F0.out.ce 1 rfl) (Ow.sl1 (F0.out.nth 0 rfl)) AI.out gX pN.out true p.a p.p WN.out).mono ?_
 rintro e ea ⟨rfl,hw⟩
 obtain ⟨X2,c2,hz,hc2⟩:=HS.way (A:=[bU w.heap.size 5 1 (.slice X1 n c1) n (fun j=>.int .u8 (aN g j))]) F0.out hw rfl
 try go_wp2_with fail
 refine hK.out _ _ hz.bl (fun _=>?_)
 clear hK hHeld
 try simp only[Act.put,zA,zB,zC]
 have eo:=hid hz
 have cI:=hid hc2
 clear hz hc2 hw S9 F0
 refine wpAnyH_done (by kernel_rfl) ?_ _
 go_upto_region 5 with (fail)
 obtain ⟨y0,y1,y2,y3,y4,y5,y6,y7,y8,y9,al,ak,aj⟩:=(eo.out.ce 4 rfl).c13
 go_wp2_with fail
 refine(ST.out _ eo.out.bl).mono ?_
 rintro e li ⟨rfl,hb⟩
 have dT:=hid (eo.out.below hb)
 clear hb eo y0 y1 y2 y3 y4 y5 y6 y7 y8 y9 al ak aj ST
 go_simp
 obtain ⟨y0,y1,y2,y3,y4,y5,y6,y7,y8,y9,al,ak,aj⟩:=(dT.out.ce 4 rfl).c13
 cases k2:(x.kind==2)
 ·cases z4 with
  |false=>
   have HR2:Hid (outT p nr g n x s=⟨0,-1,false,n,bA (aN g) n true p.a p.p,nr⟩):=hid (by rw[HO.out,if_neg (by simpa using k2),if_neg (by simp)])
   go_wp2_with fail
   refine(jh (dT.out.ce 2 rfl) (-1) false).mono ?_
   rintro e gL ⟨rfl,hb⟩
   have dA:=hid (dT.out.below hb)
   clear hb dT
   unfold eN
   go_simp
   go_wp2_with (((with_reducible refine ah ?_);refine ay rfl (aB (A:=[bU w.heap.size 5 1 (.slice X2 n c2) n (fun j=>.int .u8 (bA (aN g) n true p.a p.p j)),bU w.heap.size 5 1 (.slice X1 n c1) n (fun j=>.int .u8 (aN g j)),aw Q [.slice X2 n c2,()]]) [(),.int .i64 (-1),false,.slice X2 n c2] rfl rfl (rfl) dA.out rfl d9 rfl ?_);intro w_ hZ;have aK:=hid hZ;clear hZ;(first |refine aJ ?_ |refine aR ?_);apply_assumption;refine wp_ret ?_;(repeat refine aI ?_);(show bodyPost _ _ _ _ _ _);exact bodyPost_ret (v:=.agg ([(),.int .i64 (-1),false,.slice X2 n c2]:List Value).toArray) (aS Tryz.results48 _ rfl (aK.out.ce 3 rfl) Tryz.underlying45 rfl d9) rfl (by rw[HR2.out];exact⟨X2,c2,rfl,aK.out.nth 0 rfl,cI.out,HF.out.below aK.out.bl,Ch.of_below aK.out.bl⟩)))
  |true=>
   obtain ⟨a,rfl,a2,a3⟩:=SI.out rfl
   have q1:IntKind.i64.wrap (24+(a:Int))=24+(a:Int):=IntWalk.i64_in _ (by omega)
   have HV:=hid (Ai z2 ck SU.out OB.out)
   have q3:IntKind.i64.wrap (fR z2 ck)=fR z2 ck:=IntWalk.i64_in _ (by have:=HV.out;omega)
   have HW:Hid (fG (bA (aN g) n true p.a p.p) n (24+(a:Int)) 4 (fR z2 ck)=0):=hid (by
    have:=WS.out (24+a) (fR z2 ck) HV.out.1 HV.out.2 (by omega) (by omega)
    rwa [show ((24+a:Nat):Int)=24+(a:Int) by omega]at this)
   have HR2:Hid (outT p nr g n x s=⟨0,-1,false,n,cB (bA (aN g) n true p.a p.p) n (24+(a:Int)).toNat (4:Int).toNat (fR z2 ck),jG nr s z2⟩):=hid (by rw[HO.out,if_neg (by simpa using k2),if_pos rfl,Int.toNat_natCast,show (24+(a:Int)).toNat=24+a by omega];rfl)
   have PT:=hid (fun (w':World)=>FT z2 ck SU.out OB.out w')
   go_wp2_with fail
   refine(PT.out _).mono ?_
   rintro e og ⟨rfl,hb⟩
   have iN:=hid (dT.out.below hb)
   clear hb dT PT y0 y1 y2 y3 y4 y5 y6 y7 y8 y9 al ak aj
   go_simp
   go_wp2_with fail
   refine(kC (iN.out.ce 2 rfl) (Ow.sl1 (iN.out.nth 0 rfl)) NI.out gX cI.out (24+(a:Int)) 4 (fR z2 ck) ⟨by omega,by omega⟩ HW.out).mono ?_
   rintro e tz ⟨rfl,hw⟩
   obtain ⟨X3,c3,hz,hc3⟩:=HS.way (A:=[bU w.heap.size 5 1 (.slice X2 n c2) n (fun j=>.int .u8 (bA (aN g) n true p.a p.p j)),bU w.heap.size 5 1 (.slice X1 n c1) n (fun j=>.int .u8 (aN g j))]) iN.out hw rfl
   have cK:=hid hz
   have me:=hid hc3
   clear hz hc3 hw iN
   go_simp
   obtain ⟨v0,v1⟩:=(cK.out.ce 3 rfl).c2
   go_upto_region 11 with (fail)
   clear v0 v1
   refine wp_region_held_drew (S:=fun _=>True) (by kernel_rfl) ?_ (fun hHeld=>?_)
   ·trivial
   have F0:=cK.out.drew
   refine ae 0 hHeld ?_
   refine ae 1 hHeld ?_
   refine ae 2 hHeld ?_
   refine ae 4 hHeld ?_
   refine ae 5 hHeld ?_
   refine only 3 rfl (by kernel_rfl) rfl (fun K hK=>?_)
   go_simp
   refine(xY z2 _).mono ?_
   rintro e El ⟨rfl,hb⟩
   try go_wp2_with fail
   have xv:=F0.below hb
   refine hK.out _ _ trivial (fun _=>?_)
   clear hK hb F0
   try simp only[Act.put,zA,zB,zC]
   refine ae 6 trivial ?_
   refine only 7 rfl (by kernel_rfl) rfl (fun K hK=>?_)
   have hP:Fb El pb 130 (dw sb nr):=HF.out.below xv.bl
   have hA:=HS.yO xv (aD pb 130 (dw sb nr)) hP (by simp[aD]) (fun b hb=>by simp[aD]at hb;subst hb;exact HF.out.1)
   refine ji (A:=[]) (2+s*2) 2 (mb z2) (dw sb (jG nr s z2)) rfl rfl (Kv z2) hA (by omega) (fun j hj=>FX s hs z2 j) i32 (fun j=>by unfold mb;split <;> rfl) (fun eB hZ=>?_)
   refine hK.out _ _ trivial (fun _=>?_)
   clear hK hHeld hP hA xv
   try simp only[Act.put,zA,zB,zC]
   have JG:=hid hZ
   clear hZ cK
   refine wpAnyH_done (by kernel_rfl) ?_ _
   go_wp2_with fail
   refine(jh (JG.out.ce 4 rfl) (-1) false).mono ?_
   rintro e gL ⟨rfl,hb⟩
   have dA:=hid (JG.out.below hb)
   clear hb JG
   unfold eN
   go_simp
   go_wp2_with (((with_reducible refine ah ?_);refine ay rfl (aB (A:=[aD pb 130 (dw sb (jG nr s z2)),bU w.heap.size 5 1 (.slice X3 n c3) n (fun j=>.int .u8 (cB (bA (aN g) n true p.a p.p) n (24+(a:Int)).toNat (4:Int).toNat (fR z2 ck) j)),bU w.heap.size 5 1 (.slice X2 n c2) n (fun j=>.int .u8 (bA (aN g) n true p.a p.p j)),bU w.heap.size 5 1 (.slice X1 n c1) n (fun j=>.int .u8 (aN g j)),aw Q [.slice X3 n c3,()]]) [(),.int .i64 (-1),false,.slice X3 n c3] rfl rfl (rfl) dA.out rfl d9 rfl ?_);intro w_ hZ;have aK:=hid hZ;clear hZ;(first |refine aJ ?_ |refine aR ?_);apply_assumption;refine wp_ret ?_;(repeat refine aI ?_);(show bodyPost _ _ _ _ _ _);exact bodyPost_ret (v:=.agg ([(),.int .i64 (-1),false,.slice X3 n c3]:List Value).toArray) (aS Tryz.results48 _ rfl (aK.out.ce 5 rfl) Tryz.underlying45 rfl d9) rfl (by rw[HR2.out];exact⟨X3,c3,rfl,aK.out.nth 1 rfl,me.out,aK.out.fb 0 rfl,aK.out.ch⟩)))
 have HR2:Hid (outT p nr g n x s=⟨0,-1,false,n,cB (bA (aN g) n true p.a p.p) n 20 2 ck,nr⟩):=hid (by rw[HO.out,if_pos (by simpa using k2)])
 have Ir:=SG.out (by simpa using k2)
 subst Ir
 go_wp2_with fail
 refine(kC (dT.out.ce 2 rfl) (Ow.sl1 (dT.out.nth 0 rfl)) NI.out gX cI.out 20 2 ck ⟨by omega,by omega⟩ (WG.out (by simpa using k2))).mono ?_
 rintro e tz ⟨rfl,hw⟩
 obtain ⟨X3,c3,hz,hc3⟩:=HS.way (A:=[bU w.heap.size 5 1 (.slice X2 n c2) n (fun j=>.int .u8 (bA (aN g) n true p.a p.p j)),bU w.heap.size 5 1 (.slice X1 n c1) n (fun j=>.int .u8 (aN g j))]) dT.out hw rfl
 have cK:=hid hz
 have me:=hid hc3
 clear hz hc3 hw dT y0 y1 y2 y3 y4 y5 y6 y7 y8 y9 al ak aj
 go_simp
 go_wp2_with fail
 refine(jh (cK.out.ce 3 rfl) (-1) false).mono ?_
 rintro e gL ⟨rfl,hb⟩
 have dA:=hid (cK.out.below hb)
 clear hb cK
 unfold eN
 go_simp
 go_wp2_with (((with_reducible refine ah ?_);refine ay rfl (aB (A:=[bU w.heap.size 5 1 (.slice X3 n c3) n (fun j=>.int .u8 (cB (bA (aN g) n true p.a p.p) n (20:Int).toNat (2:Int).toNat ck j)),bU w.heap.size 5 1 (.slice X2 n c2) n (fun j=>.int .u8 (bA (aN g) n true p.a p.p j)),bU w.heap.size 5 1 (.slice X1 n c1) n (fun j=>.int .u8 (aN g j)),aw Q [.slice X3 n c3,()]]) [(),.int .i64 (-1),false,.slice X3 n c3] rfl rfl (rfl) dA.out rfl d9 rfl ?_);intro w_ hZ;have aK:=hid hZ;clear hZ;(first |refine aJ ?_ |refine aR ?_);apply_assumption;refine wp_ret ?_;(repeat refine aI ?_);(show bodyPost _ _ _ _ _ _);exact bodyPost_ret (v:=.agg ([(),.int .i64 (-1),false,.slice X3 n c3]:List Value).toArray) (aS Tryz.results48 _ rfl (aK.out.ce 4 rfl) Tryz.underlying45 rfl d9) rfl (by rw[HR2.out];exact⟨X3,c3,rfl,aK.out.nth 0 rfl,me.out,HF.out.below aK.out.bl,Ch.of_below aK.out.bl⟩)))
end Go.Proofs.YtalnfkijiehjhaaGreat
namespace Go.Proofs.YtalnfkijiehjhaaGreat
open List renaming setIfInBounds_toArray→zA,set_cons_zero→zB,set_cons_succ→zC
set_option linter.unusedVariables false
set_option linter.unusedSimpArgs false
open Go.RowKit Go.ChangeShapes Go.WideShapes Go.ChangeAt
set_option maxRecDepth 100000
theorem oB (w:World):(zeroValue 53).run Tryz.prog w =.ok (.agg ([(),(),(),(),(),(),(),(),(),false,(),.slice none 0 0,.slice none 0 0]:List Value).toArray) w:=by kernel_rfl
theorem jt:(Tryz.prog.info? 53).map (·.size)=some 13:=by kernel_rfl
theorem lT (A:Option Addr)(up:Bool)(w:World):Calls Tryz.prog 41 #[.agg #[.pointer A,up]] w fun x w'=>x =.returned (.tuple #[.pointer A,up])∧Below w.heap.size w w':=by
 go_enter Tryz.func41,Tryz.ntmps41
 go_wp2_with fail
 go_quiet (fail)
 go_wp2_with fail
 go_ret2
 exact⟨rfl,below_drewN ((Below.refl _ _).alloc (Nat.le_refl _) _) _⟩
theorem HS.took {w w1 w2:World}{L:List Th}{pb sb:Nat}{nr:Nat→Option Int}{t:To}{e:Ending}(h:HS [] w w1 L)(hF:Fb w1 pb 130 (dw sb nr))(hpb:pb<w.heap.size)(hT:rq w1 pb sb t e w2) :
 ∃X c,e =.returned (eN t.d t.s t.c (.slice X t.n c))∧HS [pb] w w2 (bU w.heap.size 5 1 (.slice X t.n c) t.n (fun j=>.int .u8 (t.f j))::aD pb 130 (dw sb t.nr)::L)∧t.n≤c:=by
 obtain ⟨X,c,he,hO,hc,hF2,hch⟩:=hT
 refine⟨X,c,he,?_,hc⟩
 have hA:HS [pb] w w1 (aD pb 130 (dw sb nr)::L):=HS.yO h (aD pb 130 (dw sb nr)) hF (by simp[aD]) (fun b hb=>by simp[aD]at hb;subst hb;exact hpb)
 have h2:HS [pb] w w2 (aD pb 130 (dw sb t.nr)::L):=HS.upd (A:=[]) hA (aD pb 130 (dw sb t.nr)) rfl hch hF2
 have IP:Ow w2 w.heap.size 5 1 (.slice X t.n c) t.n (fun j=>.int .u8 (t.f j)):=OB.base hO h.jf
 have hlt:∀b,b∈(aD pb 130 (dw sb t.nr)::L).flatMap Th.bs→b<w1.heap.size:=fun b hb=>by
  rw[List.flatMap_cons]at hb
  rcases List.mem_append.1 hb with hb |hb
  ·simp[aD]at hb;subst hb;exact hF.1
  obtain ⟨t,ht,htb⟩:=List.mem_flatMap.1 hb
  exact t.lt w1 (h.1 t ht) b htb
 have hge:∀b,b∈(bU w.heap.size 5 1 (.slice X t.n c) t.n (fun j=>.int .u8 (t.f j))).bs→w1.heap.size≤b:=fun b hb=>(World.ownsRow.lt hO b (by simpa [bU]using hb)).1
 refine⟨fun u hu=>?_,h2.2.1,?_,fun b hb=>?_⟩
 ·rcases List.mem_cons.1 hu with rfl |hu
  ·exact IP
  exact h2.1 u hu
 ·rw[List.flatMap_cons,List.nodup_append]
  refine⟨by unfold bU;dsimp only;cases (Value.slice X t.n c).ownBlock <;> simp,h2.2.2.1,fun a ha b hb e=>?_⟩
  subst e
  have:=hlt a hb
  have:=hge a ha
  omega
 rw[List.flatMap_cons]at hb
 rcases List.mem_append.1 hb with hb |hb
 ·exact .inr (Nat.le_trans h.jf (hge b hb))
 exact h2.2.2.2 b hb
def dN (B:Nat)(O D:Value)(no nd:Nat)(go gd:Nat→Int):Th:=⟨fun w=>Ow w B 5 1 O no (fun j=>.int .u8 (go j))∧Ow w B 5 1 D nd (fun j=>.int .u8 (gd j)),if O.ownBlock=D.ownBlock then O.ownBlock.toList else O.ownBlock.toList++D.ownBlock.toList,
 fun w w' h e=>⟨(bU B 5 1 O no (fun j=>.int .u8 (go j))).keep w w' h.1 (fun b hb=>e b (by dsimp only[bU]at hb;split;exact hb;exact List.mem_append.2 (.inl hb))),(bU B 5 1 D nd (fun j=>.int .u8 (gd j))).keep w w' h.2 (fun b hb=>e b (by dsimp only[bU]at hb;split;rename_i h;rw[h];exact hb;exact List.mem_append.2 (.inr hb)))⟩,
 fun w h b hb=>by
  split at hb
  ·exact(bU B 5 1 O no (fun j=>.int .u8 (go j))).lt w h.1 b hb
  rcases List.mem_append.1 hb with hb |hb
  ·exact(bU B 5 1 O no (fun j=>.int .u8 (go j))).lt w h.1 b hb
  exact(bU B 5 1 D nd (fun j=>.int .u8 (gd j))).lt w h.2 b hb⟩
theorem qYP{P:Prop}(h:P:=by
 split
 ·cases O.ownBlock <;> simp
 rename_i hne
 cases h1:O.ownBlock <;> cases h2:D.ownBlock <;> simp
 intro e;exact hne (by rw[h1,h2,e])
 ):P:=h
theorem HS.yr {S:List Nat}{W w w':World}{L:List Th}{O D:Value}{no nd B:Nat}{go gd:Nat→Int}(h:HS S W w L)(hb:Below w.heap.size w w')(hO:OB w' B O no go)(hD:OB w' B D nd gd)(hB:B=w.heap.size):HS S W w' (dN B O D no nd go gd::L):=by
 subst hB
 have gO:∀b,b∈O.ownBlock.toList→w.heap.size≤b:=fun b hb=>(World.ownsRow.lt hO b (by simpa using hb)).1
 have gD:∀b,b∈D.ownBlock.toList→w.heap.size≤b:=fun b hb=>(World.ownsRow.lt hD b (by simpa using hb)).1
 refine h.new (dN w.heap.size O D no nd go gd) hb ⟨hO,hD⟩ ?_ (fun b hb=>?_)
 ·dsimp only[dN]
  exact qYP
 dsimp only[dN]at hb
 split at hb
 ·exact gO b hb
 rcases List.mem_append.1 hb with hb |hb
 ·exact gO b hb
 exact gD b hb
theorem xA {p:Pl}{a q:Int}{s:Nat}(h:fu p a q=some s):s<64:=by
 unfold fu at h
 have:=List.mem_of_find?_eq_some h
 simpa using this
theorem dL {l:Nat}{Q:Exit→Act→World→Prop}{a:Act}{w:World}(h:Q .ret a w):Exit.inBlock l Q .ret a w:=h
attribute [local irreducible] PA
theorem qXU{P:Prop}(h:P:=by
 unfold eN
 go_simp
 go_wp2_with (((with_reducible refine ah ?_);refine ay rfl (aB (A:=[aw E1 [x.kind,x.life,x.piece,x.src,x.dst,x.fp,x.tp,x.flags,x.label,x.bare,x.code,.slice AO x.no cO,.slice AD x.nd cD],dN w2.heap.size (.slice AO x.no cO) (.slice AD x.nd cD) x.no x.nd x.go x.gd]) [.int .i64 8,.int .i64 (-1),false,.slice none 0 0] rfl rfl (rfl) dA.out rfl d9 rfl ?_);intro w_ hZ;have aK:=hid hZ;clear hZ;(first |refine aJ ?_ |refine aR ?_);apply_assumption;refine wp_ret ?_;(repeat (first |refine aI ?_ |refine dL ?_));(show bodyPost _ _ _ _ _ _);exact bodyPost_ret (v:=.agg ([.int .i64 8,.int .i64 (-1),false,.slice none 0 0]:List Value).toArray) (aS Tryz.results16 _ rfl (aK.out.ce 2 rfl) Tryz.underlying45 rfl d9) rfl (by rw[HR.out];exact⟨none,0,rfl,OB.nil,Nat.le_refl _,HF.out.below aK.out.bl,Ch.of_below aK.out.bl⟩)))
 ):P:=h
theorem qXY{P:Prop}(h:P:=by
 go_wp2_with fail
 refine(fT 6 _).mono ?_
 rintro e gL ⟨rfl,hb⟩
 have dA:=hid (S5.out.below hb)
 clear hb S5
 unfold eN
 go_simp
 go_wp2_with (((with_reducible refine ah ?_);refine ay rfl (aB (A:=[aw E1 [x.kind,x.life,x.piece,x.src,x.dst,x.fp,x.tp,x.flags,x.label,x.bare,x.code,.slice AO x.no cO,.slice AD x.nd cD],dN w2.heap.size (.slice AO x.no cO) (.slice AD x.nd cD) x.no x.nd x.go x.gd]) [.int .i64 6,.int .i64 (-1),false,.slice none 0 0] rfl rfl (rfl) dA.out rfl d9 rfl ?_);intro w_ hZ;have aK:=hid hZ;clear hZ;(first |refine aJ ?_ |refine aR ?_);apply_assumption;refine wp_ret ?_;(repeat (first |refine aI ?_ |refine dL ?_));(show bodyPost _ _ _ _ _ _);exact bodyPost_ret (v:=.agg ([.int .i64 6,.int .i64 (-1),false,.slice none 0 0]:List Value).toArray) (aS Tryz.results16 _ rfl (aK.out.ce 2 rfl) Tryz.underlying45 rfl d9) rfl (by rw[HR.out];exact⟨none,0,rfl,OB.nil,Nat.le_refl _,HF.out.below aK.out.bl,Ch.of_below aK.out.bl⟩)))
 ):P:=h
theorem qXZ{P:Prop}(h:P:=by
 go_wp2_with fail
 refine(fT 7 _).mono ?_
 rintro e gL ⟨rfl,hb⟩
 have dA:=hid (S5.out.below hb)
 clear hb S5
 unfold eN
 go_simp
 go_wp2_with (((with_reducible refine ah ?_);refine ay rfl (aB (A:=[aw E1 [x.kind,x.life,x.piece,x.src,x.dst,x.fp,x.tp,x.flags,x.label,x.bare,x.code,.slice AO x.no cO,.slice AD x.nd cD],dN w2.heap.size (.slice AO x.no cO) (.slice AD x.nd cD) x.no x.nd x.go x.gd]) [.int .i64 7,.int .i64 (-1),false,.slice none 0 0] rfl rfl (rfl) dA.out rfl d9 rfl ?_);intro w_ hZ;have aK:=hid hZ;clear hZ;(first |refine aJ ?_ |refine aR ?_);apply_assumption;refine wp_ret ?_;(repeat (first |refine aI ?_ |refine dL ?_));(show bodyPost _ _ _ _ _ _);exact bodyPost_ret (v:=.agg ([.int .i64 7,.int .i64 (-1),false,.slice none 0 0]:List Value).toArray) (aS Tryz.results16 _ rfl (aK.out.ce 2 rfl) Tryz.underlying45 rfl d9) rfl (by rw[HR.out];exact⟨none,0,rfl,OB.nil,Nat.le_refl _,HF.out.below aK.out.bl,Ch.of_below aK.out.bl⟩)))
 ):P:=h
theorem qQ2{P:Prop}(h:P:=by
 have dA:=hid hz
 have pM:=hid jZ
 clear hz hT jZ y0 y1 y2 y3 y4 y5 y6 y7 y8 y9 al ak aj
 unfold eN
 go_simp
 go_wp2_with (((with_reducible refine ah ?_);refine ay rfl (aB (A:=[bU w.heap.size 5 1 (.slice X9 t.n c9) t.n (fun j=>.int .u8 (t.f j)),aD pb 130 (dw sb t.nr),aw E1 [x.kind,x.life,x.piece,x.src,x.dst,x.fp,x.tp,x.flags,x.label,x.bare,x.code,.slice AO x.no cO,.slice AD x.nd cD],dN w2.heap.size (.slice AO x.no cO) (.slice AD x.nd cD) x.no x.nd x.go x.gd]) [t.d,t.s,t.c,.slice X9 t.n c9] rfl rfl (rfl) dA.out rfl d9 rfl ?_);intro w_ hZ;have aK:=hid hZ;clear hZ;(first |refine aJ ?_ |refine aR ?_);apply_assumption;refine wp_ret ?_;(repeat (first |refine aI ?_ |refine dL ?_));(show bodyPost _ _ _ _ _ _);exact bodyPost_ret (v:=.agg ([t.d,t.s,t.c,.slice X9 t.n c9]:List Value).toArray) (aS Tryz.results16 _ rfl (aK.out.ce 4 rfl) Tryz.underlying45 rfl d9) rfl (by rw[HR.out];exact⟨X9,c9,rfl,aK.out.nth 0 rfl,pM.out,aK.out.fb 1 rfl,aK.out.ch⟩)))
 ):P:=h
set_option maxHeartbeats 4000000 in
theorem uJ (p:Pl)(pb sb wb:Nat)(nr:Nat→Option Int)(g:Nat→Int)(n c:Nat)(X:Option Addr)(w:World)(hg:aC g)(hn:n≤1000000)(h3:az g n=0→g 0≠3)(hp:Pt p)(hnr:iP nr)(hF:Fb w pb 130 (dw sb nr))(hpl:pb≠sb∧pb≠wb)(hS:iM w sb wb p)(hX:By w X n g)(hc:n≤c) :
 Calls Tryz.prog 16 #[.pointer (some ⟨pb,0,none⟩),.slice X n c] w (rq w pb sb (cY p true nr g n)):=by
 have PS:=hid (fun (w':World) (hb:Below w.heap.size w w')=>jm X n c g w' (Sl.below hX hb (Nat.le_refl _)) hg hc hn)
 have SA:=hid hS
 have HF:=hid hF
 have HX:=hid (fun (w':World) (hb:Below w.heap.size w w')=>(show By w' X n g from Sl.below hX hb (Nat.le_refl _)))
 have HG:=hid hg
 have HP:=hid hp
 have pK:=hid hnr
 have HC:=hid hc
 have H3:=hid h3
 have Mj:=hid hpl
 have S0:Hid (HS [] w w []):=hid HS.start
 clear hS hF hX hg hp hnr hc h3 hpl
 go_enter Tryz.func16,Tryz.ntmps16
 go_upto_region 1 with ((with_reducible refine ah ?_);refine ay rfl (bw rfl (oC _) (by simp) S0.out ?_);intro U w_ hZ _;have S1:=hid hZ;clear hZ)
 have hF1:=HF.out.below S1.out.bl
 have c0:w_.cell? ⟨pb,0,none⟩=some (.pointer (some ⟨sb,0,none⟩)):=hF1.2.1 0 (by omega)
 have c1:w_.cell? ⟨pb,1,none⟩=some (.bool true):=hF1.2.1 1 (by omega)
 clear hF1
 go_wp2_with fail
 refine(lT (some ⟨sb,0,none⟩) true _).mono ?_
 rintro e w2 ⟨rfl,hb⟩
 have S2:=hid (S1.out.below hb)
 clear hb S0 S1 c0 c1
 go_simp
 go_wp2_with fail
 refine(PS.out _ S2.out.bl).mono ?_
 rintro e w3 ⟨O,D,rfl,hO,hD,hb⟩
 have S3:=hid (S2.out.yr hb hO hD rfl)
 obtain ⟨AO,cO,rfl,gI,_,_⟩:=hO.aF
 obtain ⟨AD,cD,rfl,_,_,_⟩:=hD.aF
 have pL:=hid gI
 clear hb S2 PS hO hD gI
 obtain ⟨x,hx⟩:∃x,x=ax g n:=⟨_,rfl⟩
 obtain ⟨E,hE⟩:∃E,E=az g n:=⟨_,rfl⟩
 have HT:Hid (cY p true nr g n=if E≠0 then bB E nr else if x.piece≠0 then bB 6 nr else if x.life≤1 then bB 7 nr else if x.dst=p.a∧x.kind=3 then fS p nr g n x else if x.dst=p.a∧x.tp=p.p then inT p nr g n x else if x.kind=3 then bB 8 nr else match fu p x.src x.fp with |none=>bB 8 nr |some s=>outT p nr g n x s):=hid (by rw[hx,hE];unfold cY;rw[if_neg (by simp)];rfl)
 rw[←hx]at S3 pL
 rw[←hx,←hE]
 unfold ct de
 have XX:=hid hx
 have EE:=hid hE
 clear hx hE
 go_simp
 go_upto_region 5 with (first | ((with_reducible refine ah ?_);refine ay rfl (bw rfl (oB _) (by simp) S3.out ?_);intro E1 w_ hZ _;have S4:=hid hZ;clear hZ) | ((with_reducible refine ah ?_);refine ay rfl (aB (A:=[]) [x.kind,x.life,x.piece,x.src,x.dst,x.fp,x.tp,x.flags,x.label,x.bare,x.code,.slice AO x.no cO,.slice AD x.nd cD] rfl rfl (rfl) S4.out rfl jt rfl ?_);intro w_ hZ;have S5:=hid hZ;clear hZ))
 clear S3
 cases e0:(E != 0)
 ·have E0:E=0:=by simpa using e0
  obtain ⟨y0,y1,y2,y3,y4,y5,y6,y7,y8,y9,al,ak,aj⟩:=(S5.out.ce 0 rfl).c13
  have KD:=hid (H3.out (by rw[←EE.out,E0]))
  have LN:=hid (ew HG.out (by rw[←EE.out,E0]))
  rw[←XX.out]at LN
  have k3:(x.kind==3)=false:=by
   have h1:=LN.out.2.2.1
   have h2:=KD.out
   rw[←h1]at h2
   simpa using h2
  cases e2:(x.piece != 0)
  ·cases e1:decide (x.life≤1)
   ·have h1:¬x.life≤1:=by simpa using e1
    have H1:Hid (1<g 1):=hid (by have:=LN.out.2.2.2.1;omega)
    have HT2:Hid (cY p true nr g n=if x.dst=p.a∧x.tp=p.p then inT p nr g n x else match fu p x.src x.fp with |none=>bB 8 nr |some s=>outT p nr g n x s):=hid (by
     have gH:¬x.kind=3:=by simpa using k3
     rw[HT.out,if_neg (by simpa using E0),if_neg (by simpa using e2),if_neg h1,if_neg (fun h=>gH h.2),if_neg gH])
    have CM:=hid (fun (w':World) (hb:Below w.heap.size w w')=>(show Calls Tryz.prog 44 #[.pointer (some ⟨sb,0,none⟩),.agg #[x.kind,x.life,x.piece,x.src,x.dst,x.fp,x.tp,x.flags,x.label,x.bare,x.code,.slice AO x.no cO,.slice AD x.nd cD]] w' fun e w2=>e =.returned (.bool (x.dst==p.a&&x.tp==p.p))∧Below w'.heap.size w' w2 from by
     have h:=tY p sb x AO cO AD cD w' (SA.out.below hb).pl.c1 (SA.out.below hb).pl.c2 (SA.out.below hb).pl.1
     rw[k3,Bool.false_or]at h
     exact h))
    have Pm:=hid (fun (w':World) (hb:Below w.heap.size w w') (Bd:Hid (By w' AO x.no x.go))=>Io p pb sb wb nr g n c x X AO cO AD cD w' XX.out HG.out (by rw[←EE.out,E0]) H1.out KD.out HP.out pK.out (HF.out.below hb) (SA.out.below hb) (HX.out w' hb) HC.out Bd.out pL.out)
    have Pf:=hid (fun (s:Nat) (hs:s<64) (w':World) (hb:Below w.heap.size w w') (Bd:Hid (By w' AO x.no x.go))=>FY p pb sb wb nr g n c x X AO cO AD cD s hs w' XX.out HG.out (by rw[←EE.out,E0]) H1.out KD.out HP.out (HF.out.below hb) Mj.out (SA.out.below hb) (HX.out w' hb) HC.out Bd.out pL.out)
    have FD:=hid (fun (w':World)=>(show Calls Tryz.prog 47 #[.agg (PA p),x.src,x.fp] w' fun e w2=>e =.returned (.tuple #[((fu p x.src x.fp).getD 0:Nat),(fu p x.src x.fp).isSome])∧Below w'.heap.size w' w2 from DZ p HP.out.2.2.1 x.src x.fp w'))
    obtain ⟨kc,hkc⟩:∃kc,kc=(x.dst==p.a&&x.tp==p.p):=⟨_,rfl⟩
    have vW:=hid hkc
    rw[←hkc]at CM
    clear h1 hkc
    subst E0
    cases kc
    ·have k6:Hid (cY p true nr g n=match fu p x.src x.fp with |none=>bB 8 nr |some s=>outT p nr g n x s):=hid (by
      have h:=vW.out
      rw[HT2.out,if_neg (fun hh=>by rw[beq_iff_eq.2 hh.1,beq_iff_eq.2 hh.2]at h;cases h)])
     go_wp2_with fail
     refine(CM.out _ S5.out.bl).mono ?_
     rintro e w6 ⟨rfl,hb⟩
     have S6:=hid (S5.out.below hb)
     clear hb S5 y0 y1 y2 y3 y4 y5 y6 y7 y8 y9 al ak aj
     obtain ⟨y0,y1,y2,y3,y4,y5,y6,y7,y8,y9,al,ak,aj⟩:=(S6.out.ce 0 rfl).c13
     go_simp
     go_wp2_with fail
     refine(CM.out _ S6.out.bl).mono ?_
     rintro e w7 ⟨rfl,hb⟩
     have S7:=hid (S6.out.below hb)
     clear hb S6 y0 y1 y2 y3 y4 y5 y6 y7 y8 y9 al ak aj
     obtain ⟨y0,y1,y2,y3,y4,y5,y6,y7,y8,y9,al,ak,aj⟩:=(S7.out.ce 0 rfl).c13
     go_simp
     go_upto_region 17 with (fail)
     clear y0 y1 y2 y3 y4 y5 y6 y7 y8 y9 al ak aj
     refine wp_region_held_drew (S:=fun (w':World)=>HS [] w w' [aw E1 [x.kind,x.life,x.piece,x.src,x.dst,x.fp,x.tp,x.flags,x.label,x.bare,x.code,.slice AO x.no cO,.slice AD x.nd cD],dN w2.heap.size (.slice AO x.no cO) (.slice AD x.nd cD) x.no x.nd x.go x.gd,aw U [(),(),false,.slice none 0 0]]) (by kernel_rfl) ?_ (fun hHeld=>?_)
     ·exact S7.out.drew
     refine ae 0 hHeld ?_
     refine ae 1 hHeld ?_
     refine ae 2 hHeld ?_
     refine tk 3 (v:=.agg (PA p)) rfl (by kernel_rfl) (by kernel_rfl) (by kernel_rfl) (fun _ _ _ h=>h) rfl (fun w hSw=>iV rfl rfl (SA.out.below hSw.bl).pl.iU) hHeld ?_;(try simp only[Act.put,zA,zB,zC])
     refine ae 4 hHeld ?_
     refine ae 5 hHeld ?_ (hy:=by intro w hSw;(try dsimp only at hSw);obtain ⟨y0,y1,y2,y3,y4,y5,y6,y7,y8,y9,al,ak,aj⟩:=(hSw.ce 0 rfl).c13;go_simp;(try with_reducible rfl))
     refine ae 6 hHeld ?_
     refine ae 7 hHeld ?_ (hy:=by intro w hSw;(try dsimp only at hSw);obtain ⟨y0,y1,y2,y3,y4,y5,y6,y7,y8,y9,al,ak,aj⟩:=(hSw.ce 0 rfl).c13;go_simp;(try with_reducible rfl))
     refine only 8 rfl (by kernel_rfl) rfl (fun K hK=>?_)
     go_simp
     refine(FD.out _).mono ?_
     rintro e w8 ⟨rfl,hb⟩
     try go_wp2_with fail
     refine hK.out _ _ (hHeld.below hb) (fun h8=>?_)
     clear hK hb hHeld
     try simp only[Act.put,zA,zB,zC]
     refine ae 9 h8 ?_
     refine ae 10 h8 ?_
     refine ae 11 h8 ?_
     refine ae 12 h8 ?_
     refine ae 13 h8 ?_
     have S8:=hid h8
     clear h8 S7 FD
     refine wpAnyH_done (by kernel_rfl) ?_ _
     obtain ⟨o,ho⟩:∃o,o=fu p x.src x.fp:=⟨_,rfl⟩
     rw[←ho]
     have HO:=hid ho
     clear ho
     cases o with
     |none=>
      have HR:Hid (cY p true nr g n=bB 8 nr):=hid (by rw[k6.out,←HO.out])
      dsimp only[Option.getD,Option.isSome]
      go_wp2_with fail
      refine(fT 8 _).mono ?_
      rintro e gL ⟨rfl,hb⟩
      have dA:=hid (S8.out.below hb)
      clear hb S8
      exact qXU
     |some s=>
      have HR:Hid (cY p true nr g n=outT p nr g n x s):=hid (by rw[k6.out,←HO.out])
      have hs:=xA HO.out.symm
      dsimp only[Option.getD,Option.isSome]
      obtain ⟨y0,y1,y2,y3,y4,y5,y6,y7,y8,y9,al,ak,aj⟩:=(S8.out.ce 0 rfl).c13
      go_wp2_with fail
      refine(Pf.out s hs _ S8.out.bl (hid (Ow.sl1 (S8.out.nth 1 rfl).1))).mono ?_
      intro e ea hT
      generalize outT p nr g n x s=t at HR hT
      obtain ⟨X9,c9,rfl,hz,jZ⟩:=S8.out.took (HF.out.below S8.out.bl) HF.out.1 hT
      exact qQ2
    have HR:Hid (cY p true nr g n=inT p nr g n x):=hid (by
     have h:=vW.out.symm
     simp only[Bool.and_eq_true,beq_iff_eq]at h
     rw[HT2.out,if_pos h])
    go_wp2_with fail
    refine(CM.out _ S5.out.bl).mono ?_
    rintro e w6 ⟨rfl,hb⟩
    have S6:=hid (S5.out.below hb)
    clear hb S5 y0 y1 y2 y3 y4 y5 y6 y7 y8 y9 al ak aj
    obtain ⟨y0,y1,y2,y3,y4,y5,y6,y7,y8,y9,al,ak,aj⟩:=(S6.out.ce 0 rfl).c13
    go_simp
    go_wp2_with fail
    refine(CM.out _ S6.out.bl).mono ?_
    rintro e w7 ⟨rfl,hb⟩
    have S7:=hid (S6.out.below hb)
    clear hb S6 y0 y1 y2 y3 y4 y5 y6 y7 y8 y9 al ak aj
    obtain ⟨y0,y1,y2,y3,y4,y5,y6,y7,y8,y9,al,ak,aj⟩:=(S7.out.ce 0 rfl).c13
    go_simp
    go_wp2_with fail
    refine(Pm.out _ S7.out.bl (hid (Ow.sl1 (S7.out.nth 1 rfl).1))).mono ?_
    intro e ea hT
    generalize inT p nr g n x=t at HR hT
    obtain ⟨X9,c9,rfl,hz,jZ⟩:=S7.out.took (HF.out.below S7.out.bl) HF.out.1 hT
    exact qQ2
   have h1:x.life≤1:=by simpa using e1
   have HR:Hid (cY p true nr g n=bB 7 nr):=hid (by rw[HT.out,if_neg (by simpa using E0),if_neg (by simpa using e2),if_pos h1])
   exact qXZ
  have HR:Hid (cY p true nr g n=bB 6 nr):=hid (by rw[HT.out,if_neg (by simpa using E0),if_pos (by simpa using e2)])
  exact qXY
 have HR:Hid (cY p true nr g n=bB E nr):=hid (by rw[HT.out,if_pos (by simpa using e0)])
 go_wp2_with fail
 refine(fT E _).mono ?_
 rintro e gL ⟨rfl,hb⟩
 have dA:=hid (S5.out.below hb)
 clear hb S5
 unfold eN
 go_simp
 go_wp2_with (((with_reducible refine ah ?_);refine ay rfl (aB (A:=[aw E1 [x.kind,x.life,x.piece,x.src,x.dst,x.fp,x.tp,x.flags,x.label,x.bare,x.code,.slice AO x.no cO,.slice AD x.nd cD],dN w2.heap.size (.slice AO x.no cO) (.slice AD x.nd cD) x.no x.nd x.go x.gd]) [E,.int .i64 (-1),false,.slice none 0 0] rfl rfl (rfl) dA.out rfl d9 rfl ?_);intro w_ hZ;have aK:=hid hZ;clear hZ;(first |refine aJ ?_ |refine aR ?_);apply_assumption;refine wp_ret ?_;(repeat (first |refine aI ?_ |refine dL ?_));(show bodyPost _ _ _ _ _ _);exact bodyPost_ret (v:=.agg ([E,.int .i64 (-1),false,.slice none 0 0]:List Value).toArray) (aS Tryz.results16 _ rfl (aK.out.ce 2 rfl) Tryz.underlying45 rfl d9) rfl (by rw[HR.out];exact⟨none,0,rfl,OB.nil,Nat.le_refl _,HF.out.below aK.out.bl,Ch.of_below aK.out.bl⟩)))
end Go.Proofs.YtalnfkijiehjhaaGreat
namespace Go.Proofs.YtalnfkijiehjhaaGreat
open List renaming setIfInBounds_toArray→zA,set_cons_zero→zB,set_cons_succ→zC
set_option linter.unusedVariables false
set_option linter.unusedSimpArgs false
open Go.RowKit Go.ChangeShapes Go.WideShapes Go.ChangeAt
set_option maxRecDepth 100000
def fY (A:Option Addr)(up:Bool)(nr:Nat→Value)(j:Nat):Value:=if j=0 then .pointer A else if j=1 then .bool up else nr (j-2)
def jK (j:Nat):Value:=if j%2=0 then .int .u32 0 else .bool false
def zt (p:Pl)(r:Value)(j:Nat):Value:=if j<330 then pc p j else r
theorem yB:(Tryz.prog.info? 86).map (·.size)=some 130:=by kernel_rfl
theorem wQ (w:World):(Instr.build 86 #[]).run Tryz.prog w =.ok (.agg (FA 130 (fY none false jK))) w:=run_build w _ _ _ (by kernel_rfl)
theorem wP (p:Pl)(b:Nat)(w:World):(Instr.build 94 #[(0,.agg (FA 330 (pc p))),(1,.slice (some ⟨b,0,none⟩) 127 127)]).run Tryz.prog w =.ok (.agg (FA 331 (zt p (.slice (some ⟨b,0,none⟩) 127 127)))) w:=run_build w _ _ _ (by kernel_rfl)
theorem Bl {P:Program}{w:World}{v:Value}{f:Operand→Value}{o:Oper}{T:TypeId}{i1 i2:Nat}{x1 x2:Operand}{v1 v2:Value}(ho:o.op =.build T #[(i1,x1),(i2,x2)])(h1:f x1=v1)(h2:f x2=v2)(hl:(Instr.build T #[(i1,v1),(i2,v2)]).run P w =.ok v w):(execOp f o).run P w =.ok (.value v) w:=by
 unfold execOp;simp only[ho,List.map_toArray,List.map_cons,List.map_nil,h1,h2,Sem.run_bind,hl,Result.andThen_ok,Sem.run_pure]
theorem HS.boxed {S:List Nat}{W w:World}{L:List Th}(h:HS S W w L){n:Nat}(f:Nat→Value){T:TypeId}:HS S W (w.alloc (.cells (FA n f) T)) (aD w.heap.size n f::L):=
 h.new (aD w.heap.size n f) ((Below.refl _ _).alloc (Nat.le_refl _) _) (Fb.made rfl) (by simp[aD]) (fun b hb=>by simp[aD]at hb;omega)
theorem fa2 (x y:Value):Value.agg #[x,y] =.agg (FA 2 (fun j=>if j=0 then x else y)):=rfl
theorem nT:(Tryz.prog.info? 81).map (·.size)=some 2:=by kernel_rfl
theorem xS (w:World):(zeroValue 81).run Tryz.prog w =.ok (.agg (FA 2 (fun j=>if j=0 then .pointer none else .bool false))) w:=by kernel_rfl
theorem Hp (A A':Option Addr)(up up':Bool)(nr:Nat→Value)(j:Nat)(hj:j<130):patch (fY A up nr) 0 2 (fun j=>if j=0 then .pointer A' else .bool up') j=fY A' up' nr j:=by
 unfold patch fY
 rcases j with _ | _ |j
 ·rfl
 ·rfl
 rw[if_neg (by omega),if_neg (by omega),if_neg (by omega),if_neg (by omega),if_neg (by omega)]
theorem dE:(Tryz.prog.info? 34).map (·.size)=some 330:=by kernel_rfl
theorem Gd (p:Pl)(hp:Pw p)(w:World):Calls Tryz.prog 34 #[.agg (FA 330 (pc p))] w fun x w'=>∃B:Nat,x =.returned (.slice (some ⟨B,0,none⟩) 127 127)∧w.heap.size≤B∧IA w' B 127 (cF p)∧Below w.heap.size w w':=AU p hp w
theorem HS.swap_ {S:List Nat}{W w:World}{a b:Th}{L:List Th}(h:HS S W w (a::b::L)):HS S W w (b::a::L):=by
 obtain ⟨h1,h2,h3,h4⟩:=h
 have hp:((a::b::L).flatMap Th.bs).Perm ((b::a::L).flatMap Th.bs):=(List.Perm.swap b a L).flatMap_right Th.bs
 exact⟨fun t ht=>h1 t (by simp at ht ⊢;rcases ht with h |h |h;exact .inr (.inl h);exact .inl h;exact .inr (.inr h)),h2,hp.nodup_iff.1 h3,fun x hx=>h4 x (hp.mem_iff.2 hx)⟩
def fM (b:Nat)(f:Nat→Int):Th:=⟨fun w=>IA w b 127 f,[b],fun w w' h e=>⟨gp h.1 (e b (by simp)),fun j hj=>(World.cell?_of_block (a:=⟨b,j,none⟩) (e b (by simp))).trans (h.2.1 j hj),fun j=>(World.frozen?_of_block (a:=⟨b,j,none⟩) (e b (by simp))).trans (h.2.2 j)⟩,fun _ h x hx=>by simp at hx;subst hx;exact h.1⟩
def xW (pb:Nat)(A:Option Addr)(up:Bool)(nr:Nat→Option Int):Th:=aD pb 130 (fY A up (rO nr))
theorem au.Ku {w:World}{sb:Nat}{p:Pl}{r:Value}(h:Fb w sb 331 (zt p r)):au w sb p∧w.cell? ⟨sb,330,none⟩=some r:=
 ⟨⟨h.1,fun j hj=>by rw[h.2.1 j (by omega)];unfold zt;rw[if_pos hj],h.2.2⟩,by rw[h.2.1 330 (by omega)];rfl⟩
theorem Ac {w:World}{fn:Func}{r:Tmp}{T:TypeId}{d:TypeDesc}{b n:Nat}{f:Nat→Value}(h:fn.results =#[.cell r T])(tmps:Array Value)(hp:tmps.getD r undef =.pointer (some ⟨b,0,none⟩))(hF:Fb w b n f)(hu:Tryz.prog.underlying T=some d)(hd:d.isRow=true)(hi:(Tryz.prog.info? T).map (·.size)=some n) :
 (results fn tmps).run Tryz.prog w =.ok (.agg (FA n f)) w:=by
 have hp':tmps[r]?.getD undef =.pointer (some ⟨b,0,none⟩):=by simpa using hp
 simp[results,h,hp',asAddr,hF.pY (T:=T) 0 n f (by omega) (fun j hj=>by rw[Nat.zero_add]) hu hd hi]
attribute [local irreducible] FA FL
theorem qZ2{P:Prop}(h:P:=by
 try simp only[Act.put,zA,zB,zC]
 refine ay rfl (kN rfl rfl (by omega) S0.out (fun pb w2 hZ hb=>?_))
 have S1:=hid hZ
 clear hZ hb S0
 try simp only[Act.put,zA,zB,zC]
 go_wp2_with fail
 go_ret
 exact⟨pb,rfl,S1.out⟩
 ):P:=h
theorem plane_new {S:List Nat}{W w:World}{L:List Th}(hS:HS S W w L):Calls Tryz.prog 10 #[] w fun x w'=>∃pb:Nat,x =.returned (.pointer (some ⟨pb,0,none⟩))∧HS S W w' (aD pb 130 (fY none false jK)::L):=by
 have S0:=hid hS
 clear hS
 go_enter Tryz.func10,Tryz.ntmps10
 go_upto_region 1 with (fail)
 apply wp_region_lit
 refine dZ (v:=.agg (FA 130 (fY none false jK))) rfl (by unfold execOp;simp only[List.map_toArray,List.map_nil,Sem.run_bind,wQ,Result.andThen_ok,Sem.run_pure]) ?_
 exact qZ2
set_option maxRecDepth 100000 in
theorem zx (A:Option Addr)(w:World):Calls Tryz.prog 33 #[.pointer A] w fun x w'=>x =.returned (.agg #[.pointer A,true])∧Below w.heap.size w w':=by
 rw[fa2]
 have S0:Hid (HS [] w w []):=hid HS.start
 go_enter Tryz.func33,Tryz.ntmps33
 go_upto_region 0 with (fail)
 apply wp_region_lit
 refine ay rfl (nO rfl (xS _) (by omega) S0.out ?_)
 intro U w1 hZ _
 have S1:=hid hZ
 clear hZ S0
 try simp only[Act.put,zA,zB,zC]
 go_upto_region 1 with (fail)
 apply wp_region_lit
 refine dZ (v:=?_) rfl ?_ ?_;rotate_left;(focus (go_simp;(try with_reducible rfl)));(try simp only[Act.put,zA,zB,zC])
 refine dZ (v:=?_) rfl ?_ ?_;rotate_left;(focus (go_simp;(try with_reducible rfl)));(try simp only[Act.put,zA,zB,zC])
 refine ay rfl (ji (A:=[]) 0 2 (fun j=>if j=0 then .pointer A else .bool true) (fun j=>if j=0 then .pointer A else .bool true) rfl rfl (fa2 _ _) S1.out (by omega) (fun j hj=>kM _ _ _ j hj) nT (fun j=>by split <;> rfl) ?_)
 intro w2 hZ
 have S2:=hid hZ
 clear hZ S1
 try simp only[Act.put,zA,zB,zC]
 refine aJ ?_
 apply_assumption
 refine wp_ret ?_
 (repeat refine aI ?_)
 (show bodyPost _ _ _ _ _ _)
 exact bodyPost_ret (v:=.agg (FA 2 (fun j=>if j=0 then .pointer A else .bool true))) (Ac Tryz.results33 _ rfl (S2.out.fb 0 rfl) Tryz.underlying81 rfl nT) rfl ⟨rfl,S2.out.bl⟩
set_option maxHeartbeats 8000000 in
theorem Dy {w:World}{pb:Nat}{A:Option Addr}{up:Bool}{nr:Nat→Option Int}(hF:Fb w pb 130 (fY A up (rO nr)))(q:Pl)(hq:Pw q):Calls Tryz.prog 12 #[.pointer (some ⟨pb,0,none⟩),.agg (FA 330 (pc q))] w fun x w'=>x =.returned (.tuple #[])∧∃sb wb,Fb w' pb 130 (dw sb nr)∧iM w' sb wb q∧(pb≠sb∧pb≠wb)∧Ch [pb] w w'∧w.heap.size≤sb∧w.heap.size≤wb:=by
 have S0:Hid (HS [pb] w w [xW pb A up nr]):=hid (HS.zv _ hF (by simp[xW,aD]) (by simp[xW,aD]))
 clear hF
 go_enter Tryz.func12,Tryz.ntmps12
 go_upto_region 1 with (fail)
 have S1:=hid (S0.out.boxed (n:=330) (T:=34) (pc q))
 generalize w.alloc (.cells (FA 330 (pc q)) 34)=w1 at *
 obtain ⟨X,hX⟩:∃X,X=w.heap.size:=⟨_,rfl⟩
 rw[←hX]at S1 ⊢
 replace hX:=hid hX
 clear S0
 refine wp_region_held_drew (S:=fun (w':World)=>∃L,HS [pb] w w' (aD X 330 (pc q)::L)) (by kernel_rfl) ?_ (fun hHeld=>?_)
 ·exact⟨_,S1.out.drew⟩
 have F0:=S1.out.drew
 refine ae 0 hHeld ?_
 refine tk 1 (v:=.agg (FA 330 (pc q))) rfl (by kernel_rfl) (by kernel_rfl) (by kernel_rfl) (fun _ _ _ h=>h) rfl (fun w hSw=>by obtain ⟨_,hS⟩:=hSw;exact iV rfl rfl ((hS.fb 0 rfl).load 0 330 (pc q) (by omega) (fun j hj=>by rw[Nat.zero_add]) Tryz.underlying34 rfl dE)) hHeld ?_;(try simp only[Act.put,zA,zB,zC])
 refine tk 2 (v:=.agg (FA 330 (pc q))) rfl (by kernel_rfl) (by kernel_rfl) (by kernel_rfl) (fun _ _ _ h=>h) rfl (fun w hSw=>by obtain ⟨_,hS⟩:=hSw;exact iV rfl rfl ((hS.fb 0 rfl).load 0 330 (pc q) (by omega) (fun j hj=>by rw[Nat.zero_add]) Tryz.underlying34 rfl dE)) hHeld ?_;(try simp only[Act.put,zA,zB,zC])
 refine only 3 rfl (by kernel_rfl) rfl (fun K hK=>?_)
 go_simp
 refine(Gd q hq _).mono ?_
 rintro e' w2 ⟨BW,rfl,hge,Ly,hb⟩
 try go_wp2_with fail
 have h2:=F0.new (fM BW (cF q)) hb Ly (by simp[fM]) (fun b hb=>by simp[fM]at hb;subst hb;exact hge)
 refine hK.out _ _ ⟨_,h2.swap_⟩ (fun h3=>?_)
 clear hK
 try simp only[Act.put,zA,zB,zC]
 clear hb hHeld F0 hge Ly
 refine tk 4 (v:=.agg (FA 331 (zt q (.slice (some ⟨BW,0,none⟩) 127 127)))) rfl (by kernel_rfl) (by kernel_rfl) (by kernel_rfl) (fun _ _ _ h=>h) rfl (fun w hSw=>Bl rfl rfl rfl (wP q BW w)) h3 ?_;(try simp only[Act.put,zA,zB,zC])
 refine only 5 rfl (by kernel_rfl) rfl (fun K hK=>?_)
 refine kN rfl rfl (by omega) h2 (fun SB w3 hN _=>?_)
 refine hK.out _ _ ⟨_,hN.tail.swap_⟩ (fun h4=>?_)
 clear hK
 try simp only[Act.put,zA,zB,zC]
 clear h3 h2
 refine only 6 rfl (by kernel_rfl) rfl (fun K hK=>?_)
 go_simp
 refine(zx (some ⟨SB,0,none⟩) _).mono ?_
 rintro e' w4 ⟨rfl,hb⟩
 try go_wp2_with fail
 have hM:=hN.below hb
 refine hK.out _ _ ⟨_,hM.tail.swap_⟩ (fun h5=>?_)
 clear hK
 try simp only[Act.put,zA,zB,zC]
 clear hb hN h4
 refine ae 7 h5 ?_
 refine ae 8 h5 ?_
 refine only 9 rfl (by kernel_rfl) rfl (fun K hK=>?_)
 refine ji (A:=[aD SB 331 (zt q (.slice (some ⟨BW,0,none⟩) 127 127)),fM BW (cF q),aD X 330 (pc q)]) 0 2 (fun j=>if j=0 then .pointer (some ⟨SB,0,none⟩) else .bool true) (fY (some ⟨SB,0,none⟩) true (rO nr)) rfl rfl (fa2 _ _) hM (by omega) (fun j hj=>Hp _ _ _ _ _ j hj) nT (fun j=>by split <;> rfl) (fun w9 hZ=>?_)
 refine hK.out _ _ ⟨_,(HS.tail hZ).swap_⟩ (fun h6=>?_)
 clear hK
 try simp only[Act.put,zA,zB,zC]
 have S9:=hid hZ
 clear h6 h5 hZ hM S1
 refine wpAnyH_done (by kernel_rfl) ?_ _
 go_wp2_with fail
 go_end0
 have hn:=S9.out.2.2.1
 simp only[List.cons_append,List.nil_append,List.flatMap_cons,List.flatMap_nil,aD,fM,xW,List.nodup_cons,List.mem_cons,not_or,List.append_nil]at hn
 have IV:=au.Ku (S9.out.fb 0 rfl)
 refine⟨rfl,SB,BW,S9.out.fb 3 rfl,⟨IV.1,IV.2,S9.out.nth 1 rfl⟩,⟨fun e=>?_,fun e=>?_⟩,S9.out.ch,?_,?_⟩
 ·subst e;simp at hn
 ·subst e;simp at hn
 ·rcases S9.out.2.2.2 SB (by simp[aD]) with h |h
  ·simp at h;subst h;simp at hn
  exact h
 rcases S9.out.2.2.2 BW (by simp[fM]) with h |h
 ·simp at h;subst h;simp at hn
 exact h
end Go.Proofs.YtalnfkijiehjhaaGreat
