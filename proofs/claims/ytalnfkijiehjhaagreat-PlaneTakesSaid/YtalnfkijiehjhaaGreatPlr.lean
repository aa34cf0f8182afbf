/- A fault's head anew, pure. A fault's steps. A fault's other To. -/
import Derived.Test.YtalnfkijiehjhaaGreatGa
import Derived.Test.YtalnfkijiehjhaaGreatGz
import Derived.BigQuiet
import Derived.Deep.RegionHeld3
import Derived.Deep.Cut
import Derived.IntWalk
import Derived.Test.YtalnfkijiehjhaaGreatGwd
namespace Go.Proofs.YtalnfkijiehjhaaGreat
set_option linter.unusedVariables false
set_option linter.unusedSimpArgs false
open Go.RowKit Go.ChangeShapes Go.WideShapes Go.ChangeAt
set_option maxRecDepth 100000
theorem um {g:Nat→Int}{n:Nat}(hg:aC g)(hp:az g n=0)(h3:g 0=3){a:Int}(ha:0≤a∧a≤4294967295):aG { ax g n with dst:=a } = 0∧aU { ax g n with dst:=a } = n:=by
 have ln:=ew hg hp
 obtain ⟨l1,l2,l3,l4,_,_,_,_,l9⟩:=ln
 obtain ⟨m1,m2,_⟩:=l9 h3
 have hx:ax g n ={ kind:=g 0,life:=g 1,piece:=g 12,src:=num g 4 4,dst:=num g 8 4,code:=g 16,nd:=n-20,gd:=fun j=>g (20+j) }:=by
  unfold ax eY
  rw[if_pos hp,if_pos h3]
 have hL:aU { ax g n with dst:=a } = n:=by
  unfold aU
  rw[if_pos (show ({ ax g n with dst:=a }:Pk).kind=3 from l3.trans h3)]
  show 20+(ax g n).nd=n
  omega
 refine⟨?_,hL⟩
 have b4:=fF hg 4 4
 rw[show (256:Int)^4=4294967296 by decide]at b4
 have g1:=hg 1
 have g12:=hg 12
 have g16:=hg 16
 unfold aG
 rw[hL]
 rw[hx]
 dsimp only
 rw[if_neg (by unfold isK;rw[h3];decide),if_neg,if_neg (by omega),if_neg (by omega)]
 unfold bC
 dsimp only
 rw[if_pos h3]
 unfold cW
 simp
 omega
end Go.Proofs.YtalnfkijiehjhaaGreat
namespace Go.Proofs.YtalnfkijiehjhaaGreat
open List renaming setIfInBounds_toArray→zA,set_cons_zero→zB,set_cons_succ→zC
set_option linter.unusedVariables false
set_option linter.unusedSimpArgs false
open Go.RowKit Go.ChangeShapes Go.WideShapes Go.ChangeAt
theorem Ae {g:Nat→Int}{n:Nat}(hg:aC g)(hp:az g n=0)(h3:g 0=3){a:Int}(ha:0≤a∧a≤4294967295):az (eS g n a) n=0∧eS g n a 0=3∧aC (eS g n a):=by
 obtain ⟨hE,hL⟩:=um hg hp h3 ha
 have bd:=kr hg hp
 obtain ⟨_,_,l3,_⟩:=ew hg hp
 have hR:∀j,eS g n a j=if j<16 then aP { ax g n with dst:=a } j else g j:=fun j=>rfl
 obtain ⟨x,hx⟩:∃x:Pk,x ={ ax g n with dst:=a }:=⟨_,rfl⟩
 have hgo:aC x.go:=by rw[hx];exact bd.2.2.2.2.2.1
 have hgd:aC x.gd:=by rw[hx];exact bd.2.2.2.2.2.2
 have hk:x.kind=3:=by rw[hx];exact l3.trans h3
 rw[←hx]at hE hL hR
 clear hx bd
 have hP:=lY hgd hgo hE
 rw[hL]at hP
 obtain ⟨q1,q2⟩:=iI hP
 obtain ⟨_,r2⟩:=iI hp
 have e0:eS g n a 0=3:=by rw[hR,if_pos (by omega),gF (by omega),jg,hk]
 refine⟨?_,e0,fun j=>?_⟩
 ·unfold az
  rw[tR (g:=aP x) (fun j hj=>by rw[hR,if_pos hj]),if_pos q1,pD (g:=g) (e0.trans h3.symm) (by rw[hR,if_neg (by omega)]) (fun k=>absurd h3 k) (fun k=>absurd h3 k),r2]
 rw[hR]
 split
 ·exact nZ hgd hgo hE j
 exact hg j
theorem I0 {g:Nat→Int}{n:Nat}{a m v:Int}(hp:az g n=0)(h3:g 0=3)(hm:m=2∧v≤65535∨m=4∧v≤4294967295)(hv:0≤v)(ha:24≤a)(hL:a+m≤n):fG g n a m v=0:=by
 have hk:a_ (g 0)=18:=by unfold a_;rw[if_pos h3]
 unfold fG
 rw[if_neg (by rw[hp];simp),if_pos]
 unfold di
 rw[hk]
 simp only[Bool.and_eq_true,Bool.or_eq_true,decide_eq_true_eq,beq_iff_eq]
 omega
theorem tU {g:Nat→Int}{n:Nat}(hg:aC g)(hp:az g n=0)(h1:1<g 1)(h3:g 0=3){a q:Int}(ha:0≤a∧a≤4294967295)(hq:0≤q∧q≤65535) :
 (az (aN g) n=0∧aN g 0=3∧aC (aN g))∧(aC (eS (aN g) n a)∧fG (eS (aN g) n a) n 24 4 a=0)∧(aC (cB (eS (aN g) n a) n 24 4 a)∧fG (cB (eS (aN g) n a) n 24 4 a) n 36 2 q=0):=by
 have n44:=((ew hg hp).2.2.2.2.2.2.2.2 h3).1
 have A0:=gk (n:=n) hp h1
 have A1:=ub hg A0
 have A2:=jz hg A0
 have A3:aN g 0=3:=sG.trans h3
 obtain ⟨B1,B2,B3⟩:=Ae A2 A1 A3 ha
 have C1:az (cB (eS (aN g) n a) n 24 4 a) n=0:=Cq (by omega) B1
 have C2:cB (eS (aN g) n a) n 24 4 a 0=3:=by rw[yW (by omega) (.inl (by have:=sH (eS (aN g) n a 0);omega)) (by omega),B2]
 exact⟨⟨A1,A3,A2⟩,⟨B3,I0 B1 B2 (.inr ⟨rfl,ha.2⟩) ha.1 (by omega) (by omega)⟩,Mz B3 _ _ _ _,I0 C1 C2 (.inl ⟨rfl,hq.2⟩) hq.1 (by omega) (by omega)⟩
set_option maxRecDepth 100000
set_option maxHeartbeats 4000000 in
theorem Fs {w:World}{wb n c:Nat}{X:Option Addr}{g:Nat→Int}(hC:Ce w wb [.slice X n c,()])(hX:By w X n g)(hg:aC g)(hE:az g n=0)(h3:g 0=3)(hc:n≤c)(a:Int)(ha:0≤a∧a≤4294967295) :
 Calls Tryz.prog 92 #[.pointer (some ⟨wb,0,none⟩),a] w fun x w'=>x =.returned (.tuple #[])∧Way w wb n (eS g n a) w.heap.size w':=by
 have ln:=ew hg hE
 have n15:n≤1500:=ln.2.1
 have n44:44≤n:=(ln.2.2.2.2.2.2.2.2 h3).1
 have bd:=kr hg hE
 have RE:=hid (um hg hE h3 ha)
 have PS:=hid (jm X n c g w hX hg hc (by omega))
 unfold Parsed at PS
 rw[hE]at PS
 have Pz:=hid hc
 have HW:=hid hC
 have HX:=hid (fun (w':World) (hb:Below w.heap.size w w')=>(show By w' X n g from Sl.below hX hb (Nat.le_refl _)))
 have Mi:Hid (∀j,eS g n a j=if j<16 then aP { ax g n with dst:=a } j else g j):=hid (fun j=>rfl)
 have Ml:=hid bd.2.2.2.2.2.1
 have Mn:=hid bd.2.2.2.2.2.2
 obtain ⟨x,hx⟩:∃x,x=ax g n:=⟨_,rfl⟩
 rw[←hx]at RE PS Mi Ml Mn
 have XL:Hid (x.no≤1000000∧x.nd≤1000000):=hid (by
  have h1:=ln.2.2.2.2.2.2.2.1
  have h2:=(ln.2.2.2.2.2.2.2.2 h3).2.1
  rw[←hx]at h1 h2
  omega)
 have c0:=hC.2.1 0 _ rfl
 have c1:=hC.2.1 1 _ rfl
 have hlt:=hC.1
 have S0:Hid (HS [] w w []):=hid HS.start
 clear hC hX hE h3 hc ln bd hx ha
 replace hg:=hid hg
 go_enter Tryz.func92,Tryz.ntmps92
 go_wp2_with fail
 refine PS.out.mono ?_
 rintro e w1 ⟨O,D,rfl,hO,hD,hb⟩
 have S1:=hid (S0.out.yr hb hO hD rfl)
 obtain ⟨AO,cO,rfl,gI,_,_⟩:=hO.aF
 obtain ⟨AD,cD,rfl,_,_,_⟩:=hD.aF
 clear hb S0 PS hO hD gI c0 c1
 unfold ct de
 go_simp
 go_upto_region 2 with (first | ((with_reducible refine ah ?_);refine ay rfl (bw rfl (oB _) (by simp) S1.out ?_);intro E w_ hZ _;have S2:=hid hZ;clear hZ) | ((with_reducible refine ah ?_);refine ay rfl (aB (A:=[]) [x.kind,x.life,x.piece,x.src,x.dst,x.fp,x.tp,x.flags,x.label,x.bare,x.code,.slice AO x.no cO,.slice AD x.nd cD] rfl rfl (rfl) S2.out rfl jt rfl ?_);intro w_ hZ;have S3:=hid hZ;clear hZ))
 obtain ⟨y0,y1,y2,y3,y4,y5,y6,y7,y8,y9,al,ak,aj⟩:=(S3.out.ce 0 rfl).c13
 have z4:=(S3.out.ce 0 rfl).2.2 4
 go_upto_region 5 with (fail)
 have S4:=hid (HS.lg (A:=[]) S3.out 4 (.int .i64 a) (by simp))
 simp only[zC,zB,List.nil_append]at S4
 generalize w_.setCell ⟨E,4,none⟩ (.int .i64 a)=w4 at *
 clear S1 S2 S3 y0 y1 y2 y3 y4 y5 y6 y7 y8 y9 al ak aj z4
 obtain ⟨y0,y1,y2,y3,y4,y5,y6,y7,y8,y9,al,ak,aj⟩:=(S4.out.ce 0 rfl).c13
 go_wp2_with fail
 have BD:=BI { x with dst:=a } AO cO AD cD w4 (Ow.sl1 (S4.out.nth 1 rfl).1) (Ow.sl1 (S4.out.nth 1 rfl).2) Ml.out Mn.out XL.out.1 XL.out.2
 rw[RE.out.1,RE.out.2]at BD
 refine BD.mono ?_
 intro e w5 LG
 obtain ⟨A2,c2,rfl,hO2,hc2,hb⟩:=sP LG
 have S5:=hid (S4.out.below hb)
 have HB2:=hid hO2.sl1
 have IT:=HW.out.below S5.out.bl
 clear hb LG hO2 BD S4 y0 y1 y2 y3 y4 y5 y6 y7 y8 y9 al ak aj
 go_simp
 obtain ⟨b2,o2,rfl⟩:=HB2.out.addr (by omega)
 have C5:=hid (Ce.below_ IT ⟨rfl,rfl,rfl,Nat.le_refl _,fun _ _=>rfl⟩ IT.1:Ce w5.drew wb [.slice X n c,()])
 clear IT
 have HA:=hid ((Sl.less HB2.out (show 16≤n by omega)).drew)
 have Mg:=hid (HX.out w5.drew S5.out.drew.bl)
 obtain ⟨A9,r1,r2⟩:=eA X n c 16 (by omega) Pz.out 16 rfl
 replace r2:=hid r2
 have hsl:∀W,(Instr.slice 23 (.slice (some ⟨b2,o2,none⟩) n c2) none (some (.int .i64 16)) (some (.int .i64 16))).run Tryz.prog W =.ok (.slice (some ⟨b2,o2,none⟩) 16 16) W:=fun W=>by
  rw[run_slice_hm W 23 _ n c2 jU .i64 .i64 _ _ (by omega) (by omega) (by omega),jF W]
  simp[Result.andThen,sliced,Addr.add]
 have c0:=C5.out.2.1 0 _ rfl
 have f0:=C5.out.2.2 0
 go_upto_region 8 with (fail)
 refine wp_region_held_drew (S:=fun w'=>True) (by kernel_rfl) ?_ (fun hHeld=>?_)
 ·trivial
 refine ae 0 trivial ?_
 refine ae 1 trivial ?_
 refine ae 2 trivial ?_
 refine ae 3 trivial ?_
 refine ae 4 trivial ?_
 refine ae 5 trivial ?_
 refine only 6 rfl (by kernel_rfl) rfl (fun K hK=>?_)
 refine An (v:=.slice X n c) (by go_simp) ?_
 refine hK.out _ _ trivial (fun _=>?_)
 clear hK
 try simp only[Act.put,zA,zB,zC]
 refine ae 7 trivial ?_
 refine only 8 rfl (by kernel_rfl) rfl (fun K hK=>?_)
 refine qM (.tmp 41) (.tmp 46) rfl _ 16 _ rfl HA.out (by omega) _ (n-16) _ (fun j=>g (16+j)) rfl (r2.out _ g Mg.out) (by omega) (by omega) ?_
 intro A3 c3 w6 O3 g3
 rw[show 16+(n-16)=n from by omega]at O3 ⊢
 refine hK.out _ _ trivial (fun _=>?_)
 have B6:=hid (S5.out.drew.bl.trans ((show Below w5.drew.heap.size w5.drew w6 from fJ g3).mono S5.out.drew.bl.size))
 have O6:=hid (OB.base (OB.mJ O3 (g':=eS g n a) (fun j hj=>by rw[Mi.out j];split;rfl;rw[show 16+(j-16)=j from by omega])) S5.out.drew.bl.size)
 clear hK O3 g3 HA Mg hsl r1 r2 c0 f0
 have c0:=(HW.out.below B6.out).2.1 0 _ rfl
 have f0:=(HW.out.below B6.out).2.2 0
 try simp only[Act.put,zA,zB,zC]
 refine ae 9 trivial ?_
 refine ae 10 trivial ?_
 refine only 11 rfl (by kernel_rfl) rfl (fun K hK=>?_)
 refine eZ rfl rfl rfl (w':=w6.setCell ⟨wb,0,none⟩ (.slice A3 n c3)) (by go_simp) ?_
 refine hK.out _ _ trivial (fun _=>?_)
 clear hK
 try simp only[Act.put,zA,zB,zC]
 refine wpAnyH_done (by kernel_rfl) ?_ _
 go_wp2_with fail
 go_end0
 refine⟨rfl,A3,c3,(HW.out.below B6.out).set 0 _ (by simp),OB.grown O6.out (kW w6 ⟨wb,0,none⟩ _) (O6.out.ne HW.out.1),?_,(Ch.of_below (S:=[wb]) B6.out).set1 (.inl (by simp))⟩
 obtain ⟨_,_,e,h,_⟩:=O6.out.aF
 cases e
 exact h
end Go.Proofs.YtalnfkijiehjhaaGreat
