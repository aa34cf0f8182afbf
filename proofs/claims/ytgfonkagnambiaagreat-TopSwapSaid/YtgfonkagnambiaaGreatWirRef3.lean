/- The reference's Nat. -/
import Derived.Test.YtgfonkagnambiaaGreatGa
import Derived.Test.YtgfonkagnambiaaGreatWirRef1
import Derived.Test.YtgfonkagnambiaaGreatGwc
import Derived.BigQuiet
import Derived.Deep.RegionHeld3
import Derived.Deep.Cut
namespace Go.Proofs.YtgfonkagnambiaaGreat
set_option linter.unusedVariables false
set_option linter.unusedSimpArgs false
open Go.RowKit Go.ChangeShapes Go.WideShapes Go.ChangeAt
theorem xd {x:Nat→Int}{s t m n:Nat}{u v:Int}(h:s+m≤t∨t+n≤s):aC (aC x s m u) t n v=aC (aC x t n v) s m u:=by
 funext j
 unfold aC
 by_cases h1:s≤j∧j<s+m <;> by_cases h2:t≤j∧j<t+n
 ·exfalso;omega
 ·simp only[h1,h2,if_true,if_false,and_self]
 ·simp only[h1,h2,if_true,if_false,and_self]
 simp only[h1,h2,if_true,if_false,and_self]
theorem uR {s t L i k:Nat}{g x:Nat→Int}(hst:s+2≤t∨t+2≤s)(hi:i+1<t∨t+2≤i)(hk:k+1<s∨s+2≤k)(KJ:i<L)(KG:k<L):aR s L g (aR t L g x k) i=aR t L g (aR s L g x i) k:=by
 have e1:∀u,num (aC x t 2 u) s 2=num x s 2:=fun u=>pP (by omega)
 have e2:∀u,num (aC x s 2 u) t 2=num x t 2:=fun u=>pP (by omega)
 have e3:∀u,aU (aC x t 2 u) L i=aU x L i:=fun u=>gm (aI (by omega)) (fun _=>aI (by omega)) KJ
 have e4:∀u,aU (aC x s 2 u) L k=aU x L k:=fun u=>gm (aI (by omega)) (fun _=>aI (by omega)) KG
 unfold aR
 rw[e1,e2,e3,e4]
 exact xd (by omega)
def bB (L:Nat)(g:Nat→Int)(was:Bool)(a:Nat)(x:Nat→Int):Nat→Nat→Int
 |0=>x
 |k+1=>if was=true then aR 14 L g (bB L g was a x k) (a+2*k) else aR 22 L g (aR 14 L g (bB L g was a x k) (a+2*k)) (a+2*k)
theorem nj {L:Nat}{g x:Nat→Int}(hx:az x)(was:Bool)(a:Nat):∀k,az (bB L g was a x k)
 |0=>hx
 |k+1=>by
  unfold bB
  split
  ·exact fx (nj hx was a k) _
  exact fx (fx (nj hx was a k) _) _
theorem Aq {L:Nat}{g x:Nat→Int}{a:Nat}(ha:a+4≤14)(hL:24≤L):bB L g false a x 2=bS 22 L g 2 a (bS 14 L g 2 a x):=by
 show aR 22 L g (aR 14 L g (aR 22 L g (aR 14 L g x (a+2*0)) (a+2*0)) (a+2*1)) (a+2*1)=aR 22 L g (aR 22 L g (aR 14 L g (aR 14 L g x a) (a+2)) a) (a+2)
 rw[show a+2*0=a from rfl,show a+2*1=a+2 from rfl,uR (s:=14) (t:=22) (i:=a+2) (k:=a) (by omega) (by omega) (by omega) (by omega) (by omega)]
theorem qo {g:Nat→Int}{L:Nat}{s:Bool}{ad po:Int}(h:dz g=true):bQ g L s ad po=bS 14 L g 2 (if s=true then 4 else 8) (aE g s ad po):=by unfold bQ;rw[if_pos h]
theorem qn {g:Nat→Int}{L:Nat}{s:Bool}{ad po:Int}(h:dz g=false):bQ g L s ad po=dp (aR 22 L g (bS 22 L g 2 (if s=true then 4 else 8) (bS 14 L g 2 (if s=true then 4 else 8) (aE g s ad po))) (if s=true then 16 else 18)):=by unfold bQ;rw[if_neg (by rw[h];decide)];rfl
theorem o6 {g:Nat→Int}(hg:az g)(s:Bool)(ad po:Int):az (aE g s ad po):=by unfold aE;split <;> exact dx (dx hg _ _ _) _ _ _
theorem dw {x:Nat→Int}{L i:Nat}(h:i+1≠L):aU x L i=num x i 2:=by unfold aU;rw[if_neg h]
set_option maxHeartbeats 8000000 in
theorem y_ (A:Option Addr)(L c:Nat)(g:Nat→Int)(w:World)(h:By w A L g)(hg:az g)(hc:L≤c)(hb:L≤1000000)(s:Bool)(ad po:Int) :
 Calls Tryz.prog 34 #[.slice A L c,s,ad,po] w (iZ w (gE g L ad po) L (bQ g L s ad po)):=by
 have HP:=hid (u4 A L c g w h hg hc hb)
 have d9:=hid (fun (W:World) (hw:Below w.heap.size w W)=>Sl.below h hw (Nat.le_refl _))
 have HG:=hid hg
 have HH:=hid h
 clear h hg
 obtain ⟨z,hz⟩:∃z,z=aB g L:=⟨_,rfl⟩
 unfold Parsed at HP
 rw[←hz]at HP
 cases hz0:(z != 0)
 ·have z0:aB g L=0:=by rw[←hz];simpa using hz0
  have pf:=f7 z0
  have n24:=pf.1
  have n15:=pf.2.1
  have PK:=hid (jN z0).2
  have HE:Hid (gE g L ad po=if g 0=3 then 2 else if (bW ad 4294967295&&bW po 65535)=true then 0 else 14):=hid (by unfold gE;rw[if_neg (fun h=>h z0)])
  clear pf z0 hz
  generalize au g L=p at HP PK
  cases k3:(p.kind==3)
  ·have fw:¬g 0=3:=by rw[←PK.out];simpa using k3
   rw[if_neg fw]at HE
   clear fw
   have RA:=hid (fun w=>cH ad 4294967295 w)
   have RP:=hid (fun w=>cH po 65535 w)
   cases r1:bW ad 4294967295
   ·rw[r1]at RA HE
    rw[Bool.false_and,if_neg (by decide)]at HE
    clear r1
    go_enter Tryz.func34,Tryz.ntmps34
    go_wp2_with fail
    refine HP.out.mono ?_
    rintro x w1 ⟨O,D,rfl,hO,hD,hb1⟩
    obtain ⟨AO,cO,rfl,_,_,_⟩:=hO.bp
    obtain ⟨AD,cD,rfl,_,_,_⟩:=hD.bp
    have B1:=hid (hb1.alloc hb1.size (.cells #[p.kind,p.life,p.piece,p.src,p.dst,p.fp,p.tp,p.flags,p.label,p.bare,p.code,.slice AO p.no cO,.slice AD p.nd cD] 45))
    clear hb1 HP hO hD
    unfold de ea
    go_simp
    have CE:=hid (Ce.made (w:=w1) (l:=[p.kind,p.life,p.piece,p.src,p.dst,p.fp,p.tp,p.flags,p.label,p.bare,p.code,.slice AO p.no cO,.slice AD p.nd cD]) (T:=45) rfl)
    simp only[List.toArray]at CE
    have k0:=CE.out.2.1 0 _ rfl
    go_wp2_with fail
    refine(RA.out _).mono ?_
    rintro e w' ⟨rfl,rfl⟩
    go_wp2_with fail
    refine bodyPost_ret (v:=.tuple #[.slice none 0 0,.int .i64 14]) (by simp[results,Tryz.results34,go_sem]) rfl ?_
    rw[HE.out]
    exact bC (by decide) B1.out
   cases r2:bW po 65535
   ·rw[r1]at RA HE
    rw[r2]at RP HE
    rw[Bool.and_false,if_neg (by decide)]at HE
    clear r1 r2
    go_enter Tryz.func34,Tryz.ntmps34
    go_wp2_with fail
    refine HP.out.mono ?_
    rintro x w1 ⟨O,D,rfl,hO,hD,hb1⟩
    obtain ⟨AO,cO,rfl,_,_,_⟩:=hO.bp
    obtain ⟨AD,cD,rfl,_,_,_⟩:=hD.bp
    have B1:=hid (hb1.alloc hb1.size (.cells #[p.kind,p.life,p.piece,p.src,p.dst,p.fp,p.tp,p.flags,p.label,p.bare,p.code,.slice AO p.no cO,.slice AD p.nd cD] 45))
    clear hb1 HP hO hD
    unfold de ea
    go_simp
    have CE:=hid (Ce.made (w:=w1) (l:=[p.kind,p.life,p.piece,p.src,p.dst,p.fp,p.tp,p.flags,p.label,p.bare,p.code,.slice AO p.no cO,.slice AD p.nd cD]) (T:=45) rfl)
    simp only[List.toArray]at CE
    have k0:=CE.out.2.1 0 _ rfl
    go_wp2_with fail
    refine(RA.out _).mono ?_
    rintro e w' ⟨rfl,rfl⟩
    go_wp2_with fail
    refine(RP.out _).mono ?_
    rintro e w' ⟨rfl,rfl⟩
    go_wp2_with fail
    refine bodyPost_ret (v:=.tuple #[.slice none 0 0,.int .i64 14]) (by simp[results,Tryz.results34,go_sem]) rfl ?_
    rw[HE.out]
    exact bC (by decide) B1.out
   rw[r1]at RA HE
   rw[r2]at RP HE
   rw[Bool.and_true,if_pos rfl]at HE
   clear r1 r2
   obtain ⟨b,off,rfl,hblt,_⟩:=HH.out (by omega)
   cases hbf:dz g
   ·have BF:=hid hbf
    clear hbf
    cases s
    ·skip
     have NP:aE g false ad po=aC (aC g 8 4 ad) 18 2 po:=rfl
     go_enter Tryz.func34,Tryz.ntmps34
     go_wp2_with fail
     refine HP.out.mono ?_
     rintro x w1 ⟨O,D,rfl,hO,hD,hb1⟩
     obtain ⟨AO,cO,rfl,_,_,_⟩:=hO.bp
     obtain ⟨AD,cD,rfl,_,_,_⟩:=hD.bp
     have B1:=hid (hb1.alloc hb1.size (.cells #[p.kind,p.life,p.piece,p.src,p.dst,p.fp,p.tp,p.flags,p.label,p.bare,p.code,.slice AO p.no cO,.slice AD p.nd cD] 45))
     clear hb1 HP hO hD
     unfold de ea
     go_simp
     have CE:=hid (Ce.made (w:=w1) (l:=[p.kind,p.life,p.piece,p.src,p.dst,p.fp,p.tp,p.flags,p.label,p.bare,p.code,.slice AO p.no cO,.slice AD p.nd cD]) (T:=45) rfl)
     simp only[List.toArray]at CE
     have k0:=CE.out.2.1 0 _ rfl
     go_wp2_with fail
     refine(RA.out _).mono ?_
     rintro e w' ⟨rfl,rfl⟩
     go_wp2_with fail
     refine(RP.out _).mono ?_
     rintro e w' ⟨rfl,rfl⟩
     clear k0
     go_upto_region 8 with (fail)
     generalize (w1.alloc (.cells #[p.kind,p.life,p.piece,p.src,p.dst,p.fp,p.tp,p.flags,p.label,p.bare,p.code,.slice AO p.no cO,.slice AD p.nd cD] 45))=wA at *
     have lA:w.heap.size≤wA.heap.size:=B1.out.size
     have lP:w1.heap.size<wA.heap.size:=CE.out.1
     go_upto_region 9 with (at_builtin;refine jf rfl (.tmp 37) (.tmp 38) rfl wA.heap.size _ rfl (fun f=>Ow.new' (w:=wA) rfl) _ L _ g rfl (Sl.alloc (d9.out _ B1.out) _) (by omega) (by simp) ?_;intro A2 c2 w2 h1 h2 h3 h4 h5 h6;have kg:=hid h1;have hc2:=h2;have BA:=hid (Below.trans ((Below.refl wA.heap.size wA).alloc (Nat.le_refl _) (.cells #[] 5)) h4);clear h1 h2 h3 h4 h5 h6)
     have ay:=hid (CE.out.below BA.out)
     have B2:=hid (B1.out.trans (BA.out.mono lA))
     obtain ⟨G,e,hB,hgs,hce,hfr⟩:=Ow.block_ kg.out (by omega)
     subst e
     have O2:=hid (OB.base kg.out lA)
     have ei:w.heap.size≤G:=by omega
     have hne:b≠G:=by omega
     have uu:w1.heap.size≠G:=by omega
     clear hce hfr hgs kg CE ay BA RA RP
     go_wp2_with fail
     refine(aO O2.out 8 4 ad (by omega) (by omega) hb).mono ?_
     rintro e w3 ⟨rfl,hO,hg3⟩
     have O3:=hid hO
     have G3:=hid hg3
     clear hO hg3 O2
     go_wp2_with fail
     refine(aO O3.out 18 2 po (by omega) (by omega) hb).mono ?_
     rintro e w4 ⟨rfl,hO,hg3⟩
     rw[←NP]at hO
     have O4:=hid hO
     have G4:=hid (G3.out.trans hg3)
     have B4:=hid (B2.out.trans (af G4.out ei B2.out.size))
     clear hO hg3 O3 G3 NP
     have XB:=hid (o6 HG.out false ad po)
     have BR:=hid (fY (kt (some ⟨b,off,none⟩) L c g w4 (d9.out _ B4.out) HG.out (by omega) (.inr n24) hb) BF.out)
     go_wp2_with fail
     refine BR.out.mono ?_
     rintro e w' ⟨rfl,rfl⟩
     clear BR B4
     go_wp2_with fail
     go_loopw [16] (fun i wr=>∃k:Nat,k≤2∧i =.int .i64 ((8+2*k:Nat):Int)∧OB wr w.heap.size (.slice (some ⟨G,0,none⟩) L c2) L (bB L g false 8 (aE g false ad po) k)∧w2.grownBy wr (some G)) (fun i _=>20-(intOf i).toNat)
     case atStart=>exact⟨0,by omega,rfl,O4.out,G4.out⟩
     obtain ⟨k,hk,rfl,ho,hgr⟩:=hrel
     obtain ⟨i,hi⟩:∃i,i=8+2*k:=⟨_,rfl⟩
     rw[←hi]
     have HI:=hid hi
     have HO:=hid ho
     have HR:=hid hgr
     have fB:k<2↔i<12:=by omega
     clear hi ho hgr O4 G4
     have B5:=hid (B2.out.trans (af HR.out ei B2.out.size))
     have HB:=hid (nj (L:=L) (g:=g) XB.out false 8 k)
     by_cases hlt:i<12
     ·have i1:(i:Int)<12:=by omega
      have i2:i+1<L:=by omega
      have i3:IntKind.i64.wrap ((i:Int)+2)=(i:Int)+2:=IntWalk.i64_in _ (by omega)
      have kl:=fB.2 hlt
      clear fB hlt
      have sY:=hid (bv (some ⟨G,0,none⟩) L c2 _ wr HO.out.sl1 HB.out 14 2 (by omega) (by omega) hb)
      have sZ:=hid (bv (some ⟨b,off,none⟩) L c g wr (d9.out _ B5.out) HG.out i 2 (by omega) (by omega) hb)
      have sX:=hid (bv (some ⟨G,0,none⟩) L c2 _ wr HO.out.sl1 HB.out i 2 (by omega) (by omega) hb)
      have b1:=bP HB.out 14
      have b2:=bP HG.out i
      have b3:=bP HB.out i
      have sR:=hid (fun w=>fG (num (bB L g false 8 (aE g false ad po) k) 14 2) (num g i 2) (num (bB L g false 8 (aE g false ad po) k) i 2) w b1.1 b1.2 b2.1 b2.2 b3.1 b3.2)
      have sV:=hid (aO HO.out 14 2 (turn (num (bB L g false 8 (aE g false ad po) k) 14 2) (num g i 2) (num (bB L g false 8 (aE g false ad po) k) i 2)) (by omega) (by omega) hb)
      clear b1 b2 b3
      go_wp2_with fail
      refine sY.out.mono ?_
      rintro e w' ⟨rfl,rfl⟩
      go_wp2_with fail
      refine sZ.out.mono ?_
      rintro e w' ⟨rfl,rfl⟩
      go_wp2_with fail
      refine sX.out.mono ?_
      rintro e w' ⟨rfl,rfl⟩
      go_wp2_with fail
      refine(sR.out _).mono ?_
      rintro e w' ⟨rfl,rfl⟩
      go_wp2_with fail
      refine sV.out.mono ?_
      rintro e w5 ⟨rfl,gW,jZ⟩
      have T1:aC (bB L g false 8 (aE g false ad po) k) 14 2 (turn (num (bB L g false 8 (aE g false ad po) k) 14 2) (num g i 2) (num (bB L g false 8 (aE g false ad po) k) i 2))=(aR 14 L g (bB L g false 8 (aE g false ad po) k) i):=by unfold aR;rw[dw (by omega),dw (by omega)]
      rw[T1]at gW
      have O5:=hid gW
      have R5:=hid (HR.out.trans jZ)
      have m8:=hid (fx (s:=14) (L:=L) (g:=g) HB.out i)
      clear gW jZ T1
      have B6:=hid (B2.out.trans (af R5.out ei B2.out.size))
      have FR:=hid (bv (some ⟨G,0,none⟩) L c2 _ w5 O5.out.sl1 m8.out 22 2 (by omega) (by omega) hb)
      have FV:=hid (bv (some ⟨b,off,none⟩) L c g w5 (d9.out _ B6.out) HG.out i 2 (by omega) (by omega) hb)
      have FP:=hid (bv (some ⟨G,0,none⟩) L c2 _ w5 O5.out.sl1 m8.out i 2 (by omega) (by omega) hb)
      have b1:=bP m8.out 22
      have b2:=bP HG.out i
      have b3:=bP m8.out i
      have FC:=hid (fun w=>fG (num (aR 14 L g (bB L g false 8 (aE g false ad po) k) i) 22 2) (num g i 2) (num (aR 14 L g (bB L g false 8 (aE g false ad po) k) i) i 2) w b1.1 b1.2 b2.1 b2.2 b3.1 b3.2)
      have FM:=hid (aO O5.out 22 2 (turn (num (aR 14 L g (bB L g false 8 (aE g false ad po) k) i) 22 2) (num g i 2) (num (aR 14 L g (bB L g false 8 (aE g false ad po) k) i) i 2)) (by omega) (by omega) hb)
      clear b1 b2 b3
      go_wp2_with fail
      refine FR.out.mono ?_
      rintro e w' ⟨rfl,rfl⟩
      go_wp2_with fail
      refine FV.out.mono ?_
      rintro e w' ⟨rfl,rfl⟩
      go_wp2_with fail
      refine FP.out.mono ?_
      rintro e w' ⟨rfl,rfl⟩
      go_wp2_with fail
      refine(FC.out _).mono ?_
      rintro e w' ⟨rfl,rfl⟩
      go_wp2_with fail
      refine FM.out.mono ?_
      rintro e w6 ⟨rfl,oA,se⟩
      have T2:aC (aR 14 L g (bB L g false 8 (aE g false ad po) k) i) 22 2 (turn (num (aR 14 L g (bB L g false 8 (aE g false ad po) k) i) 22 2) (num g i 2) (num (aR 14 L g (bB L g false 8 (aE g false ad po) k) i) i 2))=(aR 22 L g (aR 14 L g (bB L g false 8 (aE g false ad po) k) i) i):=by rw[show (aR 22 L g (aR 14 L g (bB L g false 8 (aE g false ad po) k) i) i)=aC (aR 14 L g (bB L g false 8 (aE g false ad po) k) i) 22 2 (turn (num (aR 14 L g (bB L g false 8 (aE g false ad po) k) i) 22 2) (aU g L i) (aU (aR 14 L g (bB L g false 8 (aE g false ad po) k) i) L i)) from rfl,dw (by omega),dw (by omega)]
      rw[T2]at oA
      have O6:=hid oA
      have R6:=hid (R5.out.trans se)
      clear oA se T2
      go_wp2_with fail
      go_roundw
      case rel=>
       refine⟨k+1,kl,by rw[HI.out];go_num,?_,R6.out⟩
       have:=O6.out
       rw[HI.out]at this
       exact this
      simp[intOf];omega
     have i1:¬(i:Int)<12:=by omega
     have kk:k=2:=by omega
     subst kk
     clear fB hlt HI
     have FQ:=hid (bv (some ⟨G,0,none⟩) L c2 _ wr HO.out.sl1 HB.out 22 2 (by omega) (by omega) hb)
     have FU:=hid (bv (some ⟨b,off,none⟩) L c g wr (d9.out _ B5.out) HG.out 18 2 (by omega) (by omega) hb)
     have FO:=hid (bv (some ⟨G,0,none⟩) L c2 _ wr HO.out.sl1 HB.out 18 2 (by omega) (by omega) hb)
     have b1:=bP HB.out 22
     have b2:=bP HG.out 18
     have b3:=bP HB.out 18
     have Fz:=hid (fun w=>fG (num (bB L g false 8 (aE g false ad po) 2) 22 2) (num g 18 2) (num (bB L g false 8 (aE g false ad po) 2) 18 2) w b1.1 b1.2 b2.1 b2.2 b3.1 b3.2)
     have FK:=hid (aO HO.out 22 2 (turn (num (bB L g false 8 (aE g false ad po) 2) 22 2) (num g 18 2) (num (bB L g false 8 (aE g false ad po) 2) 18 2)) (by omega) (by omega) hb)
     clear b1 b2 b3
     go_wp2_with fail
     refine FQ.out.mono ?_
     rintro e w' ⟨rfl,rfl⟩
     go_wp2_with fail
     refine FU.out.mono ?_
     rintro e w' ⟨rfl,rfl⟩
     go_wp2_with fail
     refine FO.out.mono ?_
     rintro e w' ⟨rfl,rfl⟩
     go_wp2_with fail
     refine(Fz.out _).mono ?_
     rintro e w' ⟨rfl,rfl⟩
     go_wp2_with fail
     refine FK.out.mono ?_
     rintro e w6 ⟨rfl,oz,sa⟩
     have T3:aC (bB L g false 8 (aE g false ad po) 2) 22 2 (turn (num (bB L g false 8 (aE g false ad po) 2) 22 2) (num g 18 2) (num (bB L g false 8 (aE g false ad po) 2) 18 2))=(aR 22 L g (bB L g false 8 (aE g false ad po) 2) 18):=by rw[show (aR 22 L g (bB L g false 8 (aE g false ad po) 2) 18)=aC (bB L g false 8 (aE g false ad po) 2) 22 2 (turn (num (bB L g false 8 (aE g false ad po) 2) 22 2) (aU g L 18) (aU (bB L g false 8 (aE g false ad po) 2) L 18)) from rfl,dw (by omega),dw (by omega)]
     rw[T3]at oz
     have O6:=hid oz
     have B6:=hid (B5.out.trans (af sa ei B5.out.size))
     have Gd:=hid (fx (s:=22) (L:=L) (g:=g) HB.out 18)
     clear oz sa T3
     go_wp2_with fail
     refine(lu O6.out Gd.out (by omega) (.inr n24) hc2 hb false).mono ?_
     rintro e w7 ⟨rfl,ho,jt⟩
     rw[if_neg (by decide)]at ho
     have O8:=hid ho
     have B8:=hid (B6.out.trans (af jt ei B6.out.size))
     clear ho jt
     go_wp2_with fail
     refine bodyPost_ret (v:=.tuple #[.slice (some ⟨G,0,none⟩) L c2,()]) (by simp[results,Tryz.results34,go_sem]) rfl ?_
     rw[HE.out,qn BF.out]
     refine⟨_,rfl,?_,B8.out⟩
     have:=O8.out
     rw[Aq (by omega) n24]at this
     exact this
    skip
    have NP:aE g true ad po=aC (aC g 4 4 ad) 16 2 po:=rfl
    go_enter Tryz.func34,Tryz.ntmps34
    go_wp2_with fail
    refine HP.out.mono ?_
    rintro x w1 ⟨O,D,rfl,hO,hD,hb1⟩
    obtain ⟨AO,cO,rfl,_,_,_⟩:=hO.bp
    obtain ⟨AD,cD,rfl,_,_,_⟩:=hD.bp
    have B1:=hid (hb1.alloc hb1.size (.cells #[p.kind,p.life,p.piece,p.src,p.dst,p.fp,p.tp,p.flags,p.label,p.bare,p.code,.slice AO p.no cO,.slice AD p.nd cD] 45))
    clear hb1 HP hO hD
    unfold de ea
    go_simp
    have CE:=hid (Ce.made (w:=w1) (l:=[p.kind,p.life,p.piece,p.src,p.dst,p.fp,p.tp,p.flags,p.label,p.bare,p.code,.slice AO p.no cO,.slice AD p.nd cD]) (T:=45) rfl)
    simp only[List.toArray]at CE
    have k0:=CE.out.2.1 0 _ rfl
    go_wp2_with fail
    refine(RA.out _).mono ?_
    rintro e w' ⟨rfl,rfl⟩
    go_wp2_with fail
    refine(RP.out _).mono ?_
    rintro e w' ⟨rfl,rfl⟩
    clear k0
    go_upto_region 8 with (fail)
    generalize (w1.alloc (.cells #[p.kind,p.life,p.piece,p.src,p.dst,p.fp,p.tp,p.flags,p.label,p.bare,p.code,.slice AO p.no cO,.slice AD p.nd cD] 45))=wA at *
    have lA:w.heap.size≤wA.heap.size:=B1.out.size
    have lP:w1.heap.size<wA.heap.size:=CE.out.1
    go_upto_region 9 with (at_builtin;refine jf rfl (.tmp 37) (.tmp 38) rfl wA.heap.size _ rfl (fun f=>Ow.new' (w:=wA) rfl) _ L _ g rfl (Sl.alloc (d9.out _ B1.out) _) (by omega) (by simp) ?_;intro A2 c2 w2 h1 h2 h3 h4 h5 h6;have kg:=hid h1;have hc2:=h2;have BA:=hid (Below.trans ((Below.refl wA.heap.size wA).alloc (Nat.le_refl _) (.cells #[] 5)) h4);clear h1 h2 h3 h4 h5 h6)
    have ay:=hid (CE.out.below BA.out)
    have B2:=hid (B1.out.trans (BA.out.mono lA))
    obtain ⟨G,e,hB,hgs,hce,hfr⟩:=Ow.block_ kg.out (by omega)
    subst e
    have O2:=hid (OB.base kg.out lA)
    have ei:w.heap.size≤G:=by omega
    have hne:b≠G:=by omega
    have uu:w1.heap.size≠G:=by omega
    clear hce hfr hgs kg CE ay BA RA RP
    go_wp2_with fail
    refine(aO O2.out 4 4 ad (by omega) (by omega) hb).mono ?_
    rintro e w3 ⟨rfl,hO,hg3⟩
    have O3:=hid hO
    have G3:=hid hg3
    clear hO hg3 O2
    go_wp2_with fail
    refine(aO O3.out 16 2 po (by omega) (by omega) hb).mono ?_
    rintro e w4 ⟨rfl,hO,hg3⟩
    rw[←NP]at hO
    have O4:=hid hO
    have G4:=hid (G3.out.trans hg3)
    have B4:=hid (B2.out.trans (af G4.out ei B2.out.size))
    clear hO hg3 O3 G3 NP
    have XB:=hid (o6 HG.out true ad po)
    have BR:=hid (fY (kt (some ⟨b,off,none⟩) L c g w4 (d9.out _ B4.out) HG.out (by omega) (.inr n24) hb) BF.out)
    go_wp2_with fail
    refine BR.out.mono ?_
    rintro e w' ⟨rfl,rfl⟩
    clear BR B4
    go_wp2_with fail
    go_loopw [16] (fun i wr=>∃k:Nat,k≤2∧i =.int .i64 ((4+2*k:Nat):Int)∧OB wr w.heap.size (.slice (some ⟨G,0,none⟩) L c2) L (bB L g false 4 (aE g true ad po) k)∧w2.grownBy wr (some G)) (fun i _=>20-(intOf i).toNat)
    case atStart=>exact⟨0,by omega,rfl,O4.out,G4.out⟩
    obtain ⟨k,hk,rfl,ho,hgr⟩:=hrel
    obtain ⟨i,hi⟩:∃i,i=4+2*k:=⟨_,rfl⟩
    rw[←hi]
    have HI:=hid hi
    have HO:=hid ho
    have HR:=hid hgr
    have fB:k<2↔i<8:=by omega
    clear hi ho hgr O4 G4
    have B5:=hid (B2.out.trans (af HR.out ei B2.out.size))
    have HB:=hid (nj (L:=L) (g:=g) XB.out false 4 k)
    by_cases hlt:i<8
    ·have i1:(i:Int)<8:=by omega
     have i2:i+1<L:=by omega
     have i3:IntKind.i64.wrap ((i:Int)+2)=(i:Int)+2:=IntWalk.i64_in _ (by omega)
     have kl:=fB.2 hlt
     clear fB hlt
     have sY:=hid (bv (some ⟨G,0,none⟩) L c2 _ wr HO.out.sl1 HB.out 14 2 (by omega) (by omega) hb)
     have sZ:=hid (bv (some ⟨b,off,none⟩) L c g wr (d9.out _ B5.out) HG.out i 2 (by omega) (by omega) hb)
     have sX:=hid (bv (some ⟨G,0,none⟩) L c2 _ wr HO.out.sl1 HB.out i 2 (by omega) (by omega) hb)
     have b1:=bP HB.out 14
     have b2:=bP HG.out i
     have b3:=bP HB.out i
     have sR:=hid (fun w=>fG (num (bB L g false 4 (aE g true ad po) k) 14 2) (num g i 2) (num (bB L g false 4 (aE g true ad po) k) i 2) w b1.1 b1.2 b2.1 b2.2 b3.1 b3.2)
     have sV:=hid (aO HO.out 14 2 (turn (num (bB L g false 4 (aE g true ad po) k) 14 2) (num g i 2) (num (bB L g false 4 (aE g true ad po) k) i 2)) (by omega) (by omega) hb)
     clear b1 b2 b3
     go_wp2_with fail
     refine sY.out.mono ?_
     rintro e w' ⟨rfl,rfl⟩
     go_wp2_with fail
     refine sZ.out.mono ?_
     rintro e w' ⟨rfl,rfl⟩
     go_wp2_with fail
     refine sX.out.mono ?_
     rintro e w' ⟨rfl,rfl⟩
     go_wp2_with fail
     refine(sR.out _).mono ?_
     rintro e w' ⟨rfl,rfl⟩
     go_wp2_with fail
     refine sV.out.mono ?_
     rintro e w5 ⟨rfl,gW,jZ⟩
     have T1:aC (bB L g false 4 (aE g true ad po) k) 14 2 (turn (num (bB L g false 4 (aE g true ad po) k) 14 2) (num g i 2) (num (bB L g false 4 (aE g true ad po) k) i 2))=(aR 14 L g (bB L g false 4 (aE g true ad po) k) i):=by unfold aR;rw[dw (by omega),dw (by omega)]
     rw[T1]at gW
     have O5:=hid gW
     have R5:=hid (HR.out.trans jZ)
     have m8:=hid (fx (s:=14) (L:=L) (g:=g) HB.out i)
     clear gW jZ T1
     have B6:=hid (B2.out.trans (af R5.out ei B2.out.size))
     have FR:=hid (bv (some ⟨G,0,none⟩) L c2 _ w5 O5.out.sl1 m8.out 22 2 (by omega) (by omega) hb)
     have FV:=hid (bv (some ⟨b,off,none⟩) L c g w5 (d9.out _ B6.out) HG.out i 2 (by omega) (by omega) hb)
     have FP:=hid (bv (some ⟨G,0,none⟩) L c2 _ w5 O5.out.sl1 m8.out i 2 (by omega) (by omega) hb)
     have b1:=bP m8.out 22
     have b2:=bP HG.out i
     have b3:=bP m8.out i
     have FC:=hid (fun w=>fG (num (aR 14 L g (bB L g false 4 (aE g true ad po) k) i) 22 2) (num g i 2) (num (aR 14 L g (bB L g false 4 (aE g true ad po) k) i) i 2) w b1.1 b1.2 b2.1 b2.2 b3.1 b3.2)
     have FM:=hid (aO O5.out 22 2 (turn (num (aR 14 L g (bB L g false 4 (aE g true ad po) k) i) 22 2) (num g i 2) (num (aR 14 L g (bB L g false 4 (aE g true ad po) k) i) i 2)) (by omega) (by omega) hb)
     clear b1 b2 b3
     go_wp2_with fail
     refine FR.out.mono ?_
     rintro e w' ⟨rfl,rfl⟩
     go_wp2_with fail
     refine FV.out.mono ?_
     rintro e w' ⟨rfl,rfl⟩
     go_wp2_with fail
     refine FP.out.mono ?_
     rintro e w' ⟨rfl,rfl⟩
     go_wp2_with fail
     refine(FC.out _).mono ?_
     rintro e w' ⟨rfl,rfl⟩
     go_wp2_with fail
     refine FM.out.mono ?_
     rintro e w6 ⟨rfl,oA,se⟩
     have T2:aC (aR 14 L g (bB L g false 4 (aE g true ad po) k) i) 22 2 (turn (num (aR 14 L g (bB L g false 4 (aE g true ad po) k) i) 22 2) (num g i 2) (num (aR 14 L g (bB L g false 4 (aE g true ad po) k) i) i 2))=(aR 22 L g (aR 14 L g (bB L g false 4 (aE g true ad po) k) i) i):=by rw[show (aR 22 L g (aR 14 L g (bB L g false 4 (aE g true ad po) k) i) i)=aC (aR 14 L g (bB L g false 4 (aE g true ad po) k) i) 22 2 (turn (num (aR 14 L g (bB L g false 4 (aE g true ad po) k) i) 22 2) (aU g L i) (aU (aR 14 L g (bB L g false 4 (aE g true ad po) k) i) L i)) from rfl,dw (by omega),dw (by omega)]
     rw[T2]at oA
     have O6:=hid oA
     have R6:=hid (R5.out.trans se)
     clear oA se T2
     go_wp2_with fail
     go_roundw
     case rel=>
      refine⟨k+1,kl,by rw[HI.out];go_num,?_,R6.out⟩
      have:=O6.out
      rw[HI.out]at this
      exact this
     simp[intOf];omega
    have i1:¬(i:Int)<8:=by omega
    have kk:k=2:=by omega
    subst kk
    clear fB hlt HI
    have FQ:=hid (bv (some ⟨G,0,none⟩) L c2 _ wr HO.out.sl1 HB.out 22 2 (by omega) (by omega) hb)
    have FU:=hid (bv (some ⟨b,off,none⟩) L c g wr (d9.out _ B5.out) HG.out 16 2 (by omega) (by omega) hb)
    have FO:=hid (bv (some ⟨G,0,none⟩) L c2 _ wr HO.out.sl1 HB.out 16 2 (by omega) (by omega) hb)
    have b1:=bP HB.out 22
    have b2:=bP HG.out 16
    have b3:=bP HB.out 16
    have Fz:=hid (fun w=>fG (num (bB L g false 4 (aE g true ad po) 2) 22 2) (num g 16 2) (num (bB L g false 4 (aE g true ad po) 2) 16 2) w b1.1 b1.2 b2.1 b2.2 b3.1 b3.2)
    have FK:=hid (aO HO.out 22 2 (turn (num (bB L g false 4 (aE g true ad po) 2) 22 2) (num g 16 2) (num (bB L g false 4 (aE g true ad po) 2) 16 2)) (by omega) (by omega) hb)
    clear b1 b2 b3
    go_wp2_with fail
    refine FQ.out.mono ?_
    rintro e w' ⟨rfl,rfl⟩
    go_wp2_with fail
    refine FU.out.mono ?_
    rintro e w' ⟨rfl,rfl⟩
    go_wp2_with fail
    refine FO.out.mono ?_
    rintro e w' ⟨rfl,rfl⟩
    go_wp2_with fail
    refine(Fz.out _).mono ?_
    rintro e w' ⟨rfl,rfl⟩
    go_wp2_with fail
    refine FK.out.mono ?_
    rintro e w6 ⟨rfl,oz,sa⟩
    have T3:aC (bB L g false 4 (aE g true ad po) 2) 22 2 (turn (num (bB L g false 4 (aE g true ad po) 2) 22 2) (num g 16 2) (num (bB L g false 4 (aE g true ad po) 2) 16 2))=(aR 22 L g (bB L g false 4 (aE g true ad po) 2) 16):=by rw[show (aR 22 L g (bB L g false 4 (aE g true ad po) 2) 16)=aC (bB L g false 4 (aE g true ad po) 2) 22 2 (turn (num (bB L g false 4 (aE g true ad po) 2) 22 2) (aU g L 16) (aU (bB L g false 4 (aE g true ad po) 2) L 16)) from rfl,dw (by omega),dw (by omega)]
    rw[T3]at oz
    have O6:=hid oz
    have B6:=hid (B5.out.trans (af sa ei B5.out.size))
    have Gd:=hid (fx (s:=22) (L:=L) (g:=g) HB.out 16)
    clear oz sa T3
    go_wp2_with fail
    refine(lu O6.out Gd.out (by omega) (.inr n24) hc2 hb false).mono ?_
    rintro e w7 ⟨rfl,ho,jt⟩
    rw[if_neg (by decide)]at ho
    have O8:=hid ho
    have B8:=hid (B6.out.trans (af jt ei B6.out.size))
    clear ho jt
    go_wp2_with fail
    refine bodyPost_ret (v:=.tuple #[.slice (some ⟨G,0,none⟩) L c2,()]) (by simp[results,Tryz.results34,go_sem]) rfl ?_
    rw[HE.out,qn BF.out]
    refine⟨_,rfl,?_,B8.out⟩
    have:=O8.out
    rw[Aq (by omega) n24]at this
    exact this
   have BF:=hid hbf
   clear hbf
   cases s
   ·skip
    have NP:aE g false ad po=aC (aC g 8 4 ad) 18 2 po:=rfl
    go_enter Tryz.func34,Tryz.ntmps34
    go_wp2_with fail
    refine HP.out.mono ?_
    rintro x w1 ⟨O,D,rfl,hO,hD,hb1⟩
    obtain ⟨AO,cO,rfl,_,_,_⟩:=hO.bp
    obtain ⟨AD,cD,rfl,_,_,_⟩:=hD.bp
    have B1:=hid (hb1.alloc hb1.size (.cells #[p.kind,p.life,p.piece,p.src,p.dst,p.fp,p.tp,p.flags,p.label,p.bare,p.code,.slice AO p.no cO,.slice AD p.nd cD] 45))
    clear hb1 HP hO hD
    unfold de ea
    go_simp
    have CE:=hid (Ce.made (w:=w1) (l:=[p.kind,p.life,p.piece,p.src,p.dst,p.fp,p.tp,p.flags,p.label,p.bare,p.code,.slice AO p.no cO,.slice AD p.nd cD]) (T:=45) rfl)
    simp only[List.toArray]at CE
    have k0:=CE.out.2.1 0 _ rfl
    go_wp2_with fail
    refine(RA.out _).mono ?_
    rintro e w' ⟨rfl,rfl⟩
    go_wp2_with fail
    refine(RP.out _).mono ?_
    rintro e w' ⟨rfl,rfl⟩
    clear k0
    go_upto_region 8 with (fail)
    generalize (w1.alloc (.cells #[p.kind,p.life,p.piece,p.src,p.dst,p.fp,p.tp,p.flags,p.label,p.bare,p.code,.slice AO p.no cO,.slice AD p.nd cD] 45))=wA at *
    have lA:w.heap.size≤wA.heap.size:=B1.out.size
    have lP:w1.heap.size<wA.heap.size:=CE.out.1
    go_upto_region 9 with (at_builtin;refine jf rfl (.tmp 37) (.tmp 38) rfl wA.heap.size _ rfl (fun f=>Ow.new' (w:=wA) rfl) _ L _ g rfl (Sl.alloc (d9.out _ B1.out) _) (by omega) (by simp) ?_;intro A2 c2 w2 h1 h2 h3 h4 h5 h6;have kg:=hid h1;have hc2:=h2;have BA:=hid (Below.trans ((Below.refl wA.heap.size wA).alloc (Nat.le_refl _) (.cells #[] 5)) h4);clear h1 h2 h3 h4 h5 h6)
    have ay:=hid (CE.out.below BA.out)
    have B2:=hid (B1.out.trans (BA.out.mono lA))
    obtain ⟨G,e,hB,hgs,hce,hfr⟩:=Ow.block_ kg.out (by omega)
    subst e
    have O2:=hid (OB.base kg.out lA)
    have ei:w.heap.size≤G:=by omega
    have hne:b≠G:=by omega
    have uu:w1.heap.size≠G:=by omega
    clear hce hfr hgs kg CE ay BA RA RP
    go_wp2_with fail
    refine(aO O2.out 8 4 ad (by omega) (by omega) hb).mono ?_
    rintro e w3 ⟨rfl,hO,hg3⟩
    have O3:=hid hO
    have G3:=hid hg3
    clear hO hg3 O2
    go_wp2_with fail
    refine(aO O3.out 18 2 po (by omega) (by omega) hb).mono ?_
    rintro e w4 ⟨rfl,hO,hg3⟩
    rw[←NP]at hO
    have O4:=hid hO
    have G4:=hid (G3.out.trans hg3)
    have B4:=hid (B2.out.trans (af G4.out ei B2.out.size))
    clear hO hg3 O3 G3 NP
    have XB:=hid (o6 HG.out false ad po)
    have BR:=hid (fY (kt (some ⟨b,off,none⟩) L c g w4 (d9.out _ B4.out) HG.out (by omega) (.inr n24) hb) BF.out)
    go_wp2_with fail
    refine BR.out.mono ?_
    rintro e w' ⟨rfl,rfl⟩
    clear BR B4
    go_wp2_with fail
    go_loopw [16] (fun i wr=>∃k:Nat,k≤2∧i =.int .i64 ((8+2*k:Nat):Int)∧OB wr w.heap.size (.slice (some ⟨G,0,none⟩) L c2) L (bB L g true 8 (aE g false ad po) k)∧w2.grownBy wr (some G)) (fun i _=>20-(intOf i).toNat)
    case atStart=>exact⟨0,by omega,rfl,O4.out,G4.out⟩
    obtain ⟨k,hk,rfl,ho,hgr⟩:=hrel
    obtain ⟨i,hi⟩:∃i,i=8+2*k:=⟨_,rfl⟩
    rw[←hi]
    have HI:=hid hi
    have HO:=hid ho
    have HR:=hid hgr
    have fB:k<2↔i<12:=by omega
    clear hi ho hgr O4 G4
    have B5:=hid (B2.out.trans (af HR.out ei B2.out.size))
    have HB:=hid (nj (L:=L) (g:=g) XB.out true 8 k)
    by_cases hlt:i<12
    ·have i1:(i:Int)<12:=by omega
     have i2:i+1<L:=by omega
     have i3:IntKind.i64.wrap ((i:Int)+2)=(i:Int)+2:=IntWalk.i64_in _ (by omega)
     have kl:=fB.2 hlt
     clear fB hlt
     have sY:=hid (bv (some ⟨G,0,none⟩) L c2 _ wr HO.out.sl1 HB.out 14 2 (by omega) (by omega) hb)
     have sZ:=hid (bv (some ⟨b,off,none⟩) L c g wr (d9.out _ B5.out) HG.out i 2 (by omega) (by omega) hb)
     have sX:=hid (bv (some ⟨G,0,none⟩) L c2 _ wr HO.out.sl1 HB.out i 2 (by omega) (by omega) hb)
     have b1:=bP HB.out 14
     have b2:=bP HG.out i
     have b3:=bP HB.out i
     have sR:=hid (fun w=>fG (num (bB L g true 8 (aE g false ad po) k) 14 2) (num g i 2) (num (bB L g true 8 (aE g false ad po) k) i 2) w b1.1 b1.2 b2.1 b2.2 b3.1 b3.2)
     have sV:=hid (aO HO.out 14 2 (turn (num (bB L g true 8 (aE g false ad po) k) 14 2) (num g i 2) (num (bB L g true 8 (aE g false ad po) k) i 2)) (by omega) (by omega) hb)
     clear b1 b2 b3
     go_wp2_with fail
     refine sY.out.mono ?_
     rintro e w' ⟨rfl,rfl⟩
     go_wp2_with fail
     refine sZ.out.mono ?_
     rintro e w' ⟨rfl,rfl⟩
     go_wp2_with fail
     refine sX.out.mono ?_
     rintro e w' ⟨rfl,rfl⟩
     go_wp2_with fail
     refine(sR.out _).mono ?_
     rintro e w' ⟨rfl,rfl⟩
     go_wp2_with fail
     refine sV.out.mono ?_
     rintro e w5 ⟨rfl,gW,jZ⟩
     have T1:aC (bB L g true 8 (aE g false ad po) k) 14 2 (turn (num (bB L g true 8 (aE g false ad po) k) 14 2) (num g i 2) (num (bB L g true 8 (aE g false ad po) k) i 2))=(aR 14 L g (bB L g true 8 (aE g false ad po) k) i):=by unfold aR;rw[dw (by omega),dw (by omega)]
     rw[T1]at gW
     have O5:=hid gW
     have R5:=hid (HR.out.trans jZ)
     have m8:=hid (fx (s:=14) (L:=L) (g:=g) HB.out i)
     clear gW jZ T1
     go_wp2_with fail
     go_roundw
     case rel=>
      refine⟨k+1,kl,by rw[HI.out];go_num,?_,R5.out⟩
      have:=O5.out
      rw[HI.out]at this
      exact this
     simp[intOf];omega
    have i1:¬(i:Int)<12:=by omega
    have kk:k=2:=by omega
    subst kk
    clear fB hlt HI
    go_wp2_with fail
    refine(lu HO.out HB.out (by omega) (.inr n24) hc2 hb true).mono ?_
    rintro e w7 ⟨rfl,ho,jt⟩
    rw[if_pos rfl]at ho
    have O8:=hid ho
    have B8:=hid (B5.out.trans (af jt ei B5.out.size))
    clear ho jt
    go_wp2_with fail
    refine bodyPost_ret (v:=.tuple #[.slice (some ⟨G,0,none⟩) L c2,()]) (by simp[results,Tryz.results34,go_sem]) rfl ?_
    rw[HE.out,qo BF.out]
    exact⟨_,rfl,O8.out,B8.out⟩
   skip
   have NP:aE g true ad po=aC (aC g 4 4 ad) 16 2 po:=rfl
   go_enter Tryz.func34,Tryz.ntmps34
   go_wp2_with fail
   refine HP.out.mono ?_
   rintro x w1 ⟨O,D,rfl,hO,hD,hb1⟩
   obtain ⟨AO,cO,rfl,_,_,_⟩:=hO.bp
   obtain ⟨AD,cD,rfl,_,_,_⟩:=hD.bp
   have B1:=hid (hb1.alloc hb1.size (.cells #[p.kind,p.life,p.piece,p.src,p.dst,p.fp,p.tp,p.flags,p.label,p.bare,p.code,.slice AO p.no cO,.slice AD p.nd cD] 45))
   clear hb1 HP hO hD
   unfold de ea
   go_simp
   have CE:=hid (Ce.made (w:=w1) (l:=[p.kind,p.life,p.piece,p.src,p.dst,p.fp,p.tp,p.flags,p.label,p.bare,p.code,.slice AO p.no cO,.slice AD p.nd cD]) (T:=45) rfl)
   simp only[List.toArray]at CE
   have k0:=CE.out.2.1 0 _ rfl
   go_wp2_with fail
   refine(RA.out _).mono ?_
   rintro e w' ⟨rfl,rfl⟩
   go_wp2_with fail
   refine(RP.out _).mono ?_
   rintro e w' ⟨rfl,rfl⟩
   clear k0
   go_upto_region 8 with (fail)
   generalize (w1.alloc (.cells #[p.kind,p.life,p.piece,p.src,p.dst,p.fp,p.tp,p.flags,p.label,p.bare,p.code,.slice AO p.no cO,.slice AD p.nd cD] 45))=wA at *
   have lA:w.heap.size≤wA.heap.size:=B1.out.size
   have lP:w1.heap.size<wA.heap.size:=CE.out.1
   go_upto_region 9 with (at_builtin;refine jf rfl (.tmp 37) (.tmp 38) rfl wA.heap.size _ rfl (fun f=>Ow.new' (w:=wA) rfl) _ L _ g rfl (Sl.alloc (d9.out _ B1.out) _) (by omega) (by simp) ?_;intro A2 c2 w2 h1 h2 h3 h4 h5 h6;have kg:=hid h1;have hc2:=h2;have BA:=hid (Below.trans ((Below.refl wA.heap.size wA).alloc (Nat.le_refl _) (.cells #[] 5)) h4);clear h1 h2 h3 h4 h5 h6)
   have ay:=hid (CE.out.below BA.out)
   have B2:=hid (B1.out.trans (BA.out.mono lA))
   obtain ⟨G,e,hB,hgs,hce,hfr⟩:=Ow.block_ kg.out (by omega)
   subst e
   have O2:=hid (OB.base kg.out lA)
   have ei:w.heap.size≤G:=by omega
   have hne:b≠G:=by omega
   have uu:w1.heap.size≠G:=by omega
   clear hce hfr hgs kg CE ay BA RA RP
   go_wp2_with fail
   refine(aO O2.out 4 4 ad (by omega) (by omega) hb).mono ?_
   rintro e w3 ⟨rfl,hO,hg3⟩
   have O3:=hid hO
   have G3:=hid hg3
   clear hO hg3 O2
   go_wp2_with fail
   refine(aO O3.out 16 2 po (by omega) (by omega) hb).mono ?_
   rintro e w4 ⟨rfl,hO,hg3⟩
   rw[←NP]at hO
   have O4:=hid hO
   have G4:=hid (G3.out.trans hg3)
   have B4:=hid (B2.out.trans (af G4.out ei B2.out.size))
   clear hO hg3 O3 G3 NP
   have XB:=hid (o6 HG.out true ad po)
   have BR:=hid (fY (kt (some ⟨b,off,none⟩) L c g w4 (d9.out _ B4.out) HG.out (by omega) (.inr n24) hb) BF.out)
   go_wp2_with fail
   refine BR.out.mono ?_
   rintro e w' ⟨rfl,rfl⟩
   clear BR B4
   go_wp2_with fail
   go_loopw [16] (fun i wr=>∃k:Nat,k≤2∧i =.int .i64 ((4+2*k:Nat):Int)∧OB wr w.heap.size (.slice (some ⟨G,0,none⟩) L c2) L (bB L g true 4 (aE g true ad po) k)∧w2.grownBy wr (some G)) (fun i _=>20-(intOf i).toNat)
   case atStart=>exact⟨0,by omega,rfl,O4.out,G4.out⟩
   obtain ⟨k,hk,rfl,ho,hgr⟩:=hrel
   obtain ⟨i,hi⟩:∃i,i=4+2*k:=⟨_,rfl⟩
   rw[←hi]
   have HI:=hid hi
   have HO:=hid ho
   have HR:=hid hgr
   have fB:k<2↔i<8:=by omega
   clear hi ho hgr O4 G4
   have B5:=hid (B2.out.trans (af HR.out ei B2.out.size))
   have HB:=hid (nj (L:=L) (g:=g) XB.out true 4 k)
   by_cases hlt:i<8
   ·have i1:(i:Int)<8:=by omega
    have i2:i+1<L:=by omega
    have i3:IntKind.i64.wrap ((i:Int)+2)=(i:Int)+2:=IntWalk.i64_in _ (by omega)
    have kl:=fB.2 hlt
    clear fB hlt
    have sY:=hid (bv (some ⟨G,0,none⟩) L c2 _ wr HO.out.sl1 HB.out 14 2 (by omega) (by omega) hb)
    have sZ:=hid (bv (some ⟨b,off,none⟩) L c g wr (d9.out _ B5.out) HG.out i 2 (by omega) (by omega) hb)
    have sX:=hid (bv (some ⟨G,0,none⟩) L c2 _ wr HO.out.sl1 HB.out i 2 (by omega) (by omega) hb)
    have b1:=bP HB.out 14
    have b2:=bP HG.out i
    have b3:=bP HB.out i
    have sR:=hid (fun w=>fG (num (bB L g true 4 (aE g true ad po) k) 14 2) (num g i 2) (num (bB L g true 4 (aE g true ad po) k) i 2) w b1.1 b1.2 b2.1 b2.2 b3.1 b3.2)
    have sV:=hid (aO HO.out 14 2 (turn (num (bB L g true 4 (aE g true ad po) k) 14 2) (num g i 2) (num (bB L g true 4 (aE g true ad po) k) i 2)) (by omega) (by omega) hb)
    clear b1 b2 b3
    go_wp2_with fail
    refine sY.out.mono ?_
    rintro e w' ⟨rfl,rfl⟩
    go_wp2_with fail
    refine sZ.out.mono ?_
    rintro e w' ⟨rfl,rfl⟩
    go_wp2_with fail
    refine sX.out.mono ?_
    rintro e w' ⟨rfl,rfl⟩
    go_wp2_with fail
    refine(sR.out _).mono ?_
    rintro e w' ⟨rfl,rfl⟩
    go_wp2_with fail
    refine sV.out.mono ?_
    rintro e w5 ⟨rfl,gW,jZ⟩
    have T1:aC (bB L g true 4 (aE g true ad po) k) 14 2 (turn (num (bB L g true 4 (aE g true ad po) k) 14 2) (num g i 2) (num (bB L g true 4 (aE g true ad po) k) i 2))=(aR 14 L g (bB L g true 4 (aE g true ad po) k) i):=by unfold aR;rw[dw (by omega),dw (by omega)]
    rw[T1]at gW
    have O5:=hid gW
    have R5:=hid (HR.out.trans jZ)
    have m8:=hid (fx (s:=14) (L:=L) (g:=g) HB.out i)
    clear gW jZ T1
    go_wp2_with fail
    go_roundw
    case rel=>
     refine⟨k+1,kl,by rw[HI.out];go_num,?_,R5.out⟩
     have:=O5.out
     rw[HI.out]at this
     exact this
    simp[intOf];omega
   have i1:¬(i:Int)<8:=by omega
   have kk:k=2:=by omega
   subst kk
   clear fB hlt HI
   go_wp2_with fail
   refine(lu HO.out HB.out (by omega) (.inr n24) hc2 hb true).mono ?_
   rintro e w7 ⟨rfl,ho,jt⟩
   rw[if_pos rfl]at ho
   have O8:=hid ho
   have B8:=hid (B5.out.trans (af jt ei B5.out.size))
   clear ho jt
   go_wp2_with fail
   refine bodyPost_ret (v:=.tuple #[.slice (some ⟨G,0,none⟩) L c2,()]) (by simp[results,Tryz.results34,go_sem]) rfl ?_
   rw[HE.out,qo BF.out]
   exact⟨_,rfl,O8.out,B8.out⟩
  have fw:g 0=3:=by rw[←PK.out];simpa using k3
  rw[if_pos fw]at HE
  clear fw
  go_enter Tryz.func34,Tryz.ntmps34
  go_wp2_with fail
  refine HP.out.mono ?_
  rintro x w1 ⟨O,D,rfl,hO,hD,hb1⟩
  obtain ⟨AO,cO,rfl,_,_,_⟩:=hO.bp
  obtain ⟨AD,cD,rfl,_,_,_⟩:=hD.bp
  have B1:=hid (hb1.alloc hb1.size (.cells #[p.kind,p.life,p.piece,p.src,p.dst,p.fp,p.tp,p.flags,p.label,p.bare,p.code,.slice AO p.no cO,.slice AD p.nd cD] 45))
  clear hb1 HP hO hD
  unfold de ea
  go_simp
  have CE:=hid (Ce.made (w:=w1) (l:=[p.kind,p.life,p.piece,p.src,p.dst,p.fp,p.tp,p.flags,p.label,p.bare,p.code,.slice AO p.no cO,.slice AD p.nd cD]) (T:=45) rfl)
  simp only[List.toArray]at CE
  have k0:=CE.out.2.1 0 _ rfl
  go_wp2_with fail
  refine bodyPost_ret (v:=.tuple #[.slice none 0 0,.int .i64 2]) (by simp[results,Tryz.results34,go_sem]) rfl ?_
  rw[HE.out]
  exact bC (by decide) B1.out
 have HE:Hid (gE g L ad po=z):=hid (by unfold gE;rw[←hz,if_pos (by simpa using hz0)])
 have HZ0:Hid (z≠0):=hid (by simpa using hz0)
 generalize au g L=p at HP
 clear hz
 go_enter Tryz.func34,Tryz.ntmps34
 go_wp2_with fail
 refine HP.out.mono ?_
 rintro x w1 ⟨O,D,rfl,hO,hD,hb1⟩
 obtain ⟨AO,cO,rfl,_,_,_⟩:=hO.bp
 obtain ⟨AD,cD,rfl,_,_,_⟩:=hD.bp
 have B1:=hid (hb1.alloc hb1.size (.cells #[p.kind,p.life,p.piece,p.src,p.dst,p.fp,p.tp,p.flags,p.label,p.bare,p.code,.slice AO p.no cO,.slice AD p.nd cD] 45))
 clear hb1 HP hO hD
 unfold de ea
 go_simp
 go_wp2_with fail
 refine bodyPost_ret (v:=.tuple #[.slice none 0 0,z]) (by simp[results,Tryz.results34,go_sem]) rfl ?_
 rw[HE.out]
 exact bC HZ0.out B1.out
end Go.Proofs.YtgfonkagnambiaaGreat
