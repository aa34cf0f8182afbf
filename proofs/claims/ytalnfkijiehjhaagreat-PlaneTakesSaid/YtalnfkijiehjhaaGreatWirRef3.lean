/- The reference's Nat. -/
import Derived.Test.YtalnfkijiehjhaaGreatGa
import Derived.Test.YtalnfkijiehjhaaGreatWirRef1
import Derived.Test.YtalnfkijiehjhaaGreatGwc
import Derived.BigQuiet
import Derived.Deep.RegionHeld3
import Derived.Deep.Cut
namespace Go.Proofs.YtalnfkijiehjhaaGreat
set_option linter.unusedVariables false
set_option linter.unusedSimpArgs false
open Go.RowKit Go.ChangeShapes Go.WideShapes Go.ChangeAt
theorem Al {x:Nat→Int}{s t m n:Nat}{u v:Int}(h:s+m≤t∨t+n≤s):ao (ao x s m u) t n v=ao (ao x t n v) s m u:=by
 funext j
 unfold ao
 by_cases h1:s≤j∧j<s+m <;> by_cases h2:t≤j∧j<t+n
 ·exfalso;omega
 ·simp only[h1,h2,if_true,if_false,and_self]
 ·simp only[h1,h2,if_true,if_false,and_self]
 simp only[h1,h2,if_true,if_false,and_self]
theorem xU {s t L i k:Nat}{g x:Nat→Int}(hst:s+2≤t∨t+2≤s)(hi:i+1<t∨t+2≤i)(hk:k+1<s∨s+2≤k)(Od:i<L)(Ob:k<L):bh s L g (bh t L g x k) i=bh t L g (bh s L g x i) k:=by
 have e1:∀u,num (ao x t 2 u) s 2=num x s 2:=fun u=>sR (by omega)
 have e2:∀u,num (ao x s 2 u) t 2=num x t 2:=fun u=>sR (by omega)
 have e3:∀u,aL (ao x t 2 u) L i=aL x L i:=fun u=>iJ (aT (by omega)) (fun _=>aT (by omega)) Od
 have e4:∀u,aL (ao x s 2 u) L k=aL x L k:=fun u=>iJ (aT (by omega)) (fun _=>aT (by omega)) Ob
 unfold bh
 rw[e1,e2,e3,e4]
 exact Al (by omega)
def bH (L:Nat)(g:Nat→Int)(was:Bool)(a:Nat)(x:Nat→Int):Nat→Nat→Int
 |0=>x
 |k+1=>if was=true then bh 14 L g (bH L g was a x k) (a+2*k) else bh 22 L g (bh 14 L g (bH L g was a x k) (a+2*k)) (a+2*k)
theorem nJ {L:Nat}{g x:Nat→Int}(hx:aC x)(was:Bool)(a:Nat):∀k,aC (bH L g was a x k)
 |0=>hx
 |k+1=>by
  unfold bH
  split
  ·exact ga (nJ hx was a k) _
  exact ga (ga (nJ hx was a k) _) _
theorem Eu {L:Nat}{g x:Nat→Int}{a:Nat}(ha:a+4≤14)(hL:24≤L):bH L g false a x 2=aQ 22 L g 2 a (aQ 14 L g 2 a x):=by
 show bh 22 L g (bh 14 L g (bh 22 L g (bh 14 L g x (a+2*0)) (a+2*0)) (a+2*1)) (a+2*1)=bh 22 L g (bh 22 L g (bh 14 L g (bh 14 L g x a) (a+2)) a) (a+2)
 rw[show a+2*0=a from rfl,show a+2*1=a+2 from rfl,xU (s:=14) (t:=22) (i:=a+2) (k:=a) (by omega) (by omega) (by omega) (by omega) (by omega)]
theorem tL {g:Nat→Int}{L:Nat}{s:Bool}{ad po:Int}(h:du g=true):bA g L s ad po=aQ 14 L g 2 (if s=true then 4 else 8) (aO g s ad po):=by unfold bA;rw[if_pos h]
theorem tK {g:Nat→Int}{L:Nat}{s:Bool}{ad po:Int}(h:du g=false):bA g L s ad po=cZ (bh 22 L g (aQ 22 L g 2 (if s=true then 4 else 8) (aQ 14 L g 2 (if s=true then 4 else 8) (aO g s ad po))) (if s=true then 16 else 18)):=by unfold bA;rw[if_neg (by rw[h];decide)];rfl
theorem rP {g:Nat→Int}(hg:aC g)(s:Bool)(ad po:Int):aC (aO g s ad po):=by unfold aO;split <;> exact dy (dy hg _ _ _) _ _ _
theorem dY {x:Nat→Int}{L i:Nat}(h:i+1≠L):aL x L i=num x i 2:=by unfold aL;rw[if_neg h]
theorem qZ7{P:Prop}(h:P:=by
 rintro e w' ⟨rfl,rfl⟩
 go_wp2_with fail
 refine bodyPost_ret (v:=.tuple #[.slice none 0 0,.int .i64 14]) (by simp[results,Tryz.results39,go_sem]) rfl ?_
 rw[HE.out]
 exact aV (by decide) B1.out
 ):P:=h
theorem qZI{P:Prop}(h:P:=by
 rw[T2]at rk
 have O6:=hid rk
 have R6:=hid (R5.out.trans vm)
 clear rk vm T2
 go_wp2_with fail
 go_roundw
 case rel=>
  refine⟨k+1,kl,by rw[HI.out];go_num,?_,R6.out⟩
  have:=O6.out
  rw[HI.out]at this
  exact this
 simp[intOf];omega
 ):P:=h
theorem qZX{P:Prop}(h:P:=by
 clear ic jP T1
 go_wp2_with fail
 go_roundw
 case rel=>
  refine⟨k+1,kl,by rw[HI.out];go_num,?_,R5.out⟩
  have:=O5.out
  rw[HI.out]at this
  exact this
 simp[intOf];omega
 ):P:=h
theorem qX0{P:Prop}(h:P:=by
 have kk:k=2:=by omega
 subst kk
 clear dG hlt HI
 go_wp2_with fail
 refine(ep HO.out HB.out (by omega) (.inr n24) hc2 hb true).mono ?_
 rintro e w7 ⟨rfl,ho,kT⟩
 rw[if_pos rfl]at ho
 have O8:=hid ho
 have B8:=hid (B5.out.trans (af kT cz B5.out.size))
 clear ho kT
 go_wp2_with fail
 refine bodyPost_ret (v:=.tuple #[.slice (some ⟨G,0,none⟩) L c2,()]) (by simp[results,Tryz.results39,go_sem]) rfl ?_
 rw[HE.out,tL BF.out]
 exact⟨_,rfl,O8.out,B8.out⟩
 ):P:=h
theorem qXA{P:Prop}(h:P:=by
 clear rj vl T3
 go_wp2_with fail
 refine(ep O6.out J6.out (by omega) (.inr n24) hc2 hb false).mono ?_
 rintro e w7 ⟨rfl,ho,kT⟩
 rw[if_neg (by decide)]at ho
 have O8:=hid ho
 have B8:=hid (B6.out.trans (af kT cz B6.out.size))
 clear ho kT
 go_wp2_with fail
 refine bodyPost_ret (v:=.tuple #[.slice (some ⟨G,0,none⟩) L c2,()]) (by simp[results,Tryz.results39,go_sem]) rfl ?_
 rw[HE.out,tK BF.out]
 refine⟨_,rfl,?_,B8.out⟩
 have:=O8.out
 rw[Eu (by omega) n24]at this
 exact this
 ):P:=h
theorem qJC{P:Prop}(h:P:=by
 rw[T1]at ic
 have O5:=hid ic
 have R5:=hid (HR.out.trans jP)
 have pO:=hid (ga (s:=14) (L:=L) (g:=g) HB.out i)
 exact qZX
 ):P:=h
set_option maxHeartbeats 8000000 in
theorem qU (A:Option Addr)(L c:Nat)(g:Nat→Int)(w:World)(h:By w A L g)(hg:aC g)(hc:L≤c)(hb:L≤1000000)(s:Bool)(ad po:Int) :
 Calls Tryz.prog 39 #[.slice A L c,s,ad,po] w (ij w (iZ g L ad po) L (bA g L s ad po)):=by
 have HP:=hid (hH A L c g w h hg hc hb)
 have cx:=hid (fun (W:World) (hw:Below w.heap.size w W)=>Sl.below h hw (Nat.le_refl _))
 have HG:=hid hg
 have HH:=hid h
 clear h hg
 obtain ⟨z,hz⟩:∃z,z=az g L:=⟨_,rfl⟩
 unfold Parsed at HP
 rw[←hz]at HP
 cases hz0:(z != 0)
 ·have z0:az g L=0:=by rw[←hz];simpa using hz0
  have pf:=eW z0
  have n24:=pf.1
  have n15:=pf.2.1
  have PK:=hid (gn z0).2
  have HE:Hid (iZ g L ad po=if g 0=3 then 2 else if (cW ad 4294967295&&cW po 65535)=true then 0 else 14):=hid (by unfold iZ;rw[if_neg (fun h=>h z0)])
  clear pf z0 hz
  generalize ax g L=p at HP PK
  cases k3:(p.kind==3)
  ·have gH:¬g 0=3:=by rw[←PK.out];simpa using k3
   rw[if_neg gH]at HE
   clear gH
   have RA:=hid (fun w=>dB ad 4294967295 w)
   have RP:=hid (fun w=>dB po 65535 w)
   cases r1:cW ad 4294967295
   ·rw[r1]at RA HE
    rw[Bool.false_and,if_neg (by decide)]at HE
    clear r1
    go_enter Tryz.func39,Tryz.ntmps39
    go_wp2_with fail
    refine HP.out.mono ?_
    rintro x w1 ⟨O,D,rfl,hO,hD,hb1⟩
    obtain ⟨AO,cO,rfl,_,_,_⟩:=hO.aF
    obtain ⟨AD,cD,rfl,_,_,_⟩:=hD.aF
    have B1:=hid (hb1.alloc hb1.size (.cells #[p.kind,p.life,p.piece,p.src,p.dst,p.fp,p.tp,p.flags,p.label,p.bare,p.code,.slice AO p.no cO,.slice AD p.nd cD] 53))
    clear hb1 HP hO hD
    unfold ct de
    go_simp
    have CE:=hid (Ce.made (w:=w1) (l:=[p.kind,p.life,p.piece,p.src,p.dst,p.fp,p.tp,p.flags,p.label,p.bare,p.code,.slice AO p.no cO,.slice AD p.nd cD]) (T:=53) rfl)
    simp only[List.toArray]at CE
    have k0:=CE.out.2.1 0 _ rfl
    go_wp2_with fail
    refine(RA.out _).mono ?_
    exact qZ7
   cases r2:cW po 65535
   ·rw[r1]at RA HE
    rw[r2]at RP HE
    rw[Bool.and_false,if_neg (by decide)]at HE
    clear r1 r2
    go_enter Tryz.func39,Tryz.ntmps39
    go_wp2_with fail
    refine HP.out.mono ?_
    rintro x w1 ⟨O,D,rfl,hO,hD,hb1⟩
    obtain ⟨AO,cO,rfl,_,_,_⟩:=hO.aF
    obtain ⟨AD,cD,rfl,_,_,_⟩:=hD.aF
    have B1:=hid (hb1.alloc hb1.size (.cells #[p.kind,p.life,p.piece,p.src,p.dst,p.fp,p.tp,p.flags,p.label,p.bare,p.code,.slice AO p.no cO,.slice AD p.nd cD] 53))
    clear hb1 HP hO hD
    unfold ct de
    go_simp
    have CE:=hid (Ce.made (w:=w1) (l:=[p.kind,p.life,p.piece,p.src,p.dst,p.fp,p.tp,p.flags,p.label,p.bare,p.code,.slice AO p.no cO,.slice AD p.nd cD]) (T:=53) rfl)
    simp only[List.toArray]at CE
    have k0:=CE.out.2.1 0 _ rfl
    go_wp2_with fail
    refine(RA.out _).mono ?_
    rintro e w' ⟨rfl,rfl⟩
    go_wp2_with fail
    refine(RP.out _).mono ?_
    exact qZ7
   rw[r1]at RA HE
   rw[r2]at RP HE
   rw[Bool.and_true,if_pos rfl]at HE
   clear r1 r2
   obtain ⟨b,off,rfl,hblt,_⟩:=HH.out (by omega)
   cases hbf:du g
   ·have BF:=hid hbf
    clear hbf
    cases s
    ·skip
     have NP:aO g false ad po=ao (ao g 8 4 ad) 18 2 po:=rfl
     go_enter Tryz.func39,Tryz.ntmps39
     go_wp2_with fail
     refine HP.out.mono ?_
     rintro x w1 ⟨O,D,rfl,hO,hD,hb1⟩
     obtain ⟨AO,cO,rfl,_,_,_⟩:=hO.aF
     obtain ⟨AD,cD,rfl,_,_,_⟩:=hD.aF
     have B1:=hid (hb1.alloc hb1.size (.cells #[p.kind,p.life,p.piece,p.src,p.dst,p.fp,p.tp,p.flags,p.label,p.bare,p.code,.slice AO p.no cO,.slice AD p.nd cD] 53))
     clear hb1 HP hO hD
     unfold ct de
     go_simp
     have CE:=hid (Ce.made (w:=w1) (l:=[p.kind,p.life,p.piece,p.src,p.dst,p.fp,p.tp,p.flags,p.label,p.bare,p.code,.slice AO p.no cO,.slice AD p.nd cD]) (T:=53) rfl)
     simp only[List.toArray]at CE
     have k0:=CE.out.2.1 0 _ rfl
     go_wp2_with fail
     refine(RA.out _).mono ?_
     rintro e w' ⟨rfl,rfl⟩
     go_wp2_with fail
     refine(RP.out _).mono ?_
     rintro e w' ⟨rfl,rfl⟩
     clear k0
     go_upto_region 8 with (fail)
     generalize (w1.alloc (.cells #[p.kind,p.life,p.piece,p.src,p.dst,p.fp,p.tp,p.flags,p.label,p.bare,p.code,.slice AO p.no cO,.slice AD p.nd cD] 53))=wA at *
     have lA:w.heap.size≤wA.heap.size:=B1.out.size
     have lP:w1.heap.size<wA.heap.size:=CE.out.1
     go_upto_region 9 with (at_builtin;refine eK rfl (.tmp 37) (.tmp 38) rfl wA.heap.size _ rfl (fun f=>Ow.new' (w:=wA) rfl) _ L _ g rfl (Sl.alloc (cx.out _ B1.out) _) (by omega) (by simp) ?_;intro A2 c2 w2 h1 h2 h3 h4 h5 h6;have ec:=hid h1;have hc2:=h2;have BA:=hid (Below.trans ((Below.refl wA.heap.size wA).alloc (Nat.le_refl _) (.cells #[] 5)) h4);clear h1 h2 h3 h4 h5 h6)
     have aE:=hid (CE.out.below BA.out)
     have B2:=hid (B1.out.trans (BA.out.mono lA))
     obtain ⟨G,e,hB,hgs,hce,hfr⟩:=Ow.block_ ec.out (by omega)
     subst e
     have O2:=hid (OB.base ec.out lA)
     have cz:w.heap.size≤G:=by omega
     have hne:b≠G:=by omega
     have m_:w1.heap.size≠G:=by omega
     clear hce hfr hgs ec CE aE BA RA RP
     go_wp2_with fail
     refine(aM O2.out 8 4 ad (by omega) (by omega) hb).mono ?_
     rintro e w3 ⟨rfl,hO,hg3⟩
     have O3:=hid hO
     have G3:=hid hg3
     clear hO hg3 O2
     go_wp2_with fail
     refine(aM O3.out 18 2 po (by omega) (by omega) hb).mono ?_
     rintro e w4 ⟨rfl,hO,hg3⟩
     rw[←NP]at hO
     have O4:=hid hO
     have G4:=hid (G3.out.trans hg3)
     have B4:=hid (B2.out.trans (af G4.out cz B2.out.size))
     clear hO hg3 O3 G3 NP
     have XB:=hid (rP HG.out false ad po)
     have BR:=hid (iS (fO (some ⟨b,off,none⟩) L c g w4 (cx.out _ B4.out) HG.out (by omega) (.inr n24) hb) BF.out)
     go_wp2_with fail
     refine BR.out.mono ?_
     rintro e w' ⟨rfl,rfl⟩
     clear BR B4
     go_wp2_with fail
     go_loopw [16] (fun i wr=>∃k:Nat,k≤2∧i =.int .i64 ((8+2*k:Nat):Int)∧OB wr w.heap.size (.slice (some ⟨G,0,none⟩) L c2) L (bH L g false 8 (aO g false ad po) k)∧w2.grownBy wr (some G)) (fun i _=>20-(intOf i).toNat)
     case atStart=>exact⟨0,by omega,rfl,O4.out,G4.out⟩
     obtain ⟨k,hk,rfl,ho,hgr⟩:=hrel
     obtain ⟨i,hi⟩:∃i,i=8+2*k:=⟨_,rfl⟩
     rw[←hi]
     have HI:=hid hi
     have HO:=hid ho
     have HR:=hid hgr
     have dG:k<2↔i<12:=by omega
     clear hi ho hgr O4 G4
     have B5:=hid (B2.out.trans (af HR.out cz B2.out.size))
     have HB:=hid (nJ (L:=L) (g:=g) XB.out false 8 k)
     by_cases hlt:i<12
     ·have i1:(i:Int)<12:=by omega
      have i2:i+1<L:=by omega
      have i3:IntKind.i64.wrap ((i:Int)+2)=(i:Int)+2:=IntWalk.i64_in _ (by omega)
      have kl:=dG.2 hlt
      clear dG hlt
      have sh:=hid (aX (some ⟨G,0,none⟩) L c2 _ wr HO.out.sl1 HB.out 14 2 (by omega) (by omega) hb)
      have sj:=hid (aX (some ⟨b,off,none⟩) L c g wr (cx.out _ B5.out) HG.out i 2 (by omega) (by omega) hb)
      have sg:=hid (aX (some ⟨G,0,none⟩) L c2 _ wr HO.out.sl1 HB.out i 2 (by omega) (by omega) hb)
      have b1:=bE HB.out 14
      have b2:=bE HG.out i
      have b3:=bE HB.out i
      have se:=hid (fun w=>dU (num (bH L g false 8 (aO g false ad po) k) 14 2) (num g i 2) (num (bH L g false 8 (aO g false ad po) k) i 2) w b1.1 b1.2 b2.1 b2.2 b3.1 b3.2)
      have sf:=hid (aM HO.out 14 2 (turn (num (bH L g false 8 (aO g false ad po) k) 14 2) (num g i 2) (num (bH L g false 8 (aO g false ad po) k) i 2)) (by omega) (by omega) hb)
      clear b1 b2 b3
      go_wp2_with fail
      refine sh.out.mono ?_
      rintro e w' ⟨rfl,rfl⟩
      go_wp2_with fail
      refine sj.out.mono ?_
      rintro e w' ⟨rfl,rfl⟩
      go_wp2_with fail
      refine sg.out.mono ?_
      rintro e w' ⟨rfl,rfl⟩
      go_wp2_with fail
      refine(se.out _).mono ?_
      rintro e w' ⟨rfl,rfl⟩
      go_wp2_with fail
      refine sf.out.mono ?_
      rintro e w5 ⟨rfl,ic,jP⟩
      have T1:ao (bH L g false 8 (aO g false ad po) k) 14 2 (turn (num (bH L g false 8 (aO g false ad po) k) 14 2) (num g i 2) (num (bH L g false 8 (aO g false ad po) k) i 2))=(bh 14 L g (bH L g false 8 (aO g false ad po) k) i):=by unfold bh;rw[dY (by omega),dY (by omega)]
      rw[T1]at ic
      have O5:=hid ic
      have R5:=hid (HR.out.trans jP)
      have pO:=hid (ga (s:=14) (L:=L) (g:=g) HB.out i)
      clear ic jP T1
      have B6:=hid (B2.out.trans (af R5.out cz B2.out.size))
      have JQ:=hid (aX (some ⟨G,0,none⟩) L c2 _ w5 O5.out.sl1 pO.out 22 2 (by omega) (by omega) hb)
      have JU:=hid (aX (some ⟨b,off,none⟩) L c g w5 (cx.out _ B6.out) HG.out i 2 (by omega) (by omega) hb)
      have JO:=hid (aX (some ⟨G,0,none⟩) L c2 _ w5 O5.out.sl1 pO.out i 2 (by omega) (by omega) hb)
      have b1:=bE pO.out 22
      have b2:=bE HG.out i
      have b3:=bE pO.out i
      have JD:=hid (fun w=>dU (num (bh 14 L g (bH L g false 8 (aO g false ad po) k) i) 22 2) (num g i 2) (num (bh 14 L g (bH L g false 8 (aO g false ad po) k) i) i 2) w b1.1 b1.2 b2.1 b2.2 b3.1 b3.2)
      have JK:=hid (aM O5.out 22 2 (turn (num (bh 14 L g (bH L g false 8 (aO g false ad po) k) i) 22 2) (num g i 2) (num (bh 14 L g (bH L g false 8 (aO g false ad po) k) i) i 2)) (by omega) (by omega) hb)
      clear b1 b2 b3
      go_wp2_with fail
      refine JQ.out.mono ?_
      rintro e w' ⟨rfl,rfl⟩
      go_wp2_with fail
      refine JU.out.mono ?_
      rintro e w' ⟨rfl,rfl⟩
      go_wp2_with fail
      refine JO.out.mono ?_
      rintro e w' ⟨rfl,rfl⟩
      go_wp2_with fail
      refine(JD.out _).mono ?_
      rintro e w' ⟨rfl,rfl⟩
      go_wp2_with fail
      refine JK.out.mono ?_
      rintro e w6 ⟨rfl,rk,vm⟩
      have T2:ao (bh 14 L g (bH L g false 8 (aO g false ad po) k) i) 22 2 (turn (num (bh 14 L g (bH L g false 8 (aO g false ad po) k) i) 22 2) (num g i 2) (num (bh 14 L g (bH L g false 8 (aO g false ad po) k) i) i 2))=(bh 22 L g (bh 14 L g (bH L g false 8 (aO g false ad po) k) i) i):=by rw[show (bh 22 L g (bh 14 L g (bH L g false 8 (aO g false ad po) k) i) i)=ao (bh 14 L g (bH L g false 8 (aO g false ad po) k) i) 22 2 (turn (num (bh 14 L g (bH L g false 8 (aO g false ad po) k) i) 22 2) (aL g L i) (aL (bh 14 L g (bH L g false 8 (aO g false ad po) k) i) L i)) from rfl,dY (by omega),dY (by omega)]
      exact qZI
     have i1:¬(i:Int)<12:=by omega
     have kk:k=2:=by omega
     subst kk
     clear dG hlt HI
     have JP:=hid (aX (some ⟨G,0,none⟩) L c2 _ wr HO.out.sl1 HB.out 22 2 (by omega) (by omega) hb)
     have JS:=hid (aX (some ⟨b,off,none⟩) L c g wr (cx.out _ B5.out) HG.out 18 2 (by omega) (by omega) hb)
     have JN:=hid (aX (some ⟨G,0,none⟩) L c2 _ wr HO.out.sl1 HB.out 18 2 (by omega) (by omega) hb)
     have b1:=bE HB.out 22
     have b2:=bE HG.out 18
     have b3:=bE HB.out 18
     have JC:=hid (fun w=>dU (num (bH L g false 8 (aO g false ad po) 2) 22 2) (num g 18 2) (num (bH L g false 8 (aO g false ad po) 2) 18 2) w b1.1 b1.2 b2.1 b2.2 b3.1 b3.2)
     have JJ:=hid (aM HO.out 22 2 (turn (num (bH L g false 8 (aO g false ad po) 2) 22 2) (num g 18 2) (num (bH L g false 8 (aO g false ad po) 2) 18 2)) (by omega) (by omega) hb)
     clear b1 b2 b3
     go_wp2_with fail
     refine JP.out.mono ?_
     rintro e w' ⟨rfl,rfl⟩
     go_wp2_with fail
     refine JS.out.mono ?_
     rintro e w' ⟨rfl,rfl⟩
     go_wp2_with fail
     refine JN.out.mono ?_
     rintro e w' ⟨rfl,rfl⟩
     go_wp2_with fail
     refine(JC.out _).mono ?_
     rintro e w' ⟨rfl,rfl⟩
     go_wp2_with fail
     refine JJ.out.mono ?_
     rintro e w6 ⟨rfl,rj,vl⟩
     have T3:ao (bH L g false 8 (aO g false ad po) 2) 22 2 (turn (num (bH L g false 8 (aO g false ad po) 2) 22 2) (num g 18 2) (num (bH L g false 8 (aO g false ad po) 2) 18 2))=(bh 22 L g (bH L g false 8 (aO g false ad po) 2) 18):=by rw[show (bh 22 L g (bH L g false 8 (aO g false ad po) 2) 18)=ao (bH L g false 8 (aO g false ad po) 2) 22 2 (turn (num (bH L g false 8 (aO g false ad po) 2) 22 2) (aL g L 18) (aL (bH L g false 8 (aO g false ad po) 2) L 18)) from rfl,dY (by omega),dY (by omega)]
     rw[T3]at rj
     have O6:=hid rj
     have B6:=hid (B5.out.trans (af vl cz B5.out.size))
     have J6:=hid (ga (s:=22) (L:=L) (g:=g) HB.out 18)
     exact qXA
    skip
    have NP:aO g true ad po=ao (ao g 4 4 ad) 16 2 po:=rfl
    go_enter Tryz.func39,Tryz.ntmps39
    go_wp2_with fail
    refine HP.out.mono ?_
    rintro x w1 ⟨O,D,rfl,hO,hD,hb1⟩
    obtain ⟨AO,cO,rfl,_,_,_⟩:=hO.aF
    obtain ⟨AD,cD,rfl,_,_,_⟩:=hD.aF
    have B1:=hid (hb1.alloc hb1.size (.cells #[p.kind,p.life,p.piece,p.src,p.dst,p.fp,p.tp,p.flags,p.label,p.bare,p.code,.slice AO p.no cO,.slice AD p.nd cD] 53))
    clear hb1 HP hO hD
    unfold ct de
    go_simp
    have CE:=hid (Ce.made (w:=w1) (l:=[p.kind,p.life,p.piece,p.src,p.dst,p.fp,p.tp,p.flags,p.label,p.bare,p.code,.slice AO p.no cO,.slice AD p.nd cD]) (T:=53) rfl)
    simp only[List.toArray]at CE
    have k0:=CE.out.2.1 0 _ rfl
    go_wp2_with fail
    refine(RA.out _).mono ?_
    rintro e w' ⟨rfl,rfl⟩
    go_wp2_with fail
    refine(RP.out _).mono ?_
    rintro e w' ⟨rfl,rfl⟩
    clear k0
    go_upto_region 8 with (fail)
    generalize (w1.alloc (.cells #[p.kind,p.life,p.piece,p.src,p.dst,p.fp,p.tp,p.flags,p.label,p.bare,p.code,.slice AO p.no cO,.slice AD p.nd cD] 53))=wA at *
    have lA:w.heap.size≤wA.heap.size:=B1.out.size
    have lP:w1.heap.size<wA.heap.size:=CE.out.1
    go_upto_region 9 with (at_builtin;refine eK rfl (.tmp 37) (.tmp 38) rfl wA.heap.size _ rfl (fun f=>Ow.new' (w:=wA) rfl) _ L _ g rfl (Sl.alloc (cx.out _ B1.out) _) (by omega) (by simp) ?_;intro A2 c2 w2 h1 h2 h3 h4 h5 h6;have ec:=hid h1;have hc2:=h2;have BA:=hid (Below.trans ((Below.refl wA.heap.size wA).alloc (Nat.le_refl _) (.cells #[] 5)) h4);clear h1 h2 h3 h4 h5 h6)
    have aE:=hid (CE.out.below BA.out)
    have B2:=hid (B1.out.trans (BA.out.mono lA))
    obtain ⟨G,e,hB,hgs,hce,hfr⟩:=Ow.block_ ec.out (by omega)
    subst e
    have O2:=hid (OB.base ec.out lA)
    have cz:w.heap.size≤G:=by omega
    have hne:b≠G:=by omega
    have m_:w1.heap.size≠G:=by omega
    clear hce hfr hgs ec CE aE BA RA RP
    go_wp2_with fail
    refine(aM O2.out 4 4 ad (by omega) (by omega) hb).mono ?_
    rintro e w3 ⟨rfl,hO,hg3⟩
    have O3:=hid hO
    have G3:=hid hg3
    clear hO hg3 O2
    go_wp2_with fail
    refine(aM O3.out 16 2 po (by omega) (by omega) hb).mono ?_
    rintro e w4 ⟨rfl,hO,hg3⟩
    rw[←NP]at hO
    have O4:=hid hO
    have G4:=hid (G3.out.trans hg3)
    have B4:=hid (B2.out.trans (af G4.out cz B2.out.size))
    clear hO hg3 O3 G3 NP
    have XB:=hid (rP HG.out true ad po)
    have BR:=hid (iS (fO (some ⟨b,off,none⟩) L c g w4 (cx.out _ B4.out) HG.out (by omega) (.inr n24) hb) BF.out)
    go_wp2_with fail
    refine BR.out.mono ?_
    rintro e w' ⟨rfl,rfl⟩
    clear BR B4
    go_wp2_with fail
    go_loopw [16] (fun i wr=>∃k:Nat,k≤2∧i =.int .i64 ((4+2*k:Nat):Int)∧OB wr w.heap.size (.slice (some ⟨G,0,none⟩) L c2) L (bH L g false 4 (aO g true ad po) k)∧w2.grownBy wr (some G)) (fun i _=>20-(intOf i).toNat)
    case atStart=>exact⟨0,by omega,rfl,O4.out,G4.out⟩
    obtain ⟨k,hk,rfl,ho,hgr⟩:=hrel
    obtain ⟨i,hi⟩:∃i,i=4+2*k:=⟨_,rfl⟩
    rw[←hi]
    have HI:=hid hi
    have HO:=hid ho
    have HR:=hid hgr
    have dG:k<2↔i<8:=by omega
    clear hi ho hgr O4 G4
    have B5:=hid (B2.out.trans (af HR.out cz B2.out.size))
    have HB:=hid (nJ (L:=L) (g:=g) XB.out false 4 k)
    by_cases hlt:i<8
    ·have i1:(i:Int)<8:=by omega
     have i2:i+1<L:=by omega
     have i3:IntKind.i64.wrap ((i:Int)+2)=(i:Int)+2:=IntWalk.i64_in _ (by omega)
     have kl:=dG.2 hlt
     clear dG hlt
     have sh:=hid (aX (some ⟨G,0,none⟩) L c2 _ wr HO.out.sl1 HB.out 14 2 (by omega) (by omega) hb)
     have sj:=hid (aX (some ⟨b,off,none⟩) L c g wr (cx.out _ B5.out) HG.out i 2 (by omega) (by omega) hb)
     have sg:=hid (aX (some ⟨G,0,none⟩) L c2 _ wr HO.out.sl1 HB.out i 2 (by omega) (by omega) hb)
     have b1:=bE HB.out 14
     have b2:=bE HG.out i
     have b3:=bE HB.out i
     have se:=hid (fun w=>dU (num (bH L g false 4 (aO g true ad po) k) 14 2) (num g i 2) (num (bH L g false 4 (aO g true ad po) k) i 2) w b1.1 b1.2 b2.1 b2.2 b3.1 b3.2)
     have sf:=hid (aM HO.out 14 2 (turn (num (bH L g false 4 (aO g true ad po) k) 14 2) (num g i 2) (num (bH L g false 4 (aO g true ad po) k) i 2)) (by omega) (by omega) hb)
     clear b1 b2 b3
     go_wp2_with fail
     refine sh.out.mono ?_
     rintro e w' ⟨rfl,rfl⟩
     go_wp2_with fail
     refine sj.out.mono ?_
     rintro e w' ⟨rfl,rfl⟩
     go_wp2_with fail
     refine sg.out.mono ?_
     rintro e w' ⟨rfl,rfl⟩
     go_wp2_with fail
     refine(se.out _).mono ?_
     rintro e w' ⟨rfl,rfl⟩
     go_wp2_with fail
     refine sf.out.mono ?_
     rintro e w5 ⟨rfl,ic,jP⟩
     have T1:ao (bH L g false 4 (aO g true ad po) k) 14 2 (turn (num (bH L g false 4 (aO g true ad po) k) 14 2) (num g i 2) (num (bH L g false 4 (aO g true ad po) k) i 2))=(bh 14 L g (bH L g false 4 (aO g true ad po) k) i):=by unfold bh;rw[dY (by omega),dY (by omega)]
     rw[T1]at ic
     have O5:=hid ic
     have R5:=hid (HR.out.trans jP)
     have pO:=hid (ga (s:=14) (L:=L) (g:=g) HB.out i)
     clear ic jP T1
     have B6:=hid (B2.out.trans (af R5.out cz B2.out.size))
     have JQ:=hid (aX (some ⟨G,0,none⟩) L c2 _ w5 O5.out.sl1 pO.out 22 2 (by omega) (by omega) hb)
     have JU:=hid (aX (some ⟨b,off,none⟩) L c g w5 (cx.out _ B6.out) HG.out i 2 (by omega) (by omega) hb)
     have JO:=hid (aX (some ⟨G,0,none⟩) L c2 _ w5 O5.out.sl1 pO.out i 2 (by omega) (by omega) hb)
     have b1:=bE pO.out 22
     have b2:=bE HG.out i
     have b3:=bE pO.out i
     have JD:=hid (fun w=>dU (num (bh 14 L g (bH L g false 4 (aO g true ad po) k) i) 22 2) (num g i 2) (num (bh 14 L g (bH L g false 4 (aO g true ad po) k) i) i 2) w b1.1 b1.2 b2.1 b2.2 b3.1 b3.2)
     have JK:=hid (aM O5.out 22 2 (turn (num (bh 14 L g (bH L g false 4 (aO g true ad po) k) i) 22 2) (num g i 2) (num (bh 14 L g (bH L g false 4 (aO g true ad po) k) i) i 2)) (by omega) (by omega) hb)
     clear b1 b2 b3
     go_wp2_with fail
     refine JQ.out.mono ?_
     rintro e w' ⟨rfl,rfl⟩
     go_wp2_with fail
     refine JU.out.mono ?_
     rintro e w' ⟨rfl,rfl⟩
     go_wp2_with fail
     refine JO.out.mono ?_
     rintro e w' ⟨rfl,rfl⟩
     go_wp2_with fail
     refine(JD.out _).mono ?_
     rintro e w' ⟨rfl,rfl⟩
     go_wp2_with fail
     refine JK.out.mono ?_
     rintro e w6 ⟨rfl,rk,vm⟩
     have T2:ao (bh 14 L g (bH L g false 4 (aO g true ad po) k) i) 22 2 (turn (num (bh 14 L g (bH L g false 4 (aO g true ad po) k) i) 22 2) (num g i 2) (num (bh 14 L g (bH L g false 4 (aO g true ad po) k) i) i 2))=(bh 22 L g (bh 14 L g (bH L g false 4 (aO g true ad po) k) i) i):=by rw[show (bh 22 L g (bh 14 L g (bH L g false 4 (aO g true ad po) k) i) i)=ao (bh 14 L g (bH L g false 4 (aO g true ad po) k) i) 22 2 (turn (num (bh 14 L g (bH L g false 4 (aO g true ad po) k) i) 22 2) (aL g L i) (aL (bh 14 L g (bH L g false 4 (aO g true ad po) k) i) L i)) from rfl,dY (by omega),dY (by omega)]
     exact qZI
    have i1:¬(i:Int)<8:=by omega
    have kk:k=2:=by omega
    subst kk
    clear dG hlt HI
    have JP:=hid (aX (some ⟨G,0,none⟩) L c2 _ wr HO.out.sl1 HB.out 22 2 (by omega) (by omega) hb)
    have JS:=hid (aX (some ⟨b,off,none⟩) L c g wr (cx.out _ B5.out) HG.out 16 2 (by omega) (by omega) hb)
    have JN:=hid (aX (some ⟨G,0,none⟩) L c2 _ wr HO.out.sl1 HB.out 16 2 (by omega) (by omega) hb)
    have b1:=bE HB.out 22
    have b2:=bE HG.out 16
    have b3:=bE HB.out 16
    have JC:=hid (fun w=>dU (num (bH L g false 4 (aO g true ad po) 2) 22 2) (num g 16 2) (num (bH L g false 4 (aO g true ad po) 2) 16 2) w b1.1 b1.2 b2.1 b2.2 b3.1 b3.2)
    have JJ:=hid (aM HO.out 22 2 (turn (num (bH L g false 4 (aO g true ad po) 2) 22 2) (num g 16 2) (num (bH L g false 4 (aO g true ad po) 2) 16 2)) (by omega) (by omega) hb)
    clear b1 b2 b3
    go_wp2_with fail
    refine JP.out.mono ?_
    rintro e w' ⟨rfl,rfl⟩
    go_wp2_with fail
    refine JS.out.mono ?_
    rintro e w' ⟨rfl,rfl⟩
    go_wp2_with fail
    refine JN.out.mono ?_
    rintro e w' ⟨rfl,rfl⟩
    go_wp2_with fail
    refine(JC.out _).mono ?_
    rintro e w' ⟨rfl,rfl⟩
    go_wp2_with fail
    refine JJ.out.mono ?_
    rintro e w6 ⟨rfl,rj,vl⟩
    have T3:ao (bH L g false 4 (aO g true ad po) 2) 22 2 (turn (num (bH L g false 4 (aO g true ad po) 2) 22 2) (num g 16 2) (num (bH L g false 4 (aO g true ad po) 2) 16 2))=(bh 22 L g (bH L g false 4 (aO g true ad po) 2) 16):=by rw[show (bh 22 L g (bH L g false 4 (aO g true ad po) 2) 16)=ao (bH L g false 4 (aO g true ad po) 2) 22 2 (turn (num (bH L g false 4 (aO g true ad po) 2) 22 2) (aL g L 16) (aL (bH L g false 4 (aO g true ad po) 2) L 16)) from rfl,dY (by omega),dY (by omega)]
    rw[T3]at rj
    have O6:=hid rj
    have B6:=hid (B5.out.trans (af vl cz B5.out.size))
    have J6:=hid (ga (s:=22) (L:=L) (g:=g) HB.out 16)
    exact qXA
   have BF:=hid hbf
   clear hbf
   cases s
   ·skip
    have NP:aO g false ad po=ao (ao g 8 4 ad) 18 2 po:=rfl
    go_enter Tryz.func39,Tryz.ntmps39
    go_wp2_with fail
    refine HP.out.mono ?_
    rintro x w1 ⟨O,D,rfl,hO,hD,hb1⟩
    obtain ⟨AO,cO,rfl,_,_,_⟩:=hO.aF
    obtain ⟨AD,cD,rfl,_,_,_⟩:=hD.aF
    have B1:=hid (hb1.alloc hb1.size (.cells #[p.kind,p.life,p.piece,p.src,p.dst,p.fp,p.tp,p.flags,p.label,p.bare,p.code,.slice AO p.no cO,.slice AD p.nd cD] 53))
    clear hb1 HP hO hD
    unfold ct de
    go_simp
    have CE:=hid (Ce.made (w:=w1) (l:=[p.kind,p.life,p.piece,p.src,p.dst,p.fp,p.tp,p.flags,p.label,p.bare,p.code,.slice AO p.no cO,.slice AD p.nd cD]) (T:=53) rfl)
    simp only[List.toArray]at CE
    have k0:=CE.out.2.1 0 _ rfl
    go_wp2_with fail
    refine(RA.out _).mono ?_
    rintro e w' ⟨rfl,rfl⟩
    go_wp2_with fail
    refine(RP.out _).mono ?_
    rintro e w' ⟨rfl,rfl⟩
    clear k0
    go_upto_region 8 with (fail)
    generalize (w1.alloc (.cells #[p.kind,p.life,p.piece,p.src,p.dst,p.fp,p.tp,p.flags,p.label,p.bare,p.code,.slice AO p.no cO,.slice AD p.nd cD] 53))=wA at *
    have lA:w.heap.size≤wA.heap.size:=B1.out.size
    have lP:w1.heap.size<wA.heap.size:=CE.out.1
    go_upto_region 9 with (at_builtin;refine eK rfl (.tmp 37) (.tmp 38) rfl wA.heap.size _ rfl (fun f=>Ow.new' (w:=wA) rfl) _ L _ g rfl (Sl.alloc (cx.out _ B1.out) _) (by omega) (by simp) ?_;intro A2 c2 w2 h1 h2 h3 h4 h5 h6;have ec:=hid h1;have hc2:=h2;have BA:=hid (Below.trans ((Below.refl wA.heap.size wA).alloc (Nat.le_refl _) (.cells #[] 5)) h4);clear h1 h2 h3 h4 h5 h6)
    have aE:=hid (CE.out.below BA.out)
    have B2:=hid (B1.out.trans (BA.out.mono lA))
    obtain ⟨G,e,hB,hgs,hce,hfr⟩:=Ow.block_ ec.out (by omega)
    subst e
    have O2:=hid (OB.base ec.out lA)
    have cz:w.heap.size≤G:=by omega
    have hne:b≠G:=by omega
    have m_:w1.heap.size≠G:=by omega
    clear hce hfr hgs ec CE aE BA RA RP
    go_wp2_with fail
    refine(aM O2.out 8 4 ad (by omega) (by omega) hb).mono ?_
    rintro e w3 ⟨rfl,hO,hg3⟩
    have O3:=hid hO
    have G3:=hid hg3
    clear hO hg3 O2
    go_wp2_with fail
    refine(aM O3.out 18 2 po (by omega) (by omega) hb).mono ?_
    rintro e w4 ⟨rfl,hO,hg3⟩
    rw[←NP]at hO
    have O4:=hid hO
    have G4:=hid (G3.out.trans hg3)
    have B4:=hid (B2.out.trans (af G4.out cz B2.out.size))
    clear hO hg3 O3 G3 NP
    have XB:=hid (rP HG.out false ad po)
    have BR:=hid (iS (fO (some ⟨b,off,none⟩) L c g w4 (cx.out _ B4.out) HG.out (by omega) (.inr n24) hb) BF.out)
    go_wp2_with fail
    refine BR.out.mono ?_
    rintro e w' ⟨rfl,rfl⟩
    clear BR B4
    go_wp2_with fail
    go_loopw [16] (fun i wr=>∃k:Nat,k≤2∧i =.int .i64 ((8+2*k:Nat):Int)∧OB wr w.heap.size (.slice (some ⟨G,0,none⟩) L c2) L (bH L g true 8 (aO g false ad po) k)∧w2.grownBy wr (some G)) (fun i _=>20-(intOf i).toNat)
    case atStart=>exact⟨0,by omega,rfl,O4.out,G4.out⟩
    obtain ⟨k,hk,rfl,ho,hgr⟩:=hrel
    obtain ⟨i,hi⟩:∃i,i=8+2*k:=⟨_,rfl⟩
    rw[←hi]
    have HI:=hid hi
    have HO:=hid ho
    have HR:=hid hgr
    have dG:k<2↔i<12:=by omega
    clear hi ho hgr O4 G4
    have B5:=hid (B2.out.trans (af HR.out cz B2.out.size))
    have HB:=hid (nJ (L:=L) (g:=g) XB.out true 8 k)
    by_cases hlt:i<12
    ·have i1:(i:Int)<12:=by omega
     have i2:i+1<L:=by omega
     have i3:IntKind.i64.wrap ((i:Int)+2)=(i:Int)+2:=IntWalk.i64_in _ (by omega)
     have kl:=dG.2 hlt
     clear dG hlt
     have sh:=hid (aX (some ⟨G,0,none⟩) L c2 _ wr HO.out.sl1 HB.out 14 2 (by omega) (by omega) hb)
     have sj:=hid (aX (some ⟨b,off,none⟩) L c g wr (cx.out _ B5.out) HG.out i 2 (by omega) (by omega) hb)
     have sg:=hid (aX (some ⟨G,0,none⟩) L c2 _ wr HO.out.sl1 HB.out i 2 (by omega) (by omega) hb)
     have b1:=bE HB.out 14
     have b2:=bE HG.out i
     have b3:=bE HB.out i
     have se:=hid (fun w=>dU (num (bH L g true 8 (aO g false ad po) k) 14 2) (num g i 2) (num (bH L g true 8 (aO g false ad po) k) i 2) w b1.1 b1.2 b2.1 b2.2 b3.1 b3.2)
     have sf:=hid (aM HO.out 14 2 (turn (num (bH L g true 8 (aO g false ad po) k) 14 2) (num g i 2) (num (bH L g true 8 (aO g false ad po) k) i 2)) (by omega) (by omega) hb)
     clear b1 b2 b3
     go_wp2_with fail
     refine sh.out.mono ?_
     rintro e w' ⟨rfl,rfl⟩
     go_wp2_with fail
     refine sj.out.mono ?_
     rintro e w' ⟨rfl,rfl⟩
     go_wp2_with fail
     refine sg.out.mono ?_
     rintro e w' ⟨rfl,rfl⟩
     go_wp2_with fail
     refine(se.out _).mono ?_
     rintro e w' ⟨rfl,rfl⟩
     go_wp2_with fail
     refine sf.out.mono ?_
     rintro e w5 ⟨rfl,ic,jP⟩
     have T1:ao (bH L g true 8 (aO g false ad po) k) 14 2 (turn (num (bH L g true 8 (aO g false ad po) k) 14 2) (num g i 2) (num (bH L g true 8 (aO g false ad po) k) i 2))=(bh 14 L g (bH L g true 8 (aO g false ad po) k) i):=by unfold bh;rw[dY (by omega),dY (by omega)]
     exact qJC
    have i1:¬(i:Int)<12:=by omega
    exact qX0
   skip
   have NP:aO g true ad po=ao (ao g 4 4 ad) 16 2 po:=rfl
   go_enter Tryz.func39,Tryz.ntmps39
   go_wp2_with fail
   refine HP.out.mono ?_
   rintro x w1 ⟨O,D,rfl,hO,hD,hb1⟩
   obtain ⟨AO,cO,rfl,_,_,_⟩:=hO.aF
   obtain ⟨AD,cD,rfl,_,_,_⟩:=hD.aF
   have B1:=hid (hb1.alloc hb1.size (.cells #[p.kind,p.life,p.piece,p.src,p.dst,p.fp,p.tp,p.flags,p.label,p.bare,p.code,.slice AO p.no cO,.slice AD p.nd cD] 53))
   clear hb1 HP hO hD
   unfold ct de
   go_simp
   have CE:=hid (Ce.made (w:=w1) (l:=[p.kind,p.life,p.piece,p.src,p.dst,p.fp,p.tp,p.flags,p.label,p.bare,p.code,.slice AO p.no cO,.slice AD p.nd cD]) (T:=53) rfl)
   simp only[List.toArray]at CE
   have k0:=CE.out.2.1 0 _ rfl
   go_wp2_with fail
   refine(RA.out _).mono ?_
   rintro e w' ⟨rfl,rfl⟩
   go_wp2_with fail
   refine(RP.out _).mono ?_
   rintro e w' ⟨rfl,rfl⟩
   clear k0
   go_upto_region 8 with (fail)
   generalize (w1.alloc (.cells #[p.kind,p.life,p.piece,p.src,p.dst,p.fp,p.tp,p.flags,p.label,p.bare,p.code,.slice AO p.no cO,.slice AD p.nd cD] 53))=wA at *
   have lA:w.heap.size≤wA.heap.size:=B1.out.size
   have lP:w1.heap.size<wA.heap.size:=CE.out.1
   go_upto_region 9 with (at_builtin;refine eK rfl (.tmp 37) (.tmp 38) rfl wA.heap.size _ rfl (fun f=>Ow.new' (w:=wA) rfl) _ L _ g rfl (Sl.alloc (cx.out _ B1.out) _) (by omega) (by simp) ?_;intro A2 c2 w2 h1 h2 h3 h4 h5 h6;have ec:=hid h1;have hc2:=h2;have BA:=hid (Below.trans ((Below.refl wA.heap.size wA).alloc (Nat.le_refl _) (.cells #[] 5)) h4);clear h1 h2 h3 h4 h5 h6)
   have aE:=hid (CE.out.below BA.out)
   have B2:=hid (B1.out.trans (BA.out.mono lA))
   obtain ⟨G,e,hB,hgs,hce,hfr⟩:=Ow.block_ ec.out (by omega)
   subst e
   have O2:=hid (OB.base ec.out lA)
   have cz:w.heap.size≤G:=by omega
   have hne:b≠G:=by omega
   have m_:w1.heap.size≠G:=by omega
   clear hce hfr hgs ec CE aE BA RA RP
   go_wp2_with fail
   refine(aM O2.out 4 4 ad (by omega) (by omega) hb).mono ?_
   rintro e w3 ⟨rfl,hO,hg3⟩
   have O3:=hid hO
   have G3:=hid hg3
   clear hO hg3 O2
   go_wp2_with fail
   refine(aM O3.out 16 2 po (by omega) (by omega) hb).mono ?_
   rintro e w4 ⟨rfl,hO,hg3⟩
   rw[←NP]at hO
   have O4:=hid hO
   have G4:=hid (G3.out.trans hg3)
   have B4:=hid (B2.out.trans (af G4.out cz B2.out.size))
   clear hO hg3 O3 G3 NP
   have XB:=hid (rP HG.out true ad po)
   have BR:=hid (iS (fO (some ⟨b,off,none⟩) L c g w4 (cx.out _ B4.out) HG.out (by omega) (.inr n24) hb) BF.out)
   go_wp2_with fail
   refine BR.out.mono ?_
   rintro e w' ⟨rfl,rfl⟩
   clear BR B4
   go_wp2_with fail
   go_loopw [16] (fun i wr=>∃k:Nat,k≤2∧i =.int .i64 ((4+2*k:Nat):Int)∧OB wr w.heap.size (.slice (some ⟨G,0,none⟩) L c2) L (bH L g true 4 (aO g true ad po) k)∧w2.grownBy wr (some G)) (fun i _=>20-(intOf i).toNat)
   case atStart=>exact⟨0,by omega,rfl,O4.out,G4.out⟩
   obtain ⟨k,hk,rfl,ho,hgr⟩:=hrel
   obtain ⟨i,hi⟩:∃i,i=4+2*k:=⟨_,rfl⟩
   rw[←hi]
   have HI:=hid hi
   have HO:=hid ho
   have HR:=hid hgr
   have dG:k<2↔i<8:=by omega
   clear hi ho hgr O4 G4
   have B5:=hid (B2.out.trans (af HR.out cz B2.out.size))
   have HB:=hid (nJ (L:=L) (g:=g) XB.out true 4 k)
   by_cases hlt:i<8
   ·have i1:(i:Int)<8:=by omega
    have i2:i+1<L:=by omega
    have i3:IntKind.i64.wrap ((i:Int)+2)=(i:Int)+2:=IntWalk.i64_in _ (by omega)
    have kl:=dG.2 hlt
    clear dG hlt
    have sh:=hid (aX (some ⟨G,0,none⟩) L c2 _ wr HO.out.sl1 HB.out 14 2 (by omega) (by omega) hb)
    have sj:=hid (aX (some ⟨b,off,none⟩) L c g wr (cx.out _ B5.out) HG.out i 2 (by omega) (by omega) hb)
    have sg:=hid (aX (some ⟨G,0,none⟩) L c2 _ wr HO.out.sl1 HB.out i 2 (by omega) (by omega) hb)
    have b1:=bE HB.out 14
    have b2:=bE HG.out i
    have b3:=bE HB.out i
    have se:=hid (fun w=>dU (num (bH L g true 4 (aO g true ad po) k) 14 2) (num g i 2) (num (bH L g true 4 (aO g true ad po) k) i 2) w b1.1 b1.2 b2.1 b2.2 b3.1 b3.2)
    have sf:=hid (aM HO.out 14 2 (turn (num (bH L g true 4 (aO g true ad po) k) 14 2) (num g i 2) (num (bH L g true 4 (aO g true ad po) k) i 2)) (by omega) (by omega) hb)
    clear b1 b2 b3
    go_wp2_with fail
    refine sh.out.mono ?_
    rintro e w' ⟨rfl,rfl⟩
    go_wp2_with fail
    refine sj.out.mono ?_
    rintro e w' ⟨rfl,rfl⟩
    go_wp2_with fail
    refine sg.out.mono ?_
    rintro e w' ⟨rfl,rfl⟩
    go_wp2_with fail
    refine(se.out _).mono ?_
    rintro e w' ⟨rfl,rfl⟩
    go_wp2_with fail
    refine sf.out.mono ?_
    rintro e w5 ⟨rfl,ic,jP⟩
    have T1:ao (bH L g true 4 (aO g true ad po) k) 14 2 (turn (num (bH L g true 4 (aO g true ad po) k) 14 2) (num g i 2) (num (bH L g true 4 (aO g true ad po) k) i 2))=(bh 14 L g (bH L g true 4 (aO g true ad po) k) i):=by unfold bh;rw[dY (by omega),dY (by omega)]
    exact qJC
   have i1:¬(i:Int)<8:=by omega
   exact qX0
  have gH:g 0=3:=by rw[←PK.out];simpa using k3
  rw[if_pos gH]at HE
  clear gH
  go_enter Tryz.func39,Tryz.ntmps39
  go_wp2_with fail
  refine HP.out.mono ?_
  rintro x w1 ⟨O,D,rfl,hO,hD,hb1⟩
  obtain ⟨AO,cO,rfl,_,_,_⟩:=hO.aF
  obtain ⟨AD,cD,rfl,_,_,_⟩:=hD.aF
  have B1:=hid (hb1.alloc hb1.size (.cells #[p.kind,p.life,p.piece,p.src,p.dst,p.fp,p.tp,p.flags,p.label,p.bare,p.code,.slice AO p.no cO,.slice AD p.nd cD] 53))
  clear hb1 HP hO hD
  unfold ct de
  go_simp
  have CE:=hid (Ce.made (w:=w1) (l:=[p.kind,p.life,p.piece,p.src,p.dst,p.fp,p.tp,p.flags,p.label,p.bare,p.code,.slice AO p.no cO,.slice AD p.nd cD]) (T:=53) rfl)
  simp only[List.toArray]at CE
  have k0:=CE.out.2.1 0 _ rfl
  go_wp2_with fail
  refine bodyPost_ret (v:=.tuple #[.slice none 0 0,.int .i64 2]) (by simp[results,Tryz.results39,go_sem]) rfl ?_
  rw[HE.out]
  exact aV (by decide) B1.out
 have HE:Hid (iZ g L ad po=z):=hid (by unfold iZ;rw[←hz,if_pos (by simpa using hz0)])
 have HZ0:Hid (z≠0):=hid (by simpa using hz0)
 generalize ax g L=p at HP
 clear hz
 go_enter Tryz.func39,Tryz.ntmps39
 go_wp2_with fail
 refine HP.out.mono ?_
 rintro x w1 ⟨O,D,rfl,hO,hD,hb1⟩
 obtain ⟨AO,cO,rfl,_,_,_⟩:=hO.aF
 obtain ⟨AD,cD,rfl,_,_,_⟩:=hD.aF
 have B1:=hid (hb1.alloc hb1.size (.cells #[p.kind,p.life,p.piece,p.src,p.dst,p.fp,p.tp,p.flags,p.label,p.bare,p.code,.slice AO p.no cO,.slice AD p.nd cD] 53))
 clear hb1 HP hO hD
 unfold ct de
 go_simp
 go_wp2_with fail
 refine bodyPost_ret (v:=.tuple #[.slice none 0 0,z]) (by simp[results,Tryz.results39,go_sem]) rfl ?_
 rw[HE.out]
 exact aV HZ0.out B1.out
end Go.Proofs.YtalnfkijiehjhaaGreat
