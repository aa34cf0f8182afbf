/- The reference's Nat. -/
import Derived.Test.YtalnfkijiehjhaaGreatGa
import Derived.Test.YtalnfkijiehjhaaGreatWirRef1
import Derived.Test.YtalnfkijiehjhaaGreatGwc
import Derived.BigQuiet
import Derived.Deep.RegionHeld3
import Derived.Deep.Cut
namespace Go.Proofs.YtalnfkijiehjhaaGreat
set_option linter.unusedVariables false
set_option linter.unusedSimpArgs false
open Go.RowKit Go.ChangeShapes Go.WideShapes Go.ChangeAt
theorem yV {x:Nat→Int}{s t m n:Nat}{u v:Int}(h:s+m≤t∨t+n≤s):ah (ah x s m u) t n v=ah (ah x t n v) s m u:=by
 funext j
 unfold ah
 by_cases h1:s≤j∧j<s+m <;> by_cases h2:t≤j∧j<t+n
 ·exfalso;omega
 ·simp only[h1,h2,if_true,if_false,and_self]
 ·simp only[h1,h2,if_true,if_false,and_self]
 simp only[h1,h2,if_true,if_false,and_self]
theorem wS {s t L i k:Nat}{g x:Nat→Int}(hst:s+2≤t∨t+2≤s)(hi:i+1<t∨t+2≤i)(hk:k+1<s∨s+2≤k)(Nm:i<L)(Nj:k<L):bj s L g (bj t L g x k) i=bj t L g (bj s L g x i) k:=by
 have e1:∀u,num (ah x t 2 u) s 2=num x s 2:=fun u=>fw (by omega)
 have e2:∀u,num (ah x s 2 u) t 2=num x t 2:=fun u=>fw (by omega)
 have e3:∀u,aN (ah x t 2 u) L i=aN x L i:=fun u=>gG (aH (by omega)) (fun _=>aH (by omega)) Nm
 have e4:∀u,aN (ah x s 2 u) L k=aN x L k:=fun u=>gG (aH (by omega)) (fun _=>aH (by omega)) Nj
 unfold bj
 rw[e1,e2,e3,e4]
 exact yV (by omega)
def bO (L:Nat)(g:Nat→Int)(was:Bool)(a:Nat)(x:Nat→Int):Nat→Nat→Int
 |0=>x
 |k+1=>if was=true then bj 14 L g (bO L g was a x k) (a+2*k) else bj 22 L g (bj 14 L g (bO L g was a x k) (a+2*k)) (a+2*k)
theorem o_ {L:Nat}{g x:Nat→Int}(hx:az x)(was:Bool)(a:Nat):∀k,az (bO L g was a x k)
 |0=>hx
 |k+1=>by
  unfold bO
  split
  ·exact gw (o_ hx was a k) _
  exact gw (gw (o_ hx was a k) _) _
theorem Db {L:Nat}{g x:Nat→Int}{a:Nat}(ha:a+4≤14)(hL:24≤L):bO L g false a x 2=aL 22 L g 2 a (aL 14 L g 2 a x):=by
 show bj 22 L g (bj 14 L g (bj 22 L g (bj 14 L g x (a+2*0)) (a+2*0)) (a+2*1)) (a+2*1)=bj 22 L g (bj 22 L g (bj 14 L g (bj 14 L g x a) (a+2)) a) (a+2)
 rw[show a+2*0=a from rfl,show a+2*1=a+2 from rfl,wS (s:=14) (t:=22) (i:=a+2) (k:=a) (by omega) (by omega) (by omega) (by omega) (by omega)]
theorem sy {g:Nat→Int}{L:Nat}{s:Bool}{ad po:Int}(h:bz g=true):bp g L s ad po=aL 14 L g 2 (if s=true then 4 else 8) (aE g s ad po):=by unfold bp;rw[if_pos h]
theorem sx {g:Nat→Int}{L:Nat}{s:Bool}{ad po:Int}(h:bz g=false):bp g L s ad po=cm (bj 22 L g (aL 22 L g 2 (if s=true then 4 else 8) (aL 14 L g 2 (if s=true then 4 else 8) (aE g s ad po))) (if s=true then 16 else 18)):=by unfold bp;rw[if_neg (by rw[h];decide)];rfl
theorem qX {g:Nat→Int}(hg:az g)(s:Bool)(ad po:Int):az (aE g s ad po):=by unfold aE;split <;> exact dd (dd hg _ _ _) _ _ _
theorem eh {x:Nat→Int}{L i:Nat}(h:i+1≠L):aN x L i=num x i 2:=by unfold aN;rw[if_neg h]
set_option maxHeartbeats 8000000 in
theorem LU (A:Option Addr)(L c:Nat)(g:Nat→Int)(w:World)(h:By w A L g)(hg:az g)(hc:L≤c)(hb:L≤1000000)(s:Bool)(ad po:Int) :
 Calls Tryz.prog 39 #[.slice A L c,s,ad,po] w (iB w (fV g L ad po) L (bp g L s ad po)):=by
 have HP:=hid (gS A L c g w h hg hc hb)
 have cI:=hid (fun (W:World) (hw:Below w.heap.size w W)=>Sl.below h hw (Nat.le_refl _))
 have HG:=hid hg
 have HH:=hid h
 clear h hg
 obtain ⟨z,hz⟩:∃z,z=ax g L:=⟨_,rfl⟩
 unfold Parsed at HP
 rw[←hz]at HP
 cases hz0:(z != 0)
 ·have z0:ax g L=0:=by rw[←hz];simpa using hz0
  have pf:=du z0
  have n24:=pf.1
  have n15:=pf.2.1
  have PK:=hid (fi z0).2
  have HE:Hid (fV g L ad po=if g 0=3 then 2 else if (cn ad 4294967295&&cn po 65535)=true then 0 else 14):=hid (by unfold fV;rw[if_neg (fun h=>h z0)])
  clear pf z0 hz
  generalize aj g L=p at HP PK
  cases k3:(p.kind==3)
  ·have gp:¬g 0=3:=by rw[←PK.out];simpa using k3
   rw[if_neg gp]at HE
   clear gp
   have RA:=hid (fun w=>dt ad 4294967295 w)
   have RP:=hid (fun w=>dt po 65535 w)
   cases r1:cn ad 4294967295
   ·rw[r1]at RA HE
    rw[Bool.false_and,if_neg (by decide)]at HE
    clear r1
    go_enter Tryz.func39,Tryz.ntmps39
    go_wp2_with fail
    refine HP.out.mono ?_
    rintro x w1 ⟨O,D,rfl,hO,hD,hb1⟩
    obtain ⟨AO,cO,rfl,_,_,_⟩:=hO.aD
    obtain ⟨AD,cD,rfl,_,_,_⟩:=hD.aD
    have B1:=hid (hb1.alloc hb1.size (.cells #[p.kind,p.life,p.piece,p.src,p.dst,p.fp,p.tp,p.flags,p.label,p.bare,p.code,.slice AO p.no cO,.slice AD p.nd cD] 53))
    clear hb1 HP hO hD
    unfold bS cC
    go_simp
    have CE:=hid (Ce.made (w:=w1) (l:=[p.kind,p.life,p.piece,p.src,p.dst,p.fp,p.tp,p.flags,p.label,p.bare,p.code,.slice AO p.no cO,.slice AD p.nd cD]) (T:=53) rfl)
    simp only[List.toArray]at CE
    have k0:=CE.out.2.1 0 _ rfl
    go_wp2_with fail
    refine(RA.out _).mono ?_
    rintro e w' ⟨rfl,rfl⟩
    go_wp2_with fail
    refine bodyPost_ret (v:=.tuple #[.slice none 0 0,.int .i64 14]) (by simp[results,Tryz.results39,go_sem]) rfl ?_
    rw[HE.out]
    exact aQ (by decide) B1.out
   cases r2:cn po 65535
   ·rw[r1]at RA HE
    rw[r2]at RP HE
    rw[Bool.and_false,if_neg (by decide)]at HE
    clear r1 r2
    go_enter Tryz.func39,Tryz.ntmps39
    go_wp2_with fail
    refine HP.out.mono ?_
    rintro x w1 ⟨O,D,rfl,hO,hD,hb1⟩
    obtain ⟨AO,cO,rfl,_,_,_⟩:=hO.aD
    obtain ⟨AD,cD,rfl,_,_,_⟩:=hD.aD
    have B1:=hid (hb1.alloc hb1.size (.cells #[p.kind,p.life,p.piece,p.src,p.dst,p.fp,p.tp,p.flags,p.label,p.bare,p.code,.slice AO p.no cO,.slice AD p.nd cD] 53))
    clear hb1 HP hO hD
    unfold bS cC
    go_simp
    have CE:=hid (Ce.made (w:=w1) (l:=[p.kind,p.life,p.piece,p.src,p.dst,p.fp,p.tp,p.flags,p.label,p.bare,p.code,.slice AO p.no cO,.slice AD p.nd cD]) (T:=53) rfl)
    simp only[List.toArray]at CE
    have k0:=CE.out.2.1 0 _ rfl
    go_wp2_with fail
    refine(RA.out _).mono ?_
    rintro e w' ⟨rfl,rfl⟩
    go_wp2_with fail
    refine(RP.out _).mono ?_
    rintro e w' ⟨rfl,rfl⟩
    go_wp2_with fail
    refine bodyPost_ret (v:=.tuple #[.slice none 0 0,.int .i64 14]) (by simp[results,Tryz.results39,go_sem]) rfl ?_
    rw[HE.out]
    exact aQ (by decide) B1.out
   rw[r1]at RA HE
   rw[r2]at RP HE
   rw[Bool.and_true,if_pos rfl]at HE
   clear r1 r2
   obtain ⟨b,off,rfl,hblt,_⟩:=HH.out (by omega)
   cases hbf:bz g
   ·have BF:=hid hbf
    clear hbf
    cases s
    ·skip
     have NP:aE g false ad po=ah (ah g 8 4 ad) 18 2 po:=rfl
     go_enter Tryz.func39,Tryz.ntmps39
     go_wp2_with fail
     refine HP.out.mono ?_
     rintro x w1 ⟨O,D,rfl,hO,hD,hb1⟩
     obtain ⟨AO,cO,rfl,_,_,_⟩:=hO.aD
     obtain ⟨AD,cD,rfl,_,_,_⟩:=hD.aD
     have B1:=hid (hb1.alloc hb1.size (.cells #[p.kind,p.life,p.piece,p.src,p.dst,p.fp,p.tp,p.flags,p.label,p.bare,p.code,.slice AO p.no cO,.slice AD p.nd cD] 53))
     clear hb1 HP hO hD
     unfold bS cC
     go_simp
     have CE:=hid (Ce.made (w:=w1) (l:=[p.kind,p.life,p.piece,p.src,p.dst,p.fp,p.tp,p.flags,p.label,p.bare,p.code,.slice AO p.no cO,.slice AD p.nd cD]) (T:=53) rfl)
     simp only[List.toArray]at CE
     have k0:=CE.out.2.1 0 _ rfl
     go_wp2_with fail
     refine(RA.out _).mono ?_
     rintro e w' ⟨rfl,rfl⟩
     go_wp2_with fail
     refine(RP.out _).mono ?_
     rintro e w' ⟨rfl,rfl⟩
     clear k0
     go_upto_region 8 with (fail)
     generalize (w1.alloc (.cells #[p.kind,p.life,p.piece,p.src,p.dst,p.fp,p.tp,p.flags,p.label,p.bare,p.code,.slice AO p.no cO,.slice AD p.nd cD] 53))=wA at *
     have lA:w.heap.size≤wA.heap.size:=B1.out.size
     have lP:w1.heap.size<wA.heap.size:=CE.out.1
     go_upto_region 9 with (at_builtin;refine eS rfl (.tmp 37) (.tmp 38) rfl wA.heap.size _ rfl (fun f=>Ow.new' (w:=wA) rfl) _ L _ g rfl (Sl.alloc (cI.out _ B1.out) _) (by omega) (by simp) ?_;intro A2 c2 w2 h1 h2 h3 h4 h5 h6;have eo:=hid h1;have hc2:=h2;have BA:=hid (Below.trans ((Below.refl wA.heap.size wA).alloc (Nat.le_refl _) (.cells #[] 5)) h4);clear h1 h2 h3 h4 h5 h6)
     have aG:=hid (CE.out.below BA.out)
     have B2:=hid (B1.out.trans (BA.out.mono lA))
     obtain ⟨G,e,hB,hgs,hce,hfr⟩:=Ow.block_ eo.out (by omega)
     subst e
     have O2:=hid (OB.base eo.out lA)
     have cq:w.heap.size≤G:=by omega
     have hne:b≠G:=by omega
     have mN:w1.heap.size≠G:=by omega
     clear hce hfr hgs eo CE aG BA RA RP
     go_wp2_with fail
     refine(aM O2.out 8 4 ad (by omega) (by omega) hb).mono ?_
     rintro e w3 ⟨rfl,hO,hg3⟩
     have O3:=hid hO
     have G3:=hid hg3
     clear hO hg3 O2
     go_wp2_with fail
     refine(aM O3.out 18 2 po (by omega) (by omega) hb).mono ?_
     rintro e w4 ⟨rfl,hO,hg3⟩
     rw[←NP]at hO
     have O4:=hid hO
     have G4:=hid (G3.out.trans hg3)
     have B4:=hid (B2.out.trans (af G4.out cq B2.out.size))
     clear hO hg3 O3 G3 NP
     have XB:=hid (qX HG.out false ad po)
     have BR:=hid (iD (fH (some ⟨b,off,none⟩) L c g w4 (cI.out _ B4.out) HG.out (by omega) (.inr n24) hb) BF.out)
     go_wp2_with fail
     refine BR.out.mono ?_
     rintro e w' ⟨rfl,rfl⟩
     clear BR B4
     go_wp2_with fail
     go_loopw [16] (fun i wr=>∃k:Nat,k≤2∧i =.int .i64 ((8+2*k:Nat):Int)∧OB wr w.heap.size (.slice (some ⟨G,0,none⟩) L c2) L (bO L g false 8 (aE g false ad po) k)∧w2.grownBy wr (some G)) (fun i _=>20-(intOf i).toNat)
     case atStart=>exact⟨0,by omega,rfl,O4.out,G4.out⟩
     obtain ⟨k,hk,rfl,ho,hgr⟩:=hrel
     obtain ⟨i,hi⟩:∃i,i=8+2*k:=⟨_,rfl⟩
     rw[←hi]
     have HI:=hid hi
     have HO:=hid ho
     have HR:=hid hgr
     have dO:k<2↔i<12:=by omega
     clear hi ho hgr O4 G4
     have B5:=hid (B2.out.trans (af HR.out cq B2.out.size))
     have HB:=hid (o_ (L:=L) (g:=g) XB.out false 8 k)
     by_cases hlt:i<12
     ·have i1:(i:Int)<12:=by omega
      have i2:i+1<L:=by omega
      have i3:IntKind.i64.wrap ((i:Int)+2)=(i:Int)+2:=IntWalk.i64_in _ (by omega)
      have kl:=dO.2 hlt
      clear dO hlt
      have uR:=hid (aY (some ⟨G,0,none⟩) L c2 _ wr HO.out.sl1 HB.out 14 2 (by omega) (by omega) hb)
      have uS:=hid (aY (some ⟨b,off,none⟩) L c g wr (cI.out _ B5.out) HG.out i 2 (by omega) (by omega) hb)
      have uQ:=hid (aY (some ⟨G,0,none⟩) L c2 _ wr HO.out.sl1 HB.out i 2 (by omega) (by omega) hb)
      have b1:=bK HB.out 14
      have b2:=bK HG.out i
      have b3:=bK HB.out i
      have uO:=hid (fun w=>d_ (num (bO L g false 8 (aE g false ad po) k) 14 2) (num g i 2) (num (bO L g false 8 (aE g false ad po) k) i 2) w b1.1 b1.2 b2.1 b2.2 b3.1 b3.2)
      have uP:=hid (aM HO.out 14 2 (turn (num (bO L g false 8 (aE g false ad po) k) 14 2) (num g i 2) (num (bO L g false 8 (aE g false ad po) k) i 2)) (by omega) (by omega) hb)
      clear b1 b2 b3
      go_wp2_with fail
      refine uR.out.mono ?_
      rintro e w' ⟨rfl,rfl⟩
      go_wp2_with fail
      refine uS.out.mono ?_
      rintro e w' ⟨rfl,rfl⟩
      go_wp2_with fail
      refine uQ.out.mono ?_
      rintro e w' ⟨rfl,rfl⟩
      go_wp2_with fail
      refine(uO.out _).mono ?_
      rintro e w' ⟨rfl,rfl⟩
      go_wp2_with fail
      refine uP.out.mono ?_
      rintro e w5 ⟨rfl,iY,lr⟩
      have T1:ah (bO L g false 8 (aE g false ad po) k) 14 2 (turn (num (bO L g false 8 (aE g false ad po) k) 14 2) (num g i 2) (num (bO L g false 8 (aE g false ad po) k) i 2))=(bj 14 L g (bO L g false 8 (aE g false ad po) k) i):=by unfold bj;rw[eh (by omega),eh (by omega)]
      rw[T1]at iY
      have O5:=hid iY
      have R5:=hid (HR.out.trans lr)
      have oR:=hid (gw (s:=14) (L:=L) (g:=g) HB.out i)
      clear iY lr T1
      have B6:=hid (B2.out.trans (af R5.out cq B2.out.size))
      have II:=hid (aY (some ⟨G,0,none⟩) L c2 _ w5 O5.out.sl1 oR.out 22 2 (by omega) (by omega) hb)
      have IN:=hid (aY (some ⟨b,off,none⟩) L c g w5 (cI.out _ B6.out) HG.out i 2 (by omega) (by omega) hb)
      have IG:=hid (aY (some ⟨G,0,none⟩) L c2 _ w5 O5.out.sl1 oR.out i 2 (by omega) (by omega) hb)
      have b1:=bK oR.out 22
      have b2:=bK HG.out i
      have b3:=bK oR.out i
      have Ir:=hid (fun w=>d_ (num (bj 14 L g (bO L g false 8 (aE g false ad po) k) i) 22 2) (num g i 2) (num (bj 14 L g (bO L g false 8 (aE g false ad po) k) i) i 2) w b1.1 b1.2 b2.1 b2.2 b3.1 b3.2)
      have Iz:=hid (aM O5.out 22 2 (turn (num (bj 14 L g (bO L g false 8 (aE g false ad po) k) i) 22 2) (num g i 2) (num (bj 14 L g (bO L g false 8 (aE g false ad po) k) i) i 2)) (by omega) (by omega) hb)
      clear b1 b2 b3
      go_wp2_with fail
      refine II.out.mono ?_
      rintro e w' ⟨rfl,rfl⟩
      go_wp2_with fail
      refine IN.out.mono ?_
      rintro e w' ⟨rfl,rfl⟩
      go_wp2_with fail
      refine IG.out.mono ?_
      rintro e w' ⟨rfl,rfl⟩
      go_wp2_with fail
      refine(Ir.out _).mono ?_
      rintro e w' ⟨rfl,rfl⟩
      go_wp2_with fail
      refine Iz.out.mono ?_
      rintro e w6 ⟨rfl,p_,uq⟩
      have T2:ah (bj 14 L g (bO L g false 8 (aE g false ad po) k) i) 22 2 (turn (num (bj 14 L g (bO L g false 8 (aE g false ad po) k) i) 22 2) (num g i 2) (num (bj 14 L g (bO L g false 8 (aE g false ad po) k) i) i 2))=(bj 22 L g (bj 14 L g (bO L g false 8 (aE g false ad po) k) i) i):=by rw[show (bj 22 L g (bj 14 L g (bO L g false 8 (aE g false ad po) k) i) i)=ah (bj 14 L g (bO L g false 8 (aE g false ad po) k) i) 22 2 (turn (num (bj 14 L g (bO L g false 8 (aE g false ad po) k) i) 22 2) (aN g L i) (aN (bj 14 L g (bO L g false 8 (aE g false ad po) k) i) L i)) from rfl,eh (by omega),eh (by omega)]
      rw[T2]at p_
      have O6:=hid p_
      have R6:=hid (R5.out.trans uq)
      clear p_ uq T2
      go_wp2_with fail
      go_roundw
      case rel=>
       refine⟨k+1,kl,by rw[HI.out];go_num,?_,R6.out⟩
       have:=O6.out
       rw[HI.out]at this
       exact this
      simp[intOf];omega
     have i1:¬(i:Int)<12:=by omega
     have kk:k=2:=by omega
     subst kk
     clear dO hlt HI
     have IH:=hid (aY (some ⟨G,0,none⟩) L c2 _ wr HO.out.sl1 HB.out 22 2 (by omega) (by omega) hb)
     have IL:=hid (aY (some ⟨b,off,none⟩) L c g wr (cI.out _ B5.out) HG.out 18 2 (by omega) (by omega) hb)
     have IE:=hid (aY (some ⟨G,0,none⟩) L c2 _ wr HO.out.sl1 HB.out 18 2 (by omega) (by omega) hb)
     have b1:=bK HB.out 22
     have b2:=bK HG.out 18
     have b3:=bK HB.out 18
     have Iq:=hid (fun w=>d_ (num (bO L g false 8 (aE g false ad po) 2) 22 2) (num g 18 2) (num (bO L g false 8 (aE g false ad po) 2) 18 2) w b1.1 b1.2 b2.1 b2.2 b3.1 b3.2)
     have Iy:=hid (aM HO.out 22 2 (turn (num (bO L g false 8 (aE g false ad po) 2) 22 2) (num g 18 2) (num (bO L g false 8 (aE g false ad po) 2) 18 2)) (by omega) (by omega) hb)
     clear b1 b2 b3
     go_wp2_with fail
     refine IH.out.mono ?_
     rintro e w' ⟨rfl,rfl⟩
     go_wp2_with fail
     refine IL.out.mono ?_
     rintro e w' ⟨rfl,rfl⟩
     go_wp2_with fail
     refine IE.out.mono ?_
     rintro e w' ⟨rfl,rfl⟩
     go_wp2_with fail
     refine(Iq.out _).mono ?_
     rintro e w' ⟨rfl,rfl⟩
     go_wp2_with fail
     refine Iy.out.mono ?_
     rintro e w6 ⟨rfl,p9,uo⟩
     have T3:ah (bO L g false 8 (aE g false ad po) 2) 22 2 (turn (num (bO L g false 8 (aE g false ad po) 2) 22 2) (num g 18 2) (num (bO L g false 8 (aE g false ad po) 2) 18 2))=(bj 22 L g (bO L g false 8 (aE g false ad po) 2) 18):=by rw[show (bj 22 L g (bO L g false 8 (aE g false ad po) 2) 18)=ah (bO L g false 8 (aE g false ad po) 2) 22 2 (turn (num (bO L g false 8 (aE g false ad po) 2) 22 2) (aN g L 18) (aN (bO L g false 8 (aE g false ad po) 2) L 18)) from rfl,eh (by omega),eh (by omega)]
     rw[T3]at p9
     have O6:=hid p9
     have B6:=hid (B5.out.trans (af uo cq B5.out.size))
     have Jd:=hid (gw (s:=22) (L:=L) (g:=g) HB.out 18)
     clear p9 uo T3
     go_wp2_with fail
     refine(eg O6.out Jd.out (by omega) (.inr n24) hc2 hb false).mono ?_
     rintro e w7 ⟨rfl,ho,ku⟩
     rw[if_neg (by decide)]at ho
     have O8:=hid ho
     have B8:=hid (B6.out.trans (af ku cq B6.out.size))
     clear ho ku
     go_wp2_with fail
     refine bodyPost_ret (v:=.tuple #[.slice (some ⟨G,0,none⟩) L c2,()]) (by simp[results,Tryz.results39,go_sem]) rfl ?_
     rw[HE.out,sx BF.out]
     refine⟨_,rfl,?_,B8.out⟩
     have:=O8.out
     rw[Db (by omega) n24]at this
     exact this
    skip
    have NP:aE g true ad po=ah (ah g 4 4 ad) 16 2 po:=rfl
    go_enter Tryz.func39,Tryz.ntmps39
    go_wp2_with fail
    refine HP.out.mono ?_
    rintro x w1 ⟨O,D,rfl,hO,hD,hb1⟩
    obtain ⟨AO,cO,rfl,_,_,_⟩:=hO.aD
    obtain ⟨AD,cD,rfl,_,_,_⟩:=hD.aD
    have B1:=hid (hb1.alloc hb1.size (.cells #[p.kind,p.life,p.piece,p.src,p.dst,p.fp,p.tp,p.flags,p.label,p.bare,p.code,.slice AO p.no cO,.slice AD p.nd cD] 53))
    clear hb1 HP hO hD
    unfold bS cC
    go_simp
    have CE:=hid (Ce.made (w:=w1) (l:=[p.kind,p.life,p.piece,p.src,p.dst,p.fp,p.tp,p.flags,p.label,p.bare,p.code,.slice AO p.no cO,.slice AD p.nd cD]) (T:=53) rfl)
    simp only[List.toArray]at CE
    have k0:=CE.out.2.1 0 _ rfl
    go_wp2_with fail
    refine(RA.out _).mono ?_
    rintro e w' ⟨rfl,rfl⟩
    go_wp2_with fail
    refine(RP.out _).mono ?_
    rintro e w' ⟨rfl,rfl⟩
    clear k0
    go_upto_region 8 with (fail)
    generalize (w1.alloc (.cells #[p.kind,p.life,p.piece,p.src,p.dst,p.fp,p.tp,p.flags,p.label,p.bare,p.code,.slice AO p.no cO,.slice AD p.nd cD] 53))=wA at *
    have lA:w.heap.size≤wA.heap.size:=B1.out.size
    have lP:w1.heap.size<wA.heap.size:=CE.out.1
    go_upto_region 9 with (at_builtin;refine eS rfl (.tmp 37) (.tmp 38) rfl wA.heap.size _ rfl (fun f=>Ow.new' (w:=wA) rfl) _ L _ g rfl (Sl.alloc (cI.out _ B1.out) _) (by omega) (by simp) ?_;intro A2 c2 w2 h1 h2 h3 h4 h5 h6;have eo:=hid h1;have hc2:=h2;have BA:=hid (Below.trans ((Below.refl wA.heap.size wA).alloc (Nat.le_refl _) (.cells #[] 5)) h4);clear h1 h2 h3 h4 h5 h6)
    have aG:=hid (CE.out.below BA.out)
    have B2:=hid (B1.out.trans (BA.out.mono lA))
    obtain ⟨G,e,hB,hgs,hce,hfr⟩:=Ow.block_ eo.out (by omega)
    subst e
    have O2:=hid (OB.base eo.out lA)
    have cq:w.heap.size≤G:=by omega
    have hne:b≠G:=by omega
    have mN:w1.heap.size≠G:=by omega
    clear hce hfr hgs eo CE aG BA RA RP
    go_wp2_with fail
    refine(aM O2.out 4 4 ad (by omega) (by omega) hb).mono ?_
    rintro e w3 ⟨rfl,hO,hg3⟩
    have O3:=hid hO
    have G3:=hid hg3
    clear hO hg3 O2
    go_wp2_with fail
    refine(aM O3.out 16 2 po (by omega) (by omega) hb).mono ?_
    rintro e w4 ⟨rfl,hO,hg3⟩
    rw[←NP]at hO
    have O4:=hid hO
    have G4:=hid (G3.out.trans hg3)
    have B4:=hid (B2.out.trans (af G4.out cq B2.out.size))
    clear hO hg3 O3 G3 NP
    have XB:=hid (qX HG.out true ad po)
    have BR:=hid (iD (fH (some ⟨b,off,none⟩) L c g w4 (cI.out _ B4.out) HG.out (by omega) (.inr n24) hb) BF.out)
    go_wp2_with fail
    refine BR.out.mono ?_
    rintro e w' ⟨rfl,rfl⟩
    clear BR B4
    go_wp2_with fail
    go_loopw [16] (fun i wr=>∃k:Nat,k≤2∧i =.int .i64 ((4+2*k:Nat):Int)∧OB wr w.heap.size (.slice (some ⟨G,0,none⟩) L c2) L (bO L g false 4 (aE g true ad po) k)∧w2.grownBy wr (some G)) (fun i _=>20-(intOf i).toNat)
    case atStart=>exact⟨0,by omega,rfl,O4.out,G4.out⟩
    obtain ⟨k,hk,rfl,ho,hgr⟩:=hrel
    obtain ⟨i,hi⟩:∃i,i=4+2*k:=⟨_,rfl⟩
    rw[←hi]
    have HI:=hid hi
    have HO:=hid ho
    have HR:=hid hgr
    have dO:k<2↔i<8:=by omega
    clear hi ho hgr O4 G4
    have B5:=hid (B2.out.trans (af HR.out cq B2.out.size))
    have HB:=hid (o_ (L:=L) (g:=g) XB.out false 4 k)
    by_cases hlt:i<8
    ·have i1:(i:Int)<8:=by omega
     have i2:i+1<L:=by omega
     have i3:IntKind.i64.wrap ((i:Int)+2)=(i:Int)+2:=IntWalk.i64_in _ (by omega)
     have kl:=dO.2 hlt
     clear dO hlt
     have uR:=hid (aY (some ⟨G,0,none⟩) L c2 _ wr HO.out.sl1 HB.out 14 2 (by omega) (by omega) hb)
     have uS:=hid (aY (some ⟨b,off,none⟩) L c g wr (cI.out _ B5.out) HG.out i 2 (by omega) (by omega) hb)
     have uQ:=hid (aY (some ⟨G,0,none⟩) L c2 _ wr HO.out.sl1 HB.out i 2 (by omega) (by omega) hb)
     have b1:=bK HB.out 14
     have b2:=bK HG.out i
     have b3:=bK HB.out i
     have uO:=hid (fun w=>d_ (num (bO L g false 4 (aE g true ad po) k) 14 2) (num g i 2) (num (bO L g false 4 (aE g true ad po) k) i 2) w b1.1 b1.2 b2.1 b2.2 b3.1 b3.2)
     have uP:=hid (aM HO.out 14 2 (turn (num (bO L g false 4 (aE g true ad po) k) 14 2) (num g i 2) (num (bO L g false 4 (aE g true ad po) k) i 2)) (by omega) (by omega) hb)
     clear b1 b2 b3
     go_wp2_with fail
     refine uR.out.mono ?_
     rintro e w' ⟨rfl,rfl⟩
     go_wp2_with fail
     refine uS.out.mono ?_
     rintro e w' ⟨rfl,rfl⟩
     go_wp2_with fail
     refine uQ.out.mono ?_
     rintro e w' ⟨rfl,rfl⟩
     go_wp2_with fail
     refine(uO.out _).mono ?_
     rintro e w' ⟨rfl,rfl⟩
     go_wp2_with fail
     refine uP.out.mono ?_
     rintro e w5 ⟨rfl,iY,lr⟩
     have T1:ah (bO L g false 4 (aE g true ad po) k) 14 2 (turn (num (bO L g false 4 (aE g true ad po) k) 14 2) (num g i 2) (num (bO L g false 4 (aE g true ad po) k) i 2))=(bj 14 L g (bO L g false 4 (aE g true ad po) k) i):=by unfold bj;rw[eh (by omega),eh (by omega)]
     rw[T1]at iY
     have O5:=hid iY
     have R5:=hid (HR.out.trans lr)
     have oR:=hid (gw (s:=14) (L:=L) (g:=g) HB.out i)
     clear iY lr T1
     have B6:=hid (B2.out.trans (af R5.out cq B2.out.size))
     have II:=hid (aY (some ⟨G,0,none⟩) L c2 _ w5 O5.out.sl1 oR.out 22 2 (by omega) (by omega) hb)
     have IN:=hid (aY (some ⟨b,off,none⟩) L c g w5 (cI.out _ B6.out) HG.out i 2 (by omega) (by omega) hb)
     have IG:=hid (aY (some ⟨G,0,none⟩) L c2 _ w5 O5.out.sl1 oR.out i 2 (by omega) (by omega) hb)
     have b1:=bK oR.out 22
     have b2:=bK HG.out i
     have b3:=bK oR.out i
     have Ir:=hid (fun w=>d_ (num (bj 14 L g (bO L g false 4 (aE g true ad po) k) i) 22 2) (num g i 2) (num (bj 14 L g (bO L g false 4 (aE g true ad po) k) i) i 2) w b1.1 b1.2 b2.1 b2.2 b3.1 b3.2)
     have Iz:=hid (aM O5.out 22 2 (turn (num (bj 14 L g (bO L g false 4 (aE g true ad po) k) i) 22 2) (num g i 2) (num (bj 14 L g (bO L g false 4 (aE g true ad po) k) i) i 2)) (by omega) (by omega) hb)
     clear b1 b2 b3
     go_wp2_with fail
     refine II.out.mono ?_
     rintro e w' ⟨rfl,rfl⟩
     go_wp2_with fail
     refine IN.out.mono ?_
     rintro e w' ⟨rfl,rfl⟩
     go_wp2_with fail
     refine IG.out.mono ?_
     rintro e w' ⟨rfl,rfl⟩
     go_wp2_with fail
     refine(Ir.out _).mono ?_
     rintro e w' ⟨rfl,rfl⟩
     go_wp2_with fail
     refine Iz.out.mono ?_
     rintro e w6 ⟨rfl,p_,uq⟩
     have T2:ah (bj 14 L g (bO L g false 4 (aE g true ad po) k) i) 22 2 (turn (num (bj 14 L g (bO L g false 4 (aE g true ad po) k) i) 22 2) (num g i 2) (num (bj 14 L g (bO L g false 4 (aE g true ad po) k) i) i 2))=(bj 22 L g (bj 14 L g (bO L g false 4 (aE g true ad po) k) i) i):=by rw[show (bj 22 L g (bj 14 L g (bO L g false 4 (aE g true ad po) k) i) i)=ah (bj 14 L g (bO L g false 4 (aE g true ad po) k) i) 22 2 (turn (num (bj 14 L g (bO L g false 4 (aE g true ad po) k) i) 22 2) (aN g L i) (aN (bj 14 L g (bO L g false 4 (aE g true ad po) k) i) L i)) from rfl,eh (by omega),eh (by omega)]
     rw[T2]at p_
     have O6:=hid p_
     have R6:=hid (R5.out.trans uq)
     clear p_ uq T2
     go_wp2_with fail
     go_roundw
     case rel=>
      refine⟨k+1,kl,by rw[HI.out];go_num,?_,R6.out⟩
      have:=O6.out
      rw[HI.out]at this
      exact this
     simp[intOf];omega
    have i1:¬(i:Int)<8:=by omega
    have kk:k=2:=by omega
    subst kk
    clear dO hlt HI
    have IH:=hid (aY (some ⟨G,0,none⟩) L c2 _ wr HO.out.sl1 HB.out 22 2 (by omega) (by omega) hb)
    have IL:=hid (aY (some ⟨b,off,none⟩) L c g wr (cI.out _ B5.out) HG.out 16 2 (by omega) (by omega) hb)
    have IE:=hid (aY (some ⟨G,0,none⟩) L c2 _ wr HO.out.sl1 HB.out 16 2 (by omega) (by omega) hb)
    have b1:=bK HB.out 22
    have b2:=bK HG.out 16
    have b3:=bK HB.out 16
    have Iq:=hid (fun w=>d_ (num (bO L g false 4 (aE g true ad po) 2) 22 2) (num g 16 2) (num (bO L g false 4 (aE g true ad po) 2) 16 2) w b1.1 b1.2 b2.1 b2.2 b3.1 b3.2)
    have Iy:=hid (aM HO.out 22 2 (turn (num (bO L g false 4 (aE g true ad po) 2) 22 2) (num g 16 2) (num (bO L g false 4 (aE g true ad po) 2) 16 2)) (by omega) (by omega) hb)
    clear b1 b2 b3
    go_wp2_with fail
    refine IH.out.mono ?_
    rintro e w' ⟨rfl,rfl⟩
    go_wp2_with fail
    refine IL.out.mono ?_
    rintro e w' ⟨rfl,rfl⟩
    go_wp2_with fail
    refine IE.out.mono ?_
    rintro e w' ⟨rfl,rfl⟩
    go_wp2_with fail
    refine(Iq.out _).mono ?_
    rintro e w' ⟨rfl,rfl⟩
    go_wp2_with fail
    refine Iy.out.mono ?_
    rintro e w6 ⟨rfl,p9,uo⟩
    have T3:ah (bO L g false 4 (aE g true ad po) 2) 22 2 (turn (num (bO L g false 4 (aE g true ad po) 2) 22 2) (num g 16 2) (num (bO L g false 4 (aE g true ad po) 2) 16 2))=(bj 22 L g (bO L g false 4 (aE g true ad po) 2) 16):=by rw[show (bj 22 L g (bO L g false 4 (aE g true ad po) 2) 16)=ah (bO L g false 4 (aE g true ad po) 2) 22 2 (turn (num (bO L g false 4 (aE g true ad po) 2) 22 2) (aN g L 16) (aN (bO L g false 4 (aE g true ad po) 2) L 16)) from rfl,eh (by omega),eh (by omega)]
    rw[T3]at p9
    have O6:=hid p9
    have B6:=hid (B5.out.trans (af uo cq B5.out.size))
    have Jd:=hid (gw (s:=22) (L:=L) (g:=g) HB.out 16)
    clear p9 uo T3
    go_wp2_with fail
    refine(eg O6.out Jd.out (by omega) (.inr n24) hc2 hb false).mono ?_
    rintro e w7 ⟨rfl,ho,ku⟩
    rw[if_neg (by decide)]at ho
    have O8:=hid ho
    have B8:=hid (B6.out.trans (af ku cq B6.out.size))
    clear ho ku
    go_wp2_with fail
    refine bodyPost_ret (v:=.tuple #[.slice (some ⟨G,0,none⟩) L c2,()]) (by simp[results,Tryz.results39,go_sem]) rfl ?_
    rw[HE.out,sx BF.out]
    refine⟨_,rfl,?_,B8.out⟩
    have:=O8.out
    rw[Db (by omega) n24]at this
    exact this
   have BF:=hid hbf
   clear hbf
   cases s
   ·skip
    have NP:aE g false ad po=ah (ah g 8 4 ad) 18 2 po:=rfl
    go_enter Tryz.func39,Tryz.ntmps39
    go_wp2_with fail
    refine HP.out.mono ?_
    rintro x w1 ⟨O,D,rfl,hO,hD,hb1⟩
    obtain ⟨AO,cO,rfl,_,_,_⟩:=hO.aD
    obtain ⟨AD,cD,rfl,_,_,_⟩:=hD.aD
    have B1:=hid (hb1.alloc hb1.size (.cells #[p.kind,p.life,p.piece,p.src,p.dst,p.fp,p.tp,p.flags,p.label,p.bare,p.code,.slice AO p.no cO,.slice AD p.nd cD] 53))
    clear hb1 HP hO hD
    unfold bS cC
    go_simp
    have CE:=hid (Ce.made (w:=w1) (l:=[p.kind,p.life,p.piece,p.src,p.dst,p.fp,p.tp,p.flags,p.label,p.bare,p.code,.slice AO p.no cO,.slice AD p.nd cD]) (T:=53) rfl)
    simp only[List.toArray]at CE
    have k0:=CE.out.2.1 0 _ rfl
    go_wp2_with fail
    refine(RA.out _).mono ?_
    rintro e w' ⟨rfl,rfl⟩
    go_wp2_with fail
    refine(RP.out _).mono ?_
    rintro e w' ⟨rfl,rfl⟩
    clear k0
    go_upto_region 8 with (fail)
    generalize (w1.alloc (.cells #[p.kind,p.life,p.piece,p.src,p.dst,p.fp,p.tp,p.flags,p.label,p.bare,p.code,.slice AO p.no cO,.slice AD p.nd cD] 53))=wA at *
    have lA:w.heap.size≤wA.heap.size:=B1.out.size
    have lP:w1.heap.size<wA.heap.size:=CE.out.1
    go_upto_region 9 with (at_builtin;refine eS rfl (.tmp 37) (.tmp 38) rfl wA.heap.size _ rfl (fun f=>Ow.new' (w:=wA) rfl) _ L _ g rfl (Sl.alloc (cI.out _ B1.out) _) (by omega) (by simp) ?_;intro A2 c2 w2 h1 h2 h3 h4 h5 h6;have eo:=hid h1;have hc2:=h2;have BA:=hid (Below.trans ((Below.refl wA.heap.size wA).alloc (Nat.le_refl _) (.cells #[] 5)) h4);clear h1 h2 h3 h4 h5 h6)
    have aG:=hid (CE.out.below BA.out)
    have B2:=hid (B1.out.trans (BA.out.mono lA))
    obtain ⟨G,e,hB,hgs,hce,hfr⟩:=Ow.block_ eo.out (by omega)
    subst e
    have O2:=hid (OB.base eo.out lA)
    have cq:w.heap.size≤G:=by omega
    have hne:b≠G:=by omega
    have mN:w1.heap.size≠G:=by omega
    clear hce hfr hgs eo CE aG BA RA RP
    go_wp2_with fail
    refine(aM O2.out 8 4 ad (by omega) (by omega) hb).mono ?_
    rintro e w3 ⟨rfl,hO,hg3⟩
    have O3:=hid hO
    have G3:=hid hg3
    clear hO hg3 O2
    go_wp2_with fail
    refine(aM O3.out 18 2 po (by omega) (by omega) hb).mono ?_
    rintro e w4 ⟨rfl,hO,hg3⟩
    rw[←NP]at hO
    have O4:=hid hO
    have G4:=hid (G3.out.trans hg3)
    have B4:=hid (B2.out.trans (af G4.out cq B2.out.size))
    clear hO hg3 O3 G3 NP
    have XB:=hid (qX HG.out false ad po)
    have BR:=hid (iD (fH (some ⟨b,off,none⟩) L c g w4 (cI.out _ B4.out) HG.out (by omega) (.inr n24) hb) BF.out)
    go_wp2_with fail
    refine BR.out.mono ?_
    rintro e w' ⟨rfl,rfl⟩
    clear BR B4
    go_wp2_with fail
    go_loopw [16] (fun i wr=>∃k:Nat,k≤2∧i =.int .i64 ((8+2*k:Nat):Int)∧OB wr w.heap.size (.slice (some ⟨G,0,none⟩) L c2) L (bO L g true 8 (aE g false ad po) k)∧w2.grownBy wr (some G)) (fun i _=>20-(intOf i).toNat)
    case atStart=>exact⟨0,by omega,rfl,O4.out,G4.out⟩
    obtain ⟨k,hk,rfl,ho,hgr⟩:=hrel
    obtain ⟨i,hi⟩:∃i,i=8+2*k:=⟨_,rfl⟩
    rw[←hi]
    have HI:=hid hi
    have HO:=hid ho
    have HR:=hid hgr
    have dO:k<2↔i<12:=by omega
    clear hi ho hgr O4 G4
    have B5:=hid (B2.out.trans (af HR.out cq B2.out.size))
    have HB:=hid (o_ (L:=L) (g:=g) XB.out true 8 k)
    by_cases hlt:i<12
    ·have i1:(i:Int)<12:=by omega
     have i2:i+1<L:=by omega
     have i3:IntKind.i64.wrap ((i:Int)+2)=(i:Int)+2:=IntWalk.i64_in _ (by omega)
     have kl:=dO.2 hlt
     clear dO hlt
     have uR:=hid (aY (some ⟨G,0,none⟩) L c2 _ wr HO.out.sl1 HB.out 14 2 (by omega) (by omega) hb)
     have uS:=hid (aY (some ⟨b,off,none⟩) L c g wr (cI.out _ B5.out) HG.out i 2 (by omega) (by omega) hb)
     have uQ:=hid (aY (some ⟨G,0,none⟩) L c2 _ wr HO.out.sl1 HB.out i 2 (by omega) (by omega) hb)
     have b1:=bK HB.out 14
     have b2:=bK HG.out i
     have b3:=bK HB.out i
     have uO:=hid (fun w=>d_ (num (bO L g true 8 (aE g false ad po) k) 14 2) (num g i 2) (num (bO L g true 8 (aE g false ad po) k) i 2) w b1.1 b1.2 b2.1 b2.2 b3.1 b3.2)
     have uP:=hid (aM HO.out 14 2 (turn (num (bO L g true 8 (aE g false ad po) k) 14 2) (num g i 2) (num (bO L g true 8 (aE g false ad po) k) i 2)) (by omega) (by omega) hb)
     clear b1 b2 b3
     go_wp2_with fail
     refine uR.out.mono ?_
     rintro e w' ⟨rfl,rfl⟩
     go_wp2_with fail
     refine uS.out.mono ?_
     rintro e w' ⟨rfl,rfl⟩
     go_wp2_with fail
     refine uQ.out.mono ?_
     rintro e w' ⟨rfl,rfl⟩
     go_wp2_with fail
     refine(uO.out _).mono ?_
     rintro e w' ⟨rfl,rfl⟩
     go_wp2_with fail
     refine uP.out.mono ?_
     rintro e w5 ⟨rfl,iY,lr⟩
     have T1:ah (bO L g true 8 (aE g false ad po) k) 14 2 (turn (num (bO L g true 8 (aE g false ad po) k) 14 2) (num g i 2) (num (bO L g true 8 (aE g false ad po) k) i 2))=(bj 14 L g (bO L g true 8 (aE g false ad po) k) i):=by unfold bj;rw[eh (by omega),eh (by omega)]
     rw[T1]at iY
     have O5:=hid iY
     have R5:=hid (HR.out.trans lr)
     have oR:=hid (gw (s:=14) (L:=L) (g:=g) HB.out i)
     clear iY lr T1
     go_wp2_with fail
     go_roundw
     case rel=>
      refine⟨k+1,kl,by rw[HI.out];go_num,?_,R5.out⟩
      have:=O5.out
      rw[HI.out]at this
      exact this
     simp[intOf];omega
    have i1:¬(i:Int)<12:=by omega
    have kk:k=2:=by omega
    subst kk
    clear dO hlt HI
    go_wp2_with fail
    refine(eg HO.out HB.out (by omega) (.inr n24) hc2 hb true).mono ?_
    rintro e w7 ⟨rfl,ho,ku⟩
    rw[if_pos rfl]at ho
    have O8:=hid ho
    have B8:=hid (B5.out.trans (af ku cq B5.out.size))
    clear ho ku
    go_wp2_with fail
    refine bodyPost_ret (v:=.tuple #[.slice (some ⟨G,0,none⟩) L c2,()]) (by simp[results,Tryz.results39,go_sem]) rfl ?_
    rw[HE.out,sy BF.out]
    exact⟨_,rfl,O8.out,B8.out⟩
   skip
   have NP:aE g true ad po=ah (ah g 4 4 ad) 16 2 po:=rfl
   go_enter Tryz.func39,Tryz.ntmps39
   go_wp2_with fail
   refine HP.out.mono ?_
   rintro x w1 ⟨O,D,rfl,hO,hD,hb1⟩
   obtain ⟨AO,cO,rfl,_,_,_⟩:=hO.aD
   obtain ⟨AD,cD,rfl,_,_,_⟩:=hD.aD
   have B1:=hid (hb1.alloc hb1.size (.cells #[p.kind,p.life,p.piece,p.src,p.dst,p.fp,p.tp,p.flags,p.label,p.bare,p.code,.slice AO p.no cO,.slice AD p.nd cD] 53))
   clear hb1 HP hO hD
   unfold bS cC
   go_simp
   have CE:=hid (Ce.made (w:=w1) (l:=[p.kind,p.life,p.piece,p.src,p.dst,p.fp,p.tp,p.flags,p.label,p.bare,p.code,.slice AO p.no cO,.slice AD p.nd cD]) (T:=53) rfl)
   simp only[List.toArray]at CE
   have k0:=CE.out.2.1 0 _ rfl
   go_wp2_with fail
   refine(RA.out _).mono ?_
   rintro e w' ⟨rfl,rfl⟩
   go_wp2_with fail
   refine(RP.out _).mono ?_
   rintro e w' ⟨rfl,rfl⟩
   clear k0
   go_upto_region 8 with (fail)
   generalize (w1.alloc (.cells #[p.kind,p.life,p.piece,p.src,p.dst,p.fp,p.tp,p.flags,p.label,p.bare,p.code,.slice AO p.no cO,.slice AD p.nd cD] 53))=wA at *
   have lA:w.heap.size≤wA.heap.size:=B1.out.size
   have lP:w1.heap.size<wA.heap.size:=CE.out.1
   go_upto_region 9 with (at_builtin;refine eS rfl (.tmp 37) (.tmp 38) rfl wA.heap.size _ rfl (fun f=>Ow.new' (w:=wA) rfl) _ L _ g rfl (Sl.alloc (cI.out _ B1.out) _) (by omega) (by simp) ?_;intro A2 c2 w2 h1 h2 h3 h4 h5 h6;have eo:=hid h1;have hc2:=h2;have BA:=hid (Below.trans ((Below.refl wA.heap.size wA).alloc (Nat.le_refl _) (.cells #[] 5)) h4);clear h1 h2 h3 h4 h5 h6)
   have aG:=hid (CE.out.below BA.out)
   have B2:=hid (B1.out.trans (BA.out.mono lA))
   obtain ⟨G,e,hB,hgs,hce,hfr⟩:=Ow.block_ eo.out (by omega)
   subst e
   have O2:=hid (OB.base eo.out lA)
   have cq:w.heap.size≤G:=by omega
   have hne:b≠G:=by omega
   have mN:w1.heap.size≠G:=by omega
   clear hce hfr hgs eo CE aG BA RA RP
   go_wp2_with fail
   refine(aM O2.out 4 4 ad (by omega) (by omega) hb).mono ?_
   rintro e w3 ⟨rfl,hO,hg3⟩
   have O3:=hid hO
   have G3:=hid hg3
   clear hO hg3 O2
   go_wp2_with fail
   refine(aM O3.out 16 2 po (by omega) (by omega) hb).mono ?_
   rintro e w4 ⟨rfl,hO,hg3⟩
   rw[←NP]at hO
   have O4:=hid hO
   have G4:=hid (G3.out.trans hg3)
   have B4:=hid (B2.out.trans (af G4.out cq B2.out.size))
   clear hO hg3 O3 G3 NP
   have XB:=hid (qX HG.out true ad po)
   have BR:=hid (iD (fH (some ⟨b,off,none⟩) L c g w4 (cI.out _ B4.out) HG.out (by omega) (.inr n24) hb) BF.out)
   go_wp2_with fail
   refine BR.out.mono ?_
   rintro e w' ⟨rfl,rfl⟩
   clear BR B4
   go_wp2_with fail
   go_loopw [16] (fun i wr=>∃k:Nat,k≤2∧i =.int .i64 ((4+2*k:Nat):Int)∧OB wr w.heap.size (.slice (some ⟨G,0,none⟩) L c2) L (bO L g true 4 (aE g true ad po) k)∧w2.grownBy wr (some G)) (fun i _=>20-(intOf i).toNat)
   case atStart=>exact⟨0,by omega,rfl,O4.out,G4.out⟩
   obtain ⟨k,hk,rfl,ho,hgr⟩:=hrel
   obtain ⟨i,hi⟩:∃i,i=4+2*k:=⟨_,rfl⟩
   rw[←hi]
   have HI:=hid hi
   have HO:=hid ho
   have HR:=hid hgr
   have dO:k<2↔i<8:=by omega
   clear hi ho hgr O4 G4
   have B5:=hid (B2.out.trans (af HR.out cq B2.out.size))
   have HB:=hid (o_ (L:=L) (g:=g) XB.out true 4 k)
   by_cases hlt:i<8
   ·have i1:(i:Int)<8:=by omega
    have i2:i+1<L:=by omega
    have i3:IntKind.i64.wrap ((i:Int)+2)=(i:Int)+2:=IntWalk.i64_in _ (by omega)
    have kl:=dO.2 hlt
    clear dO hlt
    have uR:=hid (aY (some ⟨G,0,none⟩) L c2 _ wr HO.out.sl1 HB.out 14 2 (by omega) (by omega) hb)
    have uS:=hid (aY (some ⟨b,off,none⟩) L c g wr (cI.out _ B5.out) HG.out i 2 (by omega) (by omega) hb)
    have uQ:=hid (aY (some ⟨G,0,none⟩) L c2 _ wr HO.out.sl1 HB.out i 2 (by omega) (by omega) hb)
    have b1:=bK HB.out 14
    have b2:=bK HG.out i
    have b3:=bK HB.out i
    have uO:=hid (fun w=>d_ (num (bO L g true 4 (aE g true ad po) k) 14 2) (num g i 2) (num (bO L g true 4 (aE g true ad po) k) i 2) w b1.1 b1.2 b2.1 b2.2 b3.1 b3.2)
    have uP:=hid (aM HO.out 14 2 (turn (num (bO L g true 4 (aE g true ad po) k) 14 2) (num g i 2) (num (bO L g true 4 (aE g true ad po) k) i 2)) (by omega) (by omega) hb)
    clear b1 b2 b3
    go_wp2_with fail
    refine uR.out.mono ?_
    rintro e w' ⟨rfl,rfl⟩
    go_wp2_with fail
    refine uS.out.mono ?_
    rintro e w' ⟨rfl,rfl⟩
    go_wp2_with fail
    refine uQ.out.mono ?_
    rintro e w' ⟨rfl,rfl⟩
    go_wp2_with fail
    refine(uO.out _).mono ?_
    rintro e w' ⟨rfl,rfl⟩
    go_wp2_with fail
    refine uP.out.mono ?_
    rintro e w5 ⟨rfl,iY,lr⟩
    have T1:ah (bO L g true 4 (aE g true ad po) k) 14 2 (turn (num (bO L g true 4 (aE g true ad po) k) 14 2) (num g i 2) (num (bO L g true 4 (aE g true ad po) k) i 2))=(bj 14 L g (bO L g true 4 (aE g true ad po) k) i):=by unfold bj;rw[eh (by omega),eh (by omega)]
    rw[T1]at iY
    have O5:=hid iY
    have R5:=hid (HR.out.trans lr)
    have oR:=hid (gw (s:=14) (L:=L) (g:=g) HB.out i)
    clear iY lr T1
    go_wp2_with fail
    go_roundw
    case rel=>
     refine⟨k+1,kl,by rw[HI.out];go_num,?_,R5.out⟩
     have:=O5.out
     rw[HI.out]at this
     exact this
    simp[intOf];omega
   have i1:¬(i:Int)<8:=by omega
   have kk:k=2:=by omega
   subst kk
   clear dO hlt HI
   go_wp2_with fail
   refine(eg HO.out HB.out (by omega) (.inr n24) hc2 hb true).mono ?_
   rintro e w7 ⟨rfl,ho,ku⟩
   rw[if_pos rfl]at ho
   have O8:=hid ho
   have B8:=hid (B5.out.trans (af ku cq B5.out.size))
   clear ho ku
   go_wp2_with fail
   refine bodyPost_ret (v:=.tuple #[.slice (some ⟨G,0,none⟩) L c2,()]) (by simp[results,Tryz.results39,go_sem]) rfl ?_
   rw[HE.out,sy BF.out]
   exact⟨_,rfl,O8.out,B8.out⟩
  have gp:g 0=3:=by rw[←PK.out];simpa using k3
  rw[if_pos gp]at HE
  clear gp
  go_enter Tryz.func39,Tryz.ntmps39
  go_wp2_with fail
  refine HP.out.mono ?_
  rintro x w1 ⟨O,D,rfl,hO,hD,hb1⟩
  obtain ⟨AO,cO,rfl,_,_,_⟩:=hO.aD
  obtain ⟨AD,cD,rfl,_,_,_⟩:=hD.aD
  have B1:=hid (hb1.alloc hb1.size (.cells #[p.kind,p.life,p.piece,p.src,p.dst,p.fp,p.tp,p.flags,p.label,p.bare,p.code,.slice AO p.no cO,.slice AD p.nd cD] 53))
  clear hb1 HP hO hD
  unfold bS cC
  go_simp
  have CE:=hid (Ce.made (w:=w1) (l:=[p.kind,p.life,p.piece,p.src,p.dst,p.fp,p.tp,p.flags,p.label,p.bare,p.code,.slice AO p.no cO,.slice AD p.nd cD]) (T:=53) rfl)
  simp only[List.toArray]at CE
  have k0:=CE.out.2.1 0 _ rfl
  go_wp2_with fail
  refine bodyPost_ret (v:=.tuple #[.slice none 0 0,.int .i64 2]) (by simp[results,Tryz.results39,go_sem]) rfl ?_
  rw[HE.out]
  exact aQ (by decide) B1.out
 have HE:Hid (fV g L ad po=z):=hid (by unfold fV;rw[←hz,if_pos (by simpa using hz0)])
 have HZ0:Hid (z≠0):=hid (by simpa using hz0)
 generalize aj g L=p at HP
 clear hz
 go_enter Tryz.func39,Tryz.ntmps39
 go_wp2_with fail
 refine HP.out.mono ?_
 rintro x w1 ⟨O,D,rfl,hO,hD,hb1⟩
 obtain ⟨AO,cO,rfl,_,_,_⟩:=hO.aD
 obtain ⟨AD,cD,rfl,_,_,_⟩:=hD.aD
 have B1:=hid (hb1.alloc hb1.size (.cells #[p.kind,p.life,p.piece,p.src,p.dst,p.fp,p.tp,p.flags,p.label,p.bare,p.code,.slice AO p.no cO,.slice AD p.nd cD] 53))
 clear hb1 HP hO hD
 unfold bS cC
 go_simp
 go_wp2_with fail
 refine bodyPost_ret (v:=.tuple #[.slice none 0 0,z]) (by simp[results,Tryz.results39,go_sem]) rfl ?_
 rw[HE.out]
 exact aQ HZ0.out B1.out
end Go.Proofs.YtalnfkijiehjhaaGreat
