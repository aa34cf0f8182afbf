/- The reference's Whole, Age. -/
import Derived.Test.YtalnfkijiehjhaaGreatGa
import Derived.Test.YtalnfkijiehjhaaGreatWirRparse2
import Derived.Test.YtalnfkijiehjhaaGreatGwc
import Derived.BigQuiet
import Derived.Deep.RegionHeld3
import Derived.Deep.Cut
namespace Go.Proofs.YtalnfkijiehjhaaGreat
set_option linter.unusedVariables false
set_option linter.unusedSimpArgs false
open Go.RowKit Go.ChangeShapes Go.WideShapes Go.ChangeAt
theorem GN {x:Int}(h:1≤x)(h':x≤255):IntKind.u8.wrap (x-1)=x-1:=by rw[IntKind.wrap_u8];omega
set_option maxHeartbeats 4000000 in
theorem qV (A:Option Addr)(L c:Nat)(g:Nat→Int)(w:World)(h:By w A L g)(hg:aC g)(hc:L≤c)(hb:L≤1000000) :
 Calls Tryz.prog 103 #[.slice A L c] w (ij w (iL g L) L (aN g)):=by
 have HP:=hid (hH A L c g w h hg hc hb)
 have cx:=hid (fun (W:World) (hw:Below w.heap.size w W)=>Sl.below h hw (Nat.le_refl _))
 have HG:=hid hg
 have HH:=hid h
 clear h hg
 obtain ⟨z,hz⟩:∃z,z=az g L:=⟨_,rfl⟩
 unfold Parsed at HP
 rw[←hz]at HP
 cases hz0:(z != 0)
 ·have z0:az g L=0:=by rw[←hz];simpa using hz0
  have pf:=eW z0
  have n24:=pf.1
  have n15:=pf.2.1
  have HE:Hid (iL g L=if g 1≤1 then 7 else 0):=hid (by unfold iL;rw[if_neg (fun h=>h z0)])
  have E9:=hid (gn z0).1
  clear pf z0
  generalize ax g L=p at HP E9
  have hl0:=HG.out 1
  rw[←E9.out]at hl0 HE
  obtain ⟨hl0,hl1⟩:=hl0
  by_cases hl:p.life≤1
  ·rw[if_pos hl]at HE
   have hl2:p.life<2:=by omega
   clear hz hl
   go_enter Tryz.func103,Tryz.ntmps103
   go_wp2_with fail
   refine HP.out.mono ?_
   rintro x w1 ⟨O,D,rfl,hO,hD,hb1⟩
   obtain ⟨AO,cO,rfl,_,_,_⟩:=hO.aF
   obtain ⟨AD,cD,rfl,_,_,_⟩:=hD.aF
   have B1:=hid (hb1.alloc hb1.size (.cells #[p.kind,p.life,p.piece,p.src,p.dst,p.fp,p.tp,p.flags,p.label,p.bare,p.code,.slice AO p.no cO,.slice AD p.nd cD] 53))
   clear hb1 HP hO hD
   unfold ct de
   go_simp
   have CE:=hid (Ce.made (w:=w1) (l:=[p.kind,p.life,p.piece,p.src,p.dst,p.fp,p.tp,p.flags,p.label,p.bare,p.code,.slice AO p.no cO,.slice AD p.nd cD]) (T:=53) rfl)
   simp only[List.toArray]at CE
   have k1:=CE.out.2.1 1 _ rfl
   go_wp2_with fail
   refine bodyPost_ret (v:=.tuple #[.slice none 0 0,.int .i64 7]) (by simp[results,Tryz.results103,go_sem]) rfl ?_
   rw[HE.out]
   exact aV (by decide) B1.out
  rw[if_neg hl]at HE
  have hl2:¬p.life<2:=by omega
  clear hz
  obtain ⟨b,off,rfl,hblt,_⟩:=HH.out (by omega)
  go_enter Tryz.func103,Tryz.ntmps103
  go_wp2_with fail
  refine HP.out.mono ?_
  rintro x w1 ⟨O,D,rfl,hO,hD,hb1⟩
  obtain ⟨AO,cO,rfl,_,_,_⟩:=hO.aF
  obtain ⟨AD,cD,rfl,_,_,_⟩:=hD.aF
  have B1:=hid (hb1.alloc hb1.size (.cells #[p.kind,p.life,p.piece,p.src,p.dst,p.fp,p.tp,p.flags,p.label,p.bare,p.code,.slice AO p.no cO,.slice AD p.nd cD] 53))
  clear hb1 HP hO hD
  unfold ct de
  go_simp
  have CE:=hid (Ce.made (w:=w1) (l:=[p.kind,p.life,p.piece,p.src,p.dst,p.fp,p.tp,p.flags,p.label,p.bare,p.code,.slice AO p.no cO,.slice AD p.nd cD]) (T:=53) rfl)
  simp only[List.toArray]at CE
  have k1:=CE.out.2.1 1 _ rfl
  go_upto_region 6 with (fail)
  clear k1
  generalize (w1.alloc (.cells #[p.kind,p.life,p.piece,p.src,p.dst,p.fp,p.tp,p.flags,p.label,p.bare,p.code,.slice AO p.no cO,.slice AD p.nd cD] 53))=wA at *
  have lA:w.heap.size≤wA.heap.size:=B1.out.size
  have lP:w1.heap.size<wA.heap.size:=CE.out.1
  go_upto_region 7 with (at_builtin;refine eK rfl (.tmp 18) (.tmp 19) rfl wA.heap.size _ rfl (fun f=>Ow.new' (w:=wA) rfl) _ L _ g rfl (Sl.alloc (cx.out _ B1.out) _) (by omega) (by simp) ?_;intro A2 c2 w2 h1 h2 h3 h4 h5 h6;have ec:=hid h1;have hc2:=h2;have BA:=hid (Below.trans ((Below.refl wA.heap.size wA).alloc (Nat.le_refl _) (.cells #[] 5)) h4);clear h1 h2 h3 h4 h5 h6)
  have aE:=hid (CE.out.below BA.out)
  have B2:=hid (B1.out.trans (BA.out.mono lA))
  obtain ⟨G,e,hB,hgs,hce,hfr⟩:=Ow.block_ ec.out (by omega)
  subst e
  have O2:=hid (OB.base ec.out lA)
  have cz:w.heap.size≤G:=by omega
  have hne:b≠G:=by omega
  have m_:w1.heap.size≠G:=by omega
  have c1:=hce 1 (by omega)
  have f1:=hfr 1
  clear hce hfr ec hgs
  have g1:1≤g 1:=by rw[←E9.out];omega
  have g1':g 1≤255:=by rw[←E9.out];exact hl1
  have u1:=GN g1 g1'
  have i1:(1:Int)<L:=by omega
  go_upto_region 8 with (fail)
  have O3:=hid (OB.store O2.out 1 (g 1-1))
  have B3:=hid (B2.out.trans (af (kW w2 ⟨G,1,none⟩ (.int .u8 (g 1-1))) cz B2.out.size))
  clear c1 f1 aE O2 B2 CE BA
  generalize w2.setCell ⟨G,1,none⟩ (.int .u8 (g 1-1))=w3 at *
  have XB:=hid (mW HG.out 1 (g 1-1) (by omega) (by omega))
  have Ph:=hid (aX (some ⟨b,off,none⟩) L c g w3 (cx.out _ B3.out) HG.out 14 2 (by omega) (by omega) hb)
  have N0:=hid (aX (some ⟨b,off,none⟩) L c g w3 (cx.out _ B3.out) HG.out 0 2 (by omega) (by omega) hb)
  have X0:=hid (aX (some ⟨G,0,none⟩) L c2 _ w3 O3.out.sl1 XB.out 0 2 (by omega) (by omega) hb)
  have b0:=bE HG.out 14
  have b1:=bE HG.out 0
  have b2:=bE XB.out 0
  have TU:=hid (fun w=>dU (num g 14 2) (num g 0 2) (num (set1 g 1 (g 1-1)) 0 2) w b0.1 b0.2 b1.1 b1.2 b2.1 b2.2)
  clear b0 b1 b2
  go_wp2_with fail
  refine Ph.out.mono ?_
  rintro e w' ⟨rfl,rfl⟩
  go_wp2_with fail
  refine N0.out.mono ?_
  rintro e w' ⟨rfl,rfl⟩
  go_wp2_with fail
  refine X0.out.mono ?_
  rintro e w' ⟨rfl,rfl⟩
  go_wp2_with fail
  refine(TU.out _).mono ?_
  rintro e w' ⟨rfl,rfl⟩
  go_wp2_with fail
  refine(aM O3.out 14 2 _ (by omega) (by omega) hb).mono ?_
  rintro e w4 ⟨rfl,hO,hg4⟩
  have O4:=hid hO
  have B4:=hid (B3.out.trans (af hg4 cz B3.out.size))
  clear hO hg4
  go_wp2_with fail
  refine bodyPost_ret (v:=.tuple #[.slice (some ⟨G,0,none⟩) L c2,()]) (by simp[results,Tryz.results103,go_sem]) rfl ?_
  rw[HE.out]
  exact⟨_,rfl,O4.out,B4.out⟩
 have HE:Hid (iL g L=z):=hid (by unfold iL;rw[←hz,if_pos (by simpa using hz0)])
 have HZ0:Hid (z≠0):=hid (by simpa using hz0)
 generalize ax g L=p at HP
 clear hz
 go_enter Tryz.func103,Tryz.ntmps103
 go_wp2_with fail
 refine HP.out.mono ?_
 rintro x w1 ⟨O,D,rfl,hO,hD,hb1⟩
 obtain ⟨AO,cO,rfl,_,_,_⟩:=hO.aF
 obtain ⟨AD,cD,rfl,_,_,_⟩:=hD.aF
 have B1:=hid (hb1.alloc hb1.size (.cells #[p.kind,p.life,p.piece,p.src,p.dst,p.fp,p.tp,p.flags,p.label,p.bare,p.code,.slice AO p.no cO,.slice AD p.nd cD] 53))
 clear hb1 HP hO hD
 unfold ct de
 go_simp
 go_wp2_with fail
 refine bodyPost_ret (v:=.tuple #[.slice none 0 0,z]) (by simp[results,Tryz.results103,go_sem]) rfl ?_
 rw[HE.out]
 exact aV HZ0.out B1.out
end Go.Proofs.YtalnfkijiehjhaaGreat
