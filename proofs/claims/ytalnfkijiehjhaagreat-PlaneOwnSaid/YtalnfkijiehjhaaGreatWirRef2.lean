/- The reference's Write. -/
import Derived.Test.YtalnfkijiehjhaaGreatGa
import Derived.Test.YtalnfkijiehjhaaGreatWirRef1
import Derived.BigQuiet
import Derived.Deep.RegionHeld3
import Derived.Deep.Cut
namespace Go.Proofs.YtalnfkijiehjhaaGreat
set_option linter.unusedVariables false
set_option linter.unusedSimpArgs false
open Go.RowKit Go.ChangeShapes Go.WideShapes Go.ChangeAt
theorem ka (q:Nat):(q:Int).tmod 2=((q%2:Nat):Int):=by
 rw[Int.tmod_eq_emod_of_nonneg (by omega)];omega
theorem qYR{P:Prop}(h:P:=by
 refine⟨⟨⟨⟨by omega,by omega⟩,by omega⟩,by omega⟩,by omega⟩
 ):P:=h
theorem qQ8{P:Prop}(h:P:=by
 go_enter Tryz.func105,Tryz.ntmps105
 go_wp2_with fail
 refine HP.out.mono ?_
 rintro x w1 ⟨O,D,rfl,hO,hD,hb1⟩
 obtain ⟨AO,cO,rfl,_,_,_⟩:=hO.aF
 obtain ⟨AD,cD,rfl,_,_,_⟩:=hD.aF
 have B1:=hid (hb1.alloc hb1.size (.cells #[p.kind,p.life,p.piece,p.src,p.dst,p.fp,p.tp,p.flags,p.label,p.bare,p.code,.slice AO p.no cO,.slice AD p.nd cD] 53))
 clear hb1 HP hO hD
 unfold ct de
 go_simp
 go_wp2_with fail
 refine bodyPost_ret (v:=.tuple #[.slice none 0 0,z]) (by simp[results,Tryz.results105,go_sem]) rfl ?_
 rw[HE.out]
 exact aV HZ0.out B1.out
 ):P:=h
theorem qJD{P:Prop}(h:P:=by
 go_wp2_with fail
 refine bodyPost_ret (v:=.tuple #[.slice none 0 0,.int .i64 14]) (by simp[results,Tryz.results105,go_sem]) rfl ?_
 rw[HE.out]
 exact aV (by decide) B1.out
 ):P:=h
theorem qQB{P:Prop}(h:P:=by
 exact qJD
 ):P:=h
theorem qQN{P:Prop}(h:P:=by
 go_enter Tryz.func105,Tryz.ntmps105
 go_wp2_with fail
 refine HP.out.mono ?_
 rintro x w1 ⟨O,D,rfl,hO,hD,hb1⟩
 obtain ⟨AO,cO,rfl,_,_,_⟩:=hO.aF
 obtain ⟨AD,cD,rfl,_,_,_⟩:=hD.aF
 have B1:=hid (hb1.alloc hb1.size (.cells #[p.kind,p.life,p.piece,p.src,p.dst,p.fp,p.tp,p.flags,p.label,p.bare,p.code,.slice AO p.no cO,.slice AD p.nd cD] 53))
 clear hb1 HP hO hD
 unfold ct de
 go_simp
 exact qJD
 ):P:=h
theorem qY9{P:Prop}(h:P:=by
 go_wp2_with fail
 refine(ep HO.out PB.out (by omega) (.inr n24) hc2 hb true).mono ?_
 rintro e w5 ⟨rfl,ho2,hg2⟩
 have bQ:=hid ho2
 have B6:=hid (B5.out.trans (af hg2 cz B5.out.size))
 clear ho2 hg2
 go_wp2_with fail
 refine bodyPost_ret (v:=.tuple #[.slice (some ⟨G,0,none⟩) L c2,()]) (by simp[results,Tryz.results105,go_sem]) rfl ?_
 rw[HE.out,WF.out]
 refine⟨_,rfl,?_,B6.out⟩
 have:=bQ.out
 rw[if_pos True.intro]at this
 exact this
 ):P:=h
theorem qY7{P:Prop}(h:P:=by
 have kk:k=K:=by omega
 subst kk
 clear dG hlt
 have HB:=hid (cJ (s:=s) (L:=L) (g:=g) k a0 _ PB.out)
 go_wp2_with fail
 refine(ep HO.out HB.out (by omega) (.inr n24) hc2 hb false).mono ?_
 rintro e w5 ⟨rfl,ho2,hg2⟩
 have bQ:=hid ho2
 have B6:=hid (B5.out.trans (af hg2 cz B5.out.size))
 clear ho2 hg2
 go_wp2_with fail
 refine bodyPost_ret (v:=.tuple #[.slice (some ⟨G,0,none⟩) L c2,()]) (by simp[results,Tryz.results105,go_sem]) rfl ?_
 rw[HE.out,WF.out]
 refine⟨_,rfl,?_,B6.out⟩
 have:=bQ.out
 rw[if_neg (by decide)]at this
 exact this
 ):P:=h
theorem qQU{P:Prop}(h:P:=by
 obtain ⟨q,hq⟩:∃q:Nat,a=(q:Int):=⟨a.toNat,by omega⟩
 subst hq
 rw[Int.toNat_natCast]at *
 obtain ⟨b,off,rfl,hblt,_⟩:=HH.out (by omega)
 have q16:16≤q:=by omega
 have kq:q+1≤L:=by omega
 have tq:=ka q
 obtain ⟨r,hr⟩:∃r,r=q%2:=⟨_,rfl⟩
 rw[←hr]at tq
 have Ca:=hid hr
 have zY:r≤1:=by omega
 obtain ⟨a0,ha0⟩:∃a0,a0=q-q%2:=⟨_,rfl⟩
 have A0:=hid ha0
 have qa:(q:Int)-(r:Int)=(a0:Int):=by omega
 have qw:IntKind.i64.wrap ((q:Int)-(r:Int))=(a0:Int):=by rw[qa];exact IntWalk.i64_in _ (by omega)
 have tf:a0≤q:=by omega
 obtain ⟨K,hK⟩:∃K,K=(1+q%2+1)/2:=⟨_,rfl⟩
 have KK:=hid hK
 have gw:=hid (show cB g L q 1 v=if du g=true then ao g q 1 v else cZ (aQ s L g K a0 (ao g q 1 v)) from by rw[hK,ha0,HS.out];rfl)
 clear hr ha0 hK qa
 have PB:=hid (dy HG.out q 1 v)
 have kZ:s+2≤q∨q+1≤s:=by have:=SO.out;omega
 replace kZ:=hid kZ
 go_enter Tryz.func105,Tryz.ntmps105
 go_wp2_with fail
 refine HP.out.mono ?_
 rintro x w1 ⟨O,D,rfl,hO,hD,hb1⟩
 obtain ⟨AO,cO,rfl,_,_,_⟩:=hO.aF
 obtain ⟨AD,cD,rfl,_,_,_⟩:=hD.aF
 have B1:=hid (hb1.alloc hb1.size (.cells #[p.kind,p.life,p.piece,p.src,p.dst,p.fp,p.tp,p.flags,p.label,p.bare,p.code,.slice AO p.no cO,.slice AD p.nd cD] 53))
 clear hb1 HP hO hD
 unfold ct de
 go_simp
 have CE:=hid (Ce.made (w:=w1) (l:=[p.kind,p.life,p.piece,p.src,p.dst,p.fp,p.tp,p.flags,p.label,p.bare,p.code,.slice AO p.no cO,.slice AD p.nd cD]) (T:=53) rfl)
 simp only[List.toArray]at CE
 have k0:=CE.out.2.1 0 _ rfl
 go_wp2_with fail
 refine(PA.out _).mono ?_
 rintro e w' ⟨rfl,rfl⟩
 clear k0
 go_upto_region 9 with (fail)
 generalize (w1.alloc (.cells #[p.kind,p.life,p.piece,p.src,p.dst,p.fp,p.tp,p.flags,p.label,p.bare,p.code,.slice AO p.no cO,.slice AD p.nd cD] 53))=wA at *
 have lA:w.heap.size≤wA.heap.size:=B1.out.size
 have lP:w1.heap.size<wA.heap.size:=CE.out.1
 go_upto_region 10 with (at_builtin;refine eK rfl (.tmp 72) (.tmp 73) rfl wA.heap.size _ rfl (fun f=>Ow.new' (w:=wA) rfl) _ L _ g rfl (Sl.alloc (cx.out _ B1.out) _) (by omega) (by simp) ?_;intro A2 c2 w2 h1 h2 h3 h4 h5 h6;have ec:=hid h1;have hc2:=h2;have BA:=hid (Below.trans ((Below.refl wA.heap.size wA).alloc (Nat.le_refl _) (.cells #[] 5)) h4);clear h1 h2 h3 h4 h5 h6)
 have aE:=hid (CE.out.below BA.out)
 have B2:=hid (B1.out.trans (BA.out.mono lA))
 obtain ⟨G,e,hB,hgs,hce,hfr⟩:=Ow.block_ ec.out (by omega)
 subst e
 have O2:=hid (OB.base ec.out lA)
 have cz:w.heap.size≤G:=by omega
 have hne:b≠G:=by omega
 have m_:w1.heap.size≠G:=by omega
 clear hce hfr hgs ec CE aE BA
 go_wp2_with fail
 refine(aM O2.out q 1 v kq (by omega) hb).mono ?_
 rintro e w3 ⟨rfl,hO,hg3⟩
 have O3:=hid hO
 have G3:=hid hg3
 have B3:=hid (B2.out.trans (af hg3 cz B2.out.size))
 clear hO hg3 O2
 have BR:=hid (fO (some ⟨b,off,none⟩) L c g w3 (cx.out _ B3.out) HG.out (by omega) (.inr n24) hb)
 cases hbf:du g
 ·rw[hbf]at BR
  have WF:Hid (cB g L q 1 v=cZ (aQ s L g K a0 (ao g q 1 v))):=hid (by rw[gw.out,hbf,if_neg (by decide)])
  clear hbf gw
  go_wp2_with fail
  refine BR.out.mono ?_
  rintro e w' ⟨rfl,rfl⟩
  go_wp2_with fail
  go_loopw [15] (fun i wr=>∃k:Nat,k≤K∧i =.int .i64 ((a0+2*k:Nat):Int)∧OB wr w.heap.size (.slice (some ⟨G,0,none⟩) L c2) L (aQ s L g k a0 (ao g q 1 v))∧w2.grownBy wr (some G)) (fun i _=>(q+1+2)-(intOf i).toNat)
  case atStart=>exact⟨0,by omega,by go_num,O3.out,G3.out⟩
  obtain ⟨k,hk,rfl,ho,hgr⟩:=hrel
  obtain ⟨i,hi⟩:∃i,i=a0+2*k:=⟨_,rfl⟩
  rw[←hi]
  have HI:=hid hi
  have HO:=hid ho
  have HR:=hid hgr
  have dG:k<K↔i<q+1:=by have:=A0.out;have:=KK.out;omega
  clear hi ho hgr O3 G3
  have B5:=hid (B2.out.trans (af HR.out cz B2.out.size))
  by_cases hlt:i<q+1
  ·have i1:(i:Int)<(q:Int)+1:=by omega
   have i2:i<L:=by omega
   have i3:IntKind.i64.wrap ((i:Int)+2)=(i:Int)+2:=IntWalk.i64_in _ (by omega)
   have HB:=hid (cJ (s:=s) (L:=L) (g:=g) k a0 _ PB.out)
   have kl:=dG.2 hlt
   have bs:=bE HB.out s
   have bx:=dh HB.out L i
   have bg:=dh HG.out L i
   have NS:=hid (aX (some ⟨G,0,none⟩) L c2 _ wr HO.out.sl1 HB.out s 2 (by omega) (by omega) hb)
   have PG:=hid (ey (some ⟨b,off,none⟩) L c g wr (cx.out _ B5.out) HG.out i i2 hb)
   have PO:=hid (ey (some ⟨G,0,none⟩) L c2 _ wr HO.out.sl1 HB.out i i2 hb)
   have TU:=hid (fun w=>dU (num (aQ s L g k a0 (ao g q 1 v)) s 2) (aL g L i) (aL (aQ s L g k a0 (ao g q 1 v)) L i) w bs.1 bs.2 bg.1 bg.2 bx.1 bx.2)
   have PU:=hid (aM HO.out s 2 (turn (num (aQ s L g k a0 (ao g q 1 v)) s 2) (aL g L i) (aL (aQ s L g k a0 (ao g q 1 v)) L i)) (by omega) (by omega) hb)
   clear dG bx bg bs hlt
   go_wp2_with fail
   refine NS.out.mono ?_
   rintro e w' ⟨rfl,rfl⟩
   go_wp2_with fail
   refine PG.out.mono ?_
   rintro e w' ⟨rfl,rfl⟩
   go_wp2_with fail
   refine PO.out.mono ?_
   rintro e w' ⟨rfl,rfl⟩
   go_wp2_with fail
   refine(TU.out _).mono ?_
   rintro e w' ⟨rfl,rfl⟩
   go_wp2_with fail
   refine PU.out.mono ?_
   rintro e w5 ⟨rfl,ho2,hg2⟩
   have bQ:=hid ho2
   have HR2:=hid (HR.out.trans hg2)
   clear ho2 hg2
   go_wp2_with fail
   go_roundw
   case rel=>
    refine⟨k+1,kl,by rw[HI.out];go_num,?_,HR2.out⟩
    have e:=fB s L g k a0 (ao g q 1 v)
    rw[←e,←HI.out]
    exact bQ.out
   simp[intOf];omega
  have i1:¬(i:Int)<(q:Int)+1:=by omega
  exact qY7
 rw[hbf]at BR
 have WF:Hid (cB g L q 1 v=ao g q 1 v):=hid (by rw[gw.out,hbf,if_pos rfl])
 clear hbf gw
 go_wp2_with fail
 refine BR.out.mono ?_
 rintro e w' ⟨rfl,rfl⟩
 go_wp2_with fail
 go_loopw [15] (fun i wr=>i =.int .i64 (a0:Int)∧OB wr w.heap.size (.slice (some ⟨G,0,none⟩) L c2) L (ao g q 1 v)∧w2.grownBy wr (some G)) (fun i _=>0)
 case atStart=>exact⟨by go_num,O3.out,G3.out⟩
 obtain ⟨rfl,ho,hgr⟩:=hrel
 have HO:=hid ho
 have HR:=hid hgr
 clear ho hgr O3 G3
 have B5:=hid (B2.out.trans (af HR.out cz B2.out.size))
 cases lt:decide ((a0:Int)<(q:Int)+1)
 all_goals
  exact qY9
 ):P:=h
theorem qJH{P:Prop}(h:P:=by
 have HZ0:Hid (z≠0):=hid (by simpa using hz0)
 generalize ax g L=p at HP
 clear hz
 exact qQ8
 ):P:=h
theorem qY2{P:Prop}(h:P:=by
 rw[hd,if_neg (by decide)]at HE
 clear hd
 go_enter Tryz.func105,Tryz.ntmps105
 go_wp2_with fail
 refine HP.out.mono ?_
 rintro x w1 ⟨O,D,rfl,hO,hD,hb1⟩
 obtain ⟨AO,cO,rfl,_,_,_⟩:=hO.aF
 obtain ⟨AD,cD,rfl,_,_,_⟩:=hD.aF
 have B1:=hid (hb1.alloc hb1.size (.cells #[p.kind,p.life,p.piece,p.src,p.dst,p.fp,p.tp,p.flags,p.label,p.bare,p.code,.slice AO p.no cO,.slice AD p.nd cD] 53))
 clear hb1 HP hO hD
 unfold ct de
 go_simp
 have CE:=hid (Ce.made (w:=w1) (l:=[p.kind,p.life,p.piece,p.src,p.dst,p.fp,p.tp,p.flags,p.label,p.bare,p.code,.slice AO p.no cO,.slice AD p.nd cD]) (T:=53) rfl)
 simp only[List.toArray]at CE
 have k0:=CE.out.2.1 0 _ rfl
 go_wp2_with fail
 refine(PA.out _).mono ?_
 rintro e w' ⟨rfl,rfl⟩
 exact qQB
 ):P:=h
set_option maxHeartbeats 8000000 in
theorem wC (A:Option Addr)(L c:Nat)(g:Nat→Int)(w:World)(h:By w A L g)(hg:aC g)(hc:L≤c)(hb:L≤1000000)(a v:Int)(ra: -9223372036854775808≤a∧a≤9223372036854775807) :
 Calls Tryz.prog 105 #[.slice A L c,a,.int .i64 1,v] w (ij w (fG g L a 1 v) L (cB g L a.toNat 1 v)):=by
 have HP:=hid (hH A L c g w h hg hc hb)
 have cx:=hid (fun (W:World) (hw:Below w.heap.size w W)=>Sl.below h hw (Nat.le_refl _))
 have HG:=hid hg
 have HH:=hid h
 clear h hg
 obtain ⟨z,hz⟩:∃z,z=az g L:=⟨_,rfl⟩
 unfold Parsed at HP
 rw[←hz]at HP
 cases hz0:(z != 0)
 ·have z0:az g L=0:=by rw[←hz];simpa using hz0
  have pf:=eW z0
  have n24:=pf.1
  have n15:=pf.2.1
  have HE:Hid (fG g L a 1 v=if di g L a 1 v=true then 0 else 14):=hid (by unfold fG;rw[if_neg (fun h=>h z0)])
  have PK:=hid (gn z0).2
  clear pf z0
  generalize ax g L=p at HP PK
  have sl:=gC g
  obtain ⟨s,hs⟩:∃s,s=a_ (g 0):=⟨_,rfl⟩
  have PA:=hid (fun w=>c_ (jl p.kind w) (show ((a_ p.kind:Nat):Int)=(s:Int) from by rw[PK.out,hs]))
  have HM:Hid (di g L a 1 v=(!decide (v<0) &&!decide (256≤v) &&!decide (a<16) &&!decide ((L:Int)-1<a) &&!(decide (a<(s:Int)+2)&&decide ((s:Int)<a+1)))):=hid (by
   rw[hs,Bool.eq_iff_iff]
   unfold di
   simp only[Bool.and_eq_true,Bool.or_eq_true,decide_eq_true_eq,beq_iff_eq,Bool.not_eq_true',decide_eq_false_iff_not,Bool.and_eq_false_iff]
   constructor
   ·rintro ⟨⟨⟨⟨h1,h2⟩,h3⟩,h4⟩,h5⟩
    exact qYR
   rintro ⟨⟨⟨⟨h1,h2⟩,h3⟩,h4⟩,h5⟩
   refine⟨⟨⟨⟨?_,by omega⟩,by omega⟩,by omega⟩,by omega⟩
   simp
   omega)
  have HS:=hid hs
  rw[←hs]at sl
  have qs:IntKind.i64.wrap ((s:Int)+2)=(s:Int)+2:=IntWalk.i64_in _ (by omega)
  clear hz hs
  cases d1:decide (v<0)
  ·cases d2:decide ((256:Int)≤v)
   ·cases d3:decide (a<16)
    ·have e3:16≤a:=by simpa using d3
     cases d4:decide ((L:Int)-1<a)
     ·have e4:a≤(L:Int)-1:=by simpa using d4
      have q2:IntKind.i64.wrap (a+1)=a+1:=IntWalk.i64_in _ (by omega)
      cases d5:decide (a<(s:Int)+2)
      ·have hd:di g L a 1 v=true:=by rw[HM.out,d1,d2,d3,d4,d5];rfl
       rw[hd,if_pos rfl]at HE
       have e5:(s:Int)+2≤a:=by simpa using d5
       have SO:s+2≤a∨a+1≤s:=.inl e5
       replace SO:=hid SO
       have e1:¬v<0:=by simpa using d1
       have e2:¬(256:Int)≤v:=by simpa using d2
       clear hd d1 d2 d3 d4 d5
       exact qQU
      cases d6:decide ((s:Int)<a+1)
      ·have hd:di g L a 1 v=true:=by rw[HM.out,d1,d2,d3,d4,d5,d6];rfl
       rw[hd,if_pos rfl]at HE
       have e6:a+1≤(s:Int):=by simpa using d6
       have e5:a<(s:Int)+2:=by simpa using d5
       have SO:(s:Int)+2≤a∨a+1≤(s:Int):=.inr e6
       replace SO:=hid SO
       have e1:¬v<0:=by simpa using d1
       have e2:¬(256:Int)≤v:=by simpa using d2
       clear hd d1 d2 d3 d4 d5 d6
       exact qQU
      have hd:di g L a 1 v=false:=by rw[HM.out,d1,d2,d3,d4,d5,d6];rfl
      exact qY2
     have hd:di g L a 1 v=false:=by rw[HM.out,d1,d2,d3,d4];rfl
     rw[hd,if_neg (by decide)]at HE
     clear hd
     exact qQN
    have hd:di g L a 1 v=false:=by rw[HM.out,d1,d2,d3];rfl
    rw[hd,if_neg (by decide)]at HE
    clear hd
    exact qQN
   have hd:di g L a 1 v=false:=by rw[HM.out,d1,d2];rfl
   rw[hd,if_neg (by decide)]at HE
   clear hd
   exact qQN
  have hd:di g L a 1 v=false:=by rw[HM.out,d1];rfl
  rw[hd,if_neg (by decide)]at HE
  clear hd
  exact qQN
 have HE:Hid (fG g L a 1 v=z):=hid (by unfold fG;rw[←hz,if_pos (by simpa using hz0)])
 exact qJH
theorem qQW{P:Prop}(h:P:=by
 obtain ⟨q,hq⟩:∃q:Nat,a=(q:Int):=⟨a.toNat,by omega⟩
 subst hq
 rw[Int.toNat_natCast]at *
 obtain ⟨b,off,rfl,hblt,_⟩:=HH.out (by omega)
 have q16:16≤q:=by omega
 have kq:q+2≤L:=by omega
 have tq:=ka q
 obtain ⟨r,hr⟩:∃r,r=q%2:=⟨_,rfl⟩
 rw[←hr]at tq
 have Ca:=hid hr
 have zY:r≤1:=by omega
 obtain ⟨a0,ha0⟩:∃a0,a0=q-q%2:=⟨_,rfl⟩
 have A0:=hid ha0
 have qa:(q:Int)-(r:Int)=(a0:Int):=by omega
 have qw:IntKind.i64.wrap ((q:Int)-(r:Int))=(a0:Int):=by rw[qa];exact IntWalk.i64_in _ (by omega)
 have tf:a0≤q:=by omega
 obtain ⟨K,hK⟩:∃K,K=(2+q%2+1)/2:=⟨_,rfl⟩
 have KK:=hid hK
 have gw:=hid (show cB g L q 2 v=if du g=true then ao g q 2 v else cZ (aQ s L g K a0 (ao g q 2 v)) from by rw[hK,ha0,HS.out];rfl)
 clear hr ha0 hK qa
 have PB:=hid (dy HG.out q 2 v)
 have kZ:s+2≤q∨q+2≤s:=by have:=SO.out;omega
 replace kZ:=hid kZ
 go_enter Tryz.func105,Tryz.ntmps105
 go_wp2_with fail
 refine HP.out.mono ?_
 rintro x w1 ⟨O,D,rfl,hO,hD,hb1⟩
 obtain ⟨AO,cO,rfl,_,_,_⟩:=hO.aF
 obtain ⟨AD,cD,rfl,_,_,_⟩:=hD.aF
 have B1:=hid (hb1.alloc hb1.size (.cells #[p.kind,p.life,p.piece,p.src,p.dst,p.fp,p.tp,p.flags,p.label,p.bare,p.code,.slice AO p.no cO,.slice AD p.nd cD] 53))
 clear hb1 HP hO hD
 unfold ct de
 go_simp
 have CE:=hid (Ce.made (w:=w1) (l:=[p.kind,p.life,p.piece,p.src,p.dst,p.fp,p.tp,p.flags,p.label,p.bare,p.code,.slice AO p.no cO,.slice AD p.nd cD]) (T:=53) rfl)
 simp only[List.toArray]at CE
 have k0:=CE.out.2.1 0 _ rfl
 go_wp2_with fail
 refine(PA.out _).mono ?_
 rintro e w' ⟨rfl,rfl⟩
 clear k0
 go_upto_region 9 with (fail)
 generalize (w1.alloc (.cells #[p.kind,p.life,p.piece,p.src,p.dst,p.fp,p.tp,p.flags,p.label,p.bare,p.code,.slice AO p.no cO,.slice AD p.nd cD] 53))=wA at *
 have lA:w.heap.size≤wA.heap.size:=B1.out.size
 have lP:w1.heap.size<wA.heap.size:=CE.out.1
 go_upto_region 10 with (at_builtin;refine eK rfl (.tmp 72) (.tmp 73) rfl wA.heap.size _ rfl (fun f=>Ow.new' (w:=wA) rfl) _ L _ g rfl (Sl.alloc (cx.out _ B1.out) _) (by omega) (by simp) ?_;intro A2 c2 w2 h1 h2 h3 h4 h5 h6;have ec:=hid h1;have hc2:=h2;have BA:=hid (Below.trans ((Below.refl wA.heap.size wA).alloc (Nat.le_refl _) (.cells #[] 5)) h4);clear h1 h2 h3 h4 h5 h6)
 have aE:=hid (CE.out.below BA.out)
 have B2:=hid (B1.out.trans (BA.out.mono lA))
 obtain ⟨G,e,hB,hgs,hce,hfr⟩:=Ow.block_ ec.out (by omega)
 subst e
 have O2:=hid (OB.base ec.out lA)
 have cz:w.heap.size≤G:=by omega
 have hne:b≠G:=by omega
 have m_:w1.heap.size≠G:=by omega
 clear hce hfr hgs ec CE aE BA
 go_wp2_with fail
 refine(aM O2.out q 2 v kq (by omega) hb).mono ?_
 rintro e w3 ⟨rfl,hO,hg3⟩
 have O3:=hid hO
 have G3:=hid hg3
 have B3:=hid (B2.out.trans (af hg3 cz B2.out.size))
 clear hO hg3 O2
 have BR:=hid (fO (some ⟨b,off,none⟩) L c g w3 (cx.out _ B3.out) HG.out (by omega) (.inr n24) hb)
 cases hbf:du g
 ·rw[hbf]at BR
  have WF:Hid (cB g L q 2 v=cZ (aQ s L g K a0 (ao g q 2 v))):=hid (by rw[gw.out,hbf,if_neg (by decide)])
  clear hbf gw
  go_wp2_with fail
  refine BR.out.mono ?_
  rintro e w' ⟨rfl,rfl⟩
  go_wp2_with fail
  go_loopw [15] (fun i wr=>∃k:Nat,k≤K∧i =.int .i64 ((a0+2*k:Nat):Int)∧OB wr w.heap.size (.slice (some ⟨G,0,none⟩) L c2) L (aQ s L g k a0 (ao g q 2 v))∧w2.grownBy wr (some G)) (fun i _=>(q+2+2)-(intOf i).toNat)
  case atStart=>exact⟨0,by omega,by go_num,O3.out,G3.out⟩
  obtain ⟨k,hk,rfl,ho,hgr⟩:=hrel
  obtain ⟨i,hi⟩:∃i,i=a0+2*k:=⟨_,rfl⟩
  rw[←hi]
  have HI:=hid hi
  have HO:=hid ho
  have HR:=hid hgr
  have dG:k<K↔i<q+2:=by have:=A0.out;have:=KK.out;omega
  clear hi ho hgr O3 G3
  have B5:=hid (B2.out.trans (af HR.out cz B2.out.size))
  by_cases hlt:i<q+2
  ·have i1:(i:Int)<(q:Int)+2:=by omega
   have i2:i<L:=by omega
   have i3:IntKind.i64.wrap ((i:Int)+2)=(i:Int)+2:=IntWalk.i64_in _ (by omega)
   have HB:=hid (cJ (s:=s) (L:=L) (g:=g) k a0 _ PB.out)
   have kl:=dG.2 hlt
   have bs:=bE HB.out s
   have bx:=dh HB.out L i
   have bg:=dh HG.out L i
   have NS:=hid (aX (some ⟨G,0,none⟩) L c2 _ wr HO.out.sl1 HB.out s 2 (by omega) (by omega) hb)
   have PG:=hid (ey (some ⟨b,off,none⟩) L c g wr (cx.out _ B5.out) HG.out i i2 hb)
   have PO:=hid (ey (some ⟨G,0,none⟩) L c2 _ wr HO.out.sl1 HB.out i i2 hb)
   have TU:=hid (fun w=>dU (num (aQ s L g k a0 (ao g q 2 v)) s 2) (aL g L i) (aL (aQ s L g k a0 (ao g q 2 v)) L i) w bs.1 bs.2 bg.1 bg.2 bx.1 bx.2)
   have PU:=hid (aM HO.out s 2 (turn (num (aQ s L g k a0 (ao g q 2 v)) s 2) (aL g L i) (aL (aQ s L g k a0 (ao g q 2 v)) L i)) (by omega) (by omega) hb)
   clear dG bx bg bs hlt
   go_wp2_with fail
   refine NS.out.mono ?_
   rintro e w' ⟨rfl,rfl⟩
   go_wp2_with fail
   refine PG.out.mono ?_
   rintro e w' ⟨rfl,rfl⟩
   go_wp2_with fail
   refine PO.out.mono ?_
   rintro e w' ⟨rfl,rfl⟩
   go_wp2_with fail
   refine(TU.out _).mono ?_
   rintro e w' ⟨rfl,rfl⟩
   go_wp2_with fail
   refine PU.out.mono ?_
   rintro e w5 ⟨rfl,ho2,hg2⟩
   have bQ:=hid ho2
   have HR2:=hid (HR.out.trans hg2)
   clear ho2 hg2
   go_wp2_with fail
   go_roundw
   case rel=>
    refine⟨k+1,kl,by rw[HI.out];go_num,?_,HR2.out⟩
    have e:=fB s L g k a0 (ao g q 2 v)
    rw[←e,←HI.out]
    exact bQ.out
   simp[intOf];omega
  have i1:¬(i:Int)<(q:Int)+2:=by omega
  exact qY7
 rw[hbf]at BR
 have WF:Hid (cB g L q 2 v=ao g q 2 v):=hid (by rw[gw.out,hbf,if_pos rfl])
 clear hbf gw
 go_wp2_with fail
 refine BR.out.mono ?_
 rintro e w' ⟨rfl,rfl⟩
 go_wp2_with fail
 go_loopw [15] (fun i wr=>i =.int .i64 (a0:Int)∧OB wr w.heap.size (.slice (some ⟨G,0,none⟩) L c2) L (ao g q 2 v)∧w2.grownBy wr (some G)) (fun i _=>0)
 case atStart=>exact⟨by go_num,O3.out,G3.out⟩
 obtain ⟨rfl,ho,hgr⟩:=hrel
 have HO:=hid ho
 have HR:=hid hgr
 clear ho hgr O3 G3
 have B5:=hid (B2.out.trans (af HR.out cz B2.out.size))
 cases lt:decide ((a0:Int)<(q:Int)+2)
 all_goals
  exact qY9
 ):P:=h
set_option maxHeartbeats 8000000 in
theorem wB (A:Option Addr)(L c:Nat)(g:Nat→Int)(w:World)(h:By w A L g)(hg:aC g)(hc:L≤c)(hb:L≤1000000)(a v:Int)(ra: -9223372036854775808≤a∧a≤9223372036854775807) :
 Calls Tryz.prog 105 #[.slice A L c,a,.int .i64 2,v] w (ij w (fG g L a 2 v) L (cB g L a.toNat 2 v)):=by
 have HP:=hid (hH A L c g w h hg hc hb)
 have cx:=hid (fun (W:World) (hw:Below w.heap.size w W)=>Sl.below h hw (Nat.le_refl _))
 have HG:=hid hg
 have HH:=hid h
 clear h hg
 obtain ⟨z,hz⟩:∃z,z=az g L:=⟨_,rfl⟩
 unfold Parsed at HP
 rw[←hz]at HP
 cases hz0:(z != 0)
 ·have z0:az g L=0:=by rw[←hz];simpa using hz0
  have pf:=eW z0
  have n24:=pf.1
  have n15:=pf.2.1
  have HE:Hid (fG g L a 2 v=if di g L a 2 v=true then 0 else 14):=hid (by unfold fG;rw[if_neg (fun h=>h z0)])
  have PK:=hid (gn z0).2
  clear pf z0
  generalize ax g L=p at HP PK
  have sl:=gC g
  obtain ⟨s,hs⟩:∃s,s=a_ (g 0):=⟨_,rfl⟩
  have PA:=hid (fun w=>c_ (jl p.kind w) (show ((a_ p.kind:Nat):Int)=(s:Int) from by rw[PK.out,hs]))
  have HM:Hid (di g L a 2 v=(!decide (v<0) &&!decide (65536≤v) &&!decide (a<16) &&!decide ((L:Int)-2<a) &&!(decide (a<(s:Int)+2)&&decide ((s:Int)<a+2)))):=hid (by
   rw[hs,Bool.eq_iff_iff]
   unfold di
   simp only[Bool.and_eq_true,Bool.or_eq_true,decide_eq_true_eq,beq_iff_eq,Bool.not_eq_true',decide_eq_false_iff_not,Bool.and_eq_false_iff]
   constructor
   ·rintro ⟨⟨⟨⟨h1,h2⟩,h3⟩,h4⟩,h5⟩
    exact qYR
   rintro ⟨⟨⟨⟨h1,h2⟩,h3⟩,h4⟩,h5⟩
   refine⟨⟨⟨⟨?_,by omega⟩,by omega⟩,by omega⟩,by omega⟩
   simp
   omega)
  have HS:=hid hs
  rw[←hs]at sl
  have qs:IntKind.i64.wrap ((s:Int)+2)=(s:Int)+2:=IntWalk.i64_in _ (by omega)
  clear hz hs
  cases d1:decide (v<0)
  ·cases d2:decide ((65536:Int)≤v)
   ·cases d3:decide (a<16)
    ·have e3:16≤a:=by simpa using d3
     cases d4:decide ((L:Int)-2<a)
     ·have e4:a≤(L:Int)-2:=by simpa using d4
      have q2:IntKind.i64.wrap (a+2)=a+2:=IntWalk.i64_in _ (by omega)
      cases d5:decide (a<(s:Int)+2)
      ·have hd:di g L a 2 v=true:=by rw[HM.out,d1,d2,d3,d4,d5];rfl
       rw[hd,if_pos rfl]at HE
       have e5:(s:Int)+2≤a:=by simpa using d5
       have SO:s+2≤a∨a+2≤s:=.inl e5
       replace SO:=hid SO
       have e1:¬v<0:=by simpa using d1
       have e2:¬(65536:Int)≤v:=by simpa using d2
       clear hd d1 d2 d3 d4 d5
       exact qQW
      cases d6:decide ((s:Int)<a+2)
      ·have hd:di g L a 2 v=true:=by rw[HM.out,d1,d2,d3,d4,d5,d6];rfl
       rw[hd,if_pos rfl]at HE
       have e6:a+2≤(s:Int):=by simpa using d6
       have e5:a<(s:Int)+2:=by simpa using d5
       have SO:(s:Int)+2≤a∨a+2≤(s:Int):=.inr e6
       replace SO:=hid SO
       have e1:¬v<0:=by simpa using d1
       have e2:¬(65536:Int)≤v:=by simpa using d2
       clear hd d1 d2 d3 d4 d5 d6
       exact qQW
      have hd:di g L a 2 v=false:=by rw[HM.out,d1,d2,d3,d4,d5,d6];rfl
      exact qY2
     have hd:di g L a 2 v=false:=by rw[HM.out,d1,d2,d3,d4];rfl
     rw[hd,if_neg (by decide)]at HE
     clear hd
     exact qQN
    have hd:di g L a 2 v=false:=by rw[HM.out,d1,d2,d3];rfl
    rw[hd,if_neg (by decide)]at HE
    clear hd
    exact qQN
   have hd:di g L a 2 v=false:=by rw[HM.out,d1,d2];rfl
   rw[hd,if_neg (by decide)]at HE
   clear hd
   exact qQN
  have hd:di g L a 2 v=false:=by rw[HM.out,d1];rfl
  rw[hd,if_neg (by decide)]at HE
  clear hd
  exact qQN
 have HE:Hid (fG g L a 2 v=z):=hid (by unfold fG;rw[←hz,if_pos (by simpa using hz0)])
 exact qJH
theorem qQK{P:Prop}(h:P:=by
 obtain ⟨q,hq⟩:∃q:Nat,a=(q:Int):=⟨a.toNat,by omega⟩
 subst hq
 rw[Int.toNat_natCast]at *
 obtain ⟨b,off,rfl,hblt,_⟩:=HH.out (by omega)
 have q16:16≤q:=by omega
 have kq:q+4≤L:=by omega
 have tq:=ka q
 obtain ⟨r,hr⟩:∃r,r=q%2:=⟨_,rfl⟩
 rw[←hr]at tq
 have Ca:=hid hr
 have zY:r≤1:=by omega
 obtain ⟨a0,ha0⟩:∃a0,a0=q-q%2:=⟨_,rfl⟩
 have A0:=hid ha0
 have qa:(q:Int)-(r:Int)=(a0:Int):=by omega
 have qw:IntKind.i64.wrap ((q:Int)-(r:Int))=(a0:Int):=by rw[qa];exact IntWalk.i64_in _ (by omega)
 have tf:a0≤q:=by omega
 obtain ⟨K,hK⟩:∃K,K=(4+q%2+1)/2:=⟨_,rfl⟩
 have KK:=hid hK
 have gw:=hid (show cB g L q 4 v=if du g=true then ao g q 4 v else cZ (aQ s L g K a0 (ao g q 4 v)) from by rw[hK,ha0,HS.out];rfl)
 clear hr ha0 hK qa
 have PB:=hid (dy HG.out q 4 v)
 have kZ:s+2≤q∨q+4≤s:=by have:=SO.out;omega
 replace kZ:=hid kZ
 go_enter Tryz.func105,Tryz.ntmps105
 go_wp2_with fail
 refine HP.out.mono ?_
 rintro x w1 ⟨O,D,rfl,hO,hD,hb1⟩
 obtain ⟨AO,cO,rfl,_,_,_⟩:=hO.aF
 obtain ⟨AD,cD,rfl,_,_,_⟩:=hD.aF
 have B1:=hid (hb1.alloc hb1.size (.cells #[p.kind,p.life,p.piece,p.src,p.dst,p.fp,p.tp,p.flags,p.label,p.bare,p.code,.slice AO p.no cO,.slice AD p.nd cD] 53))
 clear hb1 HP hO hD
 unfold ct de
 go_simp
 have CE:=hid (Ce.made (w:=w1) (l:=[p.kind,p.life,p.piece,p.src,p.dst,p.fp,p.tp,p.flags,p.label,p.bare,p.code,.slice AO p.no cO,.slice AD p.nd cD]) (T:=53) rfl)
 simp only[List.toArray]at CE
 have k0:=CE.out.2.1 0 _ rfl
 go_wp2_with fail
 refine(PA.out _).mono ?_
 rintro e w' ⟨rfl,rfl⟩
 clear k0
 go_upto_region 9 with (fail)
 generalize (w1.alloc (.cells #[p.kind,p.life,p.piece,p.src,p.dst,p.fp,p.tp,p.flags,p.label,p.bare,p.code,.slice AO p.no cO,.slice AD p.nd cD] 53))=wA at *
 have lA:w.heap.size≤wA.heap.size:=B1.out.size
 have lP:w1.heap.size<wA.heap.size:=CE.out.1
 go_upto_region 10 with (at_builtin;refine eK rfl (.tmp 72) (.tmp 73) rfl wA.heap.size _ rfl (fun f=>Ow.new' (w:=wA) rfl) _ L _ g rfl (Sl.alloc (cx.out _ B1.out) _) (by omega) (by simp) ?_;intro A2 c2 w2 h1 h2 h3 h4 h5 h6;have ec:=hid h1;have hc2:=h2;have BA:=hid (Below.trans ((Below.refl wA.heap.size wA).alloc (Nat.le_refl _) (.cells #[] 5)) h4);clear h1 h2 h3 h4 h5 h6)
 have aE:=hid (CE.out.below BA.out)
 have B2:=hid (B1.out.trans (BA.out.mono lA))
 obtain ⟨G,e,hB,hgs,hce,hfr⟩:=Ow.block_ ec.out (by omega)
 subst e
 have O2:=hid (OB.base ec.out lA)
 have cz:w.heap.size≤G:=by omega
 have hne:b≠G:=by omega
 have m_:w1.heap.size≠G:=by omega
 clear hce hfr hgs ec CE aE BA
 go_wp2_with fail
 refine(aM O2.out q 4 v kq (by omega) hb).mono ?_
 rintro e w3 ⟨rfl,hO,hg3⟩
 have O3:=hid hO
 have G3:=hid hg3
 have B3:=hid (B2.out.trans (af hg3 cz B2.out.size))
 clear hO hg3 O2
 have BR:=hid (fO (some ⟨b,off,none⟩) L c g w3 (cx.out _ B3.out) HG.out (by omega) (.inr n24) hb)
 cases hbf:du g
 ·rw[hbf]at BR
  have WF:Hid (cB g L q 4 v=cZ (aQ s L g K a0 (ao g q 4 v))):=hid (by rw[gw.out,hbf,if_neg (by decide)])
  clear hbf gw
  go_wp2_with fail
  refine BR.out.mono ?_
  rintro e w' ⟨rfl,rfl⟩
  go_wp2_with fail
  go_loopw [15] (fun i wr=>∃k:Nat,k≤K∧i =.int .i64 ((a0+2*k:Nat):Int)∧OB wr w.heap.size (.slice (some ⟨G,0,none⟩) L c2) L (aQ s L g k a0 (ao g q 4 v))∧w2.grownBy wr (some G)) (fun i _=>(q+4+2)-(intOf i).toNat)
  case atStart=>exact⟨0,by omega,by go_num,O3.out,G3.out⟩
  obtain ⟨k,hk,rfl,ho,hgr⟩:=hrel
  obtain ⟨i,hi⟩:∃i,i=a0+2*k:=⟨_,rfl⟩
  rw[←hi]
  have HI:=hid hi
  have HO:=hid ho
  have HR:=hid hgr
  have dG:k<K↔i<q+4:=by have:=A0.out;have:=KK.out;omega
  clear hi ho hgr O3 G3
  have B5:=hid (B2.out.trans (af HR.out cz B2.out.size))
  by_cases hlt:i<q+4
  ·have i1:(i:Int)<(q:Int)+4:=by omega
   have i2:i<L:=by omega
   have i3:IntKind.i64.wrap ((i:Int)+2)=(i:Int)+2:=IntWalk.i64_in _ (by omega)
   have HB:=hid (cJ (s:=s) (L:=L) (g:=g) k a0 _ PB.out)
   have kl:=dG.2 hlt
   have bs:=bE HB.out s
   have bx:=dh HB.out L i
   have bg:=dh HG.out L i
   have NS:=hid (aX (some ⟨G,0,none⟩) L c2 _ wr HO.out.sl1 HB.out s 2 (by omega) (by omega) hb)
   have PG:=hid (ey (some ⟨b,off,none⟩) L c g wr (cx.out _ B5.out) HG.out i i2 hb)
   have PO:=hid (ey (some ⟨G,0,none⟩) L c2 _ wr HO.out.sl1 HB.out i i2 hb)
   have TU:=hid (fun w=>dU (num (aQ s L g k a0 (ao g q 4 v)) s 2) (aL g L i) (aL (aQ s L g k a0 (ao g q 4 v)) L i) w bs.1 bs.2 bg.1 bg.2 bx.1 bx.2)
   have PU:=hid (aM HO.out s 2 (turn (num (aQ s L g k a0 (ao g q 4 v)) s 2) (aL g L i) (aL (aQ s L g k a0 (ao g q 4 v)) L i)) (by omega) (by omega) hb)
   clear dG bx bg bs hlt
   go_wp2_with fail
   refine NS.out.mono ?_
   rintro e w' ⟨rfl,rfl⟩
   go_wp2_with fail
   refine PG.out.mono ?_
   rintro e w' ⟨rfl,rfl⟩
   go_wp2_with fail
   refine PO.out.mono ?_
   rintro e w' ⟨rfl,rfl⟩
   go_wp2_with fail
   refine(TU.out _).mono ?_
   rintro e w' ⟨rfl,rfl⟩
   go_wp2_with fail
   refine PU.out.mono ?_
   rintro e w5 ⟨rfl,ho2,hg2⟩
   have bQ:=hid ho2
   have HR2:=hid (HR.out.trans hg2)
   clear ho2 hg2
   go_wp2_with fail
   go_roundw
   case rel=>
    refine⟨k+1,kl,by rw[HI.out];go_num,?_,HR2.out⟩
    have e:=fB s L g k a0 (ao g q 4 v)
    rw[←e,←HI.out]
    exact bQ.out
   simp[intOf];omega
  have i1:¬(i:Int)<(q:Int)+4:=by omega
  exact qY7
 rw[hbf]at BR
 have WF:Hid (cB g L q 4 v=ao g q 4 v):=hid (by rw[gw.out,hbf,if_pos rfl])
 clear hbf gw
 go_wp2_with fail
 refine BR.out.mono ?_
 rintro e w' ⟨rfl,rfl⟩
 go_wp2_with fail
 go_loopw [15] (fun i wr=>i =.int .i64 (a0:Int)∧OB wr w.heap.size (.slice (some ⟨G,0,none⟩) L c2) L (ao g q 4 v)∧w2.grownBy wr (some G)) (fun i _=>0)
 case atStart=>exact⟨by go_num,O3.out,G3.out⟩
 obtain ⟨rfl,ho,hgr⟩:=hrel
 have HO:=hid ho
 have HR:=hid hgr
 clear ho hgr O3 G3
 have B5:=hid (B2.out.trans (af HR.out cz B2.out.size))
 cases lt:decide ((a0:Int)<(q:Int)+4)
 all_goals
  exact qY9
 ):P:=h
set_option maxHeartbeats 8000000 in
theorem wy (A:Option Addr)(L c:Nat)(g:Nat→Int)(w:World)(h:By w A L g)(hg:aC g)(hc:L≤c)(hb:L≤1000000)(a v:Int)(ra: -9223372036854775808≤a∧a≤9223372036854775807) :
 Calls Tryz.prog 105 #[.slice A L c,a,.int .i64 4,v] w (ij w (fG g L a 4 v) L (cB g L a.toNat 4 v)):=by
 have HP:=hid (hH A L c g w h hg hc hb)
 have cx:=hid (fun (W:World) (hw:Below w.heap.size w W)=>Sl.below h hw (Nat.le_refl _))
 have HG:=hid hg
 have HH:=hid h
 clear h hg
 obtain ⟨z,hz⟩:∃z,z=az g L:=⟨_,rfl⟩
 unfold Parsed at HP
 rw[←hz]at HP
 cases hz0:(z != 0)
 ·have z0:az g L=0:=by rw[←hz];simpa using hz0
  have pf:=eW z0
  have n24:=pf.1
  have n15:=pf.2.1
  have HE:Hid (fG g L a 4 v=if di g L a 4 v=true then 0 else 14):=hid (by unfold fG;rw[if_neg (fun h=>h z0)])
  have PK:=hid (gn z0).2
  clear pf z0
  generalize ax g L=p at HP PK
  have sl:=gC g
  obtain ⟨s,hs⟩:∃s,s=a_ (g 0):=⟨_,rfl⟩
  have PA:=hid (fun w=>c_ (jl p.kind w) (show ((a_ p.kind:Nat):Int)=(s:Int) from by rw[PK.out,hs]))
  have HM:Hid (di g L a 4 v=(!decide (v<0) &&!decide (4294967296≤v) &&!decide (a<16) &&!decide ((L:Int)-4<a) &&!(decide (a<(s:Int)+2)&&decide ((s:Int)<a+4)))):=hid (by
   rw[hs,Bool.eq_iff_iff]
   unfold di
   simp only[Bool.and_eq_true,Bool.or_eq_true,decide_eq_true_eq,beq_iff_eq,Bool.not_eq_true',decide_eq_false_iff_not,Bool.and_eq_false_iff]
   constructor
   ·rintro ⟨⟨⟨⟨h1,h2⟩,h3⟩,h4⟩,h5⟩
    exact qYR
   rintro ⟨⟨⟨⟨h1,h2⟩,h3⟩,h4⟩,h5⟩
   refine⟨⟨⟨⟨?_,by omega⟩,by omega⟩,by omega⟩,by omega⟩
   simp
   omega)
  have HS:=hid hs
  rw[←hs]at sl
  have qs:IntKind.i64.wrap ((s:Int)+2)=(s:Int)+2:=IntWalk.i64_in _ (by omega)
  clear hz hs
  cases d1:decide (v<0)
  ·cases d2:decide ((4294967296:Int)≤v)
   ·cases d3:decide (a<16)
    ·have e3:16≤a:=by simpa using d3
     cases d4:decide ((L:Int)-4<a)
     ·have e4:a≤(L:Int)-4:=by simpa using d4
      have q2:IntKind.i64.wrap (a+4)=a+4:=IntWalk.i64_in _ (by omega)
      cases d5:decide (a<(s:Int)+2)
      ·have hd:di g L a 4 v=true:=by rw[HM.out,d1,d2,d3,d4,d5];rfl
       rw[hd,if_pos rfl]at HE
       have e5:(s:Int)+2≤a:=by simpa using d5
       have SO:s+2≤a∨a+4≤s:=.inl e5
       replace SO:=hid SO
       have e1:¬v<0:=by simpa using d1
       have e2:¬(4294967296:Int)≤v:=by simpa using d2
       clear hd d1 d2 d3 d4 d5
       exact qQK
      cases d6:decide ((s:Int)<a+4)
      ·have hd:di g L a 4 v=true:=by rw[HM.out,d1,d2,d3,d4,d5,d6];rfl
       rw[hd,if_pos rfl]at HE
       have e6:a+4≤(s:Int):=by simpa using d6
       have e5:a<(s:Int)+2:=by simpa using d5
       have SO:(s:Int)+2≤a∨a+4≤(s:Int):=.inr e6
       replace SO:=hid SO
       have e1:¬v<0:=by simpa using d1
       have e2:¬(4294967296:Int)≤v:=by simpa using d2
       clear hd d1 d2 d3 d4 d5 d6
       exact qQK
      have hd:di g L a 4 v=false:=by rw[HM.out,d1,d2,d3,d4,d5,d6];rfl
      exact qY2
     have hd:di g L a 4 v=false:=by rw[HM.out,d1,d2,d3,d4];rfl
     rw[hd,if_neg (by decide)]at HE
     clear hd
     exact qQN
    have hd:di g L a 4 v=false:=by rw[HM.out,d1,d2,d3];rfl
    rw[hd,if_neg (by decide)]at HE
    clear hd
    exact qQN
   have hd:di g L a 4 v=false:=by rw[HM.out,d1,d2];rfl
   rw[hd,if_neg (by decide)]at HE
   clear hd
   exact qQN
  have hd:di g L a 4 v=false:=by rw[HM.out,d1];rfl
  rw[hd,if_neg (by decide)]at HE
  clear hd
  exact qQN
 have HE:Hid (fG g L a 4 v=z):=hid (by unfold fG;rw[←hz,if_pos (by simpa using hz0)])
 exact qJH
theorem jH (A:Option Addr)(L c:Nat)(g:Nat→Int)(w:World)(h:By w A L g)(hg:aC g)(hc:L≤c)(hb:L≤1000000)(a m v:Int)(ra: -9223372036854775808≤a∧a≤9223372036854775807) :
 Calls Tryz.prog 105 #[.slice A L c,a,m,v] w (ij w (fG g L a m v) L (cB g L a.toNat m.toNat v)):=by
 by_cases h1:m=1
 ·subst h1;exact wC A L c g w h hg hc hb a v ra
 by_cases h2:m=2
 ·subst h2;exact wB A L c g w h hg hc hb a v ra
 by_cases h4:m=4
 ·subst h4;exact wy A L c g w h hg hc hb a v ra
 have e1:(m != 1)=true:=by simpa using h1
 have e2:(m != 2)=true:=by simpa using h2
 have e4:(m != 4)=true:=by simpa using h4
 have HM:di g L a m v=false:=by
  rw[Bool.eq_false_iff]
  intro e
  have:=q_ e
  omega
 clear h1 h2 h4
 have HP:=hid (hH A L c g w h hg hc hb)
 have cx:=hid (fun (W:World) (hw:Below w.heap.size w W)=>Sl.below h hw (Nat.le_refl _))
 have HG:=hid hg
 have HH:=hid h
 clear h hg
 obtain ⟨z,hz⟩:∃z,z=az g L:=⟨_,rfl⟩
 unfold Parsed at HP
 rw[←hz]at HP
 have HE:Hid (fG g L a m v=if z≠0 then z else 14):=hid (by unfold fG;rw[←hz,HM];rfl)
 generalize ax g L=p at HP
 clear hz HM
 cases hz0:(z != 0)
 ·rw[if_neg (by simpa using hz0)]at HE
  exact qQN
 rw[if_pos (by simpa using hz0)]at HE
 have HZ0:Hid (z≠0):=hid (by simpa using hz0)
 exact qQ8
end Go.Proofs.YtalnfkijiehjhaaGreat
