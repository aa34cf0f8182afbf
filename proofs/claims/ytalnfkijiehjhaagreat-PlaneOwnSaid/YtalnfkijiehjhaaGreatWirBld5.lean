/- The reference's Build, of a gram. -/
import Derived.Test.YtalnfkijiehjhaaGreatGa
import Derived.Test.YtalnfkijiehjhaaGreatWirLay
import Derived.BigQuiet
import Derived.Deep.RegionHeld3
import Derived.Deep.Cut
namespace Go.Proofs.YtalnfkijiehjhaaGreat
open List renaming setIfInBounds_toArray→zA,set_cons_zero→zB,set_cons_succ→zC
set_option linter.unusedVariables false
set_option linter.unusedSimpArgs false
open Go.RowKit Go.ChangeShapes Go.WideShapes Go.ChangeAt
theorem qXL{P:Prop}(h:P:=by
 have XZ:=hid xz
 clear bb
 have y9:=HC.out.2.1 9 _ rfl
 rw[BB.out]at y9
 have y0:=HC.out.2.1 0 _ rfl
 go_wp2_with fail
 refine(PA.out _).mono ?_
 rintro e w' ⟨rfl,rfl⟩
 go_wp2_with fail
 refine(aM HO.out 22 2 0 (by omega) (by omega) (by omega)).mono ?_
 rintro e qj ⟨rfl,hO,hg⟩
 have bM:=hid hO
 have bN:=hid (HB.out.trans (af hg (by omega) HB.out.size))
 clear hO hg
 go_wp2_with fail
 refine bodyPost_ret (v:=.tuple #[.slice (some ⟨Z,0,none⟩) n c10,()]) (by simp[results,Tryz.results28,go_sem]) rfl ?_
 rw[HE.out,←HN.out]
 refine⟨_,rfl,?_,bN.out⟩
 refine OB.base (OB.mJ bM.out (fun j hj=>?_)) (by omega)
 rw[qg KH.out,BB.out,if_pos rfl]
 ):P:=h
set_option maxHeartbeats 16000000 in
set_option maxRecDepth 10000 in
theorem qn (p:Pk)(AO:Option Addr)(cO:Nat)(AD:Option Addr)(cD:Nat)(w:World)(HO:By w AO p.no p.go)(HD:By w AD p.nd p.gd)(hgo:aC p.go)(hgd:aC p.gd)(h1:p.no≤1000000)(h2:p.nd≤1000000)(KH:Hid (p.kind=2)) :
 Calls Tryz.prog 28 #[.agg #[p.kind,p.life,p.piece,p.src,p.dst,p.fp,p.tp,p.flags,p.label,p.bare,p.code,.slice AO p.no cO,.slice AD p.nd cD]] w (ij w (aG p) (aU p) (aP p)):=by
 have HOW:=hid (fun (W:World) (hw:Below w.heap.size w W)=>Sl.below HO hw (Nat.le_refl _))
 have oA:=hid (fun (W:World) (hw:Below w.heap.size w W)=>Sl.below HD hw (Nat.le_refl _))
 have CE:=hid (Ce.made (w:=w) (l:=[p.kind,p.life,p.piece,p.src,p.dst,p.fp,p.tp,p.flags,p.label,p.bare,p.code,.slice AO p.no cO,.slice AD p.nd cD]) (T:=53) (g:=w.heap.size) rfl)
 have B0:=hid ((Below.refl w.heap.size w).alloc (Nat.le_refl _) (.cells #[p.kind,p.life,p.piece,p.src,p.dst,p.fp,p.tp,p.flags,p.label,p.bare,p.code,.slice AO p.no cO,.slice AD p.nd cD] 53))
 simp only[List.toArray]at CE
 clear HO HD
 have m1:(p.kind==1)=false:=by rw[KH.out];rfl
 have m2:(p.kind==2)=true:=by rw[KH.out];rfl
 have m3:(p.kind==3)=false:=by rw[KH.out];rfl
 have j1:¬p.kind<1:=by rw[KH.out];decide
 have j3:¬3<p.kind:=by rw[KH.out];decide
 have hk:isK p.kind=true:=by rw[KH.out];rfl
 replace hk:=hid hk
 have bF:=hid (fun w=>dB p.life 255 w)
 have bu:=hid (fun w=>dB p.piece 255 w)
 have cL:=hid (fun w=>dB p.src 4294967295 w)
 have dv:=hid (fun w=>dB p.dst 4294967295 w)
 have fK:=hid (fun w=>dB p.fp 65535 w)
 have f_:=hid (fun w=>dB p.tp 65535 w)
 have jA:=hid (fun w=>dB p.label 65535 w)
 cases bW:cW p.life 255
 ·rw[bW]at bF
  exact qQF
 rw[bW]at bF
 cases bO:cW p.piece 255
 ·rw[bO]at bu
  exact qQD
 rw[bO]at bu
 cases dx:cW p.src 4294967295
 ·rw[dx]at cL
  exact qQ7
 rw[dx]at cL
 cases dI:cW p.dst 4294967295
 ·rw[dI]at dv
  exact qQ4
 rw[dI]at dv
 cases f9:cW p.fp 65535
 ·rw[f9]at fK
  exact qQ3
 rw[f9]at fK
 cases h_:cW p.tp 65535
 ·rw[h_]at f_
  exact qQ1
 rw[h_]at f_
 cases mY:cW p.label 65535
 ·rw[mY]at jA
  go_enter Tryz.func28,Tryz.ntmps28
  go_upto_region 1 with (fail)
  generalize (w.alloc (.cells #[p.kind,p.life,p.piece,p.src,p.dst,p.fp,p.tp,p.flags,p.label,p.bare,p.code,.slice AO p.no cO,.slice AD p.nd cD] 53))=w1 at *
  have y0:=CE.out.2.1 0 _ rfl
  have y1:=CE.out.2.1 1 _ rfl
  have y2:=CE.out.2.1 2 _ rfl
  have y3:=CE.out.2.1 3 _ rfl
  have y4:=CE.out.2.1 4 _ rfl
  have y5:=CE.out.2.1 5 _ rfl
  have y6:=CE.out.2.1 6 _ rfl
  have y7:=CE.out.2.1 7 _ rfl
  have y8:=CE.out.2.1 8 _ rfl
  have y9:=CE.out.2.1 9 _ rfl
  have al:=CE.out.2.1 10 _ rfl
  have ak:=CE.out.2.1 11 _ rfl
  have aj:=CE.out.2.1 12 _ rfl
  go_upto_region 3 with (fail)
  go_quiet (fail)
  have BQ:=hid (below_drewN B0.out nq)
  have CQ:=hid (Ce.below CE.out (below_drewN (Below.refl _ _) nq))
  have gW:w.heap.size<w1.heap.size:=CE.out.1
  have lQ:w1.heap.size≤(w1.drewN nq).heap.size:=by simp
  clear B0 CE
  clear y0 y1 y2 y3 y4 y5 y6 y7 y8 y9 al ak aj
  generalize w1.drewN nq=wq at *
  have y0:=CQ.out.2.1 0 _ rfl
  have y1:=CQ.out.2.1 1 _ rfl
  have y2:=CQ.out.2.1 2 _ rfl
  have y3:=CQ.out.2.1 3 _ rfl
  have y4:=CQ.out.2.1 4 _ rfl
  have y5:=CQ.out.2.1 5 _ rfl
  have y6:=CQ.out.2.1 6 _ rfl
  have y7:=CQ.out.2.1 7 _ rfl
  have y8:=CQ.out.2.1 8 _ rfl
  have y9:=CQ.out.2.1 9 _ rfl
  have al:=CQ.out.2.1 10 _ rfl
  have ak:=CQ.out.2.1 11 _ rfl
  have aj:=CQ.out.2.1 12 _ rfl
  go_wp2_with fail
  refine(bF.out _).mono ?_
  rintro e w' ⟨rfl,rfl⟩
  go_wp2_with fail
  refine(bu.out _).mono ?_
  rintro e w' ⟨rfl,rfl⟩
  go_wp2_with fail
  refine(cL.out _).mono ?_
  rintro e w' ⟨rfl,rfl⟩
  go_wp2_with fail
  refine(dv.out _).mono ?_
  rintro e w' ⟨rfl,rfl⟩
  go_wp2_with fail
  refine(fK.out _).mono ?_
  rintro e w' ⟨rfl,rfl⟩
  go_wp2_with fail
  refine(f_.out _).mono ?_
  rintro e w' ⟨rfl,rfl⟩
  go_wp2_with fail
  refine(jA.out _).mono ?_
  rintro e w' ⟨rfl,rfl⟩
  go_wp2_with fail
  refine bodyPost_ret (v:=.tuple #[.slice none 0 0,.int .i64 14]) (by simp[results,Tryz.results28,go_sem]) rfl ?_
  rw[show aG p=14 from dj hk.out (by unfold bC;rw[KH.out];simp[bW,bO,dx,dI,f9,h_,mY])]
  exact aV (by decide) BQ.out
 rw[mY]at jA
 have hr:bC p=true:=by unfold bC;rw[KH.out];simp[bW,bO,dx,dI,f9,h_,mY]
 clear bW bO dx dI f9 h_ mY
 obtain ⟨⟨xd,xa⟩,⟨wZ,wY⟩,rc,rf⟩:=i9 hr
 have N5:=hid (show ¬(p.kind=1∧40<p.no) from fun e=>by have:=e.1;rw[KH.out]at this;cases this)
 have HL:Hid ((aU p:Int)=24+(p.nd:Int)):=hid (by unfold aU;rw[KH.out,if_neg (by decide),if_pos rfl];omega)
 have N4:=hid (show ¬(p.kind=3∧p.nd<24) from fun e=>by have:=e.1;rw[KH.out]at this;cases this)
 cases tX:decide ((1500:Int)<24+(p.nd:Int))
 ·have N3:=hid (show ¬(p.kind=3∧p.nd<24∨1500<aU p) from fun e=>by rcases e with e |e;(exact N4.out e);(have:=HL.out;simp at tX;omega))
  have hE:=pC hk.out hr N5.out N3.out
  obtain ⟨e1,e2,e3,e4,e5,e6⟩:=ig hE
  clear e1 e3 e4
  have KL:=hid (jq hE)
  have He:0≤p.kind:=by have:=KL.out;omega
  have Hd:p.kind≤255:=by have:=KL.out;omega
  have RB:=hid (lL hgd hgo hE)
  have jC:=hid (kU hgd hgo hE)
  have FB:=hid (yG hk.out ⟨xd,xa⟩ ⟨wZ,wY⟩)
  have HE:=hid hE
  clear hE hgo hgd N5 N3 hr e2
  have u0:IntKind.u8.wrap p.kind=p.kind:=by rw[IntKind.wrap_u8];omega
  have u1:IntKind.u8.wrap p.life=p.life:=by rw[IntKind.wrap_u8];omega
  have u2:IntKind.u8.wrap p.piece=p.piece:=by rw[IntKind.wrap_u8];omega
  obtain ⟨n,hn⟩:∃n,n=aU p:=⟨_,rfl⟩
  have HN:=hid hn
  have hV:(24+(p.nd:Int))=(n:Int):=by have:=HL.out;omega
  have Be:Hid ((24+(p.nd:Int))=(aU p:Int)):=hid (by rw[hV,hn])
  replace hV:=hid hV
  rw[←hn]at e5 e6
  clear hn
  have Ia:n≤24+p.nd:=by have:=hV.out;omega
  have H_:24+p.nd≤n:=by have:=hV.out;omega
  clear rc rf
  have Li:p.nd≤1500:=by omega
  go_enter Tryz.func28,Tryz.ntmps28
  go_upto_region 1 with (fail)
  generalize (w.alloc (.cells #[p.kind,p.life,p.piece,p.src,p.dst,p.fp,p.tp,p.flags,p.label,p.bare,p.code,.slice AO p.no cO,.slice AD p.nd cD] 53))=w1 at *
  have y0:=CE.out.2.1 0 _ rfl
  have y1:=CE.out.2.1 1 _ rfl
  have y2:=CE.out.2.1 2 _ rfl
  have y3:=CE.out.2.1 3 _ rfl
  have y4:=CE.out.2.1 4 _ rfl
  have y5:=CE.out.2.1 5 _ rfl
  have y6:=CE.out.2.1 6 _ rfl
  have y7:=CE.out.2.1 7 _ rfl
  have y8:=CE.out.2.1 8 _ rfl
  have y9:=CE.out.2.1 9 _ rfl
  have al:=CE.out.2.1 10 _ rfl
  have ak:=CE.out.2.1 11 _ rfl
  have aj:=CE.out.2.1 12 _ rfl
  go_upto_region 3 with (fail)
  go_quiet (fail)
  have BQ:=hid (below_drewN B0.out nq)
  have CQ:=hid (Ce.below CE.out (below_drewN (Below.refl _ _) nq))
  have gW:w.heap.size<w1.heap.size:=CE.out.1
  have lQ:w1.heap.size≤(w1.drewN nq).heap.size:=by simp
  clear B0 CE
  clear y0 y1 y2 y3 y4 y5 y6 y7 y8 y9 al ak aj
  generalize w1.drewN nq=wq at *
  have y0:=CQ.out.2.1 0 _ rfl
  have y1:=CQ.out.2.1 1 _ rfl
  have y2:=CQ.out.2.1 2 _ rfl
  have y3:=CQ.out.2.1 3 _ rfl
  have y4:=CQ.out.2.1 4 _ rfl
  have y5:=CQ.out.2.1 5 _ rfl
  have y6:=CQ.out.2.1 6 _ rfl
  have y7:=CQ.out.2.1 7 _ rfl
  have y8:=CQ.out.2.1 8 _ rfl
  have y9:=CQ.out.2.1 9 _ rfl
  have al:=CQ.out.2.1 10 _ rfl
  have ak:=CQ.out.2.1 11 _ rfl
  have aj:=CQ.out.2.1 12 _ rfl
  go_wp2_with fail
  refine(bF.out _).mono ?_
  rintro e w' ⟨rfl,rfl⟩
  go_wp2_with fail
  refine(bu.out _).mono ?_
  rintro e w' ⟨rfl,rfl⟩
  go_wp2_with fail
  refine(cL.out _).mono ?_
  rintro e w' ⟨rfl,rfl⟩
  go_wp2_with fail
  refine(dv.out _).mono ?_
  rintro e w' ⟨rfl,rfl⟩
  go_wp2_with fail
  refine(fK.out _).mono ?_
  rintro e w' ⟨rfl,rfl⟩
  go_wp2_with fail
  refine(f_.out _).mono ?_
  rintro e w' ⟨rfl,rfl⟩
  go_wp2_with fail
  refine(jA.out _).mono ?_
  rintro e w' ⟨rfl,rfl⟩
  clear bF bu cL dv fK f_ jA
  go_upto_region 16 with (at_make;refine oE rfl _ _ rfl wq.heap.size 16 n _ _ rfl rfl rfl hV.out (by omega) (by omega) (Nat.le_refl _) ?_;intro w3 hO hb2;have HO:=hid hO;have HC:=hid (CQ.out.below hb2);have HB:=hid (BQ.out.trans (hb2.mono BQ.out.size));clear hO hb2)
  clear CQ BQ
  clear y0 y1 y2 y3 y4 y5 y6 y7 y8 y9 al ak aj
  have lR:w.heap.size<wq.heap.size:=by omega
  obtain ⟨g',e,hB,hgs,hce,hfr⟩:=Ow.block_ HO.out (by omega)
  injection e with e
  injection e with e _
  subst e
  have c0:=hce 0 (by omega)
  have c1:=hce 1 (by omega)
  have c12:=hce 12 (by omega)
  have f0:=hfr 0
  have f1:=hfr 1
  have f12:=hfr 12
  clear hce hfr
  refine wp_region_held_drew (S:=fun w'=>Ce w' w.heap.size [p.kind,p.life,p.piece,p.src,p.dst,p.fp,p.tp,p.flags,p.label,p.bare,p.code,.slice AO p.no cO,.slice AD p.nd cD]) (by kernel_rfl) ?_ (fun hHeld=>?_)
  ·exact HC.out.bo
  refine ae 0 hHeld ?_
  refine ae 1 hHeld ?_
  refine ae 2 hHeld ?_
  refine ae 3 hHeld ?_
  refine ae 4 hHeld ?_ (hy:=by intro w hSw;(try dsimp only at hSw);have q0:=hSw.2.1 0 _ rfl;have q1:=hSw.2.1 1 _ rfl;have q2:=hSw.2.1 2 _ rfl;go_simp;(try with_reducible rfl))
  refine ae 5 hHeld ?_
  refine ae 6 hHeld ?_
  refine ae 7 hHeld ?_ (hy:=by intro w hSw;(try dsimp only at hSw);have q0:=hSw.2.1 0 _ rfl;have q1:=hSw.2.1 1 _ rfl;have q2:=hSw.2.1 2 _ rfl;go_simp;(try with_reducible rfl))
  refine ae 8 hHeld ?_
  refine ae 9 hHeld ?_
  refine ae 10 hHeld ?_ (hy:=by intro w hSw;(try dsimp only at hSw);have q0:=hSw.2.1 0 _ rfl;have q1:=hSw.2.1 1 _ rfl;have q2:=hSw.2.1 2 _ rfl;go_simp;(try with_reducible rfl))
  refine ae 11 hHeld ?_
  refine ae 12 hHeld ?_
  refine only 13 rfl (by kernel_rfl) rfl (fun K hK=>?_)
  go_simp
  have hH0:Ce (w3.setCell ⟨wq.heap.size,0,none⟩ (.int .u8 p.kind)).drew w.heap.size [p.kind,p.life,p.piece,p.src,p.dst,p.fp,p.tp,p.flags,p.label,p.bare,p.code,.slice AO p.no cO,.slice AD p.nd cD]:=Ce.bo (HC.out.grown (gs 0 (.int .u8 p.kind) (World.grownBy.refl w3 (some wq.heap.size))) (fun e=>by injection e with e;omega))
  refine hK.out _ _ hH0 (fun _=>?_)
  clear hK
  (try simp only[Act.put,zA,zB,zC])
  refine ae 14 hH0 ?_
  refine only 15 rfl (by kernel_rfl) rfl (fun K hK=>?_)
  go_simp
  have hH1:Ce ((w3.setCell ⟨wq.heap.size,0,none⟩ (.int .u8 p.kind)).setCell ⟨wq.heap.size,1,none⟩ (.int .u8 p.life)).drew w.heap.size [p.kind,p.life,p.piece,p.src,p.dst,p.fp,p.tp,p.flags,p.label,p.bare,p.code,.slice AO p.no cO,.slice AD p.nd cD]:=Ce.bo (HC.out.grown (gs 1 (.int .u8 p.life) (gs 0 (.int .u8 p.kind) (World.grownBy.refl w3 (some wq.heap.size)))) (fun e=>by injection e with e;omega))
  refine hK.out _ _ hH1 (fun _=>?_)
  clear hK
  (try simp only[Act.put,zA,zB,zC])
  refine ae 16 hH1 ?_
  refine only 17 rfl (by kernel_rfl) rfl (fun K hK=>?_)
  go_simp
  have hH2:Ce (((w3.setCell ⟨wq.heap.size,0,none⟩ (.int .u8 p.kind)).setCell ⟨wq.heap.size,1,none⟩ (.int .u8 p.life)).setCell ⟨wq.heap.size,12,none⟩ (.int .u8 p.piece)).drew w.heap.size [p.kind,p.life,p.piece,p.src,p.dst,p.fp,p.tp,p.flags,p.label,p.bare,p.code,.slice AO p.no cO,.slice AD p.nd cD]:=Ce.bo (HC.out.grown (gs 12 (.int .u8 p.piece) (gs 1 (.int .u8 p.life) (gs 0 (.int .u8 p.kind) (World.grownBy.refl w3 (some wq.heap.size))))) (fun e=>by injection e with e;omega))
  refine hK.out _ _ hH2 (fun _=>?_)
  clear hK
  (try simp only[Act.put,zA,zB,zC])
  refine wpAnyH_done (by kernel_rfl) ?_ _
  have bM:=hid (Ow.drew (OB.store (OB.store (OB.store (HO.out) 0 p.kind) 1 p.life) 12 p.piece))
  have bN:=hid ((HB.out.trans (af (gs 12 (.int .u8 p.piece) (gs 1 (.int .u8 p.life) (gs 0 (.int .u8 p.kind) (World.grownBy.refl w3 (some wq.heap.size))))) (by omega) HB.out.size)).drew)
  have cn:=hid hH2
  clear hH0 hH1 hH2 hHeld HO HC HB
  have HO:=bM
  have HC:=cn
  have HB:=bN
  clear bM cn bN
  generalize (((w3.setCell ⟨wq.heap.size,0,none⟩ (.int .u8 p.kind)).setCell ⟨wq.heap.size,1,none⟩ (.int .u8 p.life)).setCell ⟨wq.heap.size,12,none⟩ (.int .u8 p.piece)).drew=w4 at *
  clear c0 c1 c12 f0 f1 f12
  go_upto_region 17 with (fail)
  go_wp2_with fail
  refine(aM HO.out 2 2 (24+(p.nd:Int)) (by omega) (by omega) (by omega)).mono ?_
  rintro e w5 ⟨rfl,hO,hg⟩
  have bM:=hid hO
  have cn:=hid (HC.out.grown hg (fun e=>by injection e with e;omega))
  have bN:=hid (HB.out.trans (af hg (by omega) HB.out.size))
  clear hO hg HO HC HB
  have HO:=bM
  have HC:=cn
  have HB:=bN
  clear bM cn bN
  go_upto_region 18 with (fail)
  have yy:=HC.out.2.1 3 _ rfl
  go_wp2_with fail
  refine(aM HO.out 4 4 p.src (by omega) (by omega) (by omega)).mono ?_
  rintro e w6 ⟨rfl,hO,hg⟩
  clear yy
  have bM:=hid hO
  have cn:=hid (HC.out.grown hg (fun e=>by injection e with e;omega))
  have bN:=hid (HB.out.trans (af hg (by omega) HB.out.size))
  clear hO hg HO HC HB
  have HO:=bM
  have HC:=cn
  have HB:=bN
  clear bM cn bN
  go_upto_region 19 with (fail)
  have yy:=HC.out.2.1 4 _ rfl
  go_wp2_with fail
  refine(aM HO.out 8 4 p.dst (by omega) (by omega) (by omega)).mono ?_
  rintro e w7 ⟨rfl,hO,hg⟩
  clear yy
  have bM:=hid hO
  have cn:=hid (HC.out.grown hg (fun e=>by injection e with e;omega))
  have bN:=hid (HB.out.trans (af hg (by omega) HB.out.size))
  clear hO hg HO HC HB
  have HO:=bM
  have HC:=cn
  have HB:=bN
  clear bM cn bN
  rw[Be.out]at HO
  go_upto_region 20 with (fail)
  have OF:=hid (c_ (lr (some ⟨wq.heap.size,0,none⟩) 16 n _ w7 HO.out.sl1 FB.out (by omega)) (show 65535-norm (tot _ 16)=65535-norm (tot (cj p) 16) from by rw[gM _ (cj p) 16 (fun j hj=>uo hj)]))
  go_wp2_with fail
  refine OF.out.mono ?_
  rintro e w' ⟨rfl,rfl⟩
  clear OF
  go_wp2_with fail
  refine(aM HO.out 14 2 (65535-norm (tot (cj p) 16)) (by omega) (by omega) (by omega)).mono ?_
  rintro e w8 ⟨rfl,hO,hg⟩
  have bM:=hid hO
  have cn:=hid (HC.out.grown hg (fun e=>by injection e with e;omega))
  have bN:=hid (HB.out.trans (af hg (by omega) HB.out.size))
  clear hO hg HO HC HB
  have HO:=bM
  have HC:=cn
  have HB:=bN
  clear bM cn bN
  replace HO:=hid (show OB w8 wq.heap.size (.slice (some ⟨wq.heap.size,0,none⟩) 16 n) 16 (ky p) from HO.out)
  go_upto_region 27 with (at_builtin;refine Cr rfl (.tmp 174) (.const (.int .i64 8)) rfl wq.heap.size _ 16 _ rfl HO.out 8 rfl (by omega) (gQ HO.out (by omega)) ?_;intro A9 c9 w9 h1 h2 h3 h4 h5 h6;have bM:=hid h1;have hcn:=h2;have cn:=hid (HC.out.km h4 (by omega));have bN:=hid (HB.out.trans (h4.mono (by omega)));clear h1 h2 h3 h4 h5 h6)
  clear HO HC HB
  have HO:=bM
  have HC:=cn
  have HB:=bN
  clear bM cn bN
  obtain ⟨G,e,hB,hgs,hce,hfr⟩:=Ow.block_ HO.out (by omega)
  subst e
  clear hce hfr hgs
  have lG:w.heap.size<G:=by omega
  have yy:=HC.out.2.1 8 _ rfl
  go_wp2_with fail
  refine(aM HO.out 20 2 p.label (by omega) (by omega) (by omega)).mono ?_
  rintro e ea ⟨rfl,hO,hg⟩
  clear yy
  have bM:=hid hO
  have cn:=hid (HC.out.grown hg (fun e=>by injection e with e;omega))
  have bN:=hid (HB.out.trans (af hg (by omega) HB.out.size))
  clear hO hg HO HC HB
  have HO:=bM
  have HC:=cn
  have HB:=bN
  clear bM cn bN
  go_upto_region 29 with (fail)
  have yy:=HC.out.2.1 5 _ rfl
  go_wp2_with fail
  refine(aM HO.out 16 2 p.fp (by omega) (by omega) (by omega)).mono ?_
  rintro e li ⟨rfl,hO,hg⟩
  clear yy
  have bM:=hid hO
  have cn:=hid (HC.out.grown hg (fun e=>by injection e with e;omega))
  have bN:=hid (HB.out.trans (af hg (by omega) HB.out.size))
  clear hO hg HO HC HB
  have HO:=bM
  have HC:=cn
  have HB:=bN
  clear bM cn bN
  go_upto_region 30 with (fail)
  have yy:=HC.out.2.1 6 _ rfl
  go_wp2_with fail
  refine(aM HO.out 18 2 p.tp (by omega) (by omega) (by omega)).mono ?_
  rintro e og ⟨rfl,hO,hg⟩
  clear yy
  have bM:=hid hO
  have cn:=hid (HC.out.grown hg (fun e=>by injection e with e;omega))
  have bN:=hid (HB.out.trans (af hg (by omega) HB.out.size))
  clear hO hg HO HC HB
  have HO:=bM
  have HC:=cn
  have HB:=bN
  clear bM cn bN
  have aj:=HC.out.2.1 12 _ rfl
  go_upto_region 32 with (at_builtin;refine dM rfl (.tmp 190) (.tmp 192) rfl wq.heap.size _ (16+8) _ rfl HO.out _ (p.nd) _ p.gd rfl (oA.out _ HB.out) (by omega) (gQ HO.out (by omega)) ?_;intro Mv c10 tz h1 h2 h3 h4 h5 h6;have bM:=hid h1;have hcn:=h2;have cn:=hid (HC.out.km h4 (by omega));have bN:=hid (HB.out.trans (h4.mono (by omega)));clear h1 h2 h3 h4 h5 h6)
  clear HO HC HB
  have HO:=bM
  have HC:=cn
  have HB:=bN
  clear bM cn bN
  clear aj
  have eL:16+8+p.nd=n:=by omega
  have eF:∀j,j<n→(fun j=>if j<16+8 then ao (ao (ao (fun j=>if j<16 then ky p j else 0) 20 2 p.label) 16 2 p.fp) 18 2 p.tp j else p.gd (j-(16+8))) j=aZ p j:=fun j hj=>MR KH.out j (by omega)
  replace HO:=hid (OB.mJ HO.out (fun j hj=>eF j (by omega)))
  rw[eL]at *
  clear eF
  obtain ⟨Z,e,hB,hgs,hce,hfr⟩:=Ow.block_ HO.out (by omega)
  subst e
  clear hce hfr hgs
  have SM:=hid (fun (W:World) (hW:By W (some ⟨Z,0,none⟩) n (aZ p))=>mN (some ⟨Z,0,none⟩) n c10 (aZ p) W hW jC.out e6 (by omega) e5)
  go_wp2_with fail
  refine(SM.out _ HO.out.sl1).mono ?_
  rintro e gL ⟨A2,c2,rfl,hS,jQ⟩
  have bM:=hid (OB.nR HO.out jQ)
  have cn:=hid (HC.out.below jQ)
  have bN:=hid (HB.out.trans (jQ.mono HB.out.size))
  have OF:=hid (c_ (lr A2 _ c2 _ _ hS (oL jC.out n) (by unfold eg;split <;> omega)) (show 65535-norm (tot (eQ (aZ p) n) (eg (aZ p) n))=fW p from by unfold fW;rw[HN.out]))
  clear hS jQ SM HO HC HB
  have HO:=bM
  have HC:=cn
  have HB:=bN
  clear bM cn bN
  obtain ⟨x,hx⟩:∃x,x=fW p:=⟨_,rfl⟩
  have HX:=hid hx
  rw[←hx]at OF
  clear hx
  go_wp2_with fail
  refine OF.out.mono ?_
  rintro e w' ⟨rfl,rfl⟩
  clear OF
  have PA:=hid (fun w=>c_ (jl p.kind w) (show ((a_ p.kind:Nat):Int)=22 from by rw[KH.out];rfl))
  cases xz:(x==0) <;> cases bb:p.bare
  ·have BB:=hid bb
   have XZ:=hid xz
   clear bb
   have y9:=HC.out.2.1 9 _ rfl
   rw[BB.out]at y9
   have y0:=HC.out.2.1 0 _ rfl
   go_wp2_with fail
   refine(PA.out _).mono ?_
   rintro e w' ⟨rfl,rfl⟩
   go_wp2_with fail
   refine(aM HO.out 22 2 x (by omega) (by omega) (by omega)).mono ?_
   rintro e qj ⟨rfl,hO,hg⟩
   have bM:=hid hO
   have bN:=hid (HB.out.trans (af hg (by omega) HB.out.size))
   clear hO hg
   go_wp2_with fail
   refine bodyPost_ret (v:=.tuple #[.slice (some ⟨Z,0,none⟩) n c10,()]) (by simp[results,Tryz.results28,go_sem]) rfl ?_
   rw[HE.out,←HN.out]
   refine⟨_,rfl,?_,bN.out⟩
   refine OB.base (OB.mJ bM.out (fun j hj=>?_)) (by omega)
   rw[qg KH.out,BB.out,if_neg (by decide),←HX.out,if_neg (by simpa using XZ.out)]
  ·have BB:=hid bb
   exact qXL
  ·have BB:=hid bb
   have XZ:=hid xz
   clear bb
   have y9:=HC.out.2.1 9 _ rfl
   rw[BB.out]at y9
   have y0:=HC.out.2.1 0 _ rfl
   go_wp2_with fail
   refine(PA.out _).mono ?_
   rintro e w' ⟨rfl,rfl⟩
   go_wp2_with fail
   refine(aM HO.out 22 2 65535 (by omega) (by omega) (by omega)).mono ?_
   rintro e qj ⟨rfl,hO,hg⟩
   have bM:=hid hO
   have bN:=hid (HB.out.trans (af hg (by omega) HB.out.size))
   clear hO hg
   go_wp2_with fail
   refine bodyPost_ret (v:=.tuple #[.slice (some ⟨Z,0,none⟩) n c10,()]) (by simp[results,Tryz.results28,go_sem]) rfl ?_
   rw[HE.out,←HN.out]
   refine⟨_,rfl,?_,bN.out⟩
   refine OB.base (OB.mJ bM.out (fun j hj=>?_)) (by omega)
   rw[qg KH.out,BB.out,if_neg (by decide),←HX.out,if_pos (by simpa using XZ.out)]
  have BB:=hid bb
  exact qXL
 replace hr:=hid hr
 go_enter Tryz.func28,Tryz.ntmps28
 go_upto_region 1 with (fail)
 generalize (w.alloc (.cells #[p.kind,p.life,p.piece,p.src,p.dst,p.fp,p.tp,p.flags,p.label,p.bare,p.code,.slice AO p.no cO,.slice AD p.nd cD] 53))=w1 at *
 have y0:=CE.out.2.1 0 _ rfl
 have y1:=CE.out.2.1 1 _ rfl
 have y2:=CE.out.2.1 2 _ rfl
 have y3:=CE.out.2.1 3 _ rfl
 have y4:=CE.out.2.1 4 _ rfl
 have y5:=CE.out.2.1 5 _ rfl
 have y6:=CE.out.2.1 6 _ rfl
 have y7:=CE.out.2.1 7 _ rfl
 have y8:=CE.out.2.1 8 _ rfl
 have y9:=CE.out.2.1 9 _ rfl
 have al:=CE.out.2.1 10 _ rfl
 have ak:=CE.out.2.1 11 _ rfl
 have aj:=CE.out.2.1 12 _ rfl
 go_upto_region 3 with (fail)
 go_quiet (fail)
 have BQ:=hid (below_drewN B0.out nq)
 have CQ:=hid (Ce.below CE.out (below_drewN (Below.refl _ _) nq))
 have gW:w.heap.size<w1.heap.size:=CE.out.1
 have lQ:w1.heap.size≤(w1.drewN nq).heap.size:=by simp
 clear B0 CE
 clear y0 y1 y2 y3 y4 y5 y6 y7 y8 y9 al ak aj
 generalize w1.drewN nq=wq at *
 have y0:=CQ.out.2.1 0 _ rfl
 have y1:=CQ.out.2.1 1 _ rfl
 have y2:=CQ.out.2.1 2 _ rfl
 have y3:=CQ.out.2.1 3 _ rfl
 have y4:=CQ.out.2.1 4 _ rfl
 have y5:=CQ.out.2.1 5 _ rfl
 have y6:=CQ.out.2.1 6 _ rfl
 have y7:=CQ.out.2.1 7 _ rfl
 have y8:=CQ.out.2.1 8 _ rfl
 have y9:=CQ.out.2.1 9 _ rfl
 have al:=CQ.out.2.1 10 _ rfl
 have ak:=CQ.out.2.1 11 _ rfl
 have aj:=CQ.out.2.1 12 _ rfl
 go_wp2_with fail
 refine(bF.out _).mono ?_
 rintro e w' ⟨rfl,rfl⟩
 go_wp2_with fail
 refine(bu.out _).mono ?_
 rintro e w' ⟨rfl,rfl⟩
 go_wp2_with fail
 refine(cL.out _).mono ?_
 rintro e w' ⟨rfl,rfl⟩
 go_wp2_with fail
 refine(dv.out _).mono ?_
 rintro e w' ⟨rfl,rfl⟩
 go_wp2_with fail
 refine(fK.out _).mono ?_
 rintro e w' ⟨rfl,rfl⟩
 go_wp2_with fail
 refine(f_.out _).mono ?_
 rintro e w' ⟨rfl,rfl⟩
 go_wp2_with fail
 refine(jA.out _).mono ?_
 exact qXE
end Go.Proofs.YtalnfkijiehjhaaGreat
