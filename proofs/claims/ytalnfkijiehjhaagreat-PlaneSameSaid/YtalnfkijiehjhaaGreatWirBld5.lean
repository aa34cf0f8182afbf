/- The reference's Build, of a gram. -/
import Derived.Test.YtalnfkijiehjhaaGreatGa
import Derived.Test.YtalnfkijiehjhaaGreatWirLay
import Derived.BigQuiet
import Derived.Deep.RegionHeld3
import Derived.Deep.Cut
namespace Go.Proofs.YtalnfkijiehjhaaGreat
open List renaming setIfInBounds_toArray→zA,set_cons_zero→zB,set_cons_succ→zC
set_option linter.unusedVariables false
set_option linter.unusedSimpArgs false
open Go.RowKit Go.ChangeShapes Go.WideShapes Go.ChangeAt
set_option maxHeartbeats 16000000 in
set_option maxRecDepth 10000 in
theorem vi (p:Pk)(AO:Option Addr)(cO:Nat)(AD:Option Addr)(cD:Nat)(w:World)(HO:By w AO p.no p.go)(HD:By w AD p.nd p.gd)(hgo:az p.go)(hgd:az p.gd)(h1:p.no≤1000000)(h2:p.nd≤1000000)(KH:Hid (p.kind=2)) :
 Calls Tryz.prog 28 #[.agg #[p.kind,p.life,p.piece,p.src,p.dst,p.fp,p.tp,p.flags,p.label,p.bare,p.code,.slice AO p.no cO,.slice AD p.nd cD]] w (iB w (aC p) (aJ p) (aF p)):=by
 have HOW:=hid (fun (W:World) (hw:Below w.heap.size w W)=>Sl.below HO hw (Nat.le_refl _))
 have nH:=hid (fun (W:World) (hw:Below w.heap.size w W)=>Sl.below HD hw (Nat.le_refl _))
 have CE:=hid (Ce.made (w:=w) (l:=[p.kind,p.life,p.piece,p.src,p.dst,p.fp,p.tp,p.flags,p.label,p.bare,p.code,.slice AO p.no cO,.slice AD p.nd cD]) (T:=53) (g:=w.heap.size) rfl)
 have B0:=hid ((Below.refl w.heap.size w).alloc (Nat.le_refl _) (.cells #[p.kind,p.life,p.piece,p.src,p.dst,p.fp,p.tp,p.flags,p.label,p.bare,p.code,.slice AO p.no cO,.slice AD p.nd cD] 53))
 simp only[List.toArray]at CE
 clear HO HD
 have m1:(p.kind==1)=false:=by rw[KH.out];rfl
 have m2:(p.kind==2)=true:=by rw[KH.out];rfl
 have m3:(p.kind==3)=false:=by rw[KH.out];rfl
 have j1:¬p.kind<1:=by rw[KH.out];decide
 have j3:¬3<p.kind:=by rw[KH.out];decide
 have hk:isK p.kind=true:=by rw[KH.out];rfl
 replace hk:=hid hk
 have bA:=hid (fun w=>dt p.life 255 w)
 have bu:=hid (fun w=>dt p.piece 255 w)
 have cE:=hid (fun w=>dt p.src 4294967295 w)
 have dh:=hid (fun w=>dt p.dst 4294967295 w)
 have fB:=hid (fun w=>dt p.fp 65535 w)
 have fX:=hid (fun w=>dt p.tp 65535 w)
 have jk:=hid (fun w=>dt p.label 65535 w)
 cases bM:cn p.life 255
 ·rw[bM]at bA
  go_enter Tryz.func28,Tryz.ntmps28
  go_upto_region 1 with (fail)
  generalize (w.alloc (.cells #[p.kind,p.life,p.piece,p.src,p.dst,p.fp,p.tp,p.flags,p.label,p.bare,p.code,.slice AO p.no cO,.slice AD p.nd cD] 53))=w1 at *
  have y0:=CE.out.2.1 0 _ rfl
  have y1:=CE.out.2.1 1 _ rfl
  have y2:=CE.out.2.1 2 _ rfl
  have y3:=CE.out.2.1 3 _ rfl
  have y4:=CE.out.2.1 4 _ rfl
  have y5:=CE.out.2.1 5 _ rfl
  have y6:=CE.out.2.1 6 _ rfl
  have y7:=CE.out.2.1 7 _ rfl
  have y8:=CE.out.2.1 8 _ rfl
  have y9:=CE.out.2.1 9 _ rfl
  have au:=CE.out.2.1 10 _ rfl
  have ao:=CE.out.2.1 11 _ rfl
  have al:=CE.out.2.1 12 _ rfl
  go_upto_region 3 with (fail)
  go_quiet (fail)
  have BQ:=hid (below_drewN B0.out nq)
  have CQ:=hid (Ce.below CE.out (below_drewN (Below.refl _ _) nq))
  have gI:w.heap.size<w1.heap.size:=CE.out.1
  have lQ:w1.heap.size≤(w1.drewN nq).heap.size:=by simp
  clear B0 CE
  clear y0 y1 y2 y3 y4 y5 y6 y7 y8 y9 au ao al
  generalize w1.drewN nq=wq at *
  have y0:=CQ.out.2.1 0 _ rfl
  have y1:=CQ.out.2.1 1 _ rfl
  have y2:=CQ.out.2.1 2 _ rfl
  have y3:=CQ.out.2.1 3 _ rfl
  have y4:=CQ.out.2.1 4 _ rfl
  have y5:=CQ.out.2.1 5 _ rfl
  have y6:=CQ.out.2.1 6 _ rfl
  have y7:=CQ.out.2.1 7 _ rfl
  have y8:=CQ.out.2.1 8 _ rfl
  have y9:=CQ.out.2.1 9 _ rfl
  have au:=CQ.out.2.1 10 _ rfl
  have ao:=CQ.out.2.1 11 _ rfl
  have al:=CQ.out.2.1 12 _ rfl
  go_wp2_with fail
  refine(bA.out _).mono ?_
  rintro e w' ⟨rfl,rfl⟩
  go_wp2_with fail
  refine bodyPost_ret (v:=.tuple #[.slice none 0 0,.int .i64 14]) (by simp[results,Tryz.results28,go_sem]) rfl ?_
  rw[show aC p=14 from cX hk.out (by unfold bh;rw[KH.out];simp[bM])]
  exact aQ (by decide) BQ.out
 rw[bM]at bA
 cases bG:cn p.piece 255
 ·rw[bG]at bu
  go_enter Tryz.func28,Tryz.ntmps28
  go_upto_region 1 with (fail)
  generalize (w.alloc (.cells #[p.kind,p.life,p.piece,p.src,p.dst,p.fp,p.tp,p.flags,p.label,p.bare,p.code,.slice AO p.no cO,.slice AD p.nd cD] 53))=w1 at *
  have y0:=CE.out.2.1 0 _ rfl
  have y1:=CE.out.2.1 1 _ rfl
  have y2:=CE.out.2.1 2 _ rfl
  have y3:=CE.out.2.1 3 _ rfl
  have y4:=CE.out.2.1 4 _ rfl
  have y5:=CE.out.2.1 5 _ rfl
  have y6:=CE.out.2.1 6 _ rfl
  have y7:=CE.out.2.1 7 _ rfl
  have y8:=CE.out.2.1 8 _ rfl
  have y9:=CE.out.2.1 9 _ rfl
  have au:=CE.out.2.1 10 _ rfl
  have ao:=CE.out.2.1 11 _ rfl
  have al:=CE.out.2.1 12 _ rfl
  go_upto_region 3 with (fail)
  go_quiet (fail)
  have BQ:=hid (below_drewN B0.out nq)
  have CQ:=hid (Ce.below CE.out (below_drewN (Below.refl _ _) nq))
  have gI:w.heap.size<w1.heap.size:=CE.out.1
  have lQ:w1.heap.size≤(w1.drewN nq).heap.size:=by simp
  clear B0 CE
  clear y0 y1 y2 y3 y4 y5 y6 y7 y8 y9 au ao al
  generalize w1.drewN nq=wq at *
  have y0:=CQ.out.2.1 0 _ rfl
  have y1:=CQ.out.2.1 1 _ rfl
  have y2:=CQ.out.2.1 2 _ rfl
  have y3:=CQ.out.2.1 3 _ rfl
  have y4:=CQ.out.2.1 4 _ rfl
  have y5:=CQ.out.2.1 5 _ rfl
  have y6:=CQ.out.2.1 6 _ rfl
  have y7:=CQ.out.2.1 7 _ rfl
  have y8:=CQ.out.2.1 8 _ rfl
  have y9:=CQ.out.2.1 9 _ rfl
  have au:=CQ.out.2.1 10 _ rfl
  have ao:=CQ.out.2.1 11 _ rfl
  have al:=CQ.out.2.1 12 _ rfl
  go_wp2_with fail
  refine(bA.out _).mono ?_
  rintro e w' ⟨rfl,rfl⟩
  go_wp2_with fail
  refine(bu.out _).mono ?_
  rintro e w' ⟨rfl,rfl⟩
  go_wp2_with fail
  refine bodyPost_ret (v:=.tuple #[.slice none 0 0,.int .i64 14]) (by simp[results,Tryz.results28,go_sem]) rfl ?_
  rw[show aC p=14 from cX hk.out (by unfold bh;rw[KH.out];simp[bM,bG])]
  exact aQ (by decide) BQ.out
 rw[bG]at bu
 cases di:cn p.src 4294967295
 ·rw[di]at cE
  go_enter Tryz.func28,Tryz.ntmps28
  go_upto_region 1 with (fail)
  generalize (w.alloc (.cells #[p.kind,p.life,p.piece,p.src,p.dst,p.fp,p.tp,p.flags,p.label,p.bare,p.code,.slice AO p.no cO,.slice AD p.nd cD] 53))=w1 at *
  have y0:=CE.out.2.1 0 _ rfl
  have y1:=CE.out.2.1 1 _ rfl
  have y2:=CE.out.2.1 2 _ rfl
  have y3:=CE.out.2.1 3 _ rfl
  have y4:=CE.out.2.1 4 _ rfl
  have y5:=CE.out.2.1 5 _ rfl
  have y6:=CE.out.2.1 6 _ rfl
  have y7:=CE.out.2.1 7 _ rfl
  have y8:=CE.out.2.1 8 _ rfl
  have y9:=CE.out.2.1 9 _ rfl
  have au:=CE.out.2.1 10 _ rfl
  have ao:=CE.out.2.1 11 _ rfl
  have al:=CE.out.2.1 12 _ rfl
  go_upto_region 3 with (fail)
  go_quiet (fail)
  have BQ:=hid (below_drewN B0.out nq)
  have CQ:=hid (Ce.below CE.out (below_drewN (Below.refl _ _) nq))
  have gI:w.heap.size<w1.heap.size:=CE.out.1
  have lQ:w1.heap.size≤(w1.drewN nq).heap.size:=by simp
  clear B0 CE
  clear y0 y1 y2 y3 y4 y5 y6 y7 y8 y9 au ao al
  generalize w1.drewN nq=wq at *
  have y0:=CQ.out.2.1 0 _ rfl
  have y1:=CQ.out.2.1 1 _ rfl
  have y2:=CQ.out.2.1 2 _ rfl
  have y3:=CQ.out.2.1 3 _ rfl
  have y4:=CQ.out.2.1 4 _ rfl
  have y5:=CQ.out.2.1 5 _ rfl
  have y6:=CQ.out.2.1 6 _ rfl
  have y7:=CQ.out.2.1 7 _ rfl
  have y8:=CQ.out.2.1 8 _ rfl
  have y9:=CQ.out.2.1 9 _ rfl
  have au:=CQ.out.2.1 10 _ rfl
  have ao:=CQ.out.2.1 11 _ rfl
  have al:=CQ.out.2.1 12 _ rfl
  go_wp2_with fail
  refine(bA.out _).mono ?_
  rintro e w' ⟨rfl,rfl⟩
  go_wp2_with fail
  refine(bu.out _).mono ?_
  rintro e w' ⟨rfl,rfl⟩
  go_wp2_with fail
  refine(cE.out _).mono ?_
  rintro e w' ⟨rfl,rfl⟩
  go_wp2_with fail
  refine bodyPost_ret (v:=.tuple #[.slice none 0 0,.int .i64 14]) (by simp[results,Tryz.results28,go_sem]) rfl ?_
  rw[show aC p=14 from cX hk.out (by unfold bh;rw[KH.out];simp[bM,bG,di])]
  exact aQ (by decide) BQ.out
 rw[di]at cE
 cases dA:cn p.dst 4294967295
 ·rw[dA]at dh
  go_enter Tryz.func28,Tryz.ntmps28
  go_upto_region 1 with (fail)
  generalize (w.alloc (.cells #[p.kind,p.life,p.piece,p.src,p.dst,p.fp,p.tp,p.flags,p.label,p.bare,p.code,.slice AO p.no cO,.slice AD p.nd cD] 53))=w1 at *
  have y0:=CE.out.2.1 0 _ rfl
  have y1:=CE.out.2.1 1 _ rfl
  have y2:=CE.out.2.1 2 _ rfl
  have y3:=CE.out.2.1 3 _ rfl
  have y4:=CE.out.2.1 4 _ rfl
  have y5:=CE.out.2.1 5 _ rfl
  have y6:=CE.out.2.1 6 _ rfl
  have y7:=CE.out.2.1 7 _ rfl
  have y8:=CE.out.2.1 8 _ rfl
  have y9:=CE.out.2.1 9 _ rfl
  have au:=CE.out.2.1 10 _ rfl
  have ao:=CE.out.2.1 11 _ rfl
  have al:=CE.out.2.1 12 _ rfl
  go_upto_region 3 with (fail)
  go_quiet (fail)
  have BQ:=hid (below_drewN B0.out nq)
  have CQ:=hid (Ce.below CE.out (below_drewN (Below.refl _ _) nq))
  have gI:w.heap.size<w1.heap.size:=CE.out.1
  have lQ:w1.heap.size≤(w1.drewN nq).heap.size:=by simp
  clear B0 CE
  clear y0 y1 y2 y3 y4 y5 y6 y7 y8 y9 au ao al
  generalize w1.drewN nq=wq at *
  have y0:=CQ.out.2.1 0 _ rfl
  have y1:=CQ.out.2.1 1 _ rfl
  have y2:=CQ.out.2.1 2 _ rfl
  have y3:=CQ.out.2.1 3 _ rfl
  have y4:=CQ.out.2.1 4 _ rfl
  have y5:=CQ.out.2.1 5 _ rfl
  have y6:=CQ.out.2.1 6 _ rfl
  have y7:=CQ.out.2.1 7 _ rfl
  have y8:=CQ.out.2.1 8 _ rfl
  have y9:=CQ.out.2.1 9 _ rfl
  have au:=CQ.out.2.1 10 _ rfl
  have ao:=CQ.out.2.1 11 _ rfl
  have al:=CQ.out.2.1 12 _ rfl
  go_wp2_with fail
  refine(bA.out _).mono ?_
  rintro e w' ⟨rfl,rfl⟩
  go_wp2_with fail
  refine(bu.out _).mono ?_
  rintro e w' ⟨rfl,rfl⟩
  go_wp2_with fail
  refine(cE.out _).mono ?_
  rintro e w' ⟨rfl,rfl⟩
  go_wp2_with fail
  refine(dh.out _).mono ?_
  rintro e w' ⟨rfl,rfl⟩
  go_wp2_with fail
  refine bodyPost_ret (v:=.tuple #[.slice none 0 0,.int .i64 14]) (by simp[results,Tryz.results28,go_sem]) rfl ?_
  rw[show aC p=14 from cX hk.out (by unfold bh;rw[KH.out];simp[bM,bG,di,dA])]
  exact aQ (by decide) BQ.out
 rw[dA]at dh
 cases fU:cn p.fp 65535
 ·rw[fU]at fB
  go_enter Tryz.func28,Tryz.ntmps28
  go_upto_region 1 with (fail)
  generalize (w.alloc (.cells #[p.kind,p.life,p.piece,p.src,p.dst,p.fp,p.tp,p.flags,p.label,p.bare,p.code,.slice AO p.no cO,.slice AD p.nd cD] 53))=w1 at *
  have y0:=CE.out.2.1 0 _ rfl
  have y1:=CE.out.2.1 1 _ rfl
  have y2:=CE.out.2.1 2 _ rfl
  have y3:=CE.out.2.1 3 _ rfl
  have y4:=CE.out.2.1 4 _ rfl
  have y5:=CE.out.2.1 5 _ rfl
  have y6:=CE.out.2.1 6 _ rfl
  have y7:=CE.out.2.1 7 _ rfl
  have y8:=CE.out.2.1 8 _ rfl
  have y9:=CE.out.2.1 9 _ rfl
  have au:=CE.out.2.1 10 _ rfl
  have ao:=CE.out.2.1 11 _ rfl
  have al:=CE.out.2.1 12 _ rfl
  go_upto_region 3 with (fail)
  go_quiet (fail)
  have BQ:=hid (below_drewN B0.out nq)
  have CQ:=hid (Ce.below CE.out (below_drewN (Below.refl _ _) nq))
  have gI:w.heap.size<w1.heap.size:=CE.out.1
  have lQ:w1.heap.size≤(w1.drewN nq).heap.size:=by simp
  clear B0 CE
  clear y0 y1 y2 y3 y4 y5 y6 y7 y8 y9 au ao al
  generalize w1.drewN nq=wq at *
  have y0:=CQ.out.2.1 0 _ rfl
  have y1:=CQ.out.2.1 1 _ rfl
  have y2:=CQ.out.2.1 2 _ rfl
  have y3:=CQ.out.2.1 3 _ rfl
  have y4:=CQ.out.2.1 4 _ rfl
  have y5:=CQ.out.2.1 5 _ rfl
  have y6:=CQ.out.2.1 6 _ rfl
  have y7:=CQ.out.2.1 7 _ rfl
  have y8:=CQ.out.2.1 8 _ rfl
  have y9:=CQ.out.2.1 9 _ rfl
  have au:=CQ.out.2.1 10 _ rfl
  have ao:=CQ.out.2.1 11 _ rfl
  have al:=CQ.out.2.1 12 _ rfl
  go_wp2_with fail
  refine(bA.out _).mono ?_
  rintro e w' ⟨rfl,rfl⟩
  go_wp2_with fail
  refine(bu.out _).mono ?_
  rintro e w' ⟨rfl,rfl⟩
  go_wp2_with fail
  refine(cE.out _).mono ?_
  rintro e w' ⟨rfl,rfl⟩
  go_wp2_with fail
  refine(dh.out _).mono ?_
  rintro e w' ⟨rfl,rfl⟩
  go_wp2_with fail
  refine(fB.out _).mono ?_
  rintro e w' ⟨rfl,rfl⟩
  go_wp2_with fail
  refine bodyPost_ret (v:=.tuple #[.slice none 0 0,.int .i64 14]) (by simp[results,Tryz.results28,go_sem]) rfl ?_
  rw[show aC p=14 from cX hk.out (by unfold bh;rw[KH.out];simp[bM,bG,di,dA,fU])]
  exact aQ (by decide) BQ.out
 rw[fU]at fB
 cases gT:cn p.tp 65535
 ·rw[gT]at fX
  go_enter Tryz.func28,Tryz.ntmps28
  go_upto_region 1 with (fail)
  generalize (w.alloc (.cells #[p.kind,p.life,p.piece,p.src,p.dst,p.fp,p.tp,p.flags,p.label,p.bare,p.code,.slice AO p.no cO,.slice AD p.nd cD] 53))=w1 at *
  have y0:=CE.out.2.1 0 _ rfl
  have y1:=CE.out.2.1 1 _ rfl
  have y2:=CE.out.2.1 2 _ rfl
  have y3:=CE.out.2.1 3 _ rfl
  have y4:=CE.out.2.1 4 _ rfl
  have y5:=CE.out.2.1 5 _ rfl
  have y6:=CE.out.2.1 6 _ rfl
  have y7:=CE.out.2.1 7 _ rfl
  have y8:=CE.out.2.1 8 _ rfl
  have y9:=CE.out.2.1 9 _ rfl
  have au:=CE.out.2.1 10 _ rfl
  have ao:=CE.out.2.1 11 _ rfl
  have al:=CE.out.2.1 12 _ rfl
  go_upto_region 3 with (fail)
  go_quiet (fail)
  have BQ:=hid (below_drewN B0.out nq)
  have CQ:=hid (Ce.below CE.out (below_drewN (Below.refl _ _) nq))
  have gI:w.heap.size<w1.heap.size:=CE.out.1
  have lQ:w1.heap.size≤(w1.drewN nq).heap.size:=by simp
  clear B0 CE
  clear y0 y1 y2 y3 y4 y5 y6 y7 y8 y9 au ao al
  generalize w1.drewN nq=wq at *
  have y0:=CQ.out.2.1 0 _ rfl
  have y1:=CQ.out.2.1 1 _ rfl
  have y2:=CQ.out.2.1 2 _ rfl
  have y3:=CQ.out.2.1 3 _ rfl
  have y4:=CQ.out.2.1 4 _ rfl
  have y5:=CQ.out.2.1 5 _ rfl
  have y6:=CQ.out.2.1 6 _ rfl
  have y7:=CQ.out.2.1 7 _ rfl
  have y8:=CQ.out.2.1 8 _ rfl
  have y9:=CQ.out.2.1 9 _ rfl
  have au:=CQ.out.2.1 10 _ rfl
  have ao:=CQ.out.2.1 11 _ rfl
  have al:=CQ.out.2.1 12 _ rfl
  go_wp2_with fail
  refine(bA.out _).mono ?_
  rintro e w' ⟨rfl,rfl⟩
  go_wp2_with fail
  refine(bu.out _).mono ?_
  rintro e w' ⟨rfl,rfl⟩
  go_wp2_with fail
  refine(cE.out _).mono ?_
  rintro e w' ⟨rfl,rfl⟩
  go_wp2_with fail
  refine(dh.out _).mono ?_
  rintro e w' ⟨rfl,rfl⟩
  go_wp2_with fail
  refine(fB.out _).mono ?_
  rintro e w' ⟨rfl,rfl⟩
  go_wp2_with fail
  refine(fX.out _).mono ?_
  rintro e w' ⟨rfl,rfl⟩
  go_wp2_with fail
  refine bodyPost_ret (v:=.tuple #[.slice none 0 0,.int .i64 14]) (by simp[results,Tryz.results28,go_sem]) rfl ?_
  rw[show aC p=14 from cX hk.out (by unfold bh;rw[KH.out];simp[bM,bG,di,dA,fU,gT])]
  exact aQ (by decide) BQ.out
 rw[gT]at fX
 cases mI:cn p.label 65535
 ·rw[mI]at jk
  go_enter Tryz.func28,Tryz.ntmps28
  go_upto_region 1 with (fail)
  generalize (w.alloc (.cells #[p.kind,p.life,p.piece,p.src,p.dst,p.fp,p.tp,p.flags,p.label,p.bare,p.code,.slice AO p.no cO,.slice AD p.nd cD] 53))=w1 at *
  have y0:=CE.out.2.1 0 _ rfl
  have y1:=CE.out.2.1 1 _ rfl
  have y2:=CE.out.2.1 2 _ rfl
  have y3:=CE.out.2.1 3 _ rfl
  have y4:=CE.out.2.1 4 _ rfl
  have y5:=CE.out.2.1 5 _ rfl
  have y6:=CE.out.2.1 6 _ rfl
  have y7:=CE.out.2.1 7 _ rfl
  have y8:=CE.out.2.1 8 _ rfl
  have y9:=CE.out.2.1 9 _ rfl
  have au:=CE.out.2.1 10 _ rfl
  have ao:=CE.out.2.1 11 _ rfl
  have al:=CE.out.2.1 12 _ rfl
  go_upto_region 3 with (fail)
  go_quiet (fail)
  have BQ:=hid (below_drewN B0.out nq)
  have CQ:=hid (Ce.below CE.out (below_drewN (Below.refl _ _) nq))
  have gI:w.heap.size<w1.heap.size:=CE.out.1
  have lQ:w1.heap.size≤(w1.drewN nq).heap.size:=by simp
  clear B0 CE
  clear y0 y1 y2 y3 y4 y5 y6 y7 y8 y9 au ao al
  generalize w1.drewN nq=wq at *
  have y0:=CQ.out.2.1 0 _ rfl
  have y1:=CQ.out.2.1 1 _ rfl
  have y2:=CQ.out.2.1 2 _ rfl
  have y3:=CQ.out.2.1 3 _ rfl
  have y4:=CQ.out.2.1 4 _ rfl
  have y5:=CQ.out.2.1 5 _ rfl
  have y6:=CQ.out.2.1 6 _ rfl
  have y7:=CQ.out.2.1 7 _ rfl
  have y8:=CQ.out.2.1 8 _ rfl
  have y9:=CQ.out.2.1 9 _ rfl
  have au:=CQ.out.2.1 10 _ rfl
  have ao:=CQ.out.2.1 11 _ rfl
  have al:=CQ.out.2.1 12 _ rfl
  go_wp2_with fail
  refine(bA.out _).mono ?_
  rintro e w' ⟨rfl,rfl⟩
  go_wp2_with fail
  refine(bu.out _).mono ?_
  rintro e w' ⟨rfl,rfl⟩
  go_wp2_with fail
  refine(cE.out _).mono ?_
  rintro e w' ⟨rfl,rfl⟩
  go_wp2_with fail
  refine(dh.out _).mono ?_
  rintro e w' ⟨rfl,rfl⟩
  go_wp2_with fail
  refine(fB.out _).mono ?_
  rintro e w' ⟨rfl,rfl⟩
  go_wp2_with fail
  refine(fX.out _).mono ?_
  rintro e w' ⟨rfl,rfl⟩
  go_wp2_with fail
  refine(jk.out _).mono ?_
  rintro e w' ⟨rfl,rfl⟩
  go_wp2_with fail
  refine bodyPost_ret (v:=.tuple #[.slice none 0 0,.int .i64 14]) (by simp[results,Tryz.results28,go_sem]) rfl ?_
  rw[show aC p=14 from cX hk.out (by unfold bh;rw[KH.out];simp[bM,bG,di,dA,fU,gT,mI])]
  exact aQ (by decide) BQ.out
 rw[mI]at jk
 have hr:bh p=true:=by unfold bh;rw[KH.out];simp[bM,bG,di,dA,fU,gT,mI]
 clear bM bG di dA fU gT mI
 obtain ⟨⟨vK,vJ⟩,⟨vI,vH⟩,rc,rf⟩:=iP hr
 have N5:=hid (show ¬(p.kind=1∧40<p.no) from fun e=>by have:=e.1;rw[KH.out]at this;cases this)
 have HL:Hid ((aJ p:Int)=24+(p.nd:Int)):=hid (by unfold aJ;rw[KH.out,if_neg (by decide),if_pos rfl];omega)
 have N4:=hid (show ¬(p.kind=3∧p.nd<24) from fun e=>by have:=e.1;rw[KH.out]at this;cases this)
 cases sJ:decide ((1500:Int)<24+(p.nd:Int))
 ·have N3:=hid (show ¬(p.kind=3∧p.nd<24∨1500<aJ p) from fun e=>by rcases e with e |e;(exact N4.out e);(have:=HL.out;simp at sJ;omega))
  have hE:=oM hk.out hr N5.out N3.out
  obtain ⟨e1,e2,e3,e4,e5,e6⟩:=fM hE
  clear e1 e3 e4
  have KL:=hid (gB hE)
  have F5:0≤p.kind:=by have:=KL.out;omega
  have FZ:p.kind≤255:=by have:=KL.out;omega
  have RB:=hid (mH hgd hgo hE)
  have jm:=hid (ju hgd hgo hE)
  have FB:=hid (xJ hk.out ⟨vK,vJ⟩ ⟨vI,vH⟩)
  have HE:=hid hE
  clear hE hgo hgd N5 N3 hr e2
  have u0:IntKind.u8.wrap p.kind=p.kind:=by rw[IntKind.wrap_u8];omega
  have u1:IntKind.u8.wrap p.life=p.life:=by rw[IntKind.wrap_u8];omega
  have u2:IntKind.u8.wrap p.piece=p.piece:=by rw[IntKind.wrap_u8];omega
  obtain ⟨n,hn⟩:∃n,n=aJ p:=⟨_,rfl⟩
  have HN:=hid hn
  have hV:(24+(p.nd:Int))=(n:Int):=by have:=HL.out;omega
  have zy:Hid ((24+(p.nd:Int))=(aJ p:Int)):=hid (by rw[hV,hn])
  replace hV:=hid hV
  rw[←hn]at e5 e6
  clear hn
  have Gy:n≤24+p.nd:=by have:=hV.out;omega
  have Gx:24+p.nd≤n:=by have:=hV.out;omega
  clear rc rf
  have Ko:p.nd≤1500:=by omega
  go_enter Tryz.func28,Tryz.ntmps28
  go_upto_region 1 with (fail)
  generalize (w.alloc (.cells #[p.kind,p.life,p.piece,p.src,p.dst,p.fp,p.tp,p.flags,p.label,p.bare,p.code,.slice AO p.no cO,.slice AD p.nd cD] 53))=w1 at *
  have y0:=CE.out.2.1 0 _ rfl
  have y1:=CE.out.2.1 1 _ rfl
  have y2:=CE.out.2.1 2 _ rfl
  have y3:=CE.out.2.1 3 _ rfl
  have y4:=CE.out.2.1 4 _ rfl
  have y5:=CE.out.2.1 5 _ rfl
  have y6:=CE.out.2.1 6 _ rfl
  have y7:=CE.out.2.1 7 _ rfl
  have y8:=CE.out.2.1 8 _ rfl
  have y9:=CE.out.2.1 9 _ rfl
  have au:=CE.out.2.1 10 _ rfl
  have ao:=CE.out.2.1 11 _ rfl
  have al:=CE.out.2.1 12 _ rfl
  go_upto_region 3 with (fail)
  go_quiet (fail)
  have BQ:=hid (below_drewN B0.out nq)
  have CQ:=hid (Ce.below CE.out (below_drewN (Below.refl _ _) nq))
  have gI:w.heap.size<w1.heap.size:=CE.out.1
  have lQ:w1.heap.size≤(w1.drewN nq).heap.size:=by simp
  clear B0 CE
  clear y0 y1 y2 y3 y4 y5 y6 y7 y8 y9 au ao al
  generalize w1.drewN nq=wq at *
  have y0:=CQ.out.2.1 0 _ rfl
  have y1:=CQ.out.2.1 1 _ rfl
  have y2:=CQ.out.2.1 2 _ rfl
  have y3:=CQ.out.2.1 3 _ rfl
  have y4:=CQ.out.2.1 4 _ rfl
  have y5:=CQ.out.2.1 5 _ rfl
  have y6:=CQ.out.2.1 6 _ rfl
  have y7:=CQ.out.2.1 7 _ rfl
  have y8:=CQ.out.2.1 8 _ rfl
  have y9:=CQ.out.2.1 9 _ rfl
  have au:=CQ.out.2.1 10 _ rfl
  have ao:=CQ.out.2.1 11 _ rfl
  have al:=CQ.out.2.1 12 _ rfl
  go_wp2_with fail
  refine(bA.out _).mono ?_
  rintro e w' ⟨rfl,rfl⟩
  go_wp2_with fail
  refine(bu.out _).mono ?_
  rintro e w' ⟨rfl,rfl⟩
  go_wp2_with fail
  refine(cE.out _).mono ?_
  rintro e w' ⟨rfl,rfl⟩
  go_wp2_with fail
  refine(dh.out _).mono ?_
  rintro e w' ⟨rfl,rfl⟩
  go_wp2_with fail
  refine(fB.out _).mono ?_
  rintro e w' ⟨rfl,rfl⟩
  go_wp2_with fail
  refine(fX.out _).mono ?_
  rintro e w' ⟨rfl,rfl⟩
  go_wp2_with fail
  refine(jk.out _).mono ?_
  rintro e w' ⟨rfl,rfl⟩
  clear bA bu cE dh fB fX jk
  go_upto_region 16 with (at_make;refine nK rfl _ _ rfl wq.heap.size 16 n _ _ rfl rfl rfl hV.out (by omega) (by omega) (Nat.le_refl _) ?_;intro w3 hO hb2;have HO:=hid hO;have HC:=hid (CQ.out.below hb2);have HB:=hid (BQ.out.trans (hb2.mono BQ.out.size));clear hO hb2)
  clear CQ BQ
  clear y0 y1 y2 y3 y4 y5 y6 y7 y8 y9 au ao al
  have lR:w.heap.size<wq.heap.size:=by omega
  obtain ⟨g',e,hB,hgs,hce,hfr⟩:=Ow.block_ HO.out (by omega)
  injection e with e
  injection e with e _
  subst e
  have c0:=hce 0 (by omega)
  have c1:=hce 1 (by omega)
  have c12:=hce 12 (by omega)
  have f0:=hfr 0
  have f1:=hfr 1
  have f12:=hfr 12
  clear hce hfr
  refine wp_region_held_drew (S:=fun w'=>Ce w' w.heap.size [p.kind,p.life,p.piece,p.src,p.dst,p.fp,p.tp,p.flags,p.label,p.bare,p.code,.slice AO p.no cO,.slice AD p.nd cD]) (by kernel_rfl) ?_ (fun hHeld=>?_)
  ·exact HC.out.aZ
  refine ae 0 hHeld ?_
  refine ae 1 hHeld ?_
  refine ae 2 hHeld ?_
  refine ae 3 hHeld ?_
  refine ae 4 hHeld ?_ (hy:=by intro w hSw;(try dsimp only at hSw);have q0:=hSw.2.1 0 _ rfl;have q1:=hSw.2.1 1 _ rfl;have q2:=hSw.2.1 2 _ rfl;go_simp;(try with_reducible rfl))
  refine ae 5 hHeld ?_
  refine ae 6 hHeld ?_
  refine ae 7 hHeld ?_ (hy:=by intro w hSw;(try dsimp only at hSw);have q0:=hSw.2.1 0 _ rfl;have q1:=hSw.2.1 1 _ rfl;have q2:=hSw.2.1 2 _ rfl;go_simp;(try with_reducible rfl))
  refine ae 8 hHeld ?_
  refine ae 9 hHeld ?_
  refine ae 10 hHeld ?_ (hy:=by intro w hSw;(try dsimp only at hSw);have q0:=hSw.2.1 0 _ rfl;have q1:=hSw.2.1 1 _ rfl;have q2:=hSw.2.1 2 _ rfl;go_simp;(try with_reducible rfl))
  refine ae 11 hHeld ?_
  refine ae 12 hHeld ?_
  refine only 13 rfl (by kernel_rfl) rfl (fun K hK=>?_)
  go_simp
  have hH0:Ce (w3.setCell ⟨wq.heap.size,0,none⟩ (.int .u8 p.kind)).drew w.heap.size [p.kind,p.life,p.piece,p.src,p.dst,p.fp,p.tp,p.flags,p.label,p.bare,p.code,.slice AO p.no cO,.slice AD p.nd cD]:=Ce.aZ (HC.out.grown (gs 0 (.int .u8 p.kind) (World.grownBy.refl w3 (some wq.heap.size))) (fun e=>by injection e with e;omega))
  refine hK.out _ _ hH0 (fun _=>?_)
  clear hK
  (try simp only[Act.put,zA,zB,zC])
  refine ae 14 hH0 ?_
  refine only 15 rfl (by kernel_rfl) rfl (fun K hK=>?_)
  go_simp
  have hH1:Ce ((w3.setCell ⟨wq.heap.size,0,none⟩ (.int .u8 p.kind)).setCell ⟨wq.heap.size,1,none⟩ (.int .u8 p.life)).drew w.heap.size [p.kind,p.life,p.piece,p.src,p.dst,p.fp,p.tp,p.flags,p.label,p.bare,p.code,.slice AO p.no cO,.slice AD p.nd cD]:=Ce.aZ (HC.out.grown (gs 1 (.int .u8 p.life) (gs 0 (.int .u8 p.kind) (World.grownBy.refl w3 (some wq.heap.size)))) (fun e=>by injection e with e;omega))
  refine hK.out _ _ hH1 (fun _=>?_)
  clear hK
  (try simp only[Act.put,zA,zB,zC])
  refine ae 16 hH1 ?_
  refine only 17 rfl (by kernel_rfl) rfl (fun K hK=>?_)
  go_simp
  have hH2:Ce (((w3.setCell ⟨wq.heap.size,0,none⟩ (.int .u8 p.kind)).setCell ⟨wq.heap.size,1,none⟩ (.int .u8 p.life)).setCell ⟨wq.heap.size,12,none⟩ (.int .u8 p.piece)).drew w.heap.size [p.kind,p.life,p.piece,p.src,p.dst,p.fp,p.tp,p.flags,p.label,p.bare,p.code,.slice AO p.no cO,.slice AD p.nd cD]:=Ce.aZ (HC.out.grown (gs 12 (.int .u8 p.piece) (gs 1 (.int .u8 p.life) (gs 0 (.int .u8 p.kind) (World.grownBy.refl w3 (some wq.heap.size))))) (fun e=>by injection e with e;omega))
  refine hK.out _ _ hH2 (fun _=>?_)
  clear hK
  (try simp only[Act.put,zA,zB,zC])
  refine wpAnyH_done (by kernel_rfl) ?_ _
  have bC:=hid (Ow.drew (OB.store (OB.store (OB.store (HO.out) 0 p.kind) 1 p.life) 12 p.piece))
  have bE:=hid ((HB.out.trans (af (gs 12 (.int .u8 p.piece) (gs 1 (.int .u8 p.life) (gs 0 (.int .u8 p.kind) (World.grownBy.refl w3 (some wq.heap.size))))) (by omega) HB.out.size)).drew)
  have bT:=hid hH2
  clear hH0 hH1 hH2 hHeld HO HC HB
  have HO:=bC
  have HC:=bT
  have HB:=bE
  clear bC bT bE
  generalize (((w3.setCell ⟨wq.heap.size,0,none⟩ (.int .u8 p.kind)).setCell ⟨wq.heap.size,1,none⟩ (.int .u8 p.life)).setCell ⟨wq.heap.size,12,none⟩ (.int .u8 p.piece)).drew=w4 at *
  clear c0 c1 c12 f0 f1 f12
  go_upto_region 17 with (fail)
  go_wp2_with fail
  refine(aM HO.out 2 2 (24+(p.nd:Int)) (by omega) (by omega) (by omega)).mono ?_
  rintro e w5 ⟨rfl,hO,hg⟩
  have bC:=hid hO
  have bT:=hid (HC.out.grown hg (fun e=>by injection e with e;omega))
  have bE:=hid (HB.out.trans (af hg (by omega) HB.out.size))
  clear hO hg HO HC HB
  have HO:=bC
  have HC:=bT
  have HB:=bE
  clear bC bT bE
  go_upto_region 18 with (fail)
  have yy:=HC.out.2.1 3 _ rfl
  go_wp2_with fail
  refine(aM HO.out 4 4 p.src (by omega) (by omega) (by omega)).mono ?_
  rintro e w6 ⟨rfl,hO,hg⟩
  clear yy
  have bC:=hid hO
  have bT:=hid (HC.out.grown hg (fun e=>by injection e with e;omega))
  have bE:=hid (HB.out.trans (af hg (by omega) HB.out.size))
  clear hO hg HO HC HB
  have HO:=bC
  have HC:=bT
  have HB:=bE
  clear bC bT bE
  go_upto_region 19 with (fail)
  have yy:=HC.out.2.1 4 _ rfl
  go_wp2_with fail
  refine(aM HO.out 8 4 p.dst (by omega) (by omega) (by omega)).mono ?_
  rintro e w7 ⟨rfl,hO,hg⟩
  clear yy
  have bC:=hid hO
  have bT:=hid (HC.out.grown hg (fun e=>by injection e with e;omega))
  have bE:=hid (HB.out.trans (af hg (by omega) HB.out.size))
  clear hO hg HO HC HB
  have HO:=bC
  have HC:=bT
  have HB:=bE
  clear bC bT bE
  rw[zy.out]at HO
  go_upto_region 20 with (fail)
  have OF:=hid (dc (kY (some ⟨wq.heap.size,0,none⟩) 16 n _ w7 HO.out.sl1 FB.out (by omega)) (show 65535-norm (tot _ 16)=65535-norm (tot (bU p) 16) from by rw[eG _ (bU p) 16 (fun j hj=>kT hj)]))
  go_wp2_with fail
  refine OF.out.mono ?_
  rintro e w' ⟨rfl,rfl⟩
  clear OF
  go_wp2_with fail
  refine(aM HO.out 14 2 (65535-norm (tot (bU p) 16)) (by omega) (by omega) (by omega)).mono ?_
  rintro e w8 ⟨rfl,hO,hg⟩
  have bC:=hid hO
  have bT:=hid (HC.out.grown hg (fun e=>by injection e with e;omega))
  have bE:=hid (HB.out.trans (af hg (by omega) HB.out.size))
  clear hO hg HO HC HB
  have HO:=bC
  have HC:=bT
  have HB:=bE
  clear bC bT bE
  replace HO:=hid (show OB w8 wq.heap.size (.slice (some ⟨wq.heap.size,0,none⟩) 16 n) 16 (j6 p) from HO.out)
  go_upto_region 27 with (at_builtin;refine Az rfl (.tmp 174) (.const (.int .i64 8)) rfl wq.heap.size _ 16 _ rfl HO.out 8 rfl (by omega) (gA HO.out (by omega)) ?_;intro A9 c9 w9 h1 h2 h3 h4 h5 h6;have bC:=hid h1;have hcn:=h2;have bT:=hid (HC.out.jS h4 (by omega));have bE:=hid (HB.out.trans (h4.mono (by omega)));clear h1 h2 h3 h4 h5 h6)
  clear HO HC HB
  have HO:=bC
  have HC:=bT
  have HB:=bE
  clear bC bT bE
  obtain ⟨G,e,hB,hgs,hce,hfr⟩:=Ow.block_ HO.out (by omega)
  subst e
  clear hce hfr hgs
  have lG:w.heap.size<G:=by omega
  have yy:=HC.out.2.1 8 _ rfl
  go_wp2_with fail
  refine(aM HO.out 20 2 p.label (by omega) (by omega) (by omega)).mono ?_
  rintro e eW ⟨rfl,hO,hg⟩
  clear yy
  have bC:=hid hO
  have bT:=hid (HC.out.grown hg (fun e=>by injection e with e;omega))
  have bE:=hid (HB.out.trans (af hg (by omega) HB.out.size))
  clear hO hg HO HC HB
  have HO:=bC
  have HC:=bT
  have HB:=bE
  clear bC bT bE
  go_upto_region 29 with (fail)
  have yy:=HC.out.2.1 5 _ rfl
  go_wp2_with fail
  refine(aM HO.out 16 2 p.fp (by omega) (by omega) (by omega)).mono ?_
  rintro e pB ⟨rfl,hO,hg⟩
  clear yy
  have bC:=hid hO
  have bT:=hid (HC.out.grown hg (fun e=>by injection e with e;omega))
  have bE:=hid (HB.out.trans (af hg (by omega) HB.out.size))
  clear hO hg HO HC HB
  have HO:=bC
  have HC:=bT
  have HB:=bE
  clear bC bT bE
  go_upto_region 30 with (fail)
  have yy:=HC.out.2.1 6 _ rfl
  go_wp2_with fail
  refine(aM HO.out 18 2 p.tp (by omega) (by omega) (by omega)).mono ?_
  rintro e sd ⟨rfl,hO,hg⟩
  clear yy
  have bC:=hid hO
  have bT:=hid (HC.out.grown hg (fun e=>by injection e with e;omega))
  have bE:=hid (HB.out.trans (af hg (by omega) HB.out.size))
  clear hO hg HO HC HB
  have HO:=bC
  have HC:=bT
  have HB:=bE
  clear bC bT bE
  have al:=HC.out.2.1 12 _ rfl
  go_upto_region 32 with (at_builtin;refine dC rfl (.tmp 190) (.tmp 192) rfl wq.heap.size _ (16+8) _ rfl HO.out _ (p.nd) _ p.gd rfl (nH.out _ HB.out) (by omega) (gA HO.out (by omega)) ?_;intro LC c10 vB h1 h2 h3 h4 h5 h6;have bC:=hid h1;have hcn:=h2;have bT:=hid (HC.out.jS h4 (by omega));have bE:=hid (HB.out.trans (h4.mono (by omega)));clear h1 h2 h3 h4 h5 h6)
  clear HO HC HB
  have HO:=bC
  have HC:=bT
  have HB:=bE
  clear bC bT bE
  clear al
  have eL:16+8+p.nd=n:=by omega
  have eF:∀j,j<n→(fun j=>if j<16+8 then ah (ah (ah (fun j=>if j<16 then j6 p j else 0) 20 2 p.label) 16 2 p.fp) 18 2 p.tp j else p.gd (j-(16+8))) j=aR p j:=fun j hj=>L4 KH.out j (by omega)
  replace HO:=hid (OB.lE HO.out (fun j hj=>eF j (by omega)))
  rw[eL]at *
  clear eF
  obtain ⟨Z,e,hB,hgs,hce,hfr⟩:=Ow.block_ HO.out (by omega)
  subst e
  clear hce hfr hgs
  have SM:=hid (fun (W:World) (hW:By W (some ⟨Z,0,none⟩) n (aR p))=>jV (some ⟨Z,0,none⟩) n c10 (aR p) W hW jm.out e6 (by omega) e5)
  go_wp2_with fail
  refine(SM.out _ HO.out.sl1).mono ?_
  rintro e jH ⟨A2,c2,rfl,hS,jv⟩
  have bC:=hid (OB.nc HO.out jv)
  have bT:=hid (HC.out.below jv)
  have bE:=hid (HB.out.trans (jv.mono HB.out.size))
  have OF:=hid (dc (kY A2 _ c2 _ _ hS (jo jm.out n) (by unfold bo;split <;> omega)) (show 65535-norm (tot (bq (aR p) n) (bo (aR p) n))=fN p from by unfold fN;rw[HN.out]))
  clear hS jv SM HO HC HB
  have HO:=bC
  have HC:=bT
  have HB:=bE
  clear bC bT bE
  obtain ⟨x,hx⟩:∃x,x=fN p:=⟨_,rfl⟩
  have HX:=hid hx
  rw[←hx]at OF
  clear hx
  go_wp2_with fail
  refine OF.out.mono ?_
  rintro e w' ⟨rfl,rfl⟩
  clear OF
  have PA:=hid (fun w=>dc (i_ p.kind w) (show ((aI p.kind:Nat):Int)=22 from by rw[KH.out];rfl))
  cases xz:(x==0) <;> cases bb:p.bare
  ·have BB:=hid bb
   have XZ:=hid xz
   clear bb
   have y9:=HC.out.2.1 9 _ rfl
   rw[BB.out]at y9
   have y0:=HC.out.2.1 0 _ rfl
   go_wp2_with fail
   refine(PA.out _).mono ?_
   rintro e w' ⟨rfl,rfl⟩
   go_wp2_with fail
   refine(aM HO.out 22 2 x (by omega) (by omega) (by omega)).mono ?_
   rintro e qo ⟨rfl,hO,hg⟩
   have bC:=hid hO
   have bE:=hid (HB.out.trans (af hg (by omega) HB.out.size))
   clear hO hg
   go_wp2_with fail
   refine bodyPost_ret (v:=.tuple #[.slice (some ⟨Z,0,none⟩) n c10,()]) (by simp[results,Tryz.results28,go_sem]) rfl ?_
   rw[HE.out,←HN.out]
   refine⟨_,rfl,?_,bE.out⟩
   refine OB.base (OB.lE bC.out (fun j hj=>?_)) (by omega)
   rw[pw KH.out,BB.out,if_neg (by decide),←HX.out,if_neg (by simpa using XZ.out)]
  ·have BB:=hid bb
   have XZ:=hid xz
   clear bb
   have y9:=HC.out.2.1 9 _ rfl
   rw[BB.out]at y9
   have y0:=HC.out.2.1 0 _ rfl
   go_wp2_with fail
   refine(PA.out _).mono ?_
   rintro e w' ⟨rfl,rfl⟩
   go_wp2_with fail
   refine(aM HO.out 22 2 0 (by omega) (by omega) (by omega)).mono ?_
   rintro e qo ⟨rfl,hO,hg⟩
   have bC:=hid hO
   have bE:=hid (HB.out.trans (af hg (by omega) HB.out.size))
   clear hO hg
   go_wp2_with fail
   refine bodyPost_ret (v:=.tuple #[.slice (some ⟨Z,0,none⟩) n c10,()]) (by simp[results,Tryz.results28,go_sem]) rfl ?_
   rw[HE.out,←HN.out]
   refine⟨_,rfl,?_,bE.out⟩
   refine OB.base (OB.lE bC.out (fun j hj=>?_)) (by omega)
   rw[pw KH.out,BB.out,if_pos rfl]
  ·have BB:=hid bb
   have XZ:=hid xz
   clear bb
   have y9:=HC.out.2.1 9 _ rfl
   rw[BB.out]at y9
   have y0:=HC.out.2.1 0 _ rfl
   go_wp2_with fail
   refine(PA.out _).mono ?_
   rintro e w' ⟨rfl,rfl⟩
   go_wp2_with fail
   refine(aM HO.out 22 2 65535 (by omega) (by omega) (by omega)).mono ?_
   rintro e qo ⟨rfl,hO,hg⟩
   have bC:=hid hO
   have bE:=hid (HB.out.trans (af hg (by omega) HB.out.size))
   clear hO hg
   go_wp2_with fail
   refine bodyPost_ret (v:=.tuple #[.slice (some ⟨Z,0,none⟩) n c10,()]) (by simp[results,Tryz.results28,go_sem]) rfl ?_
   rw[HE.out,←HN.out]
   refine⟨_,rfl,?_,bE.out⟩
   refine OB.base (OB.lE bC.out (fun j hj=>?_)) (by omega)
   rw[pw KH.out,BB.out,if_neg (by decide),←HX.out,if_pos (by simpa using XZ.out)]
  have BB:=hid bb
  have XZ:=hid xz
  clear bb
  have y9:=HC.out.2.1 9 _ rfl
  rw[BB.out]at y9
  have y0:=HC.out.2.1 0 _ rfl
  go_wp2_with fail
  refine(PA.out _).mono ?_
  rintro e w' ⟨rfl,rfl⟩
  go_wp2_with fail
  refine(aM HO.out 22 2 0 (by omega) (by omega) (by omega)).mono ?_
  rintro e qo ⟨rfl,hO,hg⟩
  have bC:=hid hO
  have bE:=hid (HB.out.trans (af hg (by omega) HB.out.size))
  clear hO hg
  go_wp2_with fail
  refine bodyPost_ret (v:=.tuple #[.slice (some ⟨Z,0,none⟩) n c10,()]) (by simp[results,Tryz.results28,go_sem]) rfl ?_
  rw[HE.out,←HN.out]
  refine⟨_,rfl,?_,bE.out⟩
  refine OB.base (OB.lE bC.out (fun j hj=>?_)) (by omega)
  rw[pw KH.out,BB.out,if_pos rfl]
 replace hr:=hid hr
 go_enter Tryz.func28,Tryz.ntmps28
 go_upto_region 1 with (fail)
 generalize (w.alloc (.cells #[p.kind,p.life,p.piece,p.src,p.dst,p.fp,p.tp,p.flags,p.label,p.bare,p.code,.slice AO p.no cO,.slice AD p.nd cD] 53))=w1 at *
 have y0:=CE.out.2.1 0 _ rfl
 have y1:=CE.out.2.1 1 _ rfl
 have y2:=CE.out.2.1 2 _ rfl
 have y3:=CE.out.2.1 3 _ rfl
 have y4:=CE.out.2.1 4 _ rfl
 have y5:=CE.out.2.1 5 _ rfl
 have y6:=CE.out.2.1 6 _ rfl
 have y7:=CE.out.2.1 7 _ rfl
 have y8:=CE.out.2.1 8 _ rfl
 have y9:=CE.out.2.1 9 _ rfl
 have au:=CE.out.2.1 10 _ rfl
 have ao:=CE.out.2.1 11 _ rfl
 have al:=CE.out.2.1 12 _ rfl
 go_upto_region 3 with (fail)
 go_quiet (fail)
 have BQ:=hid (below_drewN B0.out nq)
 have CQ:=hid (Ce.below CE.out (below_drewN (Below.refl _ _) nq))
 have gI:w.heap.size<w1.heap.size:=CE.out.1
 have lQ:w1.heap.size≤(w1.drewN nq).heap.size:=by simp
 clear B0 CE
 clear y0 y1 y2 y3 y4 y5 y6 y7 y8 y9 au ao al
 generalize w1.drewN nq=wq at *
 have y0:=CQ.out.2.1 0 _ rfl
 have y1:=CQ.out.2.1 1 _ rfl
 have y2:=CQ.out.2.1 2 _ rfl
 have y3:=CQ.out.2.1 3 _ rfl
 have y4:=CQ.out.2.1 4 _ rfl
 have y5:=CQ.out.2.1 5 _ rfl
 have y6:=CQ.out.2.1 6 _ rfl
 have y7:=CQ.out.2.1 7 _ rfl
 have y8:=CQ.out.2.1 8 _ rfl
 have y9:=CQ.out.2.1 9 _ rfl
 have au:=CQ.out.2.1 10 _ rfl
 have ao:=CQ.out.2.1 11 _ rfl
 have al:=CQ.out.2.1 12 _ rfl
 go_wp2_with fail
 refine(bA.out _).mono ?_
 rintro e w' ⟨rfl,rfl⟩
 go_wp2_with fail
 refine(bu.out _).mono ?_
 rintro e w' ⟨rfl,rfl⟩
 go_wp2_with fail
 refine(cE.out _).mono ?_
 rintro e w' ⟨rfl,rfl⟩
 go_wp2_with fail
 refine(dh.out _).mono ?_
 rintro e w' ⟨rfl,rfl⟩
 go_wp2_with fail
 refine(fB.out _).mono ?_
 rintro e w' ⟨rfl,rfl⟩
 go_wp2_with fail
 refine(fX.out _).mono ?_
 rintro e w' ⟨rfl,rfl⟩
 go_wp2_with fail
 refine(jk.out _).mono ?_
 rintro e w' ⟨rfl,rfl⟩
 go_wp2_with fail
 refine bodyPost_ret (v:=.tuple #[.slice none 0 0,.int .i64 3]) (by simp[results,Tryz.results28,go_sem]) rfl ?_
 rw[show aC p=3 from kW hk.out hr.out N5.out (.inr (by have:=HL.out;simp at sJ;omega))]
 exact aQ (by decide) BQ.out
end Go.Proofs.YtalnfkijiehjhaaGreat
