/- The reference's Build, of a gram. -/
import Derived.Test.YtgfonkagnambiaaGreatGa
import Derived.Test.YtgfonkagnambiaaGreatWirLay
import Derived.BigQuiet
import Derived.Deep.RegionHeld3
import Derived.Deep.Cut
namespace Go.Proofs.YtgfonkagnambiaaGreat
open List renaming setIfInBounds_toArray→zA,set_cons_zero→zB,set_cons_succ→zC
set_option linter.unusedVariables false
set_option linter.unusedSimpArgs false
open Go.RowKit Go.ChangeShapes Go.WideShapes Go.ChangeAt
set_option maxHeartbeats 16000000 in
set_option maxRecDepth 10000 in
theorem tC (p:Pk)(AO:Option Addr)(cO:Nat)(AD:Option Addr)(cD:Nat)(w:World)(HO:By w AO p.no p.go)(HD:By w AD p.nd p.gd)(hgo:az p.go)(hgd:az p.gd)(h1:p.no≤1000000)(h2:p.nd≤1000000)(KH:Hid (p.kind=2)) :
 Calls Tryz.prog 33 #[.agg #[p.kind,p.life,p.piece,p.src,p.dst,p.fp,p.tp,p.flags,p.label,p.bare,p.code,.slice AO p.no cO,.slice AD p.nd cD]] w (iZ w (ax p) (aG p) (aD p)):=by
 have HOW:=hid (fun (W:World) (hw:Below w.heap.size w W)=>Sl.below HO hw (Nat.le_refl _))
 have ml:=hid (fun (W:World) (hw:Below w.heap.size w W)=>Sl.below HD hw (Nat.le_refl _))
 have CE:=hid (Ce.made (w:=w) (l:=[p.kind,p.life,p.piece,p.src,p.dst,p.fp,p.tp,p.flags,p.label,p.bare,p.code,.slice AO p.no cO,.slice AD p.nd cD]) (T:=45) (g:=w.heap.size) rfl)
 have B0:=hid ((Below.refl w.heap.size w).alloc (Nat.le_refl _) (.cells #[p.kind,p.life,p.piece,p.src,p.dst,p.fp,p.tp,p.flags,p.label,p.bare,p.code,.slice AO p.no cO,.slice AD p.nd cD] 45))
 simp only[List.toArray]at CE
 clear HO HD
 have m1:(p.kind==1)=false:=by rw[KH.out];rfl
 have m2:(p.kind==2)=true:=by rw[KH.out];rfl
 have m3:(p.kind==3)=false:=by rw[KH.out];rfl
 have j1:¬p.kind<1:=by rw[KH.out];decide
 have j3:¬3<p.kind:=by rw[KH.out];decide
 have hk:isK p.kind=true:=by rw[KH.out];rfl
 replace hk:=hid hk
 have aY:=hid (fun w=>cH p.life 255 w)
 have aW:=hid (fun w=>cH p.piece 255 w)
 have bX:=hid (fun w=>cH p.src 4294967295 w)
 have cu:=hid (fun w=>cH p.dst 4294967295 w)
 have eD:=hid (fun w=>cH p.fp 65535 w)
 have eU:=hid (fun w=>cH p.tp 65535 w)
 have ij:=hid (fun w=>cH p.label 65535 w)
 cases bA:bW p.life 255
 ·rw[bA]at aY
  go_enter Tryz.func33,Tryz.ntmps33
  go_upto_region 1 with (fail)
  generalize (w.alloc (.cells #[p.kind,p.life,p.piece,p.src,p.dst,p.fp,p.tp,p.flags,p.label,p.bare,p.code,.slice AO p.no cO,.slice AD p.nd cD] 45))=w1 at *
  have y0:=CE.out.2.1 0 _ rfl
  have y1:=CE.out.2.1 1 _ rfl
  have y2:=CE.out.2.1 2 _ rfl
  have y3:=CE.out.2.1 3 _ rfl
  have y4:=CE.out.2.1 4 _ rfl
  have y5:=CE.out.2.1 5 _ rfl
  have y6:=CE.out.2.1 6 _ rfl
  have y7:=CE.out.2.1 7 _ rfl
  have y8:=CE.out.2.1 8 _ rfl
  have y9:=CE.out.2.1 9 _ rfl
  have aj:=CE.out.2.1 10 _ rfl
  have ah:=CE.out.2.1 11 _ rfl
  have ag:=CE.out.2.1 12 _ rfl
  go_upto_region 3 with (fail)
  go_quiet (fail)
  have BQ:=hid (below_drewN B0.out nq)
  have CQ:=hid (Ce.below CE.out (below_drewN (Below.refl _ _) nq))
  have fI:w.heap.size<w1.heap.size:=CE.out.1
  have lQ:w1.heap.size≤(w1.drewN nq).heap.size:=by simp
  clear B0 CE
  clear y0 y1 y2 y3 y4 y5 y6 y7 y8 y9 aj ah ag
  generalize w1.drewN nq=wq at *
  have y0:=CQ.out.2.1 0 _ rfl
  have y1:=CQ.out.2.1 1 _ rfl
  have y2:=CQ.out.2.1 2 _ rfl
  have y3:=CQ.out.2.1 3 _ rfl
  have y4:=CQ.out.2.1 4 _ rfl
  have y5:=CQ.out.2.1 5 _ rfl
  have y6:=CQ.out.2.1 6 _ rfl
  have y7:=CQ.out.2.1 7 _ rfl
  have y8:=CQ.out.2.1 8 _ rfl
  have y9:=CQ.out.2.1 9 _ rfl
  have aj:=CQ.out.2.1 10 _ rfl
  have ah:=CQ.out.2.1 11 _ rfl
  have ag:=CQ.out.2.1 12 _ rfl
  go_wp2_with fail
  refine(aY.out _).mono ?_
  rintro e w' ⟨rfl,rfl⟩
  go_wp2_with fail
  refine bodyPost_ret (v:=.tuple #[.slice none 0 0,.int .i64 14]) (by simp[results,Tryz.results33,go_sem]) rfl ?_
  rw[show ax p=14 from cf hk.out (by unfold aV;rw[KH.out];simp[bA])]
  exact bC (by decide) BQ.out
 rw[bA]at aY
 cases bu:bW p.piece 255
 ·rw[bu]at aW
  go_enter Tryz.func33,Tryz.ntmps33
  go_upto_region 1 with (fail)
  generalize (w.alloc (.cells #[p.kind,p.life,p.piece,p.src,p.dst,p.fp,p.tp,p.flags,p.label,p.bare,p.code,.slice AO p.no cO,.slice AD p.nd cD] 45))=w1 at *
  have y0:=CE.out.2.1 0 _ rfl
  have y1:=CE.out.2.1 1 _ rfl
  have y2:=CE.out.2.1 2 _ rfl
  have y3:=CE.out.2.1 3 _ rfl
  have y4:=CE.out.2.1 4 _ rfl
  have y5:=CE.out.2.1 5 _ rfl
  have y6:=CE.out.2.1 6 _ rfl
  have y7:=CE.out.2.1 7 _ rfl
  have y8:=CE.out.2.1 8 _ rfl
  have y9:=CE.out.2.1 9 _ rfl
  have aj:=CE.out.2.1 10 _ rfl
  have ah:=CE.out.2.1 11 _ rfl
  have ag:=CE.out.2.1 12 _ rfl
  go_upto_region 3 with (fail)
  go_quiet (fail)
  have BQ:=hid (below_drewN B0.out nq)
  have CQ:=hid (Ce.below CE.out (below_drewN (Below.refl _ _) nq))
  have fI:w.heap.size<w1.heap.size:=CE.out.1
  have lQ:w1.heap.size≤(w1.drewN nq).heap.size:=by simp
  clear B0 CE
  clear y0 y1 y2 y3 y4 y5 y6 y7 y8 y9 aj ah ag
  generalize w1.drewN nq=wq at *
  have y0:=CQ.out.2.1 0 _ rfl
  have y1:=CQ.out.2.1 1 _ rfl
  have y2:=CQ.out.2.1 2 _ rfl
  have y3:=CQ.out.2.1 3 _ rfl
  have y4:=CQ.out.2.1 4 _ rfl
  have y5:=CQ.out.2.1 5 _ rfl
  have y6:=CQ.out.2.1 6 _ rfl
  have y7:=CQ.out.2.1 7 _ rfl
  have y8:=CQ.out.2.1 8 _ rfl
  have y9:=CQ.out.2.1 9 _ rfl
  have aj:=CQ.out.2.1 10 _ rfl
  have ah:=CQ.out.2.1 11 _ rfl
  have ag:=CQ.out.2.1 12 _ rfl
  go_wp2_with fail
  refine(aY.out _).mono ?_
  rintro e w' ⟨rfl,rfl⟩
  go_wp2_with fail
  refine(aW.out _).mono ?_
  rintro e w' ⟨rfl,rfl⟩
  go_wp2_with fail
  refine bodyPost_ret (v:=.tuple #[.slice none 0 0,.int .i64 14]) (by simp[results,Tryz.results33,go_sem]) rfl ?_
  rw[show ax p=14 from cf hk.out (by unfold aV;rw[KH.out];simp[bA,bu])]
  exact bC (by decide) BQ.out
 rw[bu]at aW
 cases cw:bW p.src 4294967295
 ·rw[cw]at bX
  go_enter Tryz.func33,Tryz.ntmps33
  go_upto_region 1 with (fail)
  generalize (w.alloc (.cells #[p.kind,p.life,p.piece,p.src,p.dst,p.fp,p.tp,p.flags,p.label,p.bare,p.code,.slice AO p.no cO,.slice AD p.nd cD] 45))=w1 at *
  have y0:=CE.out.2.1 0 _ rfl
  have y1:=CE.out.2.1 1 _ rfl
  have y2:=CE.out.2.1 2 _ rfl
  have y3:=CE.out.2.1 3 _ rfl
  have y4:=CE.out.2.1 4 _ rfl
  have y5:=CE.out.2.1 5 _ rfl
  have y6:=CE.out.2.1 6 _ rfl
  have y7:=CE.out.2.1 7 _ rfl
  have y8:=CE.out.2.1 8 _ rfl
  have y9:=CE.out.2.1 9 _ rfl
  have aj:=CE.out.2.1 10 _ rfl
  have ah:=CE.out.2.1 11 _ rfl
  have ag:=CE.out.2.1 12 _ rfl
  go_upto_region 3 with (fail)
  go_quiet (fail)
  have BQ:=hid (below_drewN B0.out nq)
  have CQ:=hid (Ce.below CE.out (below_drewN (Below.refl _ _) nq))
  have fI:w.heap.size<w1.heap.size:=CE.out.1
  have lQ:w1.heap.size≤(w1.drewN nq).heap.size:=by simp
  clear B0 CE
  clear y0 y1 y2 y3 y4 y5 y6 y7 y8 y9 aj ah ag
  generalize w1.drewN nq=wq at *
  have y0:=CQ.out.2.1 0 _ rfl
  have y1:=CQ.out.2.1 1 _ rfl
  have y2:=CQ.out.2.1 2 _ rfl
  have y3:=CQ.out.2.1 3 _ rfl
  have y4:=CQ.out.2.1 4 _ rfl
  have y5:=CQ.out.2.1 5 _ rfl
  have y6:=CQ.out.2.1 6 _ rfl
  have y7:=CQ.out.2.1 7 _ rfl
  have y8:=CQ.out.2.1 8 _ rfl
  have y9:=CQ.out.2.1 9 _ rfl
  have aj:=CQ.out.2.1 10 _ rfl
  have ah:=CQ.out.2.1 11 _ rfl
  have ag:=CQ.out.2.1 12 _ rfl
  go_wp2_with fail
  refine(aY.out _).mono ?_
  rintro e w' ⟨rfl,rfl⟩
  go_wp2_with fail
  refine(aW.out _).mono ?_
  rintro e w' ⟨rfl,rfl⟩
  go_wp2_with fail
  refine(bX.out _).mono ?_
  rintro e w' ⟨rfl,rfl⟩
  go_wp2_with fail
  refine bodyPost_ret (v:=.tuple #[.slice none 0 0,.int .i64 14]) (by simp[results,Tryz.results33,go_sem]) rfl ?_
  rw[show ax p=14 from cf hk.out (by unfold aV;rw[KH.out];simp[bA,bu,cw])]
  exact bC (by decide) BQ.out
 rw[cw]at bX
 cases cV:bW p.dst 4294967295
 ·rw[cV]at cu
  go_enter Tryz.func33,Tryz.ntmps33
  go_upto_region 1 with (fail)
  generalize (w.alloc (.cells #[p.kind,p.life,p.piece,p.src,p.dst,p.fp,p.tp,p.flags,p.label,p.bare,p.code,.slice AO p.no cO,.slice AD p.nd cD] 45))=w1 at *
  have y0:=CE.out.2.1 0 _ rfl
  have y1:=CE.out.2.1 1 _ rfl
  have y2:=CE.out.2.1 2 _ rfl
  have y3:=CE.out.2.1 3 _ rfl
  have y4:=CE.out.2.1 4 _ rfl
  have y5:=CE.out.2.1 5 _ rfl
  have y6:=CE.out.2.1 6 _ rfl
  have y7:=CE.out.2.1 7 _ rfl
  have y8:=CE.out.2.1 8 _ rfl
  have y9:=CE.out.2.1 9 _ rfl
  have aj:=CE.out.2.1 10 _ rfl
  have ah:=CE.out.2.1 11 _ rfl
  have ag:=CE.out.2.1 12 _ rfl
  go_upto_region 3 with (fail)
  go_quiet (fail)
  have BQ:=hid (below_drewN B0.out nq)
  have CQ:=hid (Ce.below CE.out (below_drewN (Below.refl _ _) nq))
  have fI:w.heap.size<w1.heap.size:=CE.out.1
  have lQ:w1.heap.size≤(w1.drewN nq).heap.size:=by simp
  clear B0 CE
  clear y0 y1 y2 y3 y4 y5 y6 y7 y8 y9 aj ah ag
  generalize w1.drewN nq=wq at *
  have y0:=CQ.out.2.1 0 _ rfl
  have y1:=CQ.out.2.1 1 _ rfl
  have y2:=CQ.out.2.1 2 _ rfl
  have y3:=CQ.out.2.1 3 _ rfl
  have y4:=CQ.out.2.1 4 _ rfl
  have y5:=CQ.out.2.1 5 _ rfl
  have y6:=CQ.out.2.1 6 _ rfl
  have y7:=CQ.out.2.1 7 _ rfl
  have y8:=CQ.out.2.1 8 _ rfl
  have y9:=CQ.out.2.1 9 _ rfl
  have aj:=CQ.out.2.1 10 _ rfl
  have ah:=CQ.out.2.1 11 _ rfl
  have ag:=CQ.out.2.1 12 _ rfl
  go_wp2_with fail
  refine(aY.out _).mono ?_
  rintro e w' ⟨rfl,rfl⟩
  go_wp2_with fail
  refine(aW.out _).mono ?_
  rintro e w' ⟨rfl,rfl⟩
  go_wp2_with fail
  refine(bX.out _).mono ?_
  rintro e w' ⟨rfl,rfl⟩
  go_wp2_with fail
  refine(cu.out _).mono ?_
  rintro e w' ⟨rfl,rfl⟩
  go_wp2_with fail
  refine bodyPost_ret (v:=.tuple #[.slice none 0 0,.int .i64 14]) (by simp[results,Tryz.results33,go_sem]) rfl ?_
  rw[show ax p=14 from cf hk.out (by unfold aV;rw[KH.out];simp[bA,bu,cw,cV])]
  exact bC (by decide) BQ.out
 rw[cV]at cu
 cases eT:bW p.fp 65535
 ·rw[eT]at eD
  go_enter Tryz.func33,Tryz.ntmps33
  go_upto_region 1 with (fail)
  generalize (w.alloc (.cells #[p.kind,p.life,p.piece,p.src,p.dst,p.fp,p.tp,p.flags,p.label,p.bare,p.code,.slice AO p.no cO,.slice AD p.nd cD] 45))=w1 at *
  have y0:=CE.out.2.1 0 _ rfl
  have y1:=CE.out.2.1 1 _ rfl
  have y2:=CE.out.2.1 2 _ rfl
  have y3:=CE.out.2.1 3 _ rfl
  have y4:=CE.out.2.1 4 _ rfl
  have y5:=CE.out.2.1 5 _ rfl
  have y6:=CE.out.2.1 6 _ rfl
  have y7:=CE.out.2.1 7 _ rfl
  have y8:=CE.out.2.1 8 _ rfl
  have y9:=CE.out.2.1 9 _ rfl
  have aj:=CE.out.2.1 10 _ rfl
  have ah:=CE.out.2.1 11 _ rfl
  have ag:=CE.out.2.1 12 _ rfl
  go_upto_region 3 with (fail)
  go_quiet (fail)
  have BQ:=hid (below_drewN B0.out nq)
  have CQ:=hid (Ce.below CE.out (below_drewN (Below.refl _ _) nq))
  have fI:w.heap.size<w1.heap.size:=CE.out.1
  have lQ:w1.heap.size≤(w1.drewN nq).heap.size:=by simp
  clear B0 CE
  clear y0 y1 y2 y3 y4 y5 y6 y7 y8 y9 aj ah ag
  generalize w1.drewN nq=wq at *
  have y0:=CQ.out.2.1 0 _ rfl
  have y1:=CQ.out.2.1 1 _ rfl
  have y2:=CQ.out.2.1 2 _ rfl
  have y3:=CQ.out.2.1 3 _ rfl
  have y4:=CQ.out.2.1 4 _ rfl
  have y5:=CQ.out.2.1 5 _ rfl
  have y6:=CQ.out.2.1 6 _ rfl
  have y7:=CQ.out.2.1 7 _ rfl
  have y8:=CQ.out.2.1 8 _ rfl
  have y9:=CQ.out.2.1 9 _ rfl
  have aj:=CQ.out.2.1 10 _ rfl
  have ah:=CQ.out.2.1 11 _ rfl
  have ag:=CQ.out.2.1 12 _ rfl
  go_wp2_with fail
  refine(aY.out _).mono ?_
  rintro e w' ⟨rfl,rfl⟩
  go_wp2_with fail
  refine(aW.out _).mono ?_
  rintro e w' ⟨rfl,rfl⟩
  go_wp2_with fail
  refine(bX.out _).mono ?_
  rintro e w' ⟨rfl,rfl⟩
  go_wp2_with fail
  refine(cu.out _).mono ?_
  rintro e w' ⟨rfl,rfl⟩
  go_wp2_with fail
  refine(eD.out _).mono ?_
  rintro e w' ⟨rfl,rfl⟩
  go_wp2_with fail
  refine bodyPost_ret (v:=.tuple #[.slice none 0 0,.int .i64 14]) (by simp[results,Tryz.results33,go_sem]) rfl ?_
  rw[show ax p=14 from cf hk.out (by unfold aV;rw[KH.out];simp[bA,bu,cw,cV,eT])]
  exact bC (by decide) BQ.out
 rw[eT]at eD
 cases fP:bW p.tp 65535
 ·rw[fP]at eU
  go_enter Tryz.func33,Tryz.ntmps33
  go_upto_region 1 with (fail)
  generalize (w.alloc (.cells #[p.kind,p.life,p.piece,p.src,p.dst,p.fp,p.tp,p.flags,p.label,p.bare,p.code,.slice AO p.no cO,.slice AD p.nd cD] 45))=w1 at *
  have y0:=CE.out.2.1 0 _ rfl
  have y1:=CE.out.2.1 1 _ rfl
  have y2:=CE.out.2.1 2 _ rfl
  have y3:=CE.out.2.1 3 _ rfl
  have y4:=CE.out.2.1 4 _ rfl
  have y5:=CE.out.2.1 5 _ rfl
  have y6:=CE.out.2.1 6 _ rfl
  have y7:=CE.out.2.1 7 _ rfl
  have y8:=CE.out.2.1 8 _ rfl
  have y9:=CE.out.2.1 9 _ rfl
  have aj:=CE.out.2.1 10 _ rfl
  have ah:=CE.out.2.1 11 _ rfl
  have ag:=CE.out.2.1 12 _ rfl
  go_upto_region 3 with (fail)
  go_quiet (fail)
  have BQ:=hid (below_drewN B0.out nq)
  have CQ:=hid (Ce.below CE.out (below_drewN (Below.refl _ _) nq))
  have fI:w.heap.size<w1.heap.size:=CE.out.1
  have lQ:w1.heap.size≤(w1.drewN nq).heap.size:=by simp
  clear B0 CE
  clear y0 y1 y2 y3 y4 y5 y6 y7 y8 y9 aj ah ag
  generalize w1.drewN nq=wq at *
  have y0:=CQ.out.2.1 0 _ rfl
  have y1:=CQ.out.2.1 1 _ rfl
  have y2:=CQ.out.2.1 2 _ rfl
  have y3:=CQ.out.2.1 3 _ rfl
  have y4:=CQ.out.2.1 4 _ rfl
  have y5:=CQ.out.2.1 5 _ rfl
  have y6:=CQ.out.2.1 6 _ rfl
  have y7:=CQ.out.2.1 7 _ rfl
  have y8:=CQ.out.2.1 8 _ rfl
  have y9:=CQ.out.2.1 9 _ rfl
  have aj:=CQ.out.2.1 10 _ rfl
  have ah:=CQ.out.2.1 11 _ rfl
  have ag:=CQ.out.2.1 12 _ rfl
  go_wp2_with fail
  refine(aY.out _).mono ?_
  rintro e w' ⟨rfl,rfl⟩
  go_wp2_with fail
  refine(aW.out _).mono ?_
  rintro e w' ⟨rfl,rfl⟩
  go_wp2_with fail
  refine(bX.out _).mono ?_
  rintro e w' ⟨rfl,rfl⟩
  go_wp2_with fail
  refine(cu.out _).mono ?_
  rintro e w' ⟨rfl,rfl⟩
  go_wp2_with fail
  refine(eD.out _).mono ?_
  rintro e w' ⟨rfl,rfl⟩
  go_wp2_with fail
  refine(eU.out _).mono ?_
  rintro e w' ⟨rfl,rfl⟩
  go_wp2_with fail
  refine bodyPost_ret (v:=.tuple #[.slice none 0 0,.int .i64 14]) (by simp[results,Tryz.results33,go_sem]) rfl ?_
  rw[show ax p=14 from cf hk.out (by unfold aV;rw[KH.out];simp[bA,bu,cw,cV,eT,fP])]
  exact bC (by decide) BQ.out
 rw[fP]at eU
 cases kV:bW p.label 65535
 ·rw[kV]at ij
  go_enter Tryz.func33,Tryz.ntmps33
  go_upto_region 1 with (fail)
  generalize (w.alloc (.cells #[p.kind,p.life,p.piece,p.src,p.dst,p.fp,p.tp,p.flags,p.label,p.bare,p.code,.slice AO p.no cO,.slice AD p.nd cD] 45))=w1 at *
  have y0:=CE.out.2.1 0 _ rfl
  have y1:=CE.out.2.1 1 _ rfl
  have y2:=CE.out.2.1 2 _ rfl
  have y3:=CE.out.2.1 3 _ rfl
  have y4:=CE.out.2.1 4 _ rfl
  have y5:=CE.out.2.1 5 _ rfl
  have y6:=CE.out.2.1 6 _ rfl
  have y7:=CE.out.2.1 7 _ rfl
  have y8:=CE.out.2.1 8 _ rfl
  have y9:=CE.out.2.1 9 _ rfl
  have aj:=CE.out.2.1 10 _ rfl
  have ah:=CE.out.2.1 11 _ rfl
  have ag:=CE.out.2.1 12 _ rfl
  go_upto_region 3 with (fail)
  go_quiet (fail)
  have BQ:=hid (below_drewN B0.out nq)
  have CQ:=hid (Ce.below CE.out (below_drewN (Below.refl _ _) nq))
  have fI:w.heap.size<w1.heap.size:=CE.out.1
  have lQ:w1.heap.size≤(w1.drewN nq).heap.size:=by simp
  clear B0 CE
  clear y0 y1 y2 y3 y4 y5 y6 y7 y8 y9 aj ah ag
  generalize w1.drewN nq=wq at *
  have y0:=CQ.out.2.1 0 _ rfl
  have y1:=CQ.out.2.1 1 _ rfl
  have y2:=CQ.out.2.1 2 _ rfl
  have y3:=CQ.out.2.1 3 _ rfl
  have y4:=CQ.out.2.1 4 _ rfl
  have y5:=CQ.out.2.1 5 _ rfl
  have y6:=CQ.out.2.1 6 _ rfl
  have y7:=CQ.out.2.1 7 _ rfl
  have y8:=CQ.out.2.1 8 _ rfl
  have y9:=CQ.out.2.1 9 _ rfl
  have aj:=CQ.out.2.1 10 _ rfl
  have ah:=CQ.out.2.1 11 _ rfl
  have ag:=CQ.out.2.1 12 _ rfl
  go_wp2_with fail
  refine(aY.out _).mono ?_
  rintro e w' ⟨rfl,rfl⟩
  go_wp2_with fail
  refine(aW.out _).mono ?_
  rintro e w' ⟨rfl,rfl⟩
  go_wp2_with fail
  refine(bX.out _).mono ?_
  rintro e w' ⟨rfl,rfl⟩
  go_wp2_with fail
  refine(cu.out _).mono ?_
  rintro e w' ⟨rfl,rfl⟩
  go_wp2_with fail
  refine(eD.out _).mono ?_
  rintro e w' ⟨rfl,rfl⟩
  go_wp2_with fail
  refine(eU.out _).mono ?_
  rintro e w' ⟨rfl,rfl⟩
  go_wp2_with fail
  refine(ij.out _).mono ?_
  rintro e w' ⟨rfl,rfl⟩
  go_wp2_with fail
  refine bodyPost_ret (v:=.tuple #[.slice none 0 0,.int .i64 14]) (by simp[results,Tryz.results33,go_sem]) rfl ?_
  rw[show ax p=14 from cf hk.out (by unfold aV;rw[KH.out];simp[bA,bu,cw,cV,eT,fP,kV])]
  exact bC (by decide) BQ.out
 rw[kV]at ij
 have hr:aV p=true:=by unfold aV;rw[KH.out];simp[bA,bu,cw,cV,eT,fP,kV]
 clear bA bu cw cV eT fP kV
 obtain ⟨⟨ua,t_⟩,⟨t9,t6⟩,rc,rf⟩:=gJ hr
 have N5:=hid (show ¬(p.kind=1∧40<p.no) from fun e=>by have:=e.1;rw[KH.out]at this;cases this)
 have HL:Hid ((aG p:Int)=24+(p.nd:Int)):=hid (by unfold aG;rw[KH.out,if_neg (by decide),if_pos rfl];omega)
 have N4:=hid (show ¬(p.kind=3∧p.nd<24) from fun e=>by have:=e.1;rw[KH.out]at this;cases this)
 cases qE:decide ((1500:Int)<24+(p.nd:Int))
 ·have N3:=hid (show ¬(p.kind=3∧p.nd<24∨1500<aG p) from fun e=>by rcases e with e |e;(exact N4.out e);(have:=HL.out;simp at qE;omega))
  have hE:=mY hk.out hr N5.out N3.out
  obtain ⟨e1,e2,e3,e4,e5,e6⟩:=fU hE
  clear e1 e3 e4
  have KL:=hid (g_ hE)
  have DU:0≤p.kind:=by have:=KL.out;omega
  have DT:p.kind≤255:=by have:=KL.out;omega
  have RB:=hid (kU hgd hgo hE)
  have kh:=hid (ju hgd hgo hE)
  have FB:=hid (vw hk.out ⟨ua,t_⟩ ⟨t9,t6⟩)
  have HE:=hid hE
  clear hE hgo hgd N5 N3 hr e2
  have u0:IntKind.u8.wrap p.kind=p.kind:=by rw[IntKind.wrap_u8];omega
  have u1:IntKind.u8.wrap p.life=p.life:=by rw[IntKind.wrap_u8];omega
  have u2:IntKind.u8.wrap p.piece=p.piece:=by rw[IntKind.wrap_u8];omega
  obtain ⟨n,hn⟩:∃n,n=aG p:=⟨_,rfl⟩
  have HN:=hid hn
  have hV:(24+(p.nd:Int))=(n:Int):=by have:=HL.out;omega
  have xK:Hid ((24+(p.nd:Int))=(aG p:Int)):=hid (by rw[hV,hn])
  replace hV:=hid hV
  rw[←hn]at e5 e6
  clear hn
  have Eh:n≤24+p.nd:=by have:=hV.out;omega
  have Eg:24+p.nd≤n:=by have:=hV.out;omega
  clear rc rf
  have Hs:p.nd≤1500:=by omega
  go_enter Tryz.func33,Tryz.ntmps33
  go_upto_region 1 with (fail)
  generalize (w.alloc (.cells #[p.kind,p.life,p.piece,p.src,p.dst,p.fp,p.tp,p.flags,p.label,p.bare,p.code,.slice AO p.no cO,.slice AD p.nd cD] 45))=w1 at *
  have y0:=CE.out.2.1 0 _ rfl
  have y1:=CE.out.2.1 1 _ rfl
  have y2:=CE.out.2.1 2 _ rfl
  have y3:=CE.out.2.1 3 _ rfl
  have y4:=CE.out.2.1 4 _ rfl
  have y5:=CE.out.2.1 5 _ rfl
  have y6:=CE.out.2.1 6 _ rfl
  have y7:=CE.out.2.1 7 _ rfl
  have y8:=CE.out.2.1 8 _ rfl
  have y9:=CE.out.2.1 9 _ rfl
  have aj:=CE.out.2.1 10 _ rfl
  have ah:=CE.out.2.1 11 _ rfl
  have ag:=CE.out.2.1 12 _ rfl
  go_upto_region 3 with (fail)
  go_quiet (fail)
  have BQ:=hid (below_drewN B0.out nq)
  have CQ:=hid (Ce.below CE.out (below_drewN (Below.refl _ _) nq))
  have fI:w.heap.size<w1.heap.size:=CE.out.1
  have lQ:w1.heap.size≤(w1.drewN nq).heap.size:=by simp
  clear B0 CE
  clear y0 y1 y2 y3 y4 y5 y6 y7 y8 y9 aj ah ag
  generalize w1.drewN nq=wq at *
  have y0:=CQ.out.2.1 0 _ rfl
  have y1:=CQ.out.2.1 1 _ rfl
  have y2:=CQ.out.2.1 2 _ rfl
  have y3:=CQ.out.2.1 3 _ rfl
  have y4:=CQ.out.2.1 4 _ rfl
  have y5:=CQ.out.2.1 5 _ rfl
  have y6:=CQ.out.2.1 6 _ rfl
  have y7:=CQ.out.2.1 7 _ rfl
  have y8:=CQ.out.2.1 8 _ rfl
  have y9:=CQ.out.2.1 9 _ rfl
  have aj:=CQ.out.2.1 10 _ rfl
  have ah:=CQ.out.2.1 11 _ rfl
  have ag:=CQ.out.2.1 12 _ rfl
  go_wp2_with fail
  refine(aY.out _).mono ?_
  rintro e w' ⟨rfl,rfl⟩
  go_wp2_with fail
  refine(aW.out _).mono ?_
  rintro e w' ⟨rfl,rfl⟩
  go_wp2_with fail
  refine(bX.out _).mono ?_
  rintro e w' ⟨rfl,rfl⟩
  go_wp2_with fail
  refine(cu.out _).mono ?_
  rintro e w' ⟨rfl,rfl⟩
  go_wp2_with fail
  refine(eD.out _).mono ?_
  rintro e w' ⟨rfl,rfl⟩
  go_wp2_with fail
  refine(eU.out _).mono ?_
  rintro e w' ⟨rfl,rfl⟩
  go_wp2_with fail
  refine(ij.out _).mono ?_
  rintro e w' ⟨rfl,rfl⟩
  clear aY aW bX cu eD eU ij
  go_upto_region 16 with (at_make;refine mn rfl _ _ rfl wq.heap.size 16 n _ _ rfl rfl rfl hV.out (by omega) (by omega) (Nat.le_refl _) ?_;intro w3 hO hb2;have HO:=hid hO;have HC:=hid (CQ.out.below hb2);have HB:=hid (BQ.out.trans (hb2.mono BQ.out.size));clear hO hb2)
  clear CQ BQ
  clear y0 y1 y2 y3 y4 y5 y6 y7 y8 y9 aj ah ag
  have lR:w.heap.size<wq.heap.size:=by omega
  obtain ⟨g',e,hB,hgs,hce,hfr⟩:=Ow.block_ HO.out (by omega)
  injection e with e
  injection e with e _
  subst e
  have c0:=hce 0 (by omega)
  have c1:=hce 1 (by omega)
  have c12:=hce 12 (by omega)
  have f0:=hfr 0
  have f1:=hfr 1
  have f12:=hfr 12
  clear hce hfr
  refine wp_region_held_drew (S:=fun w'=>Ce w' w.heap.size [p.kind,p.life,p.piece,p.src,p.dst,p.fp,p.tp,p.flags,p.label,p.bare,p.code,.slice AO p.no cO,.slice AD p.nd cD]) (by kernel_rfl) ?_ (fun hHeld=>?_)
  ·exact HC.out.aP
  refine ae 0 hHeld ?_
  refine ae 1 hHeld ?_
  refine ae 2 hHeld ?_
  refine ae 3 hHeld ?_
  refine ae 4 hHeld ?_ (hy:=by intro w hSw;(try dsimp only at hSw);have q0:=hSw.2.1 0 _ rfl;have q1:=hSw.2.1 1 _ rfl;have q2:=hSw.2.1 2 _ rfl;go_simp;(try with_reducible rfl))
  refine ae 5 hHeld ?_
  refine ae 6 hHeld ?_
  refine ae 7 hHeld ?_ (hy:=by intro w hSw;(try dsimp only at hSw);have q0:=hSw.2.1 0 _ rfl;have q1:=hSw.2.1 1 _ rfl;have q2:=hSw.2.1 2 _ rfl;go_simp;(try with_reducible rfl))
  refine ae 8 hHeld ?_
  refine ae 9 hHeld ?_
  refine ae 10 hHeld ?_ (hy:=by intro w hSw;(try dsimp only at hSw);have q0:=hSw.2.1 0 _ rfl;have q1:=hSw.2.1 1 _ rfl;have q2:=hSw.2.1 2 _ rfl;go_simp;(try with_reducible rfl))
  refine ae 11 hHeld ?_
  refine ae 12 hHeld ?_
  refine only 13 rfl (by kernel_rfl) rfl (fun K hK=>?_)
  go_simp
  have hH0:Ce (w3.setCell ⟨wq.heap.size,0,none⟩ (.int .u8 p.kind)).drew w.heap.size [p.kind,p.life,p.piece,p.src,p.dst,p.fp,p.tp,p.flags,p.label,p.bare,p.code,.slice AO p.no cO,.slice AD p.nd cD]:=Ce.aP (HC.out.grown (gs 0 (.int .u8 p.kind) (World.grownBy.refl w3 (some wq.heap.size))) (fun e=>by injection e with e;omega))
  refine hK.out _ _ hH0 (fun _=>?_)
  clear hK
  (try simp only[Act.put,zA,zB,zC])
  refine ae 14 hH0 ?_
  refine only 15 rfl (by kernel_rfl) rfl (fun K hK=>?_)
  go_simp
  have hH1:Ce ((w3.setCell ⟨wq.heap.size,0,none⟩ (.int .u8 p.kind)).setCell ⟨wq.heap.size,1,none⟩ (.int .u8 p.life)).drew w.heap.size [p.kind,p.life,p.piece,p.src,p.dst,p.fp,p.tp,p.flags,p.label,p.bare,p.code,.slice AO p.no cO,.slice AD p.nd cD]:=Ce.aP (HC.out.grown (gs 1 (.int .u8 p.life) (gs 0 (.int .u8 p.kind) (World.grownBy.refl w3 (some wq.heap.size)))) (fun e=>by injection e with e;omega))
  refine hK.out _ _ hH1 (fun _=>?_)
  clear hK
  (try simp only[Act.put,zA,zB,zC])
  refine ae 16 hH1 ?_
  refine only 17 rfl (by kernel_rfl) rfl (fun K hK=>?_)
  go_simp
  have hH2:Ce (((w3.setCell ⟨wq.heap.size,0,none⟩ (.int .u8 p.kind)).setCell ⟨wq.heap.size,1,none⟩ (.int .u8 p.life)).setCell ⟨wq.heap.size,12,none⟩ (.int .u8 p.piece)).drew w.heap.size [p.kind,p.life,p.piece,p.src,p.dst,p.fp,p.tp,p.flags,p.label,p.bare,p.code,.slice AO p.no cO,.slice AD p.nd cD]:=Ce.aP (HC.out.grown (gs 12 (.int .u8 p.piece) (gs 1 (.int .u8 p.life) (gs 0 (.int .u8 p.kind) (World.grownBy.refl w3 (some wq.heap.size))))) (fun e=>by injection e with e;omega))
  refine hK.out _ _ hH2 (fun _=>?_)
  clear hK
  (try simp only[Act.put,zA,zB,zC])
  refine wpAnyH_done (by kernel_rfl) ?_ _
  have bm:=hid (Ow.drew (OB.store (OB.store (OB.store (HO.out) 0 p.kind) 1 p.life) 12 p.piece))
  have bo:=hid ((HB.out.trans (af (gs 12 (.int .u8 p.piece) (gs 1 (.int .u8 p.life) (gs 0 (.int .u8 p.kind) (World.grownBy.refl w3 (some wq.heap.size))))) (by omega) HB.out.size)).drew)
  have bI:=hid hH2
  clear hH0 hH1 hH2 hHeld HO HC HB
  have HO:=bm
  have HC:=bI
  have HB:=bo
  clear bm bI bo
  generalize (((w3.setCell ⟨wq.heap.size,0,none⟩ (.int .u8 p.kind)).setCell ⟨wq.heap.size,1,none⟩ (.int .u8 p.life)).setCell ⟨wq.heap.size,12,none⟩ (.int .u8 p.piece)).drew=w4 at *
  clear c0 c1 c12 f0 f1 f12
  go_upto_region 17 with (fail)
  go_wp2_with fail
  refine(aO HO.out 2 2 (24+(p.nd:Int)) (by omega) (by omega) (by omega)).mono ?_
  rintro e w5 ⟨rfl,hO,hg⟩
  have bm:=hid hO
  have bI:=hid (HC.out.grown hg (fun e=>by injection e with e;omega))
  have bo:=hid (HB.out.trans (af hg (by omega) HB.out.size))
  clear hO hg HO HC HB
  have HO:=bm
  have HC:=bI
  have HB:=bo
  clear bm bI bo
  go_upto_region 18 with (fail)
  have yy:=HC.out.2.1 3 _ rfl
  go_wp2_with fail
  refine(aO HO.out 4 4 p.src (by omega) (by omega) (by omega)).mono ?_
  rintro e w6 ⟨rfl,hO,hg⟩
  clear yy
  have bm:=hid hO
  have bI:=hid (HC.out.grown hg (fun e=>by injection e with e;omega))
  have bo:=hid (HB.out.trans (af hg (by omega) HB.out.size))
  clear hO hg HO HC HB
  have HO:=bm
  have HC:=bI
  have HB:=bo
  clear bm bI bo
  go_upto_region 19 with (fail)
  have yy:=HC.out.2.1 4 _ rfl
  go_wp2_with fail
  refine(aO HO.out 8 4 p.dst (by omega) (by omega) (by omega)).mono ?_
  rintro e w7 ⟨rfl,hO,hg⟩
  clear yy
  have bm:=hid hO
  have bI:=hid (HC.out.grown hg (fun e=>by injection e with e;omega))
  have bo:=hid (HB.out.trans (af hg (by omega) HB.out.size))
  clear hO hg HO HC HB
  have HO:=bm
  have HC:=bI
  have HB:=bo
  clear bm bI bo
  rw[xK.out]at HO
  go_upto_region 20 with (fail)
  have OF:=hid (cq (jP (some ⟨wq.heap.size,0,none⟩) 16 n _ w7 HO.out.sl1 FB.out (by omega)) (show 65535-norm (tot _ 16)=65535-norm (tot (bL p) 16) from by rw[fX _ (bL p) 16 (fun j hj=>q_ hj)]))
  go_wp2_with fail
  refine OF.out.mono ?_
  rintro e w' ⟨rfl,rfl⟩
  clear OF
  go_wp2_with fail
  refine(aO HO.out 14 2 (65535-norm (tot (bL p) 16)) (by omega) (by omega) (by omega)).mono ?_
  rintro e w8 ⟨rfl,hO,hg⟩
  have bm:=hid hO
  have bI:=hid (HC.out.grown hg (fun e=>by injection e with e;omega))
  have bo:=hid (HB.out.trans (af hg (by omega) HB.out.size))
  clear hO hg HO HC HB
  have HO:=bm
  have HC:=bI
  have HB:=bo
  clear bm bI bo
  replace HO:=hid (show OB w8 wq.heap.size (.slice (some ⟨wq.heap.size,0,none⟩) 16 n) 16 (jc p) from HO.out)
  go_upto_region 27 with (at_builtin;refine yJ rfl (.tmp 174) (.const (.int .i64 8)) rfl wq.heap.size _ 16 _ rfl HO.out 8 rfl (by omega) (fy HO.out (by omega)) ?_;intro A9 c9 w9 h1 h2 h3 h4 h5 h6;have bm:=hid h1;have hcn:=h2;have bI:=hid (HC.out.iX h4 (by omega));have bo:=hid (HB.out.trans (h4.mono (by omega)));clear h1 h2 h3 h4 h5 h6)
  clear HO HC HB
  have HO:=bm
  have HC:=bI
  have HB:=bo
  clear bm bI bo
  obtain ⟨G,e,hB,hgs,hce,hfr⟩:=Ow.block_ HO.out (by omega)
  subst e
  clear hce hfr hgs
  have lG:w.heap.size<G:=by omega
  have yy:=HC.out.2.1 8 _ rfl
  go_wp2_with fail
  refine(aO HO.out 20 2 p.label (by omega) (by omega) (by omega)).mono ?_
  rintro e eh ⟨rfl,hO,hg⟩
  clear yy
  have bm:=hid hO
  have bI:=hid (HC.out.grown hg (fun e=>by injection e with e;omega))
  have bo:=hid (HB.out.trans (af hg (by omega) HB.out.size))
  clear hO hg HO HC HB
  have HO:=bm
  have HC:=bI
  have HB:=bo
  clear bm bI bo
  go_upto_region 29 with (fail)
  have yy:=HC.out.2.1 5 _ rfl
  go_wp2_with fail
  refine(aO HO.out 16 2 p.fp (by omega) (by omega) (by omega)).mono ?_
  rintro e mq ⟨rfl,hO,hg⟩
  clear yy
  have bm:=hid hO
  have bI:=hid (HC.out.grown hg (fun e=>by injection e with e;omega))
  have bo:=hid (HB.out.trans (af hg (by omega) HB.out.size))
  clear hO hg HO HC HB
  have HO:=bm
  have HC:=bI
  have HB:=bo
  clear bm bI bo
  go_upto_region 30 with (fail)
  have yy:=HC.out.2.1 6 _ rfl
  go_wp2_with fail
  refine(aO HO.out 18 2 p.tp (by omega) (by omega) (by omega)).mono ?_
  rintro e oI ⟨rfl,hO,hg⟩
  clear yy
  have bm:=hid hO
  have bI:=hid (HC.out.grown hg (fun e=>by injection e with e;omega))
  have bo:=hid (HB.out.trans (af hg (by omega) HB.out.size))
  clear hO hg HO HC HB
  have HO:=bm
  have HC:=bI
  have HB:=bo
  clear bm bI bo
  have ag:=HC.out.2.1 12 _ rfl
  go_upto_region 32 with (at_builtin;refine cX rfl (.tmp 190) (.tmp 192) rfl wq.heap.size _ (16+8) _ rfl HO.out _ (p.nd) _ p.gd rfl (ml.out _ HB.out) (by omega) (fy HO.out (by omega)) ?_;intro Je c10 tW h1 h2 h3 h4 h5 h6;have bm:=hid h1;have hcn:=h2;have bI:=hid (HC.out.iX h4 (by omega));have bo:=hid (HB.out.trans (h4.mono (by omega)));clear h1 h2 h3 h4 h5 h6)
  clear HO HC HB
  have HO:=bm
  have HC:=bI
  have HB:=bo
  clear bm bI bo
  clear ag
  have eL:16+8+p.nd=n:=by omega
  have eF:∀j,j<n→(fun j=>if j<16+8 then aC (aC (aC (fun j=>if j<16 then jc p j else 0) 20 2 p.label) 16 2 p.fp) 18 2 p.tp j else p.gd (j-(16+8))) j=aN p j:=fun j hj=>Jx KH.out j (by omega)
  replace HO:=hid (OB.k_ HO.out (fun j hj=>eF j (by omega)))
  rw[eL]at *
  clear eF
  obtain ⟨Z,e,hB,hgs,hce,hfr⟩:=Ow.block_ HO.out (by omega)
  subst e
  clear hce hfr hgs
  have SM:=hid (fun (W:World) (hW:By W (some ⟨Z,0,none⟩) n (aN p))=>kM (some ⟨Z,0,none⟩) n c10 (aN p) W hW kh.out e6 (by omega) e5)
  go_wp2_with fail
  refine(SM.out _ HO.out.sl1).mono ?_
  rintro e iq ⟨A2,c2,rfl,hS,iB⟩
  have bm:=hid (OB.lH HO.out iB)
  have bI:=hid (HC.out.below iB)
  have bo:=hid (HB.out.trans (iB.mono HB.out.size))
  have OF:=hid (cq (jP A2 _ c2 _ _ hS (mr kh.out n) (by unfold dt;split <;> omega)) (show 65535-norm (tot (dL (aN p) n) (dt (aN p) n))=eO p from by unfold eO;rw[HN.out]))
  clear hS iB SM HO HC HB
  have HO:=bm
  have HC:=bI
  have HB:=bo
  clear bm bI bo
  obtain ⟨x,hx⟩:∃x,x=eO p:=⟨_,rfl⟩
  have HX:=hid hx
  rw[←hx]at OF
  clear hx
  go_wp2_with fail
  refine OF.out.mono ?_
  rintro e w' ⟨rfl,rfl⟩
  clear OF
  have PA:=hid (fun w=>cq (mC p.kind w) (show ((aQ p.kind:Nat):Int)=22 from by rw[KH.out];rfl))
  cases xz:(x==0) <;> cases bb:p.bare
  ·have BB:=hid bb
   have XZ:=hid xz
   clear bb
   have y9:=HC.out.2.1 9 _ rfl
   rw[BB.out]at y9
   have y0:=HC.out.2.1 0 _ rfl
   go_wp2_with fail
   refine(PA.out _).mono ?_
   rintro e w' ⟨rfl,rfl⟩
   go_wp2_with fail
   refine(aO HO.out 22 2 x (by omega) (by omega) (by omega)).mono ?_
   rintro e nJ ⟨rfl,hO,hg⟩
   have bm:=hid hO
   have bo:=hid (HB.out.trans (af hg (by omega) HB.out.size))
   clear hO hg
   go_wp2_with fail
   refine bodyPost_ret (v:=.tuple #[.slice (some ⟨Z,0,none⟩) n c10,()]) (by simp[results,Tryz.results33,go_sem]) rfl ?_
   rw[HE.out,←HN.out]
   refine⟨_,rfl,?_,bo.out⟩
   refine OB.base (OB.k_ bm.out (fun j hj=>?_)) (by omega)
   rw[nE KH.out,BB.out,if_neg (by decide),←HX.out,if_neg (by simpa using XZ.out)]
  ·have BB:=hid bb
   have XZ:=hid xz
   clear bb
   have y9:=HC.out.2.1 9 _ rfl
   rw[BB.out]at y9
   have y0:=HC.out.2.1 0 _ rfl
   go_wp2_with fail
   refine(PA.out _).mono ?_
   rintro e w' ⟨rfl,rfl⟩
   go_wp2_with fail
   refine(aO HO.out 22 2 0 (by omega) (by omega) (by omega)).mono ?_
   rintro e nJ ⟨rfl,hO,hg⟩
   have bm:=hid hO
   have bo:=hid (HB.out.trans (af hg (by omega) HB.out.size))
   clear hO hg
   go_wp2_with fail
   refine bodyPost_ret (v:=.tuple #[.slice (some ⟨Z,0,none⟩) n c10,()]) (by simp[results,Tryz.results33,go_sem]) rfl ?_
   rw[HE.out,←HN.out]
   refine⟨_,rfl,?_,bo.out⟩
   refine OB.base (OB.k_ bm.out (fun j hj=>?_)) (by omega)
   rw[nE KH.out,BB.out,if_pos rfl]
  ·have BB:=hid bb
   have XZ:=hid xz
   clear bb
   have y9:=HC.out.2.1 9 _ rfl
   rw[BB.out]at y9
   have y0:=HC.out.2.1 0 _ rfl
   go_wp2_with fail
   refine(PA.out _).mono ?_
   rintro e w' ⟨rfl,rfl⟩
   go_wp2_with fail
   refine(aO HO.out 22 2 65535 (by omega) (by omega) (by omega)).mono ?_
   rintro e nJ ⟨rfl,hO,hg⟩
   have bm:=hid hO
   have bo:=hid (HB.out.trans (af hg (by omega) HB.out.size))
   clear hO hg
   go_wp2_with fail
   refine bodyPost_ret (v:=.tuple #[.slice (some ⟨Z,0,none⟩) n c10,()]) (by simp[results,Tryz.results33,go_sem]) rfl ?_
   rw[HE.out,←HN.out]
   refine⟨_,rfl,?_,bo.out⟩
   refine OB.base (OB.k_ bm.out (fun j hj=>?_)) (by omega)
   rw[nE KH.out,BB.out,if_neg (by decide),←HX.out,if_pos (by simpa using XZ.out)]
  have BB:=hid bb
  have XZ:=hid xz
  clear bb
  have y9:=HC.out.2.1 9 _ rfl
  rw[BB.out]at y9
  have y0:=HC.out.2.1 0 _ rfl
  go_wp2_with fail
  refine(PA.out _).mono ?_
  rintro e w' ⟨rfl,rfl⟩
  go_wp2_with fail
  refine(aO HO.out 22 2 0 (by omega) (by omega) (by omega)).mono ?_
  rintro e nJ ⟨rfl,hO,hg⟩
  have bm:=hid hO
  have bo:=hid (HB.out.trans (af hg (by omega) HB.out.size))
  clear hO hg
  go_wp2_with fail
  refine bodyPost_ret (v:=.tuple #[.slice (some ⟨Z,0,none⟩) n c10,()]) (by simp[results,Tryz.results33,go_sem]) rfl ?_
  rw[HE.out,←HN.out]
  refine⟨_,rfl,?_,bo.out⟩
  refine OB.base (OB.k_ bm.out (fun j hj=>?_)) (by omega)
  rw[nE KH.out,BB.out,if_pos rfl]
 replace hr:=hid hr
 go_enter Tryz.func33,Tryz.ntmps33
 go_upto_region 1 with (fail)
 generalize (w.alloc (.cells #[p.kind,p.life,p.piece,p.src,p.dst,p.fp,p.tp,p.flags,p.label,p.bare,p.code,.slice AO p.no cO,.slice AD p.nd cD] 45))=w1 at *
 have y0:=CE.out.2.1 0 _ rfl
 have y1:=CE.out.2.1 1 _ rfl
 have y2:=CE.out.2.1 2 _ rfl
 have y3:=CE.out.2.1 3 _ rfl
 have y4:=CE.out.2.1 4 _ rfl
 have y5:=CE.out.2.1 5 _ rfl
 have y6:=CE.out.2.1 6 _ rfl
 have y7:=CE.out.2.1 7 _ rfl
 have y8:=CE.out.2.1 8 _ rfl
 have y9:=CE.out.2.1 9 _ rfl
 have aj:=CE.out.2.1 10 _ rfl
 have ah:=CE.out.2.1 11 _ rfl
 have ag:=CE.out.2.1 12 _ rfl
 go_upto_region 3 with (fail)
 go_quiet (fail)
 have BQ:=hid (below_drewN B0.out nq)
 have CQ:=hid (Ce.below CE.out (below_drewN (Below.refl _ _) nq))
 have fI:w.heap.size<w1.heap.size:=CE.out.1
 have lQ:w1.heap.size≤(w1.drewN nq).heap.size:=by simp
 clear B0 CE
 clear y0 y1 y2 y3 y4 y5 y6 y7 y8 y9 aj ah ag
 generalize w1.drewN nq=wq at *
 have y0:=CQ.out.2.1 0 _ rfl
 have y1:=CQ.out.2.1 1 _ rfl
 have y2:=CQ.out.2.1 2 _ rfl
 have y3:=CQ.out.2.1 3 _ rfl
 have y4:=CQ.out.2.1 4 _ rfl
 have y5:=CQ.out.2.1 5 _ rfl
 have y6:=CQ.out.2.1 6 _ rfl
 have y7:=CQ.out.2.1 7 _ rfl
 have y8:=CQ.out.2.1 8 _ rfl
 have y9:=CQ.out.2.1 9 _ rfl
 have aj:=CQ.out.2.1 10 _ rfl
 have ah:=CQ.out.2.1 11 _ rfl
 have ag:=CQ.out.2.1 12 _ rfl
 go_wp2_with fail
 refine(aY.out _).mono ?_
 rintro e w' ⟨rfl,rfl⟩
 go_wp2_with fail
 refine(aW.out _).mono ?_
 rintro e w' ⟨rfl,rfl⟩
 go_wp2_with fail
 refine(bX.out _).mono ?_
 rintro e w' ⟨rfl,rfl⟩
 go_wp2_with fail
 refine(cu.out _).mono ?_
 rintro e w' ⟨rfl,rfl⟩
 go_wp2_with fail
 refine(eD.out _).mono ?_
 rintro e w' ⟨rfl,rfl⟩
 go_wp2_with fail
 refine(eU.out _).mono ?_
 rintro e w' ⟨rfl,rfl⟩
 go_wp2_with fail
 refine(ij.out _).mono ?_
 rintro e w' ⟨rfl,rfl⟩
 go_wp2_with fail
 refine bodyPost_ret (v:=.tuple #[.slice none 0 0,.int .i64 3]) (by simp[results,Tryz.results33,go_sem]) rfl ?_
 rw[show ax p=3 from jO hk.out hr.out N5.out (.inr (by have:=HL.out;simp at qE;omega))]
 exact bC (by decide) BQ.out
end Go.Proofs.YtgfonkagnambiaaGreat
