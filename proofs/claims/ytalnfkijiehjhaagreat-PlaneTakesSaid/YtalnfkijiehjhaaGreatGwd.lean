/- May a packet be built? A packet's body. Build. -/
import Derived.Test.YtalnfkijiehjhaaGreatGa
import Derived.Test.YtalnfkijiehjhaaGreatGwc
import Derived.BigQuiet
import Derived.Deep.RegionHeld3
import Derived.Deep.Cut
namespace Go.Proofs.YtalnfkijiehjhaaGreat
open List renaming setIfInBounds_toArray→zA,set_cons_zero→zB,set_cons_succ→zC
set_option linter.unusedVariables false
set_option linter.unusedSimpArgs false
open Go.RowKit Go.ChangeShapes Go.WideShapes Go.ChangeAt
theorem qZC{P:Prop}(h:P:=by
 go_enter Tryz.func180,Tryz.ntmps180
 go_wp2_with fail
 go_ret
 exact⟨bp HL.out.symm,(Below.refl _ _).alloc (Nat.le_refl _) _⟩
 ):P:=h
set_option maxHeartbeats 4000000 in
theorem yw (p:Pk)(AO:Option Addr)(cO:Nat)(AD:Option Addr)(cD:Nat)(w:World)(h1:p.no≤1000000)(h2:p.nd≤1000000) :
 Calls Tryz.prog 180 #[.agg #[p.kind,p.life,p.piece,p.src,p.dst,p.fp,p.tp,p.flags,p.label,p.bare,p.code,.slice AO p.no cO,.slice AD p.nd cD]] w fun e w'=>e =.returned (.int .i64 (aU p:Int))∧Below w.heap.size w w':=by
 cases k3:(p.kind==3)
 ·cases k2:(p.kind==2)
  ·have HL:Hid ((aU p:Int)=24+(p.no:Int)+p.nd):=hid (by unfold aU;rw[if_neg (by simpa using k3),if_neg (by simpa using k2)];omega)
   exact qZC
  have HL:Hid ((aU p:Int)=24+(p.nd:Int)):=hid (by unfold aU;rw[if_neg (by simpa using k3),if_pos (by simpa using k2)];omega)
  exact qZC
 have HL:Hid ((aU p:Int)=20+(p.nd:Int)):=hid (by unfold aU;rw[if_pos (by simpa using k3)];omega)
 exact qZC
set_option maxHeartbeats 4000000 in
theorem vh (p:Pk)(AO:Option Addr)(cO:Nat)(AD:Option Addr)(cD:Nat)(w:World) :
 Calls Tryz.prog 179 #[.agg #[p.kind,p.life,p.piece,p.src,p.dst,p.fp,p.tp,p.flags,p.label,p.bare,p.code,.slice AO p.no cO,.slice AD p.nd cD]] w fun e w'=>e =.returned (.bool (bC p))∧Below w.heap.size w w':=by
 have bF:=hid (fun w=>dH p.life 255 w)
 have bu:=hid (fun w=>dH p.piece 255 w)
 have cL:=hid (fun w=>dH p.src 4294967295 w)
 have dv:=hid (fun w=>dH p.dst 4294967295 w)
 have iO:=hid (fun w=>dH p.code 255 w)
 have fK:=hid (fun w=>dH p.fp 65535 w)
 have f_:=hid (fun w=>dH p.tp 65535 w)
 have jA:=hid (fun w=>dH p.label 65535 w)
 have iW:=hid (fun w=>dH p.flags 15 w)
 cases bW:cW p.life 255
 ·rw[bW]at bF
  go_enter Tryz.func179,Tryz.ntmps179
  go_wp2_with fail
  refine(bF.out _).mono ?_
  rintro e w' ⟨rfl,rfl⟩
  go_wp2_with fail
  go_ret
  exact⟨cT (by unfold bC;simp[bW]),(Below.refl _ _).alloc (Nat.le_refl _) _⟩
 rw[bW]at bF
 cases bO:cW p.piece 255
 ·rw[bO]at bu
  go_enter Tryz.func179,Tryz.ntmps179
  go_wp2_with fail
  refine(bF.out _).mono ?_
  rintro e w' ⟨rfl,rfl⟩
  go_wp2_with fail
  refine(bu.out _).mono ?_
  rintro e w' ⟨rfl,rfl⟩
  go_wp2_with fail
  go_ret
  exact⟨cT (by unfold bC;simp[bW,bO]),(Below.refl _ _).alloc (Nat.le_refl _) _⟩
 rw[bO]at bu
 cases dx:cW p.src 4294967295
 ·rw[dx]at cL
  go_enter Tryz.func179,Tryz.ntmps179
  go_wp2_with fail
  refine(bF.out _).mono ?_
  rintro e w' ⟨rfl,rfl⟩
  go_wp2_with fail
  refine(bu.out _).mono ?_
  rintro e w' ⟨rfl,rfl⟩
  go_wp2_with fail
  refine(cL.out _).mono ?_
  rintro e w' ⟨rfl,rfl⟩
  go_wp2_with fail
  go_ret
  exact⟨cT (by unfold bC;simp[bW,bO,dx]),(Below.refl _ _).alloc (Nat.le_refl _) _⟩
 rw[dx]at cL
 cases dI:cW p.dst 4294967295
 ·rw[dI]at dv
  go_enter Tryz.func179,Tryz.ntmps179
  go_wp2_with fail
  refine(bF.out _).mono ?_
  rintro e w' ⟨rfl,rfl⟩
  go_wp2_with fail
  refine(bu.out _).mono ?_
  rintro e w' ⟨rfl,rfl⟩
  go_wp2_with fail
  refine(cL.out _).mono ?_
  rintro e w' ⟨rfl,rfl⟩
  go_wp2_with fail
  refine(dv.out _).mono ?_
  rintro e w' ⟨rfl,rfl⟩
  go_wp2_with fail
  go_ret
  exact⟨cT (by unfold bC;simp[bW,bO,dx,dI]),(Below.refl _ _).alloc (Nat.le_refl _) _⟩
 rw[dI]at dv
 cases k3:(p.kind==3)
 ·have n3:¬p.kind=3:=by simpa using k3
  cases f9:cW p.fp 65535
  ·rw[f9]at fK
   go_enter Tryz.func179,Tryz.ntmps179
   go_wp2_with fail
   refine(bF.out _).mono ?_
   rintro e w' ⟨rfl,rfl⟩
   go_wp2_with fail
   refine(bu.out _).mono ?_
   rintro e w' ⟨rfl,rfl⟩
   go_wp2_with fail
   refine(cL.out _).mono ?_
   rintro e w' ⟨rfl,rfl⟩
   go_wp2_with fail
   refine(dv.out _).mono ?_
   rintro e w' ⟨rfl,rfl⟩
   go_wp2_with fail
   refine(fK.out _).mono ?_
   rintro e w' ⟨rfl,rfl⟩
   go_wp2_with fail
   go_ret
   exact⟨cT (by unfold bC;simp[n3,bW,bO,dx,dI,f9]),(Below.refl _ _).alloc (Nat.le_refl _) _⟩
  rw[f9]at fK
  cases h_:cW p.tp 65535
  ·rw[h_]at f_
   go_enter Tryz.func179,Tryz.ntmps179
   go_wp2_with fail
   refine(bF.out _).mono ?_
   rintro e w' ⟨rfl,rfl⟩
   go_wp2_with fail
   refine(bu.out _).mono ?_
   rintro e w' ⟨rfl,rfl⟩
   go_wp2_with fail
   refine(cL.out _).mono ?_
   rintro e w' ⟨rfl,rfl⟩
   go_wp2_with fail
   refine(dv.out _).mono ?_
   rintro e w' ⟨rfl,rfl⟩
   go_wp2_with fail
   refine(fK.out _).mono ?_
   rintro e w' ⟨rfl,rfl⟩
   go_wp2_with fail
   refine(f_.out _).mono ?_
   rintro e w' ⟨rfl,rfl⟩
   go_wp2_with fail
   go_ret
   exact⟨cT (by unfold bC;simp[n3,bW,bO,dx,dI,f9,h_]),(Below.refl _ _).alloc (Nat.le_refl _) _⟩
  rw[h_]at f_
  cases k2:(p.kind==2)
  ·have n2:¬p.kind=2:=by simpa using k2
   go_enter Tryz.func179,Tryz.ntmps179
   go_wp2_with fail
   refine(bF.out _).mono ?_
   rintro e w' ⟨rfl,rfl⟩
   go_wp2_with fail
   refine(bu.out _).mono ?_
   rintro e w' ⟨rfl,rfl⟩
   go_wp2_with fail
   refine(cL.out _).mono ?_
   rintro e w' ⟨rfl,rfl⟩
   go_wp2_with fail
   refine(dv.out _).mono ?_
   rintro e w' ⟨rfl,rfl⟩
   go_wp2_with fail
   refine(fK.out _).mono ?_
   rintro e w' ⟨rfl,rfl⟩
   go_wp2_with fail
   refine(f_.out _).mono ?_
   rintro e w' ⟨rfl,rfl⟩
   go_wp2_with fail
   refine(iW.out _).mono ?_
   rintro e w' ⟨rfl,rfl⟩
   go_wp2_with fail
   go_ret
   exact⟨cT (by unfold bC;simp[n3,n2,bW,bO,dx,dI,f9,h_]),(Below.refl _ _).alloc (Nat.le_refl _) _⟩
  have n2:Hid (p.kind=2):=hid (by simpa using k2)
  go_enter Tryz.func179,Tryz.ntmps179
  go_wp2_with fail
  refine(bF.out _).mono ?_
  rintro e w' ⟨rfl,rfl⟩
  go_wp2_with fail
  refine(bu.out _).mono ?_
  rintro e w' ⟨rfl,rfl⟩
  go_wp2_with fail
  refine(cL.out _).mono ?_
  rintro e w' ⟨rfl,rfl⟩
  go_wp2_with fail
  refine(dv.out _).mono ?_
  rintro e w' ⟨rfl,rfl⟩
  go_wp2_with fail
  refine(fK.out _).mono ?_
  rintro e w' ⟨rfl,rfl⟩
  go_wp2_with fail
  refine(f_.out _).mono ?_
  rintro e w' ⟨rfl,rfl⟩
  go_wp2_with fail
  refine(jA.out _).mono ?_
  rintro e w' ⟨rfl,rfl⟩
  go_wp2_with fail
  go_ret
  exact⟨cT (by unfold bC;simp[n2.out,bW,bO,dx,dI,f9,h_]),(Below.refl _ _).alloc (Nat.le_refl _) _⟩
 have n3:Hid (p.kind=3):=hid (by simpa using k3)
 go_enter Tryz.func179,Tryz.ntmps179
 go_wp2_with fail
 refine(bF.out _).mono ?_
 rintro e w' ⟨rfl,rfl⟩
 go_wp2_with fail
 refine(bu.out _).mono ?_
 rintro e w' ⟨rfl,rfl⟩
 go_wp2_with fail
 refine(cL.out _).mono ?_
 rintro e w' ⟨rfl,rfl⟩
 go_wp2_with fail
 refine(dv.out _).mono ?_
 rintro e w' ⟨rfl,rfl⟩
 go_wp2_with fail
 refine(iO.out _).mono ?_
 rintro e w' ⟨rfl,rfl⟩
 go_wp2_with fail
 go_ret
 exact⟨cT (by unfold bC;simp[n3.out,bW,bO,dx,dI]),(Below.refl _ _).alloc (Nat.le_refl _) _⟩
theorem qQ9{P:Prop}(h:P:=by
 go_enter Tryz.func149,Tryz.ntmps149
 go_upto_region 1 with (fail)
 generalize (w.alloc (.cells #[p.kind,p.life,p.piece,p.src,p.dst,p.fp,p.tp,p.flags,p.label,p.bare,p.code,.slice AO p.no cO,.slice AD p.nd cD] 53))=w1 at *
 have y0:=CE.out.2.1 0 _ rfl
 have y1:=CE.out.2.1 1 _ rfl
 have y2:=CE.out.2.1 2 _ rfl
 have y3:=CE.out.2.1 3 _ rfl
 have y4:=CE.out.2.1 4 _ rfl
 have y5:=CE.out.2.1 5 _ rfl
 have y6:=CE.out.2.1 6 _ rfl
 have y7:=CE.out.2.1 7 _ rfl
 have y8:=CE.out.2.1 8 _ rfl
 have y9:=CE.out.2.1 9 _ rfl
 have al:=CE.out.2.1 10 _ rfl
 have ak:=CE.out.2.1 11 _ rfl
 have aj:=CE.out.2.1 12 _ rfl
 go_wp2_with fail
 refine(IK.out _).mono ?_
 rintro e w' ⟨rfl,rfl⟩
 go_wp2_with fail
 refine(IB.out _).mono ?_
 rintro e w2 ⟨rfl,hb⟩
 have aE:=hid (CE.out.below hb)
 have B2:=hid (B0.out.trans (hb.mono B0.out.size))
 clear y0 y1 y2 y3 y4 y5 y6 y7 y8 y9 al ak aj hb CE
 have y0:=aE.out.2.1 0 _ rfl
 have y1:=aE.out.2.1 1 _ rfl
 have y2:=aE.out.2.1 2 _ rfl
 have y3:=aE.out.2.1 3 _ rfl
 have y4:=aE.out.2.1 4 _ rfl
 have y5:=aE.out.2.1 5 _ rfl
 have y6:=aE.out.2.1 6 _ rfl
 have y7:=aE.out.2.1 7 _ rfl
 have y8:=aE.out.2.1 8 _ rfl
 have y9:=aE.out.2.1 9 _ rfl
 have al:=aE.out.2.1 10 _ rfl
 have ak:=aE.out.2.1 11 _ rfl
 have aj:=aE.out.2.1 12 _ rfl
 go_wp2_with fail
 go_ret
 exact⟨bp (show (3:Int)=aG p from by unfold aG;rw[if_neg (by rw[bk];decide)];rw[if_neg (by rw[br];decide)];rw[if_neg n5.out,if_pos (.inl ⟨n3.out,by simp at tW;omega⟩)]),B2.out⟩
 ):P:=h
theorem qQY{P:Prop}(h:P:=by
 cases oY:decide ((1500:Int)<(aU p:Int))
 ·go_enter Tryz.func149,Tryz.ntmps149
  go_upto_region 1 with (fail)
  generalize (w.alloc (.cells #[p.kind,p.life,p.piece,p.src,p.dst,p.fp,p.tp,p.flags,p.label,p.bare,p.code,.slice AO p.no cO,.slice AD p.nd cD] 53))=w1 at *
  have y0:=CE.out.2.1 0 _ rfl
  have y1:=CE.out.2.1 1 _ rfl
  have y2:=CE.out.2.1 2 _ rfl
  have y3:=CE.out.2.1 3 _ rfl
  have y4:=CE.out.2.1 4 _ rfl
  have y5:=CE.out.2.1 5 _ rfl
  have y6:=CE.out.2.1 6 _ rfl
  have y7:=CE.out.2.1 7 _ rfl
  have y8:=CE.out.2.1 8 _ rfl
  have y9:=CE.out.2.1 9 _ rfl
  have al:=CE.out.2.1 10 _ rfl
  have ak:=CE.out.2.1 11 _ rfl
  have aj:=CE.out.2.1 12 _ rfl
  go_wp2_with fail
  refine(IK.out _).mono ?_
  rintro e w' ⟨rfl,rfl⟩
  go_wp2_with fail
  refine(IB.out _).mono ?_
  rintro e w2 ⟨rfl,hb⟩
  have aE:=hid (CE.out.below hb)
  have B2:=hid (B0.out.trans (hb.mono B0.out.size))
  clear y0 y1 y2 y3 y4 y5 y6 y7 y8 y9 al ak aj hb CE
  have y0:=aE.out.2.1 0 _ rfl
  have y1:=aE.out.2.1 1 _ rfl
  have y2:=aE.out.2.1 2 _ rfl
  have y3:=aE.out.2.1 3 _ rfl
  have y4:=aE.out.2.1 4 _ rfl
  have y5:=aE.out.2.1 5 _ rfl
  have y6:=aE.out.2.1 6 _ rfl
  have y7:=aE.out.2.1 7 _ rfl
  have y8:=aE.out.2.1 8 _ rfl
  have y9:=aE.out.2.1 9 _ rfl
  have al:=aE.out.2.1 10 _ rfl
  have ak:=aE.out.2.1 11 _ rfl
  have aj:=aE.out.2.1 12 _ rfl
  go_wp2_with fail
  refine(LE.out _).mono ?_
  rintro e w3 ⟨rfl,hb⟩
  have B3:=hid (B2.out.trans (hb.mono B2.out.size))
  clear y0 y1 y2 y3 y4 y5 y6 y7 y8 y9 al ak aj hb
  go_wp2_with fail
  go_ret
  exact⟨bp (show (0:Int)=aG p from by unfold aG;rw[if_neg (by rw[bk];decide)];rw[if_neg (by rw[br];decide)];rw[if_neg n5.out,if_neg (by rintro (e |e);(exact N3.out e);(simp at oY;omega))]),B3.out⟩
 go_enter Tryz.func149,Tryz.ntmps149
 go_upto_region 1 with (fail)
 generalize (w.alloc (.cells #[p.kind,p.life,p.piece,p.src,p.dst,p.fp,p.tp,p.flags,p.label,p.bare,p.code,.slice AO p.no cO,.slice AD p.nd cD] 53))=w1 at *
 have y0:=CE.out.2.1 0 _ rfl
 have y1:=CE.out.2.1 1 _ rfl
 have y2:=CE.out.2.1 2 _ rfl
 have y3:=CE.out.2.1 3 _ rfl
 have y4:=CE.out.2.1 4 _ rfl
 have y5:=CE.out.2.1 5 _ rfl
 have y6:=CE.out.2.1 6 _ rfl
 have y7:=CE.out.2.1 7 _ rfl
 have y8:=CE.out.2.1 8 _ rfl
 have y9:=CE.out.2.1 9 _ rfl
 have al:=CE.out.2.1 10 _ rfl
 have ak:=CE.out.2.1 11 _ rfl
 have aj:=CE.out.2.1 12 _ rfl
 go_wp2_with fail
 refine(IK.out _).mono ?_
 rintro e w' ⟨rfl,rfl⟩
 go_wp2_with fail
 refine(IB.out _).mono ?_
 rintro e w2 ⟨rfl,hb⟩
 have aE:=hid (CE.out.below hb)
 have B2:=hid (B0.out.trans (hb.mono B0.out.size))
 clear y0 y1 y2 y3 y4 y5 y6 y7 y8 y9 al ak aj hb CE
 have y0:=aE.out.2.1 0 _ rfl
 have y1:=aE.out.2.1 1 _ rfl
 have y2:=aE.out.2.1 2 _ rfl
 have y3:=aE.out.2.1 3 _ rfl
 have y4:=aE.out.2.1 4 _ rfl
 have y5:=aE.out.2.1 5 _ rfl
 have y6:=aE.out.2.1 6 _ rfl
 have y7:=aE.out.2.1 7 _ rfl
 have y8:=aE.out.2.1 8 _ rfl
 have y9:=aE.out.2.1 9 _ rfl
 have al:=aE.out.2.1 10 _ rfl
 have ak:=aE.out.2.1 11 _ rfl
 have aj:=aE.out.2.1 12 _ rfl
 go_wp2_with fail
 refine(LE.out _).mono ?_
 rintro e w3 ⟨rfl,hb⟩
 have B3:=hid (B2.out.trans (hb.mono B2.out.size))
 clear y0 y1 y2 y3 y4 y5 y6 y7 y8 y9 al ak aj hb
 go_wp2_with fail
 go_ret
 exact⟨bp (show (3:Int)=aG p from by unfold aG;rw[if_neg (by rw[bk];decide)];rw[if_neg (by rw[br];decide)];rw[if_neg n5.out,if_pos (.inr (by simp at oY;omega))]),B3.out⟩
 ):P:=h
theorem qJK{P:Prop}(h:P:=by
 replace n5:=hid n5
 cases k3:(p.kind==3)
 ·have n3:¬p.kind=3:=by simpa using k3
  have N3:=hid (show ¬(p.kind=3∧p.nd<24) from fun e=>n3 e.1)
  exact qQY
 have n3:Hid (p.kind=3):=hid (by simpa using k3)
 cases tW:decide ((p.nd:Int)<24)
 ·have N3:=hid (show ¬(p.kind=3∧p.nd<24) from fun e=>by have:=e.2;simp at tW;omega)
  exact qQY
 exact qQ9
 ):P:=h
set_option maxHeartbeats 4000000 in
theorem yI (p:Pk)(AO:Option Addr)(cO:Nat)(AD:Option Addr)(cD:Nat)(w:World)(h1:p.no≤1000000)(h2:p.nd≤1000000) :
 Calls Tryz.prog 149 #[.agg #[p.kind,p.life,p.piece,p.src,p.dst,p.fp,p.tp,p.flags,p.label,p.bare,p.code,.slice AO p.no cO,.slice AD p.nd cD]] w fun e w'=>e =.returned (.int .i64 (aG p))∧Below w.heap.size w w':=by
 have IK:=hid (fun w=>rS p.kind w)
 have IB:=hid (fun w=>vh p AO cO AD cD w)
 have LE:=hid (fun w=>yw p AO cO AD cD w h1 h2)
 have CE:=hid (Ce.made (w:=w) (l:=[p.kind,p.life,p.piece,p.src,p.dst,p.fp,p.tp,p.flags,p.label,p.bare,p.code,.slice AO p.no cO,.slice AD p.nd cD]) (T:=53) (g:=w.heap.size) rfl)
 have B0:=hid ((Below.refl w.heap.size w).alloc (Nat.le_refl _) (.cells #[p.kind,p.life,p.piece,p.src,p.dst,p.fp,p.tp,p.flags,p.label,p.bare,p.code,.slice AO p.no cO,.slice AD p.nd cD] 53))
 simp only[List.toArray]at CE
 cases bk:isK p.kind
 ·rw[bk]at IK
  go_enter Tryz.func149,Tryz.ntmps149
  go_upto_region 1 with (fail)
  generalize (w.alloc (.cells #[p.kind,p.life,p.piece,p.src,p.dst,p.fp,p.tp,p.flags,p.label,p.bare,p.code,.slice AO p.no cO,.slice AD p.nd cD] 53))=w1 at *
  have y0:=CE.out.2.1 0 _ rfl
  have y1:=CE.out.2.1 1 _ rfl
  have y2:=CE.out.2.1 2 _ rfl
  have y3:=CE.out.2.1 3 _ rfl
  have y4:=CE.out.2.1 4 _ rfl
  have y5:=CE.out.2.1 5 _ rfl
  have y6:=CE.out.2.1 6 _ rfl
  have y7:=CE.out.2.1 7 _ rfl
  have y8:=CE.out.2.1 8 _ rfl
  have y9:=CE.out.2.1 9 _ rfl
  have al:=CE.out.2.1 10 _ rfl
  have ak:=CE.out.2.1 11 _ rfl
  have aj:=CE.out.2.1 12 _ rfl
  go_wp2_with fail
  refine(IK.out _).mono ?_
  rintro e w' ⟨rfl,rfl⟩
  go_wp2_with fail
  go_ret
  exact⟨bp (show (2:Int)=aG p from by unfold aG;rw[if_pos bk]),B0.out⟩
 rw[bk]at IK
 cases br:bC p
 ·rw[br]at IB
  go_enter Tryz.func149,Tryz.ntmps149
  go_upto_region 1 with (fail)
  generalize (w.alloc (.cells #[p.kind,p.life,p.piece,p.src,p.dst,p.fp,p.tp,p.flags,p.label,p.bare,p.code,.slice AO p.no cO,.slice AD p.nd cD] 53))=w1 at *
  have y0:=CE.out.2.1 0 _ rfl
  have y1:=CE.out.2.1 1 _ rfl
  have y2:=CE.out.2.1 2 _ rfl
  have y3:=CE.out.2.1 3 _ rfl
  have y4:=CE.out.2.1 4 _ rfl
  have y5:=CE.out.2.1 5 _ rfl
  have y6:=CE.out.2.1 6 _ rfl
  have y7:=CE.out.2.1 7 _ rfl
  have y8:=CE.out.2.1 8 _ rfl
  have y9:=CE.out.2.1 9 _ rfl
  have al:=CE.out.2.1 10 _ rfl
  have ak:=CE.out.2.1 11 _ rfl
  have aj:=CE.out.2.1 12 _ rfl
  go_wp2_with fail
  refine(IK.out _).mono ?_
  rintro e w' ⟨rfl,rfl⟩
  go_wp2_with fail
  refine(IB.out _).mono ?_
  rintro e w2 ⟨rfl,hb⟩
  have aE:=hid (CE.out.below hb)
  have B2:=hid (B0.out.trans (hb.mono B0.out.size))
  clear y0 y1 y2 y3 y4 y5 y6 y7 y8 y9 al ak aj hb CE
  have y0:=aE.out.2.1 0 _ rfl
  have y1:=aE.out.2.1 1 _ rfl
  have y2:=aE.out.2.1 2 _ rfl
  have y3:=aE.out.2.1 3 _ rfl
  have y4:=aE.out.2.1 4 _ rfl
  have y5:=aE.out.2.1 5 _ rfl
  have y6:=aE.out.2.1 6 _ rfl
  have y7:=aE.out.2.1 7 _ rfl
  have y8:=aE.out.2.1 8 _ rfl
  have y9:=aE.out.2.1 9 _ rfl
  have al:=aE.out.2.1 10 _ rfl
  have ak:=aE.out.2.1 11 _ rfl
  have aj:=aE.out.2.1 12 _ rfl
  go_wp2_with fail
  go_ret
  exact⟨bp (show (14:Int)=aG p from by unfold aG;rw[if_neg (by rw[bk];decide)];rw[if_pos br]),B2.out⟩
 rw[br]at IB
 cases k1:(p.kind==1)
 ·have n5:¬(p.kind=1∧40<p.no):=fun e=>by have:=e.1;simp at k1;exact k1 this
  exact qJK
 have n1:Hid (p.kind=1):=hid (by simpa using k1)
 cases Bo:decide ((40:Int)<(p.no:Int))
 ·have n5:¬(p.kind=1∧40<p.no):=fun e=>by have:=e.2;simp at Bo;omega
  exact qJK
 go_enter Tryz.func149,Tryz.ntmps149
 go_upto_region 1 with (fail)
 generalize (w.alloc (.cells #[p.kind,p.life,p.piece,p.src,p.dst,p.fp,p.tp,p.flags,p.label,p.bare,p.code,.slice AO p.no cO,.slice AD p.nd cD] 53))=w1 at *
 have y0:=CE.out.2.1 0 _ rfl
 have y1:=CE.out.2.1 1 _ rfl
 have y2:=CE.out.2.1 2 _ rfl
 have y3:=CE.out.2.1 3 _ rfl
 have y4:=CE.out.2.1 4 _ rfl
 have y5:=CE.out.2.1 5 _ rfl
 have y6:=CE.out.2.1 6 _ rfl
 have y7:=CE.out.2.1 7 _ rfl
 have y8:=CE.out.2.1 8 _ rfl
 have y9:=CE.out.2.1 9 _ rfl
 have al:=CE.out.2.1 10 _ rfl
 have ak:=CE.out.2.1 11 _ rfl
 have aj:=CE.out.2.1 12 _ rfl
 go_wp2_with fail
 refine(IK.out _).mono ?_
 rintro e w' ⟨rfl,rfl⟩
 go_wp2_with fail
 refine(IB.out _).mono ?_
 rintro e w2 ⟨rfl,hb⟩
 have aE:=hid (CE.out.below hb)
 have B2:=hid (B0.out.trans (hb.mono B0.out.size))
 clear y0 y1 y2 y3 y4 y5 y6 y7 y8 y9 al ak aj hb CE
 have y0:=aE.out.2.1 0 _ rfl
 have y1:=aE.out.2.1 1 _ rfl
 have y2:=aE.out.2.1 2 _ rfl
 have y3:=aE.out.2.1 3 _ rfl
 have y4:=aE.out.2.1 4 _ rfl
 have y5:=aE.out.2.1 5 _ rfl
 have y6:=aE.out.2.1 6 _ rfl
 have y7:=aE.out.2.1 7 _ rfl
 have y8:=aE.out.2.1 8 _ rfl
 have y9:=aE.out.2.1 9 _ rfl
 have al:=aE.out.2.1 10 _ rfl
 have ak:=aE.out.2.1 11 _ rfl
 have aj:=aE.out.2.1 12 _ rfl
 go_wp2_with fail
 go_ret
 exact⟨bp (show (5:Int)=aG p from by unfold aG;rw[if_neg (by rw[bk];decide)];rw[if_neg (by rw[br];decide)];rw[if_pos ⟨n1.out,by simp at Bo;omega⟩]),B2.out⟩
theorem i9 {p:Pk}(h:bC p=true):(0≤p.life∧p.life≤255)∧(0≤p.piece∧p.piece≤255)∧(p.kind=3→0≤p.code∧p.code≤255)∧(p.kind≠3→p.kind≠2→0≤p.flags∧p.flags≤15):=by
 unfold bC cW at h
 simp at h
 refine⟨by omega,by omega,fun k=>?_,fun k k2=>?_⟩
 ·rw[if_pos k]at h;omega
 rw[if_neg k,if_neg k2]at h;omega
theorem gQ {w:World}{B n size:Nat}{e:TypeId}{v:Value}{f:Nat→Value}(h:Ow w B e size v n f)(hn:0<n*size):B≤w.heap.size:=by
 rcases h.2 with ⟨_,h0⟩ |⟨g,cap,cur,_,hB,hh,_⟩
 ·subst h0;simp at hn
 rcases Nat.lt_or_ge g w.heap.size with h1 |h1
 ·omega
 rw[Array.getElem?_eq_none h1]at hh;cases hh
theorem Hc {w:World}{x:Int}:OB (w.alloc (.cells #[.int .u8 x,.int .u8 0,.int .u8 0,.int .u8 0] 5)) w.heap.size (.slice (some ⟨w.heap.size,0,none⟩) 4 4) 4 (fun j=>if j=0 then x else 0):=by
 refine OB.of_cells (Nat.le_refl _) (by simp only[maxLen];omega) ?_
 rw[heap_alloc_new]
 rfl
def Kc (w:World)(p:Pk)(e:Ending)(w':World):Prop:=∃A' c',e =.returned (.slice A' (aU p-16) c')∧OB w' w.heap.size (.slice A' (aU p-16) c') (aU p-16) (dq p)∧aU p-16≤c'∧Below w.heap.size w w'
set_option maxHeartbeats 8000000 in
theorem Ec (p:Pk)(AO:Option Addr)(cO:Nat)(AD:Option Addr)(cD:Nat)(w:World)(HO:By w AO p.no p.go)(HD:By w AD p.nd p.gd)(hE:aG p=0) :
 Calls Tryz.prog 151 #[.agg #[p.kind,p.life,p.piece,p.src,p.dst,p.fp,p.tp,p.flags,p.label,p.bare,p.code,.slice AO p.no cO,.slice AD p.nd cD]] w (Kc w p):=by
 obtain ⟨e1,e2,e3,e4,e5,e6⟩:=ig hE
 obtain ⟨_,_,rc,rf⟩:=i9 e2
 have hno:=e3
 have hl:p.nd≤1500:=by unfold aU at e5;split at e5;omega;split at e5 <;> omega
 have HOW:=hid (fun (W:World) (hw:Below w.heap.size w W)=>Sl.below HO hw (Nat.le_refl _))
 have oA:=hid (fun (W:World) (hw:Below w.heap.size w W)=>Sl.below HD hw (Nat.le_refl _))
 have CE:=hid (Ce.made (w:=w) (l:=[p.kind,p.life,p.piece,p.src,p.dst,p.fp,p.tp,p.flags,p.label,p.bare,p.code,.slice AO p.no cO,.slice AD p.nd cD]) (T:=53) (g:=w.heap.size) rfl)
 have B0:=hid ((Below.refl w.heap.size w).alloc (Nat.le_refl _) (.cells #[p.kind,p.life,p.piece,p.src,p.dst,p.fp,p.tp,p.flags,p.label,p.bare,p.code,.slice AO p.no cO,.slice AD p.nd cD] 53))
 simp only[List.toArray]at CE
 have LD:=hE
 clear HO HD hE e1 e2 e4 e5 e6
 cases k3:(p.kind==3)
 ·have gH:¬p.kind=3:=by simpa using k3
  cases k2:(p.kind==2)
  ·have k2':¬p.kind=2:=by simpa using k2
   have k1':p.kind=1:=by have:=jq LD;omega
   have Hf:=rf gH k2'
   obtain ⟨Nx,Nw⟩:=Hf
   have Qe:=hno k1'
   have HL:Hid (aU p-16=8+p.no+p.nd):=hid (by unfold aU;rw[if_neg gH,if_neg k2'];omega)
   have HF:Hid (dq p=fun j=>if j<8+p.no then (if j<8 then set1 (set1 (ao (ao (fun _=>0) 0 2 p.fp) 2 2 p.tp) 4 p.flags) 5 (p.no:Int) j else p.go (j-8)) else p.gd (j-(8+p.no))):=hid (by funext j;unfold dq;rw[if_neg gH,if_neg k2'];unfold set1 ao;dsimp only;(repeat' split);all_goals (first |rfl | (exfalso;omega) | (congr 1;omega)))
   clear k1' k2' gH rc rf hno LD
   go_enter Tryz.func151,Tryz.ntmps151
   go_upto_region 1 with (fail)
   generalize (w.alloc (.cells #[p.kind,p.life,p.piece,p.src,p.dst,p.fp,p.tp,p.flags,p.label,p.bare,p.code,.slice AO p.no cO,.slice AD p.nd cD] 53))=w1 at *
   have lP:w.heap.size<w1.heap.size:=CE.out.1
   have y0:=CE.out.2.1 0 _ rfl
   have PI:∀W,(Instr.slice 23 (.slice (some ⟨w1.heap.size,0,none⟩) 8 8) none (some (.int .i64 2)) (some (.int .i64 2))).run Tryz.prog W =.ok (.slice (some ⟨w1.heap.size,0,none⟩) 2 2) W:=fun W=>by rw[run_slice_hm W 23 _ 8 8 jU .i64 .i64 _ _ (by omega) (by omega) (by omega),jF W];rfl
   have Ka:=fun W=>eP (G:=w1.heap.size) (n:=8) (c:=8) 2 2 (by omega) (Nat.le_refl _) (by omega) 2 4 4 rfl rfl rfl W
   have J_:=fun W=>eP (G:=w1.heap.size) (n:=8) (c:=8) 4 2 (by omega) (Nat.le_refl _) (by omega) 4 6 6 rfl rfl rfl W
   go_upto_region 4 with (at_make;refine mm rfl _ _ rfl w1.heap.size 8 _ _ rfl rfl rfl rfl (by omega) (Nat.le_refl _) ?_;intro w2 hO hb2;have HO:=hid (show OB w2 w1.heap.size (.slice (some ⟨w1.heap.size,0,none⟩) 8 8) 8 (fun _=>0) from hO);have HC:=hid (CE.out.below hb2);have HB:=hid (B0.out.trans (hb2.mono B0.out.size));clear hO hb2 CE B0)
   clear y0
   refine wp_region_held_drew (S:=fun w'=>Ce w' w.heap.size [p.kind,p.life,p.piece,p.src,p.dst,p.fp,p.tp,p.flags,p.label,p.bare,p.code,.slice AO p.no cO,.slice AD p.nd cD]) (by kernel_rfl) ?_ (fun hHeld=>?_)
   ·exact HC.out.bo
   refine ae 0 hHeld ?_
   refine ae 1 hHeld ?_
   refine ae 2 hHeld ?_
   refine ae 3 hHeld ?_ (hy:=by intro w hSw;(try dsimp only at hSw);have y:=hSw.2.1 5 _ rfl;go_simp;(try with_reducible rfl))
   refine only 4 rfl (by kernel_rfl) rfl (fun K hK=>?_)
   go_simp
   refine(dX (Ow.drew HO.out) 0 2 2 p.fp (by omega) (by omega)).mono ?_
   rintro e' w3 ⟨rfl,hO,hg⟩
   try go_wp2_with fail
   refine hK.out _ _ (hHeld.grown hg (fun e=>by injection e with e;omega)) (fun _=>?_)
   have bQ:=hid hO
   have cI:=hid (hHeld.grown hg (fun e=>by injection e with e;omega))
   have HB2:=hid (HB.out.trans (af (fe hg) (by omega) HB.out.size))
   clear hK hHeld hO hg HO HC HB
   (try simp only[Act.put,zA,zB,zC])
   refine wpAnyH_done (by kernel_rfl) ?_ _
   have HO:=bQ
   have HC:=cI
   have HB:=HB2
   clear bQ cI HB2
   go_upto_region 5 with (fail)
   refine wp_region_held_drew (S:=fun w'=>Ce w' w.heap.size [p.kind,p.life,p.piece,p.src,p.dst,p.fp,p.tp,p.flags,p.label,p.bare,p.code,.slice AO p.no cO,.slice AD p.nd cD]) (by kernel_rfl) ?_ (fun hHeld=>?_)
   ·exact HC.out.bo
   refine ae 0 hHeld ?_
   refine ae 1 hHeld ?_
   refine ae 2 hHeld ?_
   refine ae 3 hHeld ?_ (hy:=by intro w hSw;(try dsimp only at hSw);have y:=hSw.2.1 6 _ rfl;go_simp;(try with_reducible rfl))
   refine only 4 rfl (by kernel_rfl) rfl (fun K hK=>?_)
   go_simp
   refine(dX (Ow.drew HO.out) 2 2 2 p.tp (by omega) (by omega)).mono ?_
   rintro e' w4 ⟨rfl,hO,hg⟩
   try go_wp2_with fail
   refine hK.out _ _ (hHeld.grown hg (fun e=>by injection e with e;omega)) (fun _=>?_)
   have bQ:=hid hO
   have cI:=hid (hHeld.grown hg (fun e=>by injection e with e;omega))
   have HB2:=hid (HB.out.trans (af (fe hg) (by omega) HB.out.size))
   clear hK hHeld hO hg HO HC HB
   (try simp only[Act.put,zA,zB,zC])
   refine wpAnyH_done (by kernel_rfl) ?_ _
   have HO:=bQ
   have HC:=cI
   have HB:=HB2
   clear bQ cI HB2
   have y0:=HC.out.2.1 0 _ rfl
   go_upto_region 9 with (fail)
   clear y0
   obtain ⟨g',e,hB,hgs,hce,hfr⟩:=Ow.block_ HO.out (by omega)
   injection e with e
   injection e with e _
   subst e
   have c4:=hce 4 (by omega)
   have c5:=hce 5 (by omega)
   have f4:=hfr 4
   have f5:=hfr 5
   clear hce hfr
   have u7:IntKind.u8.wrap p.flags=p.flags:=by rw[IntKind.wrap_u8];omega
   have rs:IntKind.u8.wrap (p.no:Int)=(p.no:Int):=by rw[IntKind.wrap_u8];omega
   have n40:(p.no:Int)≤255:=by omega
   have n0:(0:Int)≤p.no:=by omega
   refine wp_region_held_drew (S:=fun w'=>Ce w' w.heap.size [p.kind,p.life,p.piece,p.src,p.dst,p.fp,p.tp,p.flags,p.label,p.bare,p.code,.slice AO p.no cO,.slice AD p.nd cD]) (by kernel_rfl) ?_ (fun hHeld=>?_)
   ·exact HC.out.bo
   refine ae 0 hHeld ?_
   refine ae 1 hHeld ?_
   refine ae 2 hHeld ?_
   refine ae 3 hHeld ?_ (hy:=by intro w hSw;(try dsimp only at hSw);have q7:=hSw.2.1 7 _ rfl;have Ev:=hSw.2.1 11 _ rfl;go_simp;(try with_reducible rfl))
   refine ae 4 hHeld ?_
   refine ae 5 hHeld ?_
   refine ae 6 hHeld ?_ (hy:=by intro w hSw;(try dsimp only at hSw);have q7:=hSw.2.1 7 _ rfl;have Ev:=hSw.2.1 11 _ rfl;go_simp;(try with_reducible rfl))
   refine ae 7 hHeld ?_
   refine ae 8 hHeld ?_
   refine ae 9 hHeld ?_
   refine only 10 rfl (by kernel_rfl) rfl (fun K hK=>?_)
   go_simp
   have hH2:Ce (w4.setCell ⟨w1.heap.size,4,none⟩ (.int .u8 p.flags)).drew w.heap.size [p.kind,p.life,p.piece,p.src,p.dst,p.fp,p.tp,p.flags,p.label,p.bare,p.code,.slice AO p.no cO,.slice AD p.nd cD]:=Ce.bo (HC.out.grown (gs 4 (.int .u8 p.flags) (World.grownBy.refl w4 (some w1.heap.size))) (fun e=>by injection e with e;omega))
   refine hK.out _ _ hH2 (fun _=>?_)
   clear hK
   (try simp only[Act.put,zA,zB,zC])
   refine ae 11 hH2 ?_
   refine only 12 rfl (by kernel_rfl) rfl (fun K hK=>?_)
   go_simp
   have hH3:Ce ((w4.setCell ⟨w1.heap.size,4,none⟩ (.int .u8 p.flags)).setCell ⟨w1.heap.size,5,none⟩ (.int .u8 (p.no:Int))).drew w.heap.size [p.kind,p.life,p.piece,p.src,p.dst,p.fp,p.tp,p.flags,p.label,p.bare,p.code,.slice AO p.no cO,.slice AD p.nd cD]:=Ce.bo (HC.out.grown (gs 5 (.int .u8 (p.no:Int)) (gs 4 (.int .u8 p.flags) (World.grownBy.refl w4 (some w1.heap.size)))) (fun e=>by injection e with e;omega))
   refine hK.out _ _ hH3 (fun _=>?_)
   clear hK
   (try simp only[Act.put,zA,zB,zC])
   refine wpAnyH_done (by kernel_rfl) ?_ _
   have bQ:=hid (Ow.drew (OB.store (OB.store HO.out 4 p.flags) 5 (p.no:Int)))
   have HB2:=hid ((HB.out.trans (af (gs 5 (.int .u8 (p.no:Int)) (gs 4 (.int .u8 p.flags) (World.grownBy.refl w4 (some w1.heap.size)))) (by omega) HB.out.size)).drew)
   have cI:=hid hH3
   clear hH3 hH2 hHeld HO HC HB c4 c5 f4 f5
   generalize ((w4.setCell ⟨w1.heap.size,4,none⟩ (.int .u8 p.flags)).setCell ⟨w1.heap.size,5,none⟩ (.int .u8 (p.no:Int))).drew=w5 at *
   have ak:=cI.out.2.1 11 _ rfl
   go_upto_region 11 with (at_builtin;refine dM rfl (.tmp 48) (.tmp 50) rfl w1.heap.size _ 8 _ rfl bQ.out _ p.no _ p.go rfl (HOW.out _ HB2.out) (by omega) (gQ bQ.out (by omega)) ?_;intro A3 c3 w6 h1 h2 h3 h4 h5 h6;have O3:=hid h1;have B3:=hid (HB2.out.trans (h4.mono (by omega)));have C3:=hid (h4.cell (p:=⟨w.heap.size,12,none⟩) (by exact lP));have Z3:=hid h4.size;clear h1 h2 h3 h4 h5 h6)
   have aj:w6.cell? ⟨w.heap.size,12,none⟩=some (.slice AD p.nd cD):=C3.out.trans (cI.out.2.1 12 _ rfl)
   clear ak
   go_wp2_with (at_builtin;refine dM rfl (.tmp 52) (.tmp 54) rfl w1.heap.size _ (8+p.no) _ rfl O3.out _ p.nd _ p.gd rfl (oA.out _ B3.out) (by omega) (gQ O3.out (by omega)) ?_;intro A4 c4 w7 h1 h2 h3 h4 h5 h6;have O4:=hid h1;have hc4:=h2;have B4:=hid (B3.out.trans (h4.mono (by omega)));clear h1 h2 h3 h4 h5 h6)
   go_ret
   refine⟨A4,c4,by rw[HL.out];rfl,?_,by rw[HL.out];exact hc4,B4.out⟩
   rw[HL.out,HF.out]
   exact OB.base O4.out (by omega)
  have k2':p.kind=2:=by simpa using k2
  have HL:Hid (aU p-16=8+p.nd):=hid (by unfold aU;rw[if_neg gH,if_pos k2'];omega)
  have HF:Hid (dq p=fun j=>if j<8 then ao (ao (ao (fun _=>0) 0 2 p.fp) 2 2 p.tp) 4 2 p.label j else p.gd (j-8)):=hid (by funext j;unfold dq;rw[if_neg gH,if_pos k2'];unfold ao;dsimp only;(repeat' split);all_goals (first |rfl | (exfalso;omega) | (congr 1;omega)))
  clear k2' gH rc rf hno
  go_enter Tryz.func151,Tryz.ntmps151
  go_upto_region 1 with (fail)
  generalize (w.alloc (.cells #[p.kind,p.life,p.piece,p.src,p.dst,p.fp,p.tp,p.flags,p.label,p.bare,p.code,.slice AO p.no cO,.slice AD p.nd cD] 53))=w1 at *
  have lP:w.heap.size<w1.heap.size:=CE.out.1
  have y0:=CE.out.2.1 0 _ rfl
  have PI:∀W,(Instr.slice 23 (.slice (some ⟨w1.heap.size,0,none⟩) 8 8) none (some (.int .i64 2)) (some (.int .i64 2))).run Tryz.prog W =.ok (.slice (some ⟨w1.heap.size,0,none⟩) 2 2) W:=fun W=>by rw[run_slice_hm W 23 _ 8 8 jU .i64 .i64 _ _ (by omega) (by omega) (by omega),jF W];rfl
  have Ka:=fun W=>eP (G:=w1.heap.size) (n:=8) (c:=8) 2 2 (by omega) (Nat.le_refl _) (by omega) 2 4 4 rfl rfl rfl W
  have J_:=fun W=>eP (G:=w1.heap.size) (n:=8) (c:=8) 4 2 (by omega) (Nat.le_refl _) (by omega) 4 6 6 rfl rfl rfl W
  go_upto_region 4 with (at_make;refine mm rfl _ _ rfl w1.heap.size 8 _ _ rfl rfl rfl rfl (by omega) (Nat.le_refl _) ?_;intro w2 hO hb2;have HO:=hid (show OB w2 w1.heap.size (.slice (some ⟨w1.heap.size,0,none⟩) 8 8) 8 (fun _=>0) from hO);have HC:=hid (CE.out.below hb2);have HB:=hid (B0.out.trans (hb2.mono B0.out.size));clear hO hb2 CE B0)
  clear y0
  refine wp_region_held_drew (S:=fun w'=>Ce w' w.heap.size [p.kind,p.life,p.piece,p.src,p.dst,p.fp,p.tp,p.flags,p.label,p.bare,p.code,.slice AO p.no cO,.slice AD p.nd cD]) (by kernel_rfl) ?_ (fun hHeld=>?_)
  ·exact HC.out.bo
  refine ae 0 hHeld ?_
  refine ae 1 hHeld ?_
  refine ae 2 hHeld ?_
  refine ae 3 hHeld ?_ (hy:=by intro w hSw;(try dsimp only at hSw);have y:=hSw.2.1 5 _ rfl;go_simp;(try with_reducible rfl))
  refine only 4 rfl (by kernel_rfl) rfl (fun K hK=>?_)
  go_simp
  refine(dX (Ow.drew HO.out) 0 2 2 p.fp (by omega) (by omega)).mono ?_
  rintro e' w3 ⟨rfl,hO,hg⟩
  try go_wp2_with fail
  refine hK.out _ _ (hHeld.grown hg (fun e=>by injection e with e;omega)) (fun _=>?_)
  have bQ:=hid hO
  have cI:=hid (hHeld.grown hg (fun e=>by injection e with e;omega))
  have HB2:=hid (HB.out.trans (af (fe hg) (by omega) HB.out.size))
  clear hK hHeld hO hg HO HC HB
  (try simp only[Act.put,zA,zB,zC])
  refine wpAnyH_done (by kernel_rfl) ?_ _
  have HO:=bQ
  have HC:=cI
  have HB:=HB2
  clear bQ cI HB2
  go_upto_region 5 with (fail)
  refine wp_region_held_drew (S:=fun w'=>Ce w' w.heap.size [p.kind,p.life,p.piece,p.src,p.dst,p.fp,p.tp,p.flags,p.label,p.bare,p.code,.slice AO p.no cO,.slice AD p.nd cD]) (by kernel_rfl) ?_ (fun hHeld=>?_)
  ·exact HC.out.bo
  refine ae 0 hHeld ?_
  refine ae 1 hHeld ?_
  refine ae 2 hHeld ?_
  refine ae 3 hHeld ?_ (hy:=by intro w hSw;(try dsimp only at hSw);have y:=hSw.2.1 6 _ rfl;go_simp;(try with_reducible rfl))
  refine only 4 rfl (by kernel_rfl) rfl (fun K hK=>?_)
  go_simp
  refine(dX (Ow.drew HO.out) 2 2 2 p.tp (by omega) (by omega)).mono ?_
  rintro e' w4 ⟨rfl,hO,hg⟩
  try go_wp2_with fail
  refine hK.out _ _ (hHeld.grown hg (fun e=>by injection e with e;omega)) (fun _=>?_)
  have bQ:=hid hO
  have cI:=hid (hHeld.grown hg (fun e=>by injection e with e;omega))
  have HB2:=hid (HB.out.trans (af (fe hg) (by omega) HB.out.size))
  clear hK hHeld hO hg HO HC HB
  (try simp only[Act.put,zA,zB,zC])
  refine wpAnyH_done (by kernel_rfl) ?_ _
  have HO:=bQ
  have HC:=cI
  have HB:=HB2
  clear bQ cI HB2
  have y0:=HC.out.2.1 0 _ rfl
  go_upto_region 7 with (fail)
  clear y0
  refine wp_region_held_drew (S:=fun w'=>Ce w' w.heap.size [p.kind,p.life,p.piece,p.src,p.dst,p.fp,p.tp,p.flags,p.label,p.bare,p.code,.slice AO p.no cO,.slice AD p.nd cD]) (by kernel_rfl) ?_ (fun hHeld=>?_)
  ·exact HC.out.bo
  refine ae 0 hHeld ?_
  refine ae 1 hHeld ?_
  refine ae 2 hHeld ?_
  refine ae 3 hHeld ?_ (hy:=by intro w hSw;(try dsimp only at hSw);have y:=hSw.2.1 8 _ rfl;go_simp;(try with_reducible rfl))
  refine only 4 rfl (by kernel_rfl) rfl (fun K hK=>?_)
  go_simp
  refine(dX (Ow.drew HO.out) 4 2 2 p.label (by omega) (by omega)).mono ?_
  rintro e' w5 ⟨rfl,hO,hg⟩
  try go_wp2_with fail
  refine hK.out _ _ (hHeld.grown hg (fun e=>by injection e with e;omega)) (fun _=>?_)
  have bQ:=hid hO
  have cI:=hid (hHeld.grown hg (fun e=>by injection e with e;omega))
  have HB2:=hid (HB.out.trans (af (fe hg) (by omega) HB.out.size))
  clear hK hHeld hO hg HO HC HB
  (try simp only[Act.put,zA,zB,zC])
  refine wpAnyH_done (by kernel_rfl) ?_ _
  have HO:=bQ
  have HC:=cI
  have HB:=HB2
  clear bQ cI HB2
  have aj:=HC.out.2.1 12 _ rfl
  go_wp2_with (at_builtin;refine dM rfl (.tmp 33) (.tmp 35) rfl w1.heap.size _ 8 _ rfl HO.out _ p.nd _ p.gd rfl (oA.out _ HB.out) (by omega) (gQ HO.out (by omega)) ?_;intro A3 c3 w6 h1 h2 h3 h4 h5 h6;have O3:=hid h1;have hc3:=h2;have B3:=hid (HB.out.trans (h4.mono (by omega)));clear h1 h2 h3 h4 h5 h6)
  go_ret
  refine⟨A3,c3,by rw[HL.out];rfl,?_,by rw[HL.out];exact hc3,B3.out⟩
  rw[HL.out,HF.out]
  exact OB.base O3.out (by omega)
 have gH:p.kind=3:=by simpa using k3
 have rc':=rc gH
 obtain ⟨NA,Nz⟩:=rc'
 have HL:Hid (aU p-16=4+p.nd):=hid (by unfold aU;rw[if_pos gH];omega)
 have HF:Hid (dq p=fun j=>if j<4 then (if j=0 then p.code else 0) else p.gd (j-4)):=hid (by funext j;unfold dq;rw[if_pos gH];by_cases h0:j=0;(rw[if_pos h0,if_pos (by omega),if_pos h0]);(rw[if_neg h0];by_cases h4:j<4;(rw[if_pos h4,if_pos h4,if_neg h0]);(rw[if_neg h4,if_neg h4])))
 clear gH rc rf hno
 go_enter Tryz.func151,Tryz.ntmps151
 go_upto_region 1 with (fail)
 generalize (w.alloc (.cells #[p.kind,p.life,p.piece,p.src,p.dst,p.fp,p.tp,p.flags,p.label,p.bare,p.code,.slice AO p.no cO,.slice AD p.nd cD] 53))=w1 at *
 have y0:=CE.out.2.1 0 _ rfl
 have al:=CE.out.2.1 10 _ rfl
 have aj:=CE.out.2.1 12 _ rfl
 have HR:=hid (Hc (w:=w1) (x:=p.code))
 have aE:=CE.out.alloc (.cells #[.int .u8 p.code,.int .u8 0,.int .u8 0,.int .u8 0] 5)
 have z12:=aE.2.1 12 _ rfl
 clear aE
 have HD2:=hid (oA.out _ (B0.out.alloc B0.out.size (.cells #[.int .u8 p.code,.int .u8 0,.int .u8 0,.int .u8 0] 5)))
 have B2:=hid (B0.out.alloc B0.out.size (.cells #[.int .u8 p.code,.int .u8 0,.int .u8 0,.int .u8 0] 5))
 go_wp2_with (at_builtin;refine dM rfl (.tmp 10) (.tmp 12) rfl w1.heap.size _ 4 _ rfl HR.out _ p.nd _ p.gd rfl HD2.out (by omega) (by simp) ?_;intro A3 c3 w3 h1 h2 h3 h4 h5 h6;have O3:=hid h1;have hc3:=h2;have B3:=hid (B2.out.trans (h4.mono B0.out.size));clear h1 h2 h3 h4 h5 h6)
 go_ret
 refine⟨A3,c3,by rw[HL.out];rfl,?_,by rw[HL.out];exact hc3,B3.out⟩
 rw[HL.out,HF.out]
 exact OB.base O3.out B0.out.size
theorem Ce.below_ {w w':World}{B b:Nat}{l:List Value}(h:Ce w b l)(hb:Below B w w')(hB:b<B):Ce w' b l:=
 ⟨Nat.lt_of_lt_of_le h.1 hb.size,fun j v hj=>(hb.cell (p:=⟨b,j,none⟩) hB).trans (h.2.1 j v hj),fun j=>(World.frozen?_of_block (a:=⟨b,j,none⟩) (hb.block b hB)).trans (h.2.2 j)⟩
theorem qYC{P:Prop}(h:P:=by
 unfold cj ao set1
 dsimp only
 (repeat' split)
 all_goals (first |rfl | (exfalso;omega) | (congr 1;omega))
 ):P:=h
theorem Hm (p:Pk):ao (fun j=>if j<16 then ao (ao (set1 (set1 (set1 (fun _=>0) 0 p.kind) 1 p.life) 12 p.piece) 4 4 p.src) 8 4 p.dst j else dq p (j-16)) 2 2 (aU p:Int)=cj p:=by
 funext j
 exact qYC
theorem qz {p:Pk}(h:¬(p.kind=2∧p.bare=true)):aP p=cZ (ao (aZ p) (a_ p.kind) 2 (65535-norm (tot (eQ (aZ p) (aU p)) (eg (aZ p) (aU p))))):=by unfold aP;rw[if_neg h]
theorem wO {p:Pk}(h:p.kind=2∧p.bare=true):aP p=aZ p:=by unfold aP;rw[if_pos h]
theorem p6 (p:Pk):aZ p 0=p.kind:=by unfold aZ;rw[aT (by omega),jg]
theorem qQE{P:Prop}(h:P:=by
 have S0:=hid (c_ (jk (some ⟨G,0,none⟩) n c8 (aZ p) ea HO.out.sl1 (by omega)) (show ((a_ (aZ p 0):Nat):Int)=((a_ p.kind:Nat):Int) from by rw[p6]))
 have sl:=gC (aZ p)
 rw[p6]at sl
 obtain ⟨s,hs⟩:∃s,s=a_ p.kind:=⟨_,rfl⟩
 have HS:=hid hs
 rw[←hs]at S0 sl
 clear hs
 go_wp2_with fail
 refine S0.out.mono ?_
 rintro e w' ⟨rfl,rfl⟩
 clear y0 y9
 go_upto_region 13 with (fail)
 have PF:=fun W=>eP (G:=G) (n:=n) (c:=c8) s 2 (by omega) hc8 (by omega) s (s+2) (s+2) rfl rfl rfl W
 have qs:IntKind.i64.wrap ((s:Int)+2)=(s:Int)+2:=IntWalk.i64_in _ (by omega)
 have SM:=hid (fun (W:World) (hW:By W (some ⟨G,0,none⟩) n (aZ p))=>ry (some ⟨G,0,none⟩) n c8 (aZ p) W hW jC.out e6 hc8 e5)
 have OF:=hid (fun (W:World) A' c' (hW:By W A' (eg (aZ p) n) (eQ (aZ p) n))=>va A' _ c' _ W hW (oL jC.out n) (by unfold eg;split <;> omega))
 refine wp_region_held_drew (S:=fun _=>True) (by kernel_rfl) trivial (fun hHeld=>?_)
 refine ae 0 hHeld ?_
 refine ae 1 hHeld ?_
 refine ae 2 hHeld ?_
 refine ae 3 hHeld ?_
 refine ae 4 hHeld ?_
 refine ae 5 hHeld ?_
 refine ae 6 hHeld ?_
 refine ae 7 hHeld ?_
 refine only 8 rfl (by kernel_rfl) rfl (fun K hK=>?_)
 go_simp
 refine(SM.out _ (Ow.sl1 (Ow.drew HO.out))).mono ?_
 rintro e' li ⟨A2,c2,rfl,hS,mP⟩
 try go_wp2_with fail
 refine hK.out _ _ trivial (fun _=>?_)
 clear hK
 (try simp only[Act.put,zA,zB,zC])
 have bQ:=hid (OB.nR (Ow.drew HO.out) mP)
 have HB2:=hid (HB.out.drew.trans (mP.mono HB.out.drew.size))
 have HS2:=hid hS
 clear hS mP HO HB
 refine only 9 rfl (by kernel_rfl) rfl (fun K hK=>?_)
 go_simp
 refine(OF.out _ A2 c2 HS2.out).mono ?_
 rintro e' w' ⟨rfl,m',rfl⟩
 try go_wp2_with fail
 refine hK.out _ _ trivial (fun _=>?_)
 clear hK
 (try simp only[Act.put,zA,zB,zC])
 refine only 10 rfl (by kernel_rfl) rfl (fun K hK=>?_)
 go_simp
 refine(dX (Ow.drewN bQ.out m') s 2 2 (65535-norm (tot (eQ (aZ p) n) (eg (aZ p) n))) (by omega) (by omega)).mono ?_
 rintro e' og ⟨rfl,hO,hg⟩
 try go_wp2_with fail
 refine hK.out _ _ trivial (fun _=>?_)
 have hg2:li.grownBy og (some G):=⟨hg.os,hg.tape,hg.output,hg.size,hg.block⟩
 have HO:=hid hO
 have HB:=hid (HB2.out.trans (af hg2 (by omega) HB2.out.size))
 clear hK hO hg hg2 bQ HB2
 (try simp only[Act.put,zA,zB,zC])
 refine wpAnyH_done (by kernel_rfl) ?_ _
 have XB:=hid (dy jC.out s 2 (65535-norm (tot (eQ (aZ p) n) (eg (aZ p) n))))
 have k0:ao (aZ p) s 2 (65535-norm (tot (eQ (aZ p) n) (eg (aZ p) n))) 0=p.kind:=by rw[aT (by omega),p6]
 replace k0:=hid k0
 go_wp2_with fail
 refine(lU HO.out XB.out (by omega) (.inr e6) hc8 (by omega)).mono ?_
 rintro e tz ⟨rfl,hO,hg⟩
 have bQ:=hid hO
 have HB2:=hid (HB.out.trans (af hg (by omega) HB.out.size))
 clear hO hg HO HB
 go_wp2_with fail
 refine bodyPost_ret (v:=.tuple #[.slice (some ⟨G,0,none⟩) n c8,()]) (by simp[results,Tryz.results120,go_sem]) rfl ?_
 rw[HE.out,←HN.out,qz BN.out,←HS.out,←HN.out]
 exact⟨_,rfl,OB.base bQ.out (by omega),HB2.out⟩
 ):P:=h
set_option maxHeartbeats 8000000 in
theorem BI (p:Pk)(AO:Option Addr)(cO:Nat)(AD:Option Addr)(cD:Nat)(w:World)(HO:By w AO p.no p.go)(HD:By w AD p.nd p.gd)(hgo:aC p.go)(hgd:aC p.gd)(h1:p.no≤1000000)(h2:p.nd≤1000000) :
 Calls Tryz.prog 120 #[.agg #[p.kind,p.life,p.piece,p.src,p.dst,p.fp,p.tp,p.flags,p.label,p.bare,p.code,.slice AO p.no cO,.slice AD p.nd cD]] w (ij w (aG p) (aU p) (aP p)):=by
 have HOW:=hid (fun (W:World) (hw:Below w.heap.size w W)=>Sl.below HO hw (Nat.le_refl _))
 have oA:=hid (fun (W:World) (hw:Below w.heap.size w W)=>Sl.below HD hw (Nat.le_refl _))
 have CE:=hid (Ce.made (w:=w) (l:=[p.kind,p.life,p.piece,p.src,p.dst,p.fp,p.tp,p.flags,p.label,p.bare,p.code,.slice AO p.no cO,.slice AD p.nd cD]) (T:=53) (g:=w.heap.size) rfl)
 have B0:=hid ((Below.refl w.heap.size w).alloc (Nat.le_refl _) (.cells #[p.kind,p.life,p.piece,p.src,p.dst,p.fp,p.tp,p.flags,p.label,p.bare,p.code,.slice AO p.no cO,.slice AD p.nd cD] 53))
 simp only[List.toArray]at CE
 have CK:=hid (fun w=>yI p AO cO AD cD w h1 h2)
 obtain ⟨z,hz⟩:∃z,z=aG p:=⟨_,rfl⟩
 rw[←hz]at CK
 clear HO HD
 cases z0:(z != 0)
 ·have hE:aG p=0:=by rw[←hz];simpa using z0
  obtain ⟨e1,e2,e3,e4,e5,e6⟩:=ig hE
  obtain ⟨⟨xd,xa⟩,⟨wZ,wY⟩,_,_⟩:=i9 e2
  have hk:=jq hE
  have HK:=hid hk
  have He:0≤p.kind:=by omega
  have Hd:p.kind≤255:=by omega
  have BO:=hid (fun (W:World) (hw:Below w.heap.size w W)=>Ec p AO cO AD cD W (HOW.out W hw) (oA.out W hw) hE)
  have RB:=hid (lL hgd hgo hE)
  have jC:=hid (kU hgd hgo hE)
  have HE:=hid hE
  clear e1 e3 e4 hE hk z0 hgo hgd e2
  have hz0:z=0:=by rw[hz];exact HE.out
  subst hz0
  clear hz
  have u0:IntKind.u8.wrap p.kind=p.kind:=by rw[IntKind.wrap_u8];omega
  have u1:IntKind.u8.wrap p.life=p.life:=by rw[IntKind.wrap_u8];omega
  have u2:IntKind.u8.wrap p.piece=p.piece:=by rw[IntKind.wrap_u8];omega
  go_enter Tryz.func120,Tryz.ntmps120
  go_upto_region 1 with (fail)
  generalize (w.alloc (.cells #[p.kind,p.life,p.piece,p.src,p.dst,p.fp,p.tp,p.flags,p.label,p.bare,p.code,.slice AO p.no cO,.slice AD p.nd cD] 53))=w1 at *
  have lP:w.heap.size<w1.heap.size:=CE.out.1
  have y0:=CE.out.2.1 0 _ rfl
  have y1:=CE.out.2.1 1 _ rfl
  have y2:=CE.out.2.1 2 _ rfl
  have y3:=CE.out.2.1 3 _ rfl
  have y4:=CE.out.2.1 4 _ rfl
  have y5:=CE.out.2.1 5 _ rfl
  have y6:=CE.out.2.1 6 _ rfl
  have y7:=CE.out.2.1 7 _ rfl
  have y8:=CE.out.2.1 8 _ rfl
  have y9:=CE.out.2.1 9 _ rfl
  have al:=CE.out.2.1 10 _ rfl
  have ak:=CE.out.2.1 11 _ rfl
  have aj:=CE.out.2.1 12 _ rfl
  go_wp2_with fail
  refine(CK.out _).mono ?_
  rintro e w2 ⟨rfl,hb⟩
  have HC:=hid (CE.out.below hb)
  have HB:=hid (B0.out.trans (hb.mono B0.out.size))
  have lw:w1.heap.size≤w2.heap.size:=hb.size
  clear hb CE B0 CK
  clear y0 y1 y2 y3 y4 y5 y6 y7 y8 y9 al ak aj
  have lR:w.heap.size<w2.heap.size:=by omega
  go_upto_region 5 with (at_make;refine mm rfl _ _ rfl w2.heap.size 16 _ _ rfl rfl rfl rfl (by omega) (Nat.le_refl _) ?_;intro w3 hO hb2;have HO:=hid (show OB w3 w2.heap.size (.slice (some ⟨w2.heap.size,0,none⟩) 16 16) 16 (fun _=>0) from hO);have cI:=hid (HC.out.below hb2);have HB2:=hid (HB.out.trans (hb2.mono HB.out.size));clear hO hb2)
  clear HC HB
  obtain ⟨g',e,hB,hgs,hce,hfr⟩:=Ow.block_ HO.out (by omega)
  injection e with e
  injection e with e _
  subst e
  have c0:=hce 0 (by omega)
  have c1:=hce 1 (by omega)
  have c12:=hce 12 (by omega)
  have f0:=hfr 0
  have f1:=hfr 1
  have f12:=hfr 12
  clear hce hfr
  refine wp_region_held_drew (S:=fun w'=>Ce w' w.heap.size [p.kind,p.life,p.piece,p.src,p.dst,p.fp,p.tp,p.flags,p.label,p.bare,p.code,.slice AO p.no cO,.slice AD p.nd cD]) (by kernel_rfl) ?_ (fun hHeld=>?_)
  ·exact cI.out.bo
  refine ae 0 hHeld ?_
  refine ae 1 hHeld ?_
  refine ae 2 hHeld ?_
  refine ae 3 hHeld ?_
  refine ae 4 hHeld ?_ (hy:=by intro w hSw;(try dsimp only at hSw);have q0:=hSw.2.1 0 _ rfl;have q1:=hSw.2.1 1 _ rfl;have q2:=hSw.2.1 2 _ rfl;go_simp;(try with_reducible rfl))
  refine ae 5 hHeld ?_
  refine ae 6 hHeld ?_
  refine ae 7 hHeld ?_ (hy:=by intro w hSw;(try dsimp only at hSw);have q0:=hSw.2.1 0 _ rfl;have q1:=hSw.2.1 1 _ rfl;have q2:=hSw.2.1 2 _ rfl;go_simp;(try with_reducible rfl))
  refine ae 8 hHeld ?_
  refine ae 9 hHeld ?_
  refine ae 10 hHeld ?_ (hy:=by intro w hSw;(try dsimp only at hSw);have q0:=hSw.2.1 0 _ rfl;have q1:=hSw.2.1 1 _ rfl;have q2:=hSw.2.1 2 _ rfl;go_simp;(try with_reducible rfl))
  refine ae 11 hHeld ?_
  refine ae 12 hHeld ?_
  refine only 13 rfl (by kernel_rfl) rfl (fun K hK=>?_)
  go_simp
  have hH0:Ce (w3.setCell ⟨w2.heap.size,0,none⟩ (.int .u8 p.kind)).drew w.heap.size [p.kind,p.life,p.piece,p.src,p.dst,p.fp,p.tp,p.flags,p.label,p.bare,p.code,.slice AO p.no cO,.slice AD p.nd cD]:=Ce.bo (cI.out.grown (gs 0 (.int .u8 p.kind) (World.grownBy.refl w3 (some w2.heap.size))) (fun e=>by injection e with e;omega))
  refine hK.out _ _ hH0 (fun _=>?_)
  clear hK
  (try simp only[Act.put,zA,zB,zC])
  refine ae 14 hH0 ?_
  refine only 15 rfl (by kernel_rfl) rfl (fun K hK=>?_)
  go_simp
  have hH1:Ce ((w3.setCell ⟨w2.heap.size,0,none⟩ (.int .u8 p.kind)).setCell ⟨w2.heap.size,1,none⟩ (.int .u8 p.life)).drew w.heap.size [p.kind,p.life,p.piece,p.src,p.dst,p.fp,p.tp,p.flags,p.label,p.bare,p.code,.slice AO p.no cO,.slice AD p.nd cD]:=Ce.bo (cI.out.grown (gs 1 (.int .u8 p.life) (gs 0 (.int .u8 p.kind) (World.grownBy.refl w3 (some w2.heap.size)))) (fun e=>by injection e with e;omega))
  refine hK.out _ _ hH1 (fun _=>?_)
  clear hK
  (try simp only[Act.put,zA,zB,zC])
  refine ae 16 hH1 ?_
  refine only 17 rfl (by kernel_rfl) rfl (fun K hK=>?_)
  go_simp
  have hH2:Ce (((w3.setCell ⟨w2.heap.size,0,none⟩ (.int .u8 p.kind)).setCell ⟨w2.heap.size,1,none⟩ (.int .u8 p.life)).setCell ⟨w2.heap.size,12,none⟩ (.int .u8 p.piece)).drew w.heap.size [p.kind,p.life,p.piece,p.src,p.dst,p.fp,p.tp,p.flags,p.label,p.bare,p.code,.slice AO p.no cO,.slice AD p.nd cD]:=Ce.bo (cI.out.grown (gs 12 (.int .u8 p.piece) (gs 1 (.int .u8 p.life) (gs 0 (.int .u8 p.kind) (World.grownBy.refl w3 (some w2.heap.size))))) (fun e=>by injection e with e;omega))
  refine hK.out _ _ hH2 (fun _=>?_)
  clear hK
  (try simp only[Act.put,zA,zB,zC])
  refine wpAnyH_done (by kernel_rfl) ?_ _
  have vS:=hid (Ow.drew (OB.store (OB.store (OB.store HO.out 0 p.kind) 1 p.life) 12 p.piece))
  have HB:=hid ((HB2.out.trans (af (gs 12 (.int .u8 p.piece) (gs 1 (.int .u8 p.life) (gs 0 (.int .u8 p.kind) (World.grownBy.refl w3 (some w2.heap.size))))) (by omega) HB2.out.size)).drew)
  have HC:=hid hH2
  clear hH2 hH1 hH0 hHeld HO cI HB2 c0 c1 c12 f0 f1 f12
  have HO:=vS
  clear vS
  generalize (((w3.setCell ⟨w2.heap.size,0,none⟩ (.int .u8 p.kind)).setCell ⟨w2.heap.size,1,none⟩ (.int .u8 p.life)).setCell ⟨w2.heap.size,12,none⟩ (.int .u8 p.piece)).drew=w4 at *
  have J_:=fun W=>eP (G:=w2.heap.size) (n:=16) (c:=16) 4 4 (by omega) (Nat.le_refl _) (by omega) 4 8 8 rfl rfl rfl W
  have PH:=fun W=>eP (G:=w2.heap.size) (n:=16) (c:=16) 8 4 (by omega) (Nat.le_refl _) (by omega) 8 12 12 rfl rfl rfl W
  go_upto_region 6 with (fail)
  refine wp_region_held_drew (S:=fun w'=>Ce w' w.heap.size [p.kind,p.life,p.piece,p.src,p.dst,p.fp,p.tp,p.flags,p.label,p.bare,p.code,.slice AO p.no cO,.slice AD p.nd cD]) (by kernel_rfl) ?_ (fun hHeld=>?_)
  ·exact HC.out.bo
  refine ae 0 hHeld ?_
  refine ae 1 hHeld ?_
  refine ae 2 hHeld ?_
  refine ae 3 hHeld ?_ (hy:=by intro w hSw;(try dsimp only at hSw);have y:=hSw.2.1 3 _ rfl;go_simp;(try with_reducible rfl))
  refine only 4 rfl (by kernel_rfl) rfl (fun K hK=>?_)
  go_simp
  refine(dX (Ow.drew HO.out) 4 4 4 p.src (by omega) (by omega)).mono ?_
  rintro e' w5 ⟨rfl,hO,hg⟩
  try go_wp2_with fail
  refine hK.out _ _ (hHeld.grown hg (fun e=>by injection e with e;omega)) (fun _=>?_)
  have bQ:=hid hO
  have cI:=hid (hHeld.grown hg (fun e=>by injection e with e;omega))
  have HB2:=hid (HB.out.trans (af (fe hg) (by omega) HB.out.size))
  clear hK hHeld hO hg HO HC HB
  (try simp only[Act.put,zA,zB,zC])
  refine wpAnyH_done (by kernel_rfl) ?_ _
  have HO:=bQ
  have HC:=cI
  have HB:=HB2
  clear bQ cI HB2
  go_upto_region 7 with (fail)
  refine wp_region_held_drew (S:=fun w'=>Ce w' w.heap.size [p.kind,p.life,p.piece,p.src,p.dst,p.fp,p.tp,p.flags,p.label,p.bare,p.code,.slice AO p.no cO,.slice AD p.nd cD]) (by kernel_rfl) ?_ (fun hHeld=>?_)
  ·exact HC.out.bo
  refine ae 0 hHeld ?_
  refine ae 1 hHeld ?_
  refine ae 2 hHeld ?_
  refine ae 3 hHeld ?_ (hy:=by intro w hSw;(try dsimp only at hSw);have y:=hSw.2.1 4 _ rfl;go_simp;(try with_reducible rfl))
  refine only 4 rfl (by kernel_rfl) rfl (fun K hK=>?_)
  go_simp
  refine(dX (Ow.drew HO.out) 8 4 4 p.dst (by omega) (by omega)).mono ?_
  rintro e' w6 ⟨rfl,hO,hg⟩
  try go_wp2_with fail
  refine hK.out _ _ (hHeld.grown hg (fun e=>by injection e with e;omega)) (fun _=>?_)
  have bQ:=hid hO
  have cI:=hid (hHeld.grown hg (fun e=>by injection e with e;omega))
  have HB2:=hid (HB.out.trans (af (fe hg) (by omega) HB.out.size))
  clear hK hHeld hO hg HO HC HB
  (try simp only[Act.put,zA,zB,zC])
  refine wpAnyH_done (by kernel_rfl) ?_ _
  have HO:=bQ
  have HC:=cI
  have HB:=HB2
  clear bQ cI HB2
  clear J_ PH
  go_upto_region 8 with (fail)
  have y0:=HC.out.2.1 0 _ rfl
  have y1:=HC.out.2.1 1 _ rfl
  have y2:=HC.out.2.1 2 _ rfl
  have y3:=HC.out.2.1 3 _ rfl
  have y4:=HC.out.2.1 4 _ rfl
  have y5:=HC.out.2.1 5 _ rfl
  have y6:=HC.out.2.1 6 _ rfl
  have y7:=HC.out.2.1 7 _ rfl
  have y8:=HC.out.2.1 8 _ rfl
  have y9:=HC.out.2.1 9 _ rfl
  have al:=HC.out.2.1 10 _ rfl
  have ak:=HC.out.2.1 11 _ rfl
  have aj:=HC.out.2.1 12 _ rfl
  go_wp2_with fail
  refine(BO.out _ HB.out).mono ?_
  rintro e w7 ⟨A7,c7,rfl,o_,Q0,o5⟩
  clear y0 y1 y2 y3 y4 y5 y6 y7 y8 y9 al ak aj
  have bQ:=hid (HO.out.nR o5)
  have cI:=hid (HC.out.below o5)
  have HB2:=hid (HB.out.trans (o5.mono HB.out.size))
  have Mb:=hid o_.sl1
  have Lh:=gQ bQ.out (by omega)
  clear HO HC HB o_ o5 BO HOW oA
  go_upto_region 9 with (at_builtin;refine dM rfl (.tmp 38) (.tmp 40) rfl w2.heap.size _ 16 _ rfl bQ.out _ (aU p-16) _ (dq p) rfl Mb.out (by omega) Lh ?_;intro A8 c8 w8 h1 h2 h3 h4 h5 h6;have HO:=hid h1;have hc8:=h2;have HC:=hid (cI.out.below_ h4 lR);have HB:=hid (HB2.out.trans (h4.mono (by omega)));clear h1 h2 h3 h4 h5 h6)
  clear bQ cI HB2 Mb Lh
  obtain ⟨n,hn⟩:∃n,n=aU p:=⟨_,rfl⟩
  have HN:=hid hn
  rw[show 16+(aU p-16)=n from by omega]at *
  rw[←hn]at e5 e6
  clear hn
  obtain ⟨G,e,hB,hgs,hce,hfr⟩:=Ow.block_ HO.out (by omega)
  subst e
  clear hce hfr hgs
  have m_:w.heap.size≠G:=by omega
  have Ka:=fun W=>eP (G:=G) (n:=n) (c:=c8) 2 2 (by omega) hc8 (by omega) 2 4 4 rfl rfl rfl W
  go_wp2_with fail
  refine(dX HO.out 2 2 2 (n:Int) (by omega) (by omega)).mono ?_
  rintro e w9 ⟨rfl,hO,hg⟩
  have bQ:=hid (show OB w9 w2.heap.size (.slice (some ⟨G,0,none⟩) n c8) n (cj p) from by rw[←Hm p,←HN.out];exact hO)
  have cI:=hid (HC.out.grown hg (fun e=>m_ (by injection e with e;exact e.symm)))
  have HB2:=hid (HB.out.trans (af hg (by omega) HB.out.size))
  clear hO hg HO HC HB Ka
  go_upto_region 10 with (fail)
  have Nc:=fun W=>eP (G:=G) (n:=n) (c:=c8) 14 2 (by omega) hc8 (by omega) 14 16 16 rfl rfl rfl W
  have i16:(16:Int)≤c8:=by omega
  have OF:=hid (fun (W:World) (hW:By W (some ⟨G,0,none⟩) n (cj p)) c'=>va (some ⟨G,0,none⟩) 16 c' (cj p) W (hW.less (k:=16) (by omega)) RB.out (by omega))
  refine wp_region_held_drew (S:=fun _=>True) (by kernel_rfl) trivial (fun hHeld=>?_)
  refine ae 0 hHeld ?_
  refine ae 1 hHeld ?_
  refine ae 2 hHeld ?_
  refine ae 3 hHeld ?_
  refine only 4 rfl (by kernel_rfl) rfl (fun K hK=>?_)
  go_simp
  refine(OF.out _ (Ow.sl1 (Ow.drew bQ.out)) _).mono ?_
  rintro e' w' ⟨rfl,m,rfl⟩
  try go_wp2_with fail
  refine hK.out _ _ trivial (fun _=>?_)
  clear hK
  (try simp only[Act.put,zA,zB,zC])
  refine only 5 rfl (by kernel_rfl) rfl (fun K hK=>?_)
  go_simp
  refine(dX (Ow.drewN bQ.out (1+m)) 14 2 2 (65535-norm (tot (cj p) 16)) (by omega) (by omega)).mono ?_
  rintro e' ea ⟨rfl,hO,hg⟩
  try go_wp2_with fail
  refine hK.out _ _ trivial (fun _=>?_)
  have hg2:w9.grownBy ea (some G):=⟨hg.os,hg.tape,hg.output,hg.size,hg.block⟩
  have HO:=hid (show OB ea w2.heap.size (.slice (some ⟨G,0,none⟩) n c8) n (aZ p) from hO)
  have HC:=hid (cI.out.grown hg2 (fun e=>m_ (by injection e with e;exact e.symm)))
  have HB:=hid (HB2.out.trans (af hg2 (by omega) HB2.out.size))
  clear hK hO hg hg2 bQ cI HB2 Nc OF RB
  (try simp only[Act.put,zA,zB,zC])
  refine wpAnyH_done (by kernel_rfl) ?_ _
  have y0:=HC.out.2.1 0 _ rfl
  have y9:=HC.out.2.1 9 _ rfl
  cases k2:(p.kind != 2)
  ·have k2':p.kind=2:=by simpa using k2
   cases bb:p.bare
   ·have BN:=hid (show ¬(p.kind=2∧p.bare=true) from fun e=>by rw[bb]at e;exact absurd e.2 (by decide))
    replace k2':=hid k2'
    rw[bb]at y9
    exact qQE
   have BN:=hid (show p.kind=2∧p.bare=true from ⟨k2',bb⟩)
   replace k2':=hid k2'
   rw[bb]at y9
   go_wp2_with fail
   refine bodyPost_ret (v:=.tuple #[.slice (some ⟨G,0,none⟩) n c8,()]) (by simp[results,Tryz.results120,go_sem]) rfl ?_
   rw[HE.out,←HN.out,wO BN.out]
   exact⟨_,rfl,OB.base HO.out (by omega),HB.out⟩
  have BN:=hid (show ¬(p.kind=2∧p.bare=true) from fun e=>by have:=e.1;simp at k2;exact k2 this)
  exact qQE
 have HZ:=hid (show z≠0 from by simpa using z0)
 have HE:=hid hz
 clear hz
 go_enter Tryz.func120,Tryz.ntmps120
 go_upto_region 1 with (fail)
 generalize (w.alloc (.cells #[p.kind,p.life,p.piece,p.src,p.dst,p.fp,p.tp,p.flags,p.label,p.bare,p.code,.slice AO p.no cO,.slice AD p.nd cD] 53))=w1 at *
 have lP:w.heap.size<w1.heap.size:=CE.out.1
 have y0:=CE.out.2.1 0 _ rfl
 have y1:=CE.out.2.1 1 _ rfl
 have y2:=CE.out.2.1 2 _ rfl
 have y3:=CE.out.2.1 3 _ rfl
 have y4:=CE.out.2.1 4 _ rfl
 have y5:=CE.out.2.1 5 _ rfl
 have y6:=CE.out.2.1 6 _ rfl
 have y7:=CE.out.2.1 7 _ rfl
 have y8:=CE.out.2.1 8 _ rfl
 have y9:=CE.out.2.1 9 _ rfl
 have al:=CE.out.2.1 10 _ rfl
 have ak:=CE.out.2.1 11 _ rfl
 have aj:=CE.out.2.1 12 _ rfl
 go_wp2_with fail
 refine(CK.out _).mono ?_
 rintro e w2 ⟨rfl,hb⟩
 have HC:=hid (CE.out.below hb)
 have HB:=hid (B0.out.trans (hb.mono B0.out.size))
 have lw:w1.heap.size≤w2.heap.size:=hb.size
 clear hb CE B0 CK
 clear y0 y1 y2 y3 y4 y5 y6 y7 y8 y9 al ak aj
 go_wp2_with fail
 refine bodyPost_ret (v:=.tuple #[.slice none 0 0,z]) (by simp[results,Tryz.results120,go_sem]) rfl ?_
 rw[←HE.out]
 exact aV HZ.out HB.out
end Go.Proofs.YtalnfkijiehjhaaGreat
