/- May a packet be built? A packet's body. Build. -/
import Derived.Test.YtalnfkijiehjhaaGreatGa
import Derived.Test.YtalnfkijiehjhaaGreatGwc
import Derived.BigQuiet
import Derived.Deep.RegionHeld3
import Derived.Deep.Cut
namespace Go.Proofs.YtalnfkijiehjhaaGreat
open List renaming setIfInBounds_toArray→zA,set_cons_zero→zB,set_cons_succ→zC
set_option linter.unusedVariables false
set_option linter.unusedSimpArgs false
open Go.RowKit Go.ChangeShapes Go.WideShapes Go.ChangeAt
set_option maxHeartbeats 4000000 in
theorem xA (p:Pk)(AO:Option Addr)(cO:Nat)(AD:Option Addr)(cD:Nat)(w:World)(h1:p.no≤1000000)(h2:p.nd≤1000000) :
 Calls Tryz.prog 180 #[.agg #[p.kind,p.life,p.piece,p.src,p.dst,p.fp,p.tp,p.flags,p.label,p.bare,p.code,.slice AO p.no cO,.slice AD p.nd cD]] w fun e w'=>e =.returned (.int .i64 (aJ p:Int))∧Below w.heap.size w w':=by
 cases k3:(p.kind==3)
 ·cases k2:(p.kind==2)
  ·have HL:Hid ((aJ p:Int)=24+(p.no:Int)+p.nd):=hid (by unfold aJ;rw[if_neg (by simpa using k3),if_neg (by simpa using k2)];omega)
   go_enter Tryz.func180,Tryz.ntmps180
   go_wp2_with fail
   go_ret
   exact⟨a_ HL.out.symm,(Below.refl _ _).alloc (Nat.le_refl _) _⟩
  ·have HL:Hid ((aJ p:Int)=24+(p.nd:Int)):=hid (by unfold aJ;rw[if_neg (by simpa using k3),if_pos (by simpa using k2)];omega)
   go_enter Tryz.func180,Tryz.ntmps180
   go_wp2_with fail
   go_ret
   exact⟨a_ HL.out.symm,(Below.refl _ _).alloc (Nat.le_refl _) _⟩
 ·have HL:Hid ((aJ p:Int)=20+(p.nd:Int)):=hid (by unfold aJ;rw[if_pos (by simpa using k3)];omega)
  go_enter Tryz.func180,Tryz.ntmps180
  go_wp2_with fail
  go_ret
  exact⟨a_ HL.out.symm,(Below.refl _ _).alloc (Nat.le_refl _) _⟩
set_option maxHeartbeats 4000000 in
theorem ui (p:Pk)(AO:Option Addr)(cO:Nat)(AD:Option Addr)(cD:Nat)(w:World) :
 Calls Tryz.prog 179 #[.agg #[p.kind,p.life,p.piece,p.src,p.dst,p.fp,p.tp,p.flags,p.label,p.bare,p.code,.slice AO p.no cO,.slice AD p.nd cD]] w fun e w'=>e =.returned (.bool (bh p))∧Below w.heap.size w w':=by
 have bA:=hid (fun w=>dz p.life 255 w)
 have bu:=hid (fun w=>dz p.piece 255 w)
 have cE:=hid (fun w=>dz p.src 4294967295 w)
 have dh:=hid (fun w=>dz p.dst 4294967295 w)
 have iA:=hid (fun w=>dz p.code 255 w)
 have fB:=hid (fun w=>dz p.fp 65535 w)
 have fX:=hid (fun w=>dz p.tp 65535 w)
 have jk:=hid (fun w=>dz p.label 65535 w)
 have iI:=hid (fun w=>dz p.flags 15 w)
 cases bM:cn p.life 255
 ·rw[bM]at bA
  go_enter Tryz.func179,Tryz.ntmps179
  go_wp2_with fail
  refine(bA.out _).mono ?_
  rintro e w' ⟨rfl,rfl⟩
  go_wp2_with fail
  go_ret
  exact⟨cf (by unfold bh;simp[bM]),(Below.refl _ _).alloc (Nat.le_refl _) _⟩
 ·rw[bM]at bA
  cases bG:cn p.piece 255
  ·rw[bG]at bu
   go_enter Tryz.func179,Tryz.ntmps179
   go_wp2_with fail
   refine(bA.out _).mono ?_
   rintro e w' ⟨rfl,rfl⟩
   go_wp2_with fail
   refine(bu.out _).mono ?_
   rintro e w' ⟨rfl,rfl⟩
   go_wp2_with fail
   go_ret
   exact⟨cf (by unfold bh;simp[bM,bG]),(Below.refl _ _).alloc (Nat.le_refl _) _⟩
  ·rw[bG]at bu
   cases di:cn p.src 4294967295
   ·rw[di]at cE
    go_enter Tryz.func179,Tryz.ntmps179
    go_wp2_with fail
    refine(bA.out _).mono ?_
    rintro e w' ⟨rfl,rfl⟩
    go_wp2_with fail
    refine(bu.out _).mono ?_
    rintro e w' ⟨rfl,rfl⟩
    go_wp2_with fail
    refine(cE.out _).mono ?_
    rintro e w' ⟨rfl,rfl⟩
    go_wp2_with fail
    go_ret
    exact⟨cf (by unfold bh;simp[bM,bG,di]),(Below.refl _ _).alloc (Nat.le_refl _) _⟩
   ·rw[di]at cE
    cases dA:cn p.dst 4294967295
    ·rw[dA]at dh
     go_enter Tryz.func179,Tryz.ntmps179
     go_wp2_with fail
     refine(bA.out _).mono ?_
     rintro e w' ⟨rfl,rfl⟩
     go_wp2_with fail
     refine(bu.out _).mono ?_
     rintro e w' ⟨rfl,rfl⟩
     go_wp2_with fail
     refine(cE.out _).mono ?_
     rintro e w' ⟨rfl,rfl⟩
     go_wp2_with fail
     refine(dh.out _).mono ?_
     rintro e w' ⟨rfl,rfl⟩
     go_wp2_with fail
     go_ret
     exact⟨cf (by unfold bh;simp[bM,bG,di,dA]),(Below.refl _ _).alloc (Nat.le_refl _) _⟩
    ·rw[dA]at dh
     cases k3:(p.kind==3)
     ·have n3:¬p.kind=3:=by simpa using k3
      cases fU:cn p.fp 65535
      ·rw[fU]at fB
       go_enter Tryz.func179,Tryz.ntmps179
       go_wp2_with fail
       refine(bA.out _).mono ?_
       rintro e w' ⟨rfl,rfl⟩
       go_wp2_with fail
       refine(bu.out _).mono ?_
       rintro e w' ⟨rfl,rfl⟩
       go_wp2_with fail
       refine(cE.out _).mono ?_
       rintro e w' ⟨rfl,rfl⟩
       go_wp2_with fail
       refine(dh.out _).mono ?_
       rintro e w' ⟨rfl,rfl⟩
       go_wp2_with fail
       refine(fB.out _).mono ?_
       rintro e w' ⟨rfl,rfl⟩
       go_wp2_with fail
       go_ret
       exact⟨cf (by unfold bh;simp[n3,bM,bG,di,dA,fU]),(Below.refl _ _).alloc (Nat.le_refl _) _⟩
      ·rw[fU]at fB
       cases gT:cn p.tp 65535
       ·rw[gT]at fX
        go_enter Tryz.func179,Tryz.ntmps179
        go_wp2_with fail
        refine(bA.out _).mono ?_
        rintro e w' ⟨rfl,rfl⟩
        go_wp2_with fail
        refine(bu.out _).mono ?_
        rintro e w' ⟨rfl,rfl⟩
        go_wp2_with fail
        refine(cE.out _).mono ?_
        rintro e w' ⟨rfl,rfl⟩
        go_wp2_with fail
        refine(dh.out _).mono ?_
        rintro e w' ⟨rfl,rfl⟩
        go_wp2_with fail
        refine(fB.out _).mono ?_
        rintro e w' ⟨rfl,rfl⟩
        go_wp2_with fail
        refine(fX.out _).mono ?_
        rintro e w' ⟨rfl,rfl⟩
        go_wp2_with fail
        go_ret
        exact⟨cf (by unfold bh;simp[n3,bM,bG,di,dA,fU,gT]),(Below.refl _ _).alloc (Nat.le_refl _) _⟩
       ·rw[gT]at fX
        cases k2:(p.kind==2)
        ·have n2:¬p.kind=2:=by simpa using k2
         go_enter Tryz.func179,Tryz.ntmps179
         go_wp2_with fail
         refine(bA.out _).mono ?_
         rintro e w' ⟨rfl,rfl⟩
         go_wp2_with fail
         refine(bu.out _).mono ?_
         rintro e w' ⟨rfl,rfl⟩
         go_wp2_with fail
         refine(cE.out _).mono ?_
         rintro e w' ⟨rfl,rfl⟩
         go_wp2_with fail
         refine(dh.out _).mono ?_
         rintro e w' ⟨rfl,rfl⟩
         go_wp2_with fail
         refine(fB.out _).mono ?_
         rintro e w' ⟨rfl,rfl⟩
         go_wp2_with fail
         refine(fX.out _).mono ?_
         rintro e w' ⟨rfl,rfl⟩
         go_wp2_with fail
         refine(iI.out _).mono ?_
         rintro e w' ⟨rfl,rfl⟩
         go_wp2_with fail
         go_ret
         exact⟨cf (by unfold bh;simp[n3,n2,bM,bG,di,dA,fU,gT]),(Below.refl _ _).alloc (Nat.le_refl _) _⟩
        ·have n2:Hid (p.kind=2):=hid (by simpa using k2)
         go_enter Tryz.func179,Tryz.ntmps179
         go_wp2_with fail
         refine(bA.out _).mono ?_
         rintro e w' ⟨rfl,rfl⟩
         go_wp2_with fail
         refine(bu.out _).mono ?_
         rintro e w' ⟨rfl,rfl⟩
         go_wp2_with fail
         refine(cE.out _).mono ?_
         rintro e w' ⟨rfl,rfl⟩
         go_wp2_with fail
         refine(dh.out _).mono ?_
         rintro e w' ⟨rfl,rfl⟩
         go_wp2_with fail
         refine(fB.out _).mono ?_
         rintro e w' ⟨rfl,rfl⟩
         go_wp2_with fail
         refine(fX.out _).mono ?_
         rintro e w' ⟨rfl,rfl⟩
         go_wp2_with fail
         refine(jk.out _).mono ?_
         rintro e w' ⟨rfl,rfl⟩
         go_wp2_with fail
         go_ret
         exact⟨cf (by unfold bh;simp[n2.out,bM,bG,di,dA,fU,gT]),(Below.refl _ _).alloc (Nat.le_refl _) _⟩
     ·have n3:Hid (p.kind=3):=hid (by simpa using k3)
      go_enter Tryz.func179,Tryz.ntmps179
      go_wp2_with fail
      refine(bA.out _).mono ?_
      rintro e w' ⟨rfl,rfl⟩
      go_wp2_with fail
      refine(bu.out _).mono ?_
      rintro e w' ⟨rfl,rfl⟩
      go_wp2_with fail
      refine(cE.out _).mono ?_
      rintro e w' ⟨rfl,rfl⟩
      go_wp2_with fail
      refine(dh.out _).mono ?_
      rintro e w' ⟨rfl,rfl⟩
      go_wp2_with fail
      refine(iA.out _).mono ?_
      rintro e w' ⟨rfl,rfl⟩
      go_wp2_with fail
      go_ret
      exact⟨cf (by unfold bh;simp[n3.out,bM,bG,di,dA]),(Below.refl _ _).alloc (Nat.le_refl _) _⟩
set_option maxHeartbeats 4000000 in
theorem xM (p:Pk)(AO:Option Addr)(cO:Nat)(AD:Option Addr)(cD:Nat)(w:World)(h1:p.no≤1000000)(h2:p.nd≤1000000) :
 Calls Tryz.prog 149 #[.agg #[p.kind,p.life,p.piece,p.src,p.dst,p.fp,p.tp,p.flags,p.label,p.bare,p.code,.slice AO p.no cO,.slice AD p.nd cD]] w fun e w'=>e =.returned (.int .i64 (aC p))∧Below w.heap.size w w':=by
 have IK:=hid (fun w=>q_ p.kind w)
 have IB:=hid (fun w=>ui p AO cO AD cD w)
 have LE:=hid (fun w=>xA p AO cO AD cD w h1 h2)
 have CE:=hid (Ce.made (w:=w) (l:=[p.kind,p.life,p.piece,p.src,p.dst,p.fp,p.tp,p.flags,p.label,p.bare,p.code,.slice AO p.no cO,.slice AD p.nd cD]) (T:=53) (g:=w.heap.size) rfl)
 have B0:=hid ((Below.refl w.heap.size w).alloc (Nat.le_refl _) (.cells #[p.kind,p.life,p.piece,p.src,p.dst,p.fp,p.tp,p.flags,p.label,p.bare,p.code,.slice AO p.no cO,.slice AD p.nd cD] 53))
 simp only[List.toArray]at CE
 cases bk:isK p.kind
 ·rw[bk]at IK
  go_enter Tryz.func149,Tryz.ntmps149
  go_upto_region 1 with (fail)
  generalize (w.alloc (.cells #[p.kind,p.life,p.piece,p.src,p.dst,p.fp,p.tp,p.flags,p.label,p.bare,p.code,.slice AO p.no cO,.slice AD p.nd cD] 53))=w1 at *
  have y0:=CE.out.2.1 0 _ rfl
  have y1:=CE.out.2.1 1 _ rfl
  have y2:=CE.out.2.1 2 _ rfl
  have y3:=CE.out.2.1 3 _ rfl
  have y4:=CE.out.2.1 4 _ rfl
  have y5:=CE.out.2.1 5 _ rfl
  have y6:=CE.out.2.1 6 _ rfl
  have y7:=CE.out.2.1 7 _ rfl
  have y8:=CE.out.2.1 8 _ rfl
  have y9:=CE.out.2.1 9 _ rfl
  have au:=CE.out.2.1 10 _ rfl
  have ao:=CE.out.2.1 11 _ rfl
  have al:=CE.out.2.1 12 _ rfl
  go_wp2_with fail
  refine(IK.out _).mono ?_
  rintro e w' ⟨rfl,rfl⟩
  go_wp2_with fail
  go_ret
  exact⟨a_ (show (2:Int)=aC p from by unfold aC;rw[if_pos bk]),B0.out⟩
 ·rw[bk]at IK
  cases br:bh p
  ·rw[br]at IB
   go_enter Tryz.func149,Tryz.ntmps149
   go_upto_region 1 with (fail)
   generalize (w.alloc (.cells #[p.kind,p.life,p.piece,p.src,p.dst,p.fp,p.tp,p.flags,p.label,p.bare,p.code,.slice AO p.no cO,.slice AD p.nd cD] 53))=w1 at *
   have y0:=CE.out.2.1 0 _ rfl
   have y1:=CE.out.2.1 1 _ rfl
   have y2:=CE.out.2.1 2 _ rfl
   have y3:=CE.out.2.1 3 _ rfl
   have y4:=CE.out.2.1 4 _ rfl
   have y5:=CE.out.2.1 5 _ rfl
   have y6:=CE.out.2.1 6 _ rfl
   have y7:=CE.out.2.1 7 _ rfl
   have y8:=CE.out.2.1 8 _ rfl
   have y9:=CE.out.2.1 9 _ rfl
   have au:=CE.out.2.1 10 _ rfl
   have ao:=CE.out.2.1 11 _ rfl
   have al:=CE.out.2.1 12 _ rfl
   go_wp2_with fail
   refine(IK.out _).mono ?_
   rintro e w' ⟨rfl,rfl⟩
   go_wp2_with fail
   refine(IB.out _).mono ?_
   rintro e w2 ⟨rfl,hb⟩
   have aG:=hid (CE.out.below hb)
   have B2:=hid (B0.out.trans (hb.mono B0.out.size))
   clear y0 y1 y2 y3 y4 y5 y6 y7 y8 y9 au ao al hb CE
   have y0:=aG.out.2.1 0 _ rfl
   have y1:=aG.out.2.1 1 _ rfl
   have y2:=aG.out.2.1 2 _ rfl
   have y3:=aG.out.2.1 3 _ rfl
   have y4:=aG.out.2.1 4 _ rfl
   have y5:=aG.out.2.1 5 _ rfl
   have y6:=aG.out.2.1 6 _ rfl
   have y7:=aG.out.2.1 7 _ rfl
   have y8:=aG.out.2.1 8 _ rfl
   have y9:=aG.out.2.1 9 _ rfl
   have au:=aG.out.2.1 10 _ rfl
   have ao:=aG.out.2.1 11 _ rfl
   have al:=aG.out.2.1 12 _ rfl
   go_wp2_with fail
   go_ret
   exact⟨a_ (show (14:Int)=aC p from by unfold aC;rw[if_neg (by rw[bk];decide)];rw[if_pos br]),B2.out⟩
  ·rw[br]at IB
   cases k1:(p.kind==1)
   ·have n5:¬(p.kind=1∧40<p.no):=fun e=>by have:=e.1;simp at k1;exact k1 this
    replace n5:=hid n5
    cases k3:(p.kind==3)
    ·have n3:¬p.kind=3:=by simpa using k3
     have N3:=hid (show ¬(p.kind=3∧p.nd<24) from fun e=>n3 e.1)
     cases od:decide ((1500:Int)<(aJ p:Int))
     ·go_enter Tryz.func149,Tryz.ntmps149
      go_upto_region 1 with (fail)
      generalize (w.alloc (.cells #[p.kind,p.life,p.piece,p.src,p.dst,p.fp,p.tp,p.flags,p.label,p.bare,p.code,.slice AO p.no cO,.slice AD p.nd cD] 53))=w1 at *
      have y0:=CE.out.2.1 0 _ rfl
      have y1:=CE.out.2.1 1 _ rfl
      have y2:=CE.out.2.1 2 _ rfl
      have y3:=CE.out.2.1 3 _ rfl
      have y4:=CE.out.2.1 4 _ rfl
      have y5:=CE.out.2.1 5 _ rfl
      have y6:=CE.out.2.1 6 _ rfl
      have y7:=CE.out.2.1 7 _ rfl
      have y8:=CE.out.2.1 8 _ rfl
      have y9:=CE.out.2.1 9 _ rfl
      have au:=CE.out.2.1 10 _ rfl
      have ao:=CE.out.2.1 11 _ rfl
      have al:=CE.out.2.1 12 _ rfl
      go_wp2_with fail
      refine(IK.out _).mono ?_
      rintro e w' ⟨rfl,rfl⟩
      go_wp2_with fail
      refine(IB.out _).mono ?_
      rintro e w2 ⟨rfl,hb⟩
      have aG:=hid (CE.out.below hb)
      have B2:=hid (B0.out.trans (hb.mono B0.out.size))
      clear y0 y1 y2 y3 y4 y5 y6 y7 y8 y9 au ao al hb CE
      have y0:=aG.out.2.1 0 _ rfl
      have y1:=aG.out.2.1 1 _ rfl
      have y2:=aG.out.2.1 2 _ rfl
      have y3:=aG.out.2.1 3 _ rfl
      have y4:=aG.out.2.1 4 _ rfl
      have y5:=aG.out.2.1 5 _ rfl
      have y6:=aG.out.2.1 6 _ rfl
      have y7:=aG.out.2.1 7 _ rfl
      have y8:=aG.out.2.1 8 _ rfl
      have y9:=aG.out.2.1 9 _ rfl
      have au:=aG.out.2.1 10 _ rfl
      have ao:=aG.out.2.1 11 _ rfl
      have al:=aG.out.2.1 12 _ rfl
      go_wp2_with fail
      refine(LE.out _).mono ?_
      rintro e w3 ⟨rfl,hb⟩
      have B3:=hid (B2.out.trans (hb.mono B2.out.size))
      clear y0 y1 y2 y3 y4 y5 y6 y7 y8 y9 au ao al hb
      go_wp2_with fail
      go_ret
      exact⟨a_ (show (0:Int)=aC p from by unfold aC;rw[if_neg (by rw[bk];decide)];rw[if_neg (by rw[br];decide)];rw[if_neg n5.out,if_neg (by rintro (e |e);(exact N3.out e);(simp at od;omega))]),B3.out⟩
     ·go_enter Tryz.func149,Tryz.ntmps149
      go_upto_region 1 with (fail)
      generalize (w.alloc (.cells #[p.kind,p.life,p.piece,p.src,p.dst,p.fp,p.tp,p.flags,p.label,p.bare,p.code,.slice AO p.no cO,.slice AD p.nd cD] 53))=w1 at *
      have y0:=CE.out.2.1 0 _ rfl
      have y1:=CE.out.2.1 1 _ rfl
      have y2:=CE.out.2.1 2 _ rfl
      have y3:=CE.out.2.1 3 _ rfl
      have y4:=CE.out.2.1 4 _ rfl
      have y5:=CE.out.2.1 5 _ rfl
      have y6:=CE.out.2.1 6 _ rfl
      have y7:=CE.out.2.1 7 _ rfl
      have y8:=CE.out.2.1 8 _ rfl
      have y9:=CE.out.2.1 9 _ rfl
      have au:=CE.out.2.1 10 _ rfl
      have ao:=CE.out.2.1 11 _ rfl
      have al:=CE.out.2.1 12 _ rfl
      go_wp2_with fail
      refine(IK.out _).mono ?_
      rintro e w' ⟨rfl,rfl⟩
      go_wp2_with fail
      refine(IB.out _).mono ?_
      rintro e w2 ⟨rfl,hb⟩
      have aG:=hid (CE.out.below hb)
      have B2:=hid (B0.out.trans (hb.mono B0.out.size))
      clear y0 y1 y2 y3 y4 y5 y6 y7 y8 y9 au ao al hb CE
      have y0:=aG.out.2.1 0 _ rfl
      have y1:=aG.out.2.1 1 _ rfl
      have y2:=aG.out.2.1 2 _ rfl
      have y3:=aG.out.2.1 3 _ rfl
      have y4:=aG.out.2.1 4 _ rfl
      have y5:=aG.out.2.1 5 _ rfl
      have y6:=aG.out.2.1 6 _ rfl
      have y7:=aG.out.2.1 7 _ rfl
      have y8:=aG.out.2.1 8 _ rfl
      have y9:=aG.out.2.1 9 _ rfl
      have au:=aG.out.2.1 10 _ rfl
      have ao:=aG.out.2.1 11 _ rfl
      have al:=aG.out.2.1 12 _ rfl
      go_wp2_with fail
      refine(LE.out _).mono ?_
      rintro e w3 ⟨rfl,hb⟩
      have B3:=hid (B2.out.trans (hb.mono B2.out.size))
      clear y0 y1 y2 y3 y4 y5 y6 y7 y8 y9 au ao al hb
      go_wp2_with fail
      go_ret
      exact⟨a_ (show (3:Int)=aC p from by unfold aC;rw[if_neg (by rw[bk];decide)];rw[if_neg (by rw[br];decide)];rw[if_neg n5.out,if_pos (.inr (by simp at od;omega))]),B3.out⟩
    ·have n3:Hid (p.kind=3):=hid (by simpa using k3)
     cases sI:decide ((p.nd:Int)<24)
     ·have N3:=hid (show ¬(p.kind=3∧p.nd<24) from fun e=>by have:=e.2;simp at sI;omega)
      cases od:decide ((1500:Int)<(aJ p:Int))
      ·go_enter Tryz.func149,Tryz.ntmps149
       go_upto_region 1 with (fail)
       generalize (w.alloc (.cells #[p.kind,p.life,p.piece,p.src,p.dst,p.fp,p.tp,p.flags,p.label,p.bare,p.code,.slice AO p.no cO,.slice AD p.nd cD] 53))=w1 at *
       have y0:=CE.out.2.1 0 _ rfl
       have y1:=CE.out.2.1 1 _ rfl
       have y2:=CE.out.2.1 2 _ rfl
       have y3:=CE.out.2.1 3 _ rfl
       have y4:=CE.out.2.1 4 _ rfl
       have y5:=CE.out.2.1 5 _ rfl
       have y6:=CE.out.2.1 6 _ rfl
       have y7:=CE.out.2.1 7 _ rfl
       have y8:=CE.out.2.1 8 _ rfl
       have y9:=CE.out.2.1 9 _ rfl
       have au:=CE.out.2.1 10 _ rfl
       have ao:=CE.out.2.1 11 _ rfl
       have al:=CE.out.2.1 12 _ rfl
       go_wp2_with fail
       refine(IK.out _).mono ?_
       rintro e w' ⟨rfl,rfl⟩
       go_wp2_with fail
       refine(IB.out _).mono ?_
       rintro e w2 ⟨rfl,hb⟩
       have aG:=hid (CE.out.below hb)
       have B2:=hid (B0.out.trans (hb.mono B0.out.size))
       clear y0 y1 y2 y3 y4 y5 y6 y7 y8 y9 au ao al hb CE
       have y0:=aG.out.2.1 0 _ rfl
       have y1:=aG.out.2.1 1 _ rfl
       have y2:=aG.out.2.1 2 _ rfl
       have y3:=aG.out.2.1 3 _ rfl
       have y4:=aG.out.2.1 4 _ rfl
       have y5:=aG.out.2.1 5 _ rfl
       have y6:=aG.out.2.1 6 _ rfl
       have y7:=aG.out.2.1 7 _ rfl
       have y8:=aG.out.2.1 8 _ rfl
       have y9:=aG.out.2.1 9 _ rfl
       have au:=aG.out.2.1 10 _ rfl
       have ao:=aG.out.2.1 11 _ rfl
       have al:=aG.out.2.1 12 _ rfl
       go_wp2_with fail
       refine(LE.out _).mono ?_
       rintro e w3 ⟨rfl,hb⟩
       have B3:=hid (B2.out.trans (hb.mono B2.out.size))
       clear y0 y1 y2 y3 y4 y5 y6 y7 y8 y9 au ao al hb
       go_wp2_with fail
       go_ret
       exact⟨a_ (show (0:Int)=aC p from by unfold aC;rw[if_neg (by rw[bk];decide)];rw[if_neg (by rw[br];decide)];rw[if_neg n5.out,if_neg (by rintro (e |e);(exact N3.out e);(simp at od;omega))]),B3.out⟩
      ·go_enter Tryz.func149,Tryz.ntmps149
       go_upto_region 1 with (fail)
       generalize (w.alloc (.cells #[p.kind,p.life,p.piece,p.src,p.dst,p.fp,p.tp,p.flags,p.label,p.bare,p.code,.slice AO p.no cO,.slice AD p.nd cD] 53))=w1 at *
       have y0:=CE.out.2.1 0 _ rfl
       have y1:=CE.out.2.1 1 _ rfl
       have y2:=CE.out.2.1 2 _ rfl
       have y3:=CE.out.2.1 3 _ rfl
       have y4:=CE.out.2.1 4 _ rfl
       have y5:=CE.out.2.1 5 _ rfl
       have y6:=CE.out.2.1 6 _ rfl
       have y7:=CE.out.2.1 7 _ rfl
       have y8:=CE.out.2.1 8 _ rfl
       have y9:=CE.out.2.1 9 _ rfl
       have au:=CE.out.2.1 10 _ rfl
       have ao:=CE.out.2.1 11 _ rfl
       have al:=CE.out.2.1 12 _ rfl
       go_wp2_with fail
       refine(IK.out _).mono ?_
       rintro e w' ⟨rfl,rfl⟩
       go_wp2_with fail
       refine(IB.out _).mono ?_
       rintro e w2 ⟨rfl,hb⟩
       have aG:=hid (CE.out.below hb)
       have B2:=hid (B0.out.trans (hb.mono B0.out.size))
       clear y0 y1 y2 y3 y4 y5 y6 y7 y8 y9 au ao al hb CE
       have y0:=aG.out.2.1 0 _ rfl
       have y1:=aG.out.2.1 1 _ rfl
       have y2:=aG.out.2.1 2 _ rfl
       have y3:=aG.out.2.1 3 _ rfl
       have y4:=aG.out.2.1 4 _ rfl
       have y5:=aG.out.2.1 5 _ rfl
       have y6:=aG.out.2.1 6 _ rfl
       have y7:=aG.out.2.1 7 _ rfl
       have y8:=aG.out.2.1 8 _ rfl
       have y9:=aG.out.2.1 9 _ rfl
       have au:=aG.out.2.1 10 _ rfl
       have ao:=aG.out.2.1 11 _ rfl
       have al:=aG.out.2.1 12 _ rfl
       go_wp2_with fail
       refine(LE.out _).mono ?_
       rintro e w3 ⟨rfl,hb⟩
       have B3:=hid (B2.out.trans (hb.mono B2.out.size))
       clear y0 y1 y2 y3 y4 y5 y6 y7 y8 y9 au ao al hb
       go_wp2_with fail
       go_ret
       exact⟨a_ (show (3:Int)=aC p from by unfold aC;rw[if_neg (by rw[bk];decide)];rw[if_neg (by rw[br];decide)];rw[if_neg n5.out,if_pos (.inr (by simp at od;omega))]),B3.out⟩
     ·go_enter Tryz.func149,Tryz.ntmps149
      go_upto_region 1 with (fail)
      generalize (w.alloc (.cells #[p.kind,p.life,p.piece,p.src,p.dst,p.fp,p.tp,p.flags,p.label,p.bare,p.code,.slice AO p.no cO,.slice AD p.nd cD] 53))=w1 at *
      have y0:=CE.out.2.1 0 _ rfl
      have y1:=CE.out.2.1 1 _ rfl
      have y2:=CE.out.2.1 2 _ rfl
      have y3:=CE.out.2.1 3 _ rfl
      have y4:=CE.out.2.1 4 _ rfl
      have y5:=CE.out.2.1 5 _ rfl
      have y6:=CE.out.2.1 6 _ rfl
      have y7:=CE.out.2.1 7 _ rfl
      have y8:=CE.out.2.1 8 _ rfl
      have y9:=CE.out.2.1 9 _ rfl
      have au:=CE.out.2.1 10 _ rfl
      have ao:=CE.out.2.1 11 _ rfl
      have al:=CE.out.2.1 12 _ rfl
      go_wp2_with fail
      refine(IK.out _).mono ?_
      rintro e w' ⟨rfl,rfl⟩
      go_wp2_with fail
      refine(IB.out _).mono ?_
      rintro e w2 ⟨rfl,hb⟩
      have aG:=hid (CE.out.below hb)
      have B2:=hid (B0.out.trans (hb.mono B0.out.size))
      clear y0 y1 y2 y3 y4 y5 y6 y7 y8 y9 au ao al hb CE
      have y0:=aG.out.2.1 0 _ rfl
      have y1:=aG.out.2.1 1 _ rfl
      have y2:=aG.out.2.1 2 _ rfl
      have y3:=aG.out.2.1 3 _ rfl
      have y4:=aG.out.2.1 4 _ rfl
      have y5:=aG.out.2.1 5 _ rfl
      have y6:=aG.out.2.1 6 _ rfl
      have y7:=aG.out.2.1 7 _ rfl
      have y8:=aG.out.2.1 8 _ rfl
      have y9:=aG.out.2.1 9 _ rfl
      have au:=aG.out.2.1 10 _ rfl
      have ao:=aG.out.2.1 11 _ rfl
      have al:=aG.out.2.1 12 _ rfl
      go_wp2_with fail
      go_ret
      exact⟨a_ (show (3:Int)=aC p from by unfold aC;rw[if_neg (by rw[bk];decide)];rw[if_neg (by rw[br];decide)];rw[if_neg n5.out,if_pos (.inl ⟨n3.out,by simp at sI;omega⟩)]),B2.out⟩
   ·have n1:Hid (p.kind=1):=hid (by simpa using k1)
    cases zT:decide ((40:Int)<(p.no:Int))
    ·have n5:¬(p.kind=1∧40<p.no):=fun e=>by have:=e.2;simp at zT;omega
     replace n5:=hid n5
     cases k3:(p.kind==3)
     ·have n3:¬p.kind=3:=by simpa using k3
      have N3:=hid (show ¬(p.kind=3∧p.nd<24) from fun e=>n3 e.1)
      cases od:decide ((1500:Int)<(aJ p:Int))
      ·go_enter Tryz.func149,Tryz.ntmps149
       go_upto_region 1 with (fail)
       generalize (w.alloc (.cells #[p.kind,p.life,p.piece,p.src,p.dst,p.fp,p.tp,p.flags,p.label,p.bare,p.code,.slice AO p.no cO,.slice AD p.nd cD] 53))=w1 at *
       have y0:=CE.out.2.1 0 _ rfl
       have y1:=CE.out.2.1 1 _ rfl
       have y2:=CE.out.2.1 2 _ rfl
       have y3:=CE.out.2.1 3 _ rfl
       have y4:=CE.out.2.1 4 _ rfl
       have y5:=CE.out.2.1 5 _ rfl
       have y6:=CE.out.2.1 6 _ rfl
       have y7:=CE.out.2.1 7 _ rfl
       have y8:=CE.out.2.1 8 _ rfl
       have y9:=CE.out.2.1 9 _ rfl
       have au:=CE.out.2.1 10 _ rfl
       have ao:=CE.out.2.1 11 _ rfl
       have al:=CE.out.2.1 12 _ rfl
       go_wp2_with fail
       refine(IK.out _).mono ?_
       rintro e w' ⟨rfl,rfl⟩
       go_wp2_with fail
       refine(IB.out _).mono ?_
       rintro e w2 ⟨rfl,hb⟩
       have aG:=hid (CE.out.below hb)
       have B2:=hid (B0.out.trans (hb.mono B0.out.size))
       clear y0 y1 y2 y3 y4 y5 y6 y7 y8 y9 au ao al hb CE
       have y0:=aG.out.2.1 0 _ rfl
       have y1:=aG.out.2.1 1 _ rfl
       have y2:=aG.out.2.1 2 _ rfl
       have y3:=aG.out.2.1 3 _ rfl
       have y4:=aG.out.2.1 4 _ rfl
       have y5:=aG.out.2.1 5 _ rfl
       have y6:=aG.out.2.1 6 _ rfl
       have y7:=aG.out.2.1 7 _ rfl
       have y8:=aG.out.2.1 8 _ rfl
       have y9:=aG.out.2.1 9 _ rfl
       have au:=aG.out.2.1 10 _ rfl
       have ao:=aG.out.2.1 11 _ rfl
       have al:=aG.out.2.1 12 _ rfl
       go_wp2_with fail
       refine(LE.out _).mono ?_
       rintro e w3 ⟨rfl,hb⟩
       have B3:=hid (B2.out.trans (hb.mono B2.out.size))
       clear y0 y1 y2 y3 y4 y5 y6 y7 y8 y9 au ao al hb
       go_wp2_with fail
       go_ret
       exact⟨a_ (show (0:Int)=aC p from by unfold aC;rw[if_neg (by rw[bk];decide)];rw[if_neg (by rw[br];decide)];rw[if_neg n5.out,if_neg (by rintro (e |e);(exact N3.out e);(simp at od;omega))]),B3.out⟩
      ·go_enter Tryz.func149,Tryz.ntmps149
       go_upto_region 1 with (fail)
       generalize (w.alloc (.cells #[p.kind,p.life,p.piece,p.src,p.dst,p.fp,p.tp,p.flags,p.label,p.bare,p.code,.slice AO p.no cO,.slice AD p.nd cD] 53))=w1 at *
       have y0:=CE.out.2.1 0 _ rfl
       have y1:=CE.out.2.1 1 _ rfl
       have y2:=CE.out.2.1 2 _ rfl
       have y3:=CE.out.2.1 3 _ rfl
       have y4:=CE.out.2.1 4 _ rfl
       have y5:=CE.out.2.1 5 _ rfl
       have y6:=CE.out.2.1 6 _ rfl
       have y7:=CE.out.2.1 7 _ rfl
       have y8:=CE.out.2.1 8 _ rfl
       have y9:=CE.out.2.1 9 _ rfl
       have au:=CE.out.2.1 10 _ rfl
       have ao:=CE.out.2.1 11 _ rfl
       have al:=CE.out.2.1 12 _ rfl
       go_wp2_with fail
       refine(IK.out _).mono ?_
       rintro e w' ⟨rfl,rfl⟩
       go_wp2_with fail
       refine(IB.out _).mono ?_
       rintro e w2 ⟨rfl,hb⟩
       have aG:=hid (CE.out.below hb)
       have B2:=hid (B0.out.trans (hb.mono B0.out.size))
       clear y0 y1 y2 y3 y4 y5 y6 y7 y8 y9 au ao al hb CE
       have y0:=aG.out.2.1 0 _ rfl
       have y1:=aG.out.2.1 1 _ rfl
       have y2:=aG.out.2.1 2 _ rfl
       have y3:=aG.out.2.1 3 _ rfl
       have y4:=aG.out.2.1 4 _ rfl
       have y5:=aG.out.2.1 5 _ rfl
       have y6:=aG.out.2.1 6 _ rfl
       have y7:=aG.out.2.1 7 _ rfl
       have y8:=aG.out.2.1 8 _ rfl
       have y9:=aG.out.2.1 9 _ rfl
       have au:=aG.out.2.1 10 _ rfl
       have ao:=aG.out.2.1 11 _ rfl
       have al:=aG.out.2.1 12 _ rfl
       go_wp2_with fail
       refine(LE.out _).mono ?_
       rintro e w3 ⟨rfl,hb⟩
       have B3:=hid (B2.out.trans (hb.mono B2.out.size))
       clear y0 y1 y2 y3 y4 y5 y6 y7 y8 y9 au ao al hb
       go_wp2_with fail
       go_ret
       exact⟨a_ (show (3:Int)=aC p from by unfold aC;rw[if_neg (by rw[bk];decide)];rw[if_neg (by rw[br];decide)];rw[if_neg n5.out,if_pos (.inr (by simp at od;omega))]),B3.out⟩
     ·have n3:Hid (p.kind=3):=hid (by simpa using k3)
      cases sI:decide ((p.nd:Int)<24)
      ·have N3:=hid (show ¬(p.kind=3∧p.nd<24) from fun e=>by have:=e.2;simp at sI;omega)
       cases od:decide ((1500:Int)<(aJ p:Int))
       ·go_enter Tryz.func149,Tryz.ntmps149
        go_upto_region 1 with (fail)
        generalize (w.alloc (.cells #[p.kind,p.life,p.piece,p.src,p.dst,p.fp,p.tp,p.flags,p.label,p.bare,p.code,.slice AO p.no cO,.slice AD p.nd cD] 53))=w1 at *
        have y0:=CE.out.2.1 0 _ rfl
        have y1:=CE.out.2.1 1 _ rfl
        have y2:=CE.out.2.1 2 _ rfl
        have y3:=CE.out.2.1 3 _ rfl
        have y4:=CE.out.2.1 4 _ rfl
        have y5:=CE.out.2.1 5 _ rfl
        have y6:=CE.out.2.1 6 _ rfl
        have y7:=CE.out.2.1 7 _ rfl
        have y8:=CE.out.2.1 8 _ rfl
        have y9:=CE.out.2.1 9 _ rfl
        have au:=CE.out.2.1 10 _ rfl
        have ao:=CE.out.2.1 11 _ rfl
        have al:=CE.out.2.1 12 _ rfl
        go_wp2_with fail
        refine(IK.out _).mono ?_
        rintro e w' ⟨rfl,rfl⟩
        go_wp2_with fail
        refine(IB.out _).mono ?_
        rintro e w2 ⟨rfl,hb⟩
        have aG:=hid (CE.out.below hb)
        have B2:=hid (B0.out.trans (hb.mono B0.out.size))
        clear y0 y1 y2 y3 y4 y5 y6 y7 y8 y9 au ao al hb CE
        have y0:=aG.out.2.1 0 _ rfl
        have y1:=aG.out.2.1 1 _ rfl
        have y2:=aG.out.2.1 2 _ rfl
        have y3:=aG.out.2.1 3 _ rfl
        have y4:=aG.out.2.1 4 _ rfl
        have y5:=aG.out.2.1 5 _ rfl
        have y6:=aG.out.2.1 6 _ rfl
        have y7:=aG.out.2.1 7 _ rfl
        have y8:=aG.out.2.1 8 _ rfl
        have y9:=aG.out.2.1 9 _ rfl
        have au:=aG.out.2.1 10 _ rfl
        have ao:=aG.out.2.1 11 _ rfl
        have al:=aG.out.2.1 12 _ rfl
        go_wp2_with fail
        refine(LE.out _).mono ?_
        rintro e w3 ⟨rfl,hb⟩
        have B3:=hid (B2.out.trans (hb.mono B2.out.size))
        clear y0 y1 y2 y3 y4 y5 y6 y7 y8 y9 au ao al hb
        go_wp2_with fail
        go_ret
        exact⟨a_ (show (0:Int)=aC p from by unfold aC;rw[if_neg (by rw[bk];decide)];rw[if_neg (by rw[br];decide)];rw[if_neg n5.out,if_neg (by rintro (e |e);(exact N3.out e);(simp at od;omega))]),B3.out⟩
       ·go_enter Tryz.func149,Tryz.ntmps149
        go_upto_region 1 with (fail)
        generalize (w.alloc (.cells #[p.kind,p.life,p.piece,p.src,p.dst,p.fp,p.tp,p.flags,p.label,p.bare,p.code,.slice AO p.no cO,.slice AD p.nd cD] 53))=w1 at *
        have y0:=CE.out.2.1 0 _ rfl
        have y1:=CE.out.2.1 1 _ rfl
        have y2:=CE.out.2.1 2 _ rfl
        have y3:=CE.out.2.1 3 _ rfl
        have y4:=CE.out.2.1 4 _ rfl
        have y5:=CE.out.2.1 5 _ rfl
        have y6:=CE.out.2.1 6 _ rfl
        have y7:=CE.out.2.1 7 _ rfl
        have y8:=CE.out.2.1 8 _ rfl
        have y9:=CE.out.2.1 9 _ rfl
        have au:=CE.out.2.1 10 _ rfl
        have ao:=CE.out.2.1 11 _ rfl
        have al:=CE.out.2.1 12 _ rfl
        go_wp2_with fail
        refine(IK.out _).mono ?_
        rintro e w' ⟨rfl,rfl⟩
        go_wp2_with fail
        refine(IB.out _).mono ?_
        rintro e w2 ⟨rfl,hb⟩
        have aG:=hid (CE.out.below hb)
        have B2:=hid (B0.out.trans (hb.mono B0.out.size))
        clear y0 y1 y2 y3 y4 y5 y6 y7 y8 y9 au ao al hb CE
        have y0:=aG.out.2.1 0 _ rfl
        have y1:=aG.out.2.1 1 _ rfl
        have y2:=aG.out.2.1 2 _ rfl
        have y3:=aG.out.2.1 3 _ rfl
        have y4:=aG.out.2.1 4 _ rfl
        have y5:=aG.out.2.1 5 _ rfl
        have y6:=aG.out.2.1 6 _ rfl
        have y7:=aG.out.2.1 7 _ rfl
        have y8:=aG.out.2.1 8 _ rfl
        have y9:=aG.out.2.1 9 _ rfl
        have au:=aG.out.2.1 10 _ rfl
        have ao:=aG.out.2.1 11 _ rfl
        have al:=aG.out.2.1 12 _ rfl
        go_wp2_with fail
        refine(LE.out _).mono ?_
        rintro e w3 ⟨rfl,hb⟩
        have B3:=hid (B2.out.trans (hb.mono B2.out.size))
        clear y0 y1 y2 y3 y4 y5 y6 y7 y8 y9 au ao al hb
        go_wp2_with fail
        go_ret
        exact⟨a_ (show (3:Int)=aC p from by unfold aC;rw[if_neg (by rw[bk];decide)];rw[if_neg (by rw[br];decide)];rw[if_neg n5.out,if_pos (.inr (by simp at od;omega))]),B3.out⟩
      ·go_enter Tryz.func149,Tryz.ntmps149
       go_upto_region 1 with (fail)
       generalize (w.alloc (.cells #[p.kind,p.life,p.piece,p.src,p.dst,p.fp,p.tp,p.flags,p.label,p.bare,p.code,.slice AO p.no cO,.slice AD p.nd cD] 53))=w1 at *
       have y0:=CE.out.2.1 0 _ rfl
       have y1:=CE.out.2.1 1 _ rfl
       have y2:=CE.out.2.1 2 _ rfl
       have y3:=CE.out.2.1 3 _ rfl
       have y4:=CE.out.2.1 4 _ rfl
       have y5:=CE.out.2.1 5 _ rfl
       have y6:=CE.out.2.1 6 _ rfl
       have y7:=CE.out.2.1 7 _ rfl
       have y8:=CE.out.2.1 8 _ rfl
       have y9:=CE.out.2.1 9 _ rfl
       have au:=CE.out.2.1 10 _ rfl
       have ao:=CE.out.2.1 11 _ rfl
       have al:=CE.out.2.1 12 _ rfl
       go_wp2_with fail
       refine(IK.out _).mono ?_
       rintro e w' ⟨rfl,rfl⟩
       go_wp2_with fail
       refine(IB.out _).mono ?_
       rintro e w2 ⟨rfl,hb⟩
       have aG:=hid (CE.out.below hb)
       have B2:=hid (B0.out.trans (hb.mono B0.out.size))
       clear y0 y1 y2 y3 y4 y5 y6 y7 y8 y9 au ao al hb CE
       have y0:=aG.out.2.1 0 _ rfl
       have y1:=aG.out.2.1 1 _ rfl
       have y2:=aG.out.2.1 2 _ rfl
       have y3:=aG.out.2.1 3 _ rfl
       have y4:=aG.out.2.1 4 _ rfl
       have y5:=aG.out.2.1 5 _ rfl
       have y6:=aG.out.2.1 6 _ rfl
       have y7:=aG.out.2.1 7 _ rfl
       have y8:=aG.out.2.1 8 _ rfl
       have y9:=aG.out.2.1 9 _ rfl
       have au:=aG.out.2.1 10 _ rfl
       have ao:=aG.out.2.1 11 _ rfl
       have al:=aG.out.2.1 12 _ rfl
       go_wp2_with fail
       go_ret
       exact⟨a_ (show (3:Int)=aC p from by unfold aC;rw[if_neg (by rw[bk];decide)];rw[if_neg (by rw[br];decide)];rw[if_neg n5.out,if_pos (.inl ⟨n3.out,by simp at sI;omega⟩)]),B2.out⟩
    ·go_enter Tryz.func149,Tryz.ntmps149
     go_upto_region 1 with (fail)
     generalize (w.alloc (.cells #[p.kind,p.life,p.piece,p.src,p.dst,p.fp,p.tp,p.flags,p.label,p.bare,p.code,.slice AO p.no cO,.slice AD p.nd cD] 53))=w1 at *
     have y0:=CE.out.2.1 0 _ rfl
     have y1:=CE.out.2.1 1 _ rfl
     have y2:=CE.out.2.1 2 _ rfl
     have y3:=CE.out.2.1 3 _ rfl
     have y4:=CE.out.2.1 4 _ rfl
     have y5:=CE.out.2.1 5 _ rfl
     have y6:=CE.out.2.1 6 _ rfl
     have y7:=CE.out.2.1 7 _ rfl
     have y8:=CE.out.2.1 8 _ rfl
     have y9:=CE.out.2.1 9 _ rfl
     have au:=CE.out.2.1 10 _ rfl
     have ao:=CE.out.2.1 11 _ rfl
     have al:=CE.out.2.1 12 _ rfl
     go_wp2_with fail
     refine(IK.out _).mono ?_
     rintro e w' ⟨rfl,rfl⟩
     go_wp2_with fail
     refine(IB.out _).mono ?_
     rintro e w2 ⟨rfl,hb⟩
     have aG:=hid (CE.out.below hb)
     have B2:=hid (B0.out.trans (hb.mono B0.out.size))
     clear y0 y1 y2 y3 y4 y5 y6 y7 y8 y9 au ao al hb CE
     have y0:=aG.out.2.1 0 _ rfl
     have y1:=aG.out.2.1 1 _ rfl
     have y2:=aG.out.2.1 2 _ rfl
     have y3:=aG.out.2.1 3 _ rfl
     have y4:=aG.out.2.1 4 _ rfl
     have y5:=aG.out.2.1 5 _ rfl
     have y6:=aG.out.2.1 6 _ rfl
     have y7:=aG.out.2.1 7 _ rfl
     have y8:=aG.out.2.1 8 _ rfl
     have y9:=aG.out.2.1 9 _ rfl
     have au:=aG.out.2.1 10 _ rfl
     have ao:=aG.out.2.1 11 _ rfl
     have al:=aG.out.2.1 12 _ rfl
     go_wp2_with fail
     go_ret
     exact⟨a_ (show (5:Int)=aC p from by unfold aC;rw[if_neg (by rw[bk];decide)];rw[if_neg (by rw[br];decide)];rw[if_pos ⟨n1.out,by simp at zT;omega⟩]),B2.out⟩
theorem iP {p:Pk}(h:bh p=true):(0≤p.life∧p.life≤255)∧(0≤p.piece∧p.piece≤255)∧(p.kind=3→0≤p.code∧p.code≤255)∧(p.kind≠3→p.kind≠2→0≤p.flags∧p.flags≤15):=by
 unfold bh cn at h
 simp at h
 refine⟨by omega,by omega,fun k=>?_,fun k k2=>?_⟩
 ·rw[if_pos k]at h;omega
 ·rw[if_neg k,if_neg k2]at h;omega
theorem gA {w:World}{B n size:Nat}{e:TypeId}{v:Value}{f:Nat→Value}(h:Ow w B e size v n f)(hn:0<n*size):B≤w.heap.size:=by
 rcases h.2 with ⟨_,h0⟩ |⟨g,cap,cur,_,hB,hh,_⟩
 ·subst h0;simp at hn
 ·rcases Nat.lt_or_ge g w.heap.size with h1 |h1
  ·omega
  ·rw[Array.getElem?_eq_none h1]at hh;cases hh
theorem FW {w:World}{x:Int}:OB (w.alloc (.cells #[.int .u8 x,.int .u8 0,.int .u8 0,.int .u8 0] 5)) w.heap.size (.slice (some ⟨w.heap.size,0,none⟩) 4 4) 4 (fun j=>if j=0 then x else 0):=by
 refine OB.of_cells (Nat.le_refl _) (by simp only[maxLen];omega) ?_
 rw[heap_alloc_new]
 rfl
def Jk (w:World)(p:Pk)(e:Ending)(w':World):Prop:=∃A' c',e =.returned (.slice A' (aJ p-16) c')∧OB w' w.heap.size (.slice A' (aJ p-16) c') (aJ p-16) (cu p)∧aJ p-16≤c'∧Below w.heap.size w w'
set_option maxHeartbeats 8000000 in
theorem Cr (p:Pk)(AO:Option Addr)(cO:Nat)(AD:Option Addr)(cD:Nat)(w:World)(HO:By w AO p.no p.go)(HD:By w AD p.nd p.gd)(hE:aC p=0) :
 Calls Tryz.prog 151 #[.agg #[p.kind,p.life,p.piece,p.src,p.dst,p.fp,p.tp,p.flags,p.label,p.bare,p.code,.slice AO p.no cO,.slice AD p.nd cD]] w (Jk w p):=by
 obtain ⟨e1,e2,e3,e4,e5,e6⟩:=fM hE
 obtain ⟨_,_,rc,rf⟩:=iP e2
 have hno:=e3
 have hl:p.nd≤1500:=by unfold aJ at e5;split at e5;omega;split at e5 <;> omega
 have HOW:=hid (fun (W:World) (hw:Below w.heap.size w W)=>Sl.below HO hw (Nat.le_refl _))
 have nH:=hid (fun (W:World) (hw:Below w.heap.size w W)=>Sl.below HD hw (Nat.le_refl _))
 have CE:=hid (Ce.made (w:=w) (l:=[p.kind,p.life,p.piece,p.src,p.dst,p.fp,p.tp,p.flags,p.label,p.bare,p.code,.slice AO p.no cO,.slice AD p.nd cD]) (T:=53) (g:=w.heap.size) rfl)
 have B0:=hid ((Below.refl w.heap.size w).alloc (Nat.le_refl _) (.cells #[p.kind,p.life,p.piece,p.src,p.dst,p.fp,p.tp,p.flags,p.label,p.bare,p.code,.slice AO p.no cO,.slice AD p.nd cD] 53))
 simp only[List.toArray]at CE
 have KN:=hE
 clear HO HD hE e1 e2 e4 e5 e6
 cases k3:(p.kind==3)
 ·have gp:¬p.kind=3:=by simpa using k3
  cases k2:(p.kind==2)
  ·have k2':¬p.kind=2:=by simpa using k2
   have k1':p.kind=1:=by have:=gB KN;omega
   have F6:=rf gp k2'
   obtain ⟨MS,MR⟩:=F6
   have Px:=hno k1'
   have HL:Hid (aJ p-16=8+p.no+p.nd):=hid (by unfold aJ;rw[if_neg gp,if_neg k2'];omega)
   have HF:Hid (cu p=fun j=>if j<8+p.no then (if j<8 then set1 (set1 (ah (ah (fun _=>0) 0 2 p.fp) 2 2 p.tp) 4 p.flags) 5 (p.no:Int) j else p.go (j-8)) else p.gd (j-(8+p.no))):=hid (by funext j;unfold cu;rw[if_neg gp,if_neg k2'];unfold set1 ah;dsimp only;(repeat' split);all_goals (first |rfl | (exfalso;omega) | (congr 1;omega)))
   clear k1' k2' gp rc rf hno KN
   go_enter Tryz.func151,Tryz.ntmps151
   go_upto_region 1 with (fail)
   generalize (w.alloc (.cells #[p.kind,p.life,p.piece,p.src,p.dst,p.fp,p.tp,p.flags,p.label,p.bare,p.code,.slice AO p.no cO,.slice AD p.nd cD] 53))=w1 at *
   have lP:w.heap.size<w1.heap.size:=CE.out.1
   have y0:=CE.out.2.1 0 _ rfl
   have O_:∀W,(Instr.slice 23 (.slice (some ⟨w1.heap.size,0,none⟩) 8 8) none (some (.int .i64 2)) (some (.int .i64 2))).run Tryz.prog W =.ok (.slice (some ⟨w1.heap.size,0,none⟩) 2 2) W:=fun W=>by rw[run_slice_hm W 23 _ 8 8 jA .i64 .i64 _ _ (by omega) (by omega) (by omega),jq W];rfl
   have Ji:=fun W=>eI (G:=w1.heap.size) (n:=8) (c:=8) 2 2 (by omega) (Nat.le_refl _) (by omega) 2 4 4 rfl rfl rfl W
   have Jh:=fun W=>eI (G:=w1.heap.size) (n:=8) (c:=8) 4 2 (by omega) (Nat.le_refl _) (by omega) 4 6 6 rfl rfl rfl W
   go_upto_region 4 with (at_make;refine lJ rfl _ _ rfl w1.heap.size 8 _ _ rfl rfl rfl rfl (by omega) (Nat.le_refl _) ?_;intro w2 hO hb2;have HO:=hid (show OB w2 w1.heap.size (.slice (some ⟨w1.heap.size,0,none⟩) 8 8) 8 (fun _=>0) from hO);have HC:=hid (CE.out.below hb2);have HB:=hid (B0.out.trans (hb2.mono B0.out.size));clear hO hb2 CE B0)
   clear y0
   refine wp_region_held_drew (S:=fun w'=>Ce w' w.heap.size [p.kind,p.life,p.piece,p.src,p.dst,p.fp,p.tp,p.flags,p.label,p.bare,p.code,.slice AO p.no cO,.slice AD p.nd cD]) (by kernel_rfl) ?_ (fun hHeld=>?_)
   ·exact HC.out.aZ
   refine ae 0 hHeld ?_
   refine ae 1 hHeld ?_
   refine ae 2 hHeld ?_
   refine ae 3 hHeld ?_ (hy:=by intro w hSw;(try dsimp only at hSw);have y:=hSw.2.1 5 _ rfl;go_simp;(try with_reducible rfl))
   refine only 4 rfl (by kernel_rfl) rfl (fun K hK=>?_)
   go_simp
   refine(dQ (Ow.drew HO.out) 0 2 2 p.fp (by omega) (by omega)).mono ?_
   rintro e' w3 ⟨rfl,hO,hg⟩
   try go_wp2_with fail
   refine hK.out _ _ (hHeld.grown hg (fun e=>by injection e with e;omega)) (fun _=>?_)
   have bI:=hid hO
   have dN:=hid (hHeld.grown hg (fun e=>by injection e with e;omega))
   have HB2:=hid (HB.out.trans (af (eQ hg) (by omega) HB.out.size))
   clear hK hHeld hO hg HO HC HB
   (try simp only[Act.put,zA,zB,zC])
   refine wpAnyH_done (by kernel_rfl) ?_ _
   have HO:=bI
   have HC:=dN
   have HB:=HB2
   clear bI dN HB2
   go_upto_region 5 with (fail)
   refine wp_region_held_drew (S:=fun w'=>Ce w' w.heap.size [p.kind,p.life,p.piece,p.src,p.dst,p.fp,p.tp,p.flags,p.label,p.bare,p.code,.slice AO p.no cO,.slice AD p.nd cD]) (by kernel_rfl) ?_ (fun hHeld=>?_)
   ·exact HC.out.aZ
   refine ae 0 hHeld ?_
   refine ae 1 hHeld ?_
   refine ae 2 hHeld ?_
   refine ae 3 hHeld ?_ (hy:=by intro w hSw;(try dsimp only at hSw);have y:=hSw.2.1 6 _ rfl;go_simp;(try with_reducible rfl))
   refine only 4 rfl (by kernel_rfl) rfl (fun K hK=>?_)
   go_simp
   refine(dQ (Ow.drew HO.out) 2 2 2 p.tp (by omega) (by omega)).mono ?_
   rintro e' w4 ⟨rfl,hO,hg⟩
   try go_wp2_with fail
   refine hK.out _ _ (hHeld.grown hg (fun e=>by injection e with e;omega)) (fun _=>?_)
   have bI:=hid hO
   have dN:=hid (hHeld.grown hg (fun e=>by injection e with e;omega))
   have HB2:=hid (HB.out.trans (af (eQ hg) (by omega) HB.out.size))
   clear hK hHeld hO hg HO HC HB
   (try simp only[Act.put,zA,zB,zC])
   refine wpAnyH_done (by kernel_rfl) ?_ _
   have HO:=bI
   have HC:=dN
   have HB:=HB2
   clear bI dN HB2
   have y0:=HC.out.2.1 0 _ rfl
   go_upto_region 9 with (fail)
   clear y0
   obtain ⟨g',e,hB,hgs,hce,hfr⟩:=Ow.block_ HO.out (by omega)
   injection e with e
   injection e with e _
   subst e
   have c4:=hce 4 (by omega)
   have c5:=hce 5 (by omega)
   have f4:=hfr 4
   have f5:=hfr 5
   clear hce hfr
   have u7:IntKind.u8.wrap p.flags=p.flags:=by rw[IntKind.wrap_u8];omega
   have qp:IntKind.u8.wrap (p.no:Int)=(p.no:Int):=by rw[IntKind.wrap_u8];omega
   have n40:(p.no:Int)≤255:=by omega
   have n0:(0:Int)≤p.no:=by omega
   refine wp_region_held_drew (S:=fun w'=>Ce w' w.heap.size [p.kind,p.life,p.piece,p.src,p.dst,p.fp,p.tp,p.flags,p.label,p.bare,p.code,.slice AO p.no cO,.slice AD p.nd cD]) (by kernel_rfl) ?_ (fun hHeld=>?_)
   ·exact HC.out.aZ
   refine ae 0 hHeld ?_
   refine ae 1 hHeld ?_
   refine ae 2 hHeld ?_
   refine ae 3 hHeld ?_ (hy:=by intro w hSw;(try dsimp only at hSw);have q7:=hSw.2.1 7 _ rfl;have Dd:=hSw.2.1 11 _ rfl;go_simp;(try with_reducible rfl))
   refine ae 4 hHeld ?_
   refine ae 5 hHeld ?_
   refine ae 6 hHeld ?_ (hy:=by intro w hSw;(try dsimp only at hSw);have q7:=hSw.2.1 7 _ rfl;have Dd:=hSw.2.1 11 _ rfl;go_simp;(try with_reducible rfl))
   refine ae 7 hHeld ?_
   refine ae 8 hHeld ?_
   refine ae 9 hHeld ?_
   refine only 10 rfl (by kernel_rfl) rfl (fun K hK=>?_)
   go_simp
   have hH2:Ce (w4.setCell ⟨w1.heap.size,4,none⟩ (.int .u8 p.flags)).drew w.heap.size [p.kind,p.life,p.piece,p.src,p.dst,p.fp,p.tp,p.flags,p.label,p.bare,p.code,.slice AO p.no cO,.slice AD p.nd cD]:=Ce.aZ (HC.out.grown (gs 4 (.int .u8 p.flags) (World.grownBy.refl w4 (some w1.heap.size))) (fun e=>by injection e with e;omega))
   refine hK.out _ _ hH2 (fun _=>?_)
   clear hK
   (try simp only[Act.put,zA,zB,zC])
   refine ae 11 hH2 ?_
   refine only 12 rfl (by kernel_rfl) rfl (fun K hK=>?_)
   go_simp
   have hH3:Ce ((w4.setCell ⟨w1.heap.size,4,none⟩ (.int .u8 p.flags)).setCell ⟨w1.heap.size,5,none⟩ (.int .u8 (p.no:Int))).drew w.heap.size [p.kind,p.life,p.piece,p.src,p.dst,p.fp,p.tp,p.flags,p.label,p.bare,p.code,.slice AO p.no cO,.slice AD p.nd cD]:=Ce.aZ (HC.out.grown (gs 5 (.int .u8 (p.no:Int)) (gs 4 (.int .u8 p.flags) (World.grownBy.refl w4 (some w1.heap.size)))) (fun e=>by injection e with e;omega))
   refine hK.out _ _ hH3 (fun _=>?_)
   clear hK
   (try simp only[Act.put,zA,zB,zC])
   refine wpAnyH_done (by kernel_rfl) ?_ _
   have bI:=hid (Ow.drew (OB.store (OB.store HO.out 4 p.flags) 5 (p.no:Int)))
   have HB2:=hid ((HB.out.trans (af (gs 5 (.int .u8 (p.no:Int)) (gs 4 (.int .u8 p.flags) (World.grownBy.refl w4 (some w1.heap.size)))) (by omega) HB.out.size)).drew)
   have dN:=hid hH3
   clear hH3 hH2 hHeld HO HC HB c4 c5 f4 f5
   generalize ((w4.setCell ⟨w1.heap.size,4,none⟩ (.int .u8 p.flags)).setCell ⟨w1.heap.size,5,none⟩ (.int .u8 (p.no:Int))).drew=w5 at *
   have ao:=dN.out.2.1 11 _ rfl
   go_upto_region 11 with (at_builtin;refine dC rfl (.tmp 48) (.tmp 50) rfl w1.heap.size _ 8 _ rfl bI.out _ p.no _ p.go rfl (HOW.out _ HB2.out) (by omega) (gA bI.out (by omega)) ?_;intro A3 c3 w6 h1 h2 h3 h4 h5 h6;have O3:=hid h1;have B3:=hid (HB2.out.trans (h4.mono (by omega)));have C3:=hid (h4.cell (p:=⟨w.heap.size,12,none⟩) (by exact lP));have Z3:=hid h4.size;clear h1 h2 h3 h4 h5 h6)
   have al:w6.cell? ⟨w.heap.size,12,none⟩=some (.slice AD p.nd cD):=C3.out.trans (dN.out.2.1 12 _ rfl)
   clear ao
   go_wp2_with (at_builtin;refine dC rfl (.tmp 52) (.tmp 54) rfl w1.heap.size _ (8+p.no) _ rfl O3.out _ p.nd _ p.gd rfl (nH.out _ B3.out) (by omega) (gA O3.out (by omega)) ?_;intro A4 c4 w7 h1 h2 h3 h4 h5 h6;have O4:=hid h1;have hc4:=h2;have B4:=hid (B3.out.trans (h4.mono (by omega)));clear h1 h2 h3 h4 h5 h6)
   go_ret
   refine⟨A4,c4,by rw[HL.out];rfl,?_,by rw[HL.out];exact hc4,B4.out⟩
   rw[HL.out,HF.out]
   exact OB.base O4.out (by omega)
  ·have k2':p.kind=2:=by simpa using k2
   have HL:Hid (aJ p-16=8+p.nd):=hid (by unfold aJ;rw[if_neg gp,if_pos k2'];omega)
   have HF:Hid (cu p=fun j=>if j<8 then ah (ah (ah (fun _=>0) 0 2 p.fp) 2 2 p.tp) 4 2 p.label j else p.gd (j-8)):=hid (by funext j;unfold cu;rw[if_neg gp,if_pos k2'];unfold ah;dsimp only;(repeat' split);all_goals (first |rfl | (exfalso;omega) | (congr 1;omega)))
   clear k2' gp rc rf hno
   go_enter Tryz.func151,Tryz.ntmps151
   go_upto_region 1 with (fail)
   generalize (w.alloc (.cells #[p.kind,p.life,p.piece,p.src,p.dst,p.fp,p.tp,p.flags,p.label,p.bare,p.code,.slice AO p.no cO,.slice AD p.nd cD] 53))=w1 at *
   have lP:w.heap.size<w1.heap.size:=CE.out.1
   have y0:=CE.out.2.1 0 _ rfl
   have O_:∀W,(Instr.slice 23 (.slice (some ⟨w1.heap.size,0,none⟩) 8 8) none (some (.int .i64 2)) (some (.int .i64 2))).run Tryz.prog W =.ok (.slice (some ⟨w1.heap.size,0,none⟩) 2 2) W:=fun W=>by rw[run_slice_hm W 23 _ 8 8 jA .i64 .i64 _ _ (by omega) (by omega) (by omega),jq W];rfl
   have Ji:=fun W=>eI (G:=w1.heap.size) (n:=8) (c:=8) 2 2 (by omega) (Nat.le_refl _) (by omega) 2 4 4 rfl rfl rfl W
   have Jh:=fun W=>eI (G:=w1.heap.size) (n:=8) (c:=8) 4 2 (by omega) (Nat.le_refl _) (by omega) 4 6 6 rfl rfl rfl W
   go_upto_region 4 with (at_make;refine lJ rfl _ _ rfl w1.heap.size 8 _ _ rfl rfl rfl rfl (by omega) (Nat.le_refl _) ?_;intro w2 hO hb2;have HO:=hid (show OB w2 w1.heap.size (.slice (some ⟨w1.heap.size,0,none⟩) 8 8) 8 (fun _=>0) from hO);have HC:=hid (CE.out.below hb2);have HB:=hid (B0.out.trans (hb2.mono B0.out.size));clear hO hb2 CE B0)
   clear y0
   refine wp_region_held_drew (S:=fun w'=>Ce w' w.heap.size [p.kind,p.life,p.piece,p.src,p.dst,p.fp,p.tp,p.flags,p.label,p.bare,p.code,.slice AO p.no cO,.slice AD p.nd cD]) (by kernel_rfl) ?_ (fun hHeld=>?_)
   ·exact HC.out.aZ
   refine ae 0 hHeld ?_
   refine ae 1 hHeld ?_
   refine ae 2 hHeld ?_
   refine ae 3 hHeld ?_ (hy:=by intro w hSw;(try dsimp only at hSw);have y:=hSw.2.1 5 _ rfl;go_simp;(try with_reducible rfl))
   refine only 4 rfl (by kernel_rfl) rfl (fun K hK=>?_)
   go_simp
   refine(dQ (Ow.drew HO.out) 0 2 2 p.fp (by omega) (by omega)).mono ?_
   rintro e' w3 ⟨rfl,hO,hg⟩
   try go_wp2_with fail
   refine hK.out _ _ (hHeld.grown hg (fun e=>by injection e with e;omega)) (fun _=>?_)
   have bI:=hid hO
   have dN:=hid (hHeld.grown hg (fun e=>by injection e with e;omega))
   have HB2:=hid (HB.out.trans (af (eQ hg) (by omega) HB.out.size))
   clear hK hHeld hO hg HO HC HB
   (try simp only[Act.put,zA,zB,zC])
   refine wpAnyH_done (by kernel_rfl) ?_ _
   have HO:=bI
   have HC:=dN
   have HB:=HB2
   clear bI dN HB2
   go_upto_region 5 with (fail)
   refine wp_region_held_drew (S:=fun w'=>Ce w' w.heap.size [p.kind,p.life,p.piece,p.src,p.dst,p.fp,p.tp,p.flags,p.label,p.bare,p.code,.slice AO p.no cO,.slice AD p.nd cD]) (by kernel_rfl) ?_ (fun hHeld=>?_)
   ·exact HC.out.aZ
   refine ae 0 hHeld ?_
   refine ae 1 hHeld ?_
   refine ae 2 hHeld ?_
   refine ae 3 hHeld ?_ (hy:=by intro w hSw;(try dsimp only at hSw);have y:=hSw.2.1 6 _ rfl;go_simp;(try with_reducible rfl))
   refine only 4 rfl (by kernel_rfl) rfl (fun K hK=>?_)
   go_simp
   refine(dQ (Ow.drew HO.out) 2 2 2 p.tp (by omega) (by omega)).mono ?_
   rintro e' w4 ⟨rfl,hO,hg⟩
   try go_wp2_with fail
   refine hK.out _ _ (hHeld.grown hg (fun e=>by injection e with e;omega)) (fun _=>?_)
   have bI:=hid hO
   have dN:=hid (hHeld.grown hg (fun e=>by injection e with e;omega))
   have HB2:=hid (HB.out.trans (af (eQ hg) (by omega) HB.out.size))
   clear hK hHeld hO hg HO HC HB
   (try simp only[Act.put,zA,zB,zC])
   refine wpAnyH_done (by kernel_rfl) ?_ _
   have HO:=bI
   have HC:=dN
   have HB:=HB2
   clear bI dN HB2
   have y0:=HC.out.2.1 0 _ rfl
   go_upto_region 7 with (fail)
   clear y0
   refine wp_region_held_drew (S:=fun w'=>Ce w' w.heap.size [p.kind,p.life,p.piece,p.src,p.dst,p.fp,p.tp,p.flags,p.label,p.bare,p.code,.slice AO p.no cO,.slice AD p.nd cD]) (by kernel_rfl) ?_ (fun hHeld=>?_)
   ·exact HC.out.aZ
   refine ae 0 hHeld ?_
   refine ae 1 hHeld ?_
   refine ae 2 hHeld ?_
   refine ae 3 hHeld ?_ (hy:=by intro w hSw;(try dsimp only at hSw);have y:=hSw.2.1 8 _ rfl;go_simp;(try with_reducible rfl))
   refine only 4 rfl (by kernel_rfl) rfl (fun K hK=>?_)
   go_simp
   refine(dQ (Ow.drew HO.out) 4 2 2 p.label (by omega) (by omega)).mono ?_
   rintro e' w5 ⟨rfl,hO,hg⟩
   try go_wp2_with fail
   refine hK.out _ _ (hHeld.grown hg (fun e=>by injection e with e;omega)) (fun _=>?_)
   have bI:=hid hO
   have dN:=hid (hHeld.grown hg (fun e=>by injection e with e;omega))
   have HB2:=hid (HB.out.trans (af (eQ hg) (by omega) HB.out.size))
   clear hK hHeld hO hg HO HC HB
   (try simp only[Act.put,zA,zB,zC])
   refine wpAnyH_done (by kernel_rfl) ?_ _
   have HO:=bI
   have HC:=dN
   have HB:=HB2
   clear bI dN HB2
   have al:=HC.out.2.1 12 _ rfl
   go_wp2_with (at_builtin;refine dC rfl (.tmp 33) (.tmp 35) rfl w1.heap.size _ 8 _ rfl HO.out _ p.nd _ p.gd rfl (nH.out _ HB.out) (by omega) (gA HO.out (by omega)) ?_;intro A3 c3 w6 h1 h2 h3 h4 h5 h6;have O3:=hid h1;have hc3:=h2;have B3:=hid (HB.out.trans (h4.mono (by omega)));clear h1 h2 h3 h4 h5 h6)
   go_ret
   refine⟨A3,c3,by rw[HL.out];rfl,?_,by rw[HL.out];exact hc3,B3.out⟩
   rw[HL.out,HF.out]
   exact OB.base O3.out (by omega)
 ·have gp:p.kind=3:=by simpa using k3
  have rc':=rc gp
  obtain ⟨MV,MU⟩:=rc'
  have HL:Hid (aJ p-16=4+p.nd):=hid (by unfold aJ;rw[if_pos gp];omega)
  have HF:Hid (cu p=fun j=>if j<4 then (if j=0 then p.code else 0) else p.gd (j-4)):=hid (by funext j;unfold cu;rw[if_pos gp];by_cases h0:j=0;(rw[if_pos h0,if_pos (by omega),if_pos h0]);(rw[if_neg h0];by_cases h4:j<4;(rw[if_pos h4,if_pos h4,if_neg h0]);(rw[if_neg h4,if_neg h4])))
  clear gp rc rf hno
  go_enter Tryz.func151,Tryz.ntmps151
  go_upto_region 1 with (fail)
  generalize (w.alloc (.cells #[p.kind,p.life,p.piece,p.src,p.dst,p.fp,p.tp,p.flags,p.label,p.bare,p.code,.slice AO p.no cO,.slice AD p.nd cD] 53))=w1 at *
  have y0:=CE.out.2.1 0 _ rfl
  have au:=CE.out.2.1 10 _ rfl
  have al:=CE.out.2.1 12 _ rfl
  have HR:=hid (FW (w:=w1) (x:=p.code))
  have aG:=CE.out.alloc (.cells #[.int .u8 p.code,.int .u8 0,.int .u8 0,.int .u8 0] 5)
  have z12:=aG.2.1 12 _ rfl
  clear aG
  have HD2:=hid (nH.out _ (B0.out.alloc B0.out.size (.cells #[.int .u8 p.code,.int .u8 0,.int .u8 0,.int .u8 0] 5)))
  have B2:=hid (B0.out.alloc B0.out.size (.cells #[.int .u8 p.code,.int .u8 0,.int .u8 0,.int .u8 0] 5))
  go_wp2_with (at_builtin;refine dC rfl (.tmp 10) (.tmp 12) rfl w1.heap.size _ 4 _ rfl HR.out _ p.nd _ p.gd rfl HD2.out (by omega) (by simp) ?_;intro A3 c3 w3 h1 h2 h3 h4 h5 h6;have O3:=hid h1;have hc3:=h2;have B3:=hid (B2.out.trans (h4.mono B0.out.size));clear h1 h2 h3 h4 h5 h6)
  go_ret
  refine⟨A3,c3,by rw[HL.out];rfl,?_,by rw[HL.out];exact hc3,B3.out⟩
  rw[HL.out,HF.out]
  exact OB.base O3.out B0.out.size
theorem Ce.below_ {w w':World}{B b:Nat}{l:List Value}(h:Ce w b l)(hb:Below B w w')(hB:b<B):Ce w' b l:=
 ⟨Nat.lt_of_lt_of_le h.1 hb.size,fun j v hj=>(hb.cell (p:=⟨b,j,none⟩) hB).trans (h.2.1 j v hj),fun j=>(World.frozen?_of_block (a:=⟨b,j,none⟩) (hb.block b hB)).trans (h.2.2 j)⟩
theorem F9 (p:Pk):ah (fun j=>if j<16 then ah (ah (set1 (set1 (set1 (fun _=>0) 0 p.kind) 1 p.life) 12 p.piece) 4 4 p.src) 8 4 p.dst j else cu p (j-16)) 2 2 (aJ p:Int)=bU p:=by
 funext j
 unfold bU ah set1
 dsimp only
 (repeat' split)
 all_goals (first |rfl | (exfalso;omega) | (congr 1;omega))
theorem pL {p:Pk}(h:¬(p.kind=2∧p.bare=true)):aF p=cm (ah (aR p) (aI p.kind) 2 (65535-norm (tot (bq (aR p) (aJ p)) (bo (aR p) (aJ p))))):=by unfold aF;rw[if_neg h]
theorem vt {p:Pk}(h:p.kind=2∧p.bare=true):aF p=aR p:=by unfold aF;rw[if_pos h]
theorem pu (p:Pk):aR p 0=p.kind:=by unfold aR;rw[aH (by omega),gv]
set_option maxHeartbeats 8000000 in
theorem sO (p:Pk)(AO:Option Addr)(cO:Nat)(AD:Option Addr)(cD:Nat)(w:World)(HO:By w AO p.no p.go)(HD:By w AD p.nd p.gd)(hgo:az p.go)(hgd:az p.gd)(h1:p.no≤1000000)(h2:p.nd≤1000000) :
 Calls Tryz.prog 120 #[.agg #[p.kind,p.life,p.piece,p.src,p.dst,p.fp,p.tp,p.flags,p.label,p.bare,p.code,.slice AO p.no cO,.slice AD p.nd cD]] w (iB w (aC p) (aJ p) (aF p)):=by
 have HOW:=hid (fun (W:World) (hw:Below w.heap.size w W)=>Sl.below HO hw (Nat.le_refl _))
 have nH:=hid (fun (W:World) (hw:Below w.heap.size w W)=>Sl.below HD hw (Nat.le_refl _))
 have CE:=hid (Ce.made (w:=w) (l:=[p.kind,p.life,p.piece,p.src,p.dst,p.fp,p.tp,p.flags,p.label,p.bare,p.code,.slice AO p.no cO,.slice AD p.nd cD]) (T:=53) (g:=w.heap.size) rfl)
 have B0:=hid ((Below.refl w.heap.size w).alloc (Nat.le_refl _) (.cells #[p.kind,p.life,p.piece,p.src,p.dst,p.fp,p.tp,p.flags,p.label,p.bare,p.code,.slice AO p.no cO,.slice AD p.nd cD] 53))
 simp only[List.toArray]at CE
 have CK:=hid (fun w=>xM p AO cO AD cD w h1 h2)
 obtain ⟨z,hz⟩:∃z,z=aC p:=⟨_,rfl⟩
 rw[←hz]at CK
 clear HO HD
 cases z0:(z != 0)
 ·have hE:aC p=0:=by rw[←hz];simpa using z0
  obtain ⟨e1,e2,e3,e4,e5,e6⟩:=fM hE
  obtain ⟨⟨vK,vJ⟩,⟨vI,vH⟩,_,_⟩:=iP e2
  have hk:=gB hE
  have HK:=hid hk
  have F5:0≤p.kind:=by omega
  have FZ:p.kind≤255:=by omega
  have BO:=hid (fun (W:World) (hw:Below w.heap.size w W)=>Cr p AO cO AD cD W (HOW.out W hw) (nH.out W hw) hE)
  have RB:=hid (mH hgd hgo hE)
  have jm:=hid (ju hgd hgo hE)
  have HE:=hid hE
  clear e1 e3 e4 hE hk z0 hgo hgd e2
  have hz0:z=0:=by rw[hz];exact HE.out
  subst hz0
  clear hz
  have u0:IntKind.u8.wrap p.kind=p.kind:=by rw[IntKind.wrap_u8];omega
  have u1:IntKind.u8.wrap p.life=p.life:=by rw[IntKind.wrap_u8];omega
  have u2:IntKind.u8.wrap p.piece=p.piece:=by rw[IntKind.wrap_u8];omega
  go_enter Tryz.func120,Tryz.ntmps120
  go_upto_region 1 with (fail)
  generalize (w.alloc (.cells #[p.kind,p.life,p.piece,p.src,p.dst,p.fp,p.tp,p.flags,p.label,p.bare,p.code,.slice AO p.no cO,.slice AD p.nd cD] 53))=w1 at *
  have lP:w.heap.size<w1.heap.size:=CE.out.1
  have y0:=CE.out.2.1 0 _ rfl
  have y1:=CE.out.2.1 1 _ rfl
  have y2:=CE.out.2.1 2 _ rfl
  have y3:=CE.out.2.1 3 _ rfl
  have y4:=CE.out.2.1 4 _ rfl
  have y5:=CE.out.2.1 5 _ rfl
  have y6:=CE.out.2.1 6 _ rfl
  have y7:=CE.out.2.1 7 _ rfl
  have y8:=CE.out.2.1 8 _ rfl
  have y9:=CE.out.2.1 9 _ rfl
  have au:=CE.out.2.1 10 _ rfl
  have ao:=CE.out.2.1 11 _ rfl
  have al:=CE.out.2.1 12 _ rfl
  go_wp2_with fail
  refine(CK.out _).mono ?_
  rintro e w2 ⟨rfl,hb⟩
  have HC:=hid (CE.out.below hb)
  have HB:=hid (B0.out.trans (hb.mono B0.out.size))
  have lw:w1.heap.size≤w2.heap.size:=hb.size
  clear hb CE B0 CK
  clear y0 y1 y2 y3 y4 y5 y6 y7 y8 y9 au ao al
  have lR:w.heap.size<w2.heap.size:=by omega
  go_upto_region 5 with (at_make;refine lJ rfl _ _ rfl w2.heap.size 16 _ _ rfl rfl rfl rfl (by omega) (Nat.le_refl _) ?_;intro w3 hO hb2;have HO:=hid (show OB w3 w2.heap.size (.slice (some ⟨w2.heap.size,0,none⟩) 16 16) 16 (fun _=>0) from hO);have dN:=hid (HC.out.below hb2);have HB2:=hid (HB.out.trans (hb2.mono HB.out.size));clear hO hb2)
  clear HC HB
  obtain ⟨g',e,hB,hgs,hce,hfr⟩:=Ow.block_ HO.out (by omega)
  injection e with e
  injection e with e _
  subst e
  have c0:=hce 0 (by omega)
  have c1:=hce 1 (by omega)
  have c12:=hce 12 (by omega)
  have f0:=hfr 0
  have f1:=hfr 1
  have f12:=hfr 12
  clear hce hfr
  refine wp_region_held_drew (S:=fun w'=>Ce w' w.heap.size [p.kind,p.life,p.piece,p.src,p.dst,p.fp,p.tp,p.flags,p.label,p.bare,p.code,.slice AO p.no cO,.slice AD p.nd cD]) (by kernel_rfl) ?_ (fun hHeld=>?_)
  ·exact dN.out.aZ
  refine ae 0 hHeld ?_
  refine ae 1 hHeld ?_
  refine ae 2 hHeld ?_
  refine ae 3 hHeld ?_
  refine ae 4 hHeld ?_ (hy:=by intro w hSw;(try dsimp only at hSw);have q0:=hSw.2.1 0 _ rfl;have q1:=hSw.2.1 1 _ rfl;have q2:=hSw.2.1 2 _ rfl;go_simp;(try with_reducible rfl))
  refine ae 5 hHeld ?_
  refine ae 6 hHeld ?_
  refine ae 7 hHeld ?_ (hy:=by intro w hSw;(try dsimp only at hSw);have q0:=hSw.2.1 0 _ rfl;have q1:=hSw.2.1 1 _ rfl;have q2:=hSw.2.1 2 _ rfl;go_simp;(try with_reducible rfl))
  refine ae 8 hHeld ?_
  refine ae 9 hHeld ?_
  refine ae 10 hHeld ?_ (hy:=by intro w hSw;(try dsimp only at hSw);have q0:=hSw.2.1 0 _ rfl;have q1:=hSw.2.1 1 _ rfl;have q2:=hSw.2.1 2 _ rfl;go_simp;(try with_reducible rfl))
  refine ae 11 hHeld ?_
  refine ae 12 hHeld ?_
  refine only 13 rfl (by kernel_rfl) rfl (fun K hK=>?_)
  go_simp
  have hH0:Ce (w3.setCell ⟨w2.heap.size,0,none⟩ (.int .u8 p.kind)).drew w.heap.size [p.kind,p.life,p.piece,p.src,p.dst,p.fp,p.tp,p.flags,p.label,p.bare,p.code,.slice AO p.no cO,.slice AD p.nd cD]:=Ce.aZ (dN.out.grown (gs 0 (.int .u8 p.kind) (World.grownBy.refl w3 (some w2.heap.size))) (fun e=>by injection e with e;omega))
  refine hK.out _ _ hH0 (fun _=>?_)
  clear hK
  (try simp only[Act.put,zA,zB,zC])
  refine ae 14 hH0 ?_
  refine only 15 rfl (by kernel_rfl) rfl (fun K hK=>?_)
  go_simp
  have hH1:Ce ((w3.setCell ⟨w2.heap.size,0,none⟩ (.int .u8 p.kind)).setCell ⟨w2.heap.size,1,none⟩ (.int .u8 p.life)).drew w.heap.size [p.kind,p.life,p.piece,p.src,p.dst,p.fp,p.tp,p.flags,p.label,p.bare,p.code,.slice AO p.no cO,.slice AD p.nd cD]:=Ce.aZ (dN.out.grown (gs 1 (.int .u8 p.life) (gs 0 (.int .u8 p.kind) (World.grownBy.refl w3 (some w2.heap.size)))) (fun e=>by injection e with e;omega))
  refine hK.out _ _ hH1 (fun _=>?_)
  clear hK
  (try simp only[Act.put,zA,zB,zC])
  refine ae 16 hH1 ?_
  refine only 17 rfl (by kernel_rfl) rfl (fun K hK=>?_)
  go_simp
  have hH2:Ce (((w3.setCell ⟨w2.heap.size,0,none⟩ (.int .u8 p.kind)).setCell ⟨w2.heap.size,1,none⟩ (.int .u8 p.life)).setCell ⟨w2.heap.size,12,none⟩ (.int .u8 p.piece)).drew w.heap.size [p.kind,p.life,p.piece,p.src,p.dst,p.fp,p.tp,p.flags,p.label,p.bare,p.code,.slice AO p.no cO,.slice AD p.nd cD]:=Ce.aZ (dN.out.grown (gs 12 (.int .u8 p.piece) (gs 1 (.int .u8 p.life) (gs 0 (.int .u8 p.kind) (World.grownBy.refl w3 (some w2.heap.size))))) (fun e=>by injection e with e;omega))
  refine hK.out _ _ hH2 (fun _=>?_)
  clear hK
  (try simp only[Act.put,zA,zB,zC])
  refine wpAnyH_done (by kernel_rfl) ?_ _
  have uW:=hid (Ow.drew (OB.store (OB.store (OB.store HO.out 0 p.kind) 1 p.life) 12 p.piece))
  have HB:=hid ((HB2.out.trans (af (gs 12 (.int .u8 p.piece) (gs 1 (.int .u8 p.life) (gs 0 (.int .u8 p.kind) (World.grownBy.refl w3 (some w2.heap.size))))) (by omega) HB2.out.size)).drew)
  have HC:=hid hH2
  clear hH2 hH1 hH0 hHeld HO dN HB2 c0 c1 c12 f0 f1 f12
  have HO:=uW
  clear uW
  generalize (((w3.setCell ⟨w2.heap.size,0,none⟩ (.int .u8 p.kind)).setCell ⟨w2.heap.size,1,none⟩ (.int .u8 p.life)).setCell ⟨w2.heap.size,12,none⟩ (.int .u8 p.piece)).drew=w4 at *
  have Jh:=fun W=>eI (G:=w2.heap.size) (n:=16) (c:=16) 4 4 (by omega) (Nat.le_refl _) (by omega) 4 8 8 rfl rfl rfl W
  have O9:=fun W=>eI (G:=w2.heap.size) (n:=16) (c:=16) 8 4 (by omega) (Nat.le_refl _) (by omega) 8 12 12 rfl rfl rfl W
  go_upto_region 6 with (fail)
  refine wp_region_held_drew (S:=fun w'=>Ce w' w.heap.size [p.kind,p.life,p.piece,p.src,p.dst,p.fp,p.tp,p.flags,p.label,p.bare,p.code,.slice AO p.no cO,.slice AD p.nd cD]) (by kernel_rfl) ?_ (fun hHeld=>?_)
  ·exact HC.out.aZ
  refine ae 0 hHeld ?_
  refine ae 1 hHeld ?_
  refine ae 2 hHeld ?_
  refine ae 3 hHeld ?_ (hy:=by intro w hSw;(try dsimp only at hSw);have y:=hSw.2.1 3 _ rfl;go_simp;(try with_reducible rfl))
  refine only 4 rfl (by kernel_rfl) rfl (fun K hK=>?_)
  go_simp
  refine(dQ (Ow.drew HO.out) 4 4 4 p.src (by omega) (by omega)).mono ?_
  rintro e' w5 ⟨rfl,hO,hg⟩
  try go_wp2_with fail
  refine hK.out _ _ (hHeld.grown hg (fun e=>by injection e with e;omega)) (fun _=>?_)
  have bI:=hid hO
  have dN:=hid (hHeld.grown hg (fun e=>by injection e with e;omega))
  have HB2:=hid (HB.out.trans (af (eQ hg) (by omega) HB.out.size))
  clear hK hHeld hO hg HO HC HB
  (try simp only[Act.put,zA,zB,zC])
  refine wpAnyH_done (by kernel_rfl) ?_ _
  have HO:=bI
  have HC:=dN
  have HB:=HB2
  clear bI dN HB2
  go_upto_region 7 with (fail)
  refine wp_region_held_drew (S:=fun w'=>Ce w' w.heap.size [p.kind,p.life,p.piece,p.src,p.dst,p.fp,p.tp,p.flags,p.label,p.bare,p.code,.slice AO p.no cO,.slice AD p.nd cD]) (by kernel_rfl) ?_ (fun hHeld=>?_)
  ·exact HC.out.aZ
  refine ae 0 hHeld ?_
  refine ae 1 hHeld ?_
  refine ae 2 hHeld ?_
  refine ae 3 hHeld ?_ (hy:=by intro w hSw;(try dsimp only at hSw);have y:=hSw.2.1 4 _ rfl;go_simp;(try with_reducible rfl))
  refine only 4 rfl (by kernel_rfl) rfl (fun K hK=>?_)
  go_simp
  refine(dQ (Ow.drew HO.out) 8 4 4 p.dst (by omega) (by omega)).mono ?_
  rintro e' w6 ⟨rfl,hO,hg⟩
  try go_wp2_with fail
  refine hK.out _ _ (hHeld.grown hg (fun e=>by injection e with e;omega)) (fun _=>?_)
  have bI:=hid hO
  have dN:=hid (hHeld.grown hg (fun e=>by injection e with e;omega))
  have HB2:=hid (HB.out.trans (af (eQ hg) (by omega) HB.out.size))
  clear hK hHeld hO hg HO HC HB
  (try simp only[Act.put,zA,zB,zC])
  refine wpAnyH_done (by kernel_rfl) ?_ _
  have HO:=bI
  have HC:=dN
  have HB:=HB2
  clear bI dN HB2
  clear Jh O9
  go_upto_region 8 with (fail)
  have y0:=HC.out.2.1 0 _ rfl
  have y1:=HC.out.2.1 1 _ rfl
  have y2:=HC.out.2.1 2 _ rfl
  have y3:=HC.out.2.1 3 _ rfl
  have y4:=HC.out.2.1 4 _ rfl
  have y5:=HC.out.2.1 5 _ rfl
  have y6:=HC.out.2.1 6 _ rfl
  have y7:=HC.out.2.1 7 _ rfl
  have y8:=HC.out.2.1 8 _ rfl
  have y9:=HC.out.2.1 9 _ rfl
  have au:=HC.out.2.1 10 _ rfl
  have ao:=HC.out.2.1 11 _ rfl
  have al:=HC.out.2.1 12 _ rfl
  go_wp2_with fail
  refine(BO.out _ HB.out).mono ?_
  rintro e w7 ⟨A7,c7,rfl,ox,Qu,om⟩
  clear y0 y1 y2 y3 y4 y5 y6 y7 y8 y9 au ao al
  have bI:=hid (HO.out.nc om)
  have dN:=hid (HC.out.below om)
  have HB2:=hid (HB.out.trans (om.mono HB.out.size))
  have Lg:=hid ox.sl1
  have Kn:=gA bI.out (by omega)
  clear HO HC HB ox om BO HOW nH
  go_upto_region 9 with (at_builtin;refine dC rfl (.tmp 38) (.tmp 40) rfl w2.heap.size _ 16 _ rfl bI.out _ (aJ p-16) _ (cu p) rfl Lg.out (by omega) Kn ?_;intro A8 c8 w8 h1 h2 h3 h4 h5 h6;have HO:=hid h1;have hc8:=h2;have HC:=hid (dN.out.below_ h4 lR);have HB:=hid (HB2.out.trans (h4.mono (by omega)));clear h1 h2 h3 h4 h5 h6)
  clear bI dN HB2 Lg Kn
  obtain ⟨n,hn⟩:∃n,n=aJ p:=⟨_,rfl⟩
  have HN:=hid hn
  rw[show 16+(aJ p-16)=n from by omega]at *
  rw[←hn]at e5 e6
  clear hn
  obtain ⟨G,e,hB,hgs,hce,hfr⟩:=Ow.block_ HO.out (by omega)
  subst e
  clear hce hfr hgs
  have mN:w.heap.size≠G:=by omega
  have Ji:=fun W=>eI (G:=G) (n:=n) (c:=c8) 2 2 (by omega) hc8 (by omega) 2 4 4 rfl rfl rfl W
  go_wp2_with fail
  refine(dQ HO.out 2 2 2 (n:Int) (by omega) (by omega)).mono ?_
  rintro e w9 ⟨rfl,hO,hg⟩
  have bI:=hid (show OB w9 w2.heap.size (.slice (some ⟨G,0,none⟩) n c8) n (bU p) from by rw[←F9 p,←HN.out];exact hO)
  have dN:=hid (HC.out.grown hg (fun e=>mN (by injection e with e;exact e.symm)))
  have HB2:=hid (HB.out.trans (af hg (by omega) HB.out.size))
  clear hO hg HO HC HB Ji
  go_upto_region 10 with (fail)
  have Mp:=fun W=>eI (G:=G) (n:=n) (c:=c8) 14 2 (by omega) hc8 (by omega) 14 16 16 rfl rfl rfl W
  have i16:(16:Int)≤c8:=by omega
  have OF:=hid (fun (W:World) (hW:By W (some ⟨G,0,none⟩) n (bU p)) c'=>ub (some ⟨G,0,none⟩) 16 c' (bU p) W (hW.less (k:=16) (by omega)) RB.out (by omega))
  refine wp_region_held_drew (S:=fun _=>True) (by kernel_rfl) trivial (fun hHeld=>?_)
  refine ae 0 hHeld ?_
  refine ae 1 hHeld ?_
  refine ae 2 hHeld ?_
  refine ae 3 hHeld ?_
  refine only 4 rfl (by kernel_rfl) rfl (fun K hK=>?_)
  go_simp
  refine(OF.out _ (Ow.sl1 (Ow.drew bI.out)) _).mono ?_
  rintro e' w' ⟨rfl,m,rfl⟩
  try go_wp2_with fail
  refine hK.out _ _ trivial (fun _=>?_)
  clear hK
  (try simp only[Act.put,zA,zB,zC])
  refine only 5 rfl (by kernel_rfl) rfl (fun K hK=>?_)
  go_simp
  refine(dQ (Ow.drewN bI.out (1+m)) 14 2 2 (65535-norm (tot (bU p) 16)) (by omega) (by omega)).mono ?_
  rintro e' eW ⟨rfl,hO,hg⟩
  try go_wp2_with fail
  refine hK.out _ _ trivial (fun _=>?_)
  have hg2:w9.grownBy eW (some G):=⟨hg.os,hg.tape,hg.output,hg.size,hg.block⟩
  have HO:=hid (show OB eW w2.heap.size (.slice (some ⟨G,0,none⟩) n c8) n (aR p) from hO)
  have HC:=hid (dN.out.grown hg2 (fun e=>mN (by injection e with e;exact e.symm)))
  have HB:=hid (HB2.out.trans (af hg2 (by omega) HB2.out.size))
  clear hK hO hg hg2 bI dN HB2 Mp OF RB
  (try simp only[Act.put,zA,zB,zC])
  refine wpAnyH_done (by kernel_rfl) ?_ _
  have y0:=HC.out.2.1 0 _ rfl
  have y9:=HC.out.2.1 9 _ rfl
  cases k2:(p.kind != 2)
  ·have k2':p.kind=2:=by simpa using k2
   cases bb:p.bare
   ·have BN:=hid (show ¬(p.kind=2∧p.bare=true) from fun e=>by rw[bb]at e;exact absurd e.2 (by decide))
    replace k2':=hid k2'
    rw[bb]at y9
    have S0:=hid (dc (i9 (some ⟨G,0,none⟩) n c8 (aR p) eW HO.out.sl1 (by omega)) (show ((aI (aR p 0):Nat):Int)=((aI p.kind:Nat):Int) from by rw[pu]))
    have sl:=gm (aR p)
    rw[pu]at sl
    obtain ⟨s,hs⟩:∃s,s=aI p.kind:=⟨_,rfl⟩
    have HS:=hid hs
    rw[←hs]at S0 sl
    clear hs
    go_wp2_with fail
    refine S0.out.mono ?_
    rintro e w' ⟨rfl,rfl⟩
    clear y0 y9
    go_upto_region 13 with (fail)
    have O0:=fun W=>eI (G:=G) (n:=n) (c:=c8) s 2 (by omega) hc8 (by omega) s (s+2) (s+2) rfl rfl rfl W
    have qs:IntKind.i64.wrap ((s:Int)+2)=(s:Int)+2:=IntWalk.i64_in _ (by omega)
    have SM:=hid (fun (W:World) (hW:By W (some ⟨G,0,none⟩) n (aR p))=>qt (some ⟨G,0,none⟩) n c8 (aR p) W hW jm.out e6 hc8 e5)
    have OF:=hid (fun (W:World) A' c' (hW:By W A' (bo (aR p) n) (bq (aR p) n))=>ub A' _ c' _ W hW (jo jm.out n) (by unfold bo;split <;> omega))
    refine wp_region_held_drew (S:=fun _=>True) (by kernel_rfl) trivial (fun hHeld=>?_)
    refine ae 0 hHeld ?_
    refine ae 1 hHeld ?_
    refine ae 2 hHeld ?_
    refine ae 3 hHeld ?_
    refine ae 4 hHeld ?_
    refine ae 5 hHeld ?_
    refine ae 6 hHeld ?_
    refine ae 7 hHeld ?_
    refine only 8 rfl (by kernel_rfl) rfl (fun K hK=>?_)
    go_simp
    refine(SM.out _ (Ow.sl1 (Ow.drew HO.out))).mono ?_
    rintro e' pB ⟨A2,c2,rfl,hS,oo⟩
    try go_wp2_with fail
    refine hK.out _ _ trivial (fun _=>?_)
    clear hK
    (try simp only[Act.put,zA,zB,zC])
    have bI:=hid (OB.nc (Ow.drew HO.out) oo)
    have HB2:=hid (HB.out.drew.trans (oo.mono HB.out.drew.size))
    have HS2:=hid hS
    clear hS oo HO HB
    refine only 9 rfl (by kernel_rfl) rfl (fun K hK=>?_)
    go_simp
    refine(OF.out _ A2 c2 HS2.out).mono ?_
    rintro e' w' ⟨rfl,m',rfl⟩
    try go_wp2_with fail
    refine hK.out _ _ trivial (fun _=>?_)
    clear hK
    (try simp only[Act.put,zA,zB,zC])
    refine only 10 rfl (by kernel_rfl) rfl (fun K hK=>?_)
    go_simp
    refine(dQ (Ow.drewN bI.out m') s 2 2 (65535-norm (tot (bq (aR p) n) (bo (aR p) n))) (by omega) (by omega)).mono ?_
    rintro e' sd ⟨rfl,hO,hg⟩
    try go_wp2_with fail
    refine hK.out _ _ trivial (fun _=>?_)
    have hg2:pB.grownBy sd (some G):=⟨hg.os,hg.tape,hg.output,hg.size,hg.block⟩
    have HO:=hid hO
    have HB:=hid (HB2.out.trans (af hg2 (by omega) HB2.out.size))
    clear hK hO hg hg2 bI HB2
    (try simp only[Act.put,zA,zB,zC])
    refine wpAnyH_done (by kernel_rfl) ?_ _
    have XB:=hid (dd jm.out s 2 (65535-norm (tot (bq (aR p) n) (bo (aR p) n))))
    have k0:ah (aR p) s 2 (65535-norm (tot (bq (aR p) n) (bo (aR p) n))) 0=p.kind:=by rw[aH (by omega),pu]
    replace k0:=hid k0
    go_wp2_with fail
    refine(lx HO.out XB.out (by omega) (.inr e6) hc8 (by omega)).mono ?_
    rintro e vB ⟨rfl,hO,hg⟩
    have bI:=hid hO
    have HB2:=hid (HB.out.trans (af hg (by omega) HB.out.size))
    clear hO hg HO HB
    go_wp2_with fail
    refine bodyPost_ret (v:=.tuple #[.slice (some ⟨G,0,none⟩) n c8,()]) (by simp[results,Tryz.results120,go_sem]) rfl ?_
    rw[HE.out,←HN.out,pL BN.out,←HS.out,←HN.out]
    exact⟨_,rfl,OB.base bI.out (by omega),HB2.out⟩
   ·have BN:=hid (show p.kind=2∧p.bare=true from ⟨k2',bb⟩)
    replace k2':=hid k2'
    rw[bb]at y9
    go_wp2_with fail
    refine bodyPost_ret (v:=.tuple #[.slice (some ⟨G,0,none⟩) n c8,()]) (by simp[results,Tryz.results120,go_sem]) rfl ?_
    rw[HE.out,←HN.out,vt BN.out]
    exact⟨_,rfl,OB.base HO.out (by omega),HB.out⟩
  ·have BN:=hid (show ¬(p.kind=2∧p.bare=true) from fun e=>by have:=e.1;simp at k2;exact k2 this)
   have S0:=hid (dc (i9 (some ⟨G,0,none⟩) n c8 (aR p) eW HO.out.sl1 (by omega)) (show ((aI (aR p 0):Nat):Int)=((aI p.kind:Nat):Int) from by rw[pu]))
   have sl:=gm (aR p)
   rw[pu]at sl
   obtain ⟨s,hs⟩:∃s,s=aI p.kind:=⟨_,rfl⟩
   have HS:=hid hs
   rw[←hs]at S0 sl
   clear hs
   go_wp2_with fail
   refine S0.out.mono ?_
   rintro e w' ⟨rfl,rfl⟩
   clear y0 y9
   go_upto_region 13 with (fail)
   have O0:=fun W=>eI (G:=G) (n:=n) (c:=c8) s 2 (by omega) hc8 (by omega) s (s+2) (s+2) rfl rfl rfl W
   have qs:IntKind.i64.wrap ((s:Int)+2)=(s:Int)+2:=IntWalk.i64_in _ (by omega)
   have SM:=hid (fun (W:World) (hW:By W (some ⟨G,0,none⟩) n (aR p))=>qt (some ⟨G,0,none⟩) n c8 (aR p) W hW jm.out e6 hc8 e5)
   have OF:=hid (fun (W:World) A' c' (hW:By W A' (bo (aR p) n) (bq (aR p) n))=>ub A' _ c' _ W hW (jo jm.out n) (by unfold bo;split <;> omega))
   refine wp_region_held_drew (S:=fun _=>True) (by kernel_rfl) trivial (fun hHeld=>?_)
   refine ae 0 hHeld ?_
   refine ae 1 hHeld ?_
   refine ae 2 hHeld ?_
   refine ae 3 hHeld ?_
   refine ae 4 hHeld ?_
   refine ae 5 hHeld ?_
   refine ae 6 hHeld ?_
   refine ae 7 hHeld ?_
   refine only 8 rfl (by kernel_rfl) rfl (fun K hK=>?_)
   go_simp
   refine(SM.out _ (Ow.sl1 (Ow.drew HO.out))).mono ?_
   rintro e' pB ⟨A2,c2,rfl,hS,oo⟩
   try go_wp2_with fail
   refine hK.out _ _ trivial (fun _=>?_)
   clear hK
   (try simp only[Act.put,zA,zB,zC])
   have bI:=hid (OB.nc (Ow.drew HO.out) oo)
   have HB2:=hid (HB.out.drew.trans (oo.mono HB.out.drew.size))
   have HS2:=hid hS
   clear hS oo HO HB
   refine only 9 rfl (by kernel_rfl) rfl (fun K hK=>?_)
   go_simp
   refine(OF.out _ A2 c2 HS2.out).mono ?_
   rintro e' w' ⟨rfl,m',rfl⟩
   try go_wp2_with fail
   refine hK.out _ _ trivial (fun _=>?_)
   clear hK
   (try simp only[Act.put,zA,zB,zC])
   refine only 10 rfl (by kernel_rfl) rfl (fun K hK=>?_)
   go_simp
   refine(dQ (Ow.drewN bI.out m') s 2 2 (65535-norm (tot (bq (aR p) n) (bo (aR p) n))) (by omega) (by omega)).mono ?_
   rintro e' sd ⟨rfl,hO,hg⟩
   try go_wp2_with fail
   refine hK.out _ _ trivial (fun _=>?_)
   have hg2:pB.grownBy sd (some G):=⟨hg.os,hg.tape,hg.output,hg.size,hg.block⟩
   have HO:=hid hO
   have HB:=hid (HB2.out.trans (af hg2 (by omega) HB2.out.size))
   clear hK hO hg hg2 bI HB2
   (try simp only[Act.put,zA,zB,zC])
   refine wpAnyH_done (by kernel_rfl) ?_ _
   have XB:=hid (dd jm.out s 2 (65535-norm (tot (bq (aR p) n) (bo (aR p) n))))
   have k0:ah (aR p) s 2 (65535-norm (tot (bq (aR p) n) (bo (aR p) n))) 0=p.kind:=by rw[aH (by omega),pu]
   replace k0:=hid k0
   go_wp2_with fail
   refine(lx HO.out XB.out (by omega) (.inr e6) hc8 (by omega)).mono ?_
   rintro e vB ⟨rfl,hO,hg⟩
   have bI:=hid hO
   have HB2:=hid (HB.out.trans (af hg (by omega) HB.out.size))
   clear hO hg HO HB
   go_wp2_with fail
   refine bodyPost_ret (v:=.tuple #[.slice (some ⟨G,0,none⟩) n c8,()]) (by simp[results,Tryz.results120,go_sem]) rfl ?_
   rw[HE.out,←HN.out,pL BN.out,←HS.out,←HN.out]
   exact⟨_,rfl,OB.base bI.out (by omega),HB2.out⟩
 ·have HZ:=hid (show z≠0 from by simpa using z0)
  have HE:=hid hz
  clear hz
  go_enter Tryz.func120,Tryz.ntmps120
  go_upto_region 1 with (fail)
  generalize (w.alloc (.cells #[p.kind,p.life,p.piece,p.src,p.dst,p.fp,p.tp,p.flags,p.label,p.bare,p.code,.slice AO p.no cO,.slice AD p.nd cD] 53))=w1 at *
  have lP:w.heap.size<w1.heap.size:=CE.out.1
  have y0:=CE.out.2.1 0 _ rfl
  have y1:=CE.out.2.1 1 _ rfl
  have y2:=CE.out.2.1 2 _ rfl
  have y3:=CE.out.2.1 3 _ rfl
  have y4:=CE.out.2.1 4 _ rfl
  have y5:=CE.out.2.1 5 _ rfl
  have y6:=CE.out.2.1 6 _ rfl
  have y7:=CE.out.2.1 7 _ rfl
  have y8:=CE.out.2.1 8 _ rfl
  have y9:=CE.out.2.1 9 _ rfl
  have au:=CE.out.2.1 10 _ rfl
  have ao:=CE.out.2.1 11 _ rfl
  have al:=CE.out.2.1 12 _ rfl
  go_wp2_with fail
  refine(CK.out _).mono ?_
  rintro e w2 ⟨rfl,hb⟩
  have HC:=hid (CE.out.below hb)
  have HB:=hid (B0.out.trans (hb.mono B0.out.size))
  have lw:w1.heap.size≤w2.heap.size:=hb.size
  clear hb CE B0 CK
  clear y0 y1 y2 y3 y4 y5 y6 y7 y8 y9 au ao al
  go_wp2_with fail
  refine bodyPost_ret (v:=.tuple #[.slice none 0 0,z]) (by simp[results,Tryz.results120,go_sem]) rfl ?_
  rw[←HE.out]
  exact aQ HZ.out HB.out
end Go.Proofs.YtalnfkijiehjhaaGreat
