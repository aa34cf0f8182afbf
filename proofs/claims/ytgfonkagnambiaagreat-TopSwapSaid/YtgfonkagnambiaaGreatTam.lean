/- What goes on through a unit is whole where it was. What goes through two units, out and in. -/
import Derived.Test.YtgfonkagnambiaaGreatGa
import Derived.Test.YtgfonkagnambiaaGreatTpk
import Derived.Test.YtgfonkagnambiaaGreatGz
import Derived.BigQuiet
import Derived.Deep.RegionHeld3
import Derived.Deep.Cut
import Derived.IntWalk
import Derived.Test.YtgfonkagnambiaaGreatMkp
namespace Go.Proofs.YtgfonkagnambiaaGreat
set_option linter.unusedVariables false
set_option linter.unusedSimpArgs false
open Go.RowKit Go.ChangeShapes Go.WideShapes Go.ChangeAt
structure Bl (x:Pk):Prop where
 kd:x.kind=1∨x.kind=2
 tp:0≤x.tp∧x.tp≤65535
 fl:0≤x.flags∧x.flags≤15
 lb:0≤x.label∧x.label≤65535
 cl:(x.kind≠1→x.flags=0∧x.no=0)∧(x.kind≠2→x.label=0∧x.bare=false)∧x.code=0
 go:az x.go
 gd:az x.gd
 no:x.no≤40
 nd:x.nd≤200
theorem Jz {x:Pk}(h:Bl x)(hl:0≤x.life∧x.life≤255)(hp:x.piece=0)(hs:0≤x.src∧x.src≤4294967295)(hd:0≤x.dst∧x.dst≤4294967295)(hf:0≤x.fp∧x.fp≤65535):ax x=0∧Clean x∧24≤aG x∧aG x≤1500∧aG x=24+(if x.kind=2 then 0 else x.no)+x.nd:=by
 have hn:=h.no
 have hm:=h.nd
 have ht:=h.tp
 have hfl:=h.fl
 have hlb:=h.lb
 have hL:aG x=24+(if x.kind=2 then 0 else x.no)+x.nd:=by
  unfold aG
  rcases h.kd with k |k
  ·rw[k,if_neg (by decide),if_neg (by decide),if_neg (by decide)]
  rw[k,if_neg (by decide),if_pos rfl,if_pos rfl]
 have hL2:aG x≤1500:=by rw[hL];split <;> omega
 have hr:aV x=true:=by
  unfold aV bW
  rcases h.kd with k |k
  ·rw[k,hp,if_neg (by decide),if_neg (by decide)];simp;omega
  rw[k,hp,if_neg (by decide),if_pos rfl];simp;omega
 refine⟨?_,⟨fun k=>?_,h.cl.1,h.cl.2.1,fun _=>h.cl.2.2⟩,by omega,hL2,hL⟩
 ·unfold ax
  rw[hr,if_neg (by rcases h.kd with k |k <;> (rw[k];decide)),if_neg (by simp),if_neg (by omega),if_neg (by rcases h.kd with k |k <;> omega)]
 rcases h.kd with j |j <;> (rw[j]at k;exact absurd k (by decide))
end Go.Proofs.YtgfonkagnambiaaGreat
