/- Who stands at a place. Who stands at a place, as the reference tells it. Find. The reference's Find. -/
import Derived.Test.YtgfonkagnambiaaGreatGa
import Derived.Test.YtgfonkagnambiaaGreatGc
import Derived.BigQuiet
import Derived.Deep.RegionHeld3
import Derived.Deep.Cut
namespace Go.Proofs.YtgfonkagnambiaaGreat
set_option linter.unusedVariables false
set_option linter.unusedSimpArgs false
open Go.RowKit Go.ChangeShapes Go.WideShapes Go.ChangeAt
set_option maxRecDepth 100000 in
set_option maxHeartbeats 9000000 in
theorem zI (p:Pl)(a q:Int)(w:World):Calls Tryz.prog 103 #[fH p,a,q] w fun x w'=>x =.returned (.bool (rk p a q))∧Below w.heap.size w w':=by
 unfold fH rk
 go_enter Tryz.func103,Tryz.ntmps103
 go_upto_region 1 with (fail)
 have P1:=hid (al.made (w:=w) (p:=p) (T:=33) rfl)
 have HB:=hid ((Below.refl w.heap.size w).alloc (Nat.le_refl _) (.cells (PA p) 33))
 generalize w.alloc (.cells (PA p) 33)=w1 at *
 generalize hK:w.heap.size=P at *
 have HK:=hid hK
 clear hK
 go_wp2_with fail
 go_loopw [7] (fun i wr=>∃k:Nat,k≤64∧i =.int .i64 (k:Int)∧(∀j,j<k→sP p a q j=false)∧Below w1.heap.size w1 wr) (fun i _=>64-(intOf i).toNat)
 case atStart=>exact⟨0,by omega,rfl,fun j hj=>absurd hj (by omega),Below.refl _ _⟩
 obtain ⟨k,hk,rfl,hno,hb⟩:=hrel
 replace hno:=hid hno
 have P2:=hid (P1.out.below hb)
 have HB2:=hid hb
 clear hb
 by_cases hlt:k<64
 ·have i1:(k:Int)<64:=by omega
  have LK:=P2.out.lF k hlt
  have AT:Hid (sP p a q k=((p.s k).st != 0&&(p.s k).ad==a&&(p.s k).po==q)):=hid rfl
  unfold gI at LK
  generalize p.s k=s at *
  obtain ⟨st,ad,po,we,si⟩:=s
  simp only at LK AT
  have h6:(st != 0)=false∨(st != 0)=true∧(ad==a)=false∨(st != 0)=true∧(ad==a)=true∧(po==q)=false∨(st != 0)=true∧(ad==a)=true∧(po==q)=true:=by cases (st != 0) <;> cases (ad==a) <;> cases (po==q) <;> simp
  rcases h6 with h6 |⟨h6,h7⟩ |⟨h6,h7,h8⟩ |⟨h6,h7,h8⟩
  ·have AF:Hid (sP p a q k=false):=hid (by rw[AT.out];simp[h6])
   clear AT
   go_wp2_with (refine bN rfl rfl rfl LK ?_)
   go_roundw
   case rel=>exact⟨k+1,by omega,by go_num,fun j hj=>(by rcases Nat.lt_or_ge j k with h |h;exact hno.out j h;(rw[show j=k by omega];exact AF.out)),by repeat' (first |with_reducible exact HB2.out |with_reducible refine Below.drew ?_ |with_reducible refine Below.alloc ?_ HB2.out.size _ |with_reducible refine Below.setCell ?_ HB2.out.size _)⟩
   simp[intOf];omega
  ·have AF:Hid (sP p a q k=false):=hid (by rw[AT.out];simp[h6,h7])
   clear AT
   go_wp2_with (refine bN rfl rfl rfl LK ?_)
   go_roundw
   case rel=>exact⟨k+1,by omega,by go_num,fun j hj=>(by rcases Nat.lt_or_ge j k with h |h;exact hno.out j h;(rw[show j=k by omega];exact AF.out)),by repeat' (first |with_reducible exact HB2.out |with_reducible refine Below.drew ?_ |with_reducible refine Below.alloc ?_ HB2.out.size _ |with_reducible refine Below.setCell ?_ HB2.out.size _)⟩
   simp[intOf];omega
  ·have AF:Hid (sP p a q k=false):=hid (by rw[AT.out];simp[h6,h7,h8])
   clear AT
   go_wp2_with (refine bN rfl rfl rfl LK ?_)
   go_roundw
   case rel=>exact⟨k+1,by omega,by go_num,fun j hj=>(by rcases Nat.lt_or_ge j k with h |h;exact hno.out j h;(rw[show j=k by omega];exact AF.out)),by repeat' (first |with_reducible exact HB2.out |with_reducible refine Below.drew ?_ |with_reducible refine Below.alloc ?_ HB2.out.size _ |with_reducible refine Below.setCell ?_ HB2.out.size _)⟩
   simp[intOf];omega
  have AF:Hid (sP p a q k=true):=hid (by rw[AT.out,h6,h7,h8];rfl)
  clear AT
  go_wp2_with (refine bN rfl rfl rfl LK ?_)
  go_ret
  exact⟨by rw[De k hlt AF.out,Bool.or_true];rfl,by rw[HK.out];refine HB.out.trans (Below.mono ?_ (by have:=HB.out.size;rw[HK.out]at this;exact this));repeat' (first |with_reducible exact HB2.out |with_reducible refine Below.drew ?_ |with_reducible refine Below.alloc ?_ HB2.out.size _ |with_reducible refine Below.setCell ?_ HB2.out.size _)⟩
 have e:k=64:=by omega
 subst e
 have c1:=P2.out.c1
 have c2:=P2.out.c2
 have HN:=hid (Fs hno.out)
 cases h4:(p.a==a) <;> cases h5:(p.p==q)
 all_goals
  go_wp2_with fail
  go_ret
  exact⟨by rw[HN.out,h4,h5];rfl,by rw[HK.out];exact HB.out.trans (HB2.out.mono (by have:=HB.out.size;rw[HK.out]at this;exact this))⟩
def Ig (o:Option Nat):Value:=.tuple #[(o.getD 0:Nat),o.isSome]
def FF (p:Pl):Prop:=∀i,i<64→0≤(p.s i).st∧(p.s i).st≤4
theorem yQ {s:Int}(h:0≤s∧s≤4):fV s=(s != 0&&s != 4):=by
 unfold fV
 have:s=0∨s=1∨s=2∨s=3∨s=4:=by omega
 rcases this with rfl |rfl |rfl |rfl |rfl <;> rfl
set_option maxRecDepth 100000 in
set_option maxHeartbeats 9000000 in
theorem zZ (p:Pl)(hS:FF p)(a q:Int)(w:World):Calls Tryz.prog 29 #[fH p,a,q] w fun x w'=>x =.returned (Ig (gS p a q))∧Below w.heap.size w w':=by
 obtain ⟨f,hf⟩:∃f,f=gS p a q:=⟨_,rfl⟩
 have HF:=hid hf
 rw[←hf]
 clear hf
 unfold fH Ig
 go_enter Tryz.func29,Tryz.ntmps29
 go_upto_region 1 with (fail)
 have P1:=hid (al.made (w:=w) (p:=p) (T:=33) rfl)
 have HB:=hid ((Below.refl w.heap.size w).alloc (Nat.le_refl _) (.cells (PA p) 33))
 generalize w.alloc (.cells (PA p) 33)=w1 at *
 generalize hK:w.heap.size=P at *
 have HK:=hid hK
 clear hK
 have LS:=P1.out.vm
 go_wp2_with (refine bN rfl rfl rfl LS ?_)
 go_loopw [12] (fun i wr=>∃k:Nat,k≤64∧i =.int .i64 (k:Int)∧(∀j,j<k→oK p a q j=false)∧Below w1.heap.size w1 wr) (fun i _=>64-(intOf i).toNat)
 case atStart=>exact⟨0,by omega,rfl,fun j hj=>absurd hj (by omega),Below.refl _ _⟩
 obtain ⟨k,hk,rfl,hno,hb⟩:=hrel
 replace hno:=hid hno
 clear LS
 have HB2:=hid hb
 clear hb
 by_cases hlt:k<64
 ·have i1:(k:Int)<64:=by omega
  have IX:=oy p.s k hlt wr
  have AT:Hid (oK p a q k=(fV (p.s k).st&&(p.s k).ad==a&&(p.s k).po==q)):=hid rfl
  have hst:=hS k hlt
  unfold gI at IX
  generalize p.s k=s at *
  obtain ⟨st,ad,po,we,si⟩:=s
  simp only at IX AT hst
  have HT:=hid (yQ hst)
  clear hst
  replace AT:=hid (by rw[AT.out,HT.out]:oK p a q k=((st != 0&&st != 4)&&ad==a&&po==q))
  clear HT
  go_upto_region 4 with (refine lk rfl rfl rfl rfl IX ?_)
  clear IX
  have h6:(st != 0)=false∨(st != 0)=true∧(st != 4)=false∨(st != 0)=true∧(st != 4)=true∧(ad==a)=false∨(st != 0)=true∧(st != 4)=true∧(ad==a)=true∧(po==q)=false∨(st != 0)=true∧(st != 4)=true∧(ad==a)=true∧(po==q)=true:=by cases (st != 0) <;> cases (st != 4) <;> cases (ad==a) <;> cases (po==q) <;> simp
  rcases h6 with h6 |⟨h6,h7⟩ |⟨h6,h7,h8⟩ |⟨h6,h7,h8,h9⟩ |⟨h6,h7,h8,h9⟩
  ·have AF:Hid (oK p a q k=false):=hid (by rw[AT.out];simp[h6])
   clear AT
   go_wp2_with fail
   go_roundw
   case rel=>exact⟨k+1,by omega,by go_num,fun j hj=>(by rcases Nat.lt_or_ge j k with h |h;exact hno.out j h;(rw[show j=k by omega];exact AF.out)),by repeat' (first |with_reducible exact HB2.out |with_reducible refine Below.drew ?_ |with_reducible refine Below.alloc ?_ HB2.out.size _ |with_reducible refine Below.setCell ?_ HB2.out.size _)⟩
   simp[intOf];omega
  ·have AF:Hid (oK p a q k=false):=hid (by rw[AT.out];simp[h6,h7])
   clear AT
   go_wp2_with fail
   go_roundw
   case rel=>exact⟨k+1,by omega,by go_num,fun j hj=>(by rcases Nat.lt_or_ge j k with h |h;exact hno.out j h;(rw[show j=k by omega];exact AF.out)),by repeat' (first |with_reducible exact HB2.out |with_reducible refine Below.drew ?_ |with_reducible refine Below.alloc ?_ HB2.out.size _ |with_reducible refine Below.setCell ?_ HB2.out.size _)⟩
   simp[intOf];omega
  ·have AF:Hid (oK p a q k=false):=hid (by rw[AT.out];simp[h6,h7,h8])
   clear AT
   go_wp2_with fail
   go_roundw
   case rel=>exact⟨k+1,by omega,by go_num,fun j hj=>(by rcases Nat.lt_or_ge j k with h |h;exact hno.out j h;(rw[show j=k by omega];exact AF.out)),by repeat' (first |with_reducible exact HB2.out |with_reducible refine Below.drew ?_ |with_reducible refine Below.alloc ?_ HB2.out.size _ |with_reducible refine Below.setCell ?_ HB2.out.size _)⟩
   simp[intOf];omega
  ·have AF:Hid (oK p a q k=false):=hid (by rw[AT.out];simp[h6,h7,h8,h9])
   clear AT
   go_wp2_with fail
   go_roundw
   case rel=>exact⟨k+1,by omega,by go_num,fun j hj=>(by rcases Nat.lt_or_ge j k with h |h;exact hno.out j h;(rw[show j=k by omega];exact AF.out)),by repeat' (first |with_reducible exact HB2.out |with_reducible refine Below.drew ?_ |with_reducible refine Below.alloc ?_ HB2.out.size _ |with_reducible refine Below.setCell ?_ HB2.out.size _)⟩
   simp[intOf];omega
  have AF:Hid (oK p a q k=true):=hid (by rw[AT.out];simp[h6,h7,h8,h9])
  clear AT
  have HO:Hid (f=some k):=hid (by rw[HF.out];exact zY k hlt hno.out AF.out)
  go_wp2_with fail
  go_ret2
  exact⟨by rw[HO.out];rfl,by rw[HK.out];refine HB.out.trans (Below.mono ?_ (by have:=HB.out.size;rw[HK.out]at this;exact this));repeat' (first |with_reducible exact HB2.out |with_reducible refine Below.drew ?_ |with_reducible refine Below.alloc ?_ HB2.out.size _ |with_reducible refine Below.setCell ?_ HB2.out.size _)⟩
 have e:k=64:=by omega
 subst e
 have HO:Hid (f=none):=hid (by rw[HF.out];exact CI hno.out)
 go_wp2_with fail
 go_ret2
 exact⟨by rw[HO.out];rfl,by rw[HK.out];exact HB.out.trans (HB2.out.mono (by have:=HB.out.size;rw[HK.out]at this;exact this))⟩
end Go.Proofs.YtgfonkagnambiaaGreat
