/- Who stands at a place. Who stands at a place, as the reference tells it. Find. The reference's Find. -/
import Derived.Test.YtalnfkijiehjhaaGreatGa
import Derived.Test.YtalnfkijiehjhaaGreatGc
import Derived.BigQuiet
import Derived.Deep.RegionHeld3
import Derived.Deep.Cut
namespace Go.Proofs.YtalnfkijiehjhaaGreat
set_option linter.unusedVariables false
set_option linter.unusedSimpArgs false
open Go.RowKit Go.ChangeShapes Go.WideShapes Go.ChangeAt
theorem qQI{P:Prop}(h:P:=by
 go_roundw
 case rel=>exact⟨k+1,by omega,by go_num,fun j hj=>(by rcases Nat.lt_or_ge j k with h |h;exact hno.out j h;(rw[show j=k by omega];exact AF.out)),by repeat' (first |with_reducible exact HB2.out |with_reducible refine Below.drew ?_ |with_reducible refine Below.alloc ?_ HB2.out.size _ |with_reducible refine Below.setCell ?_ HB2.out.size _)⟩
 simp[intOf];omega
 ):P:=h
set_option maxRecDepth 100000 in
set_option maxHeartbeats 4000000 in
theorem DK (p:Pl)(a q:Int)(w:World):Calls Tryz.prog 109 #[gG p,a,q] w fun x w'=>x =.returned (.bool (uu p a q))∧Below w.heap.size w w':=by
 unfold gG uu
 go_enter Tryz.func109,Tryz.ntmps109
 go_upto_region 1 with (fail)
 have P1:=hid (au.made (w:=w) (p:=p) (T:=34) rfl)
 have HB:=hid ((Below.refl w.heap.size w).alloc (Nat.le_refl _) (.cells (PA p) 34))
 generalize w.alloc (.cells (PA p) 34)=w1 at *
 generalize hK:w.heap.size=P at *
 have HK:=hid hK
 clear hK
 go_wp2_with fail
 go_loopw [7] (fun i wr=>∃k:Nat,k≤64∧i =.int .i64 (k:Int)∧(∀j,j<k→vK p a q j=false)∧Below w1.heap.size w1 wr) (fun i _=>64-(intOf i).toNat)
 case atStart=>exact⟨0,by omega,rfl,fun j hj=>absurd hj (by omega),Below.refl _ _⟩
 obtain ⟨k,hk,rfl,hno,hb⟩:=hrel
 replace hno:=hid hno
 have P2:=hid (P1.out.below hb)
 have HB2:=hid hb
 clear hb
 by_cases hlt:k<64
 ·have i1:(k:Int)<64:=by omega
  have LK:=P2.out.lp k hlt
  have AT:Hid (vK p a q k=((p.s k).st != 0&&(p.s k).ad==a&&(p.s k).po==q)):=hid rfl
  unfold ik at LK
  generalize p.s k=s at *
  obtain ⟨st,ad,po,we,si⟩:=s
  simp only at LK AT
  have h6:(st != 0)=false∨(st != 0)=true∧(ad==a)=false∨(st != 0)=true∧(ad==a)=true∧(po==q)=false∨(st != 0)=true∧(ad==a)=true∧(po==q)=true:=by cases (st != 0) <;> cases (ad==a) <;> cases (po==q) <;> simp
  rcases h6 with h6 |⟨h6,h7⟩ |⟨h6,h7,h8⟩ |⟨h6,h7,h8⟩
  ·have AF:Hid (vK p a q k=false):=hid (by rw[AT.out];simp[h6])
   clear AT
   go_wp2_with (refine cu rfl rfl rfl LK ?_)
   exact qQI
  ·have AF:Hid (vK p a q k=false):=hid (by rw[AT.out];simp[h6,h7])
   clear AT
   go_wp2_with (refine cu rfl rfl rfl LK ?_)
   exact qQI
  ·have AF:Hid (vK p a q k=false):=hid (by rw[AT.out];simp[h6,h7,h8])
   clear AT
   go_wp2_with (refine cu rfl rfl rfl LK ?_)
   exact qQI
  have AF:Hid (vK p a q k=true):=hid (by rw[AT.out,h6,h7,h8];rfl)
  clear AT
  go_wp2_with (refine cu rfl rfl rfl LK ?_)
  go_ret
  exact⟨by rw[Gv k hlt AF.out,Bool.or_true];rfl,by rw[HK.out];refine HB.out.trans (Below.mono ?_ (by have:=HB.out.size;rw[HK.out]at this;exact this));repeat' (first |with_reducible exact HB2.out |with_reducible refine Below.drew ?_ |with_reducible refine Below.alloc ?_ HB2.out.size _ |with_reducible refine Below.setCell ?_ HB2.out.size _)⟩
 have e:k=64:=by omega
 subst e
 have c1:=P2.out.c1
 have c2:=P2.out.c2
 have HN:=hid (Jw hno.out)
 cases h4:(p.a==a) <;> cases h5:(p.p==q)
 all_goals
  go_wp2_with fail
  go_ret
  exact⟨by rw[HN.out,h4,h5];rfl,by rw[HK.out];exact HB.out.trans (HB2.out.mono (by have:=HB.out.size;rw[HK.out]at this;exact this))⟩
def xC (o:Option Nat):Value:=.tuple #[(o.getD 0:Nat),o.isSome]
def JF (p:Pl):Prop:=∀i,i<64→0≤(p.s i).st∧(p.s i).st≤4
theorem Cw {s:Int}(h:0≤s∧s≤4):dO s=(s != 0&&s != 4):=by
 unfold dO
 have:s=0∨s=1∨s=2∨s=3∨s=4:=by omega
 rcases this with rfl |rfl |rfl |rfl |rfl <;> rfl
theorem qZE{P:Prop}(h:P:=by
 have e:k=64:=by omega
 subst e
 have HO:Hid (f=none):=hid (by rw[HF.out];exact xy hno.out)
 go_wp2_with fail
 go_ret2
 exact⟨by rw[HO.out];rfl,by rw[HK.out];exact HB.out.trans (HB2.out.mono (by have:=HB.out.size;rw[HK.out]at this;exact this))⟩
 ):P:=h
set_option maxRecDepth 100000 in
set_option maxHeartbeats 4000000 in
theorem DZ (p:Pl)(hS:JF p)(a q:Int)(w:World):Calls Tryz.prog 47 #[gG p,a,q] w fun x w'=>x =.returned (xC (fu p a q))∧Below w.heap.size w w':=by
 obtain ⟨f,hf⟩:∃f,f=fu p a q:=⟨_,rfl⟩
 have HF:=hid hf
 rw[←hf]
 clear hf
 unfold gG xC
 go_enter Tryz.func47,Tryz.ntmps47
 go_upto_region 1 with (fail)
 have P1:=hid (au.made (w:=w) (p:=p) (T:=34) rfl)
 have HB:=hid ((Below.refl w.heap.size w).alloc (Nat.le_refl _) (.cells (PA p) 34))
 generalize w.alloc (.cells (PA p) 34)=w1 at *
 generalize hK:w.heap.size=P at *
 have HK:=hid hK
 clear hK
 have LS:=P1.out.yv
 go_wp2_with (refine cu rfl rfl rfl LS ?_)
 go_loopw [12] (fun i wr=>∃k:Nat,k≤64∧i =.int .i64 (k:Int)∧(∀j,j<k→lI p a q j=false)∧Below w1.heap.size w1 wr) (fun i _=>64-(intOf i).toNat)
 case atStart=>exact⟨0,by omega,rfl,fun j hj=>absurd hj (by omega),Below.refl _ _⟩
 obtain ⟨k,hk,rfl,hno,hb⟩:=hrel
 replace hno:=hid hno
 clear LS
 have HB2:=hid hb
 clear hb
 by_cases hlt:k<64
 ·have i1:(k:Int)<64:=by omega
  have IX:=rh p.s k hlt wr
  have AT:Hid (lI p a q k=(dO (p.s k).st&&(p.s k).ad==a&&(p.s k).po==q)):=hid rfl
  have hst:=hS k hlt
  unfold ik at IX
  generalize p.s k=s at *
  obtain ⟨st,ad,po,we,si⟩:=s
  simp only at IX AT hst
  have HT:=hid (Cw hst)
  clear hst
  replace AT:=hid (by rw[AT.out,HT.out]:lI p a q k=((st != 0&&st != 4)&&ad==a&&po==q))
  clear HT
  go_upto_region 4 with (refine nC rfl rfl rfl rfl IX ?_)
  clear IX
  have h6:(st != 0)=false∨(st != 0)=true∧(st != 4)=false∨(st != 0)=true∧(st != 4)=true∧(ad==a)=false∨(st != 0)=true∧(st != 4)=true∧(ad==a)=true∧(po==q)=false∨(st != 0)=true∧(st != 4)=true∧(ad==a)=true∧(po==q)=true:=by cases (st != 0) <;> cases (st != 4) <;> cases (ad==a) <;> cases (po==q) <;> simp
  rcases h6 with h6 |⟨h6,h7⟩ |⟨h6,h7,h8⟩ |⟨h6,h7,h8,h9⟩ |⟨h6,h7,h8,h9⟩
  ·have AF:Hid (lI p a q k=false):=hid (by rw[AT.out];simp[h6])
   clear AT
   go_wp2_with fail
   exact qQI
  ·have AF:Hid (lI p a q k=false):=hid (by rw[AT.out];simp[h6,h7])
   clear AT
   go_wp2_with fail
   exact qQI
  ·have AF:Hid (lI p a q k=false):=hid (by rw[AT.out];simp[h6,h7,h8])
   clear AT
   go_wp2_with fail
   exact qQI
  ·have AF:Hid (lI p a q k=false):=hid (by rw[AT.out];simp[h6,h7,h8,h9])
   clear AT
   go_wp2_with fail
   exact qQI
  have AF:Hid (lI p a q k=true):=hid (by rw[AT.out];simp[h6,h7,h8,h9])
  clear AT
  have HO:Hid (f=some k):=hid (by rw[HF.out];exact vu k hlt hno.out AF.out)
  go_wp2_with fail
  go_ret2
  exact⟨by rw[HO.out];rfl,by rw[HK.out];refine HB.out.trans (Below.mono ?_ (by have:=HB.out.size;rw[HK.out]at this;exact this));repeat' (first |with_reducible exact HB2.out |with_reducible refine Below.drew ?_ |with_reducible refine Below.alloc ?_ HB2.out.size _ |with_reducible refine Below.setCell ?_ HB2.out.size _)⟩
 exact qZE
theorem qX1{P:Prop}(h:P:=by
 clear AT
 go_wp2_with fail
 go_roundw
 case rel=>exact⟨k+1,by omega,by go_num,fun j hj=>(by rcases Nat.lt_or_ge j k with h |h;exact hno.out j h;(rw[show j=k by omega];exact AF.out)),mh.out⟩
 simp[intOf];omega
 ):P:=h
set_option maxRecDepth 100000 in
set_option maxHeartbeats 4000000 in
theorem Aa (p:Pl)(a q:Int)(w:World):Calls Tryz.prog 52 #[gG p,a,q] w fun x w'=>x =.returned (xC (fu p a q))∧Below w.heap.size w w':=by
 obtain ⟨f,hf⟩:∃f,f=fu p a q:=⟨_,rfl⟩
 have HF:=hid hf
 rw[←hf]
 clear hf
 unfold gG xC
 go_enter Tryz.func52,Tryz.ntmps52
 go_upto_region 1 with (fail)
 have P1:=hid (au.made (w:=w) (p:=p) (T:=34) rfl)
 have HB:=hid ((Below.refl w.heap.size w).alloc (Nat.le_refl _) (.cells (PA p) 34))
 generalize w.alloc (.cells (PA p) 34)=w1 at *
 generalize hK:w.heap.size=P at *
 have HK:=hid hK
 clear hK
 go_wp2_with fail
 go_loopw [8] (fun i wr=>∃k:Nat,k≤64∧i =.int .i64 (k:Int)∧(∀j,j<k→lI p a q j=false)∧Below w1.heap.size w1 wr) (fun i _=>64-(intOf i).toNat)
 case atStart=>exact⟨0,by omega,rfl,fun j hj=>absurd hj (by omega),Below.refl _ _⟩
 obtain ⟨k,hk,rfl,hno,hb⟩:=hrel
 replace hno:=hid hno
 have P2:=hid (P1.out.below hb)
 have HB2:=hid hb
 clear hb
 by_cases hlt:k<64
 ·have i1:(k:Int)<64:=by omega
  have LK:=P2.out.lp k hlt
  have AT:Hid (lI p a q k=(dO (p.s k).st&&(p.s k).ad==a&&(p.s k).po==q)):=hid rfl
  have TK:=hid (fun w=>nF (p.s k) w)
  unfold ik at LK TK
  generalize p.s k=s at *
  obtain ⟨st,ad,po,we,si⟩:=s
  simp only at LK AT TK
  generalize dO st=tb at *
  go_upto_region 5 with (refine cu rfl rfl rfl LK ?_)
  have CX:=Ce.made (w:=wr) (l:=[st,ad,po,we,si]) (T:=26) (g:=wr.heap.size) rfl
  have B3:=HB2.out.alloc HB2.out.size (.cells #[st,ad,po,we,si] 26)
  generalize wr.alloc (.cells #[st,ad,po,we,si] 26)=w2 at *
  have lV:=HB2.out.size
  generalize wr.heap.size=V at *
  clear LK P2
  have x0:=CX.2.1 0 _ rfl
  have x1:=CX.2.1 1 _ rfl
  have x2:=CX.2.1 2 _ rfl
  have x3:=CX.2.1 3 _ rfl
  have x4:=CX.2.1 4 _ rfl
  go_wp2_with fail
  refine(TK.out _).mono ?_
  rintro x' w3 ⟨rfl,hb⟩
  have CY:=CX.below hb
  have B4:=B3.trans (hb.mono (Nat.le_trans lV (Nat.le_of_lt CX.1)))
  clear x0 x1 x2 x3 x4 hb CX B3
  have mh:=hid B4
  clear B4
  have x0:=CY.2.1 0 _ rfl
  have x1:=CY.2.1 1 _ rfl
  have x2:=CY.2.1 2 _ rfl
  have x3:=CY.2.1 3 _ rfl
  have x4:=CY.2.1 4 _ rfl
  clear CY
  have h6:tb=false∨tb=true∧(ad==a)=false∨tb=true∧(ad==a)=true∧(po==q)=false∨tb=true∧(ad==a)=true∧(po==q)=true:=by cases tb <;> cases (ad==a) <;> cases (po==q) <;> simp
  rcases h6 with h6 |⟨h6,h7⟩ |⟨h6,h7,h8⟩ |⟨h6,h7,h8⟩
  ·subst h6
   have AF:Hid (lI p a q k=false):=hid (by rw[AT.out];simp[])
   exact qX1
  ·subst h6
   have AF:Hid (lI p a q k=false):=hid (by rw[AT.out];simp[h7])
   exact qX1
  ·subst h6
   have AF:Hid (lI p a q k=false):=hid (by rw[AT.out];simp[h7,h8])
   exact qX1
  subst h6
  have AF:Hid (lI p a q k=true):=hid (by rw[AT.out];simp[h7,h8])
  clear AT
  have HO:Hid (f=some k):=hid (by rw[HF.out];exact vu k hlt hno.out AF.out)
  go_wp2_with fail
  go_ret2
  exact⟨by rw[HO.out];rfl,by rw[HK.out];exact HB.out.trans (mh.out.mono (by have:=HB.out.size;rw[HK.out]at this;exact this))⟩
 exact qZE
end Go.Proofs.YtalnfkijiehjhaaGreat
