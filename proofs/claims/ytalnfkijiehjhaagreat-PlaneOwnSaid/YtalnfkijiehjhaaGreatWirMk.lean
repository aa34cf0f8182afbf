/- Make. -/
import Derived.Test.YtalnfkijiehjhaaGreatGa
import Derived.Test.YtalnfkijiehjhaaGreatMkp
import Derived.Deep.CutBlock
import Derived.Deep.CutRange
import Derived.BigQuiet
import Derived.Deep.RegionHeld3
import Derived.Deep.Cut
namespace Go.Proofs.YtalnfkijiehjhaaGreat
open List renaming setIfInBounds_toArray→zA,set_cons_zero→zB,set_cons_succ→zC
set_option linter.unusedVariables false
set_option linter.unusedSimpArgs false
open Go.RowKit Go.ChangeShapes Go.WideShapes Go.ChangeAt
theorem qJM{P:Prop}(h:P:=by
 unfold cK at hS cS oS
 refine hK.out _ _ hS (fun _=>?_)
 clear hK
 (try simp only[Act.put,zA,zB,zC])
 refine wpAnyH_done (by kernel_rfl) ?_ _
 clear y0 y1 y2 y3 y4 y5 y6 y7 y8 y9 al ak aj yf yl
 go_wp2_with fail
 go_meet
 exact⟨L9,A9,c9,by rfl,cS,oS,nP,mz,hS.2⟩
 ):P:=h
theorem qQG{P:Prop}(h:P:=by
 intro A9 c9 w7 o7 g7 q7
 have h7:Ce w7 w1.heap.size ((List.range 8).map fun j=>Value.int .i64 (v j))∧Below Z wr w7:=⟨h5.1.grown g7 (fun e=>by injection e with e;omega),h5.2.trans (af g7 (by omega) (ZF _ h5.2))⟩
 have o7:=OB.base o7 (show Z≤E by omega)
 have l7:=g7.size
 refine hK.out _ _ h7 (fun _=>?_)
 clear hK
 (try simp only[Act.put,zA,zB,zC])
 refine ae 20 h7 ?_
 refine only 21 rfl (by kernel_rfl) rfl (fun K hK=>?_)
 go_simp
 have h8:Ce (w7.alloc (.cells #[(),(),(),(),(),(),(),(),(),false,(),.slice none 0 0,.slice none 0 0] 53)) w1.heap.size ((List.range 8).map fun j=>Value.int .i64 (v j))∧Below Z wr (w7.alloc (.cells #[(),(),(),(),(),(),(),(),(),false,(),.slice none 0 0,.slice none 0 0] 53)):=⟨h7.1.alloc _,h7.2.alloc (ZF _ h7.2) _⟩
 have qL:=rK o7
 have o7:=Ow.alloc o7 (.cells #[(),(),(),(),(),(),(),(),(),false,(),.slice none 0 0,.slice none 0 0] 53)
 have cP:Ce (w7.alloc (.cells #[(),(),(),(),(),(),(),(),(),false,(),.slice none 0 0,.slice none 0 0] 53)) w7.heap.size [(),(),(),(),(),(),(),(),(),false,(),.slice none 0 0,.slice none 0 0]:=by have:=Ce.made (w:=w7) (l:=[(),(),(),(),(),(),(),(),(),false,(),.slice none 0 0,.slice none 0 0]) (T:=53) rfl;simp only[List.toArray]at this;exact this
 have xl:w7.heap.size<((w7.alloc (.cells #[(),(),(),(),(),(),(),(),(),false,(),.slice none 0 0,.slice none 0 0] 53))).heap.size:=by simp
 have mz:Z≤w7.heap.size:=by have:=ZF _ h7.2;exact this
 have nP:=qL w7.heap.size (Nat.le_refl _)
 refine hK.out _ _ h8 (fun _=>?_)
 clear hK
 (try simp only[Act.put,zA,zB,zC])
 generalize (w7.alloc (.cells #[(),(),(),(),(),(),(),(),(),false,(),.slice none 0 0,.slice none 0 0] 53))=w8 at *
 generalize w7.heap.size=L9 at *
 have y0:=cP.2.1 0 _ rfl
 have y1:=cP.2.1 1 _ rfl
 have y2:=cP.2.1 2 _ rfl
 have y3:=cP.2.1 3 _ rfl
 have y4:=cP.2.1 4 _ rfl
 have y5:=cP.2.1 5 _ rfl
 have y6:=cP.2.1 6 _ rfl
 have y7:=cP.2.1 7 _ rfl
 have y8:=cP.2.1 8 _ rfl
 have y9:=cP.2.1 9 _ rfl
 have al:=cP.2.1 10 _ rfl
 have ak:=cP.2.1 11 _ rfl
 have aj:=cP.2.1 12 _ rfl
 have yf:=cP.2.2
 have yl:=cP.1
 refine only 22 rfl (by kernel_rfl) rfl (fun K hK=>?_)
 go_simp
 have hS:Ce (cK w8 L9 (.int .i64 (1+k3)) (.int .i64 (2+v 0%254)) (.int .i64 0) (.int .i64 (v 1%4294967296)) (.int .i64 (v 2%4294967296)) (.int .i64 0) (.int .i64 0) (.int .i64 0) (.int .i64 0) (.bool false) (.int .i64 0) (.slice none 0 0) (.slice A9 m c9)) w1.heap.size ((List.range 8).map fun j=>Value.int .i64 (v j))∧Below Z wr (cK w8 L9 (.int .i64 (1+k3)) (.int .i64 (2+v 0%254)) (.int .i64 0) (.int .i64 (v 1%4294967296)) (.int .i64 (v 2%4294967296)) (.int .i64 0) (.int .i64 0) (.int .i64 0) (.int .i64 0) (.bool false) (.int .i64 0) (.slice none 0 0) (.slice A9 m c9)):=⟨h8.1.grown (aY w8 L9 (.int .i64 (1+k3)) (.int .i64 (2+v 0%254)) (.int .i64 0) (.int .i64 (v 1%4294967296)) (.int .i64 (v 2%4294967296)) (.int .i64 0) (.int .i64 0) (.int .i64 0) (.int .i64 0) (.bool false) (.int .i64 0) (.slice none 0 0) (.slice A9 m c9)) (fun e=>by injection e with e;omega),h8.2.trans (af (aY w8 L9 (.int .i64 (1+k3)) (.int .i64 (2+v 0%254)) (.int .i64 0) (.int .i64 (v 1%4294967296)) (.int .i64 (v 2%4294967296)) (.int .i64 0) (.int .i64 0) (.int .i64 0) (.int .i64 0) (.bool false) (.int .i64 0) (.slice none 0 0) (.slice A9 m c9)) (by omega) (ZF _ h8.2))⟩
 have cS:=cP.s13 (.int .i64 (1+k3)) (.int .i64 (2+v 0%254)) (.int .i64 0) (.int .i64 (v 1%4294967296)) (.int .i64 (v 2%4294967296)) (.int .i64 0) (.int .i64 0) (.int .i64 0) (.int .i64 0) (.bool false) (.int .i64 0) (.slice none 0 0) (.slice A9 m c9)
 have oS:=cU o7 (aY w8 L9 (.int .i64 (1+k3)) (.int .i64 (2+v 0%254)) (.int .i64 0) (.int .i64 (v 1%4294967296)) (.int .i64 (v 2%4294967296)) (.int .i64 0) (.int .i64 0) (.int .i64 0) (.int .i64 0) (.bool false) (.int .i64 0) (.slice none 0 0) (.slice A9 m c9)) nP
 exact qJM
 ):P:=h
theorem qQZ{P:Prop}(h:P:=by
 have cP:=cP.grown g7 (fun e=>by injection e with e;omega)
 have nP:=q7 L9 (by omega) (by omega)
 have o7:=OB.base o7 (show Z≤E by omega)
 have l7:=g7.size
 refine hK.out _ _ h7 (fun _=>?_)
 clear hK
 (try simp only[Act.put,zA,zB,zC])
 refine ae 20 h7 ?_
 have y0:=cP.2.1 0 _ rfl
 have y1:=cP.2.1 1 _ rfl
 have y2:=cP.2.1 2 _ rfl
 have y3:=cP.2.1 3 _ rfl
 have y4:=cP.2.1 4 _ rfl
 have y5:=cP.2.1 5 _ rfl
 have y6:=cP.2.1 6 _ rfl
 have y7:=cP.2.1 7 _ rfl
 have y8:=cP.2.1 8 _ rfl
 have y9:=cP.2.1 9 _ rfl
 have al:=cP.2.1 10 _ rfl
 have ak:=cP.2.1 11 _ rfl
 have aj:=cP.2.1 12 _ rfl
 have yf:=cP.2.2
 have yl:=cP.1
 refine only 22 rfl (by kernel_rfl) rfl (fun K hK=>?_)
 go_simp
 have hS:Ce (cK w7 L9 (.int .i64 (1+k3)) (.int .i64 (2+v 0%254)) (.int .i64 0) (.int .i64 (v 1%4294967296)) (.int .i64 (v 2%4294967296)) (.int .i64 0) (.int .i64 0) (.int .i64 0) (.int .i64 0) (.bool false) (.int .i64 0) (.slice none 0 0) (.slice A9 m c9)) w1.heap.size ((List.range 8).map fun j=>Value.int .i64 (v j))∧Below Z wr (cK w7 L9 (.int .i64 (1+k3)) (.int .i64 (2+v 0%254)) (.int .i64 0) (.int .i64 (v 1%4294967296)) (.int .i64 (v 2%4294967296)) (.int .i64 0) (.int .i64 0) (.int .i64 0) (.int .i64 0) (.bool false) (.int .i64 0) (.slice none 0 0) (.slice A9 m c9)):=⟨h7.1.grown (aY w7 L9 (.int .i64 (1+k3)) (.int .i64 (2+v 0%254)) (.int .i64 0) (.int .i64 (v 1%4294967296)) (.int .i64 (v 2%4294967296)) (.int .i64 0) (.int .i64 0) (.int .i64 0) (.int .i64 0) (.bool false) (.int .i64 0) (.slice none 0 0) (.slice A9 m c9)) (fun e=>by injection e with e;omega),h7.2.trans (af (aY w7 L9 (.int .i64 (1+k3)) (.int .i64 (2+v 0%254)) (.int .i64 0) (.int .i64 (v 1%4294967296)) (.int .i64 (v 2%4294967296)) (.int .i64 0) (.int .i64 0) (.int .i64 0) (.int .i64 0) (.bool false) (.int .i64 0) (.slice none 0 0) (.slice A9 m c9)) (by omega) (ZF _ h7.2))⟩
 have cS:=cP.s13 (.int .i64 (1+k3)) (.int .i64 (2+v 0%254)) (.int .i64 0) (.int .i64 (v 1%4294967296)) (.int .i64 (v 2%4294967296)) (.int .i64 0) (.int .i64 0) (.int .i64 0) (.int .i64 0) (.bool false) (.int .i64 0) (.slice none 0 0) (.slice A9 m c9)
 have oS:=cU o7 (aY w7 L9 (.int .i64 (1+k3)) (.int .i64 (2+v 0%254)) (.int .i64 0) (.int .i64 (v 1%4294967296)) (.int .i64 (v 2%4294967296)) (.int .i64 0) (.int .i64 0) (.int .i64 0) (.int .i64 0) (.bool false) (.int .i64 0) (.slice none 0 0) (.slice A9 m c9)) nP
 exact qJM
 ):P:=h
theorem qJ1{P:Prop}(h:P:=by
 refine only 19 rfl (by kernel_rfl) rfl (fun K hK=>?_)
 refine fD rfl (.tmp 42) (.tmp 47) rfl E rfl eR (by omega) _ m _ g2 rfl (nX.out _ (H2.out _ (B2.out.trans (h5.2.mono zB)))) (by omega) ?_
 intro A9 c9 w7 o7 g7 q7
 have h7:Ce w7 w1.heap.size ((List.range 8).map fun j=>Value.int .i64 (v j))∧Below Z wr w7:=⟨h5.1.grown g7 (fun e=>by injection e with e;omega),h5.2.trans (af g7 (by omega) (ZF _ h5.2))⟩
 exact qQZ
 ):P:=h
theorem qY6{P:Prop}(h:P:=by
 refine only 13 rfl (by kernel_rfl) rfl (fun K hK=>?_)
 go_simp
 have h5:Ce (w8.alloc (.cells #[] 5)) w1.heap.size ((List.range 8).map fun j=>Value.int .i64 (v j))∧Below Z wr (w8.alloc (.cells #[] 5)):=⟨h8.1.alloc _,h8.2.alloc (ZF _ h8.2) _⟩
 have cP:=Ce.alloc cP (.cells #[] 5)
 have eR:∀f,Ow (w8.alloc (.cells #[] 5)) w8.heap.size 5 1 (.slice (some ⟨w8.heap.size,0,none⟩) 0 0) 0 f:=fun f=>Ow.new' (w:=w8) rfl
 have EG:w8.heap.size<((w8.alloc (.cells #[] 5))).heap.size:=by simp
 have EF:Z≤w8.heap.size:=by have:=ZF _ h8.2;exact this
 refine hK.out _ _ h5 (fun _=>?_)
 clear hK
 (try simp only[Act.put,zA,zB,zC])
 generalize (w8.alloc (.cells #[] 5))=w5 at *
 generalize w8.heap.size=E at *
 exact qJ1
 ):P:=h
theorem qJ2{P:Prop}(h:P:=by
 refine only 19 rfl (by kernel_rfl) rfl (fun K hK=>?_)
 refine fD rfl (.tmp 42) (.tmp 47) rfl E rfl eR (by omega) _ m _ g2 rfl (nX.out _ (H2.out _ (B2.out.trans (h8.2.mono zB)))) (by omega) ?_
 intro A9 c9 w7 o7 g7 q7
 have h7:Ce w7 w1.heap.size ((List.range 8).map fun j=>Value.int .i64 (v j))∧Below Z wr w7:=⟨h8.1.grown g7 (fun e=>by injection e with e;omega),h8.2.trans (af g7 (by omega) (ZF _ h8.2))⟩
 exact qQZ
 ):P:=h
theorem qY1{P:Prop}(h:P:=by
 refine eX 19 21 rfl rfl (by kernel_rfl) rfl rfl (fun K hK=>?_) (fun K hK=>?_)
 ·refine fD rfl (.tmp 42) (.tmp 47) rfl E rfl eR (by omega) _ m _ g2 rfl (nX.out _ (H2.out _ (B2.out.trans (h5.2.mono zB)))) (by omega) ?_
  exact qQG
 go_simp
 have h8:Ce (w5.alloc (.cells #[(),(),(),(),(),(),(),(),(),false,(),.slice none 0 0,.slice none 0 0] 53)) w1.heap.size ((List.range 8).map fun j=>Value.int .i64 (v j))∧Below Z wr (w5.alloc (.cells #[(),(),(),(),(),(),(),(),(),false,(),.slice none 0 0,.slice none 0 0] 53)):=⟨h5.1.alloc _,h5.2.alloc (ZF _ h5.2) _⟩
 have eR:=fun f=>Ow.alloc (eR f) (.cells #[(),(),(),(),(),(),(),(),(),false,(),.slice none 0 0,.slice none 0 0] 53)
 have cP:Ce (w5.alloc (.cells #[(),(),(),(),(),(),(),(),(),false,(),.slice none 0 0,.slice none 0 0] 53)) w5.heap.size [(),(),(),(),(),(),(),(),(),false,(),.slice none 0 0,.slice none 0 0]:=by have:=Ce.made (w:=w5) (l:=[(),(),(),(),(),(),(),(),(),false,(),.slice none 0 0,.slice none 0 0]) (T:=53) rfl;simp only[List.toArray]at this;exact this
 have xl:w5.heap.size<((w5.alloc (.cells #[(),(),(),(),(),(),(),(),(),false,(),.slice none 0 0,.slice none 0 0] 53))).heap.size:=by simp
 have mz:Z≤w5.heap.size:=by have:=ZF _ h5.2;exact this
 refine hK.out _ _ h8 (fun _=>?_)
 clear hK
 (try simp only[Act.put,zA,zB,zC])
 generalize (w5.alloc (.cells #[(),(),(),(),(),(),(),(),(),false,(),.slice none 0 0,.slice none 0 0] 53))=w8 at *
 generalize w5.heap.size=L9 at *
 exact qJ2
 ):P:=h
set_option maxHeartbeats 16000000 in
set_option maxRecDepth 10000 in
theorem AS (kind:Int)(A1:Option Addr)(n1 c1:Nat)(g1:Nat→Int)(A2:Option Addr)(n2 c2:Nat)(g2:Nat→Int)(w:World)(hr1:Is w A1 n1 g1)(hr2:By w A2 n2 g2)(hg2:aC g2)(hn1:(n1:Int)≤9223372036854775807)(hn2:n2≤c2)(A6:(n2:Int)≤9223372036854775807) :
 Calls Tryz.prog 40 #[kind,.slice A1 n1 c1,.slice A2 n2 c2] w fun e w'=>∃O D,e =.returned (ct (ib kind (nv g1 n1) g2 n2) O D)∧OB w' w.heap.size O (ib kind (nv g1 n1) g2 n2).no (ib kind (nv g1 n1) g2 n2).go∧OB w' w.heap.size D (ib kind (nv g1 n1) g2 n2).nd (ib kind (nv g1 n1) g2 n2).gd∧Below w.heap.size w w':=by
 have H1:=hid (fun (W:World) (hw:Below w.heap.size w W)=>Sl.below hr1 hw (Nat.le_refl _))
 have H2:=hid (fun (W:World) (hw:Below w.heap.size w W)=>Sl.below hr2 hw (Nat.le_refl _))
 have HG2:=hid hg2
 obtain ⟨k3,hk3⟩:∃k3,k3=wi kind 3:=⟨_,rfl⟩
 have WK:=hid (fun w=>c_ (qi kind 3 w (by omega) (by omega)) hk3.symm)
 have K3:=hid hk3
 have hkb:=Nh kind
 rw[←hk3]at hkb
 have Pv:=hid hkb
 have QS:0≤k3:=by omega
 have jN:k3≤2:=by omega
 clear hk3 hkb hr1 hr2 hg2
 have CR:=hid (Ce.made (w:=w) (l:=[(),(),(),(),(),(),(),(),(),false,(),.slice none 0 0,.slice none 0 0]) (T:=53) (g:=w.heap.size) rfl)
 simp only[List.toArray]at CR
 have B0:=hid ((Below.refl w.heap.size w).alloc (Nat.le_refl _) (.cells #[(),(),(),(),(),(),(),(),(),false,(),.slice none 0 0,.slice none 0 0] 53))
 go_enter Tryz.func40,Tryz.ntmps40
 go_upto_region 1 with (fail)
 generalize (w.alloc (.cells #[(),(),(),(),(),(),(),(),(),false,(),.slice none 0 0,.slice none 0 0] 53))=w1 at *
 have lR:w.heap.size<w1.heap.size:=CR.out.1
 have CA:=hid (Ce.made (w:=w1) (l:=[(),(),(),(),(),(),(),()]) (T:=148) (g:=w1.heap.size) rfl)
 simp only[List.toArray]at CA
 have Ms:=hid (CR.out.alloc (.cells #[(),(),(),(),(),(),(),()] 148))
 have B1:=hid (B0.out.alloc B0.out.size (.cells #[(),(),(),(),(),(),(),()] 148))
 clear CR B0
 go_upto_region 2 with (fail)
 generalize (w1.alloc (.cells #[(),(),(),(),(),(),(),()] 148))=w2 at *
 have lA:w1.heap.size<w2.heap.size:=CA.out.1
 have Kb:=hid (show Ce w2 w1.heap.size ((List.range 8).map fun j=>Value.int .i64 (rL g1 n1 0 j)) from CA.out)
 clear CA
 go_upto_block 0 with (fail)
 go_cut [8] from 12 to 28 (fun i wx=>∃k:Nat,i =.int .i64 (k:Int)∧Ce wx w1.heap.size ((List.range 8).map fun j=>Value.int .i64 (nv g1 n1 j))∧w2.grownBy wx (some w1.heap.size))
 case first=>
  go_wp2_with fail
  go_loopw [8] (fun i wr=>∃k:Nat,k≤8∧k≤n1∧i =.int .i64 (k:Int)∧Ce wr w1.heap.size ((List.range 8).map fun j=>Value.int .i64 (rL g1 n1 k j))∧w2.grownBy wr (some w1.heap.size)) (fun i _=>20-(intOf i).toNat)
  case atStart=>exact⟨0,by omega,by omega,rfl,Kb.out,World.grownBy.refl _ _⟩
  obtain ⟨k,Ix,hkn,rfl,hc,hgr⟩:=hrel
  have HC:=hid hc
  have HR:=hid hgr
  clear hc hgr Kb
  have B2:=hid (B1.out.trans (af HR.out (by omega) B1.out.size))
  have nk:=Ez g1 n1 k
  obtain ⟨QK,QJ⟩:=nk
  cases d8:decide ((k:Int)<8)
  ·have k8:k=8:=by simp at d8;omega
   have j8:¬(k:Int)<8:=by omega
   go_wp2_with fail
   go_meet
   exact⟨k,by rw[k8];rfl,by rw[←tJ g1 n1 k (.inl k8)];exact HC.out,HR.out⟩
  have k8:k<8:=by simp at d8;omega
  cases dn:decide ((k:Int)<(n1:Int))
  ·have kn:n1≤k:=by simp at dn;omega
   have jn:¬(k:Int)<(n1:Int):=by omega
   go_wp2_with fail
   go_meet
   exact⟨k,rfl,by rw[←tJ g1 n1 k (.inr kn)];exact HC.out,HR.out⟩
  have kn:k<n1:=by simp at dn;omega
  have hvk:nv g1 n1 k=wi (g1 k) 1099511627776:=by unfold nv;rw[if_pos kn]
  have WN:=hid (fun w=>c_ (qi (g1 k) 1099511627776 w (by omega) (by omega)) hvk.symm)
  obtain ⟨b,off,hA1,hb,hcell⟩:=H1.out _ B2.out (by omega)
  subst hA1
  have c1:=hcell k kn
  have j0:(0:Int)≤k:=by omega
  have j1:(k:Int)<n1:=by omega
  have j8:(k:Int)<8:=by omega
  have ck:=HC.out.2.1 k (.int .i64 (rL g1 n1 k k)) (by simp[k8])
  have fk:=HC.out.2.2 k
  have ek:IntKind.i64.wrap ((k:Int)+1)=(k:Int)+1:=IntWalk.i64_in _ (by omega)
  clear hcell hvk d8 dn
  go_wp2_with fail
  refine(WN.out _).mono ?_
  rintro e w' ⟨rfl,rfl⟩
  go_wp2_with fail
  go_roundw
  case rel=>
   refine⟨k+1,by omega,by omega,by go_num,?_,gs _ _ HR.out⟩
   have:=HC.out.set k (.int .i64 (nv g1 n1 k)) (by simp;omega)
   rw[Bu k8,Dn]at this
   exact this
  simp[intOf];omega
 obtain ⟨k,rfl,hc,hgr⟩:=hcut
 obtain ⟨wr,rfl⟩:∃wr:World,wr=wc:=⟨_,rfl⟩
 have HR:=hid hgr
 have CV:=hid hc
 have B2:=hid (B1.out.trans (af HR.out (by omega) B1.out.size))
 have fz:=hid (Ms.out.grown HR.out (fun e=>by injection e with e;omega))
 have lz:w1.heap.size<wr.heap.size:=Nat.lt_of_lt_of_le lA HR.out.size
 have NV:=hid (Ez g1 n1)
 clear hc hgr HR Ms B1 Kb H1
 generalize hv:nv g1 n1=v at *
 have HV:=hid hv
 clear hv
 have QA:IntKind.i64.wrap (1+k3)=1+k3:=IntWalk.i64_in _ (by omega)
 have Qz:IntKind.i64.wrap (2+v 0%254)=2+v 0%254:=IntWalk.i64_in _ (by omega)
 have Qd:=dD (v 0) 254 (NV.out 0).1
 have t1:=dD (v 1) 4294967296 (NV.out 1).1
 have t2:=dD (v 2) 4294967296 (NV.out 2).1
 obtain ⟨Z,hZ⟩:∃Z,Z=wr.heap.size:=⟨_,rfl⟩
 have K9:Z≤wr.heap.size:=by omega
 have zB:w.heap.size≤Z:=by have:=B2.out.size;omega
 have zA:w1.heap.size<Z:=by omega
 have ZF:∀W,Below Z wr W→Z≤W.heap.size:=fun W h=>Nat.le_trans K9 h.size
 clear hZ K9
 obtain ⟨m,hm⟩:∃m,m=min n2 200:=⟨_,rfl⟩
 have J1:=hid hm
 have em:(if (200:Int)<(n2:Int) then (200:Int) else (n2:Int))=(m:Int):=by split <;> omega
 have QN:m≤n2:=by omega
 have Qg:m≤200:=by omega
 clear hm
 have m1:=D6 A2 n2 c2 m (by omega) hn2 (m:Int) rfl
 have nX:=hid (fun W (h:By W A2 n2 g2)=>(show By W A2 m g2 from h.less (by omega)))
 go_upto_region 6 with (fail)
 go_cut [9] from 29 to 49 (fun q wx=>∃(L9:Nat) (A9:Option Addr) (c9:Nat),q =.pointer (some ⟨L9,0,none⟩)∧Ce wx L9 [.int .i64 (1+k3),.int .i64 (2+v 0%254),(),.int .i64 (v 1%4294967296),.int .i64 (v 2%4294967296),(),(),(),(),false,(),.slice none 0 0,.slice A9 m c9]∧OB wx Z (.slice A9 m c9) m g2∧(Value.slice A9 m c9).ownBlock≠some L9∧Z≤L9∧Below Z wr wx)
 case first=>
  refine wp_region_held_drew (S:=fun w'=>Ce w' w1.heap.size ((List.range 8).map fun j=>Value.int .i64 (v j))∧Below Z wr w') (by kernel_rfl) ?_ (fun hHeld=>?_)
  ·exact⟨CV.out.bo,(Below.refl _ _).drew⟩
  refine ae 0 hHeld ?_
  refine ae 3 hHeld ?_
  refine ae 4 hHeld ?_ (hy:=by intro w hSw;(try dsimp only at hSw);have q0:=hSw.1.2.1 0 (.int .i64 (v 0)) rfl;have q1:=hSw.1.2.1 1 (.int .i64 (v 1)) rfl;have q2:=hSw.1.2.1 2 (.int .i64 (v 2)) rfl;go_simp;(try with_reducible rfl))
  refine ae 5 hHeld ?_
  refine ae 6 hHeld ?_
  refine ae 7 hHeld ?_
  refine ae 8 hHeld ?_ (hy:=by intro w hSw;(try dsimp only at hSw);have q0:=hSw.1.2.1 0 (.int .i64 (v 0)) rfl;have q1:=hSw.1.2.1 1 (.int .i64 (v 1)) rfl;have q2:=hSw.1.2.1 2 (.int .i64 (v 2)) rfl;go_simp;(try with_reducible rfl))
  refine ae 9 hHeld ?_
  refine ae 10 hHeld ?_
  refine ae 11 hHeld ?_ (hy:=by intro w hSw;(try dsimp only at hSw);have q0:=hSw.1.2.1 0 (.int .i64 (v 0)) rfl;have q1:=hSw.1.2.1 1 (.int .i64 (v 1)) rfl;have q2:=hSw.1.2.1 2 (.int .i64 (v 2)) rfl;go_simp;(try with_reducible rfl))
  refine ae 12 hHeld ?_
  refine ae 14 hHeld ?_
  refine ae 15 hHeld ?_
  refine ae 16 hHeld ?_
  refine ae 17 hHeld ?_
  refine ae 18 hHeld ?_
  refine Fw 1 13 21 rfl rfl rfl (by kernel_rfl) rfl rfl rfl (fun K hK=>?_) (fun K hK=>?_) (fun K hK=>?_)
  ·go_simp
   refine(WK.out _).mono ?_
   rintro e w' ⟨rfl,rfl⟩
   try go_wp2_with fail
   refine hK.out _ _ hHeld (fun _=>?_)
   clear hK
   (try simp only[Act.put,zA,zB,zC])
   refine ae 2 hHeld ?_
   refine eX 13 21 rfl rfl (by kernel_rfl) rfl rfl (fun K hK=>?_) (fun K hK=>?_)
   ·go_simp
    have h5:Ce (wr.alloc (.cells #[] 5)).drew w1.heap.size ((List.range 8).map fun j=>Value.int .i64 (v j))∧Below Z wr (wr.alloc (.cells #[] 5)).drew:=⟨hHeld.1.alloc _,hHeld.2.alloc (ZF _ hHeld.2) _⟩
    have eR:∀f,Ow (wr.alloc (.cells #[] 5)).drew wr.heap.size 5 1 (.slice (some ⟨wr.heap.size,0,none⟩) 0 0) 0 f:=fun f=>Ow.new' (w:=wr.drew) rfl
    have EG:wr.heap.size<((wr.alloc (.cells #[] 5)).drew).heap.size:=by simp
    have EF:Z≤wr.heap.size:=by have:=ZF _ hHeld.2;exact this
    refine hK.out _ _ h5 (fun _=>?_)
    clear hK
    (try simp only[Act.put,zA,zB,zC])
    generalize (wr.alloc (.cells #[] 5)).drew=w5 at *
    generalize wr.heap.size=E at *
    exact qY1
   go_simp
   have h8:Ce (wr.alloc (.cells #[(),(),(),(),(),(),(),(),(),false,(),.slice none 0 0,.slice none 0 0] 53)).drew w1.heap.size ((List.range 8).map fun j=>Value.int .i64 (v j))∧Below Z wr (wr.alloc (.cells #[(),(),(),(),(),(),(),(),(),false,(),.slice none 0 0,.slice none 0 0] 53)).drew:=⟨hHeld.1.alloc _,hHeld.2.alloc (ZF _ hHeld.2) _⟩
   have cP:Ce (wr.alloc (.cells #[(),(),(),(),(),(),(),(),(),false,(),.slice none 0 0,.slice none 0 0] 53)).drew wr.heap.size [(),(),(),(),(),(),(),(),(),false,(),.slice none 0 0,.slice none 0 0]:=by have:=Ce.made (w:=wr.drew) (l:=[(),(),(),(),(),(),(),(),(),false,(),.slice none 0 0,.slice none 0 0]) (T:=53) rfl;simp only[List.toArray]at this;exact this
   have xl:wr.heap.size<((wr.alloc (.cells #[(),(),(),(),(),(),(),(),(),false,(),.slice none 0 0,.slice none 0 0] 53)).drew).heap.size:=by simp
   have mz:Z≤wr.heap.size:=by have:=ZF _ hHeld.2;exact this
   refine hK.out _ _ h8 (fun _=>?_)
   clear hK
   (try simp only[Act.put,zA,zB,zC])
   generalize (wr.alloc (.cells #[(),(),(),(),(),(),(),(),(),false,(),.slice none 0 0,.slice none 0 0] 53)).drew=w8 at *
   generalize wr.heap.size=L9 at *
   exact qY6
  ·go_simp
   have h5:Ce (wr.alloc (.cells #[] 5)).drew w1.heap.size ((List.range 8).map fun j=>Value.int .i64 (v j))∧Below Z wr (wr.alloc (.cells #[] 5)).drew:=⟨hHeld.1.alloc _,hHeld.2.alloc (ZF _ hHeld.2) _⟩
   have eR:∀f,Ow (wr.alloc (.cells #[] 5)).drew wr.heap.size 5 1 (.slice (some ⟨wr.heap.size,0,none⟩) 0 0) 0 f:=fun f=>Ow.new' (w:=wr.drew) rfl
   have EG:wr.heap.size<((wr.alloc (.cells #[] 5)).drew).heap.size:=by simp
   have EF:Z≤wr.heap.size:=by have:=ZF _ hHeld.2;exact this
   refine hK.out _ _ h5 (fun _=>?_)
   clear hK
   (try simp only[Act.put,zA,zB,zC])
   generalize (wr.alloc (.cells #[] 5)).drew=w5 at *
   generalize wr.heap.size=E at *
   refine eX 1 21 rfl rfl (by kernel_rfl) rfl rfl (fun K hK=>?_) (fun K hK=>?_)
   ·go_simp
    refine(WK.out _).mono ?_
    rintro e w' ⟨rfl,rfl⟩
    try go_wp2_with fail
    refine hK.out _ _ h5 (fun _=>?_)
    clear hK
    (try simp only[Act.put,zA,zB,zC])
    refine ae 2 h5 ?_
    exact qY1
   go_simp
   have h8:Ce (w5.alloc (.cells #[(),(),(),(),(),(),(),(),(),false,(),.slice none 0 0,.slice none 0 0] 53)) w1.heap.size ((List.range 8).map fun j=>Value.int .i64 (v j))∧Below Z wr (w5.alloc (.cells #[(),(),(),(),(),(),(),(),(),false,(),.slice none 0 0,.slice none 0 0] 53)):=⟨h5.1.alloc _,h5.2.alloc (ZF _ h5.2) _⟩
   have eR:=fun f=>Ow.alloc (eR f) (.cells #[(),(),(),(),(),(),(),(),(),false,(),.slice none 0 0,.slice none 0 0] 53)
   have cP:Ce (w5.alloc (.cells #[(),(),(),(),(),(),(),(),(),false,(),.slice none 0 0,.slice none 0 0] 53)) w5.heap.size [(),(),(),(),(),(),(),(),(),false,(),.slice none 0 0,.slice none 0 0]:=by have:=Ce.made (w:=w5) (l:=[(),(),(),(),(),(),(),(),(),false,(),.slice none 0 0,.slice none 0 0]) (T:=53) rfl;simp only[List.toArray]at this;exact this
   have xl:w5.heap.size<((w5.alloc (.cells #[(),(),(),(),(),(),(),(),(),false,(),.slice none 0 0,.slice none 0 0] 53))).heap.size:=by simp
   have mz:Z≤w5.heap.size:=by have:=ZF _ h5.2;exact this
   refine hK.out _ _ h8 (fun _=>?_)
   clear hK
   (try simp only[Act.put,zA,zB,zC])
   generalize (w5.alloc (.cells #[(),(),(),(),(),(),(),(),(),false,(),.slice none 0 0,.slice none 0 0] 53))=w8 at *
   generalize w5.heap.size=L9 at *
   refine only 1 rfl (by kernel_rfl) rfl (fun K hK=>?_)
   go_simp
   refine(WK.out _).mono ?_
   rintro e w' ⟨rfl,rfl⟩
   try go_wp2_with fail
   refine hK.out _ _ h8 (fun _=>?_)
   clear hK
   (try simp only[Act.put,zA,zB,zC])
   refine ae 2 h8 ?_
   exact qJ2
  go_simp
  have h8:Ce (wr.alloc (.cells #[(),(),(),(),(),(),(),(),(),false,(),.slice none 0 0,.slice none 0 0] 53)).drew w1.heap.size ((List.range 8).map fun j=>Value.int .i64 (v j))∧Below Z wr (wr.alloc (.cells #[(),(),(),(),(),(),(),(),(),false,(),.slice none 0 0,.slice none 0 0] 53)).drew:=⟨hHeld.1.alloc _,hHeld.2.alloc (ZF _ hHeld.2) _⟩
  have cP:Ce (wr.alloc (.cells #[(),(),(),(),(),(),(),(),(),false,(),.slice none 0 0,.slice none 0 0] 53)).drew wr.heap.size [(),(),(),(),(),(),(),(),(),false,(),.slice none 0 0,.slice none 0 0]:=by have:=Ce.made (w:=wr.drew) (l:=[(),(),(),(),(),(),(),(),(),false,(),.slice none 0 0,.slice none 0 0]) (T:=53) rfl;simp only[List.toArray]at this;exact this
  have xl:wr.heap.size<((wr.alloc (.cells #[(),(),(),(),(),(),(),(),(),false,(),.slice none 0 0,.slice none 0 0] 53)).drew).heap.size:=by simp
  have mz:Z≤wr.heap.size:=by have:=ZF _ hHeld.2;exact this
  refine hK.out _ _ h8 (fun _=>?_)
  clear hK
  (try simp only[Act.put,zA,zB,zC])
  generalize (wr.alloc (.cells #[(),(),(),(),(),(),(),(),(),false,(),.slice none 0 0,.slice none 0 0] 53)).drew=w8 at *
  generalize wr.heap.size=L9 at *
  refine eX 1 13 rfl rfl (by kernel_rfl) rfl rfl (fun K hK=>?_) (fun K hK=>?_)
  ·go_simp
   refine(WK.out _).mono ?_
   rintro e w' ⟨rfl,rfl⟩
   try go_wp2_with fail
   refine hK.out _ _ h8 (fun _=>?_)
   clear hK
   (try simp only[Act.put,zA,zB,zC])
   refine ae 2 h8 ?_
   exact qY6
  go_simp
  have h5:Ce (w8.alloc (.cells #[] 5)) w1.heap.size ((List.range 8).map fun j=>Value.int .i64 (v j))∧Below Z wr (w8.alloc (.cells #[] 5)):=⟨h8.1.alloc _,h8.2.alloc (ZF _ h8.2) _⟩
  have cP:=Ce.alloc cP (.cells #[] 5)
  have eR:∀f,Ow (w8.alloc (.cells #[] 5)) w8.heap.size 5 1 (.slice (some ⟨w8.heap.size,0,none⟩) 0 0) 0 f:=fun f=>Ow.new' (w:=w8) rfl
  have EG:w8.heap.size<((w8.alloc (.cells #[] 5))).heap.size:=by simp
  have EF:Z≤w8.heap.size:=by have:=ZF _ h8.2;exact this
  refine hK.out _ _ h5 (fun _=>?_)
  clear hK
  (try simp only[Act.put,zA,zB,zC])
  generalize (w8.alloc (.cells #[] 5))=w5 at *
  generalize w8.heap.size=E at *
  refine only 1 rfl (by kernel_rfl) rfl (fun K hK=>?_)
  go_simp
  refine(WK.out _).mono ?_
  rintro e w' ⟨rfl,rfl⟩
  try go_wp2_with fail
  refine hK.out _ _ h5 (fun _=>?_)
  clear hK
  (try simp only[Act.put,zA,zB,zC])
  refine ae 2 h5 ?_
  exact qJ1
 obtain ⟨L9,A9,c9,rfl,hC,hO,hN,xq,hB⟩:=hcut
 have CP:=hid hC
 have OD:=hid hO
 have NP:=hid hN
 have BZ:=hid hB
 have fZ:=hid (Ce.below_ CV.out hB zA)
 have dd:=hid (Ce.below_ fz.out hB (by omega))
 have B3:=hid (B2.out.trans (hB.mono zB))
 have QQ:=ZF _ hB
 clear hC hO hN hB nX WK em m1
 have t7:=dD (v 0) 7 (NV.out 0).1
 have t11:=dD (v 0) 11 (NV.out 0).1
 have d7:=tB (v 0) 7 (NV.out 0).1
 have OQ:=tB (v 0) 11 (NV.out 0).1
 have p0:=(NV.out 0).1
 have p1:=(NV.out 0).2
 have w7:RowKit.wrap64 (v 0/7)=v 0/7:=IntWalk.wrap64_in _ (by omega)
 have li:RowKit.wrap64 (v 0/11)=v 0/11:=IntWalk.wrap64_in _ (by omega)
 have t73:=dD (v 0/7) 3 (by omega)
 have ME:=dD (v 0/11) 256 (by omega)
 obtain ⟨wb,rfl⟩:∃wo:World,wo=wc:=⟨_,rfl⟩
 have q0:=fZ.out.2.1 0 (.int .i64 (v 0)) rfl
 go_upto_if 53 with (fail)
 clear q0
 go_cut [] from 50 to 58 (fun wx=>Ce wx L9 [.int .i64 (1+k3),(dc (v 0)),(),.int .i64 (v 1%4294967296),.int .i64 (v 2%4294967296),(),(),(),(),false,(),.slice none 0 0,.slice A9 m c9]∧OB wx Z (.slice A9 m c9) m g2∧Below Z wr wx)
 case first=>
  cases b7:(v 0%7==0)
  ·have LF:Hid (2+v 0%254=dc (v 0)):=hid (by unfold dc;rw[if_neg (by simpa using b7)])
   go_wp2_with fail
   go_meet
   rw[←LF.out]
   exact⟨CP.out,OD.out,BZ.out⟩
  have LF:Hid (v 0/7%3=dc (v 0)):=hid (by unfold dc;rw[if_pos (by simpa using b7)])
  have q0:=fZ.out.2.1 0 (.int .i64 (v 0)) rfl
  have y1:=CP.out.2.1 1 _ rfl
  have yf:=CP.out.2.2
  have yl:=CP.out.1
  go_wp2_with fail
  go_meet
  rw[←LF.out]
  exact⟨CP.out.set 1 (.int .i64 (v 0/7%3)) (by simp),cU OD.out (gs 1 (.int .i64 (v 0/7%3)) (World.grownBy.refl wb (some L9))) NP.out,BZ.out.trans (af (gs 1 (.int .i64 (v 0/7%3)) (World.grownBy.refl wb (some L9))) xq (ZF _ BZ.out))⟩
 obtain ⟨hC,hO,hB⟩:=hcut
 clear CP OD BZ fZ dd B3
 have CP:=hid hC
 have OD:=hid hO
 have BZ:=hid hB
 have fZ:=hid (Ce.below_ CV.out hB zA)
 have dd:=hid (Ce.below_ fz.out hB (by omega))
 have B3:=hid (B2.out.trans (hB.mono zB))
 clear hC hO hB
 obtain ⟨wd,rfl⟩:∃wo:World,wo=wc:=⟨_,rfl⟩
 have q0:=fZ.out.2.1 0 (.int .i64 (v 0)) rfl
 go_upto_if 62 with (fail)
 clear q0
 go_cut [] from 59 to 67 (fun wx=>Ce wx L9 [.int .i64 (1+k3),(dc (v 0)),(cA (v 0)),.int .i64 (v 1%4294967296),.int .i64 (v 2%4294967296),(),(),(),(),false,(),.slice none 0 0,.slice A9 m c9]∧OB wx Z (.slice A9 m c9) m g2∧Below Z wr wx)
 case first=>
  cases b7:(v 0%11==0)
  ·have LF:Hid (0=cA (v 0)):=hid (by unfold cA;rw[if_neg (by simpa using b7)])
   go_wp2_with fail
   go_meet
   rw[←LF.out]
   exact⟨CP.out,OD.out,BZ.out⟩
  have LF:Hid (v 0/11%256=cA (v 0)):=hid (by unfold cA;rw[if_pos (by simpa using b7)])
  have q0:=fZ.out.2.1 0 (.int .i64 (v 0)) rfl
  have y1:=CP.out.2.1 2 _ rfl
  have yf:=CP.out.2.2
  have yl:=CP.out.1
  go_wp2_with fail
  go_meet
  rw[←LF.out]
  exact⟨CP.out.set 2 (.int .i64 (v 0/11%256)) (by simp),cU OD.out (gs 2 (.int .i64 (v 0/11%256)) (World.grownBy.refl wd (some L9))) NP.out,BZ.out.trans (af (gs 2 (.int .i64 (v 0/11%256)) (World.grownBy.refl wd (some L9))) xq (ZF _ BZ.out))⟩
 obtain ⟨hC,hO,hB⟩:=hcut
 clear CP OD BZ fZ dd B3
 have CP:=hid hC
 have OD:=hid hO
 have BZ:=hid hB
 have fZ:=hid (Ce.below_ CV.out hB zA)
 have dd:=hid (Ce.below_ fz.out hB (by omega))
 have B3:=hid (B2.out.trans (hB.mono zB))
 clear hC hO hB
 obtain ⟨we,rfl⟩:∃wo:World,wo=wc:=⟨_,rfl⟩
 clear CV fz B2 t7 t11 d7 OQ w7 li t73 ME
 obtain ⟨QP,QO⟩:=tM (v 0)
 obtain ⟨QM,QL⟩:=rR (v 0)
 rcases Pv.out with kk |kk |kk
 ·have m3:(1+k3==3)=false:=by rw[kk];rfl
  have m2:(1+k3==2)=false:=by rw[kk];rfl
  have KQ:=hid kk
  clear kk
  have y0:=CP.out.2.1 0 _ rfl
  have CI:=dD (v 3) 65536 (NV.out 3).1
  have CB:=dD (v 4) 65536 (NV.out 4).1
  have PV:=dD (v 5) 16 (NV.out 5).1
  have Ki:=dD (v 6) 41 (NV.out 6).1
  go_upto_region 12 with (fail)
  clear y0
  have y5:=CP.out.2.1 5 _ rfl
  have y6:=CP.out.2.1 6 _ rfl
  have y7:=CP.out.2.1 7 _ rfl
  have yf:=CP.out.2.2
  have yl:=CP.out.1
  refine wp_region_held_drew (S:=fun w'=>Ce w' w1.heap.size ((List.range 8).map fun j=>Value.int .i64 (v j))) (by kernel_rfl) ?_ (fun hHeld=>?_)
  ·exact fZ.out.bo
  refine ae 0 hHeld ?_
  refine ae 1 hHeld ?_ (hy:=by intro w hSw;(try dsimp only at hSw);have q3:=hSw.2.1 3 (.int .i64 (v 3)) rfl;have q4:=hSw.2.1 4 (.int .i64 (v 4)) rfl;have q5:=hSw.2.1 5 (.int .i64 (v 5)) rfl;go_simp;(try with_reducible rfl))
  refine ae 2 hHeld ?_
  refine ae 3 hHeld ?_
  refine ae 4 hHeld ?_ (hy:=by intro w hSw;(try dsimp only at hSw);have q3:=hSw.2.1 3 (.int .i64 (v 3)) rfl;have q4:=hSw.2.1 4 (.int .i64 (v 4)) rfl;have q5:=hSw.2.1 5 (.int .i64 (v 5)) rfl;go_simp;(try with_reducible rfl))
  refine ae 5 hHeld ?_
  refine ae 6 hHeld ?_
  refine ae 7 hHeld ?_ (hy:=by intro w hSw;(try dsimp only at hSw);have q3:=hSw.2.1 3 (.int .i64 (v 3)) rfl;have q4:=hSw.2.1 4 (.int .i64 (v 4)) rfl;have q5:=hSw.2.1 5 (.int .i64 (v 5)) rfl;go_simp;(try with_reducible rfl))
  refine ae 8 hHeld ?_
  refine ae 9 hHeld ?_
  refine only 10 rfl (by kernel_rfl) rfl (fun K hK=>?_)
  go_simp
  have hH0:Ce ((we.setCell ⟨L9,5,none⟩ (.int .i64 (v 3%65536))).drew) w1.heap.size ((List.range 8).map fun j=>Value.int .i64 (v j)):=Ce.bo (fZ.out.grown (gs 5 (.int .i64 (v 3%65536)) (World.grownBy.refl we (some L9))) (fun e=>by injection e with e;omega))
  refine hK.out _ _ hH0 (fun _=>?_)
  clear hK
  (try simp only[Act.put,zA,zB,zC])
  refine ae 11 hH0 ?_
  refine only 12 rfl (by kernel_rfl) rfl (fun K hK=>?_)
  go_simp
  have hH1:Ce (((we.setCell ⟨L9,5,none⟩ (.int .i64 (v 3%65536))).setCell ⟨L9,6,none⟩ (.int .i64 (v 4%65536))).drew) w1.heap.size ((List.range 8).map fun j=>Value.int .i64 (v j)):=Ce.bo (fZ.out.grown (gs 6 (.int .i64 (v 4%65536)) (gs 5 (.int .i64 (v 3%65536)) (World.grownBy.refl we (some L9)))) (fun e=>by injection e with e;omega))
  refine hK.out _ _ hH1 (fun _=>?_)
  clear hK
  (try simp only[Act.put,zA,zB,zC])
  refine ae 13 hH1 ?_
  refine only 14 rfl (by kernel_rfl) rfl (fun K hK=>?_)
  go_simp
  have hH2:Ce ((((we.setCell ⟨L9,5,none⟩ (.int .i64 (v 3%65536))).setCell ⟨L9,6,none⟩ (.int .i64 (v 4%65536))).setCell ⟨L9,7,none⟩ (.int .i64 (v 5%16))).drew) w1.heap.size ((List.range 8).map fun j=>Value.int .i64 (v j)):=Ce.bo (fZ.out.grown (gs 7 (.int .i64 (v 5%16)) (gs 6 (.int .i64 (v 4%65536)) (gs 5 (.int .i64 (v 3%65536)) (World.grownBy.refl we (some L9))))) (fun e=>by injection e with e;omega))
  refine hK.out _ _ hH2 (fun _=>?_)
  clear hK
  (try simp only[Act.put,zA,zB,zC])
  refine wpAnyH_done (by kernel_rfl) ?_ _
  have uf:=hid (Ce.bo ((((CP.out).set 5 (.int .i64 (v 3%65536)) (by simp)).set 6 (.int .i64 (v 4%65536)) (by simp)).set 7 (.int .i64 (v 5%16)) (by simp)))
  have pH:=hid (Ow.drew (cU OD.out (gs 7 (.int .i64 (v 5%16)) (gs 6 (.int .i64 (v 4%65536)) (gs 5 (.int .i64 (v 3%65536)) (World.grownBy.refl we (some L9))))) NP.out))
  have ug:=hid ((BZ.out.trans (af (gs 7 (.int .i64 (v 5%16)) (gs 6 (.int .i64 (v 4%65536)) (gs 5 (.int .i64 (v 3%65536)) (World.grownBy.refl we (some L9))))) xq (ZF _ BZ.out))).drew)
  have ue:=hid hH2
  have mM:=hid (Ce.bo (dd.out.grown (gs 7 (.int .i64 (v 5%16)) (gs 6 (.int .i64 (v 4%65536)) (gs 5 (.int .i64 (v 3%65536)) (World.grownBy.refl we (some L9))))) (fun e=>by injection e with e;omega)))
  have Bn:=hid ((B3.out.trans (af (gs 7 (.int .i64 (v 5%16)) (gs 6 (.int .i64 (v 4%65536)) (gs 5 (.int .i64 (v 3%65536)) (World.grownBy.refl we (some L9))))) (by omega) B3.out.size)).drew)
  clear CP OD BZ fZ dd B3 hHeld yf yl hH0 hH1 hH2 y5 y6 y7
  have CP:=uf
  have OD:=pH
  have BZ:=ug
  have fZ:=ue
  have dd:=mM
  have B3:=Bn
  clear uf pH ug ue mM Bn
  generalize (((we.setCell ⟨L9,5,none⟩ (.int .i64 (v 3%65536))).setCell ⟨L9,6,none⟩ (.int .i64 (v 4%65536))).setCell ⟨L9,7,none⟩ (.int .i64 (v 5%16))).drew=wg at *
  obtain ⟨nk,hnk⟩:∃nk:Nat,v 6%41=(nk:Int):=⟨(v 6%41).toNat,by omega⟩
  have Qf:nk≤40:=by omega
  have NK:=hid hnk
  rw[hnk]at Ki
  clear hnk
  have q6:=fZ.out.2.1 6 (.int .i64 (v 6)) rfl
  go_wp2_with fail
  clear q6
  go_loopw [11] (fun i wr=>∃(q:Nat) (A:Option Addr) (c:Nat),q≤nk∧i =.int .i64 (q:Int)∧Ce wr L9 [.int .i64 (1+k3),(dc (v 0)),(cA (v 0)),.int .i64 (v 1%4294967296),.int .i64 (v 2%4294967296),.int .i64 (v 3%65536),.int .i64 (v 4%65536),.int .i64 (v 5%16),(),false,(),.slice A q c,.slice A9 m c9]∧OB wr wg.heap.size (.slice A q c) q (fun j=>v 7/2^(j%24)%256)∧wg.grownBy wr (some L9)) (fun i _=>60-(intOf i).toNat)
  case atStart=>exact⟨0,none,0,by omega,rfl,CP.out,OB.nil,World.grownBy.refl _ _⟩
  obtain ⟨q,A,c,hq,rfl,hc,ho,hgr⟩:=hrel
  have HC:=hid hc
  have HO:=hid ho
  have HR:=hid hgr
  clear hc ho hgr
  have Ck:=hid (fZ.out.grown HR.out (fun e=>by injection e with e;omega))
  by_cases hlt:q<nk
  ·have j1:(q:Int)<nk:=by omega
   have q7:=Ck.out.2.1 7 (.int .i64 (v 7)) rfl
   have ak:=HC.out.2.1 11 _ rfl
   have yf:=HC.out.2.2 11
   have yl:=HC.out.1
   have t24:=dD (q:Int) 24 (by omega)
   have lw:L9<wg.heap.size:=CP.out.1
   have hbs:wg.heap.size≤wr.heap.size:=HR.out.size
   go_wp2_with (at_builtin;refine dM rfl (.tmp 91) (.tmp 99) rfl wg.heap.size _ q _ rfl (Ow.alloc HO.out _) _ 1 _ (fun _=>v 7/2^(q%24)%256) rfl (HU wr _) (by omega) (by simp;omega) ?_;intro A7 c7 w7 h1 h2 h3 h4 h5 h6;have O7:=hid h1;have C7:=hid (Ce.below_ (HC.out.alloc (.cells #[.int .u8 (v 7/2^(q%24)%256)] 5)) h4 lw);have R7:=hid (qt (qt HR.out ((Below.refl wg.heap.size wr).alloc hbs _)) h4);clear h1 h2 h3 h4 h5 h6 ak yf yl q7;have ak:=C7.out.2.1 11 _ rfl;have yf:=C7.out.2.2 11)
   go_roundw
   case rel=>
    refine⟨q+1,A7,c7,by omega,by go_num,C7.out.set 11 (.slice A7 (q+1) c7) (by simp),?_,gs 11 _ R7.out⟩
    have O8:=OB.mJ O7.out (g':=(fun j=>v 7/2^(j%24)%256)) (fun j hj=>by split;rfl;rename_i hj2;rw[show j=q from by omega])
    exact cU O8 (gs 11 _ (World.grownBy.refl w7 (some L9))) (OB.ne O8 lw)
   simp[intOf];omega
  have j1:¬(q:Int)<nk:=by omega
  have qk:q=nk:=by omega
  subst qk
  have pH:=hid (cU OD.out HR.out NP.out)
  have mM:=hid (dd.out.grown HR.out (fun e=>by injection e with e;omega))
  have Bn:=hid (B3.out.trans (af HR.out (by omega) B3.out.size))
  have OO:=hid (OB.base HO.out (show Z≤wg.heap.size from ZF _ BZ.out))
  clear CP OD dd B3 HO fZ Ck BZ
  have CP:=HC
  have OD:=pH
  have dd:=mM
  have B3:=Bn
  clear HC pH mM Bn
  have MP:Hid (ib kind v g2 n2 ={ kind:=1+k3,life:=(dc (v 0)),piece:=(cA (v 0)),src:=v 1%4294967296,dst:=v 2%4294967296,fp:=v 3%65536,tp:=v 4%65536,flags:=v 5%16,no:=q,go:=(fun j=>v 7/2^(j%24)%256),nd:=m,gd:=g2 }):=hid (by unfold ib;rw[←K3.out,if_neg (by have:=KQ.out;omega),if_neg (by have:=KQ.out;omega),←J1.out,NK.out,KQ.out,Int.toNat_natCast])
  go_upto_region 24 with (fail)
  have y0:=CP.out.2.1 0 _ rfl
  have y1:=CP.out.2.1 1 _ rfl
  have y2:=CP.out.2.1 2 _ rfl
  have y3:=CP.out.2.1 3 _ rfl
  have y4:=CP.out.2.1 4 _ rfl
  have y5:=CP.out.2.1 5 _ rfl
  have y6:=CP.out.2.1 6 _ rfl
  have y7:=CP.out.2.1 7 _ rfl
  have y8:=CP.out.2.1 8 _ rfl
  have y9:=CP.out.2.1 9 _ rfl
  have al:=CP.out.2.1 10 _ rfl
  have ak:=CP.out.2.1 11 _ rfl
  have aj:=CP.out.2.1 12 _ rfl
  have yf:=CP.out.2.2
  have yl:=CP.out.1
  have z0:=dd.out.2.1 0 _ rfl
  have z1:=dd.out.2.1 1 _ rfl
  have z2:=dd.out.2.1 2 _ rfl
  have z3:=dd.out.2.1 3 _ rfl
  have z4:=dd.out.2.1 4 _ rfl
  have z5:=dd.out.2.1 5 _ rfl
  have z6:=dd.out.2.1 6 _ rfl
  have z7:=dd.out.2.1 7 _ rfl
  have z8:=dd.out.2.1 8 _ rfl
  have z9:=dd.out.2.1 9 _ rfl
  have kB:=dd.out.2.1 10 _ rfl
  have kz:=dd.out.2.1 11 _ rfl
  have z12:=dd.out.2.1 12 _ rfl
  have zf:=dd.out.2.2
  have zl:=dd.out.1
  go_wp2_with fail
  have CE:=dd.out.s13 (.int .i64 (1+k3)) (.int .i64 (dc (v 0))) (.int .i64 (cA (v 0))) (.int .i64 (v 1%4294967296)) (.int .i64 (v 2%4294967296)) (.int .i64 (v 3%65536)) (.int .i64 (v 4%65536)) (.int .i64 (v 5%16)) (.int .i64 0) (.bool false) (.int .i64 0) (.slice A q c) (.slice A9 m c9)
  have BE:=dz (b:=w.heap.size) B3.out (Nat.le_refl _) (.int .i64 (1+k3)) (.int .i64 (dc (v 0))) (.int .i64 (cA (v 0))) (.int .i64 (v 1%4294967296)) (.int .i64 (v 2%4294967296)) (.int .i64 (v 3%65536)) (.int .i64 (v 4%65536)) (.int .i64 (v 5%16)) (.int .i64 0) (.bool false) (.int .i64 0) (.slice A q c) (.slice A9 m c9)
  have dr:=cU OO.out (aY _ w.heap.size (.int .i64 (1+k3)) (.int .i64 (dc (v 0))) (.int .i64 (cA (v 0))) (.int .i64 (v 1%4294967296)) (.int .i64 (v 2%4294967296)) (.int .i64 (v 3%65536)) (.int .i64 (v 4%65536)) (.int .i64 (v 5%16)) (.int .i64 0) (.bool false) (.int .i64 0) (.slice A q c) (.slice A9 m c9)) (OB.ne OO.out (by omega))
  have iC:=cU OD.out (aY _ w.heap.size (.int .i64 (1+k3)) (.int .i64 (dc (v 0))) (.int .i64 (cA (v 0))) (.int .i64 (v 1%4294967296)) (.int .i64 (v 2%4294967296)) (.int .i64 (v 3%65536)) (.int .i64 (v 4%65536)) (.int .i64 (v 5%16)) (.int .i64 0) (.bool false) (.int .i64 0) (.slice A q c) (.slice A9 m c9)) (OB.ne OD.out (by omega))
  unfold cK at CE BE dr iC
  replace CE:=hid CE
  replace BE:=hid BE
  replace dr:=hid dr
  replace iC:=hid iC
  refine cV (fun w'=>Ce w' w.heap.size [.int .i64 (1+k3),(dc (v 0)),(cA (v 0)),.int .i64 (v 1%4294967296),.int .i64 (v 2%4294967296),.int .i64 (v 3%65536),.int .i64 (v 4%65536),.int .i64 (v 5%16),(),false,(),.slice A q c,.slice A9 m c9]∧Below w.heap.size w w'∧OB w' Z (.slice A q c) q (fun j=>v 7/2^(j%24)%256)∧OB w' Z (.slice A9 m c9) m g2) ⟨CE.out,BE.out,dr.out,iC.out⟩ (fun wf hwf=>?_)
  obtain ⟨hc2,hbf,ho0,ho1⟩:=hwf
  have x0:=hc2.2.1 0 _ rfl
  have x1:=hc2.2.1 1 _ rfl
  have x2:=hc2.2.1 2 _ rfl
  have x3:=hc2.2.1 3 _ rfl
  have x4:=hc2.2.1 4 _ rfl
  have x5:=hc2.2.1 5 _ rfl
  have x6:=hc2.2.1 6 _ rfl
  have x7:=hc2.2.1 7 _ rfl
  have x8:=hc2.2.1 8 _ rfl
  have x9:=hc2.2.1 9 _ rfl
  have gj:=hc2.2.1 10 _ rfl
  have gi:=hc2.2.1 11 _ rfl
  have gg:=hc2.2.1 12 _ rfl
  refine bodyPost_ret (v:=.agg #[.int .i64 (1+k3),(dc (v 0)),(cA (v 0)),.int .i64 (v 1%4294967296),.int .i64 (v 2%4294967296),.int .i64 (v 3%65536),.int .i64 (v 4%65536),.int .i64 (v 5%16),(),false,(),.slice A q c,.slice A9 m c9]) (by simp[results,Tryz.results40,go_sem,x0,x1,x2,x3,x4,x5,x6,x7,x8,x9,gj,gi,gg]) rfl ?_
  exact⟨(.slice A q c),(.slice A9 m c9),by rw[HV.out,MP.out];rfl,by rw[HV.out,MP.out];exact OB.base ho0 zB,by rw[HV.out,MP.out];exact OB.base ho1 zB,hbf⟩
 ·have m3:(1+k3==3)=false:=by rw[kk];rfl
  have m2:(1+k3==2)=true:=by rw[kk];rfl
  have MP:Hid (ib kind v g2 n2 ={ kind:=1+k3,life:=(dc (v 0)),piece:=(cA (v 0)),src:=v 1%4294967296,dst:=v 2%4294967296,fp:=v 3%65536,tp:=v 4%65536,label:=v 5%65536,bare:=v 6%4==0,nd:=m,gd:=g2 }):=hid (by unfold ib;rw[←K3.out,if_neg (by omega),if_pos kk,←J1.out,kk])
  clear kk
  have y0:=CP.out.2.1 0 _ rfl
  have CI:=dD (v 3) 65536 (NV.out 3).1
  have CB:=dD (v 4) 65536 (NV.out 4).1
  have MC:=dD (v 5) 65536 (NV.out 5).1
  have Qc:=dD (v 6) 4 (NV.out 6).1
  go_upto_region 23 with (fail)
  clear y0
  have y5:=CP.out.2.1 5 _ rfl
  have y6:=CP.out.2.1 6 _ rfl
  have y8:=CP.out.2.1 8 _ rfl
  have y9:=CP.out.2.1 9 _ rfl
  have yf:=CP.out.2.2
  have yl:=CP.out.1
  refine wp_region_held_drew (S:=fun w'=>Ce w' w1.heap.size ((List.range 8).map fun j=>Value.int .i64 (v j))) (by kernel_rfl) ?_ (fun hHeld=>?_)
  ·exact fZ.out.bo
  refine ae 0 hHeld ?_
  refine ae 1 hHeld ?_ (hy:=by intro w hSw;(try dsimp only at hSw);have q3:=hSw.2.1 3 (.int .i64 (v 3)) rfl;have q4:=hSw.2.1 4 (.int .i64 (v 4)) rfl;have q5:=hSw.2.1 5 (.int .i64 (v 5)) rfl;have q6:=hSw.2.1 6 (.int .i64 (v 6)) rfl;go_simp;(try with_reducible rfl))
  refine ae 2 hHeld ?_
  refine ae 3 hHeld ?_
  refine ae 4 hHeld ?_ (hy:=by intro w hSw;(try dsimp only at hSw);have q3:=hSw.2.1 3 (.int .i64 (v 3)) rfl;have q4:=hSw.2.1 4 (.int .i64 (v 4)) rfl;have q5:=hSw.2.1 5 (.int .i64 (v 5)) rfl;have q6:=hSw.2.1 6 (.int .i64 (v 6)) rfl;go_simp;(try with_reducible rfl))
  refine ae 5 hHeld ?_
  refine ae 6 hHeld ?_
  refine ae 7 hHeld ?_ (hy:=by intro w hSw;(try dsimp only at hSw);have q3:=hSw.2.1 3 (.int .i64 (v 3)) rfl;have q4:=hSw.2.1 4 (.int .i64 (v 4)) rfl;have q5:=hSw.2.1 5 (.int .i64 (v 5)) rfl;have q6:=hSw.2.1 6 (.int .i64 (v 6)) rfl;go_simp;(try with_reducible rfl))
  refine ae 8 hHeld ?_
  refine ae 9 hHeld ?_
  refine ae 10 hHeld ?_ (hy:=by intro w hSw;(try dsimp only at hSw);have q3:=hSw.2.1 3 (.int .i64 (v 3)) rfl;have q4:=hSw.2.1 4 (.int .i64 (v 4)) rfl;have q5:=hSw.2.1 5 (.int .i64 (v 5)) rfl;have q6:=hSw.2.1 6 (.int .i64 (v 6)) rfl;go_simp;(try with_reducible rfl))
  refine ae 11 hHeld ?_
  refine ae 12 hHeld ?_
  refine ae 13 hHeld ?_
  refine only 14 rfl (by kernel_rfl) rfl (fun K hK=>?_)
  go_simp
  have hH0:Ce ((we.setCell ⟨L9,5,none⟩ (.int .i64 (v 3%65536))).drew) w1.heap.size ((List.range 8).map fun j=>Value.int .i64 (v j)):=Ce.bo (fZ.out.grown (gs 5 (.int .i64 (v 3%65536)) (World.grownBy.refl we (some L9))) (fun e=>by injection e with e;omega))
  refine hK.out _ _ hH0 (fun _=>?_)
  clear hK
  (try simp only[Act.put,zA,zB,zC])
  refine ae 15 hH0 ?_
  refine only 16 rfl (by kernel_rfl) rfl (fun K hK=>?_)
  go_simp
  have hH1:Ce (((we.setCell ⟨L9,5,none⟩ (.int .i64 (v 3%65536))).setCell ⟨L9,6,none⟩ (.int .i64 (v 4%65536))).drew) w1.heap.size ((List.range 8).map fun j=>Value.int .i64 (v j)):=Ce.bo (fZ.out.grown (gs 6 (.int .i64 (v 4%65536)) (gs 5 (.int .i64 (v 3%65536)) (World.grownBy.refl we (some L9)))) (fun e=>by injection e with e;omega))
  refine hK.out _ _ hH1 (fun _=>?_)
  clear hK
  (try simp only[Act.put,zA,zB,zC])
  refine ae 17 hH1 ?_
  refine only 18 rfl (by kernel_rfl) rfl (fun K hK=>?_)
  go_simp
  have hH2:Ce ((((we.setCell ⟨L9,5,none⟩ (.int .i64 (v 3%65536))).setCell ⟨L9,6,none⟩ (.int .i64 (v 4%65536))).setCell ⟨L9,8,none⟩ (.int .i64 (v 5%65536))).drew) w1.heap.size ((List.range 8).map fun j=>Value.int .i64 (v j)):=Ce.bo (fZ.out.grown (gs 8 (.int .i64 (v 5%65536)) (gs 6 (.int .i64 (v 4%65536)) (gs 5 (.int .i64 (v 3%65536)) (World.grownBy.refl we (some L9))))) (fun e=>by injection e with e;omega))
  refine hK.out _ _ hH2 (fun _=>?_)
  clear hK
  (try simp only[Act.put,zA,zB,zC])
  refine ae 19 hH2 ?_
  refine only 20 rfl (by kernel_rfl) rfl (fun K hK=>?_)
  go_simp
  have hH3:Ce (((((we.setCell ⟨L9,5,none⟩ (.int .i64 (v 3%65536))).setCell ⟨L9,6,none⟩ (.int .i64 (v 4%65536))).setCell ⟨L9,8,none⟩ (.int .i64 (v 5%65536))).setCell ⟨L9,9,none⟩ (.bool (v 6%4==0))).drew) w1.heap.size ((List.range 8).map fun j=>Value.int .i64 (v j)):=Ce.bo (fZ.out.grown (gs 9 (.bool (v 6%4==0)) (gs 8 (.int .i64 (v 5%65536)) (gs 6 (.int .i64 (v 4%65536)) (gs 5 (.int .i64 (v 3%65536)) (World.grownBy.refl we (some L9)))))) (fun e=>by injection e with e;omega))
  refine hK.out _ _ hH3 (fun _=>?_)
  clear hK
  (try simp only[Act.put,zA,zB,zC])
  refine wpAnyH_done (by kernel_rfl) ?_ _
  have uf:=hid (Ce.bo (((((CP.out).set 5 (.int .i64 (v 3%65536)) (by simp)).set 6 (.int .i64 (v 4%65536)) (by simp)).set 8 (.int .i64 (v 5%65536)) (by simp)).set 9 (.bool (v 6%4==0)) (by simp)))
  have pH:=hid (Ow.drew (cU OD.out (gs 9 (.bool (v 6%4==0)) (gs 8 (.int .i64 (v 5%65536)) (gs 6 (.int .i64 (v 4%65536)) (gs 5 (.int .i64 (v 3%65536)) (World.grownBy.refl we (some L9)))))) NP.out))
  have ug:=hid ((BZ.out.trans (af (gs 9 (.bool (v 6%4==0)) (gs 8 (.int .i64 (v 5%65536)) (gs 6 (.int .i64 (v 4%65536)) (gs 5 (.int .i64 (v 3%65536)) (World.grownBy.refl we (some L9)))))) xq (ZF _ BZ.out))).drew)
  have ue:=hid hH3
  have mM:=hid (Ce.bo (dd.out.grown (gs 9 (.bool (v 6%4==0)) (gs 8 (.int .i64 (v 5%65536)) (gs 6 (.int .i64 (v 4%65536)) (gs 5 (.int .i64 (v 3%65536)) (World.grownBy.refl we (some L9)))))) (fun e=>by injection e with e;omega)))
  have Bn:=hid ((B3.out.trans (af (gs 9 (.bool (v 6%4==0)) (gs 8 (.int .i64 (v 5%65536)) (gs 6 (.int .i64 (v 4%65536)) (gs 5 (.int .i64 (v 3%65536)) (World.grownBy.refl we (some L9)))))) (by omega) B3.out.size)).drew)
  clear CP OD BZ fZ dd B3 hHeld yf yl hH0 hH1 hH2 hH3 y5 y6 y8 y9
  have CP:=uf
  have OD:=pH
  have BZ:=ug
  have fZ:=ue
  have dd:=mM
  have B3:=Bn
  clear uf pH ug ue mM Bn
  generalize ((((we.setCell ⟨L9,5,none⟩ (.int .i64 (v 3%65536))).setCell ⟨L9,6,none⟩ (.int .i64 (v 4%65536))).setCell ⟨L9,8,none⟩ (.int .i64 (v 5%65536))).setCell ⟨L9,9,none⟩ (.bool (v 6%4==0))).drew=wg at *
  go_upto_region 24 with (fail)
  have y0:=CP.out.2.1 0 _ rfl
  have y1:=CP.out.2.1 1 _ rfl
  have y2:=CP.out.2.1 2 _ rfl
  have y3:=CP.out.2.1 3 _ rfl
  have y4:=CP.out.2.1 4 _ rfl
  have y5:=CP.out.2.1 5 _ rfl
  have y6:=CP.out.2.1 6 _ rfl
  have y7:=CP.out.2.1 7 _ rfl
  have y8:=CP.out.2.1 8 _ rfl
  have y9:=CP.out.2.1 9 _ rfl
  have al:=CP.out.2.1 10 _ rfl
  have ak:=CP.out.2.1 11 _ rfl
  have aj:=CP.out.2.1 12 _ rfl
  have yf:=CP.out.2.2
  have yl:=CP.out.1
  have z0:=dd.out.2.1 0 _ rfl
  have z1:=dd.out.2.1 1 _ rfl
  have z2:=dd.out.2.1 2 _ rfl
  have z3:=dd.out.2.1 3 _ rfl
  have z4:=dd.out.2.1 4 _ rfl
  have z5:=dd.out.2.1 5 _ rfl
  have z6:=dd.out.2.1 6 _ rfl
  have z7:=dd.out.2.1 7 _ rfl
  have z8:=dd.out.2.1 8 _ rfl
  have z9:=dd.out.2.1 9 _ rfl
  have kB:=dd.out.2.1 10 _ rfl
  have kz:=dd.out.2.1 11 _ rfl
  have z12:=dd.out.2.1 12 _ rfl
  have zf:=dd.out.2.2
  have zl:=dd.out.1
  go_wp2_with fail
  have CE:=dd.out.s13 (.int .i64 (1+k3)) (.int .i64 (dc (v 0))) (.int .i64 (cA (v 0))) (.int .i64 (v 1%4294967296)) (.int .i64 (v 2%4294967296)) (.int .i64 (v 3%65536)) (.int .i64 (v 4%65536)) (.int .i64 0) (.int .i64 (v 5%65536)) (.bool (v 6%4==0)) (.int .i64 0) (.slice none 0 0) (.slice A9 m c9)
  have BE:=dz (b:=w.heap.size) B3.out (Nat.le_refl _) (.int .i64 (1+k3)) (.int .i64 (dc (v 0))) (.int .i64 (cA (v 0))) (.int .i64 (v 1%4294967296)) (.int .i64 (v 2%4294967296)) (.int .i64 (v 3%65536)) (.int .i64 (v 4%65536)) (.int .i64 0) (.int .i64 (v 5%65536)) (.bool (v 6%4==0)) (.int .i64 0) (.slice none 0 0) (.slice A9 m c9)
  have dr:=cU OD.out (aY _ w.heap.size (.int .i64 (1+k3)) (.int .i64 (dc (v 0))) (.int .i64 (cA (v 0))) (.int .i64 (v 1%4294967296)) (.int .i64 (v 2%4294967296)) (.int .i64 (v 3%65536)) (.int .i64 (v 4%65536)) (.int .i64 0) (.int .i64 (v 5%65536)) (.bool (v 6%4==0)) (.int .i64 0) (.slice none 0 0) (.slice A9 m c9)) (OB.ne OD.out (by omega))
  unfold cK at CE BE dr
  replace CE:=hid CE
  replace BE:=hid BE
  replace dr:=hid dr
  refine cV (fun w'=>Ce w' w.heap.size [.int .i64 (1+k3),(dc (v 0)),(cA (v 0)),.int .i64 (v 1%4294967296),.int .i64 (v 2%4294967296),.int .i64 (v 3%65536),.int .i64 (v 4%65536),(),.int .i64 (v 5%65536),.bool (v 6%4==0),(),.slice none 0 0,.slice A9 m c9]∧Below w.heap.size w w'∧OB w' Z (.slice A9 m c9) m g2) ⟨CE.out,BE.out,dr.out⟩ (fun wf hwf=>?_)
  obtain ⟨hc2,hbf,ho0⟩:=hwf
  have x0:=hc2.2.1 0 _ rfl
  have x1:=hc2.2.1 1 _ rfl
  have x2:=hc2.2.1 2 _ rfl
  have x3:=hc2.2.1 3 _ rfl
  have x4:=hc2.2.1 4 _ rfl
  have x5:=hc2.2.1 5 _ rfl
  have x6:=hc2.2.1 6 _ rfl
  have x7:=hc2.2.1 7 _ rfl
  have x8:=hc2.2.1 8 _ rfl
  have x9:=hc2.2.1 9 _ rfl
  have gj:=hc2.2.1 10 _ rfl
  have gi:=hc2.2.1 11 _ rfl
  have gg:=hc2.2.1 12 _ rfl
  refine bodyPost_ret (v:=.agg #[.int .i64 (1+k3),(dc (v 0)),(cA (v 0)),.int .i64 (v 1%4294967296),.int .i64 (v 2%4294967296),.int .i64 (v 3%65536),.int .i64 (v 4%65536),(),.int .i64 (v 5%65536),.bool (v 6%4==0),(),.slice none 0 0,.slice A9 m c9]) (by simp[results,Tryz.results40,go_sem,x0,x1,x2,x3,x4,x5,x6,x7,x8,x9,gj,gi,gg]) rfl ?_
  exact⟨.slice none 0 0,(.slice A9 m c9),by rw[HV.out,MP.out];rfl,by rw[HV.out,MP.out];exact OB.nil,by rw[HV.out,MP.out];exact OB.base ho0 zB,hbf⟩
 have m3:(1+k3==3)=true:=by rw[kk];rfl
 have KQ:=hid kk
 clear kk
 have y0:=CP.out.2.1 0 _ rfl
 have al:=CP.out.2.1 10 _ rfl
 have yf:=CP.out.2.2 10
 have Nt:=dD (v 3) 256 (NV.out 3).1
 have q3:=fZ.out.2.1 3 (.int .i64 (v 3)) rfl
 go_upto_region 20 with (fail)
 clear y0 al yf q3
 have uf:=hid (CP.out.set 10 (.int .i64 (v 3%256)) (by simp))
 have pH:=hid (cU OD.out (gs 10 (.int .i64 (v 3%256)) (World.grownBy.refl we (some L9))) NP.out)
 have ug:=hid (BZ.out.trans (af (gs 10 (.int .i64 (v 3%256)) (World.grownBy.refl we (some L9))) xq (ZF _ BZ.out)))
 have ue:=hid (fZ.out.grown (gs 10 (.int .i64 (v 3%256)) (World.grownBy.refl we (some L9))) (fun e=>by injection e with e;omega))
 have mM:=hid (dd.out.grown (gs 10 (.int .i64 (v 3%256)) (World.grownBy.refl we (some L9))) (fun e=>by injection e with e;omega))
 have Bn:=hid (B3.out.trans (af (gs 10 (.int .i64 (v 3%256)) (World.grownBy.refl we (some L9))) (by omega) B3.out.size))
 clear CP OD BZ fZ dd B3
 have CP:=uf
 have OD:=pH
 have BZ:=ug
 have fZ:=ue
 have dd:=mM
 have B3:=Bn
 clear uf pH ug ue mM Bn
 generalize we.setCell ⟨L9,10,none⟩ (.int .i64 (v 3%256))=wg at *
 go_wp2_with fail
 go_loopw [] (fun wr=>∃(q:Nat) (A:Option Addr) (c:Nat),m≤q∧(q=m∨q≤24)∧Ce wr L9 [.int .i64 (1+k3),(dc (v 0)),(cA (v 0)),.int .i64 (v 1%4294967296),.int .i64 (v 2%4294967296),(),(),(),(),false,.int .i64 (v 3%256),.slice none 0 0,.slice A q c]∧OB wr Z (.slice A q c) q (fun j=>if j<m then g2 j else v 4/2^(j%8)%256)∧(Value.slice A q c).ownBlock≠some L9∧Below Z wg wr) (fun wr=>match wr.cell? ⟨L9,12,none⟩ with |some (.slice _ q _)=>30-q | _=>0)
 case atStart=>exact⟨m,A9,c9,Nat.le_refl _,.inl rfl,CP.out,OB.mJ OD.out (fun j hj=>by rw[if_pos hj]),NP.out,Below.refl _ _⟩
 obtain ⟨q,A,c,QX,hq,hc,ho,hnp,hbz⟩:=hrel
 have HC:=hid hc
 have HO:=hid ho
 have HN:=hid hnp
 have HZ:=hid hbz
 have NZ:=ZF _ (BZ.out.trans hbz)
 clear hc ho hnp hbz
 have Ck:=hid (Ce.below_ fZ.out HZ.out zA)
 have aj:=HC.out.2.1 12 _ rfl
 have yl:=HC.out.1
 by_cases hlt:q<24
 ·have j1:(q:Int)<24:=by omega
  have q4:=Ck.out.2.1 4 (.int .i64 (v 4)) rfl
  have yf:=HC.out.2.2 12
  have t8:=dD (q:Int) 8 (by omega)
  go_wp2_with (at_builtin;refine dM rfl (.tmp 113) (.tmp 123) rfl Z _ q _ rfl (Ow.alloc HO.out _) _ 1 _ (fun _=>v 4/2^(q%8)%256) rfl (HU wr _) (by omega) (by simp;omega) ?_;intro A7 c7 w7 h1 h2 h3 h4 h5 h6;have O7:=hid h1;have N7:=hid (show (Value.slice A7 (q+1) c7).ownBlock≠some L9 from fun e=>by rcases h6 L9 e with e6 |e6;(exact HN.out e6);(simp at e6;omega));have C7:=hid ((HC.out.alloc (.cells #[.int .u8 (v 4/2^(q%8)%256)] 5)).grown h5 HN.out);have Z7:=hid ((HZ.out.alloc NZ (.cells #[.int .u8 (v 4/2^(q%8)%256)] 5)).trans h4);clear h1 h2 h3 h4 h5 h6 aj yf yl q4;have aj:=C7.out.2.1 12 _ rfl;have yf:=C7.out.2.2 12)
  go_roundw
  case rel=>
   refine⟨q+1,A7,c7,by omega,.inr (by omega),C7.out.set 12 (.slice A7 (q+1) c7) (by simp),?_,N7.out,Z7.out.setCell (p:=⟨L9,12,none⟩) xq _⟩
   have O8:=OB.mJ O7.out (g':=(fun j=>if j<m then g2 j else v 4/2^(j%8)%256)) (fun j hj=>by split;rfl;rename_i hj2;rw[show j=q from by omega,if_neg (by omega)])
   exact cU O8 (gs 12 _ (World.grownBy.refl w7 (some L9))) N7.out
  have m1:=(C7.out.set 12 (.slice A7 (q+1) c7) (by simp)).2.1 12 _ rfl
  have m2:=HC.out.2.1 12 _ rfl
  simp only[m1,m2]
  omega
 have j1:¬(q:Int)<24:=by omega
 have qk:max 24 m=q:=by omega
 have mM:=hid (Ce.below_ dd.out HZ.out (by omega))
 have Bn:=hid (B3.out.trans (HZ.out.mono zB))
 clear CP OD dd B3 fZ Ck BZ aj yl
 have CP:=HC
 have OD:=HO
 have dd:=mM
 have B3:=Bn
 clear HC HO mM Bn
 have MP:Hid (ib kind v g2 n2 ={ kind:=1+k3,life:=(dc (v 0)),piece:=(cA (v 0)),src:=v 1%4294967296,dst:=v 2%4294967296,code:=v 3%256,nd:=q,gd:=(fun j=>if j<m then g2 j else v 4/2^(j%8)%256) }):=hid (by unfold ib;rw[←K3.out,if_pos KQ.out,←J1.out,qk,KQ.out])
 have aj:=CP.out.2.1 12 _ rfl
 clear qk
 go_upto_region 24 with (fail)
 clear aj
 have y0:=CP.out.2.1 0 _ rfl
 have y1:=CP.out.2.1 1 _ rfl
 have y2:=CP.out.2.1 2 _ rfl
 have y3:=CP.out.2.1 3 _ rfl
 have y4:=CP.out.2.1 4 _ rfl
 have y5:=CP.out.2.1 5 _ rfl
 have y6:=CP.out.2.1 6 _ rfl
 have y7:=CP.out.2.1 7 _ rfl
 have y8:=CP.out.2.1 8 _ rfl
 have y9:=CP.out.2.1 9 _ rfl
 have al:=CP.out.2.1 10 _ rfl
 have ak:=CP.out.2.1 11 _ rfl
 have aj:=CP.out.2.1 12 _ rfl
 have yf:=CP.out.2.2
 have yl:=CP.out.1
 have z0:=dd.out.2.1 0 _ rfl
 have z1:=dd.out.2.1 1 _ rfl
 have z2:=dd.out.2.1 2 _ rfl
 have z3:=dd.out.2.1 3 _ rfl
 have z4:=dd.out.2.1 4 _ rfl
 have z5:=dd.out.2.1 5 _ rfl
 have z6:=dd.out.2.1 6 _ rfl
 have z7:=dd.out.2.1 7 _ rfl
 have z8:=dd.out.2.1 8 _ rfl
 have z9:=dd.out.2.1 9 _ rfl
 have kB:=dd.out.2.1 10 _ rfl
 have kz:=dd.out.2.1 11 _ rfl
 have z12:=dd.out.2.1 12 _ rfl
 have zf:=dd.out.2.2
 have zl:=dd.out.1
 go_wp2_with fail
 have CE:=dd.out.s13 (.int .i64 (1+k3)) (.int .i64 (dc (v 0))) (.int .i64 (cA (v 0))) (.int .i64 (v 1%4294967296)) (.int .i64 (v 2%4294967296)) (.int .i64 0) (.int .i64 0) (.int .i64 0) (.int .i64 0) (.bool false) (.int .i64 (v 3%256)) (.slice none 0 0) (.slice A q c)
 have BE:=dz (b:=w.heap.size) B3.out (Nat.le_refl _) (.int .i64 (1+k3)) (.int .i64 (dc (v 0))) (.int .i64 (cA (v 0))) (.int .i64 (v 1%4294967296)) (.int .i64 (v 2%4294967296)) (.int .i64 0) (.int .i64 0) (.int .i64 0) (.int .i64 0) (.bool false) (.int .i64 (v 3%256)) (.slice none 0 0) (.slice A q c)
 have dr:=cU OD.out (aY _ w.heap.size (.int .i64 (1+k3)) (.int .i64 (dc (v 0))) (.int .i64 (cA (v 0))) (.int .i64 (v 1%4294967296)) (.int .i64 (v 2%4294967296)) (.int .i64 0) (.int .i64 0) (.int .i64 0) (.int .i64 0) (.bool false) (.int .i64 (v 3%256)) (.slice none 0 0) (.slice A q c)) (OB.ne OD.out (by omega))
 unfold cK at CE BE dr
 replace CE:=hid CE
 replace BE:=hid BE
 replace dr:=hid dr
 refine cV (fun w'=>Ce w' w.heap.size [.int .i64 (1+k3),(dc (v 0)),(cA (v 0)),.int .i64 (v 1%4294967296),.int .i64 (v 2%4294967296),(),(),(),(),false,.int .i64 (v 3%256),.slice none 0 0,.slice A q c]∧Below w.heap.size w w'∧OB w' Z (.slice A q c) q (fun j=>if j<m then g2 j else v 4/2^(j%8)%256)) ⟨CE.out,BE.out,dr.out⟩ (fun wf hwf=>?_)
 obtain ⟨hc2,hbf,ho0⟩:=hwf
 have x0:=hc2.2.1 0 _ rfl
 have x1:=hc2.2.1 1 _ rfl
 have x2:=hc2.2.1 2 _ rfl
 have x3:=hc2.2.1 3 _ rfl
 have x4:=hc2.2.1 4 _ rfl
 have x5:=hc2.2.1 5 _ rfl
 have x6:=hc2.2.1 6 _ rfl
 have x7:=hc2.2.1 7 _ rfl
 have x8:=hc2.2.1 8 _ rfl
 have x9:=hc2.2.1 9 _ rfl
 have gj:=hc2.2.1 10 _ rfl
 have gi:=hc2.2.1 11 _ rfl
 have gg:=hc2.2.1 12 _ rfl
 refine bodyPost_ret (v:=.agg #[.int .i64 (1+k3),(dc (v 0)),(cA (v 0)),.int .i64 (v 1%4294967296),.int .i64 (v 2%4294967296),(),(),(),(),false,.int .i64 (v 3%256),.slice none 0 0,.slice A q c]) (by simp[results,Tryz.results40,go_sem,x0,x1,x2,x3,x4,x5,x6,x7,x8,x9,gj,gi,gg]) rfl ?_
 exact⟨.slice none 0 0,(.slice A q c),by rw[HV.out,MP.out];rfl,by rw[HV.out,MP.out];exact OB.nil,by rw[HV.out,MP.out];exact OB.base ho0 zB,hbf⟩
end Go.Proofs.YtalnfkijiehjhaaGreat
