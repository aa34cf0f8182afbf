/- The laws' helper Make. -/
import Derived.Test.YtalnfkijiehjhaaGreatGa
import Derived.Test.YtalnfkijiehjhaaGreatGr
import Derived.Deep.CutRange
import Derived.BigQuiet
import Derived.Deep.RegionHeld3
import Derived.Deep.Cut
namespace Go.Proofs.YtalnfkijiehjhaaGreat
open List renaming setIfInBounds_toArray→zA,set_cons_zero→zB,set_cons_succ→zC
set_option linter.unusedVariables false
set_option linter.unusedSimpArgs false
open Go.RowKit Go.ChangeShapes Go.WideShapes Go.ChangeAt
theorem Am {W w:World}{L:List (Nat×Pl)}{A:Option Addr}{n:Nat}{g:Nat→Int}{T:TypeId}(h:SS W (w.alloc (.cells (PA cm) T)).drew L A n g):au (w.alloc (.cells (PA cm) T)).drew w.heap.size cm:=(au.made rfl).drew
theorem uX {W w:World}{L:List (Nat×Pl)}{A:Option Addr}{n:Nat}{g:Nat→Int}{T:TypeId}(h:SS W (w.alloc (.cells (PA cm) T)) L A n g):au (w.alloc (.cells (PA cm) T)) w.heap.size cm:=au.made rfl
def Lg:Pl:=⟨0,10,80,fun _=>iD,⟨1,fL,vg 1,vg 2⟩⟩
def fP (g:Nat→Int):Nat→Pl
 |0=>Lg
 |k+1=>if (jY (fP g k) (tV (g k))).2=0 then (jY (fP g k) (tV (g k))).1 else fP g k
theorem m5 (g:Nat→Int):∀k:Nat,i6 (fP g k) k
 |0=>F7 10 80 _ _
 |k+1=>by
  have ih:=m5 g k
  unfold fP
  split
  ·rename_i h;exact(Gu ih h).mono (by omega)
  exact ih.mono (by omega)
attribute [local irreducible] PA
theorem qXB{P:Prop}(h:P:=by
 clear hlt
 go_wp2_with (first | ((with_reducible refine ah ?_);refine cu rfl rfl rfl LP ?_) | ((with_reducible refine ah ?_);refine cE rfl rfl rfl rfl SR.out ?_;refine aJ ?_;apply_assumption;refine wp_ret ?_;(repeat first |refine aI ?_ |refine mr ?_);(show bodyPost _ _ _ _ _ _);refine bodyPost_ret (v:=.agg (PA (fP g1 k))) (rG Tryz.results9 _ rfl (PR.whole (fP g1 k))) rfl ⟨by rw[Mk.out],S.out.bl.trans (aH W.heap.size (PA (fP g1 k)).toList 0 wr W.heap.size (Nat.le_refl _))⟩))
 ):P:=h
theorem qXT{P:Prop}(h:P:=by
 refine only 11 rfl (by kernel_rfl) rfl (fun K hK=>?_)
 refine eZ rfl rfl rfl ST ?_
 refine hK.out _ _ (SS.sets h4 nL HL.out lN) (fun hE=>?_)
 clear hK
 try simp only[Act.put,zA,zB,zC]
 refine ae 12 hE ?_
 refine wpAnyH_done (by kernel_rfl) ?_ _
 go_wp2_with fail
 go_meet
 exact⟨_,rfl,rfl,NW,hE,lN,nL⟩
 ):P:=h
theorem qJI{P:Prop}(h:P:=by
 have ST:=NN.fv q2
 have NW:=NN.whole q2
 refine ae 7 h4 ?_
 refine ae 8 h4 ?_
 refine ae 9 h4 ?_
 exact qXT
 ):P:=h
set_option maxRecDepth 100000 in
set_option maxHeartbeats 8000000 in
theorem tN (W:World)(A1:Option Addr)(n1 c1:Nat)(g1:Nat→Int)(hr1:Is W A1 n1 g1)(hl1:∀ad,A1=some ad→0<n1→ad.block<W.heap.size)(hnm:(n1:Int)≤9223372036854775807)(m:Nat)(hm:m≤1000) :
 Calls Tryz.prog 9 #[.slice A1 n1 c1,(m:Int)] W fun x w'=>x =.returned (gG (fP g1 (min n1 m)))∧Below W.heap.size W w':=by
 have hz:∀w:World,(zeroValue 34).run Tryz.prog w =.ok (.agg (PA cm)) w:=fun w=>sr w
 have hz1:=lx cm
 have hz2:=yk cm
 obtain ⟨k1,hk1⟩:∃k1,k1=vg 1:=⟨_,rfl⟩
 obtain ⟨k2,hk2⟩:∃k2,k2=vg 2:=⟨_,rfl⟩
 have LA:=fun w=>re 1 w
 have LB:=fun w=>re 2 w
 rw[←hk1]at LA
 rw[←hk2]at LB
 unfold eO at LA LB
 replace LA:=hid LA
 replace LB:=hid LB
 obtain ⟨q0,hq0⟩:∃q0:Pl,q0=Lg:=⟨_,rfl⟩
 have RW:=hid (show ∀w,Calls Tryz.prog 29 #[.int .i64 10,.int .i64 80,.agg #[.int .u64 k1.a,.int .u64 k1.b],.agg #[.int .u64 k2.a,.int .u64 k2.b]] w fun x w'=>x =.returned (.tuple #[.agg (PA q0),()])∧Below w.heap.size w w' from fun w=>Hh (C_ 10 80 k1 k2 w) (by rw[H8 ⟨by omega,by omega⟩ ⟨by omega,by omega⟩,hq0,hk1,hk2];rfl))
 have Pr:=hid hq0
 clear hq0 hk1 hk2
 have HL:=hid hl1
 clear hl1
 unfold gG
 go_enter Tryz.func9,Tryz.ntmps9
 go_upto_region 1 with (fail)
 have S0:=hid (SS.cons (show SS W (W.alloc (.cells (PA cm) 34)) [] A1 n1 g1 from ⟨fun x hx=>absurd hx (by simp),hr1.alloc _,(Below.refl _ _).alloc (Nat.le_refl _) _⟩) (au.made (w:=W) (p:=cm) (T:=34) rfl))
 have lR:W.heap.size≤W.heap.size:=Nat.le_refl _
 generalize W.alloc (.cells (PA cm) 34)=w1 at *
 obtain ⟨R,hR⟩:∃R,R=W.heap.size:=⟨_,rfl⟩
 clear hr1
 go_wp2_with fail
 refine(LA.out _).mono ?_
 rintro x w2 ⟨rfl,hb⟩
 have S2:=hid (S0.out.below hb)
 clear hb S0
 go_wp2_with fail
 refine(LB.out _).mono ?_
 rintro x w3 ⟨rfl,hb⟩
 have S3:=hid (S2.out.below hb)
 clear hb S2
 go_wp2_with fail
 refine(RW.out _).mono ?_
 rintro x w4 ⟨rfl,hb⟩
 have S4:=hid (S3.out.below hb)
 clear hb S3
 have ST:=hid ((au.made (w:=w4) (p:=cm) (T:=34) rfl).fv q0)
 have Mc:=(au.made (w:=w4) (p:=cm) (T:=34) rfl).whole q0
 have S5:=hid ((SS.sets (S4.out.alloc (.cells (PA cm) 34)) (c:=w4.heap.size) (o:=0) (vs:=(PA q0).toList) (SS.ne S4.out) HL.out S4.out.bl.size).cons Mc)
 have lA:=S4.out.bl.size
 have r9:=SS.ne S4.out (W.heap.size,cm) (by simp)
 simp only at r9
 have Rj:=Ne.symm r9
 clear Mc
 go_upto_region 2 with ((with_reducible refine ah ?_);refine cE rfl rfl rfl rfl ST.out ?_)
 clear ST S4
 generalize (w4.alloc (.cells (PA cm) 34)).setCells w4.heap.size 0 (PA q0).toList=w5 at *
 generalize w4.heap.size=A at *
 clear LA LB RW
 go_wp2_with fail
 go_loopw [7] (fun i wr=>∃(k:Nat),k≤n1∧k≤m∧i =.int .i64 (k:Int)∧SS W wr [(A,fP g1 k),(W.heap.size,cm)] A1 n1 g1) (fun i _=>m-(intOf i).toNat)
 case atStart=>exact⟨0,by omega,by omega,rfl,by have h:=S5.out;rw[Pr.out]at h;exact h⟩
 clear S5
 obtain ⟨k,hk,hkm,rfl,hS⟩:=hrel
 have S:=hid hS
 clear hS
 by_cases hlt:k<n1∧k<m
 ·obtain ⟨hlt1,hlt2⟩:=hlt
  have i0:(0:Int)≤k:=by omega
  have i1:(k:Int)<n1:=by omega
  have i2:(k:Int)<m:=by omega
  obtain ⟨bb,off,rfl⟩:=Sl.addr S.out.row (by omega)
  have HQ:=hid (m5 g1 k)
  have HM:=hid (show fP g1 (k+1)=if (jY (fP g1 k) (tV (g1 k))).2=0 then (jY (fP g1 k) (tV (g1 k))).1 else fP g1 k from rfl)
  obtain ⟨q,hq⟩:∃q,q=fP g1 k:=⟨_,rfl⟩
  have Rp:=hid hq
  rw[←hq]at HQ HM S
  clear hq
  have Cj:=fun w=>Bm (g1 k) w
  obtain ⟨en,hen⟩:∃en,en=tV (g1 k):=⟨_,rfl⟩
  rw[←hen]at Cj HM
  clear hen
  obtain ⟨e1,e2,e3,e4,e5,e6,e7⟩:=en
  unfold qu at Cj
  simp only at Cj
  have EN:=hid Cj
  clear Cj
  obtain ⟨ar,har⟩:∃ar,ar=jY q ⟨e1,e2,e3,e4,e5,⟨e6,e7⟩⟩:=⟨_,rfl⟩
  rw[←har]at HM
  have RP:=hid (show ∀w,Calls Tryz.prog 31 #[.agg (PA q),.agg #[e1,e2,e3,e4,e5,.int .u64 e6,.int .u64 e7]] w fun x w'=>x =.returned (.tuple #[.agg (PA ar.1),ar.2])∧Below w.heap.size w w' from by rw[har];exact fun w=>yj q ⟨e1,e2,e3,e4,e5,⟨e6,e7⟩⟩ (HQ.out.pb (by omega)) w)
  clear har
  obtain ⟨q2,er⟩:=ar
  simp only at RP HM
  go_upto_region 5 with (fail)
  go_cut [8,9] from 27 to 36 (fun p x wx=>∃U:Nat,p =.pointer (some ⟨U,0,none⟩)∧x =.int .i64 er∧au wx U q2∧SS W wx [(A,q),(W.heap.size,cm)] (some ⟨bb,off,none⟩) n1 g1∧W.heap.size≤U∧∀x,x∈([(A,q),(W.heap.size,cm)]:List (Nat×Pl))→U≠x.1)
  case first=>
   refine wp_region_held_drew (S:=fun w'=>SS W w' [(A,q),(W.heap.size,cm)] (some ⟨bb,off,none⟩) n1 g1) (by kernel_rfl) ?_ (fun hHeld=>?_)
   ·exact S.out.drew
   refine tk 0 (v:=.agg (PA q)) rfl (by kernel_rfl) (by kernel_rfl) (by kernel_rfl) (fun _ _ _ h=>h) rfl (fun w hSw=>iV rfl rfl (SS.get hSw (b:=A) (p:=q) (by simp)).iU) hHeld ?_
   try simp only[Act.put,zA,zB,zC]
   refine ae 1 hHeld ?_
   refine ae 2 hHeld ?_
   refine ae 3 hHeld ?_
   refine ae 4 hHeld ?_ (hy:=by intro w hSw;(try dsimp only at hSw);have xc:=Sl.at_ hSw.row (j:=k) hlt1;go_simp;(try with_reducible rfl))
   refine eX 5 10 rfl rfl (by kernel_rfl) rfl rfl (fun K hK=>?_) (fun K hK=>?_)
   ·go_simp
    refine(EN.out _).mono ?_
    rintro e' w' ⟨rfl,hb⟩
    try go_wp2_with fail
    refine hK.out _ _ (SS.below hHeld hb) (fun h2=>?_)
    clear hK
    try simp only[Act.put,zA,zB,zC]
    refine eX 6 10 rfl rfl (by kernel_rfl) rfl rfl (fun K hK=>?_) (fun K hK=>?_)
    ·go_simp
     refine(RP.out _).mono ?_
     rintro e' w' ⟨rfl,hb'⟩
     try go_wp2_with fail
     refine hK.out _ _ (SS.below h2 hb') (fun h3=>?_)
     clear hK
     try simp only[Act.put,zA,zB,zC]
     refine ae 7 h3 ?_
     refine ae 8 h3 ?_
     refine ae 9 h3 ?_
     refine only 10 rfl (by kernel_rfl) rfl (fun K hK=>?_)
     have nL:=SS.ne h3
     have lN:=h3.bl.size
     go_simp
     refine hK.out _ _ (SS.alloc h3 _) (fun h4=>?_)
     clear hK
     try simp only[Act.put,zA,zB,zC]
     have NN:=uX h4
     have ST:=NN.fv q2
     have NW:=NN.whole q2
     exact qXT
    have nL:=SS.ne h2
    have lN:=h2.bl.size
    go_simp
    refine hK.out _ _ (SS.alloc h2 _) (fun h3=>?_)
    clear hK
    try simp only[Act.put,zA,zB,zC]
    have JR:=uX h3
    refine only 6 rfl (by kernel_rfl) rfl (fun K hK=>?_)
    go_simp
    refine(RP.out _).mono ?_
    rintro e' w' ⟨rfl,hb'⟩
    try go_wp2_with fail
    refine hK.out _ _ (SS.below h3 hb') (fun h4=>?_)
    clear hK
    try simp only[Act.put,zA,zB,zC]
    have NN:=JR.below hb'
    exact qJI
   have nL:=SS.ne hHeld
   have lN:=hHeld.bl.size
   go_simp
   refine hK.out _ _ (SS.alloc hHeld _) (fun h2=>?_)
   clear hK
   try simp only[Act.put,zA,zB,zC]
   have JR:=Am h2
   refine only 5 rfl (by kernel_rfl) rfl (fun K hK=>?_)
   go_simp
   refine(EN.out _).mono ?_
   rintro e' w' ⟨rfl,hb⟩
   try go_wp2_with fail
   refine hK.out _ _ (SS.below h2 hb) (fun h3=>?_)
   clear hK
   try simp only[Act.put,zA,zB,zC]
   have Pg:=JR.below hb
   refine only 6 rfl (by kernel_rfl) rfl (fun K hK=>?_)
   go_simp
   refine(RP.out _).mono ?_
   rintro e' w' ⟨rfl,hb'⟩
   try go_wp2_with fail
   refine hK.out _ _ (SS.below h3 hb') (fun h4=>?_)
   clear hK
   try simp only[Act.put,zA,zB,zC]
   have NN:=Pg.below hb'
   exact qJI
  obtain ⟨N,rfl,rfl,hN,hS2,lN,nN⟩:=hcut
  have Rk:N≠A:=nN (A,q) (by simp)
  have S2:=hid (hS2.cons hN)
  clear nN hN hS2 S
  cases be:(er==0)
  ·have hne:¬er=0:=by simpa using be
   replace HM:=hid (HM.out.trans (if_neg hne))
   clear hne
   go_wp2_with fail
   go_roundw
   case rel=>exact⟨k+1,by omega,by omega,by go_num,by rw[HM.out];exact S2.out.less (fun x hx=>List.mem_cons_of_mem _ hx)⟩
   simp[intOf];omega
  have he0:er=0:=by simpa using be
  subst he0
  replace HM:=hid (HM.out.trans (if_pos rfl))
  have LN:=(SS.get S2.out (b:=N) (p:=q2) (by simp)).iU
  have JL:=SS.get S2.out (b:=A) (p:=q) (by simp)
  have SR:=hid (JL.fv q2)
  have L_:=JL.whole q2
  have SF:=hid ((SS.sets (S2.out.less (L':=[(W.heap.size,cm)]) (fun x hx=>by simp at hx;subst hx;simp)) (c:=A) (o:=0) (vs:=(PA q2).toList) (fun x hx=>by simp at hx;subst hx;exact r9) HL.out lA).cons L_)
  clear JL L_
  go_upto_region 4 with (first | ((with_reducible refine ah ?_);refine cu rfl rfl rfl LN ?_) | ((with_reducible refine ah ?_);refine cE rfl rfl rfl rfl SR.out ?_))
  clear LN SR S2
  generalize wc.setCells A 0 (PA q2).toList=wz at *
  go_wp2_with fail
  go_roundw
  case rel=>exact⟨k+1,by omega,by omega,by go_num,by rw[HM.out];exact SF.out⟩
  simp[intOf];omega
 have hmn:k=min n1 m:=by omega
 have Mk:Hid (fP g1 (min n1 m)=fP g1 k):=hid (by rw[←hmn])
 clear hmn
 have LP:=(SS.get S.out (b:=A) (p:=fP g1 k) (by simp)).iU
 have PR:=SS.get S.out (b:=W.heap.size) (p:=cm) (by simp)
 have SR:=hid (PR.fv (fP g1 k))
 by_cases hkn:(k:Int)<n1
 ·have Ix:¬(k:Int)<m:=by omega
  exact qXB
 exact qXB
end Go.Proofs.YtalnfkijiehjhaaGreat
