/- What slots weigh, and where they would be. An array of numbers against another one; built, indexed. Make of the package. What the wheel asks of a pool holds of those that are made. -/
import Derived.Test.YtalnfkijiehjhaaGreatGa
import Derived.Test.YtalnfkijiehjhaaGreatGh
import Derived.Test.YtalnfkijiehjhaaGreatGt
import Derived.Deep.CutRange
import Derived.BigQuiet
import Derived.Deep.RegionHeld3
import Derived.Deep.Cut
import Derived.Deep.LoopGhost
namespace Go.Proofs.YtalnfkijiehjhaaGreat
open List renaming setIfInBounds_toArray→zA,set_cons_zero→zB,set_cons_succ→zC
set_option linter.unusedVariables false
set_option linter.unusedSimpArgs false
open Go.RowKit Go.ChangeShapes Go.WideShapes Go.ChangeAt
def bm (p:Pl)(j:Nat):Nat:=if (p.s j).st=2 then (p.s j).we.toNat else 0
def df (p:Pl)(j:Nat):Nat:=(pB (p.s j).ad (p.s j).po).toNat
def cX (p:Pl)(j:Nat):Nat:=(pz (p.s j).ad (p.s j).po).toNat
def Pw (p:Pl):Prop:=∀i,i<64→(0≤(p.s i).ad∧(p.s i).ad≤4294967295)∧(0≤(p.s i).po∧(p.s i).po≤65535)∧((p.s i).st≠0→1≤(p.s i).we∧(p.s i).we≤8)
def gY (p:Pl)(j:Nat):Int:=if (p.s (j/2)).st=2 then (if j%2=0 then (df p (j/2):Int) else (cX p (j/2):Int)) else 0
theorem r_ (p:Pl)(i:Nat):1≤cX p i∧cX p i≤126:=by unfold cX;have:=vE (p.s i).ad (p.s i).po;omega
theorem E2 (p:Pl)(i:Nat):df p i<127:=by unfold df;have:=vF (p.s i).ad (p.s i).po;omega
theorem uz (w:World):(zeroValue 131).run Tryz.prog w =.ok (.agg (ia 64 fun _=>0)) w:=by kernel_rfl
theorem zero64 (w:World):(zeroValue 135).run Tryz.prog w =.ok (.agg (ia 128 fun _=>0)) w:=by kernel_rfl
theorem rT {n:Nat}(f:Nat→Int)(h:0<n):(ia n f =#[])=False:=by
 refine eq_false fun e=>?_
 have:=js n f
 rw[e]at this
 simp at this
 omega
section
variable {w:World}{b:Nat}
theorem IA.pY {n:Nat}{f:Nat→Int}{T:TypeId}{d:TypeDesc}(h:IA w b n f)(hu:Tryz.prog.underlying T=some d)(hd:d.isRow=true)(hi:(Tryz.prog.info? T).map (·.size)=some n) :
 (loadVar T ⟨b,0,none⟩).run Tryz.prog w =.ok (.agg (ia n f)) w:=by
 refine run_loadVar_mid w b 0 T (il n f) d (fun j v hj=>?_) hu hd (by rw[kQ];exact hi)
 exact qYT
theorem rH {fn:Func}{r:Tmp}{T:TypeId}{v:Value}(h:fn.results =#[.cell r T])(tmps:Array Value)(hp:tmps.getD r undef =.pointer (some ⟨b,0,none⟩))(hl:(loadVar T ⟨b,0,none⟩).run Tryz.prog w =.ok v w):(results fn tmps).run Tryz.prog w =.ok v w:=by
 have hp':tmps[r]?.getD undef =.pointer (some ⟨b,0,none⟩):=by simpa using hp
 simp[results,h,hp',asAddr,hl]
end
attribute [local irreducible] PA ia
theorem qYH{P:Prop}(h:P:=by
 clear A3 hne
 go_wp2_with fail
 go_roundw
 case rel=>exact⟨k+1,by omega,by go_num,A4.out,R3.out,B3.out⟩
 simp[intOf];omega
 ):P:=h
theorem qJA{P:Prop}(h:P:=by
 go_wp2_with fail
 go_roundw
 case rel=>exact⟨k+1,by omega,by go_num,A4.out,R4.out,B4.out⟩
 simp[intOf];omega
 ):P:=h
set_option maxRecDepth 100000 in
set_option maxHeartbeats 4000000 in
theorem wu (p:Pl)(hp:Pw p)(w:World):Calls Tryz.prog 71 #[gG p] w fun x w'=>x =.returned (.agg (ia 64 (fun j=>(bm p j:Int))))∧Below w.heap.size w w':=by
 have hz:∀w:World,(zeroValue 131).run Tryz.prog w =.ok (.agg (ia 64 fun _=>0)) w:=fun w=>uz w
 have hz1:=js 64 (fun _=>0)
 have hz2:=rT (n:=64) (fun _=>0) (by omega)
 have g8:=hid hp
 clear hp
 unfold gG
 go_enter Tryz.func71,Tryz.ntmps71
 go_upto_region 1 with (fail)
 have P0:=hid ((au.made (w:=w) (p:=p) (T:=34) rfl).alloc (.cells (ia 64 fun _=>0) 131))
 have R0:=hid (IA.made (w:=w.alloc (.cells (PA p) 34)) (n:=64) (f:=fun _=>0) (T:=131) (d:=w.heap.size+1) (by simp))
 have B0:=hid (((Below.refl w.heap.size w).alloc (Nat.le_refl _) (.cells (PA p) 34)).alloc (by simp) (.cells (ia 64 fun _=>0) 131))
 have lR:w.heap.size≤w.heap.size+1:=by omega
 have vz:w.heap.size+1≠w.heap.size:=by omega
 generalize (w.alloc (.cells (PA p) 34)).alloc (.cells (ia 64 fun _=>0) 131)=w1 at *
 generalize w.heap.size+1=R at *
 obtain ⟨P,hP⟩:∃P,P=w.heap.size:=⟨_,rfl⟩
 rw[←hP]at P0 vz ⊢
 have HP:=hid hP
 clear hP
 go_upto_region 2 with (fail)
 have A1:=hid (IA.made (w:=w1) (n:=64) (f:=fun _=>0) (T:=131) (d:=w1.heap.size) rfl)
 have P1:=hid (P0.out.alloc (.cells (ia 64 fun _=>0) 131))
 have R1:=hid (R0.out.alloc (.cells (ia 64 fun _=>0) 131))
 have B1:=hid (B0.out.alloc B0.out.size (.cells (ia 64 fun _=>0) 131))
 have r9:w1.heap.size≠R:=Nat.ne_of_gt R0.out.1
 have OP:w1.heap.size≠P:=Nat.ne_of_gt P0.out.1
 have lA:=B0.out.size
 clear P0 R0 B0
 generalize w1.alloc (.cells (ia 64 fun _=>0) 131)=w2 at *
 generalize w1.heap.size=A at *
 have LS:=P1.out.yv
 go_wp2_with ((with_reducible refine ah ?_);refine cu rfl rfl rfl LS ?_)
 go_loopw [8] (fun i wr=>∃k:Nat,k≤64∧i =.int .i64 (k:Int)∧IA wr A 64 (fun j=>if j<k then (bm p j:Int) else 0)∧IA wr R 64 (fun _=>0)∧Below w.heap.size w wr) (fun i _=>64-(intOf i).toNat)
 case atStart=>exact⟨0,by omega,rfl,A1.out.fQ (fun j _=>by rw[if_neg (by omega)]),R1.out,B1.out⟩
 clear A1 R1 B1 P1 LS
 obtain ⟨k,hk,rfl,hA,hR,hB⟩:=hrel
 have A2:=hid hA
 have R2:=hid hR
 have B2:=hid hB
 clear hA hR hB
 by_cases hlt:k<64
 ·have i0:(0:Int)≤k:=by omega
  have i1:(k:Int)<64:=by omega
  have IX:=rh p.s k hlt wr
  have hpk:=g8.out k hlt
  have HF:=hid (show bm p k=if (p.s k).st=2 then (p.s k).we.toNat else 0 from rfl)
  unfold ik at IX
  generalize p.s k=s at *
  obtain ⟨st,ad,po,we,si⟩:=s
  simp only at IX HF hpk
  obtain ⟨⟨a1,a2⟩,⟨p1,p2⟩,tP⟩:=hpk
  have HW:=hid tP
  clear tP
  go_upto_region 5 with ((with_reducible refine ah ?_);refine nC rfl rfl rfl rfl IX ?_)
  clear IX
  have CV:=hid (Ce.made (w:=wr) (l:=[st,ad,po,we,si]) (T:=26) (g:=wr.heap.size) rfl)
  have A3:=hid (A2.out.alloc (.cells #[st,ad,po,we,si] 26))
  have R3:=hid (R2.out.alloc (.cells #[st,ad,po,we,si] 26))
  have B3:=hid (B2.out.alloc B2.out.size (.cells #[st,ad,po,we,si] 26))
  clear A2 R2 B2
  generalize wr.alloc (.cells #[st,ad,po,we,si] 26)=w3 at *
  generalize wr.heap.size=V at *
  have x0:=CV.out.2.1 0 _ rfl
  cases b2:(st==2)
  ·have hne:¬st=2:=by simpa using b2
   have A4:=hid (show IA w3 A 64 (fun j=>if j<k+1 then (bm p j:Int) else 0) from A3.out.fQ (fun j hj=>by by_cases e:j<k;(rw[if_pos e,if_pos (by omega)]);(rw[if_neg e];by_cases e2:j<k+1;(rw[if_pos e2];rw[show j=k by omega,HF.out,if_neg hne];rfl);rw[if_neg e2])))
   exact qYH
  have he:st=2:=by simpa using b2
  subst he
  have hw:=HW.out (by decide)
  obtain ⟨e1,e2⟩:=hw
  have x3:=CV.out.2.1 3 _ rfl
  have ca:=A3.out.2.1 k (by omega)
  have za:=A3.out.2.2 k
  have A4:=hid ((A3.out.set k hlt we).fQ (g:=fun j=>if j<k+1 then (bm p j:Int) else 0) (fun j hj=>by by_cases e:j=k;(subst e;rw[dp,if_pos (by omega),HF.out,if_pos rfl];omega);(rw[eh _ _ e];by_cases e2:j<k;(rw[if_pos e2,if_pos (by omega)]);(rw[if_neg e2,if_neg (by omega)]))))
  have R4:=hid (R3.out.other (c:=A) (j:=k) (v:=.int .i64 we) r9)
  have B4:=hid (B3.out.trans (aH A [we] k w3 w.heap.size lA))
  clear A3 R3 B3
  exact qJA
 have e:k=64:=by omega
 subst e
 have A5:=hid (A2.out.fQ (g:=(fun j=>(bm p j:Int))) (fun j hj=>by rw[if_pos (by omega)]))
 clear A2
 have LA:=A5.out.load (T:=131) Tryz.underlying131 rfl (by kernel_rfl)
 have SR:=hid (R2.out.store (T:=131) (fun j=>(bm p j:Int)) (by kernel_rfl))
 go_wp2_with (first | ((with_reducible refine ah ?_);refine cu rfl rfl rfl LA ?_) | ((with_reducible refine ah ?_);refine cE rfl rfl rfl rfl SR.out ?_;refine aJ ?_;apply_assumption;refine wp_ret ?_;(repeat first |refine aI ?_ |refine mr ?_);(show bodyPost _ _ _ _ _ _);refine bodyPost_ret (v:=.agg (ia 64 (fun j=>(bm p j:Int)))) (rH Tryz.results71 _ rfl ((R2.out.whole (fun j=>(bm p j:Int)) (by omega)).pY Tryz.underlying131 rfl (by kernel_rfl))) rfl ⟨rfl,B2.out.trans (aH R (ia 64 (fun j=>(bm p j:Int))).toList 0 wr w.heap.size lR)⟩))
section
variable {w:World}{b n:Nat}{f:Nat→Int}
theorem IA.uM (h:IA w b n f)(o:Nat)(ho:o+1<n)(x y:Int):(Instr.storeAt 134 (.pointer (some ⟨b,o,none⟩)) (.agg #[x,y])).run Tryz.prog w =.ok () (w.setCells b o [x,y]):=by
 refine run_storeAt_mid w b o 134 #[x,y] (fun j hj=>?_) (by kernel_rfl) (all_oneCell_toArray (cs:=[x,y]) (fun v hv=>by simp at hv;rcases hv with rfl |rfl <;> rfl))
 have hl:j<2:=hj
 rw[h.2.1 (o+j) (by omega)]
 exact⟨rfl,h.2.2 _⟩
theorem IA.set2 (h:IA w b n f)(o:Nat)(ho:o+1<n)(x y:Int):IA (w.setCells b o [x,y]) b n (da (da f o x) (o+1) y):=(h.set o (by omega) x).set (o+1) ho y
end
theorem qQS{P:Prop}(h:P:=by
 refine only 12 rfl (by kernel_rfl) rfl (fun K hK=>?_)
 go_simp
 refine(xQ.out _ _ RB).mono ?_
 rintro e' w' ⟨rfl,hb⟩
 try go_wp2_with fail
 have AA:=AA.below hb
 refine hK.out _ _ ⟨hz2.1.below hb,hz2.2.1.below hb,hz2.2.2.trans (hb.mono hz2.2.2.size)⟩ (fun he=>?_)
 clear hK hb
 try simp only[Act.put,zA,zB,zC]
 refine tk 13 (v:=.int .i64 (b2+1)) rfl (by kernel_rfl) (by kernel_rfl) (by kernel_rfl) (fun _ _ _ h=>h) rfl ?_ he ?_
 ·intro w hSw;go_simp;exact IntWalk.i64_in _ (by omega)
 try simp only[Act.put,zA,zB,zC]
 refine ae 14 he ?_
 refine ae 15 he ?_
 have ST:=AA.uM (k*2) (by omega) av (b2+1)
 have AN:=AA.set2 (k*2) (by omega) av (b2+1)
 refine only 16 rfl (by kernel_rfl) rfl (fun K hK=>?_)
 refine eZ rfl rfl rfl ST ?_
 refine hK.out _ _ ⟨he.1.sQ Je,he.2.1.others r9 (by omega),he.2.2.trans (aH A _ _ _ _ lA)⟩ (fun hE=>?_)
 clear hK
 try simp only[Act.put,zA,zB,zC]
 refine wpAnyH_done (by kernel_rfl) ?_ _
 have R4:=hid hE.2.1
 have B4:=hid hE.2.2
 have A4:Hid (IA (w'.setCells A (k*2) [av,.int .i64 (b2+1)]) A 128 (fun j=>if j<2*(k+1) then gY p j else 0)):=by
  refine hid (AN.fQ (fun j hj=>?_))
  by_cases e1:j=k*2+1
  ·subst e1;rw[dp,if_pos (by omega),show k*2+1=2*k+1 by omega,qJ.out,if_pos (by trivial),HY.out,cx.out]
  rw[eh _ _ e1]
  by_cases e2:j=k*2
  ·subst e2;rw[dp,if_pos (by omega),show k*2=2*k by omega,HF.out,if_pos (by trivial),HA.out,J7.out]
  rw[eh _ _ e2]
  by_cases e3:j<2*k
  ·rw[if_pos e3,if_pos (by omega)]
  rw[if_neg e3,if_neg (by omega)]
 clear hE he AN ST AA hHeld CV A3 R3 B3 wj xQ
 generalize w'.setCells A (k*2) [av,.int .i64 (b2+1)]=w9 at *
 exact qJA
 ):P:=h
theorem qJU{P:Prop}(h:P:=by
 refine only 6 rfl (by kernel_rfl) rfl (fun K hK=>?_)
 go_simp
 refine(wj.out _ _ RA).mono ?_
 rintro e' w' ⟨rfl,hb⟩
 try go_wp2_with fail
 have AA:=AA.below hb
 have RB:=Sl.below RB hb (Nat.le_refl _)
 refine hK.out _ _ ⟨hz1.1.below hb,hz1.2.1.below hb,hz1.2.2.trans (hb.mono hz1.2.2.size)⟩ (fun hz2=>?_)
 clear hK hb
 try simp only[Act.put,zA,zB,zC]
 exact qQS
 ):P:=h
set_option maxRecDepth 100000 in
set_option maxHeartbeats 4000000 in
theorem wK (p:Pl)(hp:Pw p)(w:World):Calls Tryz.prog 72 #[gG p] w fun x w'=>x =.returned (.agg (ia 128 (gY p)))∧Below w.heap.size w w':=by
 have hz:∀w:World,(zeroValue 135).run Tryz.prog w =.ok (.agg (ia 128 fun _=>0)) w:=fun w=>zero64 w
 have hz1:=js 128 (fun _=>0)
 have hz2:=rT (n:=128) (fun _=>0) (by omega)
 have g8:=hid hp
 clear hp
 unfold gG
 go_enter Tryz.func72,Tryz.ntmps72
 go_upto_region 1 with (fail)
 have P0:=hid ((au.made (w:=w) (p:=p) (T:=34) rfl).alloc (.cells (ia 128 fun _=>0) 135))
 have R0:=hid (IA.made (w:=w.alloc (.cells (PA p) 34)) (n:=128) (f:=fun _=>0) (T:=135) (d:=w.heap.size+1) (by simp))
 have B0:=hid (((Below.refl w.heap.size w).alloc (Nat.le_refl _) (.cells (PA p) 34)).alloc (by simp) (.cells (ia 128 fun _=>0) 135))
 have lR:w.heap.size≤w.heap.size+1:=by omega
 have vz:w.heap.size+1≠w.heap.size:=by omega
 generalize (w.alloc (.cells (PA p) 34)).alloc (.cells (ia 128 fun _=>0) 135)=w1 at *
 generalize w.heap.size+1=R at *
 obtain ⟨P,hP⟩:∃P,P=w.heap.size:=⟨_,rfl⟩
 rw[←hP]at P0 vz ⊢
 have HP:=hid hP
 clear hP
 go_upto_region 2 with (fail)
 have A1:=hid (IA.made (w:=w1) (n:=128) (f:=fun _=>0) (T:=135) (d:=w1.heap.size) rfl)
 have P1:=hid (P0.out.alloc (.cells (ia 128 fun _=>0) 135))
 have R1:=hid (R0.out.alloc (.cells (ia 128 fun _=>0) 135))
 have B1:=hid (B0.out.alloc B0.out.size (.cells (ia 128 fun _=>0) 135))
 have r9:w1.heap.size≠R:=Nat.ne_of_gt R0.out.1
 have OP:w1.heap.size≠P:=Nat.ne_of_gt P0.out.1
 have lA:=B0.out.size
 clear P0 R0 B0
 generalize w1.alloc (.cells (ia 128 fun _=>0) 135)=w2 at *
 generalize w1.heap.size=A at *
 have LS:=P1.out.yv
 go_wp2_with ((with_reducible refine ah ?_);refine cu rfl rfl rfl LS ?_)
 go_loopw [8] (fun i wr=>∃k:Nat,k≤64∧i =.int .i64 (k:Int)∧IA wr A 128 (fun j=>if j<2*k then gY p j else 0)∧IA wr R 128 (fun _=>0)∧Below w.heap.size w wr) (fun i _=>64-(intOf i).toNat)
 case atStart=>exact⟨0,by omega,rfl,A1.out.fQ (fun j _=>by rw[if_neg (by omega)]),R1.out,B1.out⟩
 clear A1 R1 B1 P1 LS
 obtain ⟨k,hk,rfl,hA,hR,hB⟩:=hrel
 have A2:=hid hA
 have R2:=hid hR
 have B2:=hid hB
 clear hA hR hB
 by_cases hlt:k<64
 ·have i0:(0:Int)≤k:=by omega
  have i1:(k:Int)<64:=by omega
  have IX:=rh p.s k hlt wr
  have hpk:=g8.out k hlt
  have HF:=hid (show gY p (2*k)=if (p.s k).st=2 then (df p k:Int) else 0 from by unfold gY;rw[show 2*k/2=k by omega,if_pos (show 2*k%2=0 by omega)])
  have qJ:=hid (show gY p (2*k+1)=if (p.s k).st=2 then (cX p k:Int) else 0 from by unfold gY;rw[show (2*k+1)/2=k by omega,if_neg (show ¬(2*k+1)%2=0 by omega)])
  have HA:=hid (show ((df p k:Nat):Int)=pB (p.s k).ad (p.s k).po from by have:=vF (p.s k).ad (p.s k).po;unfold df;omega)
  have HY:=hid (show ((cX p k:Nat):Int)=pz (p.s k).ad (p.s k).po from by have:=vE (p.s k).ad (p.s k).po;unfold cX;omega)
  unfold ik at IX
  generalize p.s k=s at *
  obtain ⟨st,ad,po,we,si⟩:=s
  simp only at IX HF hpk qJ HA HY
  obtain ⟨⟨a1,a2⟩,⟨p1,p2⟩,tP⟩:=hpk
  have HW:=hid tP
  clear tP
  go_upto_region 5 with ((with_reducible refine ah ?_);refine nC rfl rfl rfl rfl IX ?_)
  clear IX
  have CV:=hid (Ce.made (w:=wr) (l:=[st,ad,po,we,si]) (T:=26) (g:=wr.heap.size) rfl)
  have A3:=hid (A2.out.alloc (.cells #[st,ad,po,we,si] 26))
  have R3:=hid (R2.out.alloc (.cells #[st,ad,po,we,si] 26))
  have Om:=A2.out.1
  have B3:=hid (B2.out.alloc B2.out.size (.cells #[st,ad,po,we,si] 26))
  clear A2 R2 B2
  generalize wr.alloc (.cells #[st,ad,po,we,si] 26)=w3 at *
  generalize wr.heap.size=V at *
  have x0:=CV.out.2.1 0 _ rfl
  cases b2:(st==2)
  ·have hne:¬st=2:=by simpa using b2
   have A4:=hid (show IA w3 A 128 (fun j=>if j<2*(k+1) then gY p j else 0) from A3.out.fQ (fun j hj=>by by_cases e:j<2*k;(rw[if_pos e,if_pos (by omega)]);(rw[if_neg e];by_cases e2:j<2*(k+1);(rw[if_pos e2];rcases (show j=2*k∨j=2*k+1 by omega) with rfl |rfl;(rw[HF.out,if_neg hne]);(rw[qJ.out,if_neg hne]));rw[if_neg e2])))
   exact qYH
  have he:st=2:=by simpa using b2
  subst he
  have hw:=HW.out (by decide)
  obtain ⟨e1,e2⟩:=hw
  have wj:=hid (fun (A:Option Addr) (w:World) (h:Is w A 3 (fun j=>[1,ad,po].getD j 0))=>(show Calls Tryz.prog 110 #[.int .u64 127,.slice A 3 3] w fun e w'=>e =.returned (.int .i64 (pB ad po))∧Below w.heap.size w w' from td 127 (.inl rfl) A 3 3 _ w h (yA (by unfold dW;decide) (by unfold dW;omega) (by unfold dW;omega)) (by omega)))
  obtain ⟨b2,hb2⟩:∃b2,b2=S3 2 ad po%126:=⟨_,rfl⟩
  have xQ:=hid (fun (A:Option Addr) (w:World) (h:Is w A 3 (fun j=>[2,ad,po].getD j 0))=>(show Calls Tryz.prog 110 #[.int .u64 126,.slice A 3 3] w fun e w'=>e =.returned (.int .i64 b2)∧Below w.heap.size w w' from by rw[hb2];exact td 126 (.inr rfl) A 3 3 _ w h (yA (by unfold dW;decide) (by unfold dW;omega) (by unfold dW;omega)) (by omega)))
  have c1:0≤b2:=by omega
  have c2:b2<126:=by omega
  have cx:=hid (show pz ad po=b2+1 from by unfold pz;omega)
  clear hb2
  obtain ⟨av,II⟩:∃av,av=pB ad po:=⟨_,rfl⟩
  rw[←II]at wj
  have J7:=hid II
  clear II
  go_upto_region 6 with (fail)
  have Je:A≠V:=Nat.ne_of_lt Om
  refine wp_region_held_drew (S:=fun w'=>Ce w' V [.int .i64 2,ad,po,we,si]∧IA w' R 128 (fun _=>0)∧Below w.heap.size w w') (by kernel_rfl) ?_ (fun hHeld=>?_)
  ·exact⟨CV.out,R3.out.drew,B3.out.drew⟩
  have AA:=A3.out
  refine ae 0 hHeld ?_
  refine ae 1 hHeld ?_
  refine ae 2 hHeld ?_ (hy:=by intro w hSw;(try dsimp only at hSw);have x1:=hSw.1.2.1 1 _ rfl;have x2:=hSw.1.2.1 2 _ rfl;go_simp;(try with_reducible rfl))
  refine ae 3 hHeld ?_
  refine ae 4 hHeld ?_ (hy:=by intro w hSw;(try dsimp only at hSw);have x1:=hSw.1.2.1 1 _ rfl;have x2:=hSw.1.2.1 2 _ rfl;go_simp;(try with_reducible rfl))
  refine ae 7 hHeld ?_
  refine ae 8 hHeld ?_ (hy:=by intro w hSw;(try dsimp only at hSw);have x1:=hSw.1.2.1 1 _ rfl;have x2:=hSw.1.2.1 2 _ rfl;go_simp;(try with_reducible rfl))
  refine ae 9 hHeld ?_
  refine ae 10 hHeld ?_ (hy:=by intro w hSw;(try dsimp only at hSw);have x1:=hSw.1.2.1 1 _ rfl;have x2:=hSw.1.2.1 2 _ rfl;go_simp;(try with_reducible rfl))
  refine eX 5 11 rfl rfl (by kernel_rfl) rfl rfl (fun K hK=>?_) (fun K hK=>?_)
  ·go_simp
   have AA:=(AA.alloc (.cells #[.int .i64 1,ad,po] 3)).drew
   have RA:Is (w3.alloc (.cells #[.int .i64 1,ad,po] 3)).drew (some ⟨w3.heap.size,0,none⟩) 3 (fun j=>[1,ad,po].getD j 0):=Sl.drew (gl .i64 [1,ad,po] rfl)
   refine hK.out _ _ ⟨hHeld.1.alloc _,hHeld.2.1.alloc _,hHeld.2.2.alloc hHeld.2.2.size _⟩ (fun hz0=>?_)
   clear hK
   try simp only[Act.put,zA,zB,zC]
   generalize (w3.alloc (.cells #[.int .i64 1,ad,po] 3)).drew=w' at *
   refine eX 6 11 rfl rfl (by kernel_rfl) rfl rfl (fun K hK=>?_) (fun K hK=>?_)
   ·go_simp
    refine(wj.out _ _ RA).mono ?_
    rintro e' w' ⟨rfl,hb⟩
    try go_wp2_with fail
    have AA:=AA.below hb
    refine hK.out _ _ ⟨hz0.1.below hb,hz0.2.1.below hb,hz0.2.2.trans (hb.mono hz0.2.2.size)⟩ (fun hz1=>?_)
    clear hK hb
    try simp only[Act.put,zA,zB,zC]
    refine only 11 rfl (by kernel_rfl) rfl (fun K hK=>?_)
    go_simp
    have AA:=AA.alloc (.cells #[.int .i64 2,ad,po] 3)
    have RB:Is (w'.alloc (.cells #[.int .i64 2,ad,po] 3)) (some ⟨w'.heap.size,0,none⟩) 3 (fun j=>[2,ad,po].getD j 0):=gl .i64 [2,ad,po] rfl
    refine hK.out _ _ ⟨hz1.1.alloc _,hz1.2.1.alloc _,hz1.2.2.alloc hz1.2.2.size _⟩ (fun hz2=>?_)
    clear hK
    try simp only[Act.put,zA,zB,zC]
    generalize (w'.alloc (.cells #[.int .i64 2,ad,po] 3))=w' at *
    exact qQS
   go_simp
   have AA:=AA.alloc (.cells #[.int .i64 2,ad,po] 3)
   have RA:=Sl.below RA ((Below.refl _ _).alloc (Nat.le_refl _) (.cells #[.int .i64 2,ad,po] 3)) (Nat.le_refl _)
   have RB:Is (w'.alloc (.cells #[.int .i64 2,ad,po] 3)) (some ⟨w'.heap.size,0,none⟩) 3 (fun j=>[2,ad,po].getD j 0):=gl .i64 [2,ad,po] rfl
   refine hK.out _ _ ⟨hz0.1.alloc _,hz0.2.1.alloc _,hz0.2.2.alloc hz0.2.2.size _⟩ (fun hz1=>?_)
   clear hK
   try simp only[Act.put,zA,zB,zC]
   generalize (w'.alloc (.cells #[.int .i64 2,ad,po] 3))=w' at *
   exact qJU
  go_simp
  have AA:=(AA.alloc (.cells #[.int .i64 2,ad,po] 3)).drew
  have RB:Is (w3.alloc (.cells #[.int .i64 2,ad,po] 3)).drew (some ⟨w3.heap.size,0,none⟩) 3 (fun j=>[2,ad,po].getD j 0):=Sl.drew (gl .i64 [2,ad,po] rfl)
  refine hK.out _ _ ⟨hHeld.1.alloc _,hHeld.2.1.alloc _,hHeld.2.2.alloc hHeld.2.2.size _⟩ (fun hz0=>?_)
  clear hK
  try simp only[Act.put,zA,zB,zC]
  generalize (w3.alloc (.cells #[.int .i64 2,ad,po] 3)).drew=w' at *
  refine only 5 rfl (by kernel_rfl) rfl (fun K hK=>?_)
  go_simp
  have AA:=AA.alloc (.cells #[.int .i64 1,ad,po] 3)
  have RB:=Sl.below RB ((Below.refl _ _).alloc (Nat.le_refl _) (.cells #[.int .i64 1,ad,po] 3)) (Nat.le_refl _)
  have RA:Is (w'.alloc (.cells #[.int .i64 1,ad,po] 3)) (some ⟨w'.heap.size,0,none⟩) 3 (fun j=>[1,ad,po].getD j 0):=gl .i64 [1,ad,po] rfl
  refine hK.out _ _ ⟨hz0.1.alloc _,hz0.2.1.alloc _,hz0.2.2.alloc hz0.2.2.size _⟩ (fun hz1=>?_)
  clear hK
  try simp only[Act.put,zA,zB,zC]
  generalize (w'.alloc (.cells #[.int .i64 1,ad,po] 3))=w' at *
  exact qJU
 have e:k=64:=by omega
 subst e
 have A5:=hid (A2.out.fQ (g:=(gY p)) (fun j hj=>by rw[if_pos (by omega)]))
 clear A2
 have LA:=A5.out.load (T:=135) Tryz.underlying135 rfl (by kernel_rfl)
 have SR:=hid (R2.out.store (T:=135) (gY p) (by kernel_rfl))
 go_wp2_with (first | ((with_reducible refine ah ?_);refine cu rfl rfl rfl LA ?_) | ((with_reducible refine ah ?_);refine cE rfl rfl rfl rfl SR.out ?_;refine aJ ?_;apply_assumption;refine wp_ret ?_;(repeat first |refine aI ?_ |refine mr ?_);(show bodyPost _ _ _ _ _ _);refine bodyPost_ret (v:=.agg (ia 128 (gY p))) (rH Tryz.results72 _ rfl ((R2.out.whole (gY p) (by omega)).pY Tryz.underlying135 rfl (by kernel_rfl))) rfl ⟨rfl,B2.out.trans (aH R (ia 128 (gY p)).toList 0 wr w.heap.size lR)⟩))
end Go.Proofs.YtalnfkijiehjhaaGreat
namespace Go.Proofs.YtalnfkijiehjhaaGreat
set_option linter.unusedVariables false
set_option linter.unusedSimpArgs false
open Go.RowKit Go.ChangeShapes Go.WideShapes Go.ChangeAt
section
variable {P:Program}
theorem qQ (w:World)(d:Nat)(t elem:TypeId)(len n:Nat)(xs ys:Array Value)(hu:P.underlying t=some (.array len elem))(hs:(sizeOf elem).run P w =.ok n w)(f g:Nat→Value)(e:Nat→Bool)
 (hp:∀i,i<len→(part elem xs (i*n)).run P w =.ok (f i) w) (hq:∀i,i<len→(part elem ys (i*n)).run P w =.ok (g i) w) (he:∀i,i<len→(Op.equalIn d elem (f i) (g i)).run P w =.ok (e i) w) :
 (Op.equalIn (d+1) t (.agg xs) (.agg ys)).run P w =.ok ((List.range' 0 len 1).all e) w:=by
 simp only[Op.equalIn,Sem.run_bind,run_underlying hu,Result.andThen_ok,hs]
 rw[Std.Legacy.Range.forIn_eq_forIn_range']
 have hl:∀j∈List.range' 0 len 1,j<len:=fun j hj=>by simp at hj;omega
 simp only[Std.Legacy.Range.size,Nat.sub_zero,Nat.add_sub_cancel,Nat.div_one]
 revert hl
 generalize List.range' 0 len 1=l
 intro hl
 induction l with
 |nil=>simp
 |cons j l ih=>
  have hj:=hl j (List.mem_cons_self ..)
  have ih':=ih (fun i hi=>hl i (List.mem_cons_of_mem _ hi))
  cases hb:e j
  ·simp only[List.forIn_cons,Sem.run_bind,hp j hj,hq j hj,Result.andThen_ok,he j hj,hb,Bool.not_false,if_true,Sem.run_pure,List.all_cons,Bool.false_and]
  simp only[List.forIn_cons,Sem.run_bind,hp j hj,hq j hj,Result.andThen_ok,he j hj,hb,Bool.not_true,Bool.false_eq_true,if_false,Sem.run_pure,List.all_cons,Bool.true_and]
  exact ih'
end
theorem sO (n:Nat)(f:Nat→Int)(i:Nat)(hi:i<n)(w:World):(part 3 (ia n f) (i*1)).run Tryz.prog w =.ok (.int .i64 (f i)) w:=by
 have ai:(isAgg 3).run Tryz.prog w =.ok false w:=by kernel_rfl
 have e0:=EJ n f i hi
 rw[Nat.mul_one]
 simp[part,ai,e0,go_sem]
theorem KS (f g:Nat→Int)(w:World):(Op.equalIn 10000 131 (.agg (ia 64 f)) (.agg (ia 64 g))).run Tryz.prog w =.ok ((List.range' 0 64 1).all fun j=>f j==g j) w:=
 qQ w 9999 131 3 64 1 (ia 64 f) (ia 64 g) Tryz.underlying131 (by kernel_rfl) (fun i=>.int .i64 (f i)) (fun i=>.int .i64 (g i)) _ (fun i hi=>sO 64 f i hi w) (fun i hi=>sO 64 g i hi w) (fun i _=>run_equalIn_int w 9998 3 .i64 .i64 (f i) (g i) Tryz.underlying3)
theorem vv {o:Oper}{h:Operand→Value}(x y:Operand)(ho:o.op =.binOp .eql 131 x y 131)(f g:Nat→Int)(r:Bool)(hx:h x =.agg (ia 64 f))(hy:h y =.agg (ia 64 g))(hr:((List.range' 0 64 1).all fun j=>f j==g j)=r)(w:World):(execOp h o).run Tryz.prog w =.ok (.value (.bool r)) w:=by
 have hg:(eqGuard .eql 131 x y (.agg (ia 64 f)) (.agg (ia 64 g))).run Tryz.prog w =.ok () w:=run_eqGuard_agg w _ _ _ _ _ _ (by kernel_rfl)
 unfold execOp
 simp only[ho,hx,hy,Sem.run_bind,hg,Result.andThen_ok,run_eql_struct,KS,Sem.run_pure,hr]
theorem xF (w:World):(Instr.build 131 #[]).run Tryz.prog w =.ok (.agg (ia 64 fun _=>0)) w:=run_build w _ _ _ (by kernel_rfl)
theorem DG (f:Nat→Int)(i:Nat)(hi:i<64)(w:World):(Instr.index 131 (.agg (ia 64 f)) (.int .i64 (i:Int))).run Tryz.prog w =.ok (.int .i64 (f i)) w:=by
 have hsz:(sizeOf 3).run Tryz.prog w =.ok 1 w:=by kernel_rfl
 have hp:=sO 64 f i hi w
 have hu:=run_underlying (P:=Tryz.prog) Tryz.underlying131 w
 simp only[Instr.index,asIntOf,Sem.run_bind,Sem.run_pure,Result.andThen_ok,hu]
 rw[if_pos (by omega)]
 simp only[Sem.run_bind,hsz,Result.andThen_ok,Int.toNat_natCast,hp]
def cF (p:Pl):Nat→Int:=if bz (bm p) 64=0 then fun _=> -1 else eT (bm p) (df p) (cX p) 127
def CO (p:Pl)(f g:Nat→Int):Prop:=∀i,i<64→0<bm p i→∃k,g (2*i)=(cq (df p i) (cX p i) k:Nat)∧g (2*i+1)=(cX p i:Nat)∧∀j,j<k→f (cq (df p i) (cX p i) j)≠-1
theorem u_ {wt:Nat→Nat}:∀{m:Nat},bz wt m=0→∀i,i<m→wt i=0
 |0,_,i,h=>absurd h (by omega)
 |m+1,h,i,hi=>by
  have h1:bz wt (m+1)=bz wt m+wt m:=rfl
  by_cases e:i=m
  ·subst e;omega
  exact u_ (m:=m) (by omega) i (by omega)
theorem uy {wt:Nat→Nat}:∀{m:Nat},(∀i,i<m→wt i=0)→bz wt m=0
 |0,_=>rfl
 |m+1,h=>by
  show bz wt m+wt m=0
  rw[uy (fun i hi=>h i (by omega)),h m (by omega)]
theorem all_zero (p:Pl):((List.range' 0 64 1).all fun j=>(bm p j:Int)==0)=decide (bz (bm p) 64=0):=by
 by_cases h:bz (bm p) 64=0
 ·rw[decide_eq_true h,List.all_eq_true]
  intro j hj
  have:=u_ h j (by simp at hj;omega)
  simp[this]
 rw[decide_eq_false h]
 cases hb:(List.range' 0 64 1).all fun j=>(bm p j:Int)==0
 ·rfl
 rw[List.all_eq_true]at hb
 refine absurd (uy fun i hi=>?_) h
 have:=hb i (by simp;omega)
 simpa using this
theorem yJ (p:Pl):∀i,i<64→0<bm p i→1≤cX p i∧cX p i≤126:=fun i _ _=>r_ p i
theorem Ej {p:Pl}(hp:Pw p)(i:Nat)(hi:i<64):bm p i≤8:=by
 unfold bm
 split
 ·rename_i h
  have:=(hp i hi).2.2 (by rw[h];decide)
  omega
 omega
theorem uE {p:Pl}{i n r k:Nat}(hi:i<64)(hn:n<bm p i)(hk:k=min 127 (r*bz (bm p) 64+bz (bm p) i+n))(A_:k<127) :
 let f:=eT (bm p) (df p) (cX p) k
 let F:=rY f (df p i) (cX p i)
 F<127∧f (cq (df p i) (cX p i) F) = -1∧(∀j,j<F→f (cq (df p i) (cX p i) j)≠-1)∧eT (bm p) (df p) (cX p) (k+1)=da f (cq (df p i) (cX p i) F) i:=by
 have hT:0<bz (bm p) 64:=by
  have:=nQ (bm p) (show i+1≤64 by omega)
  have h1:bz (bm p) (i+1)=bz (bm p) i+bm p i:=rfl
  omega
 have hle:=nQ (bm p) (show i+1≤64 by omega)
 have h1:bz (bm p) (i+1)=bz (bm p) i+bm p i:=rfl
 have hk':k=bz (bm p) i+n+r*bz (bm p) 64:=by omega
 have hm:k%bz (bm p) 64=bz (bm p) i+n:=by
  rw[hk',Nat.add_mul_mod_self_right]
  exact Nat.mod_eq_of_lt (by omega)
 have hs:qm (bm p) (k%bz (bm p) 64)=i:=by rw[hm];exact xZ hi hn
 have hfr:=sw (at_:=df p) hT (yJ p) k (by omega)
 have Iz:=xB (f:=eT (bm p) (df p) (cX p) k) (a:=df p i) (b:=cX p i) (r_ p i) (by rw[hfr];omega)
 refine⟨Iz.1,Iz.2.1,Iz.2.2,?_⟩
 show da _ _ _=_
 rw[hs]
theorem CO.turn {p:Pl}{f g:Nat→Int}{i F:Nat}(h:CO p f g)(hi:i<64)(hF:∀j,j<F→f (cq (df p i) (cX p i) j)≠-1) :
 CO p (da f (cq (df p i) (cX p i) F) i) (da g (2*i) (cq (df p i) (cX p i) (F+1):Nat)):=by
 intro s hs hw
 obtain ⟨k,h1,h2,h3⟩:=h s hs hw
 have hput:∀q,f q≠-1→da f (cq (df p i) (cX p i) F) (i:Int) q≠-1:=fun q hq=>by
  unfold da
  split
  ·omega
  exact hq
 by_cases e:s=i
 ·subst e
  refine⟨F+1,dp _ _ _,by rw[eh _ _ (by omega)];exact h2,fun j hj=>?_⟩
  by_cases ej:j=F
  ·subst ej;rw[dp];omega
  exact hput _ (hF j (by omega))
 exact⟨k,by rw[eh _ _ (by omega)];exact h1,by rw[eh _ _ (by omega)];exact h2,fun j hj=>hput _ (h3 j hj)⟩
theorem CO.start {p:Pl}:CO p (fun _=> -1) (gY p):=by
 intro i hi hw
 have hst:(p.s i).st=2:=by
  unfold bm at hw
  by_cases h:(p.s i).st=2
  ·exact h
  rw[if_neg h]at hw;omega
 refine⟨0,?_,?_,fun j hj=>absurd hj (by omega)⟩
 ·unfold gY
  rw[show 2*i/2=i by omega,if_pos hst,if_pos (by omega)]
  have:cq (df p i) (cX p i) 0=df p i:=by unfold cq;rw[Nat.zero_mul,Nat.add_zero];exact Nat.mod_eq_of_lt (E2 p i)
  rw[this]
 unfold gY
 rw[show (2*i+1)/2=i by omega,if_pos hst,if_neg (by omega)]
theorem DF:(Tryz.prog.info? 3).map (fun i=>(i.zero,i.size,i.bytes))=some (some (.int .i64 0),1,8):=by kernel_rfl
section
variable {w:World}{ops:Array Oper}{rest:List Oper}{o:Oper}{a:Act}{Q:Exit→Act→World→Prop}
theorem tm (hgd:o.guard=none)(l c:Operand)(ho:o.op =.makeSlice 22 l c)(n:Nat)(L C:Int)(hl:a.eval l =.int .i64 L)(hc:a.eval c =.int .i64 C)(hL:L=n)(hC:C=n)(hn0:0<n)(hsz:n≤1000000)
 (h:∀w',IA w' w.heap.size n (fun _=>0)→Below w.heap.size w w'→wpList Tryz.prog ops Q rest (a.put o.dst (.slice (some ⟨w.heap.size,0,none⟩) n n)) w'):wpList Tryz.prog ops Q (o::rest) a w:=by
 obtain ⟨i0,hi,hz0,hz1,hz2⟩:=info_parts DF
 refine wpList_make_full w hgd l c _ ho w.heap.size 3 i0 (.int .i64 0) 1 Tryz.underlying22 hi hz0 hz1 .i64 .i64 L C n hl hc hL hC (by rw[hz2];omega) (by simp only[maxLen];omega) (Nat.le_refl _) ?_
 intro w' h1 h2
 have e:(madeCells (Value.int .i64 0).cells (n*1)).toList=(List.range (n*1)).map (fun _=>Value.int .i64 0):=by
  rw[show (Value.int .i64 0).cells =#[Value.int .i64 0] from rfl,toList_madeCells_one]
  simp[List.map_const']
 rw[e]at h1
 have hO:Ow w' w.heap.size 3 1 (.slice (some ⟨w.heap.size,0,none⟩) n n) n (fun _=>.int .i64 0):=h1
 obtain ⟨g,hg,_,hlt,hc2,hf⟩:=hO.block_ hn0
 injection hg with hg
 injection hg with hg _ _
 subst hg
 exact h w' ⟨hlt,fun j hj=>hc2 j (by omega),hf⟩ (Ow.below_ (v:=.slice none 0 0) (Ow.none_ (w:=w) (B:=w.heap.size) (e:=3) (size:=1) (f:=fun _=>.int .i64 0)) h2 (Nat.le_refl _))
end
attribute [local irreducible] PA ia
theorem qXM{P:Prop}(h:P:=by
 have i1:(k:Int)<127:=by omega
 have cb:wr.cell? ⟨B,k,none⟩=some (.int .i64 0):=by have h:=I2.out.2.1 k hlt;simp only[Nat.lt_irrefl,if_false]at h;exact h
 have zb:=I2.out.2.2 k
 have I3:=hid ((I2.out.set k hlt (-1)).fQ (g:=fun j=>if j<k+1 then -1 else 0) (fun j hj=>by by_cases e:j=k;(subst e;rw[dp,if_pos (by omega)]);(rw[eh _ _ e];by_cases e2:j<k;(rw[if_pos e2,if_pos (by omega)]);(rw[if_neg e2,if_neg (by omega)]))))
 have P3:=hid (P2.out.other (c:=B) (j:=k) (v:=.int .i64 (-1)) EP)
 have B3:=hid (B2.out.setCell (p:=⟨B,k,none⟩) lB (.int .i64 (-1)))
 clear I2 P2 B2
 go_wp2_with fail
 go_roundw
 case rel=>exact⟨k+1,by omega,by go_num,I3.out,P3.out,B3.out⟩
 simp[intOf];omega
 ):P:=h
set_option maxRecDepth 100000 in
set_option maxHeartbeats 4000000 in
theorem AU (p:Pl)(hp:Pw p)(w:World):Calls Tryz.prog 34 #[gG p] w fun x w'=>∃B:Nat,x =.returned (.slice (some ⟨B,0,none⟩) 127 127)∧w.heap.size≤B∧IA w' B 127 (cF p)∧Below w.heap.size w w':=by
 have hz:∀w:World,(zeroValue 131).run Tryz.prog w =.ok (.agg (ia 64 fun _=>0)) w:=fun w=>uz w
 have hz1:=js 64 (fun _=>0)
 have hz2:=rT (n:=64) (fun _=>0) (by omega)
 have hy:∀w:World,(zeroValue 135).run Tryz.prog w =.ok (.agg (ia 128 fun _=>0)) w:=fun w=>zero64 w
 have hy1:=js 128 (fun _=>0)
 have hy2:=rT (n:=128) (fun _=>0) (by omega)
 have g8:=hid hp
 have WC:=hid (show ∀w,Calls Tryz.prog 71 #[.agg (PA p)] w fun x w'=>x =.returned (.agg (ia 64 (fun j=>(bm p j:Int))))∧Below w.heap.size w w' from fun w=>wu p hp w)
 have CC:=hid (show ∀w,Calls Tryz.prog 72 #[.agg (PA p)] w fun x w'=>x =.returned (.agg (ia 128 (gY p)))∧Below w.heap.size w w' from fun w=>wK p hp w)
 clear hp
 unfold gG
 go_enter Tryz.func34,Tryz.ntmps34
 go_upto_region 1 with (fail)
 have P0:=hid (au.made (w:=w) (p:=p) (T:=34) rfl)
 have B0:=hid ((Below.refl w.heap.size w).alloc (Nat.le_refl _) (.cells (PA p) 34))
 generalize w.alloc (.cells (PA p) 34)=w0 at *
 obtain ⟨P,hP⟩:∃P,P=w.heap.size:=⟨_,rfl⟩
 rw[←hP]at P0
 rw[show (Value.pointer (some ⟨w.heap.size,0,none⟩))=Value.pointer (some ⟨P,0,none⟩) from by rw[hP]]
 have HP:=hid hP
 clear hP
 go_step3
 go_upto_region 2 with (at_make;refine tm rfl _ _ rfl 127 127 127 rfl rfl rfl rfl (by omega) (by omega) ?_;intro w1 hI1 hb1;have I1:=hid hI1;have P1:=hid (P0.out.below hb1);have B1:=hid (B0.out.trans (hb1.mono B0.out.size));have EP:w0.heap.size≠P:=Nat.ne_of_gt P0.out.1;have lB:=B0.out.size;clear hI1 hb1 P0 B0)
 generalize w0.heap.size=B at *
 go_wp2_with fail
 go_loopw [13] (fun i wr=>∃k:Nat,k≤127∧i =.int .i64 (k:Int)∧IA wr B 127 (fun j=>if j<k then -1 else 0)∧au wr P p∧Below w.heap.size w wr) (fun i _=>127-(intOf i).toNat)
 case atStart=>exact⟨0,by omega,rfl,I1.out.fQ (fun j _=>by rw[if_neg (by omega)]),P1.out,B1.out⟩
 clear I1 P1 B1
 obtain ⟨k,hk,rfl,hI,hP,hB⟩:=hrel
 have I2:=hid hI
 have P2:=hid hP
 have B2:=hid hB
 clear hI hP hB
 by_cases hlt:k<127
 ·have i0:(0:Int)≤k:=by omega
  exact qXM
 have e:k=127:=by omega
 subst e
 have I4:=hid (I2.out.fQ (g:=fun _=> -1) (fun j hj=>by rw[if_pos hj]))
 clear I2
 have LP:=P2.out.iU
 go_wp2_with ((with_reducible refine ah ?_);refine cu rfl rfl rfl LP ?_)
 refine(WC.out _).mono ?_
 rintro x w3 ⟨rfl,hb⟩
 clear LP
 have I5:=hid (I4.out.below hb)
 have P5:=hid (P2.out.below hb)
 have B5:=hid (B2.out.trans (hb.mono B2.out.size))
 clear hb I4 P2 B2
 have W0:=IA.made (w:=w3) (n:=64) (f:=fun _=>0) (T:=131) (d:=w3.heap.size) rfl
 have SW:=hid (W0.store (T:=131) (fun j=>(bm p j:Int)) (by kernel_rfl))
 have W6:=hid (W0.whole (fun j=>(bm p j:Int)) (by omega))
 have LI:w3.heap.size≠B:=Nat.ne_of_gt I5.out.1
 have OE:w3.heap.size≠P:=Nat.ne_of_gt P5.out.1
 have I6:=hid ((I5.out.alloc (.cells (ia 64 fun _=>0) 131)).others (c:=w3.heap.size) (o:=0) (vs:=(ia 64 (fun j=>(bm p j:Int))).toList) LI (by omega))
 have P6:=hid ((P5.out.alloc (.cells (ia 64 fun _=>0) 131)).others (c:=w3.heap.size) (o:=0) (vs:=(ia 64 (fun j=>(bm p j:Int))).toList) OE)
 have B6:=hid ((B5.out.alloc B5.out.size (.cells (ia 64 fun _=>0) 131)).trans (aH w3.heap.size (ia 64 (fun j=>(bm p j:Int))).toList 0 _ w.heap.size B5.out.size))
 go_upto_region 8 with ((with_reducible refine ah ?_);refine cE rfl rfl rfl rfl SW.out ?_)
 clear SW W0 I5 P5
 have lW:=B5.out.size
 clear B5
 generalize (w3.alloc (.cells (ia 64 fun _=>0) 131)).setCells w3.heap.size 0 (ia 64 (fun j=>(bm p j:Int))).toList=w4 at *
 generalize w3.heap.size=Wb at *
 have LW:=W6.out.load (T:=131) Tryz.underlying131 rfl (by kernel_rfl)
 have hZ:=all_zero p
 by_cases hT:bz (bm p) 64=0
 ·rw[decide_eq_true hT]at hZ
  go_wp2_with (first | ((with_reducible refine ah ?_);refine cu rfl rfl rfl LW ?_) | ((with_reducible refine ah ?_);refine iE rfl rfl (xF _) ?_) | ((with_reducible refine ah ?_);refine dZ rfl (vv _ _ rfl _ _ true rfl rfl hZ _) ?_))
  (try rw[Exit.noGoto_ret])
  go_ret
  exact⟨B,rfl,lB,by unfold cF;rw[if_pos hT];exact I6.out,B6.out⟩
 rw[decide_eq_false hT]at hZ
 have LP:=P6.out.iU
 go_wp2_with (first | ((with_reducible refine ah ?_);refine cu rfl rfl rfl LW ?_) | ((with_reducible refine ah ?_);refine cu rfl rfl rfl LP ?_) | ((with_reducible refine ah ?_);refine iE rfl rfl (xF _) ?_) | ((with_reducible refine ah ?_);refine dZ rfl (vv _ _ rfl _ _ false rfl rfl hZ _) ?_))
 clear LW hZ
 refine(CC.out _).mono ?_
 rintro x w5 ⟨rfl,hb⟩
 clear LP
 have I7:=hid (I6.out.below hb)
 have W7:=hid (W6.out.below hb)
 have B7:=hid (B6.out.trans (hb.mono B6.out.size))
 clear hb I6 W6 P6 B6
 have C0:=IA.made (w:=w5) (n:=128) (f:=fun _=>0) (T:=135) (d:=w5.heap.size) rfl
 have SC:=hid (C0.store (T:=135) (gY p) (by kernel_rfl))
 have C8:=hid (C0.whole (gY p) (by omega))
 have EO:w5.heap.size≠B:=Nat.ne_of_gt I7.out.1
 have LL:w5.heap.size≠Wb:=Nat.ne_of_gt W7.out.1
 have lC:=B7.out.size
 have I8:=hid ((I7.out.alloc (.cells (ia 128 fun _=>0) 135)).others (c:=w5.heap.size) (o:=0) (vs:=(ia 128 (gY p)).toList) EO (by omega))
 have W8:=hid ((W7.out.alloc (.cells (ia 128 fun _=>0) 135)).others (c:=w5.heap.size) (o:=0) (vs:=(ia 128 (gY p)).toList) LL (by omega))
 have B8:=hid ((B7.out.alloc B7.out.size (.cells (ia 128 fun _=>0) 135)).trans (aH w5.heap.size (ia 128 (gY p)).toList 0 _ w.heap.size B7.out.size))
 go_upto_region 11 with ((with_reducible refine ah ?_);refine cE rfl rfl rfl rfl SC.out ?_)
 clear SC C0 I7 W7 B7
 generalize (w5.alloc (.cells (ia 128 fun _=>0) 135)).setCells w5.heap.size 0 (ia 128 (gY p)).toList=w6 at *
 generalize w5.heap.size=Cb at *
 have T0:0<bz (bm p) 64:=by omega
 have OM:=Ne.symm EO
 have OJ:=Ne.symm LI
 go_wp2_with fail
 go_step3
 go_wp2_with fail
 go_loopg [7] 128 (fun gh l wr=>∃(r k:Nat) (g:Nat→Int),gh=128-k∧k=r*bz (bm p) 64∧k≤127∧l =.int .i64 (127-(k:Int))∧IA wr B 127 (eT (bm p) (df p) (cX p) k)∧IA wr Wb 64 (fun j=>(bm p j:Int))∧IA wr Cb 128 g∧CO p (eT (bm p) (df p) (cX p) k) g∧Below w.heap.size w wr)
 case atStart=>exact⟨0,0,gY p,rfl,by omega,by omega,rfl,I8.out,W8.out,C8.out,CO.start,B8.out⟩
 clear I8 W8 C8 B8
 obtain ⟨r,k0,g,rfl,hk,A_,rfl,hI,hW,hC,hco,hB⟩:=hrel
 have W9:=hid hW
 have K0:=hid hk
 have st0:=hid (show IA wr B 127 (eT (bm p) (df p) (cX p) k0)∧IA wr Wb 64 (fun j=>(bm p j:Int))∧IA wr Cb 128 g∧CO p (eT (bm p) (df p) (cX p) k0) g∧Below w.heap.size w wr from ⟨hI,hW,hC,hco,hB⟩)
 clear hI hW hC hco hB hk
 have LW:=W9.out.load (T:=131) Tryz.underlying131 rfl (by kernel_rfl)
 go_wp2_with ((with_reducible refine ah ?_);refine cu rfl rfl rfl LW ?_)
 clear LW W9
 go_loopg [7,31] 64 (fun gh l i wr=>∃(i' k:Nat) (g:Nat→Int),gh=64-i'∧i'≤64∧k=r*bz (bm p) 64+bz (bm p) i'∧k≤127∧l =.int .i64 (127-(k:Int))∧i =.int .i64 (i':Int)∧IA wr B 127 (eT (bm p) (df p) (cX p) k)∧IA wr Wb 64 (fun j=>(bm p j:Int))∧IA wr Cb 128 g∧CO p (eT (bm p) (df p) (cX p) k) g∧Below w.heap.size w wr)
 case atStart=>exact⟨0,k0,g,rfl,by omega,by rw[K0.out];rfl,A_,rfl,rfl,st0.out⟩
 clear st0
 obtain ⟨i,k1,g1,rfl,hi,hk1,Iy,rfl,rfl,hst⟩:=hrel
 have K1:=hid hk1
 have st1:=hid hst
 clear hst hk1
 by_cases hlt:i<64
 ·have i0:(0:Int)≤i:=by omega
  have i1:(i:Int)<64:=by omega
  have w8:=Ej g8.out i hlt
  have IX:=DG (fun j=>(bm p j:Int)) i hlt wr
  (try simp only at IX)
  have qI:=hid (show bz (bm p) (i+1)=bz (bm p) i+bm p i from rfl)
  obtain ⟨wn,hwn⟩:∃wn,wn=bm p i:=⟨_,rfl⟩
  rw[←hwn]at IX qI w8
  have Ff:=hid hwn
  clear hwn
  go_upto_region 15 with ((with_reducible refine ah ?_);refine nC rfl rfl rfl rfl IX ?_)
  clear IX
  go_wp2_with fail
  go_loopg [7,36] (wn+1) (fun gh l n wr=>∃(n' k:Nat) (g:Nat→Int),gh=wn+1-n'∧n'≤wn∧k=r*bz (bm p) 64+bz (bm p) i+n'∧k≤127∧l =.int .i64 (127-(k:Int))∧n =.int .i64 (n':Int)∧IA wr B 127 (eT (bm p) (df p) (cX p) k)∧IA wr Wb 64 (fun j=>(bm p j:Int))∧IA wr Cb 128 g∧CO p (eT (bm p) (df p) (cX p) k) g∧Below w.heap.size w wr)
  case atStart=>exact⟨0,k1,g1,rfl,by omega,by rw[K1.out];rfl,Iy,rfl,rfl,st1.out⟩
  clear st1
  obtain ⟨n,k,g,rfl,hn,hk,M4,rfl,rfl,hI,hW,hC,hco,hB⟩:=hrel
  have K2:=hid hk
  have I9:=hid hI
  have W9:=hid hW
  have C9:=hid hC
  have Fo:=hid hco
  have B9:=hid hB
  clear hI hW hC hco hB hk
  have n0:(0:Int)≤n:=by omega
  by_cases hnw:n<wn
  ·have n1:(n:Int)<wn:=by omega
   by_cases h127:k=127
   ·have b0:((127:Int)-(k:Int)==0)=true:=by simp;omega
    go_wp2_with fail
    (try rw[Exit.noGoto_ret])
    go_ret
    exact⟨B,rfl,lB,by unfold cF;rw[if_neg (by omega)];have h:=I9.out;rw[h127]at h;exact h,B9.out⟩
   have b0:((127:Int)-(k:Int)==0)=false:=by simp;omega
   have hkk:k<127:=by omega
   obtain ⟨F1,F2,F3,F4⟩:=uE (p:=p) (i:=i) (n:=n) (r:=r) (k:=k) hlt (by rw[←Ff.out];exact hnw) (by have:=K2.out;omega) hkk
   obtain ⟨kc,c1,c2,c3⟩:=Fo.out i hlt (by rw[←Ff.out];omega)
   obtain ⟨F,hF⟩:∃F,F=rY (eT (bm p) (df p) (cX p) k) (df p i) (cX p i):=⟨_,rfl⟩
   rw[←hF]at F1 F2 F3 F4
   clear hF
   have vX:=hid F4
   have pL:=hid (Fo.out.turn (F:=F) hlt F3)
   rw[show 2*i=i*2 by omega]at c1 c2 pL
   have NX:=hid (fun (w0:World) (h:IA w0 Cb 128 g) (h2:IA w0 B 127 (eT (bm p) (df p) (cX p) k))=>yq Cb (i*2) B 127 (df p i) (cX p i) kc F (by omega) EO (r_ p i) g (eT (bm p) (df p) (cX p) k) c1 c2 (hid c3) F2 F3 w0 h h2)
   clear c1 c2 c3 F2 F3 F4
   have hpl:=oQ (df p i) (cX p i) F
   obtain ⟨q,hq⟩:∃q,q=cq (df p i) (cX p i) F:=⟨_,rfl⟩
   rw[←hq]at NX vX pL hpl
   clear hq
   generalize cq (df p i) (cX p i) (F+1)=q2 at *
   have q0:(0:Int)≤q:=by omega
   have q1:(q:Int)<127:=by omega
   have i64':i*2+1<128:=by omega
   go_wp2_with fail
   refine(NX.out _ C9.out I9.out).mono ?_
   rintro x w7 ⟨rfl,hC2,hg2⟩
   have Fe:=hid (I9.out.grown hg2 (fun e=>EO (by injection e)))
   have L0:=hid (W9.out.grown hg2 (fun e=>LL (by injection e)))
   have Mt:=hid hC2
   have B10:=hid (B9.out.grown hg2 B9.out.size (fun j e=>by injection e with e;subst e;exact lC))
   clear hC2 hg2 I9 W9 C9 B9 NX
   have cb:=Fe.out.2.1 q hpl
   have zb:=Fe.out.2.2 q
   have nt:=hid (Fe.out.set q hpl i)
   have O9:=hid (L0.out.other (c:=B) (j:=q) (v:=.int .i64 (i:Int)) OJ)
   have PQ:=hid (Mt.out.other (c:=B) (j:=q) (v:=.int .i64 (i:Int)) OM)
   have B11:=hid (B10.out.setCell (p:=⟨B,q,none⟩) lB (.int .i64 (i:Int)))
   clear Fe L0 Mt B10
   rw[←vX.out]at nt pL
   clear vX Fo
   go_wp2_with fail
   go_roundg (wn+1-(n+1))
   case measure=>omega
   exact⟨n+1,k+1,_,rfl,hnw,by have:=K2.out;omega,by omega,by go_num,by go_num,nt.out,O9.out,PQ.out,pL.out,B11.out⟩
  have hnn:n=wn:=by omega
  have hni:¬(n:Int)<wn:=by omega
  have K3:=hid (show k=r*bz (bm p) 64+bz (bm p) (i+1) from by rw[qI.out,K2.out,hnn];omega)
  clear hnn
  go_wp2_with fail
  go_roundg (64-(i+1))
  case measure=>omega
  exact⟨i+1,k,g,rfl,by omega,K3.out,M4,rfl,by go_num,I9.out,W9.out,C9.out,Fo.out,B9.out⟩
 have e:i=64:=by omega
 subst e
 have K4:=hid (show k1=(r+1)*bz (bm p) 64 from by rw[K1.out,Nat.add_mul,Nat.one_mul])
 have Ii:=K1.out
 have tO:=K0.out
 go_wp2_with fail
 go_roundg (128-k1)
 case measure=>omega
 exact⟨r+1,k1,g1,rfl,K4.out,Iy,rfl,st1.out⟩
end Go.Proofs.YtalnfkijiehjhaaGreat
namespace Go.Proofs.YtalnfkijiehjhaaGreat
set_option linter.unusedVariables false
set_option linter.unusedSimpArgs false
open Go.RowKit Go.ChangeShapes Go.WideShapes Go.ChangeAt
theorem Pw.step {p:Pl}(h:Pw p){e:En}(h0:(jY p e).2=0):Pw (jY p e).1:=by
 obtain ⟨hc,_,h1⟩:=sc h0
 obtain ⟨k1,k2,s0,s1,_⟩:=vA hc
 have hB:e.k=1→(0≤e.a∧e.a≤4294967295)∧(0≤e.p∧e.p≤65535)∧1≤e.w∧e.w≤8:=by
  intro hk
  rw[Bt]at hc
  rw[hk]at hc
  simp only[Int.reduceBEq,Bool.true_and]at hc
  cases hb:ku e.a e.p&&d_ e.w 1 8
  ·rw[hb]at hc
   revert hc
   cases d_ e.s 0 63 <;> simp
  simp only[Bool.and_eq_true]at hb
  obtain ⟨hm,hw⟩:=hb
  unfold ku at hm
  simp only[Bool.and_eq_true]at hm
  have h1:=m8 hm.1
  have h2:=m8 hm.2
  have h3:=m8 hw
  omega
 rw[h1]
 have hC:(0≤(jX p e e.s.toNat).ad∧(jX p e e.s.toNat).ad≤4294967295)∧(0≤(jX p e e.s.toNat).po∧(jX p e e.s.toNat).po≤65535)∧((jX p e e.s.toNat).st≠0→1≤(jX p e e.s.toNat).we∧(jX p e e.s.toNat).we≤8):=by
  have n64:e.s.toNat<64:=by omega
  have hn:=h _ n64
  have hr:oP p e e.s.toNat=0:=(sc h0).2.1
  have hf:pd p e e.s.toNat=true:=by
   unfold oP at hr
   cases hb:pd p e e.s.toNat
   ·rw[hb]at hr;exact absurd hr (by simp)
   rfl
  have hk:e.k=1∨e.k=2∨e.k=3∨e.k=4∨e.k=5∨e.k=6:=by omega
  unfold pd at hf
  unfold jX
  rcases hk with k |k |k |k |k |k
  all_goals (rw[k]at hf ⊢;simp only[Int.reduceBEq,cond_true,cond_false,Bool.or_true,Bool.or_false]at hf ⊢)
  ·exact⟨(hB k).1,(hB k).2.1,fun _=>(hB k).2.2⟩
  ·simp only[Bool.or_eq_true,beq_iff_eq]at hf
   exact⟨hn.1,hn.2.1,fun _=>hn.2.2 (by omega)⟩
  ·simp only[beq_iff_eq]at hf
   exact⟨hn.1,hn.2.1,fun _=>hn.2.2 (by omega)⟩
  ·simp only[Bool.or_eq_true,beq_iff_eq]at hf
   exact⟨hn.1,hn.2.1,fun _=>hn.2.2 (by omega)⟩
  ·exact⟨by show (0:Int)≤0∧(0:Int)≤4294967295;decide,by show (0:Int)≤0∧(0:Int)≤65535;decide,fun h=>absurd rfl h⟩
  exact hn
 unfold kP
 cases (e.k==6)
 ·intro i hi
  simp only[cond_false,dC]
  by_cases e':i=e.s.toNat
  ·rw[if_pos e'];exact hC
  rw[if_neg e'];exact h i hi
 exact h
theorem rQ (g:Nat→Int):∀k:Nat,Pw (fP g k)
 |0=>fun i _=>⟨by show (0:Int)≤0∧(0:Int)≤4294967295;decide,by show (0:Int)≤0∧(0:Int)≤65535;decide,fun h=>absurd rfl h⟩
 |k+1=>by
  have ih:=rQ g k
  unfold fP
  split
  ·rename_i h;exact ih.step h
  exact ih
end Go.Proofs.YtalnfkijiehjhaaGreat
