/- The reference's Apply. -/
import Derived.Test.YtalnfkijiehjhaaGreatGa
import Derived.Test.YtalnfkijiehjhaaGreatPolApp3
import Derived.Test.YtalnfkijiehjhaaGreatGq
import Derived.RegionTactic
import Derived.BigQuiet
import Derived.Deep.RegionHeld3
import Derived.Deep.Cut
namespace Go.Proofs.YtalnfkijiehjhaaGreat
set_option linter.unusedVariables false
set_option linter.unusedSimpArgs false
open Go.RowKit Go.ChangeShapes Go.WideShapes Go.ChangeAt
theorem zH (f:Nat→Sp)(i:Nat):dC f i (f i)=f:=by
 funext j
 unfold dC
 split
 ·rename_i h;rw[h]
 rfl
attribute [local irreducible] PA
set_option maxRecDepth 100000 in
set_option maxHeartbeats 4000000 in
theorem yj (p:Pl)(e:En)(hp:PB p)(w:World):Calls Tryz.prog 31 #[gG p,qu e] w fun x w'=>x =.returned (.tuple #[gG (jY p e).1,(jY p e).2])∧Below w.heap.size w w':=by
 have hz:∀w:World,(zeroValue 34).run Tryz.prog w =.ok (.agg (PA cm)) w:=fun w=>sr w
 have hz1:=lx cm
 have hz2:=yk cm
 obtain ⟨k,s,a,q,m,y1,y2⟩:=e
 obtain ⟨c,hc⟩:∃c,c=pu ⟨k,s,a,q,m,⟨y1,y2⟩⟩:=⟨_,rfl⟩
 have CK:=hid (fun w=>c_ (yh ⟨k,s,a,q,m,⟨y1,y2⟩⟩ w) hc.symm)
 have HC:=hid hc
 unfold jY
 rw[←hc]
 clear hc
 simp only
 unfold gG qu
 cases bc:(c != 0)
 ·have hc0:c=0:=by simpa using bc
  subst hc0
  obtain ⟨hk1,hk2,hs1,hs2,hr0⟩:=vA HC.out.symm
  simp only at hk1 hk2 hs1 hs2 hr0
  obtain ⟨i,rfl⟩:∃i:Nat,s=i:=⟨s.toNat,by omega⟩
  have h64:i<64:=by omega
  have i0:(0:Int)≤i:=by omega
  have i1:(i:Int)<64:=by omega
  simp only[Int.toNat_natCast]
  obtain ⟨hp1,hp2,hp3⟩:=hp
  have hsi:=hp3 i h64
  have q3:IntKind.i64.wrap ((p.s i).si+3)=(p.s i).si+3:=IntWalk.i64_in _ (by omega)
  have qv:IntKind.i64.wrap (p.v+1)=p.v+1:=IntWalk.i64_in _ (by omega)
  clear hp3 hsi
  replace hr0:=hid hr0
  have NX:=hid (fun w=>zT p.r ⟨y1,y2⟩ hp2 w)
  obtain ⟨f,hf⟩:∃f,f=pd p ⟨k,(i:Int),a,q,m,⟨y1,y2⟩⟩ i:=⟨_,rfl⟩
  have BD:=hid (fun w=>iS (Gt p ⟨k,(i:Int),a,q,m,⟨y1,y2⟩⟩ i rfl h64 ⟨hk1,hk2⟩ w) (show (!(pd p ⟨k,(i:Int),a,q,m,⟨y1,y2⟩⟩ i)) =!f from by rw[hf]))
  have HR:oP p ⟨k,(i:Int),a,q,m,⟨y1,y2⟩⟩ i=bif !f then 12 else bif (k==5&&decide (p.r.e<(p.s i).si+3)) then 13 else 0:=by unfold oP;rw[←hf]
  rw[HR]
  clear HR hf
  go_enter Tryz.func31,Tryz.ntmps31
  go_upto_region 1 with (fail)
  have P1:=hid (((au.made (w:=w) (p:=p) (T:=34) rfl).alloc (.cells #[k,(i:Int),a,q,m,.int .u64 y1,.int .u64 y2] 77)).alloc (.cells (PA cm) 34))
  have CX:=hid ((Ce.made (w:=w.alloc (.cells (PA p) 34)) (l:=[k,(i:Int),a,q,m,.int .u64 y1,.int .u64 y2]) (T:=77) (g:=w.heap.size+1) (by simp)).alloc (.cells (PA cm) 34))
  have R1:=hid (au.made (w:=((w.alloc (.cells (PA p) 34)).alloc (.cells #[k,(i:Int),a,q,m,.int .u64 y1,.int .u64 y2] 77))) (p:=cm) (T:=34) (g:=w.heap.size+1+1) (by simp))
  have HB:=hid ((((Below.refl w.heap.size w).alloc (Nat.le_refl _) (.cells (PA p) 34)).alloc (by simp) (.cells #[k,(i:Int),a,q,m,.int .u64 y1,.int .u64 y2] 77)).alloc (by simp;omega) (.cells (PA cm) 34))
  have lR:w.heap.size≤w.heap.size+1+1:=by omega
  have vz:w.heap.size+1+1≠w.heap.size:=by omega
  have Jc:w.heap.size+1+1≠w.heap.size+1:=by omega
  have qx:w.heap.size≠w.heap.size+1:=by omega
  have mE:=Ne.symm vz
  have OH:=Ne.symm Jc
  have OI:=Ne.symm qx
  generalize (((w.alloc (.cells (PA p) 34)).alloc (.cells #[k,(i:Int),a,q,m,.int .u64 y1,.int .u64 y2] 77))).alloc (.cells (PA cm) 34)=w1 at *
  generalize w.heap.size+1+1=R at *
  generalize w.heap.size+1=E at *
  generalize hK:w.heap.size=P at *
  have HK:=hid hK
  clear hK
  have X1:=hid CX.out
  have B1:=hid HB.out
  clear CX HB
  have c0:=X1.out.2.1 0 _ rfl
  have c1:=X1.out.2.1 1 _ rfl
  have c2:=X1.out.2.1 2 _ rfl
  have c3:=X1.out.2.1 3 _ rfl
  have c4:=X1.out.2.1 4 _ rfl
  have c5:=X1.out.2.1 5 _ rfl
  have c6:=X1.out.2.1 6 _ rfl
  go_wp2_with fail
  refine(CK.out _).mono ?_
  rintro x w2 ⟨rfl,hb⟩
  have P2:=hid (P1.out.below hb)
  have X2:=hid (X1.out.below hb)
  have R2:=hid (R1.out.below hb)
  have B2:=hid (B1.out.trans (hb.mono (Nat.le_of_lt P1.out.1)))
  clear hb
  clear c0 c1 c2 c3 c4 c5 c6
  have c0:=X2.out.2.1 0 _ rfl
  have c1:=X2.out.2.1 1 _ rfl
  have c2:=X2.out.2.1 2 _ rfl
  have c3:=X2.out.2.1 3 _ rfl
  have c4:=X2.out.2.1 4 _ rfl
  have c5:=X2.out.2.1 5 _ rfl
  have c6:=X2.out.2.1 6 _ rfl
  have LP:=P2.out.iU
  go_wp2_with ((with_reducible refine ah ?_);refine cu rfl rfl rfl LP ?_)
  refine(BD.out _).mono ?_
  rintro x w3 ⟨rfl,hb⟩
  have P3:=hid (P2.out.below hb)
  have X3:=hid (X2.out.below hb)
  have R3:=hid (R2.out.below hb)
  have B3:=hid (B2.out.trans (hb.mono (Nat.le_of_lt P2.out.1)))
  clear hb
  clear c0 c1 c2 c3 c4 c5 c6 LP
  cases f
  ·have SR:=hid (R3.out.fv cm)
   go_upto_region 5 with (fail)
   go_wp2_with (first | ((with_reducible refine ah ?_);refine iE rfl rfl (lZ _) ?_) | ((with_reducible refine ah ?_);refine cE rfl rfl rfl rfl SR.out ?_;refine dZ rfl rfl ?_;refine aJ ?_;apply_assumption;refine wp_ret ?_;(repeat refine aI ?_);(show bodyPost _ _ _ _ _ _);refine bodyPost_ret (v:=.tuple #[.agg (PA cm),.int .i64 12]) (ez Tryz.results31 _ rfl rfl (R3.out.whole cm)) rfl ⟨by simp only[eq_self,if_true,cond_true,Bool.not_false];rw[if_neg (by decide)],by rw[HK.out];exact B3.out.trans (aH R (PA cm).toList 0 w3 P lR)⟩))
  have h6:k=1∨k=2∨k=3∨k=4∨k=5∨k=6:=by omega
  clear hk1 hk2 HC
  rcases h6 with rfl |rfl |rfl |rfl |rfl |rfl
  ·simp only[show ((1:Int)==5)=false from rfl,Bool.true_and,Bool.false_and]
   obtain ⟨sl,hsl⟩:∃sl,sl=p.s i:=⟨_,rfl⟩
   obtain ⟨st,ad,po,we,si⟩:=sl
   have HSL:=hid hsl
   have HQ:Hid (kP p ⟨1,(i:Int),a,q,m,⟨y1,y2⟩⟩=⟨p.v+1,p.a,p.p,dC p.s i ⟨1,a,q,m,0⟩,p.r⟩):=hid (by unfold kP jX;simp only[Int.toNat_natCast];rw[←hsl];rfl)
   clear hsl
   go_upto_region 6 with (fail)
   clear P1 X1 R1 B1 P2 X2 R2 B2 BD CK
   have c0:=X3.out.2.1 0 _ rfl
   refine wp_region_held_drew (S:=fun w'=>w'.cell? ⟨E,0,none⟩=some (.int .i64 1)) (by kernel_rfl) ?_ (fun hHeld=>?_)
   ·exact c0
   refine ae 0 (by assumption) ?_
   refine ae 1 (by assumption) ?_
   refine ae 2 (by assumption) ?_
   refine ae 3 (by assumption) ?_
   refine aW 4 (by assumption) ?_
   refine aW 5 (by assumption) ?_
   refine aW 6 (by assumption) ?_
   refine aW 7 (by assumption) ?_
   refine aW 8 (by assumption) ?_
   refine aW 9 (by assumption) ?_
   refine aW 10 (by assumption) ?_
   refine aW 11 (by assumption) ?_
   refine aW 12 (by assumption) ?_
   refine aW 13 (by assumption) ?_
   refine aW 14 (by assumption) ?_
   refine ae 15 (by assumption) ?_
   refine wpAnyH_done (by kernel_rfl) ?_ _
   clear hHeld c0
   have P4:=hid P3.out.drew
   have X4:=hid (show Ce w3.drew E [.int .i64 1,(i:Int),a,q,m,.int .u64 y1,.int .u64 y2] from X3.out)
   have R4:=hid R3.out.drew
   have B4:=hid B3.out.drew
   clear P3 X3 R3 B3
   go_upto_region 8 with (fail)
   generalize w3.drew=w4 at *
   have v0:=P4.out.c0
   have f0:=P4.out.2.2 0
   go_upto_region 9 with (fail)
   have P5:=hid (P4.out.ver (p.v+1))
   have X5:=hid (X4.out.i_ (c:=P) (j:=0) (v:=.int .i64 (p.v+1)) qx)
   have R5:=hid (R4.out.other (c:=P) (j:=0) (v:=.int .i64 (p.v+1)) mE)
   have B5:=hid (B4.out.setCell (p:=⟨P,0,none⟩) (Nat.le_refl _) (.int .i64 (p.v+1)))
   clear v0 f0 P4 X4 R4 B4
   generalize w4.setCell ⟨P,0,none⟩ (.int .i64 (p.v+1))=w5 at *
   have c1:=X5.out.2.1 1 _ rfl
   have LK:=P5.out.lp i h64
   try simp only at LK
   rw[←HSL.out]at LK
   unfold ik at LK
   try simp only at LK
   go_upto_region 10 with ((with_reducible refine ah ?_);refine cu rfl rfl rfl LK ?_)
   clear c1 LK
   have lV:P≤w5.heap.size:=Nat.le_of_lt P5.out.1
   have jv:w5.heap.size≠P:=Nat.ne_of_gt P5.out.1
   have jW:w5.heap.size≠E:=Nat.ne_of_gt X5.out.1
   have jV:w5.heap.size≠R:=Nat.ne_of_gt R5.out.1
   have P6:=hid (P5.out.alloc (.cells #[st,ad,po,we,si] 26))
   have X6:=hid (X5.out.alloc (.cells #[st,ad,po,we,si] 26))
   have R6:=hid (R5.out.alloc (.cells #[st,ad,po,we,si] 26))
   have CV:=hid (Ce.made (w:=w5) (l:=[st,ad,po,we,si]) (T:=26) (g:=w5.heap.size) rfl)
   have B6:=hid (B5.out.alloc lV (.cells #[st,ad,po,we,si] 26))
   clear P5 X5 R5 B5
   generalize w5.alloc (.cells #[st,ad,po,we,si] 26)=w6 at *
   generalize w5.heap.size=V at *
   have c0:=X6.out.2.1 0 _ rfl
   have c2:=X6.out.2.1 2 _ rfl
   have c3:=X6.out.2.1 3 _ rfl
   have c4:=X6.out.2.1 4 _ rfl
   have v0:=CV.out.2.1 0 _ rfl
   have g0:=CV.out.2.2 0
   have v1:=CV.out.2.1 1 _ rfl
   have g1:=CV.out.2.2 1
   have v2:=CV.out.2.1 2 _ rfl
   have g2:=CV.out.2.2 2
   have v3:=CV.out.2.1 3 _ rfl
   have g3:=CV.out.2.2 3
   have v4:=CV.out.2.1 4 _ rfl
   have g4:=CV.out.2.2 4
   have P8:=hid ((((((P6.out).other (c:=V) (j:=0) (v:=.int .i64 1) jv).other (c:=V) (j:=1) (v:=.int .i64 a) jv).other (c:=V) (j:=2) (v:=.int .i64 q) jv).other (c:=V) (j:=3) (v:=.int .i64 m) jv).other (c:=V) (j:=4) (v:=.int .i64 0) jv)
   have X8:=hid ((((((X6.out).i_ (c:=V) (j:=0) (v:=.int .i64 1) jW).i_ (c:=V) (j:=1) (v:=.int .i64 a) jW).i_ (c:=V) (j:=2) (v:=.int .i64 q) jW).i_ (c:=V) (j:=3) (v:=.int .i64 m) jW).i_ (c:=V) (j:=4) (v:=.int .i64 0) jW)
   have R8:=hid ((((((R6.out).other (c:=V) (j:=0) (v:=.int .i64 1) jV).other (c:=V) (j:=1) (v:=.int .i64 a) jV).other (c:=V) (j:=2) (v:=.int .i64 q) jV).other (c:=V) (j:=3) (v:=.int .i64 m) jV).other (c:=V) (j:=4) (v:=.int .i64 0) jV)
   have C8:=hid ((((((CV.out).set 0 (.int .i64 1) (by simp)).set 1 (.int .i64 a) (by simp)).set 2 (.int .i64 q) (by simp)).set 3 (.int .i64 m) (by simp)).set 4 (.int .i64 0) (by simp))
   have B8:=hid ((((((B6.out).setCell (p:=⟨V,0,none⟩) lV (.int .i64 1)).setCell (p:=⟨V,1,none⟩) lV (.int .i64 a)).setCell (p:=⟨V,2,none⟩) lV (.int .i64 q)).setCell (p:=⟨V,3,none⟩) lV (.int .i64 m)).setCell (p:=⟨V,4,none⟩) lV (.int .i64 0))
   go_upto_region 23 with (fail)
   clear c0 c2 c3 c4 v0 g0 v1 g1 v2 g2 v3 g3 v4 g4
   generalize (((((w6.setCell ⟨V,0,none⟩ (.int .i64 1)).setCell ⟨V,1,none⟩ (.int .i64 a)).setCell ⟨V,2,none⟩ (.int .i64 q)).setCell ⟨V,3,none⟩ (.int .i64 m)).setCell ⟨V,4,none⟩ (.int .i64 0))=w8 at *
   have c1:=X8.out.2.1 1 _ rfl
   have v0:=C8.out.2.1 0 _ rfl
   have v1:=C8.out.2.1 1 _ rfl
   have v2:=C8.out.2.1 2 _ rfl
   have v3:=C8.out.2.1 3 _ rfl
   have v4:=C8.out.2.1 4 _ rfl
   have SR:=hid (P8.out.mT i h64 ⟨1,a,q,m,0⟩)
   unfold ik at SR
   try simp only at SR
   have P9:=hid (P8.out.slot i h64 ⟨1,a,q,m,0⟩)
   try simp only at P9
   have R9:=hid (R8.out.others (c:=P) (o:=3+i*5) (vs:=[.int .i64 1,a,q,m,()]) mE)
   have B9:=hid (B8.out.trans (aH P [.int .i64 1,a,q,m,()] (3+i*5) w8 P (Nat.le_refl _)))
   go_upto_region 24 with ((with_reducible refine ah ?_);refine cE rfl rfl rfl rfl SR.out ?_)
   clear SR P8 X8 R8 B8 C8 c1 v0 v1 v2 v3 v4
   generalize w8.setCells P (3+i*5) [.int .i64 1,a,q,m,()]=w9 at *
   have LP:=P9.out.iU
   have SR:=hid (R9.out.fv ⟨p.v+1,p.a,p.p,dC p.s i ⟨1,a,q,m,0⟩,p.r⟩)
   go_wp2_with (first | ((with_reducible refine ah ?_);refine cu rfl rfl rfl LP ?_) | ((with_reducible refine ah ?_);refine cE rfl rfl rfl rfl SR.out ?_;refine dZ rfl rfl ?_;refine aJ ?_;apply_assumption;refine wp_ret ?_;(repeat refine aI ?_);(show bodyPost _ _ _ _ _ _);refine bodyPost_ret (v:=.tuple #[.agg (PA ⟨p.v+1,p.a,p.p,dC p.s i ⟨1,a,q,m,0⟩,p.r⟩),()]) (ez Tryz.results31 _ rfl rfl (R9.out.whole ⟨p.v+1,p.a,p.p,dC p.s i ⟨1,a,q,m,0⟩,p.r⟩)) rfl ⟨by simp only[eq_self,if_true,cond_false,Bool.not_true,Int.reduceBEq,Bool.false_and];rw[HQ.out],by rw[HK.out];exact B9.out.trans (aH R (PA ⟨p.v+1,p.a,p.p,dC p.s i ⟨1,a,q,m,0⟩,p.r⟩).toList 0 w9 P lR)⟩))
  ·simp only[show ((2:Int)==5)=false from rfl,Bool.true_and,Bool.false_and]
   obtain ⟨sl,hsl⟩:∃sl,sl=p.s i:=⟨_,rfl⟩
   obtain ⟨st,ad,po,we,si⟩:=sl
   have HSL:=hid hsl
   have HQ:Hid (kP p ⟨2,(i:Int),a,q,m,⟨y1,y2⟩⟩=⟨p.v+1,p.a,p.p,dC p.s i ⟨2,ad,po,we,si⟩,p.r⟩):=hid (by unfold kP jX;simp only[Int.toNat_natCast];rw[←hsl];rfl)
   clear hsl
   go_upto_region 6 with (fail)
   clear P1 X1 R1 B1 P2 X2 R2 B2 BD CK
   have c0:=X3.out.2.1 0 _ rfl
   refine wp_region_held_drew (S:=fun w'=>w'.cell? ⟨E,0,none⟩=some (.int .i64 2)) (by kernel_rfl) ?_ (fun hHeld=>?_)
   ·exact c0
   refine ae 0 (by assumption) ?_
   refine ae 1 (by assumption) ?_
   refine ae 2 (by assumption) ?_
   refine ae 3 (by assumption) ?_
   refine aW 4 (by assumption) ?_
   refine aW 5 (by assumption) ?_
   refine aW 6 (by assumption) ?_
   refine aW 7 (by assumption) ?_
   refine aW 8 (by assumption) ?_
   refine aW 9 (by assumption) ?_
   refine aW 10 (by assumption) ?_
   refine aW 11 (by assumption) ?_
   refine aW 12 (by assumption) ?_
   refine aW 13 (by assumption) ?_
   refine aW 14 (by assumption) ?_
   refine ae 15 (by assumption) ?_
   refine wpAnyH_done (by kernel_rfl) ?_ _
   clear hHeld c0
   have P4:=hid P3.out.drew
   have X4:=hid (show Ce w3.drew E [.int .i64 2,(i:Int),a,q,m,.int .u64 y1,.int .u64 y2] from X3.out)
   have R4:=hid R3.out.drew
   have B4:=hid B3.out.drew
   clear P3 X3 R3 B3
   go_upto_region 8 with (fail)
   generalize w3.drew=w4 at *
   have v0:=P4.out.c0
   have f0:=P4.out.2.2 0
   go_upto_region 9 with (fail)
   have P5:=hid (P4.out.ver (p.v+1))
   have X5:=hid (X4.out.i_ (c:=P) (j:=0) (v:=.int .i64 (p.v+1)) qx)
   have R5:=hid (R4.out.other (c:=P) (j:=0) (v:=.int .i64 (p.v+1)) mE)
   have B5:=hid (B4.out.setCell (p:=⟨P,0,none⟩) (Nat.le_refl _) (.int .i64 (p.v+1)))
   clear v0 f0 P4 X4 R4 B4
   generalize w4.setCell ⟨P,0,none⟩ (.int .i64 (p.v+1))=w5 at *
   have c1:=X5.out.2.1 1 _ rfl
   have LK:=P5.out.lp i h64
   try simp only at LK
   rw[←HSL.out]at LK
   unfold ik at LK
   try simp only at LK
   go_upto_region 10 with ((with_reducible refine ah ?_);refine cu rfl rfl rfl LK ?_)
   clear c1 LK
   have lV:P≤w5.heap.size:=Nat.le_of_lt P5.out.1
   have jv:w5.heap.size≠P:=Nat.ne_of_gt P5.out.1
   have jW:w5.heap.size≠E:=Nat.ne_of_gt X5.out.1
   have jV:w5.heap.size≠R:=Nat.ne_of_gt R5.out.1
   have P6:=hid (P5.out.alloc (.cells #[st,ad,po,we,si] 26))
   have X6:=hid (X5.out.alloc (.cells #[st,ad,po,we,si] 26))
   have R6:=hid (R5.out.alloc (.cells #[st,ad,po,we,si] 26))
   have CV:=hid (Ce.made (w:=w5) (l:=[st,ad,po,we,si]) (T:=26) (g:=w5.heap.size) rfl)
   have B6:=hid (B5.out.alloc lV (.cells #[st,ad,po,we,si] 26))
   clear P5 X5 R5 B5
   generalize w5.alloc (.cells #[st,ad,po,we,si] 26)=w6 at *
   generalize w5.heap.size=V at *
   have c0:=X6.out.2.1 0 _ rfl
   have c2:=X6.out.2.1 2 _ rfl
   have c3:=X6.out.2.1 3 _ rfl
   have c4:=X6.out.2.1 4 _ rfl
   have v0:=CV.out.2.1 0 _ rfl
   have g0:=CV.out.2.2 0
   have v1:=CV.out.2.1 1 _ rfl
   have g1:=CV.out.2.2 1
   have v2:=CV.out.2.1 2 _ rfl
   have g2:=CV.out.2.2 2
   have v3:=CV.out.2.1 3 _ rfl
   have g3:=CV.out.2.2 3
   have v4:=CV.out.2.1 4 _ rfl
   have g4:=CV.out.2.2 4
   have P8:=hid ((P6.out).other (c:=V) (j:=0) (v:=.int .i64 2) jv)
   have X8:=hid ((X6.out).i_ (c:=V) (j:=0) (v:=.int .i64 2) jW)
   have R8:=hid ((R6.out).other (c:=V) (j:=0) (v:=.int .i64 2) jV)
   have C8:=hid ((CV.out).set 0 (.int .i64 2) (by simp))
   have B8:=hid ((B6.out).setCell (p:=⟨V,0,none⟩) lV (.int .i64 2))
   go_upto_region 23 with (fail)
   clear c0 c2 c3 c4 v0 g0 v1 g1 v2 g2 v3 g3 v4 g4
   generalize (w6.setCell ⟨V,0,none⟩ (.int .i64 2))=w8 at *
   have c1:=X8.out.2.1 1 _ rfl
   have v0:=C8.out.2.1 0 _ rfl
   have v1:=C8.out.2.1 1 _ rfl
   have v2:=C8.out.2.1 2 _ rfl
   have v3:=C8.out.2.1 3 _ rfl
   have v4:=C8.out.2.1 4 _ rfl
   have SR:=hid (P8.out.mT i h64 ⟨2,ad,po,we,si⟩)
   unfold ik at SR
   try simp only at SR
   have P9:=hid (P8.out.slot i h64 ⟨2,ad,po,we,si⟩)
   try simp only at P9
   have R9:=hid (R8.out.others (c:=P) (o:=3+i*5) (vs:=[.int .i64 2,ad,po,we,si]) mE)
   have B9:=hid (B8.out.trans (aH P [.int .i64 2,ad,po,we,si] (3+i*5) w8 P (Nat.le_refl _)))
   go_upto_region 24 with ((with_reducible refine ah ?_);refine cE rfl rfl rfl rfl SR.out ?_)
   clear SR P8 X8 R8 B8 C8 c1 v0 v1 v2 v3 v4
   generalize w8.setCells P (3+i*5) [.int .i64 2,ad,po,we,si]=w9 at *
   have LP:=P9.out.iU
   have SR:=hid (R9.out.fv ⟨p.v+1,p.a,p.p,dC p.s i ⟨2,ad,po,we,si⟩,p.r⟩)
   go_wp2_with (first | ((with_reducible refine ah ?_);refine cu rfl rfl rfl LP ?_) | ((with_reducible refine ah ?_);refine cE rfl rfl rfl rfl SR.out ?_;refine dZ rfl rfl ?_;refine aJ ?_;apply_assumption;refine wp_ret ?_;(repeat refine aI ?_);(show bodyPost _ _ _ _ _ _);refine bodyPost_ret (v:=.tuple #[.agg (PA ⟨p.v+1,p.a,p.p,dC p.s i ⟨2,ad,po,we,si⟩,p.r⟩),()]) (ez Tryz.results31 _ rfl rfl (R9.out.whole ⟨p.v+1,p.a,p.p,dC p.s i ⟨2,ad,po,we,si⟩,p.r⟩)) rfl ⟨by simp only[eq_self,if_true,cond_false,Bool.not_true,Int.reduceBEq,Bool.false_and];rw[HQ.out],by rw[HK.out];exact B9.out.trans (aH R (PA ⟨p.v+1,p.a,p.p,dC p.s i ⟨2,ad,po,we,si⟩,p.r⟩).toList 0 w9 P lR)⟩))
  ·simp only[show ((3:Int)==5)=false from rfl,Bool.true_and,Bool.false_and]
   obtain ⟨sl,hsl⟩:∃sl,sl=p.s i:=⟨_,rfl⟩
   obtain ⟨st,ad,po,we,si⟩:=sl
   have HSL:=hid hsl
   have HQ:Hid (kP p ⟨3,(i:Int),a,q,m,⟨y1,y2⟩⟩=⟨p.v+1,p.a,p.p,dC p.s i ⟨3,ad,po,we,si⟩,p.r⟩):=hid (by unfold kP jX;simp only[Int.toNat_natCast];rw[←hsl];rfl)
   clear hsl
   go_upto_region 6 with (fail)
   clear P1 X1 R1 B1 P2 X2 R2 B2 BD CK
   have c0:=X3.out.2.1 0 _ rfl
   refine wp_region_held_drew (S:=fun w'=>w'.cell? ⟨E,0,none⟩=some (.int .i64 3)) (by kernel_rfl) ?_ (fun hHeld=>?_)
   ·exact c0
   refine ae 0 (by assumption) ?_
   refine ae 1 (by assumption) ?_
   refine ae 2 (by assumption) ?_
   refine ae 3 (by assumption) ?_
   refine aW 4 (by assumption) ?_
   refine aW 5 (by assumption) ?_
   refine aW 6 (by assumption) ?_
   refine aW 7 (by assumption) ?_
   refine aW 8 (by assumption) ?_
   refine aW 9 (by assumption) ?_
   refine aW 10 (by assumption) ?_
   refine aW 11 (by assumption) ?_
   refine aW 12 (by assumption) ?_
   refine aW 13 (by assumption) ?_
   refine aW 14 (by assumption) ?_
   refine ae 15 (by assumption) ?_
   refine wpAnyH_done (by kernel_rfl) ?_ _
   clear hHeld c0
   have P4:=hid P3.out.drew
   have X4:=hid (show Ce w3.drew E [.int .i64 3,(i:Int),a,q,m,.int .u64 y1,.int .u64 y2] from X3.out)
   have R4:=hid R3.out.drew
   have B4:=hid B3.out.drew
   clear P3 X3 R3 B3
   go_upto_region 8 with (fail)
   generalize w3.drew=w4 at *
   have v0:=P4.out.c0
   have f0:=P4.out.2.2 0
   go_upto_region 9 with (fail)
   have P5:=hid (P4.out.ver (p.v+1))
   have X5:=hid (X4.out.i_ (c:=P) (j:=0) (v:=.int .i64 (p.v+1)) qx)
   have R5:=hid (R4.out.other (c:=P) (j:=0) (v:=.int .i64 (p.v+1)) mE)
   have B5:=hid (B4.out.setCell (p:=⟨P,0,none⟩) (Nat.le_refl _) (.int .i64 (p.v+1)))
   clear v0 f0 P4 X4 R4 B4
   generalize w4.setCell ⟨P,0,none⟩ (.int .i64 (p.v+1))=w5 at *
   have c1:=X5.out.2.1 1 _ rfl
   have LK:=P5.out.lp i h64
   try simp only at LK
   rw[←HSL.out]at LK
   unfold ik at LK
   try simp only at LK
   go_upto_region 10 with ((with_reducible refine ah ?_);refine cu rfl rfl rfl LK ?_)
   clear c1 LK
   have lV:P≤w5.heap.size:=Nat.le_of_lt P5.out.1
   have jv:w5.heap.size≠P:=Nat.ne_of_gt P5.out.1
   have jW:w5.heap.size≠E:=Nat.ne_of_gt X5.out.1
   have jV:w5.heap.size≠R:=Nat.ne_of_gt R5.out.1
   have P6:=hid (P5.out.alloc (.cells #[st,ad,po,we,si] 26))
   have X6:=hid (X5.out.alloc (.cells #[st,ad,po,we,si] 26))
   have R6:=hid (R5.out.alloc (.cells #[st,ad,po,we,si] 26))
   have CV:=hid (Ce.made (w:=w5) (l:=[st,ad,po,we,si]) (T:=26) (g:=w5.heap.size) rfl)
   have B6:=hid (B5.out.alloc lV (.cells #[st,ad,po,we,si] 26))
   clear P5 X5 R5 B5
   generalize w5.alloc (.cells #[st,ad,po,we,si] 26)=w6 at *
   generalize w5.heap.size=V at *
   have c0:=X6.out.2.1 0 _ rfl
   have c2:=X6.out.2.1 2 _ rfl
   have c3:=X6.out.2.1 3 _ rfl
   have c4:=X6.out.2.1 4 _ rfl
   have v0:=CV.out.2.1 0 _ rfl
   have g0:=CV.out.2.2 0
   have v1:=CV.out.2.1 1 _ rfl
   have g1:=CV.out.2.2 1
   have v2:=CV.out.2.1 2 _ rfl
   have g2:=CV.out.2.2 2
   have v3:=CV.out.2.1 3 _ rfl
   have g3:=CV.out.2.2 3
   have v4:=CV.out.2.1 4 _ rfl
   have g4:=CV.out.2.2 4
   have P8:=hid ((P6.out).other (c:=V) (j:=0) (v:=.int .i64 3) jv)
   have X8:=hid ((X6.out).i_ (c:=V) (j:=0) (v:=.int .i64 3) jW)
   have R8:=hid ((R6.out).other (c:=V) (j:=0) (v:=.int .i64 3) jV)
   have C8:=hid ((CV.out).set 0 (.int .i64 3) (by simp))
   have B8:=hid ((B6.out).setCell (p:=⟨V,0,none⟩) lV (.int .i64 3))
   go_upto_region 23 with (fail)
   clear c0 c2 c3 c4 v0 g0 v1 g1 v2 g2 v3 g3 v4 g4
   generalize (w6.setCell ⟨V,0,none⟩ (.int .i64 3))=w8 at *
   have c1:=X8.out.2.1 1 _ rfl
   have v0:=C8.out.2.1 0 _ rfl
   have v1:=C8.out.2.1 1 _ rfl
   have v2:=C8.out.2.1 2 _ rfl
   have v3:=C8.out.2.1 3 _ rfl
   have v4:=C8.out.2.1 4 _ rfl
   have SR:=hid (P8.out.mT i h64 ⟨3,ad,po,we,si⟩)
   unfold ik at SR
   try simp only at SR
   have P9:=hid (P8.out.slot i h64 ⟨3,ad,po,we,si⟩)
   try simp only at P9
   have R9:=hid (R8.out.others (c:=P) (o:=3+i*5) (vs:=[.int .i64 3,ad,po,we,si]) mE)
   have B9:=hid (B8.out.trans (aH P [.int .i64 3,ad,po,we,si] (3+i*5) w8 P (Nat.le_refl _)))
   go_upto_region 24 with ((with_reducible refine ah ?_);refine cE rfl rfl rfl rfl SR.out ?_)
   clear SR P8 X8 R8 B8 C8 c1 v0 v1 v2 v3 v4
   generalize w8.setCells P (3+i*5) [.int .i64 3,ad,po,we,si]=w9 at *
   have LP:=P9.out.iU
   have SR:=hid (R9.out.fv ⟨p.v+1,p.a,p.p,dC p.s i ⟨3,ad,po,we,si⟩,p.r⟩)
   go_wp2_with (first | ((with_reducible refine ah ?_);refine cu rfl rfl rfl LP ?_) | ((with_reducible refine ah ?_);refine cE rfl rfl rfl rfl SR.out ?_;refine dZ rfl rfl ?_;refine aJ ?_;apply_assumption;refine wp_ret ?_;(repeat refine aI ?_);(show bodyPost _ _ _ _ _ _);refine bodyPost_ret (v:=.tuple #[.agg (PA ⟨p.v+1,p.a,p.p,dC p.s i ⟨3,ad,po,we,si⟩,p.r⟩),()]) (ez Tryz.results31 _ rfl rfl (R9.out.whole ⟨p.v+1,p.a,p.p,dC p.s i ⟨3,ad,po,we,si⟩,p.r⟩)) rfl ⟨by simp only[eq_self,if_true,cond_false,Bool.not_true,Int.reduceBEq,Bool.false_and];rw[HQ.out],by rw[HK.out];exact B9.out.trans (aH R (PA ⟨p.v+1,p.a,p.p,dC p.s i ⟨3,ad,po,we,si⟩,p.r⟩).toList 0 w9 P lR)⟩))
  ·simp only[show ((4:Int)==5)=false from rfl,Bool.true_and,Bool.false_and]
   obtain ⟨sl,hsl⟩:∃sl,sl=p.s i:=⟨_,rfl⟩
   obtain ⟨st,ad,po,we,si⟩:=sl
   have HSL:=hid hsl
   have HQ:Hid (kP p ⟨4,(i:Int),a,q,m,⟨y1,y2⟩⟩=⟨p.v+1,p.a,p.p,dC p.s i ⟨4,ad,po,we,p.r.e⟩,p.r⟩):=hid (by unfold kP jX;simp only[Int.toNat_natCast];rw[←hsl];rfl)
   clear hsl
   go_upto_region 6 with (fail)
   clear P1 X1 R1 B1 P2 X2 R2 B2 BD CK
   have c0:=X3.out.2.1 0 _ rfl
   refine wp_region_held_drew (S:=fun w'=>w'.cell? ⟨E,0,none⟩=some (.int .i64 4)) (by kernel_rfl) ?_ (fun hHeld=>?_)
   ·exact c0
   refine ae 0 (by assumption) ?_
   refine ae 1 (by assumption) ?_
   refine ae 2 (by assumption) ?_
   refine ae 3 (by assumption) ?_
   refine aW 4 (by assumption) ?_
   refine aW 5 (by assumption) ?_
   refine aW 6 (by assumption) ?_
   refine aW 7 (by assumption) ?_
   refine aW 8 (by assumption) ?_
   refine aW 9 (by assumption) ?_
   refine aW 10 (by assumption) ?_
   refine aW 11 (by assumption) ?_
   refine aW 12 (by assumption) ?_
   refine aW 13 (by assumption) ?_
   refine aW 14 (by assumption) ?_
   refine ae 15 (by assumption) ?_
   refine wpAnyH_done (by kernel_rfl) ?_ _
   clear hHeld c0
   have P4:=hid P3.out.drew
   have X4:=hid (show Ce w3.drew E [.int .i64 4,(i:Int),a,q,m,.int .u64 y1,.int .u64 y2] from X3.out)
   have R4:=hid R3.out.drew
   have B4:=hid B3.out.drew
   clear P3 X3 R3 B3
   go_upto_region 8 with (fail)
   generalize w3.drew=w4 at *
   have v0:=P4.out.c0
   have f0:=P4.out.2.2 0
   go_upto_region 9 with (fail)
   have P5:=hid (P4.out.ver (p.v+1))
   have X5:=hid (X4.out.i_ (c:=P) (j:=0) (v:=.int .i64 (p.v+1)) qx)
   have R5:=hid (R4.out.other (c:=P) (j:=0) (v:=.int .i64 (p.v+1)) mE)
   have B5:=hid (B4.out.setCell (p:=⟨P,0,none⟩) (Nat.le_refl _) (.int .i64 (p.v+1)))
   clear v0 f0 P4 X4 R4 B4
   generalize w4.setCell ⟨P,0,none⟩ (.int .i64 (p.v+1))=w5 at *
   have c1:=X5.out.2.1 1 _ rfl
   have LK:=P5.out.lp i h64
   try simp only at LK
   rw[←HSL.out]at LK
   unfold ik at LK
   try simp only at LK
   go_upto_region 10 with ((with_reducible refine ah ?_);refine cu rfl rfl rfl LK ?_)
   clear c1 LK
   have lV:P≤w5.heap.size:=Nat.le_of_lt P5.out.1
   have jv:w5.heap.size≠P:=Nat.ne_of_gt P5.out.1
   have jW:w5.heap.size≠E:=Nat.ne_of_gt X5.out.1
   have jV:w5.heap.size≠R:=Nat.ne_of_gt R5.out.1
   have P6:=hid (P5.out.alloc (.cells #[st,ad,po,we,si] 26))
   have X6:=hid (X5.out.alloc (.cells #[st,ad,po,we,si] 26))
   have R6:=hid (R5.out.alloc (.cells #[st,ad,po,we,si] 26))
   have CV:=hid (Ce.made (w:=w5) (l:=[st,ad,po,we,si]) (T:=26) (g:=w5.heap.size) rfl)
   have B6:=hid (B5.out.alloc lV (.cells #[st,ad,po,we,si] 26))
   clear P5 X5 R5 B5
   generalize w5.alloc (.cells #[st,ad,po,we,si] 26)=w6 at *
   generalize w5.heap.size=V at *
   have c0:=X6.out.2.1 0 _ rfl
   have c2:=X6.out.2.1 2 _ rfl
   have c3:=X6.out.2.1 3 _ rfl
   have c4:=X6.out.2.1 4 _ rfl
   have vB:w6.cell? ⟨P,323,none⟩=some (.int .i64 p.r.e):=P6.out.cr 0 (by omega)
   have v0:=CV.out.2.1 0 _ rfl
   have g0:=CV.out.2.2 0
   have v1:=CV.out.2.1 1 _ rfl
   have g1:=CV.out.2.2 1
   have v2:=CV.out.2.1 2 _ rfl
   have g2:=CV.out.2.2 2
   have v3:=CV.out.2.1 3 _ rfl
   have g3:=CV.out.2.2 3
   have v4:=CV.out.2.1 4 _ rfl
   have g4:=CV.out.2.2 4
   have P8:=hid (((P6.out).other (c:=V) (j:=0) (v:=.int .i64 4) jv).other (c:=V) (j:=4) (v:=.int .i64 p.r.e) jv)
   have X8:=hid (((X6.out).i_ (c:=V) (j:=0) (v:=.int .i64 4) jW).i_ (c:=V) (j:=4) (v:=.int .i64 p.r.e) jW)
   have R8:=hid (((R6.out).other (c:=V) (j:=0) (v:=.int .i64 4) jV).other (c:=V) (j:=4) (v:=.int .i64 p.r.e) jV)
   have C8:=hid (((CV.out).set 0 (.int .i64 4) (by simp)).set 4 (.int .i64 p.r.e) (by simp))
   have B8:=hid (((B6.out).setCell (p:=⟨V,0,none⟩) lV (.int .i64 4)).setCell (p:=⟨V,4,none⟩) lV (.int .i64 p.r.e))
   go_upto_region 18 with (fail)
   replace P8:=hid P8.out.drew
   replace X8:=hid (show Ce (((w6.setCell ⟨V,0,none⟩ (.int .i64 4)).setCell ⟨V,4,none⟩ (.int .i64 p.r.e))).drew E [.int .i64 4,(i:Int),a,q,m,.int .u64 y1,.int .u64 y2] from X8.out)
   replace R8:=hid R8.out.drew
   replace B8:=hid B8.out.drew
   replace C8:=hid (show Ce (((w6.setCell ⟨V,0,none⟩ (.int .i64 4)).setCell ⟨V,4,none⟩ (.int .i64 p.r.e))).drew V _ from C8.out)
   go_region
   all_goals go_upto_region 23 with (fail)
   all_goals clear c0 c2 c3 c4 v0 g0 v1 g1 v2 g2 v3 g3 v4 g4 vB
   all_goals generalize ((w6.setCell ⟨V,0,none⟩ (.int .i64 4)).setCell ⟨V,4,none⟩ (.int .i64 p.r.e)).drew=w8 at *
   all_goals
    have c1:=X8.out.2.1 1 _ rfl
    have v0:=C8.out.2.1 0 _ rfl
    have v1:=C8.out.2.1 1 _ rfl
    have v2:=C8.out.2.1 2 _ rfl
    have v3:=C8.out.2.1 3 _ rfl
    have v4:=C8.out.2.1 4 _ rfl
    have SR:=hid (P8.out.mT i h64 ⟨4,ad,po,we,p.r.e⟩)
    unfold ik at SR
    try simp only at SR
    have P9:=hid (P8.out.slot i h64 ⟨4,ad,po,we,p.r.e⟩)
    try simp only at P9
    have R9:=hid (R8.out.others (c:=P) (o:=3+i*5) (vs:=[.int .i64 4,ad,po,we,p.r.e]) mE)
    have B9:=hid (B8.out.trans (aH P [.int .i64 4,ad,po,we,p.r.e] (3+i*5) w8 P (Nat.le_refl _)))
    go_upto_region 24 with ((with_reducible refine ah ?_);refine cE rfl rfl rfl rfl SR.out ?_)
    clear SR P8 X8 R8 B8 C8 c1 v0 v1 v2 v3 v4
    generalize w8.setCells P (3+i*5) [.int .i64 4,ad,po,we,p.r.e]=w9 at *
    have LP:=P9.out.iU
    have SR:=hid (R9.out.fv ⟨p.v+1,p.a,p.p,dC p.s i ⟨4,ad,po,we,p.r.e⟩,p.r⟩)
    go_wp2_with (first | ((with_reducible refine ah ?_);refine cu rfl rfl rfl LP ?_) | ((with_reducible refine ah ?_);refine cE rfl rfl rfl rfl SR.out ?_;refine dZ rfl rfl ?_;refine aJ ?_;apply_assumption;refine wp_ret ?_;(repeat refine aI ?_);(show bodyPost _ _ _ _ _ _);refine bodyPost_ret (v:=.tuple #[.agg (PA ⟨p.v+1,p.a,p.p,dC p.s i ⟨4,ad,po,we,p.r.e⟩,p.r⟩),()]) (ez Tryz.results31 _ rfl rfl (R9.out.whole ⟨p.v+1,p.a,p.p,dC p.s i ⟨4,ad,po,we,p.r.e⟩,p.r⟩)) rfl ⟨by simp only[eq_self,if_true,cond_false,Bool.not_true,Int.reduceBEq,Bool.false_and];rw[HQ.out],by rw[HK.out];exact B9.out.trans (aH R (PA ⟨p.v+1,p.a,p.p,dC p.s i ⟨4,ad,po,we,p.r.e⟩,p.r⟩).toList 0 w9 P lR)⟩))
  ·simp only[show ((5:Int)==5)=true from rfl,Bool.true_and,Bool.false_and]
   cases d3:decide (p.r.e<(p.s i).si+3)
   ·obtain ⟨sl,hsl⟩:∃sl,sl=p.s i:=⟨_,rfl⟩
    obtain ⟨st,ad,po,we,si⟩:=sl
    have HSL:=hid hsl
    have HQ:Hid (kP p ⟨5,(i:Int),a,q,m,⟨y1,y2⟩⟩=⟨p.v+1,p.a,p.p,dC p.s i iD,p.r⟩):=hid (by unfold kP jX;simp only[Int.toNat_natCast];rw[←hsl];rfl)
    clear hsl
    go_upto_region 6 with (fail)
    clear P1 X1 R1 B1 P2 X2 R2 B2 BD CK
    have c0:=X3.out.2.1 0 _ rfl
    have c1:=X3.out.2.1 1 _ rfl
    have vB:w3.cell? ⟨P,323,none⟩=some (.int .i64 p.r.e):=P3.out.cr 0 (by omega)
    have Bp:w3.cell? ⟨P,3+i*5+4,none⟩=some (.int .i64 (p.s i).si):=P3.out.cs i 4 h64 (by omega)
    refine wp_region_held_drew (S:=fun w'=>w'.cell? ⟨E,0,none⟩=some (.int .i64 5)∧w'.cell? ⟨E,1,none⟩=some (.int .i64 (i:Int))∧w'.cell? ⟨P,323,none⟩=some (.int .i64 p.r.e)∧w'.cell? ⟨P,3+i*5+4,none⟩=some (.int .i64 (p.s i).si)) (by kernel_rfl) ?_ (fun hHeld=>?_)
    ·exact⟨c0,c1,vB,Bp⟩
    refine ae 0 (by assumption) ?_ (hy:=by intro w hSw;(try dsimp only at hSw);obtain ⟨s0,s1,s2,s3⟩:=hSw;go_simp;(try with_reducible rfl))
    refine ae 1 (by assumption) ?_ (hy:=by intro w hSw;(try dsimp only at hSw);obtain ⟨s0,s1,s2,s3⟩:=hSw;go_simp;(try with_reducible rfl))
    refine ae 2 (by assumption) ?_ (hy:=by intro w hSw;(try dsimp only at hSw);obtain ⟨s0,s1,s2,s3⟩:=hSw;go_simp;(try with_reducible rfl))
    refine ae 3 (by assumption) ?_ (hy:=by intro w hSw;(try dsimp only at hSw);obtain ⟨s0,s1,s2,s3⟩:=hSw;go_simp;(try with_reducible rfl))
    refine ae 4 (by assumption) ?_ (hy:=by intro w hSw;(try dsimp only at hSw);obtain ⟨s0,s1,s2,s3⟩:=hSw;go_simp;(try with_reducible rfl))
    refine ae 5 (by assumption) ?_ (hy:=by intro w hSw;(try dsimp only at hSw);obtain ⟨s0,s1,s2,s3⟩:=hSw;go_simp;(try with_reducible rfl))
    refine ae 6 (by assumption) ?_ (hy:=by intro w hSw;(try dsimp only at hSw);obtain ⟨s0,s1,s2,s3⟩:=hSw;go_simp;(try with_reducible rfl))
    refine ae 7 (by assumption) ?_ (hy:=by intro w hSw;(try dsimp only at hSw);obtain ⟨s0,s1,s2,s3⟩:=hSw;go_simp;(try with_reducible rfl))
    refine ae 8 (by assumption) ?_ (hy:=by intro w hSw;(try dsimp only at hSw);obtain ⟨s0,s1,s2,s3⟩:=hSw;go_simp;(try with_reducible rfl))
    refine ae 9 (by assumption) ?_ (hy:=by intro w hSw;(try dsimp only at hSw);obtain ⟨s0,s1,s2,s3⟩:=hSw;go_simp;(try with_reducible rfl))
    refine ae 10 (by assumption) ?_ (hy:=by intro w hSw;(try dsimp only at hSw);obtain ⟨s0,s1,s2,s3⟩:=hSw;go_simp;(try with_reducible rfl))
    refine ae 11 (by assumption) ?_ (hy:=by intro w hSw;(try dsimp only at hSw);obtain ⟨s0,s1,s2,s3⟩:=hSw;go_simp;(try with_reducible rfl))
    refine ae 12 (by assumption) ?_ (hy:=by intro w hSw;(try dsimp only at hSw);obtain ⟨s0,s1,s2,s3⟩:=hSw;go_simp;(try with_reducible rfl))
    refine ae 13 (by assumption) ?_ (hy:=by intro w hSw;(try dsimp only at hSw);obtain ⟨s0,s1,s2,s3⟩:=hSw;go_simp;(try with_reducible rfl))
    refine ae 14 (by assumption) ?_ (hy:=by intro w hSw;(try dsimp only at hSw);obtain ⟨s0,s1,s2,s3⟩:=hSw;go_simp;(try with_reducible rfl))
    refine ae 15 (by assumption) ?_ (hy:=by intro w hSw;(try dsimp only at hSw);obtain ⟨s0,s1,s2,s3⟩:=hSw;go_simp;(try with_reducible rfl))
    refine wpAnyH_done (by kernel_rfl) ?_ _
    clear hHeld c0 c1 vB Bp
    have P4:=hid P3.out.drew
    have X4:=hid (show Ce w3.drew E [.int .i64 5,(i:Int),a,q,m,.int .u64 y1,.int .u64 y2] from X3.out)
    have R4:=hid R3.out.drew
    have B4:=hid B3.out.drew
    clear P3 X3 R3 B3
    go_upto_region 8 with (fail)
    generalize w3.drew=w4 at *
    have v0:=P4.out.c0
    have f0:=P4.out.2.2 0
    go_upto_region 9 with (fail)
    have P5:=hid (P4.out.ver (p.v+1))
    have X5:=hid (X4.out.i_ (c:=P) (j:=0) (v:=.int .i64 (p.v+1)) qx)
    have R5:=hid (R4.out.other (c:=P) (j:=0) (v:=.int .i64 (p.v+1)) mE)
    have B5:=hid (B4.out.setCell (p:=⟨P,0,none⟩) (Nat.le_refl _) (.int .i64 (p.v+1)))
    clear v0 f0 P4 X4 R4 B4
    generalize w4.setCell ⟨P,0,none⟩ (.int .i64 (p.v+1))=w5 at *
    have c1:=X5.out.2.1 1 _ rfl
    have LK:=P5.out.lp i h64
    try simp only at LK
    rw[←HSL.out]at LK
    unfold ik at LK
    try simp only at LK
    go_upto_region 10 with ((with_reducible refine ah ?_);refine cu rfl rfl rfl LK ?_)
    clear c1 LK
    have lV:P≤w5.heap.size:=Nat.le_of_lt P5.out.1
    have jv:w5.heap.size≠P:=Nat.ne_of_gt P5.out.1
    have jW:w5.heap.size≠E:=Nat.ne_of_gt X5.out.1
    have jV:w5.heap.size≠R:=Nat.ne_of_gt R5.out.1
    have P6:=hid (P5.out.alloc (.cells #[st,ad,po,we,si] 26))
    have X6:=hid (X5.out.alloc (.cells #[st,ad,po,we,si] 26))
    have R6:=hid (R5.out.alloc (.cells #[st,ad,po,we,si] 26))
    have CV:=hid (Ce.made (w:=w5) (l:=[st,ad,po,we,si]) (T:=26) (g:=w5.heap.size) rfl)
    have B6:=hid (B5.out.alloc lV (.cells #[st,ad,po,we,si] 26))
    clear P5 X5 R5 B5
    generalize w5.alloc (.cells #[st,ad,po,we,si] 26)=w6 at *
    generalize w5.heap.size=V at *
    have c0:=X6.out.2.1 0 _ rfl
    have c2:=X6.out.2.1 2 _ rfl
    have c3:=X6.out.2.1 3 _ rfl
    have c4:=X6.out.2.1 4 _ rfl
    have v0:=CV.out.2.1 0 _ rfl
    have g0:=CV.out.2.2 0
    have v1:=CV.out.2.1 1 _ rfl
    have g1:=CV.out.2.2 1
    have v2:=CV.out.2.1 2 _ rfl
    have g2:=CV.out.2.2 2
    have v3:=CV.out.2.1 3 _ rfl
    have g3:=CV.out.2.2 3
    have v4:=CV.out.2.1 4 _ rfl
    have g4:=CV.out.2.2 4
    have P8:=hid ((((((P6.out).other (c:=V) (j:=0) (v:=.int .i64 0) jv).other (c:=V) (j:=1) (v:=.int .i64 0) jv).other (c:=V) (j:=2) (v:=.int .i64 0) jv).other (c:=V) (j:=3) (v:=.int .i64 0) jv).other (c:=V) (j:=4) (v:=.int .i64 0) jv)
    have X8:=hid ((((((X6.out).i_ (c:=V) (j:=0) (v:=.int .i64 0) jW).i_ (c:=V) (j:=1) (v:=.int .i64 0) jW).i_ (c:=V) (j:=2) (v:=.int .i64 0) jW).i_ (c:=V) (j:=3) (v:=.int .i64 0) jW).i_ (c:=V) (j:=4) (v:=.int .i64 0) jW)
    have R8:=hid ((((((R6.out).other (c:=V) (j:=0) (v:=.int .i64 0) jV).other (c:=V) (j:=1) (v:=.int .i64 0) jV).other (c:=V) (j:=2) (v:=.int .i64 0) jV).other (c:=V) (j:=3) (v:=.int .i64 0) jV).other (c:=V) (j:=4) (v:=.int .i64 0) jV)
    have C8:=hid ((((((CV.out).set 0 (.int .i64 0) (by simp)).set 1 (.int .i64 0) (by simp)).set 2 (.int .i64 0) (by simp)).set 3 (.int .i64 0) (by simp)).set 4 (.int .i64 0) (by simp))
    have B8:=hid ((((((B6.out).setCell (p:=⟨V,0,none⟩) lV (.int .i64 0)).setCell (p:=⟨V,1,none⟩) lV (.int .i64 0)).setCell (p:=⟨V,2,none⟩) lV (.int .i64 0)).setCell (p:=⟨V,3,none⟩) lV (.int .i64 0)).setCell (p:=⟨V,4,none⟩) lV (.int .i64 0))
    go_upto_region 23 with (fail)
    clear c0 c2 c3 c4 v0 g0 v1 g1 v2 g2 v3 g3 v4 g4
    generalize (((((w6.setCell ⟨V,0,none⟩ (.int .i64 0)).setCell ⟨V,1,none⟩ (.int .i64 0)).setCell ⟨V,2,none⟩ (.int .i64 0)).setCell ⟨V,3,none⟩ (.int .i64 0)).setCell ⟨V,4,none⟩ (.int .i64 0))=w8 at *
    have c1:=X8.out.2.1 1 _ rfl
    have v0:=C8.out.2.1 0 _ rfl
    have v1:=C8.out.2.1 1 _ rfl
    have v2:=C8.out.2.1 2 _ rfl
    have v3:=C8.out.2.1 3 _ rfl
    have v4:=C8.out.2.1 4 _ rfl
    have SR:=hid (P8.out.mT i h64 iD)
    unfold ik iD at SR
    try simp only at SR
    have P9:=hid (P8.out.slot i h64 iD)
    try simp only at P9
    unfold iD at P9
    try simp only at P9
    have R9:=hid (R8.out.others (c:=P) (o:=3+i*5) (vs:=[(),(),(),(),()]) mE)
    have B9:=hid (B8.out.trans (aH P [(),(),(),(),()] (3+i*5) w8 P (Nat.le_refl _)))
    go_upto_region 24 with ((with_reducible refine ah ?_);refine cE rfl rfl rfl rfl SR.out ?_)
    clear SR P8 X8 R8 B8 C8 c1 v0 v1 v2 v3 v4
    generalize w8.setCells P (3+i*5) [(),(),(),(),()]=w9 at *
    have Pd:=hid (show au w9 P ⟨p.v+1,p.a,p.p,dC p.s i iD,p.r⟩ from P9.out)
    clear P9
    have LP:=Pd.out.iU
    have SR:=hid (R9.out.fv ⟨p.v+1,p.a,p.p,dC p.s i iD,p.r⟩)
    go_wp2_with (first | ((with_reducible refine ah ?_);refine cu rfl rfl rfl LP ?_) | ((with_reducible refine ah ?_);refine cE rfl rfl rfl rfl SR.out ?_;refine dZ rfl rfl ?_;refine aJ ?_;apply_assumption;refine wp_ret ?_;(repeat refine aI ?_);(show bodyPost _ _ _ _ _ _);refine bodyPost_ret (v:=.tuple #[.agg (PA ⟨p.v+1,p.a,p.p,dC p.s i iD,p.r⟩),()]) (ez Tryz.results31 _ rfl rfl (R9.out.whole ⟨p.v+1,p.a,p.p,dC p.s i iD,p.r⟩)) rfl ⟨by simp only[eq_self,if_true,cond_false,Bool.not_true,Int.reduceBEq,d3,Bool.and_false];rw[HQ.out],by rw[HK.out];exact B9.out.trans (aH R (PA ⟨p.v+1,p.a,p.p,dC p.s i iD,p.r⟩).toList 0 w9 P lR)⟩))
   go_upto_region 6 with (fail)
   clear P1 X1 R1 B1 P2 X2 R2 B2 BD CK
   have c0:=X3.out.2.1 0 _ rfl
   have c1:=X3.out.2.1 1 _ rfl
   have vB:w3.cell? ⟨P,323,none⟩=some (.int .i64 p.r.e):=P3.out.cr 0 (by omega)
   have Bp:w3.cell? ⟨P,3+i*5+4,none⟩=some (.int .i64 (p.s i).si):=P3.out.cs i 4 h64 (by omega)
   refine wp_region_held_drew (S:=fun w'=>w'.cell? ⟨E,0,none⟩=some (.int .i64 5)∧w'.cell? ⟨E,1,none⟩=some (.int .i64 (i:Int))∧w'.cell? ⟨P,323,none⟩=some (.int .i64 p.r.e)∧w'.cell? ⟨P,3+i*5+4,none⟩=some (.int .i64 (p.s i).si)) (by kernel_rfl) ?_ (fun hHeld=>?_)
   ·exact⟨c0,c1,vB,Bp⟩
   refine ae 0 (by assumption) ?_ (hy:=by intro w hSw;(try dsimp only at hSw);obtain ⟨s0,s1,s2,s3⟩:=hSw;go_simp;(try with_reducible rfl))
   refine ae 1 (by assumption) ?_ (hy:=by intro w hSw;(try dsimp only at hSw);obtain ⟨s0,s1,s2,s3⟩:=hSw;go_simp;(try with_reducible rfl))
   refine ae 2 (by assumption) ?_ (hy:=by intro w hSw;(try dsimp only at hSw);obtain ⟨s0,s1,s2,s3⟩:=hSw;go_simp;(try with_reducible rfl))
   refine ae 3 (by assumption) ?_ (hy:=by intro w hSw;(try dsimp only at hSw);obtain ⟨s0,s1,s2,s3⟩:=hSw;go_simp;(try with_reducible rfl))
   refine ae 4 (by assumption) ?_ (hy:=by intro w hSw;(try dsimp only at hSw);obtain ⟨s0,s1,s2,s3⟩:=hSw;go_simp;(try with_reducible rfl))
   refine ae 5 (by assumption) ?_ (hy:=by intro w hSw;(try dsimp only at hSw);obtain ⟨s0,s1,s2,s3⟩:=hSw;go_simp;(try with_reducible rfl))
   refine ae 6 (by assumption) ?_ (hy:=by intro w hSw;(try dsimp only at hSw);obtain ⟨s0,s1,s2,s3⟩:=hSw;go_simp;(try with_reducible rfl))
   refine ae 7 (by assumption) ?_ (hy:=by intro w hSw;(try dsimp only at hSw);obtain ⟨s0,s1,s2,s3⟩:=hSw;go_simp;(try with_reducible rfl))
   refine ae 8 (by assumption) ?_ (hy:=by intro w hSw;(try dsimp only at hSw);obtain ⟨s0,s1,s2,s3⟩:=hSw;go_simp;(try with_reducible rfl))
   refine ae 9 (by assumption) ?_ (hy:=by intro w hSw;(try dsimp only at hSw);obtain ⟨s0,s1,s2,s3⟩:=hSw;go_simp;(try with_reducible rfl))
   refine ae 10 (by assumption) ?_ (hy:=by intro w hSw;(try dsimp only at hSw);obtain ⟨s0,s1,s2,s3⟩:=hSw;go_simp;(try with_reducible rfl))
   refine ae 11 (by assumption) ?_ (hy:=by intro w hSw;(try dsimp only at hSw);obtain ⟨s0,s1,s2,s3⟩:=hSw;go_simp;(try with_reducible rfl))
   refine ae 12 (by assumption) ?_ (hy:=by intro w hSw;(try dsimp only at hSw);obtain ⟨s0,s1,s2,s3⟩:=hSw;go_simp;(try with_reducible rfl))
   refine ae 13 (by assumption) ?_ (hy:=by intro w hSw;(try dsimp only at hSw);obtain ⟨s0,s1,s2,s3⟩:=hSw;go_simp;(try with_reducible rfl))
   refine ae 14 (by assumption) ?_ (hy:=by intro w hSw;(try dsimp only at hSw);obtain ⟨s0,s1,s2,s3⟩:=hSw;go_simp;(try with_reducible rfl))
   refine ae 15 (by assumption) ?_ (hy:=by intro w hSw;(try dsimp only at hSw);obtain ⟨s0,s1,s2,s3⟩:=hSw;go_simp;(try with_reducible rfl))
   refine wpAnyH_done (by kernel_rfl) ?_ _
   clear hHeld c0 c1 vB Bp
   have P4:=hid P3.out.drew
   have X4:=hid (show Ce w3.drew E [.int .i64 5,(i:Int),a,q,m,.int .u64 y1,.int .u64 y2] from X3.out)
   have R4:=hid R3.out.drew
   have B4:=hid B3.out.drew
   clear P3 X3 R3 B3
   go_upto_region 7 with (fail)
   generalize w3.drew=w4 at *
   have SR:=hid (R4.out.fv cm)
   go_wp2_with (first | ((with_reducible refine ah ?_);refine iE rfl rfl (lZ _) ?_) | ((with_reducible refine ah ?_);refine cE rfl rfl rfl rfl SR.out ?_;refine dZ rfl rfl ?_;refine aJ ?_;apply_assumption;refine wp_ret ?_;(repeat refine aI ?_);(show bodyPost _ _ _ _ _ _);refine bodyPost_ret (v:=.tuple #[.agg (PA cm),.int .i64 13]) (ez Tryz.results31 _ rfl rfl (R4.out.whole cm)) rfl ⟨by simp only[eq_self,if_true,cond_false,cond_true,Bool.not_true,Int.reduceBEq,Bool.true_and,d3];rw[if_neg (by decide)],by rw[HK.out];exact B4.out.trans (aH R (PA cm).toList 0 w4 P lR)⟩))
  simp only[show ((6:Int)==5)=false from rfl,Bool.true_and,Bool.false_and]
  obtain ⟨sl,hsl⟩:∃sl,sl=p.s i:=⟨_,rfl⟩
  obtain ⟨st,ad,po,we,si⟩:=sl
  have HSL:=hid hsl
  have HQ:Hid (kP p ⟨6,(i:Int),a,q,m,⟨y1,y2⟩⟩=⟨p.v+1,p.a,p.p,dC p.s i ⟨st,ad,po,we,si⟩,⟨p.r.e+1,p.r.c,p.r.n,⟨y1,y2⟩⟩⟩):=hid (by have h0:i=0:=(by have:=hr0.out rfl;omega);rw[hsl,zH];rfl)
  clear hsl
  go_upto_region 6 with (fail)
  clear P1 X1 R1 B1 P2 X2 R2 B2 BD CK
  have c0:=X3.out.2.1 0 _ rfl
  refine wp_region_held_drew (S:=fun w'=>w'.cell? ⟨E,0,none⟩=some (.int .i64 6)) (by kernel_rfl) ?_ (fun hHeld=>?_)
  ·exact c0
  refine ae 0 (by assumption) ?_
  refine ae 1 (by assumption) ?_
  refine ae 2 (by assumption) ?_
  refine ae 3 (by assumption) ?_
  refine aW 4 (by assumption) ?_
  refine aW 5 (by assumption) ?_
  refine aW 6 (by assumption) ?_
  refine aW 7 (by assumption) ?_
  refine aW 8 (by assumption) ?_
  refine aW 9 (by assumption) ?_
  refine aW 10 (by assumption) ?_
  refine aW 11 (by assumption) ?_
  refine aW 12 (by assumption) ?_
  refine aW 13 (by assumption) ?_
  refine aW 14 (by assumption) ?_
  refine ae 15 (by assumption) ?_
  refine wpAnyH_done (by kernel_rfl) ?_ _
  clear hHeld c0
  have P4:=hid P3.out.drew
  have X4:=hid (show Ce w3.drew E [.int .i64 6,(i:Int),a,q,m,.int .u64 y1,.int .u64 y2] from X3.out)
  have R4:=hid R3.out.drew
  have B4:=hid B3.out.drew
  clear P3 X3 R3 B3
  go_upto_region 8 with (fail)
  generalize w3.drew=w4 at *
  have v0:=P4.out.c0
  have f0:=P4.out.2.2 0
  go_upto_region 9 with (fail)
  have P5:=hid (P4.out.ver (p.v+1))
  have X5:=hid (X4.out.i_ (c:=P) (j:=0) (v:=.int .i64 (p.v+1)) qx)
  have R5:=hid (R4.out.other (c:=P) (j:=0) (v:=.int .i64 (p.v+1)) mE)
  have B5:=hid (B4.out.setCell (p:=⟨P,0,none⟩) (Nat.le_refl _) (.int .i64 (p.v+1)))
  clear v0 f0 P4 X4 R4 B4
  generalize w4.setCell ⟨P,0,none⟩ (.int .i64 (p.v+1))=w5 at *
  have c1:=X5.out.2.1 1 _ rfl
  have LK:=P5.out.lp i h64
  try simp only at LK
  rw[←HSL.out]at LK
  unfold ik at LK
  try simp only at LK
  go_upto_region 10 with ((with_reducible refine ah ?_);refine cu rfl rfl rfl LK ?_)
  clear c1 LK
  have lV:P≤w5.heap.size:=Nat.le_of_lt P5.out.1
  have jv:w5.heap.size≠P:=Nat.ne_of_gt P5.out.1
  have jW:w5.heap.size≠E:=Nat.ne_of_gt X5.out.1
  have jV:w5.heap.size≠R:=Nat.ne_of_gt R5.out.1
  have P6:=hid (P5.out.alloc (.cells #[st,ad,po,we,si] 26))
  have X6:=hid (X5.out.alloc (.cells #[st,ad,po,we,si] 26))
  have R6:=hid (R5.out.alloc (.cells #[st,ad,po,we,si] 26))
  have CV:=hid (Ce.made (w:=w5) (l:=[st,ad,po,we,si]) (T:=26) (g:=w5.heap.size) rfl)
  have B6:=hid (B5.out.alloc lV (.cells #[st,ad,po,we,si] 26))
  clear P5 X5 R5 B5
  generalize w5.alloc (.cells #[st,ad,po,we,si] 26)=w6 at *
  generalize w5.heap.size=V at *
  have c0:=X6.out.2.1 0 _ rfl
  have c2:=X6.out.2.1 2 _ rfl
  have c3:=X6.out.2.1 3 _ rfl
  have c4:=X6.out.2.1 4 _ rfl
  have c5:=X6.out.2.1 5 _ rfl
  have c6:=X6.out.2.1 6 _ rfl
  have v0:=CV.out.2.1 0 _ rfl
  have g0:=CV.out.2.2 0
  have v1:=CV.out.2.1 1 _ rfl
  have g1:=CV.out.2.2 1
  have v2:=CV.out.2.1 2 _ rfl
  have g2:=CV.out.2.2 2
  have v3:=CV.out.2.1 3 _ rfl
  have g3:=CV.out.2.2 3
  have v4:=CV.out.2.1 4 _ rfl
  have g4:=CV.out.2.2 4
  have LR:=P6.out.Kw
  try simp only at LR
  unfold fE at LR
  go_wp2_with ((with_reducible refine ah ?_);refine cu rfl rfl rfl LR ?_)
  refine(NX.out _).mono ?_
  rintro x w7 ⟨rfl,hb⟩
  clear c0 c2 c3 c4 v0 g0 v1 g1 v2 g2 v3 g3 v4 g4 c5 c6
  have P7:=hid (P6.out.below hb)
  have X7:=hid (X6.out.below hb)
  have R7:=hid (R6.out.below hb)
  have C7:=hid (CV.out.below hb)
  have B7:=hid (B6.out.trans (hb.mono (Nat.le_of_lt P6.out.1)))
  clear hb LR P6 X6 R6 CV B6
  have SR:=hid (P7.out.GV ⟨p.r.e+1,p.r.c,p.r.n,⟨y1,y2⟩⟩)
  have P8:=hid (P7.out.ring ⟨p.r.e+1,p.r.c,p.r.n,⟨y1,y2⟩⟩)
  have X8:=hid (X7.out.sQ (c:=P) (o:=323) (vs:=[.int .i64 (p.r.e+1),.int .u64 p.r.c.a,.int .u64 p.r.c.b,.int .u64 p.r.n.a,.int .u64 p.r.n.b,.int .u64 y1,.int .u64 y2]) qx)
  have R8:=hid (R7.out.others (c:=P) (o:=323) (vs:=[.int .i64 (p.r.e+1),.int .u64 p.r.c.a,.int .u64 p.r.c.b,.int .u64 p.r.n.a,.int .u64 p.r.n.b,.int .u64 y1,.int .u64 y2]) mE)
  have C8:=hid (C7.out.sQ (c:=P) (o:=323) (vs:=[.int .i64 (p.r.e+1),.int .u64 p.r.c.a,.int .u64 p.r.c.b,.int .u64 p.r.n.a,.int .u64 p.r.n.b,.int .u64 y1,.int .u64 y2]) (Ne.symm jv))
  have B8:=hid (B7.out.trans (aH P [.int .i64 (p.r.e+1),.int .u64 p.r.c.a,.int .u64 p.r.c.b,.int .u64 p.r.n.a,.int .u64 p.r.n.b,.int .u64 y1,.int .u64 y2] 323 w7 P (Nat.le_refl _)))
  go_upto_region 23 with ((with_reducible refine ah ?_);refine cE rfl rfl rfl rfl SR.out ?_)
  clear SR P7 X7 R7 B7 C7
  try simp only at P8
  generalize w7.setCells P 323 [.int .i64 (p.r.e+1),.int .u64 p.r.c.a,.int .u64 p.r.c.b,.int .u64 p.r.n.a,.int .u64 p.r.n.b,.int .u64 y1,.int .u64 y2]=w8 at *
  have c1:=X8.out.2.1 1 _ rfl
  have v0:=C8.out.2.1 0 _ rfl
  have v1:=C8.out.2.1 1 _ rfl
  have v2:=C8.out.2.1 2 _ rfl
  have v3:=C8.out.2.1 3 _ rfl
  have v4:=C8.out.2.1 4 _ rfl
  have SR:=hid (P8.out.mT i h64 ⟨st,ad,po,we,si⟩)
  unfold ik at SR
  try simp only at SR
  have P9:=hid (P8.out.slot i h64 ⟨st,ad,po,we,si⟩)
  try simp only at P9
  have R9:=hid (R8.out.others (c:=P) (o:=3+i*5) (vs:=[st,ad,po,we,si]) mE)
  have B9:=hid (B8.out.trans (aH P [st,ad,po,we,si] (3+i*5) w8 P (Nat.le_refl _)))
  go_upto_region 24 with ((with_reducible refine ah ?_);refine cE rfl rfl rfl rfl SR.out ?_)
  clear SR P8 X8 R8 B8 C8 c1 v0 v1 v2 v3 v4
  generalize w8.setCells P (3+i*5) [st,ad,po,we,si]=w9 at *
  have LP:=P9.out.iU
  have SR:=hid (R9.out.fv ⟨p.v+1,p.a,p.p,dC p.s i ⟨st,ad,po,we,si⟩,⟨p.r.e+1,p.r.c,p.r.n,⟨y1,y2⟩⟩⟩)
  go_wp2_with (first | ((with_reducible refine ah ?_);refine cu rfl rfl rfl LP ?_) | ((with_reducible refine ah ?_);refine cE rfl rfl rfl rfl SR.out ?_;refine dZ rfl rfl ?_;refine aJ ?_;apply_assumption;refine wp_ret ?_;(repeat refine aI ?_);(show bodyPost _ _ _ _ _ _);refine bodyPost_ret (v:=.tuple #[.agg (PA ⟨p.v+1,p.a,p.p,dC p.s i ⟨st,ad,po,we,si⟩,⟨p.r.e+1,p.r.c,p.r.n,⟨y1,y2⟩⟩⟩),()]) (ez Tryz.results31 _ rfl rfl (R9.out.whole ⟨p.v+1,p.a,p.p,dC p.s i ⟨st,ad,po,we,si⟩,⟨p.r.e+1,p.r.c,p.r.n,⟨y1,y2⟩⟩⟩)) rfl ⟨by simp only[eq_self,if_true,cond_false,Bool.not_true,Int.reduceBEq,Bool.false_and];rw[HQ.out],by rw[HK.out];exact B9.out.trans (aH R (PA ⟨p.v+1,p.a,p.p,dC p.s i ⟨st,ad,po,we,si⟩,⟨p.r.e+1,p.r.c,p.r.n,⟨y1,y2⟩⟩⟩).toList 0 w9 P lR)⟩))
 go_enter Tryz.func31,Tryz.ntmps31
 go_upto_region 1 with (fail)
 have P1:=hid (((au.made (w:=w) (p:=p) (T:=34) rfl).alloc (.cells #[k,s,a,q,m,.int .u64 y1,.int .u64 y2] 77)).alloc (.cells (PA cm) 34))
 have CX:=hid ((Ce.made (w:=w.alloc (.cells (PA p) 34)) (l:=[k,s,a,q,m,.int .u64 y1,.int .u64 y2]) (T:=77) (g:=w.heap.size+1) (by simp)).alloc (.cells (PA cm) 34))
 have R1:=hid (au.made (w:=((w.alloc (.cells (PA p) 34)).alloc (.cells #[k,s,a,q,m,.int .u64 y1,.int .u64 y2] 77))) (p:=cm) (T:=34) (g:=w.heap.size+1+1) (by simp))
 have HB:=hid ((((Below.refl w.heap.size w).alloc (Nat.le_refl _) (.cells (PA p) 34)).alloc (by simp) (.cells #[k,s,a,q,m,.int .u64 y1,.int .u64 y2] 77)).alloc (by simp;omega) (.cells (PA cm) 34))
 have lR:w.heap.size≤w.heap.size+1+1:=by omega
 have vz:w.heap.size+1+1≠w.heap.size:=by omega
 have Jc:w.heap.size+1+1≠w.heap.size+1:=by omega
 have qx:w.heap.size≠w.heap.size+1:=by omega
 have mE:=Ne.symm vz
 have OH:=Ne.symm Jc
 have OI:=Ne.symm qx
 generalize (((w.alloc (.cells (PA p) 34)).alloc (.cells #[k,s,a,q,m,.int .u64 y1,.int .u64 y2] 77))).alloc (.cells (PA cm) 34)=w1 at *
 generalize w.heap.size+1+1=R at *
 generalize w.heap.size+1=E at *
 generalize hK:w.heap.size=P at *
 have HK:=hid hK
 clear hK
 have X1:=hid CX.out
 have B1:=hid HB.out
 clear CX HB
 have c0:=X1.out.2.1 0 _ rfl
 have c1:=X1.out.2.1 1 _ rfl
 have c2:=X1.out.2.1 2 _ rfl
 have c3:=X1.out.2.1 3 _ rfl
 have c4:=X1.out.2.1 4 _ rfl
 have c5:=X1.out.2.1 5 _ rfl
 have c6:=X1.out.2.1 6 _ rfl
 go_wp2_with fail
 refine(CK.out _).mono ?_
 rintro x w2 ⟨rfl,hb⟩
 have P2:=hid (P1.out.below hb)
 have X2:=hid (X1.out.below hb)
 have R2:=hid (R1.out.below hb)
 have B2:=hid (B1.out.trans (hb.mono (Nat.le_of_lt P1.out.1)))
 clear hb
 clear c0 c1 c2 c3 c4 c5 c6
 have SR:=hid (R2.out.fv cm)
 go_upto_region 3 with (fail)
 go_wp2_with (first | ((with_reducible refine ah ?_);refine iE rfl rfl (lZ _) ?_) | ((with_reducible refine ah ?_);refine cE rfl rfl rfl rfl SR.out ?_;refine dZ rfl rfl ?_;refine aJ ?_;apply_assumption;refine wp_ret ?_;(repeat refine aI ?_);(show bodyPost _ _ _ _ _ _);refine bodyPost_ret (v:=.tuple #[.agg (PA cm),c]) (ez Tryz.results31 _ rfl rfl (R2.out.whole cm)) rfl ⟨by have hc1:¬c=0:=(by simpa using bc);rw[if_neg hc1],by rw[HK.out];exact B2.out.trans (aH R (PA cm).toList 0 w2 P lR)⟩))
end Go.Proofs.YtalnfkijiehjhaaGreat
