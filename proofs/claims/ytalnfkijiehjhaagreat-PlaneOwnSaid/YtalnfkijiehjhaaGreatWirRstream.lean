/- The reference's Parse of a stream. -/
import Derived.Test.YtalnfkijiehjhaaGreatGa
import Derived.Test.YtalnfkijiehjhaaGreatWrf
import Derived.BigQuiet
import Derived.Deep.RegionHeld3
import Derived.Deep.Cut
namespace Go.Proofs.YtalnfkijiehjhaaGreat
open List renaming setIfInBounds_toArray→zA,set_cons_zero→zB,set_cons_succ→zC
set_option linter.unusedVariables false
set_option linter.unusedSimpArgs false
open Go.RowKit Go.ChangeShapes Go.WideShapes Go.ChangeAt
def Gy (w:World)(g:Nat→Int)(n:Nat)(e:Ending)(w':World):Prop:=
 ∃O D:Value,e =.returned (.tuple #[ct (ax g n) O D,(az g n)])∧OB w' w.heap.size O (ax g n).no (ax g n).go∧OB w' w.heap.size D (ax g n).nd (ax g n).gd∧(∀b,O.ownBlock=some b→D.ownBlock≠some b)∧Below w.heap.size w w'
theorem qQH{P:Prop}(h:P:=by
 have HR:Hid (ax g n ={}):=hid (by unfold ax;rw[hE,if_neg (by decide)])
 have HE:=hid hE
 clear hE
 clear j7 sa k3
 have z0:=R2.out.2.1 0 _ rfl
 have z1:=R2.out.2.1 1 _ rfl
 have z2:=R2.out.2.1 2 _ rfl
 have z3:=R2.out.2.1 3 _ rfl
 have z4:=R2.out.2.1 4 _ rfl
 have z5:=R2.out.2.1 5 _ rfl
 have z6:=R2.out.2.1 6 _ rfl
 have z7:=R2.out.2.1 7 _ rfl
 have z8:=R2.out.2.1 8 _ rfl
 have z9:=R2.out.2.1 9 _ rfl
 have kB:=R2.out.2.1 10 _ rfl
 have kz:=R2.out.2.1 11 _ rfl
 have z12:=R2.out.2.1 12 _ rfl
 have zf:=R2.out.2.2
 have zl:=R2.out.1
 go_wp2_with fail
 have CE:=Ce.s13 R2.out (.int .i64 0) (.int .i64 0) (.int .i64 0) (.int .i64 0) (.int .i64 0) (.int .i64 0) (.int .i64 0) (.int .i64 0) (.int .i64 0) (.bool false) (.int .i64 0) (.slice none 0 0) (.slice none 0 0)
 have BE:=dz (b:=w.heap.size) D2.out (Nat.le_refl _) (.int .i64 0) (.int .i64 0) (.int .i64 0) (.int .i64 0) (.int .i64 0) (.int .i64 0) (.int .i64 0) (.int .i64 0) (.int .i64 0) (.bool false) (.int .i64 0) (.slice none 0 0) (.slice none 0 0)
 unfold cK at CE BE
 replace CE:=hid CE
 replace BE:=hid BE
 refine cV (fun w'=>Ce w' w.heap.size [(),(),(),(),(),(),(),(),(),false,(),.slice none 0 0,.slice none 0 0]∧Below w.heap.size w w') ⟨CE.out,BE.out⟩ (fun wf hwf=>?_)
 obtain ⟨hc2,hbf⟩:=hwf
 have x0:=hc2.2.1 0 _ rfl
 have x1:=hc2.2.1 1 _ rfl
 have x2:=hc2.2.1 2 _ rfl
 have x3:=hc2.2.1 3 _ rfl
 have x4:=hc2.2.1 4 _ rfl
 have x5:=hc2.2.1 5 _ rfl
 have x6:=hc2.2.1 6 _ rfl
 have x7:=hc2.2.1 7 _ rfl
 have x8:=hc2.2.1 8 _ rfl
 have x9:=hc2.2.1 9 _ rfl
 have gj:=hc2.2.1 10 _ rfl
 have gi:=hc2.2.1 11 _ rfl
 have gg:=hc2.2.1 12 _ rfl
 refine bodyPost_ret (v:=.tuple #[ct {} (.slice none 0 0) (.slice none 0 0),.int .i64 5]) (by simp[results,Tryz.results19,go_sem,ct,de,x0,x1,x2,x3,x4,x5,x6,x7,x8,x9,gj,gi,gg]) rfl ?_
 exact⟨.slice none 0 0,.slice none 0 0,by rw[HR.out,HE.out],by rw[HR.out];exact OB.nil,by rw[HR.out];exact OB.nil,(fun b h=>by cases h),hbf⟩
 ):P:=h
theorem qQX{P:Prop}(h:P:=by
 refine hK.out _ _ na (fun _=>?_)
 clear hK
 try simp only[Act.put,zA,zB,zC]
 have CC:=hid wa
 have y0:=CC.out.2.1 0 _ rfl
 have y1:=CC.out.2.1 1 _ rfl
 have y2:=CC.out.2.1 2 _ rfl
 have y3:=CC.out.2.1 3 _ rfl
 have y4:=CC.out.2.1 4 _ rfl
 have y5:=CC.out.2.1 5 _ rfl
 have y6:=CC.out.2.1 6 _ rfl
 have y7:=CC.out.2.1 7 _ rfl
 have y8:=CC.out.2.1 8 _ rfl
 have y9:=CC.out.2.1 9 _ rfl
 have al:=CC.out.2.1 10 _ rfl
 have ak:=CC.out.2.1 11 _ rfl
 have aj:=CC.out.2.1 12 _ rfl
 have yf:=CC.out.2.2
 have yl:=CC.out.1
 have HH:=hid na
 refine only 17 rfl (by kernel_rfl) rfl (fun K hK=>?_)
 go_simp
 refine hK.out _ _ ⟨bT HH.out.1 (gs 7 (.int .i64 (g 20)) (World.grownBy.refl eB (some L))) hBlt,HH.out.2.1.grown (gs 7 (.int .i64 (g 20)) (World.grownBy.refl eB (some L))) (fun e=>eI (by injection e)),(HH.out.2.2).setCell (p:=⟨L,7,none⟩) (Nat.le_of_lt hL) (.int .i64 (g 20))⟩ (fun hN0=>?_)
 clear hK
 try simp only[Act.put,zA,zB,zC]
 refine ae 18 hN0 ?_
 clear hN0
 refine only 19 rfl (by kernel_rfl) rfl (fun K hK=>?_)
 go_simp
 refine hK.out _ _ ⟨bT HH.out.1 (gs 11 (.slice A9 q c9) (gs 7 (.int .i64 (g 20)) (World.grownBy.refl eB (some L)))) hBlt,HH.out.2.1.grown (gs 11 (.slice A9 q c9) (gs 7 (.int .i64 (g 20)) (World.grownBy.refl eB (some L)))) (fun e=>eI (by injection e)),((HH.out.2.2).setCell (p:=⟨L,7,none⟩) (Nat.le_of_lt hL) (.int .i64 (g 20))).setCell (p:=⟨L,11,none⟩) (Nat.le_of_lt hL) (.slice A9 q c9)⟩ (fun hN1=>?_)
 clear hK
 try simp only[Act.put,zA,zB,zC]
 refine ae 20 hN1 ?_
 clear hN1
 refine only 21 rfl (by kernel_rfl) rfl (fun K hK=>?_)
 go_simp
 refine hK.out _ _ ⟨bT HH.out.1 (gs 12 (.slice dJ (n-24-q) c15) (gs 11 (.slice A9 q c9) (gs 7 (.int .i64 (g 20)) (World.grownBy.refl eB (some L))))) hBlt,HH.out.2.1.grown (gs 12 (.slice dJ (n-24-q) c15) (gs 11 (.slice A9 q c9) (gs 7 (.int .i64 (g 20)) (World.grownBy.refl eB (some L))))) (fun e=>eI (by injection e)),(((HH.out.2.2).setCell (p:=⟨L,7,none⟩) (Nat.le_of_lt hL) (.int .i64 (g 20))).setCell (p:=⟨L,11,none⟩) (Nat.le_of_lt hL) (.slice A9 q c9)).setCell (p:=⟨L,12,none⟩) (Nat.le_of_lt hL) (.slice dJ (n-24-q) c15)⟩ (fun mC=>?_)
 clear hK
 try simp only[Act.put,zA,zB,zC]
 refine wpAnyH_done (by kernel_rfl) ?_ _
 have bR:=hid ((((CC.out).set 7 (.int .i64 (g 20)) (by simp)).set 11 (.slice A9 q c9) (by simp)).set 12 (.slice dJ (n-24-q) c15) (by simp))
 have bG:=hid (HH.out.2.1.grown (gs 12 (.slice dJ (n-24-q) c15) (gs 11 (.slice A9 q c9) (gs 7 (.int .i64 (g 20)) (World.grownBy.refl eB (some L))))) (fun e=>eI (by injection e)))
 have pP:=hid ((((HH.out.2.2).setCell (p:=⟨L,7,none⟩) (Nat.le_of_lt hL) (.int .i64 (g 20))).setCell (p:=⟨L,11,none⟩) (Nat.le_of_lt hL) (.slice A9 q c9)).setCell (p:=⟨L,12,none⟩) (Nat.le_of_lt hL) (.slice dJ (n-24-q) c15))
 have k5:=hid (OB.grown o9 (gs 12 (.slice dJ (n-24-q) c15) (gs 11 (.slice A9 q c9) (gs 7 (.int .i64 (g 20)) (World.grownBy.refl eB (some L))))) (OB.ne o9 l4))
 have uc:=hid (OB.grown tI (gs 12 (.slice dJ (n-24-q) c15) (gs 11 (.slice A9 q c9) (gs 7 (.int .i64 (g 20)) (World.grownBy.refl eB (some L))))) (OB.ne tI l10))
 clear mC
 clear y0 y1 y2 y3 y4 y5 y6 y7 y8 y9 al ak aj yf yl
 generalize (((eB.setCell ⟨L,7,none⟩ (.int .i64 (g 20))).setCell ⟨L,11,none⟩ (.slice A9 q c9)).setCell ⟨L,12,none⟩ (.slice dJ (n-24-q) c15))=w8 at *
 have y0:=bR.out.2.1 0 _ rfl
 have y1:=bR.out.2.1 1 _ rfl
 have y2:=bR.out.2.1 2 _ rfl
 have y3:=bR.out.2.1 3 _ rfl
 have y4:=bR.out.2.1 4 _ rfl
 have y5:=bR.out.2.1 5 _ rfl
 have y6:=bR.out.2.1 6 _ rfl
 have y7:=bR.out.2.1 7 _ rfl
 have y8:=bR.out.2.1 8 _ rfl
 have y9:=bR.out.2.1 9 _ rfl
 have al:=bR.out.2.1 10 _ rfl
 have ak:=bR.out.2.1 11 _ rfl
 have aj:=bR.out.2.1 12 _ rfl
 have yf:=bR.out.2.2
 have yl:=bR.out.1
 have z0:=bG.out.2.1 0 _ rfl
 have z1:=bG.out.2.1 1 _ rfl
 have z2:=bG.out.2.1 2 _ rfl
 have z3:=bG.out.2.1 3 _ rfl
 have z4:=bG.out.2.1 4 _ rfl
 have z5:=bG.out.2.1 5 _ rfl
 have z6:=bG.out.2.1 6 _ rfl
 have z7:=bG.out.2.1 7 _ rfl
 have z8:=bG.out.2.1 8 _ rfl
 have z9:=bG.out.2.1 9 _ rfl
 have kB:=bG.out.2.1 10 _ rfl
 have kz:=bG.out.2.1 11 _ rfl
 have z12:=bG.out.2.1 12 _ rfl
 have zf:=bG.out.2.2
 have zl:=bG.out.1
 go_wp2_with fail
 have CE:=(bG.out).s13 (.int .i64 (g 0)) (.int .i64 (g 1)) (.int .i64 (g 12)) (.int .i64 (num g 4 4)) (.int .i64 (num g 8 4)) (.int .i64 (num g 16 2)) (.int .i64 (num g 18 2)) (.int .i64 (g 20)) (.int .i64 0) (.bool false) (.int .i64 0) (.slice A9 q c9) (.slice dJ (n-24-q) c15)
 have BE:=dz (b:=w.heap.size) (pP.out) (Nat.le_refl _) (.int .i64 (g 0)) (.int .i64 (g 1)) (.int .i64 (g 12)) (.int .i64 (num g 4 4)) (.int .i64 (num g 8 4)) (.int .i64 (num g 16 2)) (.int .i64 (num g 18 2)) (.int .i64 (g 20)) (.int .i64 0) (.bool false) (.int .i64 0) (.slice A9 q c9) (.slice dJ (n-24-q) c15)
 have dr:=OB.grown (k5.out) (aY _ w.heap.size (.int .i64 (g 0)) (.int .i64 (g 1)) (.int .i64 (g 12)) (.int .i64 (num g 4 4)) (.int .i64 (num g 8 4)) (.int .i64 (num g 16 2)) (.int .i64 (num g 18 2)) (.int .i64 (g 20)) (.int .i64 0) (.bool false) (.int .i64 0) (.slice A9 q c9) (.slice dJ (n-24-q) c15)) (OB.ne (k5.out) (by omega))
 have iC:=OB.grown (uc.out) (aY _ w.heap.size (.int .i64 (g 0)) (.int .i64 (g 1)) (.int .i64 (g 12)) (.int .i64 (num g 4 4)) (.int .i64 (num g 8 4)) (.int .i64 (num g 16 2)) (.int .i64 (num g 18 2)) (.int .i64 (g 20)) (.int .i64 0) (.bool false) (.int .i64 0) (.slice A9 q c9) (.slice dJ (n-24-q) c15)) (OB.ne (uc.out) (by omega))
 unfold cK at CE BE dr iC
 replace CE:=hid CE
 replace BE:=hid BE
 replace dr:=hid dr
 replace iC:=hid iC
 refine cV (fun w'=>Ce w' w.heap.size [(g 0),(g 1),(g 12),(num g 4 4),(num g 8 4),(num g 16 2),(num g 18 2),(g 20),(),false,(),.slice A9 q c9,.slice dJ (n-24-q) c15]∧Below w.heap.size w w'∧OB w' E4 (.slice A9 q c9) q (fun j=>g (24+j))∧OB w' mL (.slice dJ (n-24-q) c15) (n-24-q) (fun j=>g (24+q+j))) ⟨CE.out,BE.out,dr.out,iC.out⟩ (fun wf hwf=>?_)
 obtain ⟨hc2,hbf,ho0,ho1⟩:=hwf
 have x0:=hc2.2.1 0 _ rfl
 have x1:=hc2.2.1 1 _ rfl
 have x2:=hc2.2.1 2 _ rfl
 have x3:=hc2.2.1 3 _ rfl
 have x4:=hc2.2.1 4 _ rfl
 have x5:=hc2.2.1 5 _ rfl
 have x6:=hc2.2.1 6 _ rfl
 have x7:=hc2.2.1 7 _ rfl
 have x8:=hc2.2.1 8 _ rfl
 have x9:=hc2.2.1 9 _ rfl
 have gj:=hc2.2.1 10 _ rfl
 have gi:=hc2.2.1 11 _ rfl
 have gg:=hc2.2.1 12 _ rfl
 refine bodyPost_ret (v:=.tuple #[.agg #[(g 0),(g 1),(g 12),(num g 4 4),(num g 8 4),(num g 16 2),(num g 18 2),(g 20),(),false,(),.slice A9 q c9,.slice dJ (n-24-q) c15],()]) (by simp[results,Tryz.results19,go_sem,x0,x1,x2,x3,x4,x5,x6,x7,x8,x9,gj,gi,gg]) rfl ?_
 exact⟨(.slice A9 q c9),(.slice dJ (n-24-q) c15),by rw[ma.out,HE.out];rfl,by rw[ma.out];exact OB.base ho0 (by omega),by rw[ma.out];exact OB.base ho1 (by omega),hap.out,hbf⟩
 ):P:=h
theorem qY8{P:Prop}(h:P:=by
 have s9:=g9.size
 have e10:=fun f=>cU (e10 f) g9 (fun e=>by simp only[Value.ownBlock,Option.some.injEq]at e;omega)
 refine hK.out _ _ h9 (fun _=>?_)
 clear hK
 try simp only[Act.put,zA,zB,zC]
 refine only 15 rfl (by kernel_rfl) rfl (fun K hK=>?_)
 refine fD rfl (.tmp 151) (.tmp 155) rfl mL rfl e10 (by omega) _ (n-24-q) _ (fun j=>g (24+q+j)) rfl (s2.out _ g h9.1) (by omega) ?_
 intro dJ c15 eB tI g15 Ah
 have na:By eB (some ⟨b,off,none⟩) n g∧Ce eB w.heap.size [(),(),(),(),(),(),(),(),(),false,(),.slice none 0 0,.slice none 0 0]∧Below w.heap.size w eB:=⟨bT h9.1 g15 (by omega),h9.2.1.grown g15 (fun e=>by injection e with e;omega),h9.2.2.trans (af g15 (by omega) h9.2.2.size)⟩
 have wa:=xP.grown g15 (fun e=>by injection e with e;omega)
 have s15:=g15.size
 have hap:=hid (fun (x:Nat) (h:(Value.slice A9 q c9).ownBlock=some x)=>Ah x (fun e=>q9 mL (by omega) (by omega) (by rw[←e];exact h)) (by rcases Nat.lt_or_ge x w9.heap.size with h1 |h1;exact h1;exact absurd h (rK o9 x h1)))
 have o9:=cU o9 g15 (q9 mL (by omega) (by omega))
 exact qQX
 ):P:=h
set_option maxRecDepth 100000 in
set_option maxHeartbeats 8000000 in
theorem sI (A:Option Addr)(n c:Nat)(g:Nat→Int)(w:World)(h:By w A n g)(hg:aC g)(hc:n≤c)(hb:n≤1000000)(hne:cC g n=0)(n24:24≤n)(b3:(g 0==3)=false)(b2:(g 0==2)=false)(K1:Hid (g 0=1)) :
 Calls Tryz.prog 19 #[.slice A n c] w (Gy w g n):=by
 have hz:∀w:World,(zeroValue 53).run Tryz.prog w =.ok (.agg #[(),(),(),(),(),(),(),(),(),false,(),.slice none 0 0,.slice none 0 0]) w:=fun w=>by kernel_rfl
 obtain ⟨h16,hk,hp,na,ou,hx⟩:=sX (.inl hne)
 have i1:¬(n:Int)<16:=by omega
 have gb:=hg 0
 obtain ⟨xx,ov⟩:=gb
 have HN:=hid (fun (w':World) (h':By w' A n g)=>c_ (aX A n c g w' h' hg 2 2 (by omega) (by omega) hb) hp)
 have hs:(norm (tot g 16)==65535)=true:=by rw[hne]at hx;split at hx;(cases hx);rename_i h;simpa using h
 have pJ:=hid (fun (w':World) (h':By w' A n g) c'=>iS (nI A 16 c' g w' (h'.less (k:=16) (by omega)) hg (by omega)) hs)
 clear hx hs
 have hA:=hid (h.below ((Below.refl w.heap.size w).alloc (Nat.le_refl _) (.cells #[(),(),(),(),(),(),(),(),(),false,(),.slice none 0 0,.slice none 0 0] 53)) (Nat.le_refl _))
 have nA:=hid h
 obtain ⟨b,off,rfl,hblt,hcell⟩:=hA.out (by omega)
 have c0:=hcell 0 (by omega)
 have c13:=hcell 13 (by omega)
 rw[Nat.add_zero]at c0
 have i2:(0:Int)<n:=by omega
 have i3:(13:Int)<n:=by omega
 have i4:(16:Int)≤c:=by omega
 have i5:¬(1500:Int)<n:=by omega
 have hk3:=oZ hk
 have k1:¬g 0<1:=by omega
 have k2:¬3<g 0:=by omega
 have e13:(g 13 != 0)=false:=by simpa using ou
 have sq:=hid hk3
 have HG:=hid hg
 clear hcell h hp hk hk3 sq ou hg
 have j7:az g n=dk g n:=by unfold az;rw[if_pos hne]
 clear hne
 have k3:¬g 0=3:=by simpa using b3
 have sa:decide ((n:Int)<24)=false:=by simp;omega
 have NQ:¬g 0=2:=by simpa using b2
 go_enter Tryz.func19,Tryz.ntmps19
 go_wp2_with fail
 refine(HN.out _ hA.out).mono ?_
 rintro x w' ⟨rfl,rfl⟩
 go_wp2_with fail
 refine(pJ.out _ hA.out _).mono ?_
 rintro x w' ⟨rfl,rfl⟩
 go_upto_region 11 with (fail)
 have fz:=hid (Ce.made (w:=w) (l:=[(),(),(),(),(),(),(),(),(),false,(),.slice none 0 0,.slice none 0 0]) (T:=53) rfl)
 have B2:=hid ((Below.refl w.heap.size w).alloc (Nat.le_refl _) (.cells #[(),(),(),(),(),(),(),(),(),false,(),.slice none 0 0,.slice none 0 0] 53))
 have h2:=hA
 have jM:=fz.out.1
 simp only[List.toArray]at fz
 clear c0 c13 HN pJ hA
 generalize w.alloc (.cells #[(),(),(),(),(),(),(),(),(),false,(),.slice none 0 0,.slice none 0 0] 53)=w1 at *
 have hbw:b<w.heap.size:=Sl.lt nA.out (by omega)
 have fV:=hid (fun (w':World) (hw:By w' (some ⟨b,off,none⟩) n g) (a:Nat) (ha:a+4≤n)=>aX _ n c g w' hw HG.out a 4 (by omega) ha hb)
 have ov:=HG.out 1
 have rn:=HG.out 12
 obtain ⟨DX,DW⟩:=ov
 obtain ⟨yF,yE⟩:=rn
 have j1:(12:Int)<n:=by omega
 have j2:(1:Int)<n:=by omega
 have j3:0<n:=by omega
 have j4:1<n:=by omega
 have j5:12<n:=by omega
 have v0:IntKind.i64.wrap (g 0)=g 0:=IntWalk.i64_in _ (by omega)
 have v1:IntKind.i64.wrap (g 1)=g 1:=IntWalk.i64_in _ (by omega)
 have v2:IntKind.i64.wrap (g 12)=g 12:=IntWalk.i64_in _ (by omega)
 go_cut [4] from 63 (fun p wx=>∃L:Nat,p =.pointer (some ⟨L,0,none⟩)∧w.heap.size<L∧Ce wx L [(g 0),(g 1),(g 12),(num g 4 4),(num g 8 4),(),(),(),(),false,(),.slice none 0 0,.slice none 0 0]∧By wx (some ⟨b,off,none⟩) n g∧Ce wx w.heap.size [(),(),(),(),(),(),(),(),(),false,(),.slice none 0 0,.slice none 0 0]∧Below w.heap.size w wx)
 case first=>
  exact qQJ
 obtain ⟨L,rfl,hL,bq,hA,fx,hB⟩:=hcut
 replace bq:=hid bq
 replace fx:=hid fx
 replace hA:=hid hA
 replace hB:=hid hB
 have eI:L≠w.heap.size:=Nat.ne_of_gt hL
 have JX:w.heap.size≠L:=Nat.ne_of_lt hL
 have hBlt:b≠L:=by omega
 have IU:b≠w.heap.size:=by omega
 clear fz B2 h2 jM nA
 have vr:=HG.out 21
 have DV:=HG.out 20
 obtain ⟨KO,KN⟩:=DV
 obtain ⟨q,hq⟩:∃q:Nat,g 21=(q:Int):=⟨(g 21).toNat,by omega⟩
 rw[hq]at vr
 obtain ⟨KM,KJ⟩:=vr
 have HQ:Hid ((g 21).toNat=q):=hid (by omega)
 have vQ:=hid hq
 clear hq
 have i21:(21:Int)<n:=by omega
 have i20:(20:Int)<n:=by omega
 have v20:IntKind.i64.wrap (g 20)=g 20:=IntWalk.i64_in _ (by omega)
 have v21:IntKind.i64.wrap (q:Int)=(q:Int):=IntWalk.i64_in _ (by omega)
 have v24:IntKind.i64.wrap (24+(q:Int))=24+(q:Int):=IntWalk.i64_in _ (by omega)
 have vn:IntKind.i64.wrap ((n:Int)-24)=(n:Int)-24:=IntWalk.i64_in _ (by omega)
 have mR:=hid (fun (w':World) (hw:By w' (some ⟨b,off,none⟩) n g) (a:Nat) (ha:a+2≤n)=>aX _ n c g w' hw HG.out a 2 (by omega) ha hb)
 have y0:=bq.out.2.1 0 _ rfl
 have y1:=bq.out.2.1 1 _ rfl
 have y2:=bq.out.2.1 2 _ rfl
 have y3:=bq.out.2.1 3 _ rfl
 have y4:=bq.out.2.1 4 _ rfl
 have y5:=bq.out.2.1 5 _ rfl
 have y6:=bq.out.2.1 6 _ rfl
 have y7:=bq.out.2.1 7 _ rfl
 have y8:=bq.out.2.1 8 _ rfl
 have y9:=bq.out.2.1 9 _ rfl
 have al:=bq.out.2.1 10 _ rfl
 have ak:=bq.out.2.1 11 _ rfl
 have aj:=bq.out.2.1 12 _ rfl
 have yf:=bq.out.2.2
 have yl:=bq.out.1
 go_wp2_with fail
 refine(mR.out _ hA.out 16 (by omega)).mono ?_
 rintro x w' ⟨rfl,rfl⟩
 go_wp2_with fail
 refine(mR.out _ hA.out 18 (by omega)).mono ?_
 rintro x w' ⟨rfl,rfl⟩
 have C2:=hid (((bq.out).set 5 (.int .i64 (num g 16 2)) (by simp)).set 6 (.int .i64 (num g 18 2)) (by simp))
 have R2:=hid (fx.out.grown (gs 6 (.int .i64 (num g 18 2)) (gs 5 (.int .i64 (num g 16 2)) (World.grownBy.refl wc (some L)))) (fun e=>eI (by injection e)))
 have A2:=hid (bT hA.out (gs 6 (.int .i64 (num g 18 2)) (gs 5 (.int .i64 (num g 16 2)) (World.grownBy.refl wc (some L)))) hBlt)
 have D2:=hid (((hB.out).setCell (p:=⟨L,5,none⟩) (Nat.le_of_lt hL) (.int .i64 (num g 16 2))).setCell (p:=⟨L,6,none⟩) (Nat.le_of_lt hL) (.int .i64 (num g 18 2)))
 have vG:=A2.out.at_ (j:=21) (by omega)
 rw[vQ.out]at vG
 have M9:=A2.out.at_ (j:=20) (by omega)
 have Ng:=C2.out.1
 cases b20:decide ((15:Int)<g 20)
 ·cases LY:decide ((40:Int)<(q:Int))
  ·cases bn:decide ((n:Int)-24<(q:Int))
   ·have o8:az g n=0:=by rw[j7];unfold dk;rw[if_neg k3,if_neg (by omega),if_neg];rintro ⟨_,e⟩;rw[vQ.out]at e;simp at b20 LY bn;omega
    have ma:Hid (ax g n ={ kind:=g 0,life:=g 1,piece:=g 12,src:=num g 4 4,dst:=num g 8 4,fp:=num g 16 2,tp:=num g 18 2,flags:=g 20,no:=(g 21).toNat,go:=fun j=>g (24+j),nd:=n-24-(g 21).toNat,gd:=fun j=>g (24+(g 21).toNat+j) }):=hid (by unfold ax;rw[o8,if_pos rfl];unfold eY;rw[if_neg k3,if_neg NQ])
    rw[HQ.out]at ma
    have HE:=hid o8
    have AY:24+q≤n:=by simp at bn;omega
    clear o8 j7 sa k3
    obtain ⟨A8,r1,r2⟩:=iK (some ⟨b,off,none⟩) n c 24 (24+q) (by omega) AY hc 24 (24+(q:Int)) rfl (by omega)
    rw[show 24+q-24=q from by omega]at r1 r2
    obtain ⟨Qw,s1,s2⟩:=eA (some ⟨b,off,none⟩) n c (24+q) AY hc (24+(q:Int)) (by omega)
    rw[show n-(24+q)=n-24-q from by omega]at s1 s2
    replace r2:=hid r2
    replace s2:=hid s2
    go_upto_region 24 with (fail)
    clear vG M9
    clear y0 y1 y2 y3 y4 y5 y6 y7 y8 y9 al ak aj yf yl bq fx hA hB
    generalize ((wc.setCell ⟨L,5,none⟩ (.int .i64 (num g 16 2))).setCell ⟨L,6,none⟩ (.int .i64 (num g 18 2)))=wq at *
    have pR:=C2.out.bo
    refine wp_region_held_drew (S:=fun w'=>By w' (some ⟨b,off,none⟩) n g∧Ce w' w.heap.size [(),(),(),(),(),(),(),(),(),false,(),.slice none 0 0,.slice none 0 0]∧Below w.heap.size w w') (by kernel_rfl) ?_ (fun hHeld=>?_)
    ·exact⟨A2.out.drew,R2.out,below_drewN D2.out 1⟩
    clear A2 R2 D2 C2
    refine ae 0 (by assumption) ?_
    refine ae 1 (by assumption) ?_
    refine ae 2 (by assumption) ?_ (hy:=by intro w hSw;(try dsimp only at hSw);obtain ⟨hA,hC,hB⟩:=hSw;have z20:=hA.at_ (j:=20) (by omega);go_simp;(try with_reducible rfl))
    refine ae 3 (by assumption) ?_
    refine ae 5 (by assumption) ?_
    refine ae 6 (by assumption) ?_
    refine ae 7 (by assumption) ?_
    refine ae 8 (by assumption) ?_
    refine ae 11 (by assumption) ?_
    refine ae 12 (by assumption) ?_
    refine ae 13 (by assumption) ?_
    refine ae 14 (by assumption) ?_
    refine ae 16 (by assumption) ?_
    refine eX 4 10 rfl rfl (by kernel_rfl) rfl rfl (fun K hK=>?_) (fun K hK=>?_)
    ·go_simp
     have h4:By ((wq.alloc (.cells #[] 5)).drew) (some ⟨b,off,none⟩) n g∧Ce ((wq.alloc (.cells #[] 5)).drew) w.heap.size [(),(),(),(),(),(),(),(),(),false,(),.slice none 0 0,.slice none 0 0]∧Below w.heap.size w ((wq.alloc (.cells #[] 5)).drew):=⟨hHeld.1.alloc _,hHeld.2.1.alloc _,hHeld.2.2.alloc hHeld.2.2.size _⟩
     have Co:Ce ((wq.alloc (.cells #[] 5)).drew) L [(g 0),(g 1),(g 12),(num g 4 4),(num g 8 4),(num g 16 2),(num g 18 2),(),(),false,(),.slice none 0 0,.slice none 0 0]:=pR.alloc (.cells #[] 5)
     have e4:∀f,Ow ((wq.alloc (.cells #[] 5)).drew) wq.heap.size 5 1 (.slice (some ⟨wq.heap.size,0,none⟩) 0 0) 0 f:=fun f=>Ow.new' (w:=wq.drew) rfl
     have l4:L<wq.heap.size:=pR.1
     have s4:wq.heap.size<((wq.alloc (.cells #[] 5)).drew).heap.size:=by simp
     refine hK.out _ _ h4 (fun _=>?_)
     clear hK
     try simp only[Act.put,zA,zB,zC]
     generalize ((wq.alloc (.cells #[] 5)).drew)=w4 at *
     generalize wq.heap.size=E4 at *
     refine eX 9 10 rfl rfl (by kernel_rfl) rfl rfl (fun K hK=>?_) (fun K hK=>?_)
     ·refine fD rfl (.tmp 145) (.tmp 149) rfl E4 rfl e4 (by omega) _ (q) _ (fun j=>g (24+j)) rfl (r2.out _ g h4.1) (by omega) ?_
      intro A9 c9 w9 o9 g9 q9
      have h9:By w9 (some ⟨b,off,none⟩) n g∧Ce w9 w.heap.size [(),(),(),(),(),(),(),(),(),false,(),.slice none 0 0,.slice none 0 0]∧Below w.heap.size w w9:=⟨bT h4.1 g9 (by omega),h4.2.1.grown g9 (fun e=>by injection e with e;omega),h4.2.2.trans (af g9 (by omega) h4.2.2.size)⟩
      have xP:=Co.grown g9 (fun e=>by injection e with e;omega)
      have s9:=g9.size
      refine hK.out _ _ h9 (fun _=>?_)
      clear hK
      try simp only[Act.put,zA,zB,zC]
      refine only 10 rfl (by kernel_rfl) rfl (fun K hK=>?_)
      have qb:=rK o9
      go_simp
      have h10:By ((w9.alloc (.cells #[] 5))) (some ⟨b,off,none⟩) n g∧Ce ((w9.alloc (.cells #[] 5))) w.heap.size [(),(),(),(),(),(),(),(),(),false,(),.slice none 0 0,.slice none 0 0]∧Below w.heap.size w ((w9.alloc (.cells #[] 5))):=⟨h9.1.alloc _,h9.2.1.alloc _,h9.2.2.alloc h9.2.2.size _⟩
      have tj:Ce ((w9.alloc (.cells #[] 5))) L [(g 0),(g 1),(g 12),(num g 4 4),(num g 8 4),(num g 16 2),(num g 18 2),(),(),false,(),.slice none 0 0,.slice none 0 0]:=xP.alloc (.cells #[] 5)
      have o9:=Ow.alloc o9 (.cells #[] 5)
      have e10:∀f,Ow ((w9.alloc (.cells #[] 5))) w9.heap.size 5 1 (.slice (some ⟨w9.heap.size,0,none⟩) 0 0) 0 f:=fun f=>Ow.new' (w:=w9) rfl
      have l10:L<w9.heap.size:=xP.1
      have s10:w9.heap.size<((w9.alloc (.cells #[] 5))).heap.size:=by simp
      refine hK.out _ _ h10 (fun _=>?_)
      clear hK
      try simp only[Act.put,zA,zB,zC]
      generalize ((w9.alloc (.cells #[] 5)))=ea at *
      generalize w9.heap.size=mL at *
      refine only 15 rfl (by kernel_rfl) rfl (fun K hK=>?_)
      refine fD rfl (.tmp 151) (.tmp 155) rfl mL rfl e10 (by omega) _ (n-24-q) _ (fun j=>g (24+q+j)) rfl (s2.out _ g h10.1) (by omega) ?_
      intro dJ c15 eB tI g15 Ah
      have na:By eB (some ⟨b,off,none⟩) n g∧Ce eB w.heap.size [(),(),(),(),(),(),(),(),(),false,(),.slice none 0 0,.slice none 0 0]∧Below w.heap.size w eB:=⟨bT h10.1 g15 (by omega),h10.2.1.grown g15 (fun e=>by injection e with e;omega),h10.2.2.trans (af g15 (by omega) h10.2.2.size)⟩
      have wa:=tj.grown g15 (fun e=>by injection e with e;omega)
      have s15:=g15.size
      have hap:=hid (fun (x:Nat) (h:(Value.slice A9 q c9).ownBlock=some x)=>Ah x (fun e=>qb x (by omega) h) (by rcases Nat.lt_or_ge x mL with h1 |h1;omega;exact absurd h (qb x h1)))
      have o9:=cU o9 g15 (qb mL (by omega))
      exact qQX
     go_simp
     have h10:By ((w4.alloc (.cells #[] 5))) (some ⟨b,off,none⟩) n g∧Ce ((w4.alloc (.cells #[] 5))) w.heap.size [(),(),(),(),(),(),(),(),(),false,(),.slice none 0 0,.slice none 0 0]∧Below w.heap.size w ((w4.alloc (.cells #[] 5))):=⟨h4.1.alloc _,h4.2.1.alloc _,h4.2.2.alloc h4.2.2.size _⟩
     have tj:Ce ((w4.alloc (.cells #[] 5))) L [(g 0),(g 1),(g 12),(num g 4 4),(num g 8 4),(num g 16 2),(num g 18 2),(),(),false,(),.slice none 0 0,.slice none 0 0]:=Co.alloc (.cells #[] 5)
     have e4:=fun f=>Ow.alloc (e4 f) (.cells #[] 5)
     have e10:∀f,Ow ((w4.alloc (.cells #[] 5))) w4.heap.size 5 1 (.slice (some ⟨w4.heap.size,0,none⟩) 0 0) 0 f:=fun f=>Ow.new' (w:=w4) rfl
     have l10:L<w4.heap.size:=Co.1
     have s10:w4.heap.size<((w4.alloc (.cells #[] 5))).heap.size:=by simp
     refine hK.out _ _ h10 (fun _=>?_)
     clear hK
     try simp only[Act.put,zA,zB,zC]
     generalize ((w4.alloc (.cells #[] 5)))=ea at *
     generalize w4.heap.size=mL at *
     refine only 9 rfl (by kernel_rfl) rfl (fun K hK=>?_)
     refine fD rfl (.tmp 145) (.tmp 149) rfl E4 rfl e4 (by omega) _ (q) _ (fun j=>g (24+j)) rfl (r2.out _ g h10.1) (by omega) ?_
     intro A9 c9 w9 o9 g9 q9
     have h9:By w9 (some ⟨b,off,none⟩) n g∧Ce w9 w.heap.size [(),(),(),(),(),(),(),(),(),false,(),.slice none 0 0,.slice none 0 0]∧Below w.heap.size w w9:=⟨bT h10.1 g9 (by omega),h10.2.1.grown g9 (fun e=>by injection e with e;omega),h10.2.2.trans (af g9 (by omega) h10.2.2.size)⟩
     have xP:=tj.grown g9 (fun e=>by injection e with e;omega)
     exact qY8
    go_simp
    have h10:By ((wq.alloc (.cells #[] 5)).drew) (some ⟨b,off,none⟩) n g∧Ce ((wq.alloc (.cells #[] 5)).drew) w.heap.size [(),(),(),(),(),(),(),(),(),false,(),.slice none 0 0,.slice none 0 0]∧Below w.heap.size w ((wq.alloc (.cells #[] 5)).drew):=⟨hHeld.1.alloc _,hHeld.2.1.alloc _,hHeld.2.2.alloc hHeld.2.2.size _⟩
    have tj:Ce ((wq.alloc (.cells #[] 5)).drew) L [(g 0),(g 1),(g 12),(num g 4 4),(num g 8 4),(num g 16 2),(num g 18 2),(),(),false,(),.slice none 0 0,.slice none 0 0]:=pR.alloc (.cells #[] 5)
    have e10:∀f,Ow ((wq.alloc (.cells #[] 5)).drew) wq.heap.size 5 1 (.slice (some ⟨wq.heap.size,0,none⟩) 0 0) 0 f:=fun f=>Ow.new' (w:=wq.drew) rfl
    have l10:L<wq.heap.size:=pR.1
    have s10:wq.heap.size<((wq.alloc (.cells #[] 5)).drew).heap.size:=by simp
    refine hK.out _ _ h10 (fun _=>?_)
    clear hK
    try simp only[Act.put,zA,zB,zC]
    generalize ((wq.alloc (.cells #[] 5)).drew)=ea at *
    generalize wq.heap.size=mL at *
    refine only 4 rfl (by kernel_rfl) rfl (fun K hK=>?_)
    go_simp
    have h4:By ((ea.alloc (.cells #[] 5))) (some ⟨b,off,none⟩) n g∧Ce ((ea.alloc (.cells #[] 5))) w.heap.size [(),(),(),(),(),(),(),(),(),false,(),.slice none 0 0,.slice none 0 0]∧Below w.heap.size w ((ea.alloc (.cells #[] 5))):=⟨h10.1.alloc _,h10.2.1.alloc _,h10.2.2.alloc h10.2.2.size _⟩
    have Co:Ce ((ea.alloc (.cells #[] 5))) L [(g 0),(g 1),(g 12),(num g 4 4),(num g 8 4),(num g 16 2),(num g 18 2),(),(),false,(),.slice none 0 0,.slice none 0 0]:=tj.alloc (.cells #[] 5)
    have e10:=fun f=>Ow.alloc (e10 f) (.cells #[] 5)
    have e4:∀f,Ow ((ea.alloc (.cells #[] 5))) ea.heap.size 5 1 (.slice (some ⟨ea.heap.size,0,none⟩) 0 0) 0 f:=fun f=>Ow.new' (w:=ea) rfl
    have l4:L<ea.heap.size:=tj.1
    have s4:ea.heap.size<((ea.alloc (.cells #[] 5))).heap.size:=by simp
    refine hK.out _ _ h4 (fun _=>?_)
    clear hK
    try simp only[Act.put,zA,zB,zC]
    generalize ((ea.alloc (.cells #[] 5)))=w4 at *
    generalize ea.heap.size=E4 at *
    refine only 9 rfl (by kernel_rfl) rfl (fun K hK=>?_)
    refine fD rfl (.tmp 145) (.tmp 149) rfl E4 rfl e4 (by omega) _ (q) _ (fun j=>g (24+j)) rfl (r2.out _ g h4.1) (by omega) ?_
    intro A9 c9 w9 o9 g9 q9
    have h9:By w9 (some ⟨b,off,none⟩) n g∧Ce w9 w.heap.size [(),(),(),(),(),(),(),(),(),false,(),.slice none 0 0,.slice none 0 0]∧Below w.heap.size w w9:=⟨bT h4.1 g9 (by omega),h4.2.1.grown g9 (fun e=>by injection e with e;omega),h4.2.2.trans (af g9 (by omega) h4.2.2.size)⟩
    have xP:=Co.grown g9 (fun e=>by injection e with e;omega)
    exact qY8
   have hE:az g n=5:=by rw[j7];unfold dk;rw[if_neg k3,if_neg (by omega),if_pos];refine⟨K1.out,?_⟩;rw[vQ.out];simp at bn;omega
   exact qQH
  have hE:az g n=5:=by rw[j7];unfold dk;rw[if_neg k3,if_neg (by omega),if_pos];refine⟨K1.out,?_⟩;rw[vQ.out];simp at LY;omega
  exact qQH
 have hE:az g n=5:=by rw[j7];unfold dk;rw[if_neg k3,if_neg (by omega),if_pos];refine⟨K1.out,?_⟩;rw[vQ.out];simp at b20;omega
 exact qQH
theorem uh (A:Option Addr)(n c:Nat)(g:Nat→Int)(w:World)(h:By w A n g)(hg:aC g)(hc:n≤c)(hb:n≤1000000)(hne:cC g n=0)(n24:24≤n)(b3:(g 0==3)=false)(b2:(g 0==2)=false)(K1:Hid (g 0=1)) :
 Calls Tryz.prog 19 #[.slice A n c] w (Parsed w g n):=
 (sI A n c g w h hg hc hb hne n24 b3 b2 K1).mono fun e w' ⟨O,D,h1,h2,h3,_,h5⟩=>⟨O,D,h1,h2,h3,h5⟩
end Go.Proofs.YtalnfkijiehjhaaGreat
