/- The reference's planes, units in memory. The reference's planes: what they remember. The reference's unit: drop, Near, Same, carried. -/
import Derived.Test.YtalnfkijiehjhaaGreatGa
import Derived.Test.YtalnfkijiehjhaaGreatGz
import Derived.Test.YtalnfkijiehjhaaGreatGx
import Derived.BigQuiet
import Derived.Deep.RegionHeld3
import Derived.Deep.Cut
import Derived.IntWalk
import Derived.Test.YtalnfkijiehjhaaGreatWhlRmake
import Derived.Test.YtalnfkijiehjhaaGreatGy
import Derived.Test.YtalnfkijiehjhaaGreatCook8
import Derived.Test.YtalnfkijiehjhaaGreatGkb
import Derived.Test.YtalnfkijiehjhaaGreatOpr
namespace Go.Proofs.YtalnfkijiehjhaaGreat
open List renaming setIfInBounds_toArray→zA,set_cons_zero→zB,set_cons_succ→zC
set_option linter.unusedVariables false
set_option linter.unusedSimpArgs false
open Go.RowKit Go.ChangeShapes Go.WideShapes Go.ChangeAt
def rpc (up:Bool)(p:Pl)(v:Value)(j:Nat):Value:=if j=0 then .bool up else if j<331 then pc p (j-1) else if j=331 then v else if j<396 then .bool false else .int .u32 0
theorem Eb (w:World):(Instr.build 90 #[]).run Tryz.prog w =.ok (.agg (FA 460 (rpc false cm (.slice none 0 0)))) w:=run_build w _ _ _ (by kernel_rfl)
theorem Kk (up x:Bool)(p:Pl)(v:Value)(j:Nat)(hj:j<460):patch (rpc up p v) 0 1 (fun _=>.bool x) j=rpc x p v j:=by
 unfold patch rpc
 by_cases h:j=0
 ·rw[if_pos (by omega),if_pos h]
 rw[if_neg (by omega),if_neg h,if_neg h]
theorem MH (up:Bool)(p q:Pl)(v:Value)(j:Nat)(hj:j<460):patch (rpc up p v) 1 330 (pc q) j=rpc up q v j:=by
 unfold patch rpc
 by_cases h:j=0
 ·rw[if_neg (by omega),if_pos h,if_pos h]
 by_cases h1:j<331
 ·rw[if_pos (by omega),if_neg h,if_pos h1]
 rw[if_neg (by omega),if_neg h,if_neg h,if_neg h1,if_neg h1]
theorem MG (up:Bool)(p:Pl)(v x:Value)(j:Nat)(hj:j<460):patch (rpc up p v) 331 1 (fun _=>x) j=rpc up p x j:=by
 unfold patch rpc
 by_cases h:j=331
 ·rw[if_pos (by omega),if_neg (by omega),if_neg (by omega),if_pos h]
 rw[if_neg (by omega)]
 by_cases h0:j=0
 ·rw[if_pos h0,if_pos h0]
 rw[if_neg h0,if_neg h0]
 by_cases h1:j<331
 ·rw[if_pos h1,if_pos h1]
 rw[if_neg h1,if_neg h1,if_neg h,if_neg h]
set_option maxRecDepth 100000
def fN (up:Bool)(p:Pl)(v:Value)(nr:Nat→Option Int)(j:Nat):Value:=if j=0 then .bool up else if j<331 then pc p (j-1) else if j=331 then v else if j<396 then .bool (nr (j-332)).isSome else .int .u32 ((nr (j-396)).getD 0)
def gU (wb:Nat):Value:=.slice (some ⟨wb,0,none⟩) 127 127
structure fy (w:World) (pb wb:Nat) (p:Pl) (nr:Nat→Option Int):Prop where
 fb:Fb w pb 460 (fN true p (gU wb) nr)
 wh:IA w wb 127 (cF p)
section
variable {w w':World}{pb wb:Nat}{p:Pl}{nr:Nat→Option Int}
theorem fy.below (h:fy w pb wb p nr)(hb:Below w.heap.size w w'):fy w' pb wb p nr:=⟨h.fb.below hb,h.wh.below hb⟩
theorem fy.c0 (h:fy w pb wb p nr):w.cell? ⟨pb,0,none⟩=some (.bool true):=h.fb.2.1 0 (by omega)
theorem fy.pc (h:fy w pb wb p nr)(j:Nat)(hj:j<330):w.cell? ⟨pb,1+j,none⟩=some (_root_.Go.Proofs.YtalnfkijiehjhaaGreat.pc p j):=by
 have:=h.fb.2.1 (1+j) (by omega)
 unfold fN at this
 rw[if_neg (by omega),if_pos (by omega),show 1+j-1=j by omega]at this
 exact this
theorem fy.ca (h:fy w pb wb p nr):w.cell? ⟨pb,2,none⟩=some (.int .i64 p.a):=h.pc 1 (by omega)
theorem fy.cp (h:fy w pb wb p nr):w.cell? ⟨pb,3,none⟩=some (.int .i64 p.p):=h.pc 2 (by omega)
theorem fy.cw (h:fy w pb wb p nr):w.cell? ⟨pb,331,none⟩=some (.slice (some ⟨wb,0,none⟩) 127 127):=h.fb.2.1 331 (by omega)
theorem fy.r7 (h:fy w pb wb p nr):w.cell? ⟨pb,324,none⟩=some (.int .i64 p.r.e)∧w.cell? ⟨pb,325,none⟩=some (.int .u64 p.r.p.a)∧w.cell? ⟨pb,326,none⟩=some (.int .u64 p.r.p.b)∧w.cell? ⟨pb,327,none⟩=some (.int .u64 p.r.c.a)∧w.cell? ⟨pb,328,none⟩=some (.int .u64 p.r.c.b)∧w.cell? ⟨pb,329,none⟩=some (.int .u64 p.r.n.a)∧w.cell? ⟨pb,330,none⟩=some (.int .u64 p.r.n.b):=
 ⟨h.pc 323 (by omega),h.pc 324 (by omega),h.pc 325 (by omega),h.pc 326 (by omega),h.pc 327 (by omega),h.pc 328 (by omega),h.pc 329 (by omega)⟩
theorem fy.s1 (h:fy w pb wb p nr)(i k:Nat)(hi:i<64)(hk:k<5):w.cell? ⟨pb,4+i*5+k,none⟩=some (rC (p.s i) k):=by
 have:=h.pc (3+i*5+k) (by omega)
 rw[sM p i k hi hk,show 1+(3+i*5+k)=4+i*5+k by omega]at this
 exact this
theorem fy.s5 (h:fy w pb wb p nr)(i:Nat)(hi:i<64):w.cell? ⟨pb,4+i*5,none⟩=some (.int .i64 (p.s i).st)∧w.cell? ⟨pb,4+i*5+1,none⟩=some (.int .i64 (p.s i).ad)∧w.cell? ⟨pb,4+i*5+2,none⟩=some (.int .i64 (p.s i).po)∧w.cell? ⟨pb,4+i*5+3,none⟩=some (.int .i64 (p.s i).we)∧w.cell? ⟨pb,4+i*5+4,none⟩=some (.int .i64 (p.s i).si):=
 ⟨h.s1 i 0 hi (by omega),h.s1 i 1 hi (by omega),h.s1 i 2 hi (by omega),h.s1 i 3 hi (by omega),h.s1 i 4 hi (by omega)⟩
theorem fy.rem (h:fy w pb wb p nr)(i:Nat)(hi:i<64):w.cell? ⟨pb,332+i,none⟩=some (.bool (nr i).isSome)∧w.cell? ⟨pb,396+i,none⟩=some (.int .u32 ((nr i).getD 0)):=by
 have h1:=h.fb.2.1 (332+i) (by omega)
 have h2:=h.fb.2.1 (396+i) (by omega)
 unfold fN at h1 h2
 rw[if_neg (by omega),if_neg (by omega),if_neg (by omega),if_pos (by omega),show 332+i-332=i by omega]at h1
 rw[if_neg (by omega),if_neg (by omega),if_neg (by omega),if_neg (by omega),show 396+i-396=i by omega]at h2
 exact⟨h1,h2⟩
theorem FH {v:Value}(s:Nat)(hs:s<64)(x:Int)(j:Nat)(hj:j<460):patch (patch (fN true p v nr) (332+s) 1 (fun _=>.bool true)) (396+s) 1 (fun _=>.int .u32 x) j=fN true p v (jG nr s x) j:=by
 unfold patch fN jG
 by_cases e1:j=332+s
 ·subst e1
  rw[if_neg (by omega),if_pos (by omega),if_neg (by omega),if_neg (by omega),if_neg (by omega),if_pos (by omega),if_pos (by omega)];rfl
 by_cases e2:j=396+s
 ·subst e2
  exact qYS
 rw[if_neg (by omega),if_neg (by omega)]
 split
 ·rfl
 split
 ·rfl
 split
 ·rfl
 split
 ·rw[if_neg (by omega)]
 rw[if_neg (by omega)]
theorem fy.NM (h:fy w pb wb p nr):(Instr.loadAt 34 (.pointer (some ⟨pb,1,none⟩))).run Tryz.prog w =.ok (.agg (FA 330 (_root_.Go.Proofs.YtalnfkijiehjhaaGreat.pc p))) w:=h.fb.load 1 330 (_root_.Go.Proofs.YtalnfkijiehjhaaGreat.pc p) (by omega) (fun j hj=>by
 unfold fN
 rw[if_neg (by omega),if_pos (by omega),show 1+j-1=j by omega]) Tryz.underlying34 rfl dE
end
def sd (w:World)(pb wb:Nat)(p:Pl)(t:To)(e:Ending)(w':World):Prop:=∃X c,e =.returned (eN t.d t.s t.c (.slice X t.n c))∧OB w' w.heap.size (.slice X t.n c) t.n t.f∧t.n≤c∧fy w' pb wb p t.nr∧Ch [pb] w w'
theorem FN (p:Pl)(hp:Pw p)(w:World):Calls Tryz.prog 35 #[.agg (FA 330 (_root_.Go.Proofs.YtalnfkijiehjhaaGreat.pc p))] w fun x w'=>∃B:Nat,x =.returned (.slice (some ⟨B,0,none⟩) 127 127)∧w.heap.size≤B∧IA w' B 127 (cF p)∧Below w.heap.size w w':=yg p hp w
theorem HS.ya {S:List Nat}{W w:World}{A B:List Th}{b n:Nat}{f:Nat→Value}(h:HS S W w (A++aD b n f::B))(o:Nat)(v:Value)(ho:o+1≤n)(f':Nat→Value)(hf:∀j,j<n→patch f o 1 (fun _=>v) j=f' j):HS S W (w.setCell ⟨b,o,none⟩ v) (A++aD b n f'::B):=h.set o 1 (fun _=>v) ho f' hf
theorem Di {S:List Nat}{W w:World}{A B:List Th}{Q:Exit→Act→World→Prop}{o:Oper}{a:Act}{K:Act→World→Prop}{T:TypeId}{x y:Operand}{b n:Nat}{f:Nat→Value}(off:Nat)(v:Value)(f':Nat→Value)(ho:o.op =.store T x y)(hx:a.eval x =.pointer (some ⟨b,off,none⟩))(hy:a.eval y=v)(hT:(Instr.storeAt T (.pointer (some ⟨b,off,none⟩)) v)=(Instr.storeAt 4 (.pointer (some ⟨b,off,none⟩)) v))(hS:HS S W w (A++aD b n f::B))(hok:off+1≤n)(hf:∀j,j<n→patch f off 1 (fun _=>v) j=f' j)
 (h:∀w',HS S W w' (A++aD b n f'::B)→K (a.put o.dst undef) w') (hv:∃x,v =.bool x:=by exact⟨_,rfl⟩):o.wp Tryz.prog a w K Q:=by
 have hF:Fb w b n f:=hS.1 (aD b n f) (by simp)
 obtain ⟨x,rfl⟩:=hv
 refine eZ ho hx hy (w':=w.setCell ⟨b,off,none⟩ (.bool x)) ?_ (h _ (hS.set off 1 (fun _=>.bool x) hok f' hf))
 rw[hT]
 have c:=hF.2.1 off (by omega)
 have z:=hF.2.2 off
 go_simp
attribute [local irreducible] FA FL
theorem wX {S:List Nat}{W w:World}{L:List Th}(hS:HS S W w L):Calls Tryz.prog 11 #[] w fun x w'=>∃pb:Nat,x =.returned (.pointer (some ⟨pb,0,none⟩))∧HS S W w' (aD pb 460 (rpc false cm (.slice none 0 0))::L):=by
 have S0:=hid hS
 clear hS
 go_enter Tryz.func11,Tryz.ntmps11
 go_upto_region 1 with (fail)
 apply wp_region_lit
 refine dZ (v:=.agg (FA 460 (rpc false cm (.slice none 0 0)))) rfl (by unfold execOp;simp only[List.map_toArray,List.map_nil,Sem.run_bind,Eb,Result.andThen_ok,Sem.run_pure]) ?_
 exact qZ2
set_option maxHeartbeats 4000000 in
theorem CU {w:World}{pb:Nat}{up:Bool}{p q:Pl}{v:Value}(hF:Fb w pb 460 (rpc up q v))(hp:Pw p):Calls Tryz.prog 13 #[.pointer (some ⟨pb,0,none⟩),.agg (FA 330 (pc p))] w fun x w'=>x =.returned (.tuple #[])∧∃B,fy w' pb B p (fun _=>none)∧pb≠B∧w.heap.size≤B∧Ch [pb] w w':=by
 have g8:=hid hp
 have J2:=hid hF.1
 have S0:=hid ((HS.zv (S:=[pb]) (aD pb 460 (rpc up q v)) hF (by simp[aD]) (fun _ h=>h)))
 clear hF hp
 go_enter Tryz.func13,Tryz.ntmps13
 go_upto_region 1 with ((with_reducible refine ah ?_);refine ay rfl (kN rfl rfl (by omega) S0.out (fun Q w2 hZ hb=>?_));have S1:=hid hZ;clear hZ hb)
 refine wp_region_held_drew (S:=fun (w':World)=>∃u' q' v',HS [pb] w w' [aD Q 330 (pc p),aD pb 460 (rpc u' q' v')]) (by kernel_rfl) ?_ (fun hHeld=>?_)
 ·exact⟨_,_,_,S1.out.drew⟩
 refine ae 0 hHeld ?_
 refine ae 1 hHeld ?_
 refine ae 2 hHeld ?_
 refine tk 3 (v:=.agg (FA 330 (pc p))) rfl (by kernel_rfl) (by kernel_rfl) (by kernel_rfl) (fun _ _ _ h=>h) rfl (fun w hSw=>by obtain ⟨_,_,_,hSw⟩:=hSw;exact iV rfl rfl ((hSw.fb 0 rfl).load 0 330 (pc p) (by omega) (fun j hj=>by rw[Nat.zero_add]) Tryz.underlying34 rfl dE)) hHeld ?_;(try simp only[Act.put,zA,zB,zC])
 refine tk 4 (v:=.agg (FA 330 (pc p))) rfl (by kernel_rfl) (by kernel_rfl) (by kernel_rfl) (fun _ _ _ h=>h) rfl (fun w hSw=>by obtain ⟨_,_,_,hSw⟩:=hSw;exact iV rfl rfl ((hSw.fb 0 rfl).load 0 330 (pc p) (by omega) (fun j hj=>by rw[Nat.zero_add]) Tryz.underlying34 rfl dE)) hHeld ?_;(try simp only[Act.put,zA,zB,zC])
 refine only 5 rfl (by kernel_rfl) rfl (fun K hK=>?_)
 go_simp
 refine(FN p g8.out _).mono ?_
 rintro e w3 ⟨B,rfl,hB1,hB2,hb⟩
 try go_wp2_with fail
 obtain ⟨u',q',v',hh⟩:=hHeld
 have hN:=hh.new (fM B (cF p)) hb hB2 (by simp[fM]) (by simpa [fM]using hB1)
 have Mm:=hid (Nat.le_trans hh.jf hB1)
 refine hK.out _ _ ⟨_,_,_,hN.tail⟩ (fun _=>more (fun w'=>∃u' q' v',HS [pb] w w' [fM B (cF p),aD Q 330 (pc p),aD pb 460 (rpc u' q' v')]) (fun _ ⟨u,q,v,h⟩=>⟨u,q,v,h.tail⟩) ⟨_,_,_,hN⟩ (fun h5=>?_))
 clear hK hh hb hN hB1 hB2
 try simp only[Act.put,zA,zB,zC]
 refine ae 6 h5 ?_
 refine ae 7 h5 ?_
 obtain ⟨u',q',v',h5⟩:=h5
 refine only 8 rfl (by kernel_rfl) rfl (fun K hK=>?_)
 refine Di (A:=[fM B (cF p),aD Q 330 (pc p)]) 0 (.bool true) (rpc true q' v') rfl rfl rfl (by kernel_rfl) h5 (by omega) (fun j hj=>Kk _ _ _ _ j hj) (fun w4 hZ=>?_)
 refine hK.out _ _ ⟨_,_,_,hZ⟩ (fun _=>more (fun w'=>∃q' v',HS [pb] w w' [fM B (cF p),aD Q 330 (pc p),aD pb 460 (rpc true q' v')]) (fun _ h=>⟨_,h⟩) ⟨_,_,hZ⟩ (fun h6=>?_))
 clear hK h5
 try simp only[Act.put,zA,zB,zC]
 refine ae 9 h6 ?_
 refine ae 10 h6 ?_
 refine only 11 rfl (by kernel_rfl) rfl (fun K hK=>?_)
 refine ji (A:=[fM B (cF p),aD Q 330 (pc p)]) 1 330 (pc p) (rpc true p v') rfl rfl rfl hZ (by omega) (fun j hj=>MH _ _ _ _ j hj) dE (oR _) (fun w5 hY=>?_)
 refine hK.out _ _ ⟨_,_,hY⟩ (fun _=>more (fun w'=>∃v',HS [pb] w w' [fM B (cF p),aD Q 330 (pc p),aD pb 460 (rpc true p v')]) (fun _ h=>⟨_,h⟩) ⟨_,hY⟩ (fun h7=>?_))
 clear hK hZ h6
 try simp only[Act.put,zA,zB,zC]
 refine ae 12 h7 ?_
 refine ae 13 h7 ?_
 refine only 14 rfl (by kernel_rfl) rfl (fun K hK=>?_)
 have M8:w5.cell? ⟨pb,331,none⟩=some v':=(hY.fb 2 rfl).2.1 331 (by omega)
 have My:=(hY.fb 2 rfl).2.2 331
 refine eZ rfl rfl rfl (w':=w5.setCell ⟨pb,331,none⟩ (.slice (some ⟨B,0,none⟩) 127 127)) (by go_simp) ?_
 have hX:=HS.ya (A:=[fM B (cF p),aD Q 330 (pc p)]) hY 331 (.slice (some ⟨B,0,none⟩) 127 127) (by omega) (rpc true p (.slice (some ⟨B,0,none⟩) 127 127)) (fun j hj=>MG _ _ _ _ j hj)
 refine hK.out _ _ ⟨_,hX⟩ (fun _=>?_)
 clear hK hY h7 M8 My
 try simp only[Act.put,zA,zB,zC]
 refine wpAnyH_done (by kernel_rfl) ?_ _
 go_wp2_with fail
 go_end0
 exact⟨rfl,B,⟨hX.fb 2 rfl,hX.nth 0 rfl⟩,by have:=Mm.out;have:=J2.out;omega,Mm.out,hX.2.1⟩
end Go.Proofs.YtalnfkijiehjhaaGreat
namespace Go.Proofs.YtalnfkijiehjhaaGreat
open List renaming setIfInBounds_toArray→zA,set_cons_zero→zB,set_cons_succ→zC
set_option linter.unusedVariables false
set_option linter.unusedSimpArgs false
open Go.RowKit Go.ChangeShapes Go.WideShapes Go.ChangeAt
set_option maxRecDepth 100000
theorem uA (w:World):(zeroValue 48).run Tryz.prog w =.ok (.agg ([(),(),false,.slice none 0 0]:List Value).toArray) w:=by kernel_rfl
theorem dQ:(Tryz.prog.info? 48).map (·.size)=some 4:=by kernel_rfl
theorem gm (d:Int)(w:World):Calls Tryz.prog 49 #[d] w fun x w'=>x =.returned (eN d (-1) false (.slice none 0 0))∧Below w.heap.size w w':=by
 unfold eN
 have S0:Hid (HS [] w w []):=hid HS.start
 go_enter Tryz.func49,Tryz.ntmps49
 go_wp2_with (first | ((with_reducible refine ah ?_);refine ay rfl (bw rfl (uA _) (by simp) S0.out ?_);intro U w_ hZ _;have S1:=hid hZ;clear hZ) | ((with_reducible refine ah ?_);refine ay rfl (aB (A:=[]) [d,.int .i64 (-1),false,.slice none 0 0] rfl rfl (rfl) S1.out rfl dQ rfl ?_);intro w_ hZ;have S2:=hid hZ;clear hZ;(first |refine aJ ?_ |refine aR ?_);apply_assumption;refine wp_ret ?_;(repeat refine aI ?_);(show bodyPost _ _ _ _ _ _);exact bodyPost_ret (v:=.agg ([d,.int .i64 (-1),false,.slice none 0 0]:List Value).toArray) (aS Tryz.results49 _ rfl (S2.out.ce 0 rfl) Tryz.underlying48 rfl dQ) rfl ⟨rfl,S2.out.bl⟩))
theorem yd {w:World}{pb wb:Nat}{p:Pl}{nr:Nat→Option Int}(h:fy w pb wb p nr)(s:Nat)(hs:s<64):Calls Tryz.prog 54 #[.pointer (some ⟨pb,0,none⟩),(s:Int)] w fun x w'=>x =.returned (.tuple #[.int .u32 ((nr s).getD 0),(nr s).isSome])∧Below w.heap.size w w':=by
 obtain ⟨c0,c1⟩:=h.rem s hs
 have i0:(0:Int)≤s:=by omega
 have i1:(s:Int)<64:=by omega
 have i2:¬(s:Int)<0:=by omega
 have i3:¬(64:Int)≤s:=by omega
 clear h
 go_enter Tryz.func54,Tryz.ntmps54
 go_wp2_with fail
 go_quiet (fail)
 go_wp2_with fail
 go_ret2
 first |exact⟨rfl,below_drewN (Below.refl _ _) _⟩ |exact⟨rfl,Below.refl _ _⟩
theorem zU (pb:Nat)(s:Int)(hs:s<0∨64≤s)(w:World):Calls Tryz.prog 54 #[.pointer (some ⟨pb,0,none⟩),s] w fun x w'=>x =.returned (.tuple #[.int .u32 0,false])∧Below w.heap.size w w':=by
 rcases hs with hs |hs
 ·go_enter Tryz.func54,Tryz.ntmps54
  go_wp2_with fail
  go_ret2
  exact⟨rfl,Below.refl _ _⟩
 have i2:¬s<0:=by omega
 go_enter Tryz.func54,Tryz.ntmps54
 go_wp2_with fail
 go_ret2
 exact⟨rfl,Below.refl _ _⟩
theorem nH (d s:Int)(b:Bool)(n:Nat)(A B:Option Addr)(c k:Nat)(g:Nat→Int)(w:World)(hA:By w A n g)(hB:By w B n g):Calls Tryz.prog 15 #[.agg #[d,s,b,.slice A n c],.agg #[d,s,b,.slice B n k]] w fun x w'=>x =.returned (.bool true)∧Below w.heap.size w w':=by
 have HA:=hid (fun (w':World) (hb:Below w.heap.size w w')=>nY c (show By w' A n g from Sl.below hA hb (Nat.le_refl _)))
 have HB:=hid (fun (w':World) (hb:Below w.heap.size w w')=>nY k (show By w' B n g from Sl.below hB hb (Nat.le_refl _)))
 have S0:Hid (HS [] w w []):=hid HS.start
 clear hA hB
 go_enter Tryz.func15,Tryz.ntmps15
 go_upto_region 1 with (first | ((with_reducible refine ah ?_);refine ay rfl (fi (l:=[d,s,b,.slice A n c]) rfl rfl (by simp) S0.out ?_);intro P w_ hZ _;have S1:=hid hZ;clear hZ) | ((with_reducible refine ah ?_);refine ay rfl (fi (l:=[d,s,b,.slice B n k]) rfl rfl (by simp) S1.out ?_);intro Q w_ hZ _;have S2:=hid hZ;clear hZ))
 have e1:=HA.out _ S2.out.bl
 have e2:=HB.out _ S2.out.bl
 obtain ⟨f0,f1,f2,f3⟩:=(S2.out.ce 0 rfl).c4
 obtain ⟨g0,g1,g2,g3⟩:=(S2.out.ce 1 rfl).c4
 have db:(d==d)=true:=by simp
 have sb:(s==s)=true:=by simp
 have bb:(b==b)=true:=by simp
 go_wp2_with fail
 go_ret
 exact⟨rfl,S2.out.bl⟩
theorem HS.lO {S:List Nat}{W w w':World}{L:List Th}{v:Value}{n:Nat}{f:Nat→Int}(h:HS S W w L)(hb:Below w.heap.size w w')(hO:OB w' w.heap.size v n f):HS S W w' (bU W.heap.size 5 1 v n (fun j=>.int .u8 (f j))::L):=
 h.new (bU W.heap.size 5 1 v n (fun j=>.int .u8 (f j))) hb (OB.base hO h.jf) (by unfold bU;dsimp only;cases v.ownBlock <;> simp) (fun b hb=>(World.ownsRow.lt hO b (by simpa [bU]using hb)).1)
theorem qQC{P:Prop}(h:P:=by
 refine wp_region_held_drew (S:=fun (w':World)=>HS [] w w' [aw F [x.src,x.fp,p.a,p.p],aw E [x.kind,x.life,x.piece,x.src,x.dst,x.fp,x.tp,x.flags,x.label,x.bare,x.code,.slice AO x.no cO,.slice AD x.nd cD]]) (by kernel_rfl) ?_ (fun hHeld=>?_)
 ·exact S3.out.drew
 refine ae 0 hHeld ?_
 refine ae 1 hHeld ?_
 refine ae 2 hHeld ?_
 refine ae 3 hHeld ?_
 refine ae 4 hHeld ?_ (hy:=by intro w hSw;(try dsimp only at hSw);obtain ⟨r0,r1,r2,r3,r4,r5,r6⟩:=(SA.out.below hSw.bl).r7;go_simp;(try with_reducible rfl))
 refine ae 5 hHeld ?_
 refine ae 6 hHeld ?_ (hy:=by intro w hSw;(try dsimp only at hSw);obtain ⟨y0,y1,y2,y3,y4,y5,y6,y7,y8,y9,al,ak,aj⟩:=(hSw.ce 1 rfl).c13;go_simp;(try with_reducible rfl))
 refine ae 7 hHeld ?_ (hy:=by intro w hSw;(try dsimp only at hSw);obtain ⟨f0,f1,f2,f3⟩:=(hSw.ce 0 rfl).c4;go_simp;(try with_reducible rfl))
 refine ae 8 hHeld ?_
 refine only 9 rfl (by kernel_rfl) rfl (fun K hK=>?_)
 go_simp
 refine(RD.out c _).mono ?_
 rintro e w4 ⟨rfl,hb⟩
 try go_wp2_with fail
 refine hK.out _ _ (hHeld.below hb) (fun h4=>?_)
 clear hK hb
 obtain ⟨r,hr⟩:∃r,r=fm (oI x.kind) p.r x.kind (dV p x.src x.fp) c:=⟨_,rfl⟩
 have BV:=hid (fun s (h:r=some s)=>RB.out c s (hr ▸ h))
 have k6:Hid (o=r.bind fun s=>if dO (p.s s.toNat).st=true then some s else none):=hid (by rw[cx.out,cI.out,hr];rfl)
 rw[←hr]
 clear hr RB cx HC cI
 unfold mX
 try simp only[Act.put,zA,zB,zC]
 refine ae 10 h4 ?_
 refine ae 11 h4 ?_
 refine ae 12 h4 ?_
 refine ae 13 h4 ?_
 refine ae 14 h4 ?_
 have S4:=hid h4
 clear h4 hHeld S3
 refine wpAnyH_done (by kernel_rfl) ?_ _
 cases r with
 |none=>
  have HR:Hid (o=none):=hid k6.out
  dsimp only[Option.getD,Option.isSome]
  go_wp2_with fail
  go_ret2
  exact⟨by rw[HR.out];rfl,S4.out.bl⟩
 |some s=>
  obtain ⟨hs0,hs1⟩:=BV.out s rfl
  obtain ⟨k,rfl⟩:∃k:Nat,s=(k:Int):=⟨s.toNat,by omega⟩
  have hk:k<64:=by omega
  have i0:(0:Int)≤k:=by omega
  have i1:(k:Int)<64:=by omega
  obtain ⟨q0,q1,q2,q3,q4⟩:=(SA.out.below S4.out.bl).s5 k hk
  have qB:=hid (fun (w':World)=>(show Calls Tryz.prog 23 #[.agg #[(p.s k).st,(p.s k).ad,(p.s k).po,(p.s k).we,(p.s k).si]] w' fun e w2=>e =.returned (.bool (dO (p.s k).st))∧Below w'.heap.size w' w2 from nF (p.s k) w'))
  have HR:Hid (o=if dO (p.s k).st=true then some (k:Int) else none):=hid k6.out
  clear BV k6
  dsimp only[Option.getD,Option.isSome]
  cases ht:dO (p.s k).st <;> rw[ht]at qB HR
  all_goals
   clear ht
   go_wp2_with fail
   refine(qB.out _).mono ?_
   rintro e w5 ⟨rfl,hb⟩
   have HB:=hid (then_ S4.out.bl hb)
   clear hb S4 q0 q1 q2 q3 q4
   go_simp
   go_wp2_with fail
   go_ret2
   exact⟨by rw[HR.out];rfl,HB.out⟩
 ):P:=h
set_option maxHeartbeats 4000000 in
theorem yi (p:Pl)(pb wb:Nat)(nr:Nat→Option Int)(x:Pk)(hkd:x.kind=1∨x.kind=2)(hp:Pt p)(AO:Option Addr)(cO:Nat)(AD:Option Addr)(cD:Nat)(w:World)(hS:fy w pb wb p nr)(hB:By w AO x.no x.go)(hg:aC x.go)(hn:x.no≤1000000)(hc:x.no≤cO)(hf:(dV p x.src x.fp).I) :
 Calls Tryz.prog 106 #[.pointer (some ⟨pb,0,none⟩),.agg #[x.kind,x.life,x.piece,x.src,x.dst,x.fp,x.tp,x.flags,x.label,x.bare,x.code,.slice AO x.no cO,.slice AD x.nd cD],.agg #[x.src,x.fp,p.a,p.p]] w fun e w'=>e =.returned (.tuple #[((iX p x).getD 0),(iX p x).isSome])∧Below w.heap.size w w':=by
 have ST:=hid (fun (w':World) (hb:Below w.heap.size w w')=>(show Calls Tryz.prog 20 #[.slice AO x.no cO] w' fun e w2=>e =.returned (.tuple #[(bV x).1,.int .u32 (bV x).2.1,.int .u32 (bV x).2.2.1,(bV x).2.2.2])∧Below w'.heap.size w' w2 from nG AO x.no cO x.go w' (Sl.below hB hb (Nat.le_refl _)) hg hn hc))
 have RD:=hid (fun (c:Int) (w':World)=>(show Calls Tryz.prog 141 #[.agg #[p.r.e,.int .u64 p.r.p.a,.int .u64 p.r.p.b,.int .u64 p.r.c.a,.int .u64 p.r.c.b,.int .u64 p.r.n.a,.int .u64 p.r.n.b],x.kind,.agg #[x.src,x.fp,p.a,p.p],c] w' fun e w2=>e =.returned (mX (fm (oI x.kind) p.r x.kind (dV p x.src x.fp) c))∧Below w'.heap.size w' w2 from by
  rcases hkd with h |h
  ·rw[h];exact Ha p.r (dV p x.src x.fp) c hf hp.2.1 w'
  rw[h];exact G_ p.r (dV p x.src x.fp) c hf hp.2.1 w'))
 have hu:=(lK hg).2
 have SA:=hid hS
 have S0:Hid (HS [] w w []):=hid HS.start
 have HC:Hid (gE x=if x.kind=2 then (if x.label=0 then none else some x.label) else if x.flags=1 then none else if (bV x).2.2.2=true then some ((bV x).2.2.1%1048576) else none):=hid rfl
 have cx:Hid (iX p x=(gE x).bind fun c=>(fm (oI x.kind) p.r x.kind (dV p x.src x.fp) c).bind fun s=>if dO (p.s s.toNat).st=true then some s else none):=hid rfl
 have RB:=hid (fun (c s:Int) (h:fm (oI x.kind) p.r x.kind (dV p x.src x.fp) c=some s)=>sK _ _ _ _ _ _ h)
 clear hS hB
 generalize bV x=z at ST hu HC
 obtain ⟨z1,z2,z3,z4⟩:=z
 dsimp only at ST hu HC
 have GT:=hid (fun w=>uS z3 hu w)
 clear hu
 obtain ⟨o,ho⟩:∃o,o=iX p x:=⟨_,rfl⟩
 rw[←ho]at cx ⊢
 clear ho
 go_enter Tryz.func106,Tryz.ntmps106
 go_upto_region 1 with (first | ((with_reducible refine ah ?_);refine ay rfl (fi (l:=[x.kind,x.life,x.piece,x.src,x.dst,x.fp,x.tp,x.flags,x.label,x.bare,x.code,.slice AO x.no cO,.slice AD x.nd cD]) rfl rfl (by simp) S0.out ?_);intro E w_ hZ _;have S1:=hid hZ;clear hZ) | ((with_reducible refine ah ?_);refine ay rfl (fi (l:=[x.src,x.fp,p.a,p.p]) rfl rfl (by simp) S1.out ?_);intro F w_ hZ _;have S2:=hid hZ;clear hZ))
 obtain ⟨y0,y1,y2,y3,y4,y5,y6,y7,y8,y9,al,ak,aj⟩:=(S2.out.ce 1 rfl).c13
 cases k1:(x.kind==1)
 ·have h2:x.kind=2:=by have:¬x.kind=1:=by simpa using k1
                       omega
  cases k0:(x.label==0)
  ·have cI:Hid (gE x=some x.label):=hid (by rw[HC.out,if_pos h2,if_neg (by simpa using k0)])
   obtain ⟨c,hc2⟩:∃c,c=x.label:=⟨_,rfl⟩
   rw[←hc2]at cI
   clear h2
   go_upto_region 9 with (fail)
   rw[←hc2]
   clear hc2 k0 k1 y0 y1 y2 y3 y4 y5 y6 y7 y8 y9 al ak aj
   have S3:=S2
   exact qQC
  have HR:Hid (o=none):=hid (by rw[cx.out,HC.out,if_pos h2,if_pos (by simpa using k0)];rfl)
  clear h2
  go_wp2_with fail
  go_ret2
  exact⟨by rw[HR.out];rfl,S2.out.bl⟩
 have h2:¬x.kind=2:=by have:x.kind=1:=by simpa using k1
                       omega
 replace h2:=hid h2
 go_wp2_with fail
 refine(ST.out _ S2.out.bl).mono ?_
 rintro e w3 ⟨rfl,hb⟩
 have S3:=hid (S2.out.below hb)
 clear hb S0 S1 S2 y0 y1 y2 y3 y4 y5 y6 y7 y8 y9 al ak aj ST
 obtain ⟨y0,y1,y2,y3,y4,y5,y6,y7,y8,y9,al,ak,aj⟩:=(S3.out.ce 1 rfl).c13
 go_simp
 cases z4 with
 |false=>
  have HR:Hid (o=none):=hid (by rw[cx.out,HC.out,if_neg h2.out,if_neg (show ¬(false=true) by decide)];split <;> rfl)
  go_wp2_with fail
  go_ret2
  exact⟨by rw[HR.out];rfl,S3.out.bl⟩
 |true=>
  cases kf:(x.flags==1)
  ·have cI:Hid (gE x=some (z3%1048576)):=hid (by rw[HC.out,if_neg h2.out,if_neg (by simpa using kf),if_pos rfl])
   go_wp2_with fail
   refine(GT.out _).mono ?_
   rintro e w' ⟨rfl,rfl⟩
   go_simp
   obtain ⟨c,hc2⟩:∃c,c=z3%1048576:=⟨_,rfl⟩
   rw[←hc2]at cI ⊢
   clear hc2
   go_upto_region 9 with (fail)
   clear kf k1 y0 y1 y2 y3 y4 y5 y6 y7 y8 y9 al ak aj
   exact qQC
  have HR:Hid (o=none):=hid (by rw[cx.out,HC.out,if_neg h2.out,if_pos (by simpa using kf)];rfl)
  go_wp2_with fail
  go_ret2
  exact⟨by rw[HR.out];rfl,S3.out.bl⟩
end Go.Proofs.YtalnfkijiehjhaaGreat
