import Derived.Test.YtalnfkijiehjhaaGreatGa
import Derived.Test.YtalnfkijiehjhaaGreatTpk
import Derived.Test.YtalnfkijiehjhaaGreatGx
import Derived.BigQuiet
import Derived.Deep.RegionHeld3
import Derived.Deep.Cut
import Derived.IntWalk
import Derived.Test.YtalnfkijiehjhaaGreatTth
import Derived.Test.YtalnfkijiehjhaaGreatWirBld5
import Derived.Test.YtalnfkijiehjhaaGreatWirBld6
import Derived.Test.YtalnfkijiehjhaaGreatGz
import Derived.Test.YtalnfkijiehjhaaGreatGu
namespace Go.Proofs.YtalnfkijiehjhaaGreat
open List renaming setIfInBounds_toArray→zA,set_cons_zero→zB,set_cons_succ→zC
set_option linter.unusedVariables false
set_option linter.unusedSimpArgs false
open Go.RowKit Go.ChangeShapes Go.WideShapes Go.ChangeAt
set_option maxRecDepth 100000
def g9 (j:Nat):Int:=if j=0 then 0 else 2
def gX:Pl:=fP g9 2
def je:Pk:={ kind:=2,life:=9,src:=1,dst:=10,fp:=2,tp:=80 }
theorem JN:gX.v=2:=by decide +kernel
theorem GD:Pt gX:=Gz g9 2 (by omega)
theorem GC:Pw gX:=xv g9 2
theorem JM {i:Nat}(hi:i<64):0<aX gX i→i=0:=by
 have h:∀i:Fin 64,0<aX gX i→(i:Nat)=0:=by decide +kernel
 exact h ⟨i,hi⟩
theorem vW:0<bw (aX gX) 64:=by decide +kernel
theorem ET {j:Nat}(hj:j<127):eC gX j=0:=by
 unfold eC
 rw[if_neg (by have:=vW;omega)]
 obtain ⟨i,h1,h2,h3⟩:=vz (at_:=cV gX) (gP:=cH gX) vW (xN gX) j hj
 rw[h3,JM h1 h2]
 rfl
theorem Dt:aC je=0:=by decide +kernel
theorem Kr:aJ je=24:=by decide +kernel
theorem GF:gX.a=10∧gX.p=80:=ug g9 2
theorem FM (s:Int)(c:Bool)(F G:Nat→Int)(nr:Nat→Option Int)(h1:s=0)(h2:c=false)(h3:F=G):(⟨0,s,c,24,F,nr⟩:To)=⟨0,0,false,24,G,nr⟩:=by rw[h1,h2,h3]
attribute [local irreducible] gX og aF eC iQ
theorem EV (nr:Nat→Option Int):∃F,df gX true nr (aF je) 24=⟨0,0,false,24,F,nr⟩:=by
 have c0:az (fun _=>(0:Int)):=fun _=>⟨(by decide:(0:Int)≤0),(by decide:(0:Int)≤255)⟩
 have hq:=fL (p:=je) c0 c0 Dt
 have pe:=j7 (p:=je) c0 c0 Dt ⟨fun h=>absurd h (by decide),fun _=>⟨rfl,rfl⟩,fun h=>absurd rfl h,fun _=>rfl⟩
 rw[Kr]at hq pe
 have ha:=GF
 have hc:iy je=none:=by unfold iy;rw[if_pos (by rfl),if_pos (by rfl)]
 have hb:iT gX je=none:=by unfold iT;rw[hc];rfl
 have b:=qO (fx gX je.src je.fp)
 obtain ⟨j,hj⟩:∃j:Nat,j=(iQ (fx gX je.src je.fp)).toNat:=⟨_,rfl⟩
 have Nl:j<127:=by rw[hj];generalize iQ (fx gX je.src je.fp)=z at b;omega
 have hs:jJ gX je=0:=by unfold jJ;rw[hb];show eC gX (iQ (fx gX je.src je.fp)).toNat=0;rw[←hj];exact ET Nl
 refine⟨og gX nr (aF je) 24 je 0,?_⟩
 rw[vG hq pe rfl (by show (1:Int)<9;decide) (by show (2:Int)≠3;decide) ⟨ha.1.symm,ha.2.symm⟩]
 unfold inT
 rw[hs,if_neg (by decide),hb]
 exact FM _ _ _ _ _ rfl rfl (by rw[Int.toNat_zero])
end Go.Proofs.YtalnfkijiehjhaaGreat
namespace Go.Proofs.YtalnfkijiehjhaaGreat
open List renaming setIfInBounds_toArray→zA,set_cons_zero→zB,set_cons_succ→zC
set_option linter.unusedVariables false
set_option linter.unusedSimpArgs false
open Go.RowKit Go.ChangeShapes Go.WideShapes Go.ChangeAt
theorem Bd (p:Pk)(hk:p.kind=1∨p.kind=2)(AO:Option Addr)(cO:Nat)(AD:Option Addr)(cD:Nat)(w:World)(HO:By w AO p.no p.go)(HD:By w AD p.nd p.gd)(hgo:az p.go)(hgd:az p.gd)(h1:p.no≤1000000)(h2:p.nd≤1000000) :
 Calls Tryz.prog 28 #[.agg #[p.kind,p.life,p.piece,p.src,p.dst,p.fp,p.tp,p.flags,p.label,p.bare,p.code,.slice AO p.no cO,.slice AD p.nd cD]] w (iB w (aC p) (aJ p) (aF p)):=by
 rcases hk with h |h
 ·exact vj p AO cO AD cD w HO HD hgo hgd h1 h2 (hid h)
 exact vi p AO cO AD cD w HO HD hgo hgd h1 h2 (hid h)
theorem Co {S:List Nat}{W w:World}{L:List Th}(hS:HS S W w L)(p:Pk)(hk:p.kind=1∨p.kind=2)(n:Nat)(F:Nat→Int)(hL:n=aJ p)(hF:F=aF p)(hE:aC p=0)(hgo:az p.go)(hgd:az p.gd)(h1:p.no≤1000000)(h2:p.nd≤1000000)(AO:Option Addr)(cO:Nat)(AD:Option Addr)(cD:Nat)(HO:By w AO p.no p.go)(HD:By w AD p.nd p.gd) :
 Calls Tryz.prog 28 #[.agg #[p.kind,p.life,p.piece,p.src,p.dst,p.fp,p.tp,p.flags,p.label,p.bare,p.code,.slice AO p.no cO,.slice AD p.nd cD]] w fun e w'=>∃A c,e =.returned (.tuple #[.slice A n c,()])∧HS S W w' (dx (.slice A n c) n F::L)∧n≤c:=by
 subst hL hF
 have h:=Bd p hk AO cO AD cD w HO HD hgo hgd h1 h2
 rw[hE]at h
 refine h.mono ?_
 rintro e w' h
 obtain ⟨A,c,rfl,hO,hc,hb⟩:=pg h
 exact⟨A,c,rfl,hS.pX hb hO,hc⟩
set_option maxRecDepth 100000
theorem Ad (w:World):(Instr.build 86 #[]).run Tryz.prog w =.ok (.agg (FA 130 (fO none false js))) w:=run_build w _ _ _ (by kernel_rfl)
theorem Be (j:Nat):(fO none false js j).oneCell'=true:=by
 unfold fO js
 split
 ·rfl
 split
 ·rfl
 split <;> rfl
attribute [local irreducible] FA FL
set_option maxHeartbeats 9000000 in
theorem Eh {w:World}{pb:Nat}{f:Nat→Value}(hF:Fb w pb 130 (fO none false f))(v:Value):Calls Tryz.prog 16 #[.pointer (some ⟨pb,0,none⟩),v] w fun e w'=>e =.returned (.agg #[.int .i64 10,.int .i64 (-1),false,.slice none 0 0])∧Below w.heap.size w w':=by
 have HF:=hid hF
 have S0:Hid (HS [] w w []):=hid HS.start
 clear hF
 go_enter Tryz.func16,Tryz.ntmps16
 go_upto_region 1 with ((with_reducible refine ay ?_);refine aS rfl (bZ rfl (px _) (by simp) S0.out ?_);intro U w_ hZ _;have S1:=hid hZ;clear hZ)
 have hF1:=HF.out.below S1.out.bl
 have c0:w_.cell? ⟨pb,0,none⟩=some (.pointer none):=hF1.2.1 0 (by omega)
 have c1:w_.cell? ⟨pb,1,none⟩=some (.bool false):=hF1.2.1 1 (by omega)
 clear hF1
 go_wp2_with fail
 refine(lv none false _).mono ?_
 rintro e w2 ⟨rfl,hb⟩
 have S2:=hid (S1.out.below hb)
 clear hb S0 S1 c0 c1
 go_simp
 go_wp2_with fail
 refine(fK 10 _).mono ?_
 rintro e w3 ⟨rfl,hb⟩
 have S3:=hid (S2.out.below hb)
 clear hb S2
 unfold gH
 go_simp
 go_wp2_with ((with_reducible refine ay ?_);refine aS rfl (aT (A:=[]) [.int .i64 10,.int .i64 (-1),false,.slice none 0 0] rfl rfl (rfl) S3.out rfl dY rfl ?_);intro w_ hZ;have S4:=hid hZ;clear hZ;(first |refine aW ?_ |refine bP ?_);apply_assumption;refine wp_ret ?_;(repeat (first |refine aV ?_ |refine gC ?_));(show bodyPost _ _ _ _ _ _);exact bodyPost_ret (v:=.agg ([.int .i64 10,.int .i64 (-1),false,.slice none 0 0]:List Value).toArray) (bQ Tryz.results16 _ rfl (S4.out.ce 0 rfl) Tryz.underlying45 rfl dY) rfl ⟨rfl,S4.out.bl⟩)
theorem Gv {w:World}{pb sb:Nat}{nr:Nat→Option Int}(hF:Fb w pb 130 (dD sb nr))(s:Nat)(hs:s<64):Calls Tryz.prog 26 #[.pointer (some ⟨pb,0,none⟩),(s:Int)] w fun e w'=>e =.returned (.tuple #[.int .u32 ((nr s).getD 0),(nr s).isSome])∧Below w.heap.size w w':=by
 obtain ⟨n0,n1⟩:=rR hF s hs
 have i0:(0:Int)≤s:=by omega
 have i1:(s:Int)<64:=by omega
 have G:=hid (fun (w:World)=>oA ((nr s).getD 0) (nr s).isSome w)
 generalize (nr s).getD 0=v at *
 generalize (nr s).isSome=b at *
 clear hF
 go_enter Tryz.func26,Tryz.ntmps26
 go_wp2_with fail
 refine(G.out _).mono ?_
 rintro e w2 ⟨rfl,hb⟩
 go_simp
 go_wp2_with fail
 go_ret2
 exact⟨rfl,hb⟩
theorem FF {w:World}{pb sb wb:Nat}{p:Pl}{nr:Nat→Option Int}(hF:Fb w pb 130 (dD sb nr))(hS:iz w sb wb p):Calls Tryz.prog 25 #[.pointer (some ⟨pb,0,none⟩)] w fun e w'=>e =.returned (.tuple #[p.v,true])∧Below w.heap.size w w':=by
 have c0:w.cell? ⟨pb,0,none⟩=some (.pointer (some ⟨sb,0,none⟩)):=hF.2.1 0 (by omega)
 have c1:w.cell? ⟨pb,1,none⟩=some (.bool true):=hF.2.1 1 (by omega)
 have SV:=hid (fun (w':World) (hb:Below w.heap.size w w')=>(show w'.cell? ⟨sb,0,none⟩=some (.int .i64 p.v) from (hb.cell (p:=⟨sb,0,none⟩) hS.pl.1).trans (hS.pl.2.1 0 (by omega))))
 clear hF hS
 go_enter Tryz.func25,Tryz.ntmps25
 go_wp2_with fail
 refine(lv (some ⟨sb,0,none⟩) true _).mono ?_
 rintro e w2 ⟨rfl,hb⟩
 have sv:=SV.out _ hb
 clear c0 c1
 go_simp
 go_wp2_with fail
 go_ret2
 exact⟨rfl,hb⟩
theorem FG {w:World}{pb:Nat}{f:Nat→Value}(hF:Fb w pb 130 (fO none false f)):Calls Tryz.prog 25 #[.pointer (some ⟨pb,0,none⟩)] w fun e w'=>e =.returned (.tuple #[(),false])∧Below w.heap.size w w':=by
 have c0:w.cell? ⟨pb,0,none⟩=some (.pointer none):=hF.2.1 0 (by omega)
 have c1:w.cell? ⟨pb,1,none⟩=some (.bool false):=hF.2.1 1 (by omega)
 clear hF
 go_enter Tryz.func25,Tryz.ntmps25
 go_wp2_with fail
 refine(lv none false _).mono ?_
 rintro e w2 ⟨rfl,hb⟩
 clear c0 c1
 go_simp
 go_wp2_with fail
 go_ret2
 exact⟨rfl,hb⟩
set_option maxHeartbeats 9000000 in
theorem E7 {S:List Nat}{W w:World}{A B:List Th}{pb:Nat}{f:Nat→Value}(hS:HS S W w (A++aP pb 130 f::B)):Calls Tryz.prog 24 #[.pointer (some ⟨pb,0,none⟩)] w fun x w'=>x =.returned (.tuple #[])∧HS S W w' (A++aP pb 130 (fO none false js)::B):=by
 have hP:Fb w pb 130 f:=hS.1 (aP pb 130 f) (by simp)
 have ST:=hid (hP.store (T:=86) 0 130 (fO none false js) (by omega) xD Be)
 have S1:=hid (hS.set 0 130 (fO none false js) (by omega) (fO none false js) (fun j hj=>nY _ _ _ j hj))
 clear hP hS
 go_enter Tryz.func24,Tryz.ntmps24
 go_upto_region 0 with (fail)
 apply wp_region_lit
 refine dV (v:=?_) rfl ?_ ?_;rotate_left;(focus (go_simp;(try with_reducible rfl)));(try simp only[Act.put,zA,zB,zC])
 refine dV (v:=.agg (FA 130 (fO none false js))) rfl (by unfold execOp;simp only[List.map_toArray,List.map_nil,Sem.run_bind,Ad,Result.andThen_ok,Sem.run_pure]) ?_
 try simp only[Act.put,zA,zB,zC]
 refine dV (v:=?_) rfl ?_ ?_;rotate_left;(focus (go_simp;(try with_reducible rfl)));(try simp only[Act.put,zA,zB,zC])
 refine aS rfl (fI rfl rfl rfl ST.out ?_)
 try simp only[Act.put,zA,zB,zC]
 generalize w.setCells pb 0 (FL 130 (fO none false js))=w2 at *
 go_wp2_with fail
 go_end0
 exact⟨rfl,S1.out⟩
end Go.Proofs.YtalnfkijiehjhaaGreat
namespace Go.Proofs.YtalnfkijiehjhaaGreat
set_option linter.unusedVariables false
set_option linter.unusedSimpArgs false
open Go.RowKit Go.ChangeShapes Go.WideShapes Go.ChangeAt
set_option maxRecDepth 100000
theorem GJ {w:World}{b:Nat}(h:Ce w b [(),.int .i64 2]):Is w (some ⟨b,0,none⟩) 2 g9:=by
 intro _
 refine⟨b,0,rfl,h.1,fun j hj=>?_⟩
 rw[Nat.zero_add]
 match j,hj with
 |0,_=>exact h.2.1 0 _ rfl
 |1,_=>exact h.2.1 1 _ rfl
theorem Bu (w:World)(b:Nat)(h:Ce w b [(),.int .i64 2]):Calls Tryz.prog 9 #[.slice (some ⟨b,0,none⟩) 2 2,.int .i64 2] w fun x w'=>x =.returned (.agg (FA 330 (pc gX)))∧Below w.heap.size w w':=
 sB w (some ⟨b,0,none⟩) 2 2 g9 (GJ h) (fun ad e _=>by injection e with e;rw[←e];exact h.1) (by omega) 2 (by omega)
attribute [local irreducible] FA FL gX aF
set_option maxHeartbeats 9000000 in
theorem Mv (W:World):Calls Tryz.prog 8 #[] W fun e w'=>e =.returned (.bool true)∧Below W.heap.size W w':=by
 obtain ⟨F,hT⟩:=EV (fun _=>none)
 obtain ⟨q,hq⟩:∃q,q=gX:=⟨_,rfl⟩
 have hv:q.v=2:=by rw[hq];exact JN
 have OP:=hid (show Pt q from by rw[hq];exact GD)
 have mU:=hid (show Pw q from by rw[hq];exact GC)
 rw[←hq]at hT
 have OA:=hid (fun (w:World) (b:Nat) (h:Ce w b [(),.int .i64 2])=>(show Calls Tryz.prog 9 #[.slice (some ⟨b,0,none⟩) 2 2,.int .i64 2] w fun x w'=>x =.returned (.agg (FA 330 (pc q)))∧Below w.heap.size w w' from by rw[hq];exact Bu w b h))
 obtain ⟨G9,hG⟩:∃G,G=aF je:=⟨_,rfl⟩
 rw[←hG]at hT
 have BG:=hid (show az G9 from by rw[hG];exact gU oL oL Dt)
 have KG:=hid (show G9 0=2 from by rw[hG,dU (by omega),gv];rfl)
 have Ly:=hid (fun (w:World) (L:List Th) (h:HS [] W w L)=>(show Calls Tryz.prog 28 #[.agg #[.int .i64 2,.int .i64 9,(),.int .i64 1,.int .i64 10,.int .i64 2,.int .i64 80,(),(),false,(),.slice none 0 0,.slice none 0 0]] w fun e w'=>∃A c,e =.returned (.tuple #[.slice A 24 c,()])∧HS [] W w' (dx (.slice A 24 c) 24 G9::L)∧24≤c from Co h je (.inr rfl) 24 G9 Kr.symm hG Dt oL oL (by show 0≤1000000;decide) (by show 0≤1000000;decide) none 0 none 0 (fun h=>absurd h (by show ¬0<0;decide)) (fun h=>absurd h (by show ¬0<0;decide))))
 have Lb:=hid (fun (w:World) (pb sb wb:Nat) (hF:Fb w pb 130 (dD sb (fun _=>none))) (hS:iz w sb wb q)=>(show Calls Tryz.prog 25 #[.pointer (some ⟨pb,0,none⟩)] w fun e w'=>e =.returned (.tuple #[.int .i64 2,true])∧Below w.heap.size w w' from by have h:=FF hF hS;rw[hv]at h;exact h))
 have Li:=hid (fun (w:World) (pb sb:Nat) (hF:Fb w pb 130 (dD sb (fun _=>none)))=>(show Calls Tryz.prog 26 #[.pointer (some ⟨pb,0,none⟩),()] w fun e w'=>e =.returned (.tuple #[.int .u32 0,false])∧Below w.heap.size w w' from Gv hF 0 (by omega)))
 have HT:=hid hT
 have OT:=hid (show mB (fun _=>none) from fun j v h=>by cases h)
 clear hT hv hq hG
 have S0:Hid (HS [] W W []):=hid HS.start
 go_enter Tryz.func8,Tryz.ntmps8
 go_wp2_with fail
 refine(plane_new S0.out).mono ?_
 rintro e w1 ⟨pb,rfl,hz⟩
 have S1:Hid (HS [] W w1 [aP pb 130 (fO none false js)]):=hid (hz)
 clear hz S0
 go_simp
 go_wp2_with fail
 refine(Eh (S1.out.fb 0 rfl) _).mono ?_
 rintro e w2 ⟨rfl,hb⟩
 have S2:Hid (HS [] W w2 [aP pb 130 (fO none false js)]):=hid (S1.out.below hb)
 clear hb S1
 go_simp
 go_upto_region 5 with (first | ((with_reducible refine ay ?_);refine aS rfl (bZ rfl (px _) (by simp) S2.out ?_);intro V w_ hZ _;have SY:=hid hZ;clear hZ) | ((with_reducible refine ay ?_);refine aS rfl (aT (A:=[]) [.int .i64 10,.int .i64 (-1),false,.slice none 0 0] rfl rfl (rfl) SY.out rfl dY rfl ?_);intro w_ hZ;have SX:=hid hZ;clear hZ))
 have S3:Hid (HS [] W _ [aB V [.int .i64 10,.int .i64 (-1),false,.slice none 0 0],aP pb 130 (fO none false js)]):=hid (SX.out)
 clear SX SY S2
 go_wp2_with fail
 have U1:=HS.cells S3.out [(),.int .i64 2] (T:=3)
 refine(OA.out _ _ (U1.ce 0 rfl)).mono ?_
 rintro e w3 ⟨rfl,hb⟩
 have S4:Hid (HS [] W w3 [aB V [.int .i64 10,.int .i64 (-1),false,.slice none 0 0],aP pb 130 (fO none false js)]):=hid (U1.tail.below hb)
 clear hb U1 S3
 go_simp
 go_upto_region 6 with (first | ((with_reducible refine ay ?_);refine aS rfl (t9 rfl (LD _) (by omega) S4.out ?_);intro P w_ hZ _;have SA:=hid hZ;clear hZ) | ((with_reducible refine ay ?_);refine aS rfl (lk (A:=[]) 0 330 (pc q) (pc q) rfl rfl rfl SA.out (by omega) (fun j hj=>nY _ _ _ j hj) lp (t5 _) ?_);intro w_ hZ;have SX:=hid hZ;clear hZ))
 have S5:Hid (HS [] W _ [aP P 330 (pc q),aB V [.int .i64 10,.int .i64 (-1),false,.slice none 0 0],aP pb 130 (fO none false js)]):=hid (SX.out)
 clear SX SA S4
 go_wp2_with ((with_reducible refine ay ?_);refine aS rfl (vQ 0 rfl 0 330 (pc q) rfl rfl S5.out (by omega) (fun j hj=>by rw[Nat.zero_add]) Tryz.underlying34 rfl lp ?_))
 refine(Aa (A:=[aP P 330 (pc q),aB V [.int .i64 10,.int .i64 (-1),false,.slice none 0 0]]) (B:=[]) (nr:=fun _=>none) S5.out q mU.out).mono ?_
 rintro e w4 ⟨rfl,sb,wb,hne,hz⟩
 have S6:Hid (HS [] W w4 [kg sb wb q,aP P 330 (pc q),aB V [.int .i64 10,.int .i64 (-1),false,.slice none 0 0],aP pb 130 (dD sb (fun _=>none))]):=hid (hz)
 clear hz S5
 have OQ:=hid hne
 clear hne
 go_simp
 go_wp2_with fail
 refine(Lb.out _ _ _ _ (S6.out.fb 3 rfl) (S6.out.st 0 rfl)).mono ?_
 rintro e w5 ⟨rfl,hb⟩
 have S7:Hid (HS [] W w5 [kg sb wb q,aP P 330 (pc q),aB V [.int .i64 10,.int .i64 (-1),false,.slice none 0 0],aP pb 130 (dD sb (fun _=>none))]):=hid (S6.out.below hb)
 clear hb S6 Lb
 go_simp
 go_wp2_with fail
 refine(Ly.out _ _ S7.out).mono ?_
 rintro e w6 ⟨AQ,cQ,rfl,hz,hcc⟩
 have S8:Hid (HS [] W w6 [dx (.slice AQ 24 cQ) 24 G9,kg sb wb q,aP P 330 (pc q),aB V [.int .i64 10,.int .i64 (-1),false,.slice none 0 0],aP pb 130 (dD sb (fun _=>none))]):=hid (hz)
 clear hz S7 Ly
 have OV:=hid hcc
 clear hcc
 go_simp
 go_wp2_with fail
 refine(H9 (A:=[dx (.slice AQ 24 cQ) 24 G9,kg sb wb q,aP P 330 (pc q),aB V [.int .i64 10,.int .i64 (-1),false,.slice none 0 0]]) (B:=[]) S8.out (S8.out.st 1 rfl) OQ.out OP.out OT.out G9 24 cQ AQ BG.out (by omega) (fun _=>by rw[KG.out];decide) (S8.out.gP 0 rfl) OV.out _ HT.out).mono ?_
 rintro e w7 ⟨AR,cR,rfl,hz,hcc⟩
 dsimp only at hz hcc ⊢
 have S9:Hid (HS [] W w7 [dx (.slice AR 24 cR) 24 F,dx (.slice AQ 24 cQ) 24 G9,kg sb wb q,aP P 330 (pc q),aB V [.int .i64 10,.int .i64 (-1),false,.slice none 0 0],aP pb 130 (dD sb (fun _=>none))]):=hid (hz)
 clear hz hcc S8
 go_simp
 go_upto_region 10 with (first | ((with_reducible refine ay ?_);refine aS rfl (bZ rfl (px _) (by simp) S9.out ?_);intro V2 w_ hZ _;have SY:=hid hZ;clear hZ) | ((with_reducible refine ay ?_);refine aS rfl (aT (A:=[]) [(),(),false,.slice AR 24 cR] rfl rfl (rfl) SY.out rfl dY rfl ?_);intro w_ hZ;have SX:=hid hZ;clear hZ))
 have iJ:Hid (HS [] W _ [aB V2 [(),(),false,.slice AR 24 cR],dx (.slice AR 24 cR) 24 F,dx (.slice AQ 24 cQ) 24 G9,kg sb wb q,aP P 330 (pc q),aB V [.int .i64 10,.int .i64 (-1),false,.slice none 0 0],aP pb 130 (dD sb (fun _=>none))]):=hid (SX.out)
 clear SX SY S9
 go_wp2_with fail
 refine(Li.out _ _ _ (iJ.out.fb 6 rfl)).mono ?_
 rintro e w8 ⟨rfl,hb⟩
 have gi:Hid (HS [] W w8 [aB V2 [(),(),false,.slice AR 24 cR],dx (.slice AR 24 cR) 24 F,dx (.slice AQ 24 cQ) 24 G9,kg sb wb q,aP P 330 (pc q),aB V [.int .i64 10,.int .i64 (-1),false,.slice none 0 0],aP pb 130 (dD sb (fun _=>none))]):=hid (iJ.out.below hb)
 clear hb iJ Li
 go_simp
 go_wp2_with fail
 refine(E7 (A:=[aB V2 [(),(),false,.slice AR 24 cR],dx (.slice AR 24 cR) 24 F,dx (.slice AQ 24 cQ) 24 G9,kg sb wb q,aP P 330 (pc q),aB V [.int .i64 10,.int .i64 (-1),false,.slice none 0 0]]) (B:=[]) gi.out).mono ?_
 rintro e w9 ⟨rfl,hz⟩
 have kC:Hid (HS [] W w9 [aB V2 [(),(),false,.slice AR 24 cR],dx (.slice AR 24 cR) 24 F,dx (.slice AQ 24 cQ) 24 G9,kg sb wb q,aP P 330 (pc q),aB V [.int .i64 10,.int .i64 (-1),false,.slice none 0 0],aP pb 130 (fO none false js)]):=hid (hz)
 clear hz gi
 go_simp
 go_wp2_with fail
 refine(FG (kC.out.fb 6 rfl)).mono ?_
 rintro e eW ⟨rfl,hb⟩
 have de:Hid (HS [] W eW [aB V2 [(),(),false,.slice AR 24 cR],dx (.slice AR 24 cR) 24 F,dx (.slice AQ 24 cQ) 24 G9,kg sb wb q,aP P 330 (pc q),aB V [.int .i64 10,.int .i64 (-1),false,.slice none 0 0],aP pb 130 (fO none false js)]):=hid (kC.out.below hb)
 clear hb kC
 go_simp
 obtain ⟨f0,f1,f2,f3⟩:=(de.out.ce 0 rfl).c4
 obtain ⟨e0,e1,e2,e3⟩:=(de.out.ce 5 rfl).c4
 go_wp2_with fail
 go_ret
 exact⟨by simp,de.out.bl⟩
end Go.Proofs.YtalnfkijiehjhaaGreat
