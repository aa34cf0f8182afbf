/- The pool and the packet of stage 9's known. Build of the reference, by things. A unit's Near, Version, Crash; Take of one that is down. Stage 9's known; a unit that is up. -/
import Derived.Test.YtalnfkijiehjhaaGreatGa
import Derived.Test.YtalnfkijiehjhaaGreatTpk
import Derived.Test.YtalnfkijiehjhaaGreatGx
import Derived.BigQuiet
import Derived.Deep.RegionHeld3
import Derived.Deep.Cut
import Derived.IntWalk
import Derived.Test.YtalnfkijiehjhaaGreatTth
import Derived.Test.YtalnfkijiehjhaaGreatWirBld5
import Derived.Test.YtalnfkijiehjhaaGreatWirBld6
import Derived.Test.YtalnfkijiehjhaaGreatGz
import Derived.Test.YtalnfkijiehjhaaGreatGu
namespace Go.Proofs.YtalnfkijiehjhaaGreat
set_option linter.unusedVariables false
set_option linter.unusedSimpArgs false
open Go.RowKit Go.ChangeShapes Go.WideShapes Go.ChangeAt
set_option maxRecDepth 100000
def g9 (j:Nat):Int:=if j=0 then 0 else 2
def iu:Pl:=fP g9 2
def jr:Pk:={ kind:=2,life:=9,src:=1,dst:=10,fp:=2,tp:=80 }
theorem KB:iu.v=2:=by decide +kernel
theorem Ie:Pt iu:=vd g9 2 (by omega)
theorem Ic:Pw iu:=rQ g9 2
theorem KA {i:Nat}(hi:i<64):0<bm iu i→i=0:=by
 have h:∀i:Fin 64,0<bm iu i→(i:Nat)=0:=by decide +kernel
 exact h ⟨i,hi⟩
theorem xm:0<bz (bm iu) 64:=by decide +kernel
theorem Gg {j:Nat}(hj:j<127):cF iu j=0:=by
 unfold cF
 rw[if_neg (by have:=xm;omega)]
 obtain ⟨i,h1,h2,h3⟩:=wT (at_:=df iu) (fh:=cX iu) xm (yJ iu) j hj
 rw[h3,KA h1 h2]
 rfl
theorem EH:aG jr=0:=by decide +kernel
theorem Lk:aU jr=24:=by decide +kernel
theorem If:iu.a=10∧iu.p=80:=oX g9 2
theorem GU (s:Int)(c:Bool)(F G:Nat→Int)(nr:Nat→Option Int)(h1:s=0)(h2:c=false)(h3:F=G):(⟨0,s,c,24,F,nr⟩:To)=⟨0,0,false,24,G,nr⟩:=by rw[h1,h2,h3]
attribute [local irreducible] iu oo aP cF jI
theorem Gi (nr:Nat→Option Int):∃F,cY iu true nr (aP jr) 24=⟨0,0,false,24,F,nr⟩:=by
 have c0:aC (fun _=>(0:Int)):=fun _=>⟨(by decide:(0:Int)≤0),(by decide:(0:Int)≤255)⟩
 have hq:=lY (p:=jr) c0 c0 EH
 have pe:=wM (p:=jr) c0 c0 EH ⟨fun h=>absurd h (by decide),fun _=>⟨rfl,rfl⟩,fun h=>absurd rfl h,fun _=>rfl⟩
 rw[Lk]at hq pe
 have ha:=If
 have hc:gE jr=none:=by unfold gE;rw[if_pos (by rfl),if_pos (by rfl)]
 have hb:iX iu jr=none:=by unfold iX;rw[hc];rfl
 have b:=uY (dV iu jr.src jr.fp)
 obtain ⟨j,hj⟩:∃j:Nat,j=(jI (dV iu jr.src jr.fp)).toNat:=⟨_,rfl⟩
 have Oc:j<127:=by rw[hj];generalize jI (dV iu jr.src jr.fp)=z at b;omega
 have hs:iq iu jr=0:=by unfold iq;rw[hb];show cF iu (jI (dV iu jr.src jr.fp)).toNat=0;rw[←hj];exact Gg Oc
 refine⟨oo iu nr (aP jr) 24 jr 0,?_⟩
 rw[Fz hq pe rfl (by show (1:Int)<9;decide) (by show (2:Int)≠3;decide) ⟨ha.1.symm,ha.2.symm⟩]
 unfold inT
 rw[hs,if_neg (by decide),hb]
 exact GU _ _ _ _ _ rfl rfl (by rw[Int.toNat_zero])
end Go.Proofs.YtalnfkijiehjhaaGreat
namespace Go.Proofs.YtalnfkijiehjhaaGreat
open List renaming setIfInBounds_toArray→zA,set_cons_zero→zB,set_cons_succ→zC
set_option linter.unusedVariables false
set_option linter.unusedSimpArgs false
open Go.RowKit Go.ChangeShapes Go.WideShapes Go.ChangeAt
theorem Df (p:Pk)(hk:p.kind=1∨p.kind=2)(AO:Option Addr)(cO:Nat)(AD:Option Addr)(cD:Nat)(w:World)(HO:By w AO p.no p.go)(HD:By w AD p.nd p.gd)(hgo:aC p.go)(hgd:aC p.gd)(h1:p.no≤1000000)(h2:p.nd≤1000000) :
 Calls Tryz.prog 28 #[.agg #[p.kind,p.life,p.piece,p.src,p.dst,p.fp,p.tp,p.flags,p.label,p.bare,p.code,.slice AO p.no cO,.slice AD p.nd cD]] w (ij w (aG p) (aU p) (aP p)):=by
 rcases hk with h |h
 ·exact qo p AO cO AD cD w HO HD hgo hgd h1 h2 (hid h)
 exact qn p AO cO AD cD w HO HD hgo hgd h1 h2 (hid h)
theorem D_ {S:List Nat}{W w:World}{L:List Th}(hS:HS S W w L)(p:Pk)(hk:p.kind=1∨p.kind=2)(n:Nat)(F:Nat→Int)(hL:n=aU p)(hF:F=aP p)(hE:aG p=0)(hgo:aC p.go)(hgd:aC p.gd)(h1:p.no≤1000000)(h2:p.nd≤1000000)(AO:Option Addr)(cO:Nat)(AD:Option Addr)(cD:Nat)(HO:By w AO p.no p.go)(HD:By w AD p.nd p.gd) :
 Calls Tryz.prog 28 #[.agg #[p.kind,p.life,p.piece,p.src,p.dst,p.fp,p.tp,p.flags,p.label,p.bare,p.code,.slice AO p.no cO,.slice AD p.nd cD]] w fun e w'=>∃A c,e =.returned (.tuple #[.slice A n c,()])∧HS S W w' (bS (.slice A n c) n F::L)∧n≤c:=by
 subst hL hF
 have h:=Df p hk AO cO AD cD w HO HD hgo hgd h1 h2
 rw[hE]at h
 refine h.mono ?_
 rintro e w' h
 obtain ⟨A,c,rfl,hO,hc,hb⟩:=sP h
 exact⟨A,c,rfl,hS.qZ hb hO,hc⟩
set_option maxRecDepth 100000
theorem BH (w:World):(Instr.build 86 #[]).run Tryz.prog w =.ok (.agg (FA 130 (fY none false jK))) w:=run_build w _ _ _ (by kernel_rfl)
theorem Dh (j:Nat):(fY none false jK j).oneCell'=true:=by
 unfold fY jK
 split
 ·rfl
 split
 ·rfl
 split <;> rfl
attribute [local irreducible] FA FL
set_option maxHeartbeats 4000000 in
theorem FC {w:World}{pb:Nat}{f:Nat→Value}(hF:Fb w pb 130 (fY none false f))(v:Value):Calls Tryz.prog 16 #[.pointer (some ⟨pb,0,none⟩),v] w fun e w'=>e =.returned (.agg #[.int .i64 10,.int .i64 (-1),false,.slice none 0 0])∧Below w.heap.size w w':=by
 have HF:=hid hF
 have S0:Hid (HS [] w w []):=hid HS.start
 clear hF
 go_enter Tryz.func16,Tryz.ntmps16
 go_upto_region 1 with ((with_reducible refine ah ?_);refine ay rfl (bw rfl (oC _) (by simp) S0.out ?_);intro U w_ hZ _;have S1:=hid hZ;clear hZ)
 have hF1:=HF.out.below S1.out.bl
 have c0:w_.cell? ⟨pb,0,none⟩=some (.pointer none):=hF1.2.1 0 (by omega)
 have c1:w_.cell? ⟨pb,1,none⟩=some (.bool false):=hF1.2.1 1 (by omega)
 clear hF1
 go_wp2_with fail
 refine(lT none false _).mono ?_
 rintro e w2 ⟨rfl,hb⟩
 have S2:=hid (S1.out.below hb)
 clear hb S0 S1 c0 c1
 go_simp
 go_wp2_with fail
 refine(fT 10 _).mono ?_
 rintro e w3 ⟨rfl,hb⟩
 have S3:=hid (S2.out.below hb)
 clear hb S2
 unfold eN
 go_simp
 go_wp2_with ((with_reducible refine ah ?_);refine ay rfl (aB (A:=[]) [.int .i64 10,.int .i64 (-1),false,.slice none 0 0] rfl rfl (rfl) S3.out rfl d9 rfl ?_);intro w_ hZ;have S4:=hid hZ;clear hZ;(first |refine aJ ?_ |refine aR ?_);apply_assumption;refine wp_ret ?_;(repeat (first |refine aI ?_ |refine dL ?_));(show bodyPost _ _ _ _ _ _);exact bodyPost_ret (v:=.agg ([.int .i64 10,.int .i64 (-1),false,.slice none 0 0]:List Value).toArray) (aS Tryz.results16 _ rfl (S4.out.ce 0 rfl) Tryz.underlying45 rfl d9) rfl ⟨rfl,S4.out.bl⟩)
theorem AE {w:World}{pb sb:Nat}{nr:Nat→Option Int}(hF:Fb w pb 130 (dw sb nr))(s:Nat)(hs:s<64):Calls Tryz.prog 26 #[.pointer (some ⟨pb,0,none⟩),(s:Int)] w fun e w'=>e =.returned (.tuple #[.int .u32 ((nr s).getD 0),(nr s).isSome])∧Below w.heap.size w w':=by
 obtain ⟨n0,n1⟩:=sT hF s hs
 have i0:(0:Int)≤s:=by omega
 have i1:(s:Int)<64:=by omega
 have G:=hid (fun (w:World)=>pa ((nr s).getD 0) (nr s).isSome w)
 generalize (nr s).getD 0=v at *
 generalize (nr s).isSome=b at *
 clear hF
 go_enter Tryz.func26,Tryz.ntmps26
 go_wp2_with fail
 refine(G.out _).mono ?_
 rintro e w2 ⟨rfl,hb⟩
 go_simp
 go_wp2_with fail
 go_ret2
 exact⟨rfl,hb⟩
theorem GL {w:World}{pb sb wb:Nat}{p:Pl}{nr:Nat→Option Int}(hF:Fb w pb 130 (dw sb nr))(hS:iM w sb wb p):Calls Tryz.prog 25 #[.pointer (some ⟨pb,0,none⟩)] w fun e w'=>e =.returned (.tuple #[p.v,true])∧Below w.heap.size w w':=by
 have c0:w.cell? ⟨pb,0,none⟩=some (.pointer (some ⟨sb,0,none⟩)):=hF.2.1 0 (by omega)
 have c1:w.cell? ⟨pb,1,none⟩=some (.bool true):=hF.2.1 1 (by omega)
 have SV:=hid (fun (w':World) (hb:Below w.heap.size w w')=>(show w'.cell? ⟨sb,0,none⟩=some (.int .i64 p.v) from (hb.cell (p:=⟨sb,0,none⟩) hS.pl.1).trans (hS.pl.2.1 0 (by omega))))
 clear hF hS
 go_enter Tryz.func25,Tryz.ntmps25
 go_wp2_with fail
 refine(lT (some ⟨sb,0,none⟩) true _).mono ?_
 rintro e w2 ⟨rfl,hb⟩
 have sv:=SV.out _ hb
 clear c0 c1
 go_simp
 go_wp2_with fail
 go_ret2
 exact⟨rfl,hb⟩
theorem GM {w:World}{pb:Nat}{f:Nat→Value}(hF:Fb w pb 130 (fY none false f)):Calls Tryz.prog 25 #[.pointer (some ⟨pb,0,none⟩)] w fun e w'=>e =.returned (.tuple #[(),false])∧Below w.heap.size w w':=by
 have c0:w.cell? ⟨pb,0,none⟩=some (.pointer none):=hF.2.1 0 (by omega)
 have c1:w.cell? ⟨pb,1,none⟩=some (.bool false):=hF.2.1 1 (by omega)
 clear hF
 go_enter Tryz.func25,Tryz.ntmps25
 go_wp2_with fail
 refine(lT none false _).mono ?_
 rintro e w2 ⟨rfl,hb⟩
 clear c0 c1
 go_simp
 go_wp2_with fail
 go_ret2
 exact⟨rfl,hb⟩
set_option maxHeartbeats 4000000 in
theorem Gq {S:List Nat}{W w:World}{A B:List Th}{pb:Nat}{f:Nat→Value}(hS:HS S W w (A++aD pb 130 f::B)):Calls Tryz.prog 24 #[.pointer (some ⟨pb,0,none⟩)] w fun x w'=>x =.returned (.tuple #[])∧HS S W w' (A++aD pb 130 (fY none false jK)::B):=by
 have hP:Fb w pb 130 f:=hS.1 (aD pb 130 f) (by simp)
 have ST:=hid (hP.store (T:=86) 0 130 (fY none false jK) (by omega) yB Dh)
 have S1:=hid (hS.set 0 130 (fY none false jK) (by omega) (fY none false jK) (fun j hj=>kM _ _ _ j hj))
 clear hP hS
 go_enter Tryz.func24,Tryz.ntmps24
 go_upto_region 0 with (fail)
 apply wp_region_lit
 refine dZ (v:=?_) rfl ?_ ?_;rotate_left;(focus (go_simp;(try with_reducible rfl)));(try simp only[Act.put,zA,zB,zC])
 refine dZ (v:=.agg (FA 130 (fY none false jK))) rfl (by unfold execOp;simp only[List.map_toArray,List.map_nil,Sem.run_bind,BH,Result.andThen_ok,Sem.run_pure]) ?_
 try simp only[Act.put,zA,zB,zC]
 refine dZ (v:=?_) rfl ?_ ?_;rotate_left;(focus (go_simp;(try with_reducible rfl)));(try simp only[Act.put,zA,zB,zC])
 refine ay rfl (eZ rfl rfl rfl ST.out ?_)
 try simp only[Act.put,zA,zB,zC]
 generalize w.setCells pb 0 (FL 130 (fY none false jK))=w2 at *
 go_wp2_with fail
 go_end0
 exact⟨rfl,S1.out⟩
end Go.Proofs.YtalnfkijiehjhaaGreat
namespace Go.Proofs.YtalnfkijiehjhaaGreat
set_option linter.unusedVariables false
set_option linter.unusedSimpArgs false
open Go.RowKit Go.ChangeShapes Go.WideShapes Go.ChangeAt
set_option maxRecDepth 100000
theorem Ij {w:World}{b:Nat}(h:Ce w b [(),.int .i64 2]):Is w (some ⟨b,0,none⟩) 2 g9:=by
 intro _
 refine⟨b,0,rfl,h.1,fun j hj=>?_⟩
 rw[Nat.zero_add]
 match j,hj with
 |0,_=>exact h.2.1 0 _ rfl
 |1,_=>exact h.2.1 1 _ rfl
theorem Dx (w:World)(b:Nat)(h:Ce w b [(),.int .i64 2]):Calls Tryz.prog 9 #[.slice (some ⟨b,0,none⟩) 2 2,.int .i64 2] w fun x w'=>x =.returned (.agg (FA 330 (pc iu)))∧Below w.heap.size w w':=
 tN w (some ⟨b,0,none⟩) 2 2 g9 (Ij h) (fun ad e _=>by injection e with e;rw[←e];exact h.1) (by omega) 2 (by omega)
attribute [local irreducible] FA FL iu aP
set_option maxHeartbeats 4000000 in
theorem sW (W:World):Calls Tryz.prog 8 #[] W fun e w'=>e =.returned (.bool true)∧Below W.heap.size W w':=by
 obtain ⟨F,hT⟩:=Gi (fun _=>none)
 obtain ⟨q,hq⟩:∃q,q=iu:=⟨_,rfl⟩
 have hv:q.v=2:=by rw[hq];exact KB
 have nu:=hid (show Pt q from by rw[hq];exact Ie)
 have g8:=hid (show Pw q from by rw[hq];exact Ic)
 rw[←hq]at hT
 have Pj:=hid (fun (w:World) (b:Nat) (h:Ce w b [(),.int .i64 2])=>(show Calls Tryz.prog 9 #[.slice (some ⟨b,0,none⟩) 2 2,.int .i64 2] w fun x w'=>x =.returned (.agg (FA 330 (pc q)))∧Below w.heap.size w w' from by rw[hq];exact Dx w b h))
 obtain ⟨G9,hG⟩:∃G,G=aP jr:=⟨_,rfl⟩
 rw[←hG]at hT
 have BG:=hid (show aC G9 from by rw[hG];exact nZ lh lh EH)
 have KG:=hid (show G9 0=2 from by rw[hG,gF (by omega),jg];rfl)
 have Mu:=hid (fun (w:World) (L:List Th) (h:HS [] W w L)=>(show Calls Tryz.prog 28 #[.agg #[.int .i64 2,.int .i64 9,(),.int .i64 1,.int .i64 10,.int .i64 2,.int .i64 80,(),(),false,(),.slice none 0 0,.slice none 0 0]] w fun e w'=>∃A c,e =.returned (.tuple #[.slice A 24 c,()])∧HS [] W w' (bS (.slice A 24 c) 24 G9::L)∧24≤c from D_ h jr (.inr rfl) 24 G9 Lk.symm hG EH lh lh (by show 0≤1000000;decide) (by show 0≤1000000;decide) none 0 none 0 (fun h=>absurd h (by show ¬0<0;decide)) (fun h=>absurd h (by show ¬0<0;decide))))
 have L3:=hid (fun (w:World) (pb sb wb:Nat) (hF:Fb w pb 130 (dw sb (fun _=>none))) (hS:iM w sb wb q)=>(show Calls Tryz.prog 25 #[.pointer (some ⟨pb,0,none⟩)] w fun e w'=>e =.returned (.tuple #[.int .i64 2,true])∧Below w.heap.size w w' from by have h:=GL hF hS;rw[hv]at h;exact h))
 have Md:=hid (fun (w:World) (pb sb:Nat) (hF:Fb w pb 130 (dw sb (fun _=>none)))=>(show Calls Tryz.prog 26 #[.pointer (some ⟨pb,0,none⟩),()] w fun e w'=>e =.returned (.tuple #[.int .u32 0,false])∧Below w.heap.size w w' from AE hF 0 (by omega)))
 have HT:=hid hT
 have vU:=hid (show iP (fun _=>none) from fun j v h=>by cases h)
 clear hT hv hq hG
 have S0:Hid (HS [] W W []):=hid HS.start
 go_enter Tryz.func8,Tryz.ntmps8
 go_wp2_with fail
 refine(plane_new S0.out).mono ?_
 rintro e w1 ⟨pb,rfl,hz⟩
 have S1:Hid (HS [] W w1 [aD pb 130 (fY none false jK)]):=hid (hz)
 clear hz S0
 go_simp
 go_wp2_with fail
 refine(FC (S1.out.fb 0 rfl) _).mono ?_
 rintro e w2 ⟨rfl,hb⟩
 have S2:Hid (HS [] W w2 [aD pb 130 (fY none false jK)]):=hid (S1.out.below hb)
 clear hb S1
 go_simp
 go_upto_region 5 with (first | ((with_reducible refine ah ?_);refine ay rfl (bw rfl (oC _) (by simp) S2.out ?_);intro V w_ hZ _;have SY:=hid hZ;clear hZ) | ((with_reducible refine ah ?_);refine ay rfl (aB (A:=[]) [.int .i64 10,.int .i64 (-1),false,.slice none 0 0] rfl rfl (rfl) SY.out rfl d9 rfl ?_);intro w_ hZ;have SX:=hid hZ;clear hZ))
 have S3:Hid (HS [] W _ [aw V [.int .i64 10,.int .i64 (-1),false,.slice none 0 0],aD pb 130 (fY none false jK)]):=hid (SX.out)
 clear SX SY S2
 go_wp2_with fail
 have U1:=HS.cells S3.out [(),.int .i64 2] (T:=3)
 refine(Pj.out _ _ (U1.ce 0 rfl)).mono ?_
 rintro e w3 ⟨rfl,hb⟩
 have S4:Hid (HS [] W w3 [aw V [.int .i64 10,.int .i64 (-1),false,.slice none 0 0],aD pb 130 (fY none false jK)]):=hid (U1.tail.below hb)
 clear hb U1 S3
 go_simp
 go_upto_region 6 with (first | ((with_reducible refine ah ?_);refine ay rfl (nO rfl (Cp _) (by omega) S4.out ?_);intro P w_ hZ _;have SA:=hid hZ;clear hZ) | ((with_reducible refine ah ?_);refine ay rfl (ji (A:=[]) 0 330 (pc q) (pc q) rfl rfl rfl SA.out (by omega) (fun j hj=>kM _ _ _ j hj) dE (oR _) ?_);intro w_ hZ;have SX:=hid hZ;clear hZ))
 have S5:Hid (HS [] W _ [aD P 330 (pc q),aw V [.int .i64 10,.int .i64 (-1),false,.slice none 0 0],aD pb 130 (fY none false jK)]):=hid (SX.out)
 clear SX SA S4
 go_wp2_with ((with_reducible refine ah ?_);refine ay rfl (iz 0 rfl 0 330 (pc q) rfl rfl S5.out (by omega) (fun j hj=>by rw[Nat.zero_add]) Tryz.underlying34 rfl dE ?_))
 refine(vD (A:=[aD P 330 (pc q),aw V [.int .i64 10,.int .i64 (-1),false,.slice none 0 0]]) (B:=[]) (nr:=fun _=>none) S5.out q g8.out).mono ?_
 rintro e w4 ⟨rfl,sb,wb,hne,hz⟩
 have S6:Hid (HS [] W w4 [fX sb wb q,aD P 330 (pc q),aw V [.int .i64 10,.int .i64 (-1),false,.slice none 0 0],aD pb 130 (dw sb (fun _=>none))]):=hid (hz)
 clear hz S5
 have vT:=hid hne
 clear hne
 go_simp
 go_wp2_with fail
 refine(L3.out _ _ _ _ (S6.out.fb 3 rfl) (S6.out.st 0 rfl)).mono ?_
 rintro e w5 ⟨rfl,hb⟩
 have S7:Hid (HS [] W w5 [fX sb wb q,aD P 330 (pc q),aw V [.int .i64 10,.int .i64 (-1),false,.slice none 0 0],aD pb 130 (dw sb (fun _=>none))]):=hid (S6.out.below hb)
 clear hb S6 L3
 go_simp
 go_wp2_with fail
 refine(Mu.out _ _ S7.out).mono ?_
 rintro e w6 ⟨AQ,cQ,rfl,hz,hcc⟩
 have S8:Hid (HS [] W w6 [bS (.slice AQ 24 cQ) 24 G9,fX sb wb q,aD P 330 (pc q),aw V [.int .i64 10,.int .i64 (-1),false,.slice none 0 0],aD pb 130 (dw sb (fun _=>none))]):=hid (hz)
 clear hz S7 Mu
 have Py:=hid hcc
 clear hcc
 go_simp
 go_wp2_with fail
 refine(Jk (A:=[bS (.slice AQ 24 cQ) 24 G9,fX sb wb q,aD P 330 (pc q),aw V [.int .i64 10,.int .i64 (-1),false,.slice none 0 0]]) (B:=[]) S8.out (S8.out.st 1 rfl) vT.out nu.out vU.out G9 24 cQ AQ BG.out (by omega) (fun _=>by rw[KG.out];decide) (S8.out.fh 0 rfl) Py.out _ HT.out).mono ?_
 rintro e w7 ⟨AR,cR,rfl,hz,hcc⟩
 dsimp only at hz hcc ⊢
 have S9:Hid (HS [] W w7 [bS (.slice AR 24 cR) 24 F,bS (.slice AQ 24 cQ) 24 G9,fX sb wb q,aD P 330 (pc q),aw V [.int .i64 10,.int .i64 (-1),false,.slice none 0 0],aD pb 130 (dw sb (fun _=>none))]):=hid (hz)
 clear hz hcc S8
 go_simp
 go_upto_region 10 with (first | ((with_reducible refine ah ?_);refine ay rfl (bw rfl (oC _) (by simp) S9.out ?_);intro V2 w_ hZ _;have SY:=hid hZ;clear hZ) | ((with_reducible refine ah ?_);refine ay rfl (aB (A:=[]) [(),(),false,.slice AR 24 cR] rfl rfl (rfl) SY.out rfl d9 rfl ?_);intro w_ hZ;have SX:=hid hZ;clear hZ))
 have eo:Hid (HS [] W _ [aw V2 [(),(),false,.slice AR 24 cR],bS (.slice AR 24 cR) 24 F,bS (.slice AQ 24 cQ) 24 G9,fX sb wb q,aD P 330 (pc q),aw V [.int .i64 10,.int .i64 (-1),false,.slice none 0 0],aD pb 130 (dw sb (fun _=>none))]):=hid (SX.out)
 clear SX SY S9
 go_wp2_with fail
 refine(Md.out _ _ _ (eo.out.fb 6 rfl)).mono ?_
 rintro e w8 ⟨rfl,hb⟩
 have dT:Hid (HS [] W w8 [aw V2 [(),(),false,.slice AR 24 cR],bS (.slice AR 24 cR) 24 F,bS (.slice AQ 24 cQ) 24 G9,fX sb wb q,aD P 330 (pc q),aw V [.int .i64 10,.int .i64 (-1),false,.slice none 0 0],aD pb 130 (dw sb (fun _=>none))]):=hid (eo.out.below hb)
 clear hb eo Md
 go_simp
 go_wp2_with fail
 refine(Gq (A:=[aw V2 [(),(),false,.slice AR 24 cR],bS (.slice AR 24 cR) 24 F,bS (.slice AQ 24 cQ) 24 G9,fX sb wb q,aD P 330 (pc q),aw V [.int .i64 10,.int .i64 (-1),false,.slice none 0 0]]) (B:=[]) dT.out).mono ?_
 rintro e w9 ⟨rfl,hz⟩
 have iN:Hid (HS [] W w9 [aw V2 [(),(),false,.slice AR 24 cR],bS (.slice AR 24 cR) 24 F,bS (.slice AQ 24 cQ) 24 G9,fX sb wb q,aD P 330 (pc q),aw V [.int .i64 10,.int .i64 (-1),false,.slice none 0 0],aD pb 130 (fY none false jK)]):=hid (hz)
 clear hz dT
 go_simp
 go_wp2_with fail
 refine(GM (iN.out.fb 6 rfl)).mono ?_
 rintro e ea ⟨rfl,hb⟩
 have cK:Hid (HS [] W ea [aw V2 [(),(),false,.slice AR 24 cR],bS (.slice AR 24 cR) 24 F,bS (.slice AQ 24 cQ) 24 G9,fX sb wb q,aD P 330 (pc q),aw V [.int .i64 10,.int .i64 (-1),false,.slice none 0 0],aD pb 130 (fY none false jK)]):=hid (iN.out.below hb)
 clear hb iN
 go_simp
 obtain ⟨f0,f1,f2,f3⟩:=(cK.out.ce 0 rfl).c4
 obtain ⟨e0,e1,e2,e3⟩:=(cK.out.ce 5 rfl).c4
 go_wp2_with fail
 go_ret
 exact⟨by simp,cK.out.bl⟩
set_option maxHeartbeats 4000000 in
theorem MB {S:List Nat}{W w:World}{L:List Th}(hS:HS S W w L)(p:Pl)(hp:Pw p):Calls Tryz.prog 27 #[.agg (FA 330 (pc p))] w fun e w'=>∃pb sb wb,e =.returned (.pointer (some ⟨pb,0,none⟩))∧(pb≠sb∧pb≠wb)∧HS S W w' (fX sb wb p::aD pb 130 (dw sb (fun _=>none))::L):=by
 have S0:=hid hS
 clear hS
 go_enter Tryz.func27,Tryz.ntmps27
 go_upto_region 1 with ((with_reducible refine ah ?_);refine ay rfl (kN rfl rfl (by omega) S0.out ?_);intro P w_ hZ _;have S1:=hid hZ;clear hZ)
 go_wp2_with fail
 refine(plane_new S1.out).mono ?_
 rintro e w1 ⟨pb,rfl,hz⟩
 have S2:=hid hz
 clear hz S1 S0
 go_simp
 go_upto_region 3 with (fail)
 go_wp2_with ((with_reducible refine ah ?_);refine ay rfl (iz 1 rfl 0 330 (pc p) rfl rfl S2.out (by omega) (fun j hj=>by rw[Nat.zero_add]) Tryz.underlying34 rfl dE ?_))
 refine(vD (A:=[]) (nr:=fun _=>none) S2.out p hp).mono ?_
 rintro e w2 ⟨rfl,sb,wb,hne,hz⟩
 have S3:=hid (show HS S W w2 (fX sb wb p::aD pb 130 (dw sb (fun _=>none))::L) from HS.drop2 hz)
 clear hz S2
 go_simp
 go_wp2_with fail
 go_ret
 exact⟨pb,sb,wb,rfl,hne,S3.out⟩
end Go.Proofs.YtalnfkijiehjhaaGreat
