/- Keys, rings, blocks of cells. Rings of keys, of both packages; the laws' helpers of chapter 5. Rings of keys of the program; the next ring; the laws' helper Ring. The next ring; the laws' helpers Ring, kind. Pools as plain functions, in blocks of memory. A pool is itself. -/
import Derived.Test.YtalnfkijiehjhaaGreatGa
import Derived.Deep.RegionHeld3
import Derived.Deep.Cut
import Derived.BigQuiet
import Derived.Test.YtalnfkijiehjhaaGreatGk
import Derived.Laws.IdiomCopy
import Derived.Deep.MidRow
import Derived.Laws.Tables
import Derived.Laws.StructEq
namespace Go.Proofs.YtalnfkijiehjhaaGreat
set_option linter.unusedVariables false
set_option linter.unusedSimpArgs false
open Go.RowKit Go.ChangeShapes Go.WideShapes Go.ChangeAt
def vg (n:Int):Ky:=⟨IntKind.u64.wrap (IntKind.u64.wrap n*11400714819323198485),bits .xor .u64 (IntKind.u64.wrap n) 19088743⟩
theorem re (n:Int)(w:World):Calls Tryz.prog 30 #[n] w fun e' w'=>e' =.returned (eO (vg n))∧Below w.heap.size w w':=by
 unfold eO vg
 go_enter Tryz.func30,Tryz.ntmps30
 go_wp2_with fail
 refine bodyPost_ret (by simp[results,Tryz.results30,go_sem]) rfl ⟨rfl,?_⟩
 exact qQA
def om (n:Nat)(g:Nat→Int)(i:Nat):Ky:=if i<n then ⟨g (2*i),g (2*i+1)⟩ else ⟨0,0⟩
def La (e:Int)(n:Nat)(g:Nat→Int):Rg:=⟨e,om n g 0,om n g 1,om n g 2⟩
theorem GX {w:World}{X k:Nat}{g:Nat→Int}(hc:∀q,q<6→w.cell? ⟨X,q,none⟩=some (.int .u64 (if q<2*k then g q else 0)))(hk:k<3) :
 ∀q,q<6→((w.setCell ⟨X,k*2,none⟩ (.int .u64 (g (k*2)))).setCell ⟨X,k*2+1,none⟩ (.int .u64 (g (k*2+1)))).cell? ⟨X,q,none⟩=some (.int .u64 (if q<2*(k+1) then g q else 0)):=by
 intro q hq
 by_cases e1:q=k*2+1
 ·subst e1
  rw[World.cell?_setCell_same _ _ _ ((World.cell?_setCell_other _ _ _ _ (by simp)).trans (hc (k*2+1) hq)),if_pos (by omega)]
 rw[World.cell?_setCell_other _ _ _ _ (by simp <;> omega)]
 by_cases e2:q=k*2
 ·subst e2
  rw[World.cell?_setCell_same _ _ _ (hc (k*2) hq),if_pos (by omega)]
 rw[World.cell?_setCell_other _ _ _ _ (by simp <;> omega),hc q hq]
 congr 2
 by_cases h3:q<2*k
 ·rw[if_pos h3,if_pos (by omega)]
 rw[if_neg h3,if_neg (by omega)]
theorem qZ1{P:Prop}(h:P:=by
 go_wp2_with fail
 refine bodyPost_ret (by simp[results,Tryz.results66,go_sem,mI,mH,mG,LU,LQ,LO,LM]) rfl ⟨rfl,?_⟩
 try rw[hK]
 repeat' (first |with_reducible exact hbf |refine Below.setCell ?_ (Nat.le_refl R) _)
 ):P:=h
theorem zM (e:Int)(A:Option Addr)(n c:Nat)(g:Nat→Int)(w:World)(h:Sl w A (2*n) (fun j=>.int .u64 (g j)))(hn:n≤1000) :
 Calls Tryz.prog 66 #[e,.slice A n c] w fun e' w'=>e' =.returned (fE (La e n g))∧Below w.heap.size w w':=by
 unfold fE La
 go_enter Tryz.func66,Tryz.ntmps66
 go_wp2_with fail
 have dR:w.heap.size+1≠w.heap.size:=by omega
 have lX:w.heap.size≤w.heap.size+1:=by omega
 have CR:=Ce.made (w:=w) (l:=[(),.int .u64 0,.int .u64 0,.int .u64 0,.int .u64 0,.int .u64 0,.int .u64 0]) (T:=32) (g:=w.heap.size) rfl
 replace CR:=CR.alloc (.cells #[.int .u64 0,.int .u64 0,.int .u64 0,.int .u64 0,.int .u64 0,.int .u64 0] 169)
 have CX:=Ce.made (w:=(w.alloc (.cells #[(),.int .u64 0,.int .u64 0,.int .u64 0,.int .u64 0,.int .u64 0,.int .u64 0] 32))) (l:=[.int .u64 0,.int .u64 0,.int .u64 0,.int .u64 0,.int .u64 0,.int .u64 0]) (T:=169) (g:=w.heap.size+1) (by simp)
 have B:Below w.heap.size w ((w.alloc (.cells #[(),.int .u64 0,.int .u64 0,.int .u64 0,.int .u64 0,.int .u64 0,.int .u64 0] 32)).alloc (.cells #[.int .u64 0,.int .u64 0,.int .u64 0,.int .u64 0,.int .u64 0,.int .u64 0] 169)):=(((Below.refl w.heap.size w).alloc (by first |exact Nat.le_refl _ | (simp;done) | (simp;omega)) (.cells #[(),.int .u64 0,.int .u64 0,.int .u64 0,.int .u64 0,.int .u64 0,.int .u64 0] 32)).alloc (by first |exact Nat.le_refl _ | (simp;done) | (simp;omega)) (.cells #[.int .u64 0,.int .u64 0,.int .u64 0,.int .u64 0,.int .u64 0,.int .u64 0] 169))
 generalize (w.alloc (.cells #[(),.int .u64 0,.int .u64 0,.int .u64 0,.int .u64 0,.int .u64 0,.int .u64 0] 32)).alloc (.cells #[.int .u64 0,.int .u64 0,.int .u64 0,.int .u64 0,.int .u64 0,.int .u64 0] 169)=w1 at *
 generalize w.heap.size+1=X at *
 generalize hK:w.heap.size=R at *
 have J9:∀q,q<6→w1.cell? ⟨X,q,none⟩=some (.int .u64 (if q<2*0 then g q else 0)):=fun q hq=>by
  obtain ⟨_,q0,_⟩:=CX
  rw[if_neg (by omega)]
  rcases q with _ | _ | _ | _ | _ | _ |q
  ·exact q0 0 _ rfl
  ·exact q0 1 _ rfl
  ·exact q0 2 _ rfl
  ·exact q0 3 _ rfl
  ·exact q0 4 _ rfl
  ·exact q0 5 _ rfl
  omega
 have h1:Sl w1 A (2*n) (fun j=>.int .u64 (g j)):=h.below B (Nat.le_of_eq hK)
 obtain ⟨N,hN1,mC,Q5⟩:∃N,N≤n∧N≤3∧(n≤N∨3≤N):=⟨min n 3,by omega,by omega,by omega⟩
 have ZX:∀q,w1.frozen? ⟨X,q,none⟩=false:=CX.2.2
 have kX:=CX.1
 have lB:w.heap.size≤w1.heap.size:=B.size
 clear CX
 go_loopw [6] (fun i wr=>∃k:Nat,k≤N∧i =.int .i64 k∧Below X w1 wr∧(∀q,q<6→wr.cell? ⟨X,q,none⟩=some (.int .u64 (if q<2*k then g q else 0)))∧(∀q,wr.frozen? ⟨X,q,none⟩=false)) (fun i _=>N-(intOf i).toNat)
 case atStart=>exact⟨0,by omega,rfl,Below.refl _ _,J9,ZX⟩
 obtain ⟨k,hk,rfl,hb,hcx,hzx⟩:=hrel
 by_cases hlt:k<N
 ·have h1':=h1
  obtain ⟨b,off,rfl,hbl,hcell⟩:=h (by omega)
  have hbX:b<X:=by omega
  have hcl:∀j,j<2*n→wr.cell? ⟨b,off+j,none⟩=some (.int .u64 (g j)):=fun j hj=>(hb.cell (p:=⟨b,off+j,none⟩) hbX).trans (h1.at_ hj)
  have i1:(k:Int)<n:=by omega
  have i2:(k:Int)<3:=by omega
  have i3:(0:Int)≤k:=by omega
  have s0:wr.cell? ⟨b,off+k*2,none⟩=some (.int .u64 (g (k*2))):=hcl _ (by omega)
  have s1:wr.cell? ⟨b,off+k*2+1,none⟩=some (.int .u64 (g (k*2+1))):=hcl (k*2+1) (by omega)
  have x0:=hcx (k*2) (by omega)
  have x1:=hcx (k*2+1) (by omega)
  have z0:=hzx (k*2)
  have z1:=hzx (k*2+1)
  have HN:=hid (GX hcx (by omega:k<3))
  have HZ:=hid hzx
  clear hcx hzx hcl hcell h1 h1' J9 ZX
  go_wp2_with fail
  go_roundw
  case rel=>exact⟨k+1,by omega,by go_num,(hb.setCell (Nat.le_refl _) _).setCell (Nat.le_refl _) _,HN.out,fun q=>by simp[HZ.out q]⟩
  simp[intOf];omega
 have e:k=N:=by omega
 subst e
 have kk:∀i,i<3→(if 2*i<2*k then g (2*i) else 0)=(om n g i).a∧(if 2*i+1<2*k then g (2*i+1) else 0)=(om n g i).b:=fun i hi=>by
  unfold om
  by_cases hin:i<n
  ·rw[if_pos hin,if_pos (by omega),if_pos (by omega)]
   exact⟨rfl,rfl⟩
  rw[if_neg hin,if_neg (by omega),if_neg (by omega)]
  exact⟨rfl,rfl⟩
 have x0:=hcx 0 (by omega)
 have x1:=hcx 1 (by omega)
 have x2:=hcx 2 (by omega)
 have x3:=hcx 3 (by omega)
 have x4:=hcx 4 (by omega)
 have x5:=hcx 5 (by omega)
 rw[show (if 0<2*k then g 0 else 0)=(om n g 0).a from (kk 0 (by omega)).1]at x0
 rw[show (if 1<2*k then g 1 else 0)=(om n g 0).b from (kk 0 (by omega)).2]at x1
 rw[show (if 2<2*k then g 2 else 0)=(om n g 1).a from (kk 1 (by omega)).1]at x2
 rw[show (if 3<2*k then g 3 else 0)=(om n g 1).b from (kk 1 (by omega)).2]at x3
 rw[show (if 4<2*k then g 4 else 0)=(om n g 2).a from (kk 2 (by omega)).1]at x4
 rw[show (if 5<2*k then g 5 else 0)=(om n g 2).b from (kk 2 (by omega)).2]at x5
 obtain ⟨kR,qR,zR⟩:=CR
 have mA:R<X:=by omega
 have mI:=(hb.cell (p:=⟨R,0,none⟩) mA).trans (qR 0 _ rfl)
 have Re:=(World.frozen?_of_block (a:=⟨R,0,none⟩) (hb.block R mA)).trans (zR 0)
 have mH:=(hb.cell (p:=⟨R,1,none⟩) mA).trans (qR 1 _ rfl)
 have Rc:=(World.frozen?_of_block (a:=⟨R,1,none⟩) (hb.block R mA)).trans (zR 1)
 have mG:=(hb.cell (p:=⟨R,2,none⟩) mA).trans (qR 2 _ rfl)
 have Rb:=(World.frozen?_of_block (a:=⟨R,2,none⟩) (hb.block R mA)).trans (zR 2)
 have LU:=(hb.cell (p:=⟨R,3,none⟩) mA).trans (qR 3 _ rfl)
 have Ra:=(World.frozen?_of_block (a:=⟨R,3,none⟩) (hb.block R mA)).trans (zR 3)
 have LQ:=(hb.cell (p:=⟨R,4,none⟩) mA).trans (qR 4 _ rfl)
 have Q_:=(World.frozen?_of_block (a:=⟨R,4,none⟩) (hb.block R mA)).trans (zR 4)
 have LO:=(hb.cell (p:=⟨R,5,none⟩) mA).trans (qR 5 _ rfl)
 have Q9:=(World.frozen?_of_block (a:=⟨R,5,none⟩) (hb.block R mA)).trans (zR 5)
 have LM:=(hb.cell (p:=⟨R,6,none⟩) mA).trans (qR 6 _ rfl)
 have Q8:=(World.frozen?_of_block (a:=⟨R,6,none⟩) (hb.block R mA)).trans (zR 6)
 have hbf:Below R w wr:=B.trans (hb.mono (by omega))
 clear hcx hzx kk h1 J9 ZX qR zR h B hb
 have hex:¬(k:Int)<n∨¬(k:Int)<3:=by omega
 by_cases h7:n≤k
 ·have j1:¬(k:Int)<n:=by omega
  exact qZ1
 have j1:(k:Int)<n:=by omega
 have j2:¬(k:Int)<3:=by omega
 exact qZ1
theorem Ce.Nu {w:World}{b:Nat}(l:List Int)(h:Ce w b (l.map (Value.int .u64))):Sl w (some ⟨b,0,none⟩) l.length (fun j=>.int .u64 (l.getD j 0)):=by
 refine Sl.mk h.1 fun j hj=>?_
 rw[Nat.zero_add]
 exact h.2.1 j _ (by simp[List.getD,hj])
theorem aH (b:Nat):∀(vs:List Value) (o:Nat) (w:World) (B:Nat),B≤b→Below B w (w.setCells b o vs)
 | [],_,w,B,_=>Below.refl B w
 |v::r,o,w,B,h=>((Below.refl B w).setCell h v).trans (aH b r (o+1) _ B h)
theorem zT (r:Rg)(k:Ky)(hr:Ep r.e)(w:World) :
 Calls Tryz.prog 69 #[fE r,eO k] w fun e' w'=>e' =.returned (fE ⟨r.e+1,r.c,r.n,k⟩)∧Below w.heap.size w w':=by
 obtain ⟨hr1,hr2⟩:=hr
 have q2:IntKind.i64.wrap (r.e+1)=r.e+1:=IntWalk.i64_in _ (by omega)
 unfold fE eO
 go_enter Tryz.func69,Tryz.ntmps69
 go_wp2_with fail
 refine bodyPost_ret (by simp[results,Tryz.results69,go_sem]) rfl ⟨rfl,?_⟩
 exact qQA
structure Sp where
 st:Int
 ad:Int
 po:Int
 we:Int
 si:Int
structure Pl where
 v:Int
 a:Int
 p:Int
 s:Nat→Sp
 r:Rg
structure En where
 k:Int
 s:Int
 a:Int
 p:Int
 w:Int
 y:Ky
def rC (s:Sp)(k:Nat):Value:=match k with |0=>.int .i64 s.st |1=>.int .i64 s.ad |2=>.int .i64 s.po |3=>.int .i64 s.we | _=>.int .i64 s.si
def z_ (r:Rg)(k:Nat):Value:=match k with |0=>.int .i64 r.e |1=>.int .u64 r.p.a |2=>.int .u64 r.p.b |3=>.int .u64 r.c.a |4=>.int .u64 r.c.b |5=>.int .u64 r.n.a | _=>.int .u64 r.n.b
def pc (p:Pl)(j:Nat):Value:=if j<3 then (if j=0 then .int .i64 p.v else if j=1 then .int .i64 p.a else .int .i64 p.p) else if j<323 then rC (p.s ((j-3)/5)) ((j-3)%5) else z_ p.r (j-323)
def PL (p:Pl):List Value:=(List.range 330).map (pc p)
def PA (p:Pl):Array Value:=(PL p).toArray
def SL (f:Nat→Sp):List Value:=(List.range 320).map fun j=>rC (f (j/5)) (j%5)
def SA (f:Nat→Sp):Array Value:=(SL f).toArray
def gG (p:Pl):Value:=.agg (PA p)
def ik (s:Sp):Value:=.agg #[s.st,s.ad,s.po,s.we,s.si]
def qu (e:En):Value:=.agg #[e.k,e.s,e.a,e.p,e.w,.int .u64 e.y.a,.int .u64 e.y.b]
def fL:Ky:=⟨0,0⟩
def iD:Sp:=⟨0,0,0,0,0⟩
def Nf:Rg:=⟨0,fL,fL,fL⟩
def cm:Pl:=⟨0,0,0,fun _=>iD,Nf⟩
theorem kJ (p:Pl):(PL p).length=330:=by unfold PL;simp
theorem lx (p:Pl):(PA p).size=330:=by unfold PA;simp[kJ]
theorem uq (p:Pl)(j:Nat)(h:j<330):(PL p)[j]? = some (pc p j):=by unfold PL;simp[h]
theorem Kt (p:Pl)(j:Nat)(h:j<330):(PA p)[j]? = some (pc p j):=by unfold PA;simp[uq p j h]
theorem rF (f:Nat→Sp):(SL f).length=320:=by unfold SL;simp
theorem Es (f:Nat→Sp)(j:Nat)(h:j<320):(SL f)[j]? = some (rC (f (j/5)) (j%5)):=by unfold SL;simp[h]
theorem yk (p:Pl):(PA p =#[])=False:=by
 refine eq_false fun h=>?_
 have:=lx p
 rw[h]at this
 cases this
theorem FF (s:Sp)(k:Nat):(rC s k).oneCell'=true:=by unfold rC;split <;> rfl
theorem FO (r:Rg)(k:Nat):(z_ r k).oneCell'=true:=by unfold z_;split <;> rfl
theorem oR (p:Pl)(j:Nat):(pc p j).oneCell'=true:=by
 unfold pc
 split
 ·split
  ·rfl
  split <;> rfl
 split
 ·exact FF _ _
 exact FO _ _
theorem Hq (p:Pl):(PA p).all (·.oneCell')=true:=by
 unfold PA
 refine all_oneCell_toArray fun v hv=>?_
 unfold PL at hv
 simp only[List.mem_map]at hv
 obtain ⟨j,_,rfl⟩:=hv
 exact oR p j
theorem sM (p:Pl)(i k:Nat)(hi:i<64)(hk:k<5):pc p (3+i*5+k)=rC (p.s i) k:=by
 unfold pc
 rw[if_neg (by omega),if_pos (by omega),show (3+i*5+k-3)/5=i by omega,show (3+i*5+k-3)%5=k by omega]
theorem xg (p:Pl)(k:Nat)(hk:k<7):pc p (323+k)=z_ p.r k:=by
 unfold pc
 rw[if_neg (by omega),if_neg (by omega),show 323+k-323=k by omega]
def dC (f:Nat→Sp)(i:Nat)(s:Sp):Nat→Sp:=fun j=>if j=i then s else f j
def au (w:World)(b:Nat)(p:Pl):Prop:=b<w.heap.size∧(∀j,j<330→w.cell? ⟨b,j,none⟩=some (pc p j))∧∀j,w.frozen? ⟨b,j,none⟩=false
section
variable {w w':World}{b:Nat}{p:Pl}
theorem au.below (h:au w b p)(hb:Below w.heap.size w w'):au w' b p:=
 ⟨Nat.lt_of_lt_of_le h.1 hb.size,fun j hj=>(hb.cell (p:=⟨b,j,none⟩) h.1).trans (h.2.1 j hj),fun j=>(World.frozen?_of_block (a:=⟨b,j,none⟩) (hb.block b h.1)).trans (h.2.2 j)⟩
theorem au.alloc (h:au w b p)(o:Obj):au (w.alloc o) b p:=h.below ((Below.refl _ _).alloc (Nat.le_refl _) o)
theorem au.drewN (h:au w b p)(k:Nat):au (w.drewN k) b p:=h
theorem au.drew (h:au w b p):au w.drew b p:=h
theorem au.grown {row:Option Nat}(h:au w b p)(hg:w.grownBy w' row)(hne:row≠some b):au w' b p:=
 have hb:=hg.block b h.1 (fun e=>hne e.symm)
 ⟨Nat.lt_of_lt_of_le h.1 hg.size,fun j hj=>(World.cell?_of_block (a:=⟨b,j,none⟩) hb).trans (h.2.1 j hj),fun j=>(World.frozen?_of_block (a:=⟨b,j,none⟩) hb).trans (h.2.2 j)⟩
theorem au.made {T:TypeId}{g:Nat}(hg:w.heap.size=g):au (w.alloc (.cells (PA p) T)) g p:=by
 subst hg
 have h:(w.alloc (.cells (PA p) T)).heap[w.heap.size]? = some (.cells (PA p) T (0,0)):=heap_alloc_new w _
 refine⟨by simp,fun j hj=>?_,fun j=>frozen_of_row _ _ _ _ _ h⟩
 rw[cell_of_row _ w.heap.size j _ T (0,0) h,Kt p j hj]
theorem au.other (h:au w b p){c j:Nat}{v:Value}(hne:c≠b):au (w.setCell ⟨c,j,none⟩ v) b p:=
 ⟨by simpa using h.1,fun i hi=>by rw[World.cell?_setCell_other _ _ _ _ (fun e=>hne (by cases e;rfl))];exact h.2.1 i hi,fun i=>by rw[World.frozen?_setCell];exact h.2.2 i⟩
theorem au.others (h:au w b p){c o:Nat}{vs:List Value}(hne:c≠b):au (w.setCells c o vs) b p:=by
 refine⟨?_,fun i hi=>?_,fun i=>by rw[World.frozen?_setCells];exact h.2.2 i⟩
 ·have:=h.2.1 0 (by omega)
  have h2:(w.setCells c o vs).cell? ⟨b,0,none⟩=some (pc p 0):=by rw[World.cell?_setCells_out c vs o w _ (fun e _=>absurd e.symm hne)];exact this
  exact World.block_lt_of_cell? _ _ h2
 rw[World.cell?_setCells_out c vs o w _ (fun e _=>absurd e.symm hne)];exact h.2.1 i hi
theorem au.set (h:au w b p)(q:Pl)(o:Nat)(vs:List Value)(ho:o+vs.length≤330)(hin:∀j (hj:j<vs.length),vs[j]=pc q (o+j))(hout:∀j,j<330→j<o∨o+vs.length≤j→pc q j=pc p j) :
 au (w.setCells b o vs) b q:=by
 have hc:∀j,j<330→(w.setCells b o vs).cell? ⟨b,j,none⟩=some (pc q j):=by
  intro j hj
  by_cases hjo:o≤j∧j<o+vs.length
  ·have:=World.cell?_setCells_in b vs o w (fun i hi=>by rw[h.2.1 (o+i) (by omega)];rfl) (j-o) (by omega)
   rw[show o+(j-o)=j by omega]at this
   rw[this,hin (j-o) (by omega),show o+(j-o)=j by omega]
  rw[World.cell?_setCells_out b vs o w _ (fun _ _=>by simp only;omega),h.2.1 j hj,hout j hj (by omega)]
 exact⟨World.block_lt_of_cell? _ _ (hc 0 (by omega)),hc,fun i=>by rw[World.frozen?_setCells];exact h.2.2 i⟩
theorem au.whole (h:au w b p)(q:Pl):au (w.setCells b 0 (PA q).toList) b q:=by
 have e:(PA q).toList=PL q:=rfl
 rw[e]
 refine h.set q 0 (PL q) (by rw[kJ];omega) (fun j hj=>?_) (fun j hj ho=>?_)
 ·have hj':=hj
  rw[kJ]at hj'
  have:=uq q j hj'
  rw[List.getElem?_eq_getElem hj]at this
  rw[Nat.zero_add]
  exact Option.some.inj this
 rw[kJ]at ho;omega
theorem au.ver (h:au w b p)(v:Int):au (w.setCell ⟨b,0,none⟩ (.int .i64 v)) b { p with v:=v }:=by
 refine h.set { p with v:=v } 0 [v] (by simp) (fun j hj=>?_) (fun j hj ho=>?_)
 ·have:j=0:=by simp at hj;omega
  subst this;rfl
 simp only[List.length_singleton]at ho
 unfold pc
 by_cases h3:j<3
 ·have h0:j≠0:=by omega
  simp only[h3,h0,if_true,if_false]
 simp only[h3,if_false]
theorem au.slot (h:au w b p)(i:Nat)(hi:i<64)(s:Sp):au (w.setCells b (3+i*5) [s.st,s.ad,s.po,s.we,s.si]) b { p with s:=dC p.s i s }:=by
 refine h.set { p with s:=dC p.s i s } _ _ (by simp;omega) (fun j hj=>?_) (fun j hj ho=>?_)
 ·have h5:j<5:=by simpa using hj
  rw[sM _ i j hi h5]
  unfold dC
  simp only[if_true]
  rcases j with _ | _ | _ | _ | _ |j
  ·rfl
  ·rfl
  ·rfl
  ·rfl
  ·rfl
  omega
 simp only[List.length_cons,List.length_nil]at ho
 unfold pc
 by_cases h3:j<3
 ·rw[if_pos h3,if_pos h3]
 rw[if_neg h3,if_neg h3]
 by_cases h4:j<323
 ·rw[if_pos h4,if_pos h4]
  unfold dC
  simp only
  rw[if_neg (by omega)]
 rw[if_neg h4,if_neg h4]
theorem qYJ{P:Prop}(h:P:=by
 rcases j with _ | _ | _ | _ | _ | _ | _ |j
 ·rfl
 ·rfl
 ·rfl
 ·rfl
 ·rfl
 ·rfl
 ·rfl
 omega
 ):P:=h
theorem au.ring (h:au w b p)(r:Rg):au (w.setCells b 323 [r.e,.int .u64 r.p.a,.int .u64 r.p.b,.int .u64 r.c.a,.int .u64 r.c.b,.int .u64 r.n.a,.int .u64 r.n.b]) b { p with r:=r }:=by
 refine h.set { p with r:=r } _ _ (by simp) (fun j hj=>?_) (fun j hj ho=>?_)
 ·have h5:j<7:=by simpa using hj
  rw[xg _ j h5]
  exact qYJ
 simp only[List.length_cons,List.length_nil]at ho
 unfold pc
 by_cases h3:j<3
 ·rw[if_pos h3,if_pos h3]
 rw[if_neg h3,if_neg h3,if_pos (by omega),if_pos (by omega)]
theorem au.c0 (h:au w b p):w.cell? ⟨b,0,none⟩=some (.int .i64 p.v):=h.2.1 0 (by omega)
theorem au.c1 (h:au w b p):w.cell? ⟨b,1,none⟩=some (.int .i64 p.a):=h.2.1 1 (by omega)
theorem au.c2 (h:au w b p):w.cell? ⟨b,2,none⟩=some (.int .i64 p.p):=h.2.1 2 (by omega)
theorem au.cs (h:au w b p)(i k:Nat)(hi:i<64)(hk:k<5):w.cell? ⟨b,3+i*5+k,none⟩=some (rC (p.s i) k):=by rw[h.2.1 _ (by omega),sM p i k hi hk]
theorem au.cr (h:au w b p)(k:Nat)(hk:k<7):w.cell? ⟨b,323+k,none⟩=some (z_ p.r k):=by rw[h.2.1 _ (by omega),xg p k hk]
theorem au.load (h:au w b p):(Instr.loadAt 34 (.pointer (some ⟨b,0,none⟩))).run Tryz.prog w =.ok (gG p) w:=by
 refine run_loadAt_mid w b 0 34 (PL p) _ (fun j v hj=>?_) Tryz.underlying34 rfl ?_
 ·have hl:j<330:=by
   have:=(List.getElem?_eq_some_iff.1 hj).1
   rwa [kJ]at this
  rw[uq p j hl]at hj
  rw[Nat.zero_add,h.2.1 j hl,hj]
 rw[kJ];kernel_rfl
theorem au.yv (h:au w b p):(Instr.loadAt 27 (.pointer (some ⟨b,3,none⟩))).run Tryz.prog w =.ok (.agg (SA p.s)) w:=by
 refine run_loadAt_mid w b 3 27 (SL p.s) _ (fun j v hj=>?_) Tryz.underlying27 rfl ?_
 ·have hl:j<320:=by
   have:=(List.getElem?_eq_some_iff.1 hj).1
   rwa [rF]at this
  rw[Es p.s j hl]at hj
  have h1:=h.cs (j/5) (j%5) (by omega) (by omega)
  rw[show 3+j/5*5+j%5=3+j by omega]at h1
  rw[h1,hj]
 rw[rF];kernel_rfl
theorem au.store (h:au w b p)(q:Pl):(Instr.storeAt 34 (.pointer (some ⟨b,0,none⟩)) (gG q)).run Tryz.prog w =.ok () (w.setCells b 0 (PA q).toList):=by
 refine run_storeAt_mid w b 0 34 (PA q) (fun j hj=>?_) ?_ (Hq q)
 ·rw[lx]at hj
  rw[Nat.zero_add,h.2.1 j hj]
  exact⟨rfl,h.2.2 j⟩
 rw[lx];kernel_rfl
end
theorem sr (w:World):(zeroValue 34).run Tryz.prog w =.ok (gG cm) w:=by kernel_rfl
theorem Gr (w:World):(Instr.build 34 #[]).run Tryz.prog w =.ok (gG cm) w:=run_build w _ _ _ (by kernel_rfl)
theorem rh (f:Nat→Sp)(i:Nat)(hi:i<64)(w:World):(Instr.index 27 (.agg (SA f)) (.int .i64 (i:Int))).run Tryz.prog w =.ok (ik (f i)) w:=by
 have hagg:(isAgg 26).run Tryz.prog w =.ok true w:=by kernel_rfl
 have hsz:(sizeOf 26).run Tryz.prog w =.ok 5 w:=by kernel_rfl
 have hx:(SA f).extract (i*5) (i*5+5) =#[.int .i64 (f i).st,.int .i64 (f i).ad,.int .i64 (f i).po,.int .i64 (f i).we,.int .i64 (f i).si]:=by
  apply Array.ext
  ·unfold SA;simp[rF];omega
  intro k h1 h2
  have hk:k<5:=by simpa using h2
  have hs:(SA f).size=320:=by unfold SA;simp[rF]
  rw[Array.getElem_extract]
  have:(SA f)[i*5+k]? = some (rC (f i) k):=by
   unfold SA
   rw[List.getElem?_toArray,Es f _ (by omega),show (i*5+k)/5=i by omega,show (i*5+k)%5=k by omega]
  rw[Array.getElem?_eq_getElem (by omega)]at this
  rw[Option.some.inj this]
  rcases k with _ | _ | _ | _ | _ |k
  ·rfl
  ·rfl
  ·rfl
  ·rfl
  ·rfl
  omega
 have hu:=run_underlying (P:=Tryz.prog) Tryz.underlying27 w
 simp only[Instr.index,asIntOf,Sem.run_bind,Sem.run_pure,Result.andThen_ok,hu]
 rw[if_pos (by omega)]
 simp only[Sem.run_bind,hsz,Result.andThen_ok,part,hagg,if_true,Int.toNat_natCast,Sem.run_pure,hx]
 rfl
section
variable {P:Program}
end
end Go.Proofs.YtalnfkijiehjhaaGreat
