/- Plain lemmas for the laws of packets. Stamps that were made are found. Packets told by their fields, and what a unit tells of them. A slot that takes is found. -/
import Derived.Test.YtgfonkagnambiaaGreatGa
import Derived.Test.YtgfonkagnambiaaGreatGwb
import Derived.Test.YtgfonkagnambiaaGreatGwc
import Derived.BigQuiet
import Derived.Deep.RegionHeld3
import Derived.Deep.Cut
import Derived.Test.YtgfonkagnambiaaGreatGo
import Derived.Test.YtgfonkagnambiaaGreatGz
import Derived.Test.YtgfonkagnambiaaGreatPolMake
import Derived.Test.YtgfonkagnambiaaGreatGx
import Derived.IntWalk
namespace Go.Proofs.YtgfonkagnambiaaGreat
set_option linter.unusedVariables false
set_option linter.unusedSimpArgs false
open Go.RowKit Go.ChangeShapes Go.WideShapes Go.ChangeAt
theorem Cm {g g':Nat→Int}{n a:Nat}(h:∀j,j<n→g j=g' j)(ha:a<n):eg g n a=eg g' n a:=by
 unfold eg
 rw[h a ha]
 by_cases h1:n≤a+1
 ·rw[if_pos h1,if_pos h1]
 rw[h (a+1) (by omega)]
theorem Dt {g g':Nat→Int}{n:Nat}(h:∀j,j<n→g j=g' j):∀f a,wk g n f a=wk g' n f a:=by
 intro f
 induction f with
 |zero=>intro a;rfl
 |succ f ih=>
  intro a
  simp only[wk]
  by_cases hn:n≤a
  ·rw[if_pos hn,if_pos hn]
  rw[if_neg hn,if_neg hn,Cm h (by omega)]
  cases eg g' n a with
  |none=>rfl
  |some o=>simp only[ih]
theorem wJ {g g':Nat→Int}{n:Nat}(h:∀j,j<n→g j=g' j):stamp g n=stamp g' n:=by
 unfold stamp
 have hw:walk g n 0=walk g' n 0:=Dt h _ _
 rw[hw]
 cases hc:walk g' n 0 with
 |none=>rfl
 |some l=>
  unfold qg
  dsimp only
  cases hf:fst l with
  |none=>rfl
  |some o=>
   have:=sn hc hf
   dsimp only
   unfold jA
   rw[h _ (by omega),h _ (by omega),h _ (by omega),h _ (by omega),h (o.2.1.toNat+6) (by omega),h (o.2.1.toNat+6+1) (by omega),h (o.2.1.toNat+6+2) (by omega),h (o.2.1.toNat+6+3) (by omega)]
theorem rU (g:Nat→Int):∀k:Nat,(eJ g k).a=10∧(eJ g k).p=80
 |0=>⟨rfl,rfl⟩
 |k+1=>by
  have ih:=rU g k
  unfold eJ
  split
  ·rename_i h
   rw[(py h).2.2]
   unfold jq
   cases (qB (g k)).k==6
   ·exact ih
   exact ih
  exact ih
theorem xv (g:Nat→Int)(k:Nat)(hk:k≤1000):Pt (eJ g k):=by
 have hi:=ny g k
 have ha:=rU g k
 refine⟨rh g k,⟨by have:=hi.2.1;omega,by have:=hi.2.1;omega⟩,hi.st,?_,?_⟩
 ·rw[ha.1];decide
 rw[ha.2];decide
theorem DF {x y:Pk}(h:Pe x y):cx x=cx y:=by
 unfold cx
 rw[h.no]
 exact wJ fun j hj=>h.go j (by rw[h.no];exact hj)
theorem Es {p:Pl}{nr:Nat→Option Int}{g:Nat→Int}{n:Nat}{x y:Pk}(h:Pe x y):inT p nr g n x=inT p nr g n y:=by
 unfold inT r8 jj jI gF
 rw[h.kind,h.src,h.fp,h.label,h.flags,DF h]
theorem BI {p:Pl}{nr:Nat→Option Int}{g:Nat→Int}{n:Nat}{x:Pk}(hp:aB g n=0)(pe:Pe (au g n) x)(h0:x.piece=0)(h1:1<x.life)(hk:x.kind≠3)(hd:x.dst=p.a∧x.tp=p.p):dj p true nr g n=inT p nr g n x:=by
 unfold dj
 dsimp only
 rw[if_neg (by simp),hp,if_neg (by simp),pe.piece,if_neg (by simp[h0]),pe.life,if_neg (by omega),pe.dst,pe.kind,pe.tp,if_neg (fun h=>hk h.2),if_pos hd]
 exact Es pe
theorem vk {v e:Int}(hv:eA v)(he:eA e):az (lE v e):=by
 obtain ⟨v0,v1⟩:=hv
 obtain ⟨e0,e1⟩:=he
 intro j
 by_cases hj:j<12
 ·rcases (by omega:j=0∨j=1∨j=2∨j=3∨j=4∨j=5∨j=6∨j=7∨j=8∨j=9∨j=10∨j=11) with rfl |rfl |rfl |rfl |rfl |rfl |rfl |rfl |rfl |rfl |rfl |rfl
  all_goals first
   | (show (0:Int)≤1∧(1:Int)≤255;decide)
   | (show (0:Int)≤8∧(8:Int)≤255;decide)
   | (show (0:Int)≤10∧(10:Int)≤255;decide)
   | (show 0≤v/16777216∧v/16777216≤255;omega)
   | (show 0≤v/65536%256∧v/65536%256≤255;omega)
   | (show 0≤v/256%256∧v/256%256≤255;omega)
   | (show 0≤v%256∧v%256≤255;omega)
   | (show 0≤e/16777216∧e/16777216≤255;omega)
   | (show 0≤e/65536%256∧e/65536%256≤255;omega)
   | (show 0≤e/256%256∧e/256%256≤255;omega)
   | (show 0≤e%256∧e%256≤255;omega)
 have:lE v e j=0:=by
  unfold lE Hp yi
  rw[List.getD_eq_getElem?_getD,List.getElem?_eq_none (by simp;omega)]
  rfl
 rw[this]
 exact⟨by decide,by decide⟩
theorem j9:az (fun _=>(0:Int)):=fun _=>⟨(by decide:(0:Int)≤0),(by decide:(0:Int)≤255)⟩
end Go.Proofs.YtgfonkagnambiaaGreat
