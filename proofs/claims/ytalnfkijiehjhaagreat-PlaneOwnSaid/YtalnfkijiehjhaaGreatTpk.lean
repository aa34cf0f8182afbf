/- Plain lemmas for the laws of packets. Stamps that were made are found. Packets told by their fields, and what a unit tells of them. A slot that takes is found. -/
import Derived.Test.YtalnfkijiehjhaaGreatGa
import Derived.Test.YtalnfkijiehjhaaGreatGwb
import Derived.Test.YtalnfkijiehjhaaGreatGwc
import Derived.BigQuiet
import Derived.Deep.RegionHeld3
import Derived.Deep.Cut
import Derived.Test.YtalnfkijiehjhaaGreatGo
import Derived.Test.YtalnfkijiehjhaaGreatGz
import Derived.Test.YtalnfkijiehjhaaGreatPolMake
import Derived.Test.YtalnfkijiehjhaaGreatGx
import Derived.IntWalk
namespace Go.Proofs.YtalnfkijiehjhaaGreat
set_option linter.unusedVariables false
set_option linter.unusedSimpArgs false
open Go.RowKit Go.ChangeShapes Go.WideShapes Go.ChangeAt
theorem FZ {g g':Nat→Int}{n a:Nat}(h:∀j,j<n→g j=g' j)(ha:a<n):eu g n a=eu g' n a:=by
 unfold eu
 rw[h a ha]
 by_cases h1:n≤a+1
 ·rw[if_pos h1,if_pos h1]
 rw[h (a+1) (by omega)]
theorem GK {g g':Nat→Int}{n:Nat}(h:∀j,j<n→g j=g' j):∀f a,wk g n f a=wk g' n f a:=by
 intro f
 induction f with
 |zero=>intro a;rfl
 |succ f ih=>
  intro a
  simp only[wk]
  by_cases hn:n≤a
  ·rw[if_pos hn,if_pos hn]
  rw[if_neg hn,if_neg hn,FZ h (by omega)]
  cases eu g' n a with
  |none=>rfl
  |some o=>simp only[ih]
theorem zw {g g':Nat→Int}{n:Nat}(h:∀j,j<n→g j=g' j):stamp g n=stamp g' n:=by
 unfold stamp
 have hw:walk g n 0=walk g' n 0:=GK h _ _
 rw[hw]
 cases hc:walk g' n 0 with
 |none=>rfl
 |some l=>
  unfold rB
  dsimp only
  cases hf:fst l with
  |none=>rfl
  |some o=>
   have:=rX hc hf
   dsimp only
   unfold gR
   rw[h _ (by omega),h _ (by omega),h _ (by omega),h _ (by omega),h (o.2.1.toNat+6) (by omega),h (o.2.1.toNat+6+1) (by omega),h (o.2.1.toNat+6+2) (by omega),h (o.2.1.toNat+6+3) (by omega)]
theorem oX (g:Nat→Int):∀k:Nat,(fP g k).a=10∧(fP g k).p=80
 |0=>⟨rfl,rfl⟩
 |k+1=>by
  have ih:=oX g k
  unfold fP
  split
  ·rename_i h
   rw[(sc h).2.2]
   unfold kP
   cases (tV (g k)).k==6
   ·exact ih
   exact ih
  exact ih
theorem vd (g:Nat→Int)(k:Nat)(hk:k≤1000):Pt (fP g k):=by
 have hi:=m5 g k
 have ha:=oX g k
 refine⟨rQ g k,⟨by have:=hi.2.1;omega,by have:=hi.2.1;omega⟩,hi.st,?_,?_⟩
 ·rw[ha.1];decide
 rw[ha.2];decide
theorem GZ {x y:Pk}(h:Pe x y):bV x=bV y:=by
 unfold bV
 rw[h.no]
 exact zw fun j hj=>h.go j (by rw[h.no];exact hj)
theorem Ip {p:Pl}{nr:Nat→Option Int}{g:Nat→Int}{n:Nat}{x y:Pk}(h:Pe x y):inT p nr g n x=inT p nr g n y:=by
 unfold inT oo iq iX gE
 rw[h.kind,h.src,h.fp,h.label,h.flags,GZ h]
theorem Fz {p:Pl}{nr:Nat→Option Int}{g:Nat→Int}{n:Nat}{x:Pk}(hp:az g n=0)(pe:Pe (ax g n) x)(h0:x.piece=0)(h1:1<x.life)(hk:x.kind≠3)(hd:x.dst=p.a∧x.tp=p.p):cY p true nr g n=inT p nr g n x:=by
 unfold cY
 dsimp only
 rw[if_neg (by simp),hp,if_neg (by simp),pe.piece,if_neg (by simp[h0]),pe.life,if_neg (by omega),pe.dst,pe.kind,pe.tp,if_neg (fun h=>hk h.2),if_pos hd]
 exact Ip pe
theorem yt {v e:Int}(hv:eH v)(he:eH e):aC (mO v e):=by
 obtain ⟨v0,v1⟩:=hv
 obtain ⟨e0,e1⟩:=he
 intro j
 by_cases hj:j<12
 ·rcases (by omega:j=0∨j=1∨j=2∨j=3∨j=4∨j=5∨j=6∨j=7∨j=8∨j=9∨j=10∨j=11) with rfl |rfl |rfl |rfl |rfl |rfl |rfl |rfl |rfl |rfl |rfl |rfl
  all_goals first
   | (show (0:Int)≤1∧(1:Int)≤255;decide)
   | (show (0:Int)≤8∧(8:Int)≤255;decide)
   | (show (0:Int)≤10∧(10:Int)≤255;decide)
   | (show 0≤v/16777216∧v/16777216≤255;omega)
   | (show 0≤v/65536%256∧v/65536%256≤255;omega)
   | (show 0≤v/256%256∧v/256%256≤255;omega)
   | (show 0≤v%256∧v%256≤255;omega)
   | (show 0≤e/16777216∧e/16777216≤255;omega)
   | (show 0≤e/65536%256∧e/65536%256≤255;omega)
   | (show 0≤e/256%256∧e/256%256≤255;omega)
   | (show 0≤e%256∧e%256≤255;omega)
 have:mO v e j=0:=by
  unfold mO Lf BM
  rw[List.getD_eq_getElem?_getD,List.getElem?_eq_none (by simp;omega)]
  rfl
 rw[this]
 exact⟨by decide,by decide⟩
theorem lh:aC (fun _=>(0:Int)):=fun _=>⟨(by decide:(0:Int)≤0),(by decide:(0:Int)≤255)⟩
end Go.Proofs.YtalnfkijiehjhaaGreat
