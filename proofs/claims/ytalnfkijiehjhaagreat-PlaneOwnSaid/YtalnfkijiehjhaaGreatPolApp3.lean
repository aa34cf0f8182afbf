/- Apply. -/
import Derived.Test.YtalnfkijiehjhaaGreatGa
import Derived.Test.YtalnfkijiehjhaaGreatGq
import Derived.Deep.Cut
import Derived.BigQuiet
import Derived.Deep.RegionHeld3
namespace Go.Proofs.YtalnfkijiehjhaaGreat
set_option linter.unusedVariables false
set_option linter.unusedSimpArgs false
open Go.RowKit Go.ChangeShapes Go.WideShapes Go.ChangeAt
section
variable {P:Program}{ops:Array Oper}{rest:List Oper}{Q:Exit→Act→World→Prop}{o:Oper}{a:Act}{w:World}{v:Value}
theorem ah {l:List Oper}(h:wpList P ops Q l a w):wpList P ops Q l a w:=h
theorem aJ {K:Act→World→Prop}(h:K a w):wpList P ops (Exit.then K Q) [] a w:=h
theorem aI {K:Act→World→Prop}(h:Q .ret a w):Exit.then K Q .ret a w:=h
theorem iE {T:TypeId}(ho:o.op =.build T #[])(hw:Region.wanted o (yielded ops a.tmps)=true)(hl:(Instr.build T #[]).run P w =.ok v w)(h:wpList P ops Q rest (a.put o.dst v) w):wpList P ops Q (o::rest) a w:=
 dZ hw (by unfold execOp;simp only[ho,List.map_toArray,List.map_nil,Sem.run_bind,hl,Result.andThen_ok,Sem.run_pure]) h
end
def PB (p:Pl):Prop:=(-1152921504606846976≤p.v∧p.v≤1152921504606846976)∧Ep p.r.e∧∀i,i<64→-1152921504606846976≤(p.s i).si∧(p.s i).si≤1152921504606846976
def kP (p:Pl)(e:En):Pl:=bif e.k==6 then ⟨p.v+1,p.a,p.p,p.s,⟨p.r.e+1,p.r.c,p.r.n,e.y⟩⟩ else ⟨p.v+1,p.a,p.p,dC p.s e.s.toNat (jX p e e.s.toNat),p.r⟩
def jY (p:Pl)(e:En):Pl×Int:=if pu e=0 then (if oP p e e.s.toNat=0 then (kP p e,0) else (cm,oP p e e.s.toNat)) else (cm,pu e)
theorem m8 {n lo hi:Int}(h:d_ n lo hi=true):lo≤n∧n≤hi:=by unfold d_ at h;simpa using h
theorem vA {e:En}(h:pu e=0):1≤e.k∧e.k≤6∧0≤e.s∧e.s≤63∧(e.k=6→e.s=0):=by
 rw[EU]at h
 cases i0:d_ e.k 1 6
 ·rw[i0]at h;cases h
 cases i1:d_ e.s 0 63
 ·rw[i0,i1]at h;cases h
 have a:=m8 i0
 have b:=m8 i1
 refine⟨a.1,a.2,b.1,b.2,fun h6=>?_⟩
 rw[i0,i1,h6]at h
 by_cases hs:e.s=0
 ·exact hs
 have:(e.s != 0)=true:=by simpa using hs
 rw[this]at h
 cases h
section
variable {w:World}{b:Nat}{p:Pl}{l:List Value}
theorem Ce.i_ (h:Ce w b l){c j:Nat}{v:Value}(hne:c≠b):Ce (w.setCell ⟨c,j,none⟩ v) b l:=
 ⟨by simpa using h.1,fun i u hi=>by rw[World.cell?_setCell_other _ _ _ _ (fun e=>hne (by cases e;rfl))];exact h.2.1 i u hi,fun i=>by rw[World.frozen?_setCell];exact h.2.2 i⟩
theorem size_setCells (b:Nat):∀(vs:List Value) (o:Nat) (w:World),(w.setCells b o vs).heap.size=w.heap.size
 | [],_,_=>rfl
 |v::r,o,w=>by rw[World.setCells,size_setCells b r (o+1)];simp
theorem Ce.sQ (h:Ce w b l){c o:Nat}{vs:List Value}(hne:c≠b):Ce (w.setCells c o vs) b l:=
 ⟨by rw[size_setCells];exact h.1,fun i u hi=>by rw[World.cell?_setCells_out c vs o w _ (fun e _=>absurd e.symm hne)];exact h.2.1 i u hi,fun i=>by rw[World.frozen?_setCells];exact h.2.2 i⟩
theorem au.pY (h:au w b p):(loadVar 34 ⟨b,0,none⟩).run Tryz.prog w =.ok (gG p) w:=by
 refine run_loadVar_mid w b 0 34 (PL p) _ (fun j v hj=>?_) Tryz.underlying34 rfl ?_
 ·have hl:j<330:=by
   have:=(List.getElem?_eq_some_iff.1 hj).1
   rwa [kJ]at this
  rw[uq p j hl]at hj
  rw[Nat.zero_add,h.2.1 j hl,hj]
 rw[kJ];kernel_rfl
theorem au.iU (h:au w b p):(Instr.loadAt 34 (.pointer (some ⟨b,0,none⟩))).run Tryz.prog w =.ok (.agg (PA p)) w:=h.load
theorem au.fv (h:au w b p)(q:Pl):(Instr.storeAt 34 (.pointer (some ⟨b,0,none⟩)) (.agg (PA q))).run Tryz.prog w =.ok () (w.setCells b 0 (PA q).toList):=h.store q
theorem au.EC (h:au w b p):(loadVar 34 ⟨b,0,none⟩).run Tryz.prog w =.ok (.agg (PA p)) w:=h.pY
theorem lZ (w:World):(Instr.build 34 #[]).run Tryz.prog w =.ok (.agg (PA cm)) w:=Gr w
theorem rG {fn:Func}{r:Tmp}(h:fn.results =#[.cell r 34])(tmps:Array Value)(hp:tmps.getD r undef =.pointer (some ⟨b,0,none⟩))(hA:au w b p):(results fn tmps).run Tryz.prog w =.ok (.agg (PA p)) w:=by
 have hp':tmps[r]?.getD undef =.pointer (some ⟨b,0,none⟩):=by simpa using hp
 simp[results,h,hp',asAddr,hA.EC]
theorem ez {fn:Func}{r q:Tmp}(h:fn.results =#[.cell r 34,.tmp q])(tmps:Array Value)(hp:tmps.getD r undef =.pointer (some ⟨b,0,none⟩)){v:Value}(hq:tmps.getD q undef=v)(hA:au w b p):(results fn tmps).run Tryz.prog w =.ok (.tuple #[.agg (PA p),v]) w:=by
 have hp':tmps[r]?.getD undef =.pointer (some ⟨b,0,none⟩):=by simpa using hp
 have hq':tmps[q]?.getD undef=v:=by simpa using hq
 simp[results,h,hp',hq',asAddr,hA.EC]
end
attribute [local irreducible] PA
end Go.Proofs.YtalnfkijiehjhaaGreat
