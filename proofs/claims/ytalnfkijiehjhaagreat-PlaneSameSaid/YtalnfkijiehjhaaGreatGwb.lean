/- Parse. Sums that are turned. What packets' functions tell. What is built. What is built is read as it was. What changes keep. What Age keeps. What Nat keeps. What Nat's packet is read as. -/
import Derived.Test.YtalnfkijiehjhaaGreatGa
import Derived.Test.YtalnfkijiehjhaaGreatGw
import Derived.Deep.CutRange
import Derived.BigQuiet
import Derived.Deep.RegionHeld3
import Derived.Deep.Cut
namespace Go.Proofs.YtalnfkijiehjhaaGreat
open List renaming setIfInBounds_toArray→zA,set_cons_zero→zB,set_cons_succ→zC
set_option linter.unusedVariables false
set_option linter.unusedSimpArgs false
open Go.RowKit Go.ChangeShapes Go.WideShapes Go.ChangeAt
theorem af {w w':World}{B b:Nat}(h:w.grownBy w' (some b))(hb:B≤b)(hB:B≤w.heap.size):Below B w w':=
 ⟨h.os,h.tape,h.output,h.size,fun k hk=>h.block k (Nat.lt_of_lt_of_le hk hB) (fun e=>by injection e with e;omega)⟩
theorem OB.grown {w w':World}{B n b:Nat}{v:Value}{g:Nat→Int}(h:OB w B v n g)(hg:w.grownBy w' (some b))(hne:v.ownBlock≠some b):OB w' B v n g:=by
 refine⟨h.1,?_⟩
 rcases h.2 with h0 |⟨g',cap,cur,rfl,hB,hh,h1⟩
 ·exact .inl h0
 ·refine .inr ⟨g',cap,cur,rfl,hB,?_,h1⟩
  have hlt:g'<w.heap.size:=by
   rcases Nat.lt_or_ge g' w.heap.size with hlt |hge
   ·exact hlt
   ·rw[Array.getElem?_eq_none hge]at hh;cases hh
  rw[hg.block g' hlt hne]
  exact hh
theorem OB.base {w:World}{B B' n:Nat}{v:Value}{g:Nat→Int}(h:OB w B v n g)(hB:B'≤B):OB w B' v n g:=by
 refine⟨h.1,?_⟩
 rcases h.2 with h0 |⟨g',cap,cur,rfl,hb,h1⟩
 ·exact .inl h0
 ·exact .inr ⟨g',cap,cur,rfl,Nat.le_trans hB hb,h1⟩
theorem OB.ne {w:World}{B n b:Nat}{v:Value}{g:Nat→Int}(h:OB w B v n g)(hb:b<B):v.ownBlock≠some b:=by
 rcases h.2 with ⟨rfl,_⟩ |⟨g',cap,cur,rfl,hB,h1⟩
 ·intro e;cases e
 ·intro e
  simp only[Value.ownBlock,Option.some.injEq]at e
  omega
section
variable {P:Program}{Q:Exit→Act→World→Prop}{md:Region.Mode}{S:World→Prop}
end
def de (w:World)(b:Nat)(v0 v1 v2 v3 v4 v5 v6 v7 v8 v9 v10 v11 v12:Value):World:=(((((((((((((w.setCell ⟨b,0,none⟩ v0).setCell ⟨b,1,none⟩ v1).setCell ⟨b,2,none⟩ v2).setCell ⟨b,3,none⟩ v3).setCell ⟨b,4,none⟩ v4).setCell ⟨b,5,none⟩ v5).setCell ⟨b,6,none⟩ v6).setCell ⟨b,7,none⟩ v7).setCell ⟨b,8,none⟩ v8).setCell ⟨b,9,none⟩ v9).setCell ⟨b,10,none⟩ v10).setCell ⟨b,11,none⟩ v11).setCell ⟨b,12,none⟩ v12)
theorem Ce.s13 {w:World}{b:Nat}{x0 x1 x2 x3 x4 x5 x6 x7 x8 x9 f7 fZ fY:Value}(h:Ce w b [x0,x1,x2,x3,x4,x5,x6,x7,x8,x9,f7,fZ,fY])(v0 v1 v2 v3 v4 v5 v6 v7 v8 v9 v10 v11 v12:Value):Ce (de w b v0 v1 v2 v3 v4 v5 v6 v7 v8 v9 v10 v11 v12) b [v0,v1,v2,v3,v4,v5,v6,v7,v8,v9,v10,v11,v12]:=
 (((((((((((((h.set 0 v0 (by simp)).set 1 v1 (by simp)).set 2 v2 (by simp)).set 3 v3 (by simp)).set 4 v4 (by simp)).set 5 v5 (by simp)).set 6 v6 (by simp)).set 7 v7 (by simp)).set 8 v8 (by simp)).set 9 v9 (by simp)).set 10 v10 (by simp)).set 11 v11 (by simp)).set 12 v12 (by simp))
theorem dr {B:Nat}{w w':World}{b:Nat}(h:Below B w w')(hb:B≤b)(v0 v1 v2 v3 v4 v5 v6 v7 v8 v9 v10 v11 v12:Value):Below B w (de w' b v0 v1 v2 v3 v4 v5 v6 v7 v8 v9 v10 v11 v12):=
 ((((((((((((h.setCell (p:=⟨b,0,none⟩) hb _).setCell (p:=⟨b,1,none⟩) hb _).setCell (p:=⟨b,2,none⟩) hb _).setCell (p:=⟨b,3,none⟩) hb _).setCell (p:=⟨b,4,none⟩) hb _).setCell (p:=⟨b,5,none⟩) hb _).setCell (p:=⟨b,6,none⟩) hb _).setCell (p:=⟨b,7,none⟩) hb _).setCell (p:=⟨b,8,none⟩) hb _).setCell (p:=⟨b,9,none⟩) hb _).setCell (p:=⟨b,10,none⟩) hb _).setCell (p:=⟨b,11,none⟩) hb _).setCell (p:=⟨b,12,none⟩) hb _
theorem aU (w:World)(b:Nat)(v0 v1 v2 v3 v4 v5 v6 v7 v8 v9 v10 v11 v12:Value):w.grownBy (de w b v0 v1 v2 v3 v4 v5 v6 v7 v8 v9 v10 v11 v12) (some b):=by
 unfold de
 iterate 13 (refine gs _ _ ?_)
 exact World.grownBy.refl _ _
structure Pk where
 kind:Int:=0
 life:Int:=0
 piece:Int:=0
 src:Int:=0
 dst:Int:=0
 fp:Int:=0
 tp:Int:=0
 flags:Int:=0
 label:Int:=0
 bare:Bool:=false
 code:Int:=0
 no:Nat:=0
 go:Nat→Int:=fun _=>0
 nd:Nat:=0
 gd:Nat→Int:=fun _=>0
def cC (p:Pk)(O D:Value):List Value:=[p.kind,p.life,p.piece,p.src,p.dst,p.fp,p.tp,p.flags,p.label,p.bare,p.code,O,D]
def bS (p:Pk)(O D:Value):Value:=.agg (cC p O D).toArray
def dW (g:Nat→Int)(n:Nat):Pk:=
 if g 0=3 then { kind:=g 0,life:=g 1,piece:=g 12,src:=num g 4 4,dst:=num g 8 4,code:=g 16,nd:=n-20,gd:=fun j=>g (20+j) }
 else if g 0=2 then { kind:=g 0,life:=g 1,piece:=g 12,src:=num g 4 4,dst:=num g 8 4,fp:=num g 16 2,tp:=num g 18 2,label:=num g 20 2,bare:=num g 22 2==0,nd:=n-24,gd:=fun j=>g (24+j) }
 else { kind:=g 0,life:=g 1,piece:=g 12,src:=num g 4 4,dst:=num g 8 4,fp:=num g 16 2,tp:=num g 18 2,flags:=g 20,no:=(g 21).toNat,go:=fun j=>g (24+j),nd:=n-24-(g 21).toNat,gd:=fun j=>g (24+(g 21).toNat+j) }
def aj (g:Nat→Int)(n:Nat):Pk:=if ax g n=0 then dW g n else {}
def Parsed (w:World)(g:Nat→Int)(n:Nat)(e:Ending)(w':World):Prop:=
 ∃O D:Value,e =.returned (.tuple #[bS (aj g n) O D,(ax g n)])∧OB w' w.heap.size O (aj g n).no (aj g n).go∧OB w' w.heap.size D (aj g n).nd (aj g n).gd∧Below w.heap.size w w'
theorem OB.nil {w:World}{B:Nat}{g:Nat→Int}:OB w B (.slice none 0 0) 0 g:=Ow.none_
theorem qs {P:Program}{F:FuncId}{args:Array Value}{w:World}{v:Value}(h:Calls P F args w fun e w'=>e =.returned v∧w=w'):Calls P F args w fun e w'=>e =.returned v∧w'=w:=h.mono fun _ _ ⟨a,b⟩=>⟨a,b.symm⟩
theorem rY {g:Nat→Int}{n:Nat}(h:cJ g n=0)(hk:isK (g 0)=true):24≤n∧(g 0=3∧44≤n∨g 0=2∨g 0=1∧g 20≤15∧g 21≤40∧g 21≤(n:Int)-24):=by
 unfold isK at hk
 simp at hk
 unfold cJ at h
 split at h
 ·split at h
  ·cases h
  ·exact⟨by omega,.inl ⟨by assumption,by omega⟩⟩
 ·split at h
  ·cases h
  ·split at h
   ·cases h
   ·rename_i h3 iS h5
    refine⟨by omega,.inr ?_⟩
    by_cases h1:g 0=1
    ·refine .inr ⟨h1,?_,?_,?_⟩ <;> (have:=fun x=>h5 ⟨h1,x⟩;omega)
    ·exact .inl (by omega)
theorem OB.nc {w w':World}{B n:Nat}{v:Value}{g:Nat→Int}(h:OB w B v n g)(hb:Below w.heap.size w w'):OB w' B v n g:=Ow.keep h hb (Nat.le_refl _)
theorem Df {w:World}{n c b off:Nat}{g:Nat→Int}(h:By w (some ⟨b,off,none⟩) n g)(hg:az g)(a:Nat)(ha:a+2≤n)(hc:n≤c)(hb:n≤1000000) :
 Calls Tryz.prog 86 #[.slice (some ⟨b,off,none⟩) n c,a] w fun e w2=>e =.returned (.int .i64 (num g a 2))∧w=w2:=by
 have:=eT (some ⟨b,off,none⟩) n c g w h hg a (by omega) hc hb
 rw[show aN g n a=num g a 2 from by unfold aN;rw[if_neg (by omega)]]at this
 exact this
theorem bL {w w':World}{n b off L:Nat}{g:Nat→Int}(h:By w (some ⟨b,off,none⟩) n g)(hg:w.grownBy w' (some L))(hne:b≠L):By w' (some ⟨b,off,none⟩) n g:=by
 intro hn
 obtain ⟨b',off',e,hlt,hc⟩:=h hn
 injection e with e
 injection e with e1 e2
 subst e1;subst e2
 exact⟨b,off,rfl,Nat.lt_of_lt_of_le hlt hg.size,fun j hj=>(World.cell?_of_block (a:=⟨b,off+j,none⟩) (hg.block b hlt (fun e=>hne (by injection e)))).trans (hc j hj)⟩
theorem n_ {w:World}{n b off:Nat}{g:Nat→Int}(h:By w (some ⟨b,off,none⟩) n g)(hg:az g)(a:Nat)(ha:a+4≤n)(c:Nat) :
 Calls Tryz.prog 84 #[.slice (some ⟨b,off+a,none⟩) 4 c] w fun e w2=>e =.returned (.int .i64 (num g a 4))∧w=w2:=by
 have:=qU (some ⟨b,off+a,none⟩) 4 c (fun j=>g (a+j)) w (Sl.cut h 4 ha) (fun j=>hg _) (by omega)
 rw[lZ]at this
 exact this
theorem Ce.aZ {w:World}{b:Nat}{l:List Value}(h:Ce w b l):Ce w.drew b l:=h
set_option maxRecDepth 100000 in
set_option maxHeartbeats 8000000 in
theorem ig (A:Option Addr)(n c:Nat)(g:Nat→Int)(w:World)(h:By w A n g)(hg:az g)(hc:n≤c)(hb:n≤1000000) :
 Calls Tryz.prog 43 #[.slice A n c] w (Parsed w g n):=by
 have hz:∀w:World,(zeroValue 53).run Tryz.prog w =.ok (.agg #[(),(),(),(),(),(),(),(),(),false,(),.slice none 0 0,.slice none 0 0]) w:=fun w=>by kernel_rfl
 obtain ⟨he,um⟩:∃z,z=cz g n:=⟨_,rfl⟩
 have HH:=hid (fun w (h:By w A n g)=>dc (BV A n c g w h hg hc hb) um.symm)
 by_cases h0:he=0
 ·subst h0
  have hh:=rU um.symm
  obtain ⟨be,hbe⟩:∃z,z=cJ g n:=⟨_,rfl⟩
  have HB:=hid (fun w (h:By w A n g)=>dc (Ae A n c g w h hg hh.1 hb) hbe.symm)
  have hE:ax g n=be:=by unfold ax;rw[if_pos um.symm,hbe]
  by_cases b0:be=0
  ·subst b0
   have HE:=hid hE
   have hn16:=hh.1
   have hgb:=rY hbe.symm hh.2.1
   have CR:=(Ce.made (w:=w) (l:=[(),(),(),(),(),(),(),(),(),false,(),.slice none 0 0,.slice none 0 0]) (T:=53) rfl)
   have B1:=(Below.refl w.heap.size w).alloc (Nat.le_refl _) (.cells #[(),(),(),(),(),(),(),(),(),false,(),.slice none 0 0,.slice none 0 0] 53)
   have IU:Hid (aj g n=dW g n):=hid (by unfold aj;rw[hE,if_pos rfl])
   replace CR:=hid CR
   replace B1:=hid B1
   have h1:=hid (h.below B1.out (Nat.le_refl _))
   have HG:=hid hg
   have I_:=hid hgb
   have mV:=hid h
   clear um hbe hh hE h hg hgb
   go_enter Tryz.func43,Tryz.ntmps43
   go_wp2_with fail
   refine(HH.out _ h1.out).mono ?_
   rintro x w' ⟨rfl,m,rfl⟩
   go_wp2_with fail
   refine(HB.out _ (Sl.drewN h1.out m)).mono ?_
   rintro x w' ⟨rfl,rfl⟩
   go_upto_region 7 with (fail)
   have ff:=hid (Ce.below CR.out (below_drewN (Below.refl _ _) m))
   have B2:=hid (below_drewN B1.out m)
   have h2:=hid (Sl.drewN h1.out m)
   have jt:=ff.out.1
   clear CR B1 h1 HH HB
   simp only[List.toArray]at ff
   generalize (w.alloc (.cells #[(),(),(),(),(),(),(),(),(),false,(),.slice none 0 0,.slice none 0 0] 53)).drewN m=w1 at *
   obtain ⟨b,off,rfl,hblt,hcell⟩:=h2.out (by omega)
   have hbw:b<w.heap.size:=Sl.lt mV.out (by omega)
   have c0:=hcell 0 (by omega)
   have c1:=hcell 1 (by omega)
   have c12:=hcell 12 (by omega)
   rw[Nat.add_zero]at c0
   have wu:=HG.out 0
   have nD:=HG.out 1
   have qf:=HG.out 12
   obtain ⟨PW,PV⟩:=wu
   obtain ⟨Cg,Cf⟩:=nD
   obtain ⟨xI,xH⟩:=qf
   have i1:(12:Int)<n:=by omega
   have i2:(1:Int)<n:=by omega
   have i3:(0:Int)<n:=by omega
   have j3:0<n:=by omega
   have v0:IntKind.i64.wrap (g 0)=g 0:=IntWalk.i64_in _ (by omega)
   have v1:IntKind.i64.wrap (g 1)=g 1:=IntWalk.i64_in _ (by omega)
   have v2:IntKind.i64.wrap (g 12)=g 12:=IntWalk.i64_in _ (by omega)
   have j2:1<n:=by omega
   have j1:12<n:=by omega
   have i4:(8:Int)≤c:=by omega
   have i5:(12:Int)≤c:=by omega
   have k4:¬c=4:=by omega
   have k8:¬c=8:=by omega
   clear hcell c0 c1 c12
   go_cut [6] from 20 (fun p wx=>∃L:Nat,p =.pointer (some ⟨L,0,none⟩)∧w.heap.size<L∧Ce wx L [(g 0),(g 1),(g 12),(num g 4 4),(num g 8 4),(),(),(),(),false,(),.slice none 0 0,.slice none 0 0]∧By wx (some ⟨b,off,none⟩) n g∧Ce wx w.heap.size [(),(),(),(),(),(),(),(),(),false,(),.slice none 0 0,.slice none 0 0]∧Below w.heap.size w wx)
   case first=>
    refine wp_region_held_drew (S:=fun w'=>By w' (some ⟨b,off,none⟩) n g∧Ce w' w.heap.size [(),(),(),(),(),(),(),(),(),false,(),.slice none 0 0,.slice none 0 0]∧Below w.heap.size w w') (by kernel_rfl) ?_ (fun hHeld=>?_)
    ·exact⟨h2.out.drew,ff.out,below_drewN B2.out 1⟩
    refine ae 0 (by assumption) ?_
    refine ae 1 (by assumption) ?_
    refine ae 2 (by assumption) ?_ (hy:=by intro w hSw;(try dsimp only at hSw);obtain ⟨hA,hC,hB⟩:=hSw;have z0:=hA.at_ (j:=0) (by omega);have z1:=hA.at_ (j:=1) (by omega);have z12:=hA.at_ (j:=12) (by omega);rw[Nat.add_zero]at z0;go_simp;(try with_reducible rfl))
    refine ae 3 (by assumption) ?_
    refine ae 4 (by assumption) ?_
    refine ae 5 (by assumption) ?_
    refine ae 6 (by assumption) ?_ (hy:=by intro w hSw;(try dsimp only at hSw);obtain ⟨hA,hC,hB⟩:=hSw;have z0:=hA.at_ (j:=0) (by omega);have z1:=hA.at_ (j:=1) (by omega);have z12:=hA.at_ (j:=12) (by omega);rw[Nat.add_zero]at z0;go_simp;(try with_reducible rfl))
    refine ae 7 (by assumption) ?_
    refine ae 8 (by assumption) ?_
    refine ae 9 (by assumption) ?_
    refine ae 10 (by assumption) ?_ (hy:=by intro w hSw;(try dsimp only at hSw);obtain ⟨hA,hC,hB⟩:=hSw;have z0:=hA.at_ (j:=0) (by omega);have z1:=hA.at_ (j:=1) (by omega);have z12:=hA.at_ (j:=12) (by omega);rw[Nat.add_zero]at z0;go_simp;(try with_reducible rfl))
    refine ae 11 (by assumption) ?_
    refine ae 12 (by assumption) ?_
    refine ae 13 (by assumption) ?_
    refine ae 15 (by assumption) ?_
    refine ae 16 (by assumption) ?_
    refine eO 14 19 rfl rfl (by kernel_rfl) rfl rfl (fun K hK=>?_) (fun K hK=>?_)
    ·go_simp
     refine(n_ hHeld.1 HG.out 4 (by omega) _).mono ?_
     rintro e' w' ⟨rfl,rfl⟩
     try go_wp2_with fail
     refine hK.out _ _ hHeld (fun _=>?_)
     clear hK
     try simp only[Act.put,zA,zB,zC]
     refine eO 17 19 rfl rfl (by kernel_rfl) rfl rfl (fun K hK=>?_) (fun K hK=>?_)
     ·go_simp
      refine(n_ hHeld.1 HG.out 8 (by omega) _).mono ?_
      rintro e' w' ⟨rfl,rfl⟩
      try go_wp2_with fail
      refine hK.out _ _ hHeld (fun _=>?_)
      clear hK
      try simp only[Act.put,zA,zB,zC]
      refine ae 18 (by assumption) ?_
      refine only 19 rfl (by kernel_rfl) rfl (fun K hK=>?_)
      go_simp
      refine hK.out _ _ ⟨hHeld.1.alloc _,hHeld.2.1.alloc _,hHeld.2.2.alloc hHeld.2.2.size _⟩ (fun cA=>?_)
      clear hK
      try simp only[Act.put,zA,zB,zC]
      refine only 20 rfl (by kernel_rfl) rfl (fun K hK=>?_)
      go_simp
      refine hK.out _ _ ⟨hHeld.1.alloc _,hHeld.2.1.alloc _,hHeld.2.2.alloc hHeld.2.2.size _⟩ (fun _=>?_)
      clear hK
      try simp only[Act.put,zA,zB,zC]
      refine wpAnyH_done (by kernel_rfl) ?_ _
      go_wp2_with fail
      go_meet
      exact⟨_,rfl,jt,(Ce.made (w:=w1) (l:=[(g 0),(g 1),(g 12),(num g 4 4),(num g 8 4),(),(),(),(),false,(),.slice none 0 0,.slice none 0 0]) rfl).aZ,(h2.out.alloc _).drew,(ff.out.alloc _).aZ,(B2.out.alloc B2.out.size _).drew⟩
     ·go_simp
      refine hK.out _ _ ⟨hHeld.1.alloc _,hHeld.2.1.alloc _,hHeld.2.2.alloc hHeld.2.2.size _⟩ (fun cA=>?_)
      clear hK
      try simp only[Act.put,zA,zB,zC]
      refine only 17 rfl (by kernel_rfl) rfl (fun K hK=>?_)
      go_simp
      refine(n_ cA.1 HG.out 8 (by omega) _).mono ?_
      rintro e' w' ⟨rfl,rfl⟩
      try go_wp2_with fail
      refine hK.out _ _ cA (fun _=>?_)
      clear hK
      try simp only[Act.put,zA,zB,zC]
      refine ae 18 (by assumption) ?_
      refine only 20 rfl (by kernel_rfl) rfl (fun K hK=>?_)
      go_simp
      refine hK.out _ _ ⟨hHeld.1.alloc _,hHeld.2.1.alloc _,hHeld.2.2.alloc hHeld.2.2.size _⟩ (fun _=>?_)
      clear hK
      try simp only[Act.put,zA,zB,zC]
      refine wpAnyH_done (by kernel_rfl) ?_ _
      go_wp2_with fail
      go_meet
      exact⟨_,rfl,jt,(Ce.made (w:=w1) (l:=[(g 0),(g 1),(g 12),(num g 4 4),(num g 8 4),(),(),(),(),false,(),.slice none 0 0,.slice none 0 0]) rfl).aZ,(h2.out.alloc _).drew,(ff.out.alloc _).aZ,(B2.out.alloc B2.out.size _).drew⟩
    ·go_simp
     refine hK.out _ _ ⟨hHeld.1.alloc _,hHeld.2.1.alloc _,hHeld.2.2.alloc hHeld.2.2.size _⟩ (fun cA=>?_)
     clear hK
     try simp only[Act.put,zA,zB,zC]
     refine only 14 rfl (by kernel_rfl) rfl (fun K hK=>?_)
     go_simp
     refine(n_ cA.1 HG.out 4 (by omega) _).mono ?_
     rintro e' w' ⟨rfl,rfl⟩
     try go_wp2_with fail
     refine hK.out _ _ cA (fun _=>?_)
     clear hK
     try simp only[Act.put,zA,zB,zC]
     refine only 17 rfl (by kernel_rfl) rfl (fun K hK=>?_)
     go_simp
     refine(n_ cA.1 HG.out 8 (by omega) _).mono ?_
     rintro e' w' ⟨rfl,rfl⟩
     try go_wp2_with fail
     refine hK.out _ _ cA (fun _=>?_)
     clear hK
     try simp only[Act.put,zA,zB,zC]
     refine ae 18 (by assumption) ?_
     refine only 20 rfl (by kernel_rfl) rfl (fun K hK=>?_)
     go_simp
     refine hK.out _ _ ⟨hHeld.1.alloc _,hHeld.2.1.alloc _,hHeld.2.2.alloc hHeld.2.2.size _⟩ (fun _=>?_)
     clear hK
     try simp only[Act.put,zA,zB,zC]
     refine wpAnyH_done (by kernel_rfl) ?_ _
     go_wp2_with fail
     go_meet
     exact⟨_,rfl,jt,(Ce.made (w:=w1) (l:=[(g 0),(g 1),(g 12),(num g 4 4),(num g 8 4),(),(),(),(),false,(),.slice none 0 0,.slice none 0 0]) rfl).aZ,(h2.out.alloc _).drew,(ff.out.alloc _).aZ,(B2.out.alloc B2.out.size _).drew⟩
   case rest=>
    obtain ⟨L,rfl,hL,bm,hA,fe,hB⟩:=hcut
    replace bm:=hid bm
    replace fe:=hid fe
    replace hA:=hid hA
    replace hB:=hid hB
    have eB:L≠w.heap.size:=Nat.ne_of_gt hL
    have IT:w.heap.size≠L:=Nat.ne_of_lt hL
    have hBlt:b≠L:=by omega
    have Hl:b≠w.heap.size:=by omega
    clear ff B2 h2 jt mV
    rcases I_.out.2 with ⟨k3,PE⟩ |k2 |⟨k1,k20,k21,k24⟩
    ·have q0:(g 0==3)=true:=by simpa using k3
     have uV:Hid (aj g n ={ kind:=g 0,life:=g 1,piece:=g 12,src:=num g 4 4,dst:=num g 8 4,code:=g 16,nd:=n-20,gd:=fun j=>g (20+j) }):=hid (by rw[IU.out];unfold dW;rw[if_pos k3])
     clear k3
     have Ci:=HG.out 16
     obtain ⟨JX,JW⟩:=Ci
     have c16:=hA.out.at_ (j:=16) (by omega)
     have i16:(16:Int)<n:=by omega
     have i20:(20:Int)≤n:=by omega
     have k20:¬c=20:=by omega
     have y0:=bm.out.2.1 0 _ rfl
     have y1:=bm.out.2.1 1 _ rfl
     have y2:=bm.out.2.1 2 _ rfl
     have y3:=bm.out.2.1 3 _ rfl
     have y4:=bm.out.2.1 4 _ rfl
     have y5:=bm.out.2.1 5 _ rfl
     have y6:=bm.out.2.1 6 _ rfl
     have y7:=bm.out.2.1 7 _ rfl
     have y8:=bm.out.2.1 8 _ rfl
     have y9:=bm.out.2.1 9 _ rfl
     have au:=bm.out.2.1 10 _ rfl
     have ao:=bm.out.2.1 11 _ rfl
     have al:=bm.out.2.1 12 _ rfl
     have yf:=bm.out.2.2
     have Jb:=fun v=>hid (bm.out.set 10 (.int .i64 v) (by simp))
     have Ja:=fun v=>hid (fe.out.grown (gs 10 (.int .i64 v) (World.grownBy.refl wc (some L))) (fun e=>eB (by injection e)))
     have HA2:=fun v=>hid (bL hA.out (gs 10 (.int .i64 v) (World.grownBy.refl wc (some L))) hBlt)
     go_wp2_with fail
     refine(gL _ (n-20) _ (fun j=>g (20+j)) _ (Sl.cut (HA2 (g 16)).out (n-20) (by omega)) (by omega)).mono ?_
     rintro x w2 ⟨G,rfl,hG,hO,hb⟩
     have hG2:wc.heap.size≤G:=by simpa using hG
     have ri:=bm.out.1
     have i7:=hid ((Jb (g 16)).out.below hb)
     have iM:=hid ((Ja (g 16)).out.below hb)
     have HB3:=hid (then_ (hB.out.setCell (p:=⟨L,10,none⟩) (Nat.le_of_lt hL) (.int .i64 (g 16))) hb)
     have uW:=hid (OB.base hO (show wc.heap.size≤_ by simp))
     clear Jb Ja HA2 hb hO hG c16
     clear y0 y1 y2 y3 y4 y5 y6 y7 y8 y9 au ao al yf
     have y0:=i7.out.2.1 0 _ rfl
     have y1:=i7.out.2.1 1 _ rfl
     have y2:=i7.out.2.1 2 _ rfl
     have y3:=i7.out.2.1 3 _ rfl
     have y4:=i7.out.2.1 4 _ rfl
     have y5:=i7.out.2.1 5 _ rfl
     have y6:=i7.out.2.1 6 _ rfl
     have y7:=i7.out.2.1 7 _ rfl
     have y8:=i7.out.2.1 8 _ rfl
     have y9:=i7.out.2.1 9 _ rfl
     have au:=i7.out.2.1 10 _ rfl
     have ao:=i7.out.2.1 11 _ rfl
     have al:=i7.out.2.1 12 _ rfl
     have yf:=i7.out.2.2
     have z0:=iM.out.2.1 0 _ rfl
     have z1:=iM.out.2.1 1 _ rfl
     have z2:=iM.out.2.1 2 _ rfl
     have z3:=iM.out.2.1 3 _ rfl
     have z4:=iM.out.2.1 4 _ rfl
     have z5:=iM.out.2.1 5 _ rfl
     have z6:=iM.out.2.1 6 _ rfl
     have z7:=iM.out.2.1 7 _ rfl
     have z8:=iM.out.2.1 8 _ rfl
     have z9:=iM.out.2.1 9 _ rfl
     have j_:=iM.out.2.1 10 _ rfl
     have j9:=iM.out.2.1 11 _ rfl
     have z12:=iM.out.2.1 12 _ rfl
     have zf:=iM.out.2.2
     have yl:=i7.out.1
     have zl:=iM.out.1
     go_wp2_with fail
     have CE:=(iM.out.grown (gs 12 (.slice (some ⟨G,0,none⟩) (n-20) (n-20)) (World.grownBy.refl w2 (some L))) (fun e=>eB (by injection e))).s13 (.int .i64 (g 0)) (.int .i64 (g 1)) (.int .i64 (g 12)) (.int .i64 (num g 4 4)) (.int .i64 (num g 8 4)) (.int .i64 0) (.int .i64 0) (.int .i64 0) (.int .i64 0) (.bool false) (.int .i64 (g 16)) (.slice none 0 0) (.slice (some ⟨G,0,none⟩) (n-20) (n-20))
     have BE:=dr (b:=w.heap.size) (HB3.out.setCell (p:=⟨L,12,none⟩) (Nat.le_of_lt hL) (.slice (some ⟨G,0,none⟩) (n-20) (n-20))) (Nat.le_refl _) (.int .i64 (g 0)) (.int .i64 (g 1)) (.int .i64 (g 12)) (.int .i64 (num g 4 4)) (.int .i64 (num g 8 4)) (.int .i64 0) (.int .i64 0) (.int .i64 0) (.int .i64 0) (.bool false) (.int .i64 (g 16)) (.slice none 0 0) (.slice (some ⟨G,0,none⟩) (n-20) (n-20))
     have da:=OB.grown (OB.grown uW.out (gs 12 (.slice (some ⟨G,0,none⟩) (n-20) (n-20)) (World.grownBy.refl w2 (some L))) (OB.ne uW.out ri)) (aU _ w.heap.size (.int .i64 (g 0)) (.int .i64 (g 1)) (.int .i64 (g 12)) (.int .i64 (num g 4 4)) (.int .i64 (num g 8 4)) (.int .i64 0) (.int .i64 0) (.int .i64 0) (.int .i64 0) (.bool false) (.int .i64 (g 16)) (.slice none 0 0) (.slice (some ⟨G,0,none⟩) (n-20) (n-20))) (OB.ne (OB.grown uW.out (gs 12 (.slice (some ⟨G,0,none⟩) (n-20) (n-20)) (World.grownBy.refl w2 (some L))) (OB.ne uW.out ri)) (by omega))
     unfold de at CE BE da
     replace CE:=hid CE
     replace BE:=hid BE
     replace da:=hid da
     refine cG (fun w'=>Ce w' w.heap.size [(g 0),(g 1),(g 12),(num g 4 4),(num g 8 4),(),(),(),(),false,(g 16),.slice none 0 0,.slice (some ⟨G,0,none⟩) (n-20) (n-20)]∧Below w.heap.size w w'∧OB w' wc.heap.size (.slice (some ⟨G,0,none⟩) (n-20) (n-20)) (n-20) (fun j=>g (20+j))) ⟨CE.out,BE.out,da.out⟩ (fun wf hwf=>?_)
     obtain ⟨hc2,hbf,ho0⟩:=hwf
     have y0:=hc2.2.1 0 _ rfl
     have y1:=hc2.2.1 1 _ rfl
     have y2:=hc2.2.1 2 _ rfl
     have y3:=hc2.2.1 3 _ rfl
     have y4:=hc2.2.1 4 _ rfl
     have y5:=hc2.2.1 5 _ rfl
     have y6:=hc2.2.1 6 _ rfl
     have y7:=hc2.2.1 7 _ rfl
     have y8:=hc2.2.1 8 _ rfl
     have y9:=hc2.2.1 9 _ rfl
     have au:=hc2.2.1 10 _ rfl
     have ao:=hc2.2.1 11 _ rfl
     have al:=hc2.2.1 12 _ rfl
     refine bodyPost_ret (v:=.tuple #[.agg #[(g 0),(g 1),(g 12),(num g 4 4),(num g 8 4),(),(),(),(),false,(g 16),.slice none 0 0,.slice (some ⟨G,0,none⟩) (n-20) (n-20)],()]) (by simp[results,Tryz.results43,go_sem,y0,y1,y2,y3,y4,y5,y6,y7,y8,y9,au,ao,al]) rfl ?_
     refine⟨.slice none 0 0,(.slice (some ⟨G,0,none⟩) (n-20) (n-20)),by rw[uV.out,HE.out];rfl,by rw[uV.out];exact OB.nil,by rw[uV.out];exact OB.base ho0 (by omega),hbf⟩
    ·have q0:(g 0==3)=false:=by rw[k2];rfl
     have q1:(g 0==2)=true:=by simpa using k2
     have jl:Hid (aj g n ={ kind:=g 0,life:=g 1,piece:=g 12,src:=num g 4 4,dst:=num g 8 4,fp:=num g 16 2,tp:=num g 18 2,label:=num g 20 2,bare:=num g 22 2==0,nd:=n-24,gd:=fun j=>g (24+j) }):=hid (by rw[IU.out];unfold dW;rw[if_neg (by omega),if_pos k2])
     have OY:Hid (bz g=(num g 22 2==0)):=hid (by unfold bz;rw[show (g 0==2)=true from by simpa using k2,Bool.true_and])
     have n24:=I_.out.1
     clear k2
     obtain ⟨A9,r1,r2⟩:=ev (some ⟨b,off,none⟩) n c 24 n24 hc 24 rfl
     replace r2:=hid r2
     have PP:=hid (fun (w':World) (hw:By w' (some ⟨b,off,none⟩) n g) (a:Nat) (ha:a+2≤n)=>Df hw HG.out a ha hc hb)
     have i24:(24:Int)≤n:=by omega
     have y0:=bm.out.2.1 0 _ rfl
     have y1:=bm.out.2.1 1 _ rfl
     have y2:=bm.out.2.1 2 _ rfl
     have y3:=bm.out.2.1 3 _ rfl
     have y4:=bm.out.2.1 4 _ rfl
     have y5:=bm.out.2.1 5 _ rfl
     have y6:=bm.out.2.1 6 _ rfl
     have y7:=bm.out.2.1 7 _ rfl
     have y8:=bm.out.2.1 8 _ rfl
     have y9:=bm.out.2.1 9 _ rfl
     have au:=bm.out.2.1 10 _ rfl
     have ao:=bm.out.2.1 11 _ rfl
     have al:=bm.out.2.1 12 _ rfl
     have yf:=bm.out.2.2
     have yl:=bm.out.1
     go_wp2_with fail
     refine(PP.out _ hA.out 16 (by omega)).mono ?_
     rintro x w' ⟨rfl,rfl⟩
     go_wp2_with fail
     refine(PP.out _ hA.out 18 (by omega)).mono ?_
     rintro x w' ⟨rfl,rfl⟩
     have C2:=hid (((bm.out).set 5 (.int .i64 (num g 16 2)) (by simp)).set 6 (.int .i64 (num g 18 2)) (by simp))
     have R2:=hid (fe.out.grown (gs 6 (.int .i64 (num g 18 2)) (gs 5 (.int .i64 (num g 16 2)) (World.grownBy.refl wc (some L)))) (fun e=>eB (by injection e)))
     have A2:=hid (bL hA.out (gs 6 (.int .i64 (num g 18 2)) (gs 5 (.int .i64 (num g 16 2)) (World.grownBy.refl wc (some L)))) hBlt)
     have D2:=hid (((hB.out).setCell (p:=⟨L,5,none⟩) (Nat.le_of_lt hL) (.int .i64 (num g 16 2))).setCell (p:=⟨L,6,none⟩) (Nat.le_of_lt hL) (.int .i64 (num g 18 2)))
     have l2:=C2.out.1
     go_wp2_with fail
     refine(PP.out _ A2.out 20 (by omega)).mono ?_
     rintro x w' ⟨rfl,rfl⟩
     go_wp2_with fail
     refine(iD (nf _ n c g _ A2.out HG.out (by omega) (.inr n24) hc hb) OY.out).mono ?_
     rintro x w' ⟨rfl,rfl⟩
     have C3:=hid (((C2.out).set 8 (.int .i64 (num g 20 2)) (by simp)).set 9 (.bool (num g 22 2==0)) (by simp))
     have R3:=hid (R2.out.grown (gs 9 (.bool (num g 22 2==0)) (gs 8 (.int .i64 (num g 20 2)) (World.grownBy.refl ((wc.setCell ⟨L,5,none⟩ (.int .i64 (num g 16 2))).setCell ⟨L,6,none⟩ (.int .i64 (num g 18 2))) (some L)))) (fun e=>eB (by injection e)))
     have A3:=hid (bL A2.out (gs 9 (.bool (num g 22 2==0)) (gs 8 (.int .i64 (num g 20 2)) (World.grownBy.refl ((wc.setCell ⟨L,5,none⟩ (.int .i64 (num g 16 2))).setCell ⟨L,6,none⟩ (.int .i64 (num g 18 2))) (some L)))) hBlt)
     have D3:=hid (((D2.out).setCell (p:=⟨L,8,none⟩) (Nat.le_of_lt hL) (.int .i64 (num g 20 2))).setCell (p:=⟨L,9,none⟩) (Nat.le_of_lt hL) (.bool (num g 22 2==0)))
     go_wp2_with fail
     refine(gL _ (n-24) _ (fun j=>g (24+j)) _ (r2.out _ g A3.out) (by omega)).mono ?_
     rintro x w4 ⟨G,rfl,hG,hO,Dx⟩
     have hG2:wc.heap.size≤G:=by simpa using hG
     have ri:=bm.out.1
     have C4:=hid (C3.out.below Dx)
     have R4:=hid (R3.out.below Dx)
     have D4:=hid (then_ D3.out Dx)
     have O4:=hid (OB.base hO (show wc.heap.size≤_ by simp))
     clear C2 R2 A2 D2 C3 R3 A3 D3 Dx hO hG PP
     clear y0 y1 y2 y3 y4 y5 y6 y7 y8 y9 au ao al yf
     have y0:=C4.out.2.1 0 _ rfl
     have y1:=C4.out.2.1 1 _ rfl
     have y2:=C4.out.2.1 2 _ rfl
     have y3:=C4.out.2.1 3 _ rfl
     have y4:=C4.out.2.1 4 _ rfl
     have y5:=C4.out.2.1 5 _ rfl
     have y6:=C4.out.2.1 6 _ rfl
     have y7:=C4.out.2.1 7 _ rfl
     have y8:=C4.out.2.1 8 _ rfl
     have y9:=C4.out.2.1 9 _ rfl
     have au:=C4.out.2.1 10 _ rfl
     have ao:=C4.out.2.1 11 _ rfl
     have al:=C4.out.2.1 12 _ rfl
     have yf:=C4.out.2.2
     have z0:=R4.out.2.1 0 _ rfl
     have z1:=R4.out.2.1 1 _ rfl
     have z2:=R4.out.2.1 2 _ rfl
     have z3:=R4.out.2.1 3 _ rfl
     have z4:=R4.out.2.1 4 _ rfl
     have z5:=R4.out.2.1 5 _ rfl
     have z6:=R4.out.2.1 6 _ rfl
     have z7:=R4.out.2.1 7 _ rfl
     have z8:=R4.out.2.1 8 _ rfl
     have z9:=R4.out.2.1 9 _ rfl
     have j_:=R4.out.2.1 10 _ rfl
     have j9:=R4.out.2.1 11 _ rfl
     have z12:=R4.out.2.1 12 _ rfl
     have zf:=R4.out.2.2
     have MF:=C4.out.1
     have zl:=R4.out.1
     go_wp2_with fail
     have CE:=(R4.out.grown (gs 12 (.slice (some ⟨G,0,none⟩) (n-24) (n-24)) (World.grownBy.refl w4 (some L))) (fun e=>eB (by injection e))).s13 (.int .i64 (g 0)) (.int .i64 (g 1)) (.int .i64 (g 12)) (.int .i64 (num g 4 4)) (.int .i64 (num g 8 4)) (.int .i64 (num g 16 2)) (.int .i64 (num g 18 2)) (.int .i64 0) (.int .i64 (num g 20 2)) (.bool (num g 22 2==0)) (.int .i64 0) (.slice none 0 0) (.slice (some ⟨G,0,none⟩) (n-24) (n-24))
     have BE:=dr (b:=w.heap.size) (D4.out.setCell (p:=⟨L,12,none⟩) (Nat.le_of_lt hL) (.slice (some ⟨G,0,none⟩) (n-24) (n-24))) (Nat.le_refl _) (.int .i64 (g 0)) (.int .i64 (g 1)) (.int .i64 (g 12)) (.int .i64 (num g 4 4)) (.int .i64 (num g 8 4)) (.int .i64 (num g 16 2)) (.int .i64 (num g 18 2)) (.int .i64 0) (.int .i64 (num g 20 2)) (.bool (num g 22 2==0)) (.int .i64 0) (.slice none 0 0) (.slice (some ⟨G,0,none⟩) (n-24) (n-24))
     have da:=OB.grown (OB.grown O4.out (gs 12 (.slice (some ⟨G,0,none⟩) (n-24) (n-24)) (World.grownBy.refl w4 (some L))) (OB.ne O4.out ri)) (aU _ w.heap.size (.int .i64 (g 0)) (.int .i64 (g 1)) (.int .i64 (g 12)) (.int .i64 (num g 4 4)) (.int .i64 (num g 8 4)) (.int .i64 (num g 16 2)) (.int .i64 (num g 18 2)) (.int .i64 0) (.int .i64 (num g 20 2)) (.bool (num g 22 2==0)) (.int .i64 0) (.slice none 0 0) (.slice (some ⟨G,0,none⟩) (n-24) (n-24))) (OB.ne (OB.grown O4.out (gs 12 (.slice (some ⟨G,0,none⟩) (n-24) (n-24)) (World.grownBy.refl w4 (some L))) (OB.ne O4.out ri)) (by omega))
     unfold de at CE BE da
     replace CE:=hid CE
     replace BE:=hid BE
     replace da:=hid da
     refine cG (fun w'=>Ce w' w.heap.size [(g 0),(g 1),(g 12),(num g 4 4),(num g 8 4),(num g 16 2),(num g 18 2),(),(num g 20 2),.bool (num g 22 2==0),(),.slice none 0 0,.slice (some ⟨G,0,none⟩) (n-24) (n-24)]∧Below w.heap.size w w'∧OB w' wc.heap.size (.slice (some ⟨G,0,none⟩) (n-24) (n-24)) (n-24) (fun j=>g (24+j))) ⟨CE.out,BE.out,da.out⟩ (fun wf hwf=>?_)
     obtain ⟨hc2,hbf,ho0⟩:=hwf
     have y0:=hc2.2.1 0 _ rfl
     have y1:=hc2.2.1 1 _ rfl
     have y2:=hc2.2.1 2 _ rfl
     have y3:=hc2.2.1 3 _ rfl
     have y4:=hc2.2.1 4 _ rfl
     have y5:=hc2.2.1 5 _ rfl
     have y6:=hc2.2.1 6 _ rfl
     have y7:=hc2.2.1 7 _ rfl
     have y8:=hc2.2.1 8 _ rfl
     have y9:=hc2.2.1 9 _ rfl
     have au:=hc2.2.1 10 _ rfl
     have ao:=hc2.2.1 11 _ rfl
     have al:=hc2.2.1 12 _ rfl
     refine bodyPost_ret (v:=.tuple #[.agg #[(g 0),(g 1),(g 12),(num g 4 4),(num g 8 4),(num g 16 2),(num g 18 2),(),(num g 20 2),.bool (num g 22 2==0),(),.slice none 0 0,.slice (some ⟨G,0,none⟩) (n-24) (n-24)],()]) (by simp[results,Tryz.results43,go_sem,y0,y1,y2,y3,y4,y5,y6,y7,y8,y9,au,ao,al]) rfl ?_
     refine⟨.slice none 0 0,(.slice (some ⟨G,0,none⟩) (n-24) (n-24)),by rw[jl.out,HE.out];rfl,by rw[jl.out];exact OB.nil,by rw[jl.out];exact OB.base ho0 (by omega),hbf⟩
    ·have q0:(g 0==3)=false:=by rw[k1];rfl
     have q1:(g 0==2)=false:=by rw[k1];rfl
     have lF:Hid (aj g n ={ kind:=g 0,life:=g 1,piece:=g 12,src:=num g 4 4,dst:=num g 8 4,fp:=num g 16 2,tp:=num g 18 2,flags:=g 20,no:=(g 21).toNat,go:=fun j=>g (24+j),nd:=n-24-(g 21).toNat,gd:=fun j=>g (24+(g 21).toNat+j) }):=hid (by rw[IU.out];unfold dW;rw[if_neg (by omega),if_neg (by omega)])
     clear k1
     have n24:=I_.out.1
     have uw:=HG.out 21
     have Cd:=HG.out 20
     obtain ⟨JV,JU⟩:=Cd
     obtain ⟨q,hq⟩:∃q:Nat,g 21=(q:Int):=⟨(g 21).toNat,by omega⟩
     rw[hq]at uw k21 k24
     obtain ⟨JS,JR⟩:=uw
     have c21:=hA.out.at_ (j:=21) (by omega)
     rw[hq]at c21
     have HQ:Hid ((g 21).toNat=q):=hid (by omega)
     rw[HQ.out]at lF
     have uU:=hid hq
     clear hq
     have i21:(21:Int)<n:=by omega
     have i20:(20:Int)<n:=by omega
     have PP:=hid (fun (w':World) (hw:By w' (some ⟨b,off,none⟩) n g) (a:Nat) (ha:a+2≤n)=>Df hw HG.out a ha hc hb)
     have i24:(24:Int)≤n:=by omega
     have y0:=bm.out.2.1 0 _ rfl
     have y1:=bm.out.2.1 1 _ rfl
     have y2:=bm.out.2.1 2 _ rfl
     have y3:=bm.out.2.1 3 _ rfl
     have y4:=bm.out.2.1 4 _ rfl
     have y5:=bm.out.2.1 5 _ rfl
     have y6:=bm.out.2.1 6 _ rfl
     have y7:=bm.out.2.1 7 _ rfl
     have y8:=bm.out.2.1 8 _ rfl
     have y9:=bm.out.2.1 9 _ rfl
     have au:=bm.out.2.1 10 _ rfl
     have ao:=bm.out.2.1 11 _ rfl
     have al:=bm.out.2.1 12 _ rfl
     have yf:=bm.out.2.2
     have yl:=bm.out.1
     go_wp2_with fail
     refine(PP.out _ hA.out 16 (by omega)).mono ?_
     rintro x w' ⟨rfl,rfl⟩
     go_wp2_with fail
     refine(PP.out _ hA.out 18 (by omega)).mono ?_
     rintro x w' ⟨rfl,rfl⟩
     have C2:=hid (((bm.out).set 5 (.int .i64 (num g 16 2)) (by simp)).set 6 (.int .i64 (num g 18 2)) (by simp))
     have R2:=hid (fe.out.grown (gs 6 (.int .i64 (num g 18 2)) (gs 5 (.int .i64 (num g 16 2)) (World.grownBy.refl wc (some L)))) (fun e=>eB (by injection e)))
     have A2:=hid (bL hA.out (gs 6 (.int .i64 (num g 18 2)) (gs 5 (.int .i64 (num g 16 2)) (World.grownBy.refl wc (some L)))) hBlt)
     have D2:=hid (((hB.out).setCell (p:=⟨L,5,none⟩) (Nat.le_of_lt hL) (.int .i64 (num g 16 2))).setCell (p:=⟨L,6,none⟩) (Nat.le_of_lt hL) (.int .i64 (num g 18 2)))
     have l2:=C2.out.1
     have uI:=A2.out.at_ (j:=21) (by omega)
     rw[uU.out]at uI
     have c20:=A2.out.at_ (j:=20) (by omega)
     have C3:=hid ((C2.out).set 7 (.int .i64 (g 20)) (by simp))
     have R3:=hid (R2.out.grown (gs 7 (.int .i64 (g 20)) (World.grownBy.refl ((wc.setCell ⟨L,5,none⟩ (.int .i64 (num g 16 2))).setCell ⟨L,6,none⟩ (.int .i64 (num g 18 2))) (some L))) (fun e=>eB (by injection e)))
     have A3:=hid (bL A2.out (gs 7 (.int .i64 (g 20)) (World.grownBy.refl ((wc.setCell ⟨L,5,none⟩ (.int .i64 (num g 16 2))).setCell ⟨L,6,none⟩ (.int .i64 (num g 18 2))) (some L))) hBlt)
     have D3:=hid ((D2.out).setCell (p:=⟨L,7,none⟩) (Nat.le_of_lt hL) (.int .i64 (g 20)))
     have zr:24+q≤n:=by omega
     obtain ⟨A8,r1,r2⟩:=iw (some ⟨b,off,none⟩) n c 24 (24+q) (by omega) zr hc 24 (24+(q:Int)) rfl (by omega)
     rw[show 24+q-24=q from by omega]at r1 r2
     obtain ⟨A9,s1,s2⟩:=ev (some ⟨b,off,none⟩) n c (24+q) zr hc (24+(q:Int)) (by omega)
     rw[show n-(24+q)=n-24-q from by omega]at s1 s2
     replace r2:=hid r2
     replace s2:=hid s2
     have lw:=C3.out.1
     have ri:=bm.out.1
     go_upto_region 19 with (fail)
     clear c20 c21 uI y0 y1 y2 y3 y4 y5 y6 y7 y8 y9 au ao al yf yl PP C2 R2 A2 D2 bm fe hA hB
     have Qx:L<(((wc.setCell ⟨L,5,none⟩ (.int .i64 (num g 16 2))).setCell ⟨L,6,none⟩ (.int .i64 (num g 18 2))).setCell ⟨L,7,none⟩ (.int .i64 (g 20))).heap.size:=by simpa using ri
     generalize (((wc.setCell ⟨L,5,none⟩ (.int .i64 (num g 16 2))).setCell ⟨L,6,none⟩ (.int .i64 (num g 18 2))).setCell ⟨L,7,none⟩ (.int .i64 (g 20)))=wq at *
     refine wp_region_held_drew (S:=fun w'=>By w' (some ⟨b,off,none⟩) n g∧Ce w' w.heap.size [(),(),(),(),(),(),(),(),(),false,(),.slice none 0 0,.slice none 0 0]∧Below w.heap.size w w') (by kernel_rfl) ?_ (fun hHeld=>?_)
     ·exact⟨A3.out.drew,R3.out,below_drewN D3.out 1⟩
     refine ae 0 (by assumption) ?_
     refine ae 1 (by assumption) ?_
     refine ae 2 (by assumption) ?_
     refine ae 4 (by assumption) ?_
     refine ae 5 (by assumption) ?_
     refine ae 6 (by assumption) ?_
     refine only 3 rfl (by kernel_rfl) rfl (fun K hK=>?_)
     go_simp
     refine(gL _ q _ (fun j=>g (24+j)) _ (r2.out _ g hHeld.1) (by omega)).mono ?_
     rintro x w5 ⟨G1,rfl,PQ,He,uu⟩
     try go_wp2_with fail
     have hH5:By w5 (some ⟨b,off,none⟩) n g∧Ce w5 w.heap.size [(),(),(),(),(),(),(),(),(),false,(),.slice none 0 0,.slice none 0 0]∧Below w.heap.size w w5:=⟨hHeld.1.below uu (Nat.le_refl _),hHeld.2.1.below uu,then_ hHeld.2.2 uu⟩
     refine hK.out _ _ hH5 (fun _=>?_)
     clear hK
     try simp only[Act.put,zA,zB,zC]
     refine ae 8 hH5 ?_
     refine only 7 rfl (by kernel_rfl) rfl (fun K hK=>?_)
     go_simp
     refine(gL _ (n-24-q) _ (fun j=>g (24+q+j)) _ (s2.out _ g hH5.1) (by omega)).mono ?_
     rintro x w6 ⟨G2,rfl,PI,Hd,us⟩
     try go_wp2_with fail
     have hH6:By w6 (some ⟨b,off,none⟩) n g∧Ce w6 w.heap.size [(),(),(),(),(),(),(),(),(),false,(),.slice none 0 0,.slice none 0 0]∧Below w.heap.size w w6:=⟨hH5.1.below us (Nat.le_refl _),hH5.2.1.below us,then_ hH5.2.2 us⟩
     refine hK.out _ _ hH6 (fun _=>?_)
     clear hK
     try simp only[Act.put,zA,zB,zC]
     have Qr:wq.heap.size≤w5.heap.size:=by have:=uu.size;simpa using this
     have OO:=hid ((OB.base He (show L+1≤_ by simp;omega)).nc us)
     have OD:=hid (OB.base Hd (show L+1≤w5.heap.size by omega))
     have C6:=hid ((C3.out.aZ.below uu).below us)
     have y0:=C6.out.2.1 0 _ rfl
     have y1:=C6.out.2.1 1 _ rfl
     have y2:=C6.out.2.1 2 _ rfl
     have y3:=C6.out.2.1 3 _ rfl
     have y4:=C6.out.2.1 4 _ rfl
     have y5:=C6.out.2.1 5 _ rfl
     have y6:=C6.out.2.1 6 _ rfl
     have y7:=C6.out.2.1 7 _ rfl
     have y8:=C6.out.2.1 8 _ rfl
     have y9:=C6.out.2.1 9 _ rfl
     have au:=C6.out.2.1 10 _ rfl
     have ao:=C6.out.2.1 11 _ rfl
     have al:=C6.out.2.1 12 _ rfl
     have yf:=C6.out.2.2
     have yl:=C6.out.1
     have kH:=hid hH6
     clear hHeld hH5 He Hd
     clear hH6
     refine only 9 rfl (by kernel_rfl) rfl (fun K hK=>?_)
     go_simp
     refine hK.out _ _ ⟨bL kH.out.1 (gs 11 (.slice (some ⟨G1,0,none⟩) q q) (World.grownBy.refl w6 (some L))) hBlt,kH.out.2.1.grown (gs 11 (.slice (some ⟨G1,0,none⟩) q q) (World.grownBy.refl w6 (some L))) (fun e=>eB (by injection e)),kH.out.2.2.setCell (p:=⟨L,11,none⟩) (Nat.le_of_lt hL) (.slice (some ⟨G1,0,none⟩) q q)⟩ (fun wa=>?_)
     clear hK
     try simp only[Act.put,zA,zB,zC]
     refine ae 10 wa ?_
     clear wa
     refine only 11 rfl (by kernel_rfl) rfl (fun K hK=>?_)
     go_simp
     refine hK.out _ _ ⟨bL kH.out.1 (gs 12 (.slice (some ⟨G2,0,none⟩) (n-24-q) (n-24-q)) (gs 11 (.slice (some ⟨G1,0,none⟩) q q) (World.grownBy.refl w6 (some L)))) hBlt,kH.out.2.1.grown (gs 12 (.slice (some ⟨G2,0,none⟩) (n-24-q) (n-24-q)) (gs 11 (.slice (some ⟨G1,0,none⟩) q q) (World.grownBy.refl w6 (some L)))) (fun e=>eB (by injection e)),(kH.out.2.2.setCell (p:=⟨L,11,none⟩) (Nat.le_of_lt hL) (.slice (some ⟨G1,0,none⟩) q q)).setCell (p:=⟨L,12,none⟩) (Nat.le_of_lt hL) (.slice (some ⟨G2,0,none⟩) (n-24-q) (n-24-q))⟩ (fun _=>?_)
     clear hK
     try simp only[Act.put,zA,zB,zC]
     refine wpAnyH_done (by kernel_rfl) ?_ _
     have C7:=hid ((C6.out.set 11 (.slice (some ⟨G1,0,none⟩) q q) (by simp)).set 12 (.slice (some ⟨G2,0,none⟩) (n-24-q) (n-24-q)) (by simp))
     have R7:=hid (kH.out.2.1.grown (gs 12 (.slice (some ⟨G2,0,none⟩) (n-24-q) (n-24-q)) (gs 11 (.slice (some ⟨G1,0,none⟩) q q) (World.grownBy.refl w6 (some L)))) (fun e=>eB (by injection e)))
     have D7:=hid ((kH.out.2.2.setCell (p:=⟨L,11,none⟩) (Nat.le_of_lt hL) (.slice (some ⟨G1,0,none⟩) q q)).setCell (p:=⟨L,12,none⟩) (Nat.le_of_lt hL) (.slice (some ⟨G2,0,none⟩) (n-24-q) (n-24-q)))
     have Ak:=hid (OB.grown OO.out (gs 12 (.slice (some ⟨G2,0,none⟩) (n-24-q) (n-24-q)) (gs 11 (.slice (some ⟨G1,0,none⟩) q q) (World.grownBy.refl w6 (some L)))) (OB.ne OO.out (by omega)))
     have Lf:=hid (OB.grown OD.out (gs 12 (.slice (some ⟨G2,0,none⟩) (n-24-q) (n-24-q)) (gs 11 (.slice (some ⟨G1,0,none⟩) q q) (World.grownBy.refl w6 (some L)))) (OB.ne OD.out (by omega)))
     clear y0 y1 y2 y3 y4 y5 y6 y7 y8 y9 au ao al yf yl
     generalize (w6.setCell ⟨L,11,none⟩ (.slice (some ⟨G1,0,none⟩) q q)).setCell ⟨L,12,none⟩ (.slice (some ⟨G2,0,none⟩) (n-24-q) (n-24-q))=w7 at *
     have y0:=C7.out.2.1 0 _ rfl
     have y1:=C7.out.2.1 1 _ rfl
     have y2:=C7.out.2.1 2 _ rfl
     have y3:=C7.out.2.1 3 _ rfl
     have y4:=C7.out.2.1 4 _ rfl
     have y5:=C7.out.2.1 5 _ rfl
     have y6:=C7.out.2.1 6 _ rfl
     have y7:=C7.out.2.1 7 _ rfl
     have y8:=C7.out.2.1 8 _ rfl
     have y9:=C7.out.2.1 9 _ rfl
     have au:=C7.out.2.1 10 _ rfl
     have ao:=C7.out.2.1 11 _ rfl
     have al:=C7.out.2.1 12 _ rfl
     have yf:=C7.out.2.2
     have z0:=R7.out.2.1 0 _ rfl
     have z1:=R7.out.2.1 1 _ rfl
     have z2:=R7.out.2.1 2 _ rfl
     have z3:=R7.out.2.1 3 _ rfl
     have z4:=R7.out.2.1 4 _ rfl
     have z5:=R7.out.2.1 5 _ rfl
     have z6:=R7.out.2.1 6 _ rfl
     have z7:=R7.out.2.1 7 _ rfl
     have z8:=R7.out.2.1 8 _ rfl
     have z9:=R7.out.2.1 9 _ rfl
     have j_:=R7.out.2.1 10 _ rfl
     have j9:=R7.out.2.1 11 _ rfl
     have z12:=R7.out.2.1 12 _ rfl
     have zf:=R7.out.2.2
     have yl:=C7.out.1
     have zl:=R7.out.1
     go_wp2_with fail
     have CE:=(R7.out).s13 (.int .i64 (g 0)) (.int .i64 (g 1)) (.int .i64 (g 12)) (.int .i64 (num g 4 4)) (.int .i64 (num g 8 4)) (.int .i64 (num g 16 2)) (.int .i64 (num g 18 2)) (.int .i64 (g 20)) (.int .i64 0) (.bool false) (.int .i64 0) (.slice (some ⟨G1,0,none⟩) q q) (.slice (some ⟨G2,0,none⟩) (n-24-q) (n-24-q))
     have BE:=dr (b:=w.heap.size) (D7.out) (Nat.le_refl _) (.int .i64 (g 0)) (.int .i64 (g 1)) (.int .i64 (g 12)) (.int .i64 (num g 4 4)) (.int .i64 (num g 8 4)) (.int .i64 (num g 16 2)) (.int .i64 (num g 18 2)) (.int .i64 (g 20)) (.int .i64 0) (.bool false) (.int .i64 0) (.slice (some ⟨G1,0,none⟩) q q) (.slice (some ⟨G2,0,none⟩) (n-24-q) (n-24-q))
     have da:=OB.grown (Ak.out) (aU _ w.heap.size (.int .i64 (g 0)) (.int .i64 (g 1)) (.int .i64 (g 12)) (.int .i64 (num g 4 4)) (.int .i64 (num g 8 4)) (.int .i64 (num g 16 2)) (.int .i64 (num g 18 2)) (.int .i64 (g 20)) (.int .i64 0) (.bool false) (.int .i64 0) (.slice (some ⟨G1,0,none⟩) q q) (.slice (some ⟨G2,0,none⟩) (n-24-q) (n-24-q))) (OB.ne (Ak.out) (by omega))
     have g8:=OB.grown (Lf.out) (aU _ w.heap.size (.int .i64 (g 0)) (.int .i64 (g 1)) (.int .i64 (g 12)) (.int .i64 (num g 4 4)) (.int .i64 (num g 8 4)) (.int .i64 (num g 16 2)) (.int .i64 (num g 18 2)) (.int .i64 (g 20)) (.int .i64 0) (.bool false) (.int .i64 0) (.slice (some ⟨G1,0,none⟩) q q) (.slice (some ⟨G2,0,none⟩) (n-24-q) (n-24-q))) (OB.ne (Lf.out) (by omega))
     unfold de at CE BE da g8
     replace CE:=hid CE
     replace BE:=hid BE
     replace da:=hid da
     replace g8:=hid g8
     refine cG (fun w'=>Ce w' w.heap.size [(g 0),(g 1),(g 12),(num g 4 4),(num g 8 4),(num g 16 2),(num g 18 2),(g 20),(),false,(),.slice (some ⟨G1,0,none⟩) q q,.slice (some ⟨G2,0,none⟩) (n-24-q) (n-24-q)]∧Below w.heap.size w w'∧OB w' (L+1) (.slice (some ⟨G1,0,none⟩) q q) q (fun j=>g (24+j))∧OB w' (L+1) (.slice (some ⟨G2,0,none⟩) (n-24-q) (n-24-q)) (n-24-q) (fun j=>g (24+q+j))) ⟨CE.out,BE.out,da.out,g8.out⟩ (fun wf hwf=>?_)
     obtain ⟨hc2,hbf,ho0,ho1⟩:=hwf
     have y0:=hc2.2.1 0 _ rfl
     have y1:=hc2.2.1 1 _ rfl
     have y2:=hc2.2.1 2 _ rfl
     have y3:=hc2.2.1 3 _ rfl
     have y4:=hc2.2.1 4 _ rfl
     have y5:=hc2.2.1 5 _ rfl
     have y6:=hc2.2.1 6 _ rfl
     have y7:=hc2.2.1 7 _ rfl
     have y8:=hc2.2.1 8 _ rfl
     have y9:=hc2.2.1 9 _ rfl
     have au:=hc2.2.1 10 _ rfl
     have ao:=hc2.2.1 11 _ rfl
     have al:=hc2.2.1 12 _ rfl
     refine bodyPost_ret (v:=.tuple #[.agg #[(g 0),(g 1),(g 12),(num g 4 4),(num g 8 4),(num g 16 2),(num g 18 2),(g 20),(),false,(),.slice (some ⟨G1,0,none⟩) q q,.slice (some ⟨G2,0,none⟩) (n-24-q) (n-24-q)],()]) (by simp[results,Tryz.results43,go_sem,y0,y1,y2,y3,y4,y5,y6,y7,y8,y9,au,ao,al]) rfl ?_
     refine⟨(.slice (some ⟨G1,0,none⟩) q q),(.slice (some ⟨G2,0,none⟩) (n-24-q) (n-24-q)),by rw[lF.out,HE.out];rfl,by rw[lF.out];exact OB.base ho0 (by omega),by rw[lF.out];exact OB.base ho1 (by omega),hbf⟩
  ·have e1:(be != 0)=true:=by simpa using b0
   have e2:(be==0)=false:=by simpa using b0
   have HR:Hid (aj g n ={}):=hid (by unfold aj;rw[hE,if_neg b0])
   have HE:=hid hE
   have h0':=hid (h.below ((Below.refl _ _).alloc (Nat.le_refl _) (.cells #[(),(),(),(),(),(),(),(),(),false,(),.slice none 0 0,.slice none 0 0] 53)) (Nat.le_refl _))
   clear um hbe hh hE h b0 hg
   go_enter Tryz.func43,Tryz.ntmps43
   go_wp2_with fail
   refine(HH.out _ h0'.out).mono ?_
   rintro x w' ⟨rfl,m,rfl⟩
   go_wp2_with fail
   refine(HB.out _ (Sl.drewN h0'.out m)).mono ?_
   rintro x w' ⟨rfl,rfl⟩
   go_wp2_with fail
   have CE:=hid (((Ce.made (w:=w) (l:=[(),(),(),(),(),(),(),(),(),false,(),.slice none 0 0,.slice none 0 0]) (T:=53) rfl).below (below_drewN (Below.refl _ _) m)).s13 (.int .i64 0) (.int .i64 0) (.int .i64 0) (.int .i64 0) (.int .i64 0) (.int .i64 0) (.int .i64 0) (.int .i64 0) (.int .i64 0) (.bool false) (.int .i64 0) (.slice none 0 0) (.slice none 0 0))
   refine cG (fun w'=>Ce w' w.heap.size [(),(),(),(),(),(),(),(),(),false,(),.slice none 0 0,.slice none 0 0]∧Below w.heap.size w w') ⟨CE.out,?_⟩ (fun wf hwf=>?_)
   ·have BS:=fun o a0 a1 a2 a3 a4 a5 a6 a7 a8 a9 Io Im a12=>dr (b:=w.heap.size) (below_drewN ((Below.refl w.heap.size w).alloc (Nat.le_refl _) o) m) (Nat.le_refl _) a0 a1 a2 a3 a4 a5 a6 a7 a8 a9 Io Im a12
    unfold de at BS
    exact BS _ _ _ _ _ _ _ _ _ _ _ _ _ _
   ·obtain ⟨hc2,hbf⟩:=hwf
    have y0:=hc2.2.1 0 _ rfl
    have y1:=hc2.2.1 1 _ rfl
    have y2:=hc2.2.1 2 _ rfl
    have y3:=hc2.2.1 3 _ rfl
    have y4:=hc2.2.1 4 _ rfl
    have y5:=hc2.2.1 5 _ rfl
    have y6:=hc2.2.1 6 _ rfl
    have y7:=hc2.2.1 7 _ rfl
    have y8:=hc2.2.1 8 _ rfl
    have y9:=hc2.2.1 9 _ rfl
    have au:=hc2.2.1 10 _ rfl
    have ao:=hc2.2.1 11 _ rfl
    have al:=hc2.2.1 12 _ rfl
    refine bodyPost_ret (v:=.tuple #[bS {} (.slice none 0 0) (.slice none 0 0),be]) (by simp[results,Tryz.results43,go_sem,bS,cC,y0,y1,y2,y3,y4,y5,y6,y7,y8,y9,au,ao,al]) rfl ?_
    exact⟨.slice none 0 0,.slice none 0 0,by rw[HR.out,HE.out],by rw[HR.out];exact OB.nil,by rw[HR.out];exact OB.nil,hbf⟩
 ·have e1:(he != 0)=true:=by simpa using h0
  have e2:(he==0)=false:=by simpa using h0
  have hE:ax g n=he:=by unfold ax;rw[←um,if_neg h0]
  have HR:Hid (aj g n ={}):=hid (by unfold aj;rw[hE,if_neg h0])
  have HE:=hid hE
  have h0':=hid (h.below ((Below.refl _ _).alloc (Nat.le_refl _) (.cells #[(),(),(),(),(),(),(),(),(),false,(),.slice none 0 0,.slice none 0 0] 53)) (Nat.le_refl _))
  clear um hE h h0 hg
  go_enter Tryz.func43,Tryz.ntmps43
  go_wp2_with fail
  refine(HH.out _ h0'.out).mono ?_
  rintro x w' ⟨rfl,m,rfl⟩
  go_wp2_with fail
  have CE:=hid (((Ce.made (w:=w) (l:=[(),(),(),(),(),(),(),(),(),false,(),.slice none 0 0,.slice none 0 0]) (T:=53) rfl).below (below_drewN (Below.refl _ _) m)).s13 (.int .i64 0) (.int .i64 0) (.int .i64 0) (.int .i64 0) (.int .i64 0) (.int .i64 0) (.int .i64 0) (.int .i64 0) (.int .i64 0) (.bool false) (.int .i64 0) (.slice none 0 0) (.slice none 0 0))
  refine cG (fun w'=>Ce w' w.heap.size [(),(),(),(),(),(),(),(),(),false,(),.slice none 0 0,.slice none 0 0]∧Below w.heap.size w w') ⟨CE.out,?_⟩ (fun wf hwf=>?_)
  ·have BS:=fun o a0 a1 a2 a3 a4 a5 a6 a7 a8 a9 Io Im a12=>dr (b:=w.heap.size) (below_drewN ((Below.refl w.heap.size w).alloc (Nat.le_refl _) o) m) (Nat.le_refl _) a0 a1 a2 a3 a4 a5 a6 a7 a8 a9 Io Im a12
   unfold de at BS
   exact BS _ _ _ _ _ _ _ _ _ _ _ _ _ _
  ·obtain ⟨hc2,hbf⟩:=hwf
   have y0:=hc2.2.1 0 _ rfl
   have y1:=hc2.2.1 1 _ rfl
   have y2:=hc2.2.1 2 _ rfl
   have y3:=hc2.2.1 3 _ rfl
   have y4:=hc2.2.1 4 _ rfl
   have y5:=hc2.2.1 5 _ rfl
   have y6:=hc2.2.1 6 _ rfl
   have y7:=hc2.2.1 7 _ rfl
   have y8:=hc2.2.1 8 _ rfl
   have y9:=hc2.2.1 9 _ rfl
   have au:=hc2.2.1 10 _ rfl
   have ao:=hc2.2.1 11 _ rfl
   have al:=hc2.2.1 12 _ rfl
   refine bodyPost_ret (v:=.tuple #[bS {} (.slice none 0 0) (.slice none 0 0),he]) (by simp[results,Tryz.results43,go_sem,bS,cC,y0,y1,y2,y3,y4,y5,y6,y7,y8,y9,au,ao,al]) rfl ?_
   exact⟨.slice none 0 0,.slice none 0 0,by rw[HR.out,HE.out],by rw[HR.out];exact OB.nil,by rw[HR.out];exact OB.nil,hbf⟩
theorem eQ {w w':World}{r:Option Nat}(h:w.drew.grownBy w' r):w.grownBy w' r:=⟨h.os,h.tape,h.output,h.size,h.block⟩
theorem eI {G n c:Nat}(a m:Nat)(h:a+m≤n)(hc:n≤c)(hm:0<m)(x y z:Int)(hx:x=a)(hy:y=(a:Int)+m)(hz:z=(a:Int)+m)(W:World) :
 (Instr.slice 23 (.slice (some ⟨G,0,none⟩) n c) (some (.int .i64 x)) (some (.int .i64 y)) (some (.int .i64 z))).run Tryz.prog W =.ok (.slice (some ⟨G,a,none⟩) m m) W:=by
 subst hx
 subst hy
 subst hz
 rw[run_slice_lhm W 23 _ n c jA .i64 .i64 .i64 _ _ _ (by omega) (by omega) (by omega) (by omega),jq W]
 have e1:((a:Int)+m).toNat=a+m:=by omega
 simp only[Result.andThen,sliced,Int.toNat_natCast,e1,Option.map_some,Addr.add,Nat.mul_one,Nat.zero_add]
 rw[if_neg (by omega),Nat.add_sub_cancel_left]
 by_cases h0:a=0
 ·rw[if_pos h0,h0]
 ·rw[if_neg h0]
theorem bK {g:Nat→Int}(hg:az g)(a:Nat):0≤num g a 2∧num g a 2≤65535:=by
 have h:=f9 hg a 2
 have h2:(256:Int)^2=65536:=by decide
 omega
set_option maxHeartbeats 4000000 in
theorem lI {w:World}{B G n c:Nat}{g:Nat→Int}(O:OB w B (.slice (some ⟨G,0,none⟩) n c) n g)(hg:az g)(a:Nat)(h:a+2≤n)(hc:n≤c)(hn:n≤1000000)(x y:Int)(hx0:0≤x)(hx:x≤65535)(hy0:0≤y)(hy:y≤65535) :
 Calls Tryz.prog 148 #[.slice (some ⟨G,0,none⟩) n c,a,x,y] w fun e w'=>e =.returned (.tuple #[])∧OB w' B (.slice (some ⟨G,0,none⟩) n c) n (ah g a 2 (turn (num g a 2) x y))∧w.grownBy w' (some G):=by
 have q2:IntKind.i64.wrap ((a:Int)+2)=(a:Int)+2:=IntWalk.i64_in _ (by omega)
 have CP:=fun W=>eI (G:=G) (n:=n) (c:=c) a 2 h hc (by omega) a (a+2) (a+2) rfl rfl rfl W
 have nb:=bK hg a
 have HT:=hid (fun w=>AH (num g a 2) x y w nb.1 nb.2 hx0 hx hy0 hy)
 have HP:=hid (fun (w':World) (o:OB w' B (.slice (some ⟨G,0,none⟩) n c) n g)=>dc (eT (some ⟨G,0,none⟩) n c g w' o.sl1 hg a (by omega) hc hn) (show aN g n a=num g a 2 from by unfold aN;rw[if_neg (by omega)]))
 have HO:=hid O
 clear O nb
 go_enter Tryz.func148,Tryz.ntmps148
 go_wp2_with fail
 refine wp_region_held_drew (S:=fun _=>True) (by kernel_rfl) trivial (fun hHeld=>?_)
 refine ae 0 (by assumption) ?_
 refine ae 1 (by assumption) ?_
 refine ae 2 (by assumption) ?_
 refine ae 3 (by assumption) ?_
 refine ae 4 (by assumption) ?_
 refine ae 5 (by assumption) ?_
 refine ae 6 (by assumption) ?_
 refine ae 7 (by assumption) ?_
 refine ae 8 (by assumption) ?_
 refine ae 10 (by assumption) ?_
 refine ae 11 (by assumption) ?_
 refine only 9 rfl (by kernel_rfl) rfl (fun K hK=>?_)
 go_simp
 refine(HP.out _ (Ow.drew HO.out)).mono ?_
 rintro e' w' ⟨rfl,rfl⟩
 try go_wp2_with fail
 refine hK.out _ _ trivial (fun _=>?_)
 clear hK
 try simp only[Act.put,zA,zB,zC]
 refine only 12 rfl (by kernel_rfl) rfl (fun K hK=>?_)
 go_simp
 refine(HT.out _).mono ?_
 rintro e' w' ⟨rfl,rfl⟩
 try go_wp2_with fail
 refine hK.out _ _ trivial (fun _=>?_)
 clear hK
 try simp only[Act.put,zA,zB,zC]
 refine only 13 rfl (by kernel_rfl) rfl (fun K hK=>?_)
 go_simp
 refine(dQ (Ow.drew HO.out) a 2 2 (turn (num g a 2) x y) h (by omega)).mono ?_
 rintro e' w' ⟨rfl,ho,hw⟩
 try go_wp2_with fail
 refine hK.out _ _ trivial (fun _=>?_)
 clear hK
 try simp only[Act.put,zA,zB,zC]
 refine wpAnyH_done (by kernel_rfl) ?_ _
 go_wp2_with fail
 go_end0
 exact⟨rfl,ho,eQ hw⟩
def cm (g:Nat→Int):Nat→Int:=if bz g=true then ah g 22 2 65535 else g
theorem rW {g:Nat→Int}(hg:az g):az (cm g):=by unfold cm;split;exact dd hg _ _ _;exact hg
set_option maxHeartbeats 4000000 in
theorem lx {w:World}{B G n c:Nat}{g:Nat→Int}(O:OB w B (.slice (some ⟨G,0,none⟩) n c) n g)(hg:az g)(h0:0<n)(hk:g 0=3∨24≤n)(hc:n≤c)(hn:n≤1000000) :
 Calls Tryz.prog 155 #[.slice (some ⟨G,0,none⟩) n c] w fun e w'=>e =.returned (.tuple #[])∧OB w' B (.slice (some ⟨G,0,none⟩) n c) n (cm g)∧w.grownBy w' (some G):=by
 have HB:=hid (nf (some ⟨G,0,none⟩) n c g w O.sl1 hg h0 hk hc hn)
 have HO:=hid O
 have iS:bz g=true→24≤n:=by
  intro hb
  rcases hk with h3 |h3
  ·unfold bz at hb;rw[h3]at hb;cases hb
  ·exact h3
 unfold cm
 cases hb:bz g
 ·rw[hb]at HB
  clear iS O hk
  rw[if_neg (by decide)]
  go_enter Tryz.func155,Tryz.ntmps155
  go_wp2_with fail
  refine HB.out.mono ?_
  rintro x w' ⟨rfl,rfl⟩
  go_wp2_with fail
  go_end0
  exact⟨rfl,HO.out,World.grownBy.refl _ _⟩
 ·rw[hb]at HB
  have iS:=iS hb
  have CP:=fun W=>eI (G:=G) (n:=n) (c:=c) 22 2 (by omega) hc (by omega) 22 24 24 rfl rfl rfl W
  have i24:(24:Int)≤c:=by omega
  clear O hk
  rw[if_pos rfl]
  go_enter Tryz.func155,Tryz.ntmps155
  go_wp2_with fail
  refine HB.out.mono ?_
  rintro x w' ⟨rfl,rfl⟩
  go_wp2_with fail
  refine(dQ HO.out 22 2 2 65535 (by omega) (by omega)).mono ?_
  rintro x w' ⟨rfl,ho,hw⟩
  go_wp2_with fail
  go_end0
  exact⟨rfl,ho,hw⟩
theorem eg {w:World}{B G n c:Nat}{g:Nat→Int}(O:OB w B (.slice (some ⟨G,0,none⟩) n c) n g)(hg:az g)(h0:0<n)(hk:g 0=3∨24≤n)(hc:n≤c)(hn:n≤1000000)(was:Bool) :
 Calls Tryz.prog 80 #[.slice (some ⟨G,0,none⟩) n c,was] w fun e w'=>e =.returned (.tuple #[])∧OB w' B (.slice (some ⟨G,0,none⟩) n c) n (if was=true then g else cm g)∧w.grownBy w' (some G):=by
 have HO:=hid O
 have HN:=hid (fun iS:24≤n=>aY (some ⟨G,0,none⟩) n c g w O.sl1 hg 22 2 (by omega) (by omega) hn)
 obtain ⟨g',e,hB,hgs,hce,hfr⟩:=Ow.block_ O (by omega)
 injection e with e
 injection e with e _
 subst e
 have c0:=hce 0 (by omega)
 have i0:(0:Int)<n:=by omega
 clear hce hfr O
 cases h2:(g 0==2)
 ·have hf:cm g=g:=by unfold cm bz;rw[h2];rfl
  have hi:(if was=true then g else cm g)=g:=by rw[hf,ite_self]
  rw[hi]
  clear hi hf hk HN
  go_enter Tryz.func80,Tryz.ntmps80
  go_wp2_with fail
  go_end0
  exact⟨rfl,HO.out,World.grownBy.refl _ _⟩
 ·have iS:24≤n:=by
   rcases hk with h3 |h3
   ·rw[h3]at h2;cases h2
   ·exact h3
  have IY:=hid (HN.out iS)
  clear HN hk
  cases was
  ·rw[if_neg (by decide)]
   obtain ⟨z,hz⟩:∃z,z=num g 22 2:=⟨_,rfl⟩
   rw[←hz]at IY
   cases hb:(z==0)
   ·have hf:cm g=g:=by unfold cm bz;rw[h2,←hz,hb];rfl
    rw[hf]
    clear hf hz iS
    go_enter Tryz.func80,Tryz.ntmps80
    go_wp2_with fail
    refine IY.out.mono ?_
    rintro x w' ⟨rfl,rfl⟩
    go_wp2_with fail
    go_end0
    exact⟨rfl,HO.out,World.grownBy.refl _ _⟩
   ·have hf:cm g=ah g 22 2 65535:=by unfold cm bz;rw[h2,←hz,hb];rfl
    rw[hf]
    have PU:=hid (aM HO.out 22 2 65535 (by omega) (by omega) hn)
    clear hf hz iS
    go_enter Tryz.func80,Tryz.ntmps80
    go_wp2_with fail
    refine IY.out.mono ?_
    rintro x w' ⟨rfl,rfl⟩
    go_wp2_with fail
    refine PU.out.mono ?_
    rintro x w' ⟨rfl,ho,hw⟩
    go_wp2_with fail
    go_end0
    exact⟨rfl,ho,hw⟩
  ·rw[if_pos rfl]
   clear iS
   go_enter Tryz.func80,Tryz.ntmps80
   go_wp2_with fail
   go_end0
   exact⟨rfl,HO.out,World.grownBy.refl _ _⟩
def eD (g:Nat→Int)(n:Nat):Nat→Int:=fun j=>if j=0 then 0 else if j=1 then g 0 else if j=2 then eY ((n:Int)-16) 1 else eY ((n:Int)-16) 0
def bo (g:Nat→Int)(n:Nat):Nat:=if g 0=3 then n-12 else n-4
def bq (g:Nat→Int)(n:Nat):Nat→Int:=if g 0=3 then fun j=>if j<4 then eD g n j else g (12+j) else fun j=>if j<8 then g (4+j) else if j<12 then eD g n (j-8) else g (4+j)
theorem Hw {g:Nat→Int}(hg:az g)(n:Nat):az (eD g n):=by
 intro j;unfold eD
 split
 ·omega
 ·split
  ·exact hg 0
  ·split <;> exact ky _ _
theorem jo {g:Nat→Int}(hg:az g)(n:Nat):az (bq g n):=by
 intro j;unfold bq
 split <;> (dsimp only;repeat' split) <;> first |exact hg _ |exact Hw hg n _
def bj (s L:Nat)(g x:Nat→Int)(i:Nat):Nat→Int:=ah x s 2 (turn (num x s 2) (aN g L i) (aN x L i))
def aL (s L:Nat)(g:Nat→Int):Nat→Nat→(Nat→Int)→(Nat→Int)
 |0,_,x=>x
 |k+1,i,x=>aL s L g k (i+2) (bj s L g x i)
def cW (g:Nat→Int)(L:Nat)(a m v:Int):Bool:=(m==1&&decide (v≤255) || m==2&&decide (v≤65535) || m==4&&decide (v≤4294967295))&&decide (0≤v)&&decide (16≤a)&&decide (a≤(L:Int)-m)&&(decide (a+m≤(aI (g 0):Int)) || decide ((aI (g 0):Int)+2≤a))
def bN (g:Nat→Int)(L a m:Nat)(v:Int):Nat→Int:=if bz g=true then ah g a m v else cm (aL (aI (g 0)) L g ((m+a%2+1)/2) (a-a%2) (ah g a m v))
def fF (g:Nat→Int)(L:Nat)(a m v:Int):Int:=if ax g L≠0 then ax g L else if cW g L a m v=true then 0 else 14
def fW (g:Nat→Int)(L:Nat):Int:=if ax g L≠0 then ax g L else if g 1≤1 then 7 else 0
def aO (g:Nat→Int):Nat→Int:=ah (set1 g 1 (g 1-1)) 14 2 (turn (num g 14 2) (num g 0 2) (num (set1 g 1 (g 1-1)) 0 2))
def fV (g:Nat→Int)(L:Nat)(ad pt:Int):Int:=if ax g L≠0 then ax g L else if g 0=3 then 2 else if cn ad 4294967295&&cn pt 65535 then 0 else 14
def aE (g:Nat→Int)(s:Bool)(ad pt:Int):Nat→Int:=if s=true then ah (ah g 4 4 ad) 16 2 pt else ah (ah g 8 4 ad) 18 2 pt
def bp (g:Nat→Int)(L:Nat)(s:Bool)(ad pt:Int):Nat→Int:=
 let a:=if s=true then 4 else 8
 let p:=if s=true then 16 else 18
 let x:=aL 14 L g 2 a (aE g s ad pt)
 if bz g=true then x else cm (aL 22 L g 1 p (aL 22 L g 2 a x))
def bh (p:Pk):Bool:=cn p.life 255&&cn p.piece 255&&cn p.src 4294967295&&cn p.dst 4294967295&&(if p.kind=3 then cn p.code 255 else cn p.fp 65535&&cn p.tp 65535&&(if p.kind=2 then cn p.label 65535 else cn p.flags 15))
def aJ (p:Pk):Nat:=if p.kind=3 then 20+p.nd else if p.kind=2 then 24+p.nd else 24+p.no+p.nd
def aC (p:Pk):Int:=if isK p.kind=false then 2 else if bh p=false then 14 else if p.kind=1∧40<p.no then 5 else if p.kind=3∧p.nd<24∨1500<aJ p then 3 else 0
def cu (p:Pk):Nat→Int:=fun j=>
 if p.kind=3 then (if j=0 then p.code else if j<4 then 0 else p.gd (j-4))
 else if j<2 then eY p.fp (1-j) else if j<4 then eY p.tp (3-j)
 else if p.kind=2 then (if j<6 then eY p.label (5-j) else if j<8 then 0 else p.gd (j-8))
 else if j=4 then p.flags else if j=5 then (p.no:Int) else if j<8 then 0 else if j<8+p.no then p.go (j-8) else p.gd (j-8-p.no)
def bU (p:Pk):Nat→Int:=fun j=>
 if j=0 then p.kind else if j=1 then p.life else if j<4 then eY (aJ p) (3-j) else if j<8 then eY p.src (7-j) else if j<12 then eY p.dst (11-j) else if j=12 then p.piece else if j<16 then 0 else cu p (j-16)
def aR (p:Pk):Nat→Int:=ah (bU p) 14 2 (65535-norm (tot (bU p) 16))
def aF (p:Pk):Nat→Int:=if p.kind=2∧p.bare=true then aR p else cm (ah (aR p) (aI p.kind) 2 (65535-norm (tot (bq (aR p) (aJ p)) (bo (aR p) (aJ p)))))
theorem Eu {g:Nat→Int}{off m j:Nat}{v:Int}(h:j<off):ah g off m v j=g j:=by unfold ah;rw[if_neg (by omega)]
theorem Ev {g:Nat→Int}{off m j:Nat}{v:Int}(h:off+m≤j):ah g off m v j=g j:=by unfold ah;rw[if_neg (by omega)]
theorem aH {g:Nat→Int}{off m j:Nat}{v:Int}(h:j<off∨off+m≤j):ah g off m v j=g j:=by unfold ah;rw[if_neg (by omega)]
theorem iE {g:Nat→Int}{off m j:Nat}{v:Int}(h:off≤j)(h':j<off+m):ah g off m v j=eY v (off+m-1-j):=by unfold ah;rw[if_pos ⟨h,h'⟩]
theorem eU (g:Nat→Int)(a:Nat):num g a 2=g a*256+g (a+1):=by simp[num]
theorem Dk (g:Nat→Int)(a:Nat):num g a 4=((g a*256+g (a+1))*256+g (a+2))*256+g (a+3):=by simp[num]
theorem mw (v:Int):eY v 0=v%256:=by simp[eY]
theorem mr (v:Int):eY v 1=v/256%256:=by simp[eY]
theorem J2 (v:Int):eY v 2=v/65536%256:=by simp[eY]
theorem J1 (v:Int):eY v 3=v/16777216%256:=by simp[eY]
theorem jb {g:Nat→Int}{a:Nat}{v:Int}(h0:g a=eY v 1)(h1:g (a+1)=eY v 0)(hv:0≤v)(hv':v≤65535):num g a 2=v:=by
 rw[eU,h0,h1,mw,mr];omega
theorem rP {g:Nat→Int}{a:Nat}{v:Int}(h0:g a=eY v 3)(h1:g (a+1)=eY v 2)(h2:g (a+2)=eY v 1)(h3:g (a+3)=eY v 0)(hv:0≤v)(hv':v≤4294967295):num g a 4=v:=by
 rw[Dk,h0,h1,h2,h3,mw,mr,J2,J1];omega
theorem ij {g:Nat→Int}{a:Nat}{v:Int}(hv:0≤v)(hv':v≤65535):num (ah g a 2 v) a 2=v:=
 jb (by rw[iE (by omega) (by omega),show a+2-1-a=1 from by omega]) (by rw[iE (by omega) (by omega),show a+2-1-(a+1)=0 from by omega]) hv hv'
theorem fw {g:Nat→Int}{off m a n:Nat}{v:Int}(h:a+n≤off∨off+m≤a):num (ah g off m v) a n=num g a n:=
 cg fun j h1 h2=>aH (by omega)
theorem gJ {g:Nat→Int}{j:Nat}(h:j<22∨24≤j):cm g j=g j:=by
 unfold cm;split
 ·exact aH h
 ·rfl
theorem mO {g:Nat→Int}(h:g 0≠2):cm g=g:=by
 unfold cm;rw[if_neg];unfold bz;rw[show (g 0==2)=false from by simpa using h];simp
theorem kU {t:Int}(h:0≤t):norm t=65535↔t≠0∧t%65535=0:=by unfold norm;split <;> omega
theorem ud (t:Int):norm t%65535=t%65535:=by unfold norm;split <;> omega
theorem lh (g:Nat→Int)(q:Nat)(v:Int)(hv:0≤v)(hv':v≤65535)(n:Nat)(h:2*q+2≤n):tot (ah g (2*q) 2 v) n=tot g n+v-num g (2*q) 2:=by
 obtain ⟨r,rfl⟩:∃r,n=2*(q+1)+r:=⟨n-(2*q+2),by omega⟩
 rw[fG _ (q+1),fG g (q+1),show 2*(q+1)=2*q+2 from by omega,jM,jM]
 rw[eG (fun j=>ah g (2*q) 2 v (2*q+2+j)) (fun j=>g (2*q+2+j)) r (fun j _=>Ev (by omega)),eG (ah g (2*q) 2 v) g (2*q) (fun j hj=>Eu hj)]
 have h1:=ij (g:=g) (a:=2*q) hv hv'
 rw[eU]at h1 ⊢
 omega
theorem oZ {g:Nat→Int}(hg:az g){n j:Nat}(hj:j<n)(h:g j≠0):tot g n≠0:=fun e=>h ((AJ g hg n).1 e j hj)
theorem mH {p:Pk}(hg:az p.gd)(ho:az p.go)(hE:aC p=0):az (bU p):=by
 have h:=hE
 unfold aC at h
 split at h
 ·cases h
 ·rename_i h1
  split at h
  ·cases h
  ·rename_i h2
   split at h
   ·cases h
   ·rename_i h3
    split at h
    ·cases h
    ·rename_i h4
     unfold isK at h1
     unfold bh cn at h2
     simp at h1 h2
     intro j
     unfold bU
     split
     ·omega
     ·split
      ·omega
      ·split
       ·exact ky _ _
       ·split
        ·exact ky _ _
        ·split
         ·exact ky _ _
         ·split
          ·omega
          ·split
           ·omega
           ·unfold cu
            split
            ·split
             ·rename_i h5 _;rw[if_pos h5]at h2;simp at h2;omega
             ·split
              ·omega
              ·exact hg _
            ·rename_i hk3
             rw[if_neg hk3]at h2
             split
             ·exact ky _ _
             ·split
              ·exact ky _ _
              ·split
               ·split
                ·exact ky _ _
                ·split
                 ·omega
                 ·exact hg _
               ·rename_i hk2
                rw[if_neg hk2]at h2
                simp at h2
                split
                ·omega
                ·split
                 ·omega
                 ·split
                  ·omega
                  ·split
                   ·exact ho _
                   ·exact hg _
theorem fM {p:Pk}(h:aC p=0):isK p.kind=true∧bh p=true∧(p.kind=1→p.no≤40)∧(p.kind=3→24≤p.nd)∧aJ p≤1500∧24≤aJ p:=by
 unfold aC at h
 split at h
 ·cases h
 ·split at h
  ·cases h
  ·split at h
   ·cases h
   ·split at h
    ·cases h
    ·rename_i h1 h2 h3 h4
     refine⟨by simpa using h1,by simpa using h2,fun e=>by omega,fun e=>by omega,by omega,?_⟩
     unfold aJ
     split
     ·omega
     ·split <;> omega
theorem eH (k:Int):∃q,aI k=2*q∧16≤aI k∧aI k≤22:=by unfold aI;split;exact⟨9,rfl,by omega,by omega⟩;exact⟨11,rfl,by omega,by omega⟩
theorem ju {p:Pk}(hg:az p.gd)(ho:az p.go)(hE:aC p=0):az (aR p):=dd (mH hg ho hE) _ _ _
theorem gU {p:Pk}(hg:az p.gd)(ho:az p.go)(hE:aC p=0):az (aF p):=by
 unfold aF;split
 ·exact ju hg ho hE
 ·exact rW (dd (ju hg ho hE) _ _ _)
theorem Ab {p:Pk}{j:Nat}(h:j<14∨16≤j)(h':j<aI p.kind∨aI p.kind+2≤j)(h2:p.kind=2∨j<22∨24≤j∨p.kind=1∨p.kind=3):aF p j=bU p j:=by
 have hh:aR p j=bU p j:=aH h
 unfold aF
 split
 ·exact hh
 ·by_cases k2:p.kind=2
  ·have:aI p.kind=22:=by unfold aI;rw[if_neg (by omega)]
   rw[gJ (by omega),aH h',hh]
  ·rw[mO,aH h',hh]
   have hs:=(eH p.kind).choose_spec
   rw[aH (by omega)]
   unfold aR
   rw[aH (by omega)]
   show (if (0:Nat)=0 then p.kind else _)≠2
   rw[if_pos rfl]
   exact k2
theorem gv (p:Pk):bU p 0=p.kind:=by unfold bU;rw[if_pos rfl]
theorem dU {p:Pk}{j:Nat}(h:j<14):aF p j=bU p j:=by
 obtain ⟨q,hq,h1,h2⟩:=eH p.kind
 unfold aF
 split
 ·exact aH (by omega)
 ·rw[gJ (by omega),aH (by omega)]
  exact aH (by omega)
theorem Ac {p:Pk}{j:Nat}(h:j<16):aF p j=aR p j:=by
 obtain ⟨q,hq,h1,h2⟩:=eH p.kind
 unfold aF
 split
 ·rfl
 ·rw[gJ (by omega),aH (by omega)]
theorem xg (p:Pk):bU p 1=p.life:=by simp[bU]
theorem Ga (p:Pk):bU p 12=p.piece:=by simp[bU]
theorem F_ (p:Pk):bU p 13=0:=by simp[bU]
theorem Es (p:Pk)(h:aJ p≤65535):num (bU p) 2 2=aJ p:=jb (by simp[bU]) (by simp[bU]) (by omega) (by omega)
theorem rK {p:Pk}(h:0≤p.src)(h':p.src≤4294967295):num (bU p) 4 4=p.src:=rP (by simp[bU]) (by simp[bU]) (by simp[bU]) (by simp[bU]) h h'
theorem rL {p:Pk}(h:0≤p.dst)(h':p.dst≤4294967295):num (bU p) 8 4=p.dst:=rP (by simp[bU]) (by simp[bU]) (by simp[bU]) (by simp[bU]) h h'
theorem bW (p:Pk)(j:Nat):bU p (16+j)=cu p j:=by
 unfold bU
 rw[if_neg (by omega),if_neg (by omega),if_neg (by omega),if_neg (by omega),if_neg (by omega),if_neg (by omega),if_neg (by omega),show 16+j-16=j from by omega]
theorem fz {p:Pk}{j:Nat}(h:j<14∨16≤j)(h':j<aI p.kind∨aI p.kind+2≤j):aF p j=bU p j:=by
 have hk:p.kind=2→aI p.kind=22:=fun e=>by unfold aI;rw[if_neg (by omega)]
 by_cases k2:p.kind=2
 ·have:=hk k2
  exact Ab h h' (.inl k2)
 ·have hh:aR p j=bU p j:=aH h
  have hs:=(eH p.kind).choose_spec
  unfold aF
  rw[if_neg (fun e=>k2 e.1),mO,aH h',hh]
  rw[aH (by omega)]
  unfold aR
  rw[aH (by omega),gv]
  exact k2
theorem gQ {p:Pk}{a n:Nat}(h:a+n≤14∨16≤a)(h':a+n≤aI p.kind∨aI p.kind+2≤a):num (aF p) a n=num (bU p) a n:=
 cg fun j h1 h2=>fz (by omega) (by omega)
theorem gB {p:Pk}(hE:aC p=0):p.kind=1∨p.kind=2∨p.kind=3:=by
 have:=(fM hE).1
 unfold isK at this;simp at this;omega
theorem vq {p:Pk}(hg:az p.gd)(ho:az p.go)(hE:aC p=0):cz (aF p) (aJ p)=0:=by
 obtain ⟨h1,h2,h3,h4,h5,h6⟩:=fM hE
 have hB:=mH hg ho hE
 have hA:=(eH p.kind).choose_spec
 have e0:aF p 0=p.kind:=by rw[dU (by omega),gv]
 have e13:aF p 13=0:=by rw[dU (by omega),F_]
 have e2:num (aF p) 2 2=aJ p:=by rw[gQ (by omega) (by omega),Es p (by omega)]
 have et:norm (tot (aF p) 16)=65535:=by
  rw[eG (aF p) (aR p) 16 (fun j hj=>Ac hj)]
  have hb:=jc (tot (bU p) 16)
  have hT:=lh (bU p) 7 (65535-norm (tot (bU p) 16)) (by omega) (by omega) 16 (by omega)
  have hz:num (bU p) 14 2=0:=by rw[eU];simp[bU]
  rw[show 2*7=14 from rfl,hz]at hT
  have hp:=fC (aR p) (ju hg ho hE) 16
  have hne:tot (aR p) 16≠0:=oZ (ju hg ho hE) (j:=0) (by omega) (by
   show ah (bU p) 14 2 _ 0≠0
   rw[aH (by omega),gv]
   have:=gB hE
   omega)
  refine(kU hp).2 ⟨hne,?_⟩
  show tot (ah (bU p) 14 2 (65535-norm (tot (bU p) 16))) 16%65535=0
  rw[hT]
  have:=ud (tot (bU p) 16)
  omega
 have hp:aN (aF p) (aJ p) 2=aJ p:=by unfold aN;rw[if_neg (by omega),e2]
 unfold cz
 rw[if_neg (by omega),if_neg (by rw[e0,h1];decide),e13,hp,et,if_neg (by simp;omega),if_neg (by decide)]
structure Pe (p q:Pk):Prop where
 kind:p.kind=q.kind
 life:p.life=q.life
 piece:p.piece=q.piece
 src:p.src=q.src
 dst:p.dst=q.dst
 fp:p.fp=q.fp
 tp:p.tp=q.tp
 flags:p.flags=q.flags
 label:p.label=q.label
 bare:p.bare=q.bare
 code:p.code=q.code
 no:p.no=q.no
 go:∀j,j<p.no→p.go j=q.go j
 nd:p.nd=q.nd
 gd:∀j,j<p.nd→p.gd j=q.gd j
structure Clean (p:Pk):Prop where
 k3:p.kind=3→p.fp=0∧p.tp=0
 k1:p.kind≠1→p.flags=0∧p.no=0
 k2:p.kind≠2→p.label=0∧p.bare=false
 kc:p.kind≠3→p.code=0
theorem rs {p:Pk}(hE:aC p=0)(hk:p.kind=2):num (aF p) 22 2=0↔p.bare=true:=by
 have hs:aI p.kind=22:=by unfold aI;rw[if_neg (by omega)]
 have hz:num (aR p) 22 2=0:=by
  unfold aR
  rw[fw (by omega),eU,show 22=16+6 from rfl,show 16+6+1=16+7 from rfl,bW,bW]
  simp[cu,hk]
 constructor
 ·intro h
  rcases hb:p.bare with _ | _
  ·exfalso
   unfold aF at h
   rw[if_neg (by rw[hb];simp),hs]at h
   have hn:0≤65535-norm (tot (bq (aR p) (aJ p)) (bo (aR p) (aJ p)))∧65535-norm (tot (bq (aR p) (aJ p)) (bo (aR p) (aJ p)))≤65535:=by
    have:=jc (tot (bq (aR p) (aJ p)) (bo (aR p) (aJ p)))
    omega
   generalize 65535-norm (tot (bq (aR p) (aJ p)) (bo (aR p) (aJ p)))=s at h hn
   have e:num (ah (aR p) 22 2 s) 22 2=s:=ij (by omega) (by omega)
   unfold cm at h
   split at h
   ·rw[ij (by omega) (by omega)]at h;cases h
   ·rename_i hbf
    apply hbf
    unfold bz
    rw[h,show ah (aR p) 22 2 s 0=2 from by rw[aH (by omega)];unfold aR;rw[aH (by omega),gv,hk]]
    rfl
  ·rfl
 ·intro hb
  unfold aF
  rw[if_pos ⟨hk,hb⟩,hz]
set_option maxHeartbeats 1000000 in
theorem vr {p:Pk}(hE:aC p=0):cJ (aF p) (aJ p)=0:=by
 obtain ⟨h1,h2,h3,h4,h5,h6⟩:=fM hE
 have e0:aF p 0=p.kind:=by rw[dU (by omega),gv]
 unfold bh cn at h2
 simp at h2
 have hk:=gB hE
 unfold cJ
 rw[e0]
 rcases hk with k |k |k
 ·have hs:aI p.kind=22:=by unfold aI;rw[if_neg (by omega)]
  have e20:aF p 20=p.flags:=by rw[fz (by omega) (by omega),show 20=16+4 from rfl,bW];simp[cu,k]
  have e21:aF p 21=p.no:=by rw[fz (by omega) (by omega),show 21=16+5 from rfl,bW];simp[cu,k]
  rw[k]at h2
  simp at h2
  have hl:aJ p=24+p.no+p.nd:=by unfold aJ;rw[if_neg (by omega),if_neg (by omega)]
  have:=h3 k
  rw[if_neg (by omega),if_neg (by omega),if_neg]
  rw[e20,e21]
  omega
 ·rw[if_neg (by omega),if_neg (by omega),if_neg (by omega)]
 ·have hs:aI p.kind=18:=by unfold aI;rw[if_pos k]
  have e17:aF p 17=0:=by rw[fz (by omega) (by omega),show 17=16+1 from rfl,bW];simp[cu,k]
  have hl:aJ p=20+p.nd:=by unfold aJ;rw[if_pos k]
  have:=h4 k
  rw[if_pos k,if_neg (by omega),if_neg (by rw[e17];simp)]
theorem fL {p:Pk}(hg:az p.gd)(ho:az p.go)(hE:aC p=0):ax (aF p) (aJ p)=0:=by
 unfold ax
 rw[vq hg ho hE,if_pos rfl,vr hE]
set_option maxHeartbeats 4000000 in
theorem j7 {p:Pk}(hg:az p.gd)(ho:az p.go)(hE:aC p=0)(hc:Clean p):Pe (aj (aF p) (aJ p)) p:=by
 obtain ⟨h1,h2,h3,h4,h5,h6⟩:=fM hE
 have e0:aF p 0=p.kind:=by rw[dU (by omega),gv]
 have e1:aF p 1=p.life:=by rw[dU (by omega),xg]
 have e12:aF p 12=p.piece:=by rw[dU (by omega),Ga]
 have hA:=(eH p.kind).choose_spec
 unfold bh cn at h2
 simp at h2
 have es:num (aF p) 4 4=p.src:=by rw[gQ (by omega) (by omega),rK (by omega) (by omega)]
 have ed:num (aF p) 8 4=p.dst:=by rw[gQ (by omega) (by omega),rL (by omega) (by omega)]
 unfold aj
 rw[fL hg ho hE,if_pos rfl]
 unfold dW
 rw[e0]
 rcases gB hE with k |k |k
 ·have hs:aI p.kind=22:=by unfold aI;rw[if_neg (by omega)]
  have hl:aJ p=24+p.no+p.nd:=by unfold aJ;rw[if_neg (by omega),if_neg (by omega)]
  have e20:aF p 20=p.flags:=by rw[fz (by omega) (by omega),show 20=16+4 from rfl,bW];simp[cu,k]
  have e21:aF p 21=p.no:=by rw[fz (by omega) (by omega),show 21=16+5 from rfl,bW];simp[cu,k]
  rw[k]at h2
  simp at h2
  have ef:num (aF p) 16 2=p.fp:=by rw[gQ (by omega) (by omega)];exact jb (by rw[show 16=16+0 from rfl,bW];simp[cu,k]) (by rw[show 16+1=16+1 from rfl,bW];simp[cu,k]) (by omega) (by omega)
  have et:num (aF p) 18 2=p.tp:=by rw[gQ (by omega) (by omega)];exact jb (by rw[show 18=16+2 from rfl,bW];simp[cu,k]) (by rw[show 18+1=16+3 from rfl,bW];simp[cu,k]) (by omega) (by omega)
  rw[if_neg (by omega),if_neg (by omega)]
  have hn:(aF p 21).toNat=p.no:=by rw[e21];rfl
  have q2:=hc.k2 (by omega)
  have qc:=hc.kc (by omega)
  refine⟨rfl,e1,e12,es,ed,ef,et,e20,q2.1.symm,q2.2.symm,qc.symm,hn,?_,by show aJ p-24-(aF p 21).toNat=p.nd;rw[hn];omega,?_⟩
  ·intro j hj
   show aF p (24+j)=p.go j
   replace hj:j<(aF p 21).toNat:=hj
   rw[hn]at hj
   rw[fz (by omega) (by omega),show 24+j=16+(8+j) from by omega,bW]
   unfold cu
   rw[if_neg (by omega),if_neg (by omega),if_neg (by omega),if_neg (by omega),if_neg (by omega),if_neg (by omega),if_neg (by omega),if_pos (by omega),show 8+j-8=j from by omega]
  ·intro j hj
   show aF p (24+(aF p 21).toNat+j)=p.gd j
   rw[hn,fz (by omega) (by omega),show 24+p.no+j=16+(8+p.no+j) from by omega,bW]
   unfold cu
   rw[if_neg (by omega),if_neg (by omega),if_neg (by omega),if_neg (by omega),if_neg (by omega),if_neg (by omega),if_neg (by omega),if_neg (by omega),show 8+p.no+j-8-p.no=j from by omega]
 ·have hs:aI p.kind=22:=by unfold aI;rw[if_neg (by omega)]
  have hl:aJ p=24+p.nd:=by unfold aJ;rw[if_neg (by omega),if_pos k]
  rw[k]at h2
  simp at h2
  have ef:num (aF p) 16 2=p.fp:=by rw[gQ (by omega) (by omega)];exact jb (by rw[show 16=16+0 from rfl,bW];simp[cu,k]) (by rw[show 16+1=16+1 from rfl,bW];simp[cu,k]) (by omega) (by omega)
  have et:num (aF p) 18 2=p.tp:=by rw[gQ (by omega) (by omega)];exact jb (by rw[show 18=16+2 from rfl,bW];simp[cu,k]) (by rw[show 18+1=16+3 from rfl,bW];simp[cu,k]) (by omega) (by omega)
  have el:num (aF p) 20 2=p.label:=by rw[gQ (by omega) (by omega)];exact jb (by rw[show 20=16+4 from rfl,bW];simp[cu,k]) (by rw[show 20+1=16+5 from rfl,bW];simp[cu,k]) (by omega) (by omega)
  have hb:=rs hE k
  rw[if_neg (by omega),if_pos k]
  have q1:=hc.k1 (by omega)
  have qc:=hc.kc (by omega)
  refine⟨rfl,e1,e12,es,ed,ef,et,q1.1.symm,el,?_,qc.symm,q1.2.symm,fun j hj=>absurd hj (by show ¬j<0;omega),by show aJ p-24=p.nd;omega,?_⟩
  ·show (num (aF p) 22 2==0)=p.bare
   rcases hbb:p.bare with _ | _
   ·rw[hbb]at hb;simpa using hb
   ·rw[hbb]at hb;simpa using hb
  ·intro j hj
   show aF p (24+j)=p.gd j
   rw[fz (by omega) (by omega),show 24+j=16+(8+j) from by omega,bW]
   unfold cu
   rw[if_neg (by omega),if_neg (by omega),if_neg (by omega),if_pos k,if_neg (by omega),if_neg (by omega),show 8+j-8=j from by omega]
 ·have hs:aI p.kind=18:=by unfold aI;rw[if_pos k]
  have hl:aJ p=20+p.nd:=by unfold aJ;rw[if_pos k]
  have e16:aF p 16=p.code:=by rw[fz (by omega) (by omega),show 16=16+0 from rfl,bW];simp[cu,k]
  rw[if_pos k]
  have q3:=hc.k3 k
  have q1:=hc.k1 (by omega)
  have q2:=hc.k2 (by omega)
  refine⟨rfl,e1,e12,es,ed,q3.1.symm,q3.2.symm,q1.1.symm,q2.1.symm,q2.2.symm,e16,q1.2.symm,fun j hj=>absurd hj (by show ¬j<0;omega),by show aJ p-20=p.nd;omega,?_⟩
  intro j hj
  show aF p (20+j)=p.gd j
  rw[fz (by omega) (by omega),show 20+j=16+(4+j) from by omega,bW]
  unfold cu
  rw[if_pos k,if_neg (by omega),if_neg (by omega),show 4+j-4=j from by omega]
def dS (d:Nat→Int):Nat→Nat→Int
 | _,0=>0
 |a,k+1=>d a+dS d (a+1) k
theorem rm (d:Nat→Int):∀(k a l:Nat),dS d a (k+l)=dS d a k+dS d (a+k) l
 |0,a,l=>by simp[dS]
 |k+1,a,l=>by
  rw[show k+1+l=(k+l)+1 from by omega]
  show d a+dS d (a+1) (k+l)=d a+dS d (a+1) k+dS d (a+(k+1)) l
  rw[rm d k (a+1) l,show a+1+k=a+(k+1) from by omega]
  omega
theorem rX {d:Nat→Int}:∀(k a:Nat),(∀q,a≤q→q<a+k→d q=0)→dS d a k=0
 |0,a,_=>rfl
 |k+1,a,h=>by
  show d a+dS d (a+1) k=0
  rw[h a (by omega) (by omega),rX k (a+1) (fun q h1 h2=>h q (by omega) (by omega))]
  rfl
theorem ly {d d':Nat→Int}:∀(k a:Nat),(∀q,a≤q→q<a+k→d q=d' q)→dS d a k=dS d' a k
 |0,a,_=>rfl
 |k+1,a,h=>by
  show d a+dS d (a+1) k=d' a+dS d' (a+1) k
  rw[h a (by omega) (by omega),ly k (a+1) (fun q h1 h2=>h q (by omega) (by omega))]
def dP (g x:Nat→Int)(L:Nat):Nat→Int:=fun q=>aN x L (2*q)-aN g L (2*q)
theorem gG {x y:Nat→Int}{L a:Nat}(h0:x a=y a)(h1:a+1<L→x (a+1)=y (a+1))(ha:a<L):aN x L a=aN y L a:=by
 unfold aN
 split
 ·rw[h0]
 ·rw[eU,eU,h0,h1 (by omega)]
theorem ym (g x:Nat→Int)(L:Nat):∀n,2*n≤L+1→tot x (min (2*n) L)-tot g (min (2*n) L)=dS (dP g x L) 0 n
 |0,_=>by simp[tot,dS]
 |n+1,h=>by
  rw[rm _ n 0 1,←ym g x L n (by omega),show min (2*n) L=2*n from by omega]
  show _=_+(dP g x L (0+n)+0)
  rw[Nat.zero_add]
  unfold dP aN
  by_cases e:2*n+1=L
  ·rw[if_pos e,if_pos e,show min (2*(n+1)) L=2*n+1 from by omega,m5,m5]
   omega
  ·rw[if_neg e,if_neg e,show min (2*(n+1)) L=2*n+2 from by omega,jM,jM,eU,eU]
   omega
theorem m6 {g x:Nat→Int}{L a k n:Nat}(hn:2*n≤L+1)(hk:a+k≤n)(h:∀j,j<2*a∨2*(a+k)≤j→x j=g j):tot x (min (2*n) L)-tot g (min (2*n) L)=dS (dP g x L) a k:=by
 have hz:∀q,q<a∨a+k≤q→q<n→dP g x L q=0:=fun q hq hn'=>by
  unfold dP
  rw[gG (x:=x) (y:=g) (h _ (by omega)) (fun _=>h _ (by omega)) (by omega)]
  omega
 rw[ym g x L n hn,show n=a+(k+(n-a-k)) from by omega,rm,rm,Nat.zero_add,rX a 0 (fun q _ h2=>hz q (by omega) (by omega)),rX (n-a-k) (a+k) (fun q h1 h2=>hz q (by omega) (by omega))]
 omega
theorem gw {s L:Nat}{g x:Nat→Int}(hx:az x)(i:Nat):az (bj s L g x i):=dd hx _ _ _
theorem b_ {s L:Nat}{g:Nat→Int}:∀(k i:Nat) (x:Nat→Int),az x→az (aL s L g k i x)
 |0,i,x,h=>h
 |k+1,i,x,h=>b_ k (i+2) _ (gw h i)
theorem dq {s L:Nat}{g:Nat→Int}{j:Nat}(hj:j<s∨s+2≤j):∀(k i:Nat) (x:Nat→Int),aL s L g k i x j=x j
 |0,i,x=>rfl
 |k+1,i,x=>by
  show aL s L g k (i+2) (bj s L g x i) j=x j
  rw[dq hj k (i+2)]
  exact aH hj
theorem lO {F:(Nat→Int)→Int}{s L:Nat}{g:Nat→Int}(hg:az g)(σ:Nat)(hs:s=2*σ)(hsL:s+2≤L)
 (R:(Nat→Int)→Prop) (hR:∀x v,R x→R (ah x s 2 v)) (hF:∀x v,az x→R x→0≤v→v≤65535→F (ah x s 2 v)=F x+v-num x s 2) :
 ∀(k a:Nat) (x:Nat→Int),az x→R x→(∀q,a≤q→q<a+k→q≠σ∧2*q<L)→F (aL s L g k (2*a) x)%65535=(F x-dS (dP g x L) a k)%65535
 |0,a,x,_,_,_=>by simp[aL,dS]
 |k+1,a,x,hx,hr,hq=>by
  have hpx:=dy hx L (2*a)
  have hpg:=dy hg L (2*a)
  have hn:=bK hx s
  have ht:=vD (num x s 2) (aN g L (2*a)) (aN x L (2*a)) hn.1 hn.2 hpg.1 hpg.2 hpx.1 hpx.2
  have hm:=tC (num x s 2) (aN g L (2*a)) (aN x L (2*a))
  have ih:=lO hg σ hs hsL R hR hF k (a+1) (bj s L g x (2*a)) (gw hx _) (hR _ _ hr) (fun q h1 h2=>hq q (by omega) (by omega))
  have hd:dS (dP g (bj s L g x (2*a)) L) (a+1) k=dS (dP g x L) (a+1) k:=ly k (a+1) (fun q h1 h2=>by
   have:=hq q (by omega) (by omega)
   unfold dP
   rw[gG (x:=bj s L g x (2*a)) (y:=x) (aH (by omega)) (fun _=>aH (by omega)) this.2])
  have hf:=hF x (turn (num x s 2) (aN g L (2*a)) (aN x L (2*a))) hx hr ht.1 ht.2
  show F (aL s L g k (2*a+2) (bj s L g x (2*a)))%65535=(F x-(dP g x L a+dS (dP g x L) (a+1) k))%65535
  rw[show 2*a+2=2*(a+1) from by omega,ih,hd]
  show (F (ah x s 2 (turn (num x s 2) (aN g L (2*a)) (aN x L (2*a))))-_)%65535=_
  rw[hf]
  show _=(F x-((aN x L (2*a)-aN g L (2*a))+dS (dP g x L) (a+1) k))%65535
  omega
theorem oh {g x:Nat→Int}{n:Nat}(h:∀j,j<16→x j=g j):cz x n=cz g n:=by
 unfold cz
 by_cases h16:n<16
 ·rw[if_pos h16,if_pos h16]
 ·rw[if_neg h16,if_neg h16,h 0 (by omega),h 13 (by omega),eG x g 16 h,gG (x:=x) (y:=g) (h 2 (by omega)) (fun _=>h 3 (by omega)) (by omega)]
theorem oN {g x:Nat→Int}{n:Nat}(h0:x 0=g 0)(KP:x 17=g 17)(h20:g 0≠3→x 20=g 20)(h21:g 0≠3→x 21=g 21):cJ x n=cJ g n:=by
 unfold cJ
 rw[h0,KP]
 by_cases k:g 0=3
 ·rw[if_pos k,if_pos k]
 ·rw[if_neg k,if_neg k,h20 k,h21 k]
theorem iX {g:Nat→Int}{n:Nat}(h:ax g n=0):cz g n=0∧cJ g n=0:=by
 unfold ax at h
 split at h
 ·exact⟨by assumption,h⟩
 ·contradiction
theorem pY {g:Nat→Int}{L:Nat}{a m v:Int}(h:cW g L a m v=true):(m=1∧v≤255∨m=2∧v≤65535∨m=4∧v≤4294967295)∧0≤v∧16≤a∧a≤(L:Int)-m∧(a+m≤(aI (g 0):Int)∨(aI (g 0):Int)+2≤a):=by
 unfold cW at h
 simp only[Bool.and_eq_true,Bool.or_eq_true,decide_eq_true_eq,beq_iff_eq]at h
 omega
theorem k_ {g:Nat→Int}{L a m:Nat}{v:Int}{j:Nat}(h:j<a∨a+m≤j)(h':j<aI (g 0)∨aI (g 0)+2≤j)(ha:16≤a):bN g L a m v j=g j:=by
 have hA:=(eH (g 0)).choose_spec
 unfold bN
 split
 ·exact aH h
 ·have e0:aL (aI (g 0)) L g ((m+a%2+1)/2) (a-a%2) (ah g a m v) 0=g 0:=by rw[dq (by omega),aH (by omega)]
  by_cases k2:g 0=2
  ·have hs:aI (g 0)=22:=by unfold aI;rw[if_neg (by omega)]
   rw[gJ (by omega),dq (by omega),aH h]
  ·rw[mO (by rw[e0];exact k2),dq (by omega),aH h]
theorem nJ {g:Nat→Int}(hg:az g)(L a m:Nat)(v:Int):az (bN g L a m v):=by
 unfold bN
 split
 ·exact dd hg _ _ _
 ·exact rW (b_ _ _ _ (dd hg _ _ _))
theorem rI (k:Int):aI k=18∨aI k=22:=by unfold aI;split;exact .inl rfl;exact .inr rfl
theorem iV {g:Nat→Int}{L a m:Nat}{v:Int}(ha:24≤a)(hp:ax g L=0):ax (bN g L a m v) L=0:=by
 obtain ⟨h1,h2⟩:=iX hp
 have hA:=rI (g 0)
 have e:∀j,j<24→(j<aI (g 0)∨aI (g 0)+2≤j)→bN g L a m v j=g j:=fun j hj h=>k_ (by omega) h (by omega)
 unfold ax
 rw[oh (g:=g) (fun j hj=>e j (by omega) (by omega)),if_pos h1,oN (g:=g) (e 0 (by omega) (by omega)) (e 17 (by omega) (by omega))
  (fun k=>e 20 (by omega) (by rw[show aI (g 0)=22 from by unfold aI;rw[if_neg k]];omega)) (fun k=>e 21 (by omega) (by rw[show aI (g 0)=22 from by unfold aI;rw[if_neg k]];omega)),h2]
theorem du {g:Nat→Int}{L:Nat}(hp:ax g L=0):24≤L∧L≤1500∧g 0≠0∧isK (g 0)=true:=by
 obtain ⟨h1,h2⟩:=iX hp
 have h3:=rU h1
 have h4:=rY h2 h3.2.1
 have h5:=h3.2.1
 unfold isK at h5
 simp at h5
 exact⟨h4.1,h3.2.2.2.1,by omega,h3.2.1⟩
theorem BX {x:Nat→Int}{n:Nat}(h16:16≤n)(hk:isK (x 0)=true)(hp:aN x n 2=n)(hn:n≤1500)(nC:x 13=0)(ht:norm (tot x 16)=65535):cz x n=0:=by
 unfold cz
 rw[if_neg (by omega),if_neg (by rw[hk];decide),hp,nC,ht,if_neg (by simp;omega),if_neg (by decide)]
theorem sD {g x:Nat→Int}{n:Nat}(hx:az x)(hg:az g)(h:cz g n=0)(h0:x 0=g 0)(h2:x 2=g 2)(h3:x 3=g 3)(nC:x 13=g 13)(ht:tot x 16%65535=tot g 16%65535):cz x n=0:=by
 obtain ⟨a1,a2,a3,a4,a5,a6⟩:=rU h
 refine BX a1 (by rw[h0];exact a2) (by rw[gG (x:=x) (y:=g) h2 (fun _=>h3) (by omega)];exact a3) a4 (by rw[nC];exact a5) ?_
 have k0:x 0≠0:=by rw[h0];unfold isK at a2;simp at a2;omega
 have g1:=(kU (fC g hg 16)).1 a6
 exact(kU (fC x hx 16)).2 ⟨oZ hx (j:=0) (by omega) k0,by rw[ht];exact g1.2⟩
theorem dZ {g:Nat→Int}{j:Nat}(h:j≠1)(h':j<14∨16≤j):aO g j=g j:=by
 unfold aO
 rw[aH h']
 unfold set1
 rw[if_neg h]
theorem ry {g:Nat→Int}{L:Nat}(h:fW g L=0):ax g L=0∧1<g 1:=by
 unfold fW at h
 split at h
 ·contradiction
 ·rename_i hp
  split at h
  ·cases h
  ·exact⟨by simpa using hp,by omega⟩
theorem Fh {g:Nat→Int}(hg:az g)(h1:1<g 1):tot (aO g) 16%65535=tot g 16%65535:=by
 have hx:az (set1 g 1 (g 1-1)):=fun j=>by have:=hg 1;unfold set1;split;omega;exact hg j
 have b1:=bK hg 14
 have b2:=bK hg 0
 have b3:=bK hx 0
 have ht:=vD (num g 14 2) (num g 0 2) (num (set1 g 1 (g 1-1)) 0 2) b1.1 b1.2 b2.1 b2.2 b3.1 b3.2
 have hm:=tC (num g 14 2) (num g 0 2) (num (set1 g 1 (g 1-1)) 0 2)
 have e:=lh (set1 g 1 (g 1-1)) 7 (turn (num g 14 2) (num g 0 2) (num (set1 g 1 (g 1-1)) 0 2)) ht.1 ht.2 16 (by omega)
 have e1:=AK g 1 (g 1-1) 16 (by omega)
 have e2:num (set1 g 1 (g 1-1)) (2*7) 2=num g 14 2:=cg fun j h1 h2=>by unfold set1;rw[if_neg (by omega)]
 have e3:num (set1 g 1 (g 1-1)) 0 2=num g 0 2-1:=by rw[eU,eU,Nat.zero_add];unfold set1;rw[if_neg (by omega),if_pos rfl];omega
 rw[if_neg (by decide)]at e1
 unfold aO
 rw[show ah (set1 g 1 (g 1-1)) 14 2 (turn (num g 14 2) (num g 0 2) (num (set1 g 1 (g 1-1)) 0 2))=ah (set1 g 1 (g 1-1)) (2*7) 2 (turn (num g 14 2) (num g 0 2) (num (set1 g 1 (g 1-1)) 0 2)) from rfl,e,e1,e2]
 rw[e3]at hm ⊢
 omega
theorem jj {g:Nat→Int}{L:Nat}(hg:az g)(h:fW g L=0):az (aO g):=by
 have h1:=(ry h).2
 have h2:=hg 1
 unfold aO
 exact dd (fun j=>by unfold set1;split;omega;exact hg j) _ _ _
theorem kz {g:Nat→Int}{L:Nat}(hg:az g)(h:fW g L=0):ax (aO g) L=0:=by
 obtain ⟨hp,h1⟩:=ry h
 obtain ⟨p1,p2⟩:=iX hp
 unfold ax
 rw[sD (jj hg h) hg p1 (dZ (by omega) (by omega)) (dZ (by omega) (by omega)) (dZ (by omega) (by omega)) (dZ (by omega) (by omega)) (Fh hg h1),if_pos rfl,
  oN (g:=g) (dZ (by omega) (by omega)) (dZ (by omega) (by omega)) (fun _=>dZ (by omega) (by omega)) (fun _=>dZ (by omega) (by omega)),p2]
def aA (s:Bool):Nat:=if s=true then 4 else 8
def pA (s:Bool):Nat:=if s=true then 16 else 18
theorem jd (g:Nat→Int)(s:Bool)(ad po:Int):aE g s ad po=ah (ah g (aA s) 4 ad) (pA s) 2 po:=by cases s <;> rfl
theorem mx (s:Bool):aA s=4∧pA s=16∨aA s=8∧pA s=18:=by cases s;exact .inr ⟨rfl,rfl⟩;exact .inl ⟨rfl,rfl⟩
theorem mK (g:Nat→Int)(L:Nat)(s:Bool)(ad po:Int):bp g L s ad po=if bz g=true then aL 14 L g 2 (aA s) (aE g s ad po) else cm (aL 22 L g 1 (pA s) (aL 22 L g 2 (aA s) (aL 14 L g 2 (aA s) (aE g s ad po)))):=by cases s <;> rfl
theorem uf {g:Nat→Int}{L:Nat}{ad po:Int}(h:fV g L ad po=0):ax g L=0∧g 0≠3∧cn ad 4294967295=true∧cn po 65535=true:=by
 unfold fV at h
 split at h
 ·contradiction
 ·rename_i hp
  split at h
  ·cases h
  ·rename_i h3
   split at h
   ·rename_i hr
    simp at hr
    exact⟨by simpa using hp,h3,hr.1,hr.2⟩
   ·cases h
theorem na {g:Nat→Int}(hg:az g)(s:Bool)(ad po:Int):az (aE g s ad po):=by rw[jd];exact dd (dd hg _ _ _) _ _ _
theorem pn {g:Nat→Int}(hg:az g)(L:Nat)(s:Bool)(ad po:Int):az (bp g L s ad po):=by
 rw[mK]
 split
 ·exact b_ _ _ _ (na hg _ _ _)
 ·exact rW (b_ _ _ _ (b_ _ _ _ (b_ _ _ _ (na hg _ _ _))))
theorem qW {g:Nat→Int}{L:Nat}{s:Bool}{ad po:Int}{j:Nat}(h:j<14∨16≤j)(h':j<22∨24≤j):bp g L s ad po j=aE g s ad po j:=by
 rw[mK]
 split
 ·exact dq h _ _ _
 ·rw[gJ h',dq h',dq h',dq h]
theorem ik {g:Nat→Int}{s:Bool}{ad po:Int}{j:Nat}(h:j<aA s∨aA s+4≤j)(h':j<pA s∨pA s+2≤j):aE g s ad po j=g j:=by rw[jd,aH h',aH h]
theorem rn {g x y:Nat→Int}{L q:Nat}(h0:x (2*q)=y (2*q))(h1:2*q+1<L→x (2*q+1)=y (2*q+1))(hq:2*q<L):dP g x L q=dP g y L q:=by
 unfold dP
 rw[gG (x:=x) (y:=y) h0 h1 hq]
theorem Bp {g:Nat→Int}{L:Nat}{s:Bool}{ad po:Int}(hg:az g)(hL:24≤L):tot (bp g L s ad po) 16%65535=tot g 16%65535:=by
 have ha:=mx s
 have hx:=na hg s ad po
 have e1:tot (bp g L s ad po) 16=tot (aL 14 L g 2 (aA s) (aE g s ad po)) 16:=eG _ _ _ fun j hj=>by
  rw[mK]
  split
  ·rfl
  ·rw[gJ (by omega),dq (by omega),dq (by omega)]
 obtain ⟨q,hq⟩:∃q,aA s=2*q:=⟨aA s/2,by omega⟩
 rw[e1,hq]
 have hmain:=lO (F:=fun x=>tot x 16) (s:=14) (L:=L) hg 7 rfl (by omega) (fun _=>True) (fun _ _ _=>trivial) (fun x v hB _ hv hv'=>by
  have:=lh x 7 v hv hv' 16 (by omega);exact this) 2 q (aE g s ad po) hx trivial (fun q' h1 h2=>by omega)
 rw[hmain]
 have e2:tot (aE g s ad po) 16=tot (ah g (aA s) 4 ad) 16:=eG _ _ _ fun j hj=>by rw[jd,aH (by omega)]
 have e3:dS (dP g (aE g s ad po) L) q 2=dS (dP g (ah g (aA s) 4 ad) L) q 2:=ly 2 q fun q' h1 h2=>rn (by rw[jd,aH (by omega)]) (fun _=>by rw[jd,aH (by omega)]) (by omega)
 have hd:=m6 (g:=g) (x:=ah g (aA s) 4 ad) (L:=L) (a:=q) (k:=2) (n:=8) (by omega) (by omega) (fun j hj=>aH (by omega))
 rw[show min (2*8) L=16 from by omega]at hd
 rw[e2,e3]
 omega
theorem l0 {g:Nat→Int}{L:Nat}{s:Bool}{ad po:Int}(hg:az g)(h:fV g L ad po=0):ax (bp g L s ad po) L=0:=by
 obtain ⟨hp,h3,_,_⟩:=uf h
 obtain ⟨p1,p2⟩:=iX hp
 have pf:=du hp
 have ha:=mx s
 have o:∀j,(j<4∨j=13∨j=20∨j=21)→bp g L s ad po j=g j:=fun j hj=>by rw[qW (by omega) (by omega),ik (by omega) (by omega)]
 have hb:cJ (bp g L s ad po) L=cJ g L:=by
  unfold cJ
  rw[o 0 (by omega),if_neg h3,if_neg h3,o 20 (by omega),o 21 (by omega)]
 unfold ax
 rw[sD (pn hg _ _ _ _) hg p1 (o 0 (by omega)) (o 2 (by omega)) (o 3 (by omega)) (o 13 (by omega)) (Bp hg pf.1),if_pos rfl,hb,p2]
end Go.Proofs.YtalnfkijiehjhaaGreat
