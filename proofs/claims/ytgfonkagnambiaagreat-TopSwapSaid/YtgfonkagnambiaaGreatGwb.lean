/- Parse. Sums that are turned. What packets' functions tell. What is built. What is built is read as it was. What changes keep. What Age keeps. What Nat keeps. What Nat's packet is read as. -/
import Derived.Test.YtgfonkagnambiaaGreatGa
import Derived.Test.YtgfonkagnambiaaGreatGw
import Derived.Deep.CutRange
import Derived.BigQuiet
import Derived.Deep.RegionHeld3
import Derived.Deep.Cut
namespace Go.Proofs.YtgfonkagnambiaaGreat
open List renaming setIfInBounds_toArray→zA,set_cons_zero→zB,set_cons_succ→zC
set_option linter.unusedVariables false
set_option linter.unusedSimpArgs false
open Go.RowKit Go.ChangeShapes Go.WideShapes Go.ChangeAt
theorem af {w w':World}{B b:Nat}(h:w.grownBy w' (some b))(hb:B≤b)(hB:B≤w.heap.size):Below B w w':=
 ⟨h.os,h.tape,h.output,h.size,fun k hk=>h.block k (Nat.lt_of_lt_of_le hk hB) (fun e=>by injection e with e;omega)⟩
theorem OB.grown {w w':World}{B n b:Nat}{v:Value}{g:Nat→Int}(h:OB w B v n g)(hg:w.grownBy w' (some b))(hne:v.ownBlock≠some b):OB w' B v n g:=by
 refine⟨h.1,?_⟩
 rcases h.2 with h0 |⟨g',cap,cur,rfl,hB,hh,h1⟩
 ·exact .inl h0
 refine .inr ⟨g',cap,cur,rfl,hB,?_,h1⟩
 have hlt:g'<w.heap.size:=by
  rcases Nat.lt_or_ge g' w.heap.size with hlt |hge
  ·exact hlt
  rw[Array.getElem?_eq_none hge]at hh;cases hh
 rw[hg.block g' hlt hne]
 exact hh
theorem OB.base {w:World}{B B' n:Nat}{v:Value}{g:Nat→Int}(h:OB w B v n g)(hB:B'≤B):OB w B' v n g:=by
 refine⟨h.1,?_⟩
 rcases h.2 with h0 |⟨g',cap,cur,rfl,hb,h1⟩
 ·exact .inl h0
 exact .inr ⟨g',cap,cur,rfl,Nat.le_trans hB hb,h1⟩
theorem OB.ne {w:World}{B n b:Nat}{v:Value}{g:Nat→Int}(h:OB w B v n g)(hb:b<B):v.ownBlock≠some b:=by
 rcases h.2 with ⟨rfl,_⟩ |⟨g',cap,cur,rfl,hB,h1⟩
 ·intro e;cases e
 intro e
 simp only[Value.ownBlock,Option.some.injEq]at e
 omega
section
variable {P:Program}{Q:Exit→Act→World→Prop}{md:Region.Mode}{S:World→Prop}
end
def cG (w:World)(b:Nat)(v0 v1 v2 v3 v4 v5 v6 v7 v8 v9 v10 v11 v12:Value):World:=(((((((((((((w.setCell ⟨b,0,none⟩ v0).setCell ⟨b,1,none⟩ v1).setCell ⟨b,2,none⟩ v2).setCell ⟨b,3,none⟩ v3).setCell ⟨b,4,none⟩ v4).setCell ⟨b,5,none⟩ v5).setCell ⟨b,6,none⟩ v6).setCell ⟨b,7,none⟩ v7).setCell ⟨b,8,none⟩ v8).setCell ⟨b,9,none⟩ v9).setCell ⟨b,10,none⟩ v10).setCell ⟨b,11,none⟩ v11).setCell ⟨b,12,none⟩ v12)
theorem Ce.s13 {w:World}{b:Nat}{x0 x1 x2 x3 x4 x5 x6 x7 x8 x9 eX eW eV:Value}(h:Ce w b [x0,x1,x2,x3,x4,x5,x6,x7,x8,x9,eX,eW,eV])(v0 v1 v2 v3 v4 v5 v6 v7 v8 v9 v10 v11 v12:Value):Ce (cG w b v0 v1 v2 v3 v4 v5 v6 v7 v8 v9 v10 v11 v12) b [v0,v1,v2,v3,v4,v5,v6,v7,v8,v9,v10,v11,v12]:=
 (((((((((((((h.set 0 v0 (by simp)).set 1 v1 (by simp)).set 2 v2 (by simp)).set 3 v3 (by simp)).set 4 v4 (by simp)).set 5 v5 (by simp)).set 6 v6 (by simp)).set 7 v7 (by simp)).set 8 v8 (by simp)).set 9 v9 (by simp)).set 10 v10 (by simp)).set 11 v11 (by simp)).set 12 v12 (by simp))
theorem cF {B:Nat}{w w':World}{b:Nat}(h:Below B w w')(hb:B≤b)(v0 v1 v2 v3 v4 v5 v6 v7 v8 v9 v10 v11 v12:Value):Below B w (cG w' b v0 v1 v2 v3 v4 v5 v6 v7 v8 v9 v10 v11 v12):=
 ((((((((((((h.setCell (p:=⟨b,0,none⟩) hb _).setCell (p:=⟨b,1,none⟩) hb _).setCell (p:=⟨b,2,none⟩) hb _).setCell (p:=⟨b,3,none⟩) hb _).setCell (p:=⟨b,4,none⟩) hb _).setCell (p:=⟨b,5,none⟩) hb _).setCell (p:=⟨b,6,none⟩) hb _).setCell (p:=⟨b,7,none⟩) hb _).setCell (p:=⟨b,8,none⟩) hb _).setCell (p:=⟨b,9,none⟩) hb _).setCell (p:=⟨b,10,none⟩) hb _).setCell (p:=⟨b,11,none⟩) hb _).setCell (p:=⟨b,12,none⟩) hb _
theorem aJ (w:World)(b:Nat)(v0 v1 v2 v3 v4 v5 v6 v7 v8 v9 v10 v11 v12:Value):w.grownBy (cG w b v0 v1 v2 v3 v4 v5 v6 v7 v8 v9 v10 v11 v12) (some b):=by
 unfold cG
 iterate 13 (refine gs _ _ ?_)
 exact World.grownBy.refl _ _
structure Pk where
 kind:Int:=0
 life:Int:=0
 piece:Int:=0
 src:Int:=0
 dst:Int:=0
 fp:Int:=0
 tp:Int:=0
 flags:Int:=0
 label:Int:=0
 bare:Bool:=false
 code:Int:=0
 no:Nat:=0
 go:Nat→Int:=fun _=>0
 nd:Nat:=0
 gd:Nat→Int:=fun _=>0
def ea (p:Pk)(O D:Value):List Value:=[p.kind,p.life,p.piece,p.src,p.dst,p.fp,p.tp,p.flags,p.label,p.bare,p.code,O,D]
def de (p:Pk)(O D:Value):Value:=.agg (ea p O D).toArray
def ez (g:Nat→Int)(n:Nat):Pk:=
 if g 0=3 then { kind:=g 0,life:=g 1,piece:=g 12,src:=num g 4 4,dst:=num g 8 4,code:=g 16,nd:=n-20,gd:=fun j=>g (20+j) }
 else if g 0=2 then { kind:=g 0,life:=g 1,piece:=g 12,src:=num g 4 4,dst:=num g 8 4,fp:=num g 16 2,tp:=num g 18 2,label:=num g 20 2,bare:=num g 22 2==0,nd:=n-24,gd:=fun j=>g (24+j) }
 else { kind:=g 0,life:=g 1,piece:=g 12,src:=num g 4 4,dst:=num g 8 4,fp:=num g 16 2,tp:=num g 18 2,flags:=g 20,no:=(g 21).toNat,go:=fun j=>g (24+j),nd:=n-24-(g 21).toNat,gd:=fun j=>g (24+(g 21).toNat+j) }
def au (g:Nat→Int)(n:Nat):Pk:=if aB g n=0 then ez g n else {}
def Parsed (w:World)(g:Nat→Int)(n:Nat)(e:Ending)(w':World):Prop:=
 ∃O D:Value,e =.returned (.tuple #[de (au g n) O D,(aB g n)])∧OB w' w.heap.size O (au g n).no (au g n).go∧OB w' w.heap.size D (au g n).nd (au g n).gd∧Below w.heap.size w w'
theorem OB.nil {w:World}{B:Nat}{g:Nat→Int}:OB w B (.slice none 0 0) 0 g:=Ow.none_
theorem qs {P:Program}{F:FuncId}{args:Array Value}{w:World}{v:Value}(h:Calls P F args w fun e w'=>e =.returned v∧w=w'):Calls P F args w fun e w'=>e =.returned v∧w'=w:=h.mono fun _ _ ⟨a,b⟩=>⟨a,b.symm⟩
theorem pZ {g:Nat→Int}{n:Nat}(h:cg g n=0)(hk:isK (g 0)=true):24≤n∧(g 0=3∧44≤n∨g 0=2∨g 0=1∧g 20≤15∧g 21≤40∧g 21≤(n:Int)-24):=by
 unfold isK at hk
 simp at hk
 unfold cg at h
 split at h
 ·split at h
  ·cases h
  exact⟨by omega,.inl ⟨by assumption,by omega⟩⟩
 split at h
 ·cases h
 split at h
 ·cases h
 rename_i h3 gM h5
 refine⟨by omega,.inr ?_⟩
 by_cases h1:g 0=1
 ·refine .inr ⟨h1,?_,?_,?_⟩ <;> (have:=fun x=>h5 ⟨h1,x⟩;omega)
 exact .inl (by omega)
theorem OB.lH {w w':World}{B n:Nat}{v:Value}{g:Nat→Int}(h:OB w B v n g)(hb:Below w.heap.size w w'):OB w' B v n g:=Ow.keep h hb (Nat.le_refl _)
theorem Aw {w:World}{n c b off:Nat}{g:Nat→Int}(h:By w (some ⟨b,off,none⟩) n g)(hg:az g)(a:Nat)(ha:a+2≤n)(hc:n≤c)(hb:n≤1000000) :
 Calls Tryz.prog 66 #[.slice (some ⟨b,off,none⟩) n c,a] w fun e w2=>e =.returned (.int .i64 (num g a 2))∧w=w2:=by
 have:=dY (some ⟨b,off,none⟩) n c g w h hg a (by omega) hc hb
 rw[show aU g n a=num g a 2 from by unfold aU;rw[if_neg (by omega)]]at this
 exact this
theorem bz {w w':World}{n b off L:Nat}{g:Nat→Int}(h:By w (some ⟨b,off,none⟩) n g)(hg:w.grownBy w' (some L))(hne:b≠L):By w' (some ⟨b,off,none⟩) n g:=by
 intro hn
 obtain ⟨b',off',e,hlt,hc⟩:=h hn
 injection e with e
 injection e with e1 e2
 subst e1;subst e2
 exact⟨b,off,rfl,Nat.lt_of_lt_of_le hlt hg.size,fun j hj=>(World.cell?_of_block (a:=⟨b,off+j,none⟩) (hg.block b hlt (fun e=>hne (by injection e)))).trans (hc j hj)⟩
theorem mI {w:World}{n b off:Nat}{g:Nat→Int}(h:By w (some ⟨b,off,none⟩) n g)(hg:az g)(a:Nat)(ha:a+4≤n)(c:Nat) :
 Calls Tryz.prog 64 #[.slice (some ⟨b,off+a,none⟩) 4 c] w fun e w2=>e =.returned (.int .i64 (num g a 4))∧w=w2:=by
 have:=o5 (some ⟨b,off+a,none⟩) 4 c (fun j=>g (a+j)) w (Sl.cut h 4 ha) (fun j=>hg _) (by omega)
 rw[mH]at this
 exact this
theorem Ce.aP {w:World}{b:Nat}{l:List Value}(h:Ce w b l):Ce w.drew b l:=h
set_option maxRecDepth 100000 in
set_option maxHeartbeats 8000000 in
theorem g8 (A:Option Addr)(n c:Nat)(g:Nat→Int)(w:World)(h:By w A n g)(hg:az g)(hc:n≤c)(hb:n≤1000000) :
 Calls Tryz.prog 25 #[.slice A n c] w (Parsed w g n):=by
 have hz:∀w:World,(zeroValue 45).run Tryz.prog w =.ok (.agg #[(),(),(),(),(),(),(),(),(),false,(),.slice none 0 0,.slice none 0 0]) w:=fun w=>by kernel_rfl
 obtain ⟨he,r_⟩:∃z,z=bT g n:=⟨_,rfl⟩
 have HH:=hid (fun w (h:By w A n g)=>cq (zJ A n c g w h hg hc hb) r_.symm)
 by_cases h0:he=0
 ·subst h0
  have hh:=pU r_.symm
  obtain ⟨be,hbe⟩:∃z,z=cg g n:=⟨_,rfl⟩
  have HB:=hid (fun w (h:By w A n g)=>cq (yh A n c g w h hg hh.1 hb) hbe.symm)
  have hE:aB g n=be:=by unfold aB;rw[if_pos r_.symm,hbe]
  by_cases b0:be=0
  ·subst b0
   have HE:=hid hE
   have hn16:=hh.1
   have hgb:=pZ hbe.symm hh.2.1
   have CR:=(Ce.made (w:=w) (l:=[(),(),(),(),(),(),(),(),(),false,(),.slice none 0 0,.slice none 0 0]) (T:=45) rfl)
   have B1:=(Below.refl w.heap.size w).alloc (Nat.le_refl _) (.cells #[(),(),(),(),(),(),(),(),(),false,(),.slice none 0 0,.slice none 0 0] 45)
   have FY:Hid (au g n=ez g n):=hid (by unfold au;rw[hE,if_pos rfl])
   replace CR:=hid CR
   replace B1:=hid B1
   have h1:=hid (h.below B1.out (Nat.le_refl _))
   have HG:=hid hg
   have F9:=hid hgb
   have lh:=hid h
   clear r_ hbe hh hE h hg hgb
   go_enter Tryz.func25,Tryz.ntmps25
   go_wp2_with fail
   refine(HH.out _ h1.out).mono ?_
   rintro x w' ⟨rfl,m,rfl⟩
   go_wp2_with fail
   refine(HB.out _ (Sl.drewN h1.out m)).mono ?_
   rintro x w' ⟨rfl,rfl⟩
   go_upto_region 7 with (fail)
   have eu:=hid (Ce.below CR.out (below_drewN (Below.refl _ _) m))
   have B2:=hid (below_drewN B1.out m)
   have h2:=hid (Sl.drewN h1.out m)
   have iz:=eu.out.1
   clear CR B1 h1 HH HB
   simp only[List.toArray]at eu
   generalize (w.alloc (.cells #[(),(),(),(),(),(),(),(),(),false,(),.slice none 0 0,.slice none 0 0] 45)).drewN m=w1 at *
   obtain ⟨b,off,rfl,hblt,hcell⟩:=h2.out (by omega)
   have hbw:b<w.heap.size:=Sl.lt lh.out (by omega)
   have c0:=hcell 0 (by omega)
   have c1:=hcell 1 (by omega)
   have c12:=hcell 12 (by omega)
   rw[Nat.add_zero]at c0
   have uy:=HG.out 0
   have mc:=HG.out 1
   have oE:=HG.out 12
   obtain ⟨Mr,Mq⟩:=uy
   obtain ⟨zV,zU⟩:=mc
   obtain ⟨vv,vu⟩:=oE
   have i1:(12:Int)<n:=by omega
   have i2:(1:Int)<n:=by omega
   have i3:(0:Int)<n:=by omega
   have j3:0<n:=by omega
   have v0:IntKind.i64.wrap (g 0)=g 0:=IntWalk.i64_in _ (by omega)
   have v1:IntKind.i64.wrap (g 1)=g 1:=IntWalk.i64_in _ (by omega)
   have v2:IntKind.i64.wrap (g 12)=g 12:=IntWalk.i64_in _ (by omega)
   have j2:1<n:=by omega
   have j1:12<n:=by omega
   have i4:(8:Int)≤c:=by omega
   have i5:(12:Int)≤c:=by omega
   have k4:¬c=4:=by omega
   have k8:¬c=8:=by omega
   clear hcell c0 c1 c12
   go_cut [6] from 20 (fun p wx=>∃L:Nat,p =.pointer (some ⟨L,0,none⟩)∧w.heap.size<L∧Ce wx L [(g 0),(g 1),(g 12),(num g 4 4),(num g 8 4),(),(),(),(),false,(),.slice none 0 0,.slice none 0 0]∧By wx (some ⟨b,off,none⟩) n g∧Ce wx w.heap.size [(),(),(),(),(),(),(),(),(),false,(),.slice none 0 0,.slice none 0 0]∧Below w.heap.size w wx)
   case first=>
    refine wp_region_held_drew (S:=fun w'=>By w' (some ⟨b,off,none⟩) n g∧Ce w' w.heap.size [(),(),(),(),(),(),(),(),(),false,(),.slice none 0 0,.slice none 0 0]∧Below w.heap.size w w') (by kernel_rfl) ?_ (fun hHeld=>?_)
    ·exact⟨h2.out.drew,eu.out,below_drewN B2.out 1⟩
    refine ae 0 (by assumption) ?_
    refine ae 1 (by assumption) ?_
    refine ae 2 (by assumption) ?_ (hy:=by intro w hSw;(try dsimp only at hSw);obtain ⟨hA,hC,hB⟩:=hSw;have z0:=hA.at_ (j:=0) (by omega);have z1:=hA.at_ (j:=1) (by omega);have z12:=hA.at_ (j:=12) (by omega);rw[Nat.add_zero]at z0;go_simp;(try with_reducible rfl))
    refine ae 3 (by assumption) ?_
    refine ae 4 (by assumption) ?_
    refine ae 5 (by assumption) ?_
    refine ae 6 (by assumption) ?_ (hy:=by intro w hSw;(try dsimp only at hSw);obtain ⟨hA,hC,hB⟩:=hSw;have z0:=hA.at_ (j:=0) (by omega);have z1:=hA.at_ (j:=1) (by omega);have z12:=hA.at_ (j:=12) (by omega);rw[Nat.add_zero]at z0;go_simp;(try with_reducible rfl))
    refine ae 7 (by assumption) ?_
    refine ae 8 (by assumption) ?_
    refine ae 9 (by assumption) ?_
    refine ae 10 (by assumption) ?_ (hy:=by intro w hSw;(try dsimp only at hSw);obtain ⟨hA,hC,hB⟩:=hSw;have z0:=hA.at_ (j:=0) (by omega);have z1:=hA.at_ (j:=1) (by omega);have z12:=hA.at_ (j:=12) (by omega);rw[Nat.add_zero]at z0;go_simp;(try with_reducible rfl))
    refine ae 11 (by assumption) ?_
    refine ae 12 (by assumption) ?_
    refine ae 13 (by assumption) ?_
    refine ae 15 (by assumption) ?_
    refine ae 16 (by assumption) ?_
    refine dO 14 19 rfl rfl (by kernel_rfl) rfl rfl (fun K hK=>?_) (fun K hK=>?_)
    ·go_simp
     refine(mI hHeld.1 HG.out 4 (by omega) _).mono ?_
     rintro e' w' ⟨rfl,rfl⟩
     try go_wp2_with fail
     refine hK.out _ _ hHeld (fun _=>?_)
     clear hK
     try simp only[Act.put,zA,zB,zC]
     refine dO 17 19 rfl rfl (by kernel_rfl) rfl rfl (fun K hK=>?_) (fun K hK=>?_)
     ·go_simp
      refine(mI hHeld.1 HG.out 8 (by omega) _).mono ?_
      rintro e' w' ⟨rfl,rfl⟩
      try go_wp2_with fail
      refine hK.out _ _ hHeld (fun _=>?_)
      clear hK
      try simp only[Act.put,zA,zB,zC]
      refine ae 18 (by assumption) ?_
      refine only 19 rfl (by kernel_rfl) rfl (fun K hK=>?_)
      go_simp
      refine hK.out _ _ ⟨hHeld.1.alloc _,hHeld.2.1.alloc _,hHeld.2.2.alloc hHeld.2.2.size _⟩ (fun bV=>?_)
      clear hK
      try simp only[Act.put,zA,zB,zC]
      refine only 20 rfl (by kernel_rfl) rfl (fun K hK=>?_)
      go_simp
      refine hK.out _ _ ⟨hHeld.1.alloc _,hHeld.2.1.alloc _,hHeld.2.2.alloc hHeld.2.2.size _⟩ (fun _=>?_)
      clear hK
      try simp only[Act.put,zA,zB,zC]
      refine wpAnyH_done (by kernel_rfl) ?_ _
      go_wp2_with fail
      go_meet
      exact⟨_,rfl,iz,(Ce.made (w:=w1) (l:=[(g 0),(g 1),(g 12),(num g 4 4),(num g 8 4),(),(),(),(),false,(),.slice none 0 0,.slice none 0 0]) rfl).aP,(h2.out.alloc _).drew,(eu.out.alloc _).aP,(B2.out.alloc B2.out.size _).drew⟩
     go_simp
     refine hK.out _ _ ⟨hHeld.1.alloc _,hHeld.2.1.alloc _,hHeld.2.2.alloc hHeld.2.2.size _⟩ (fun bV=>?_)
     clear hK
     try simp only[Act.put,zA,zB,zC]
     refine only 17 rfl (by kernel_rfl) rfl (fun K hK=>?_)
     go_simp
     refine(mI bV.1 HG.out 8 (by omega) _).mono ?_
     rintro e' w' ⟨rfl,rfl⟩
     try go_wp2_with fail
     refine hK.out _ _ bV (fun _=>?_)
     clear hK
     try simp only[Act.put,zA,zB,zC]
     refine ae 18 (by assumption) ?_
     refine only 20 rfl (by kernel_rfl) rfl (fun K hK=>?_)
     go_simp
     refine hK.out _ _ ⟨hHeld.1.alloc _,hHeld.2.1.alloc _,hHeld.2.2.alloc hHeld.2.2.size _⟩ (fun _=>?_)
     clear hK
     try simp only[Act.put,zA,zB,zC]
     refine wpAnyH_done (by kernel_rfl) ?_ _
     go_wp2_with fail
     go_meet
     exact⟨_,rfl,iz,(Ce.made (w:=w1) (l:=[(g 0),(g 1),(g 12),(num g 4 4),(num g 8 4),(),(),(),(),false,(),.slice none 0 0,.slice none 0 0]) rfl).aP,(h2.out.alloc _).drew,(eu.out.alloc _).aP,(B2.out.alloc B2.out.size _).drew⟩
    go_simp
    refine hK.out _ _ ⟨hHeld.1.alloc _,hHeld.2.1.alloc _,hHeld.2.2.alloc hHeld.2.2.size _⟩ (fun bV=>?_)
    clear hK
    try simp only[Act.put,zA,zB,zC]
    refine only 14 rfl (by kernel_rfl) rfl (fun K hK=>?_)
    go_simp
    refine(mI bV.1 HG.out 4 (by omega) _).mono ?_
    rintro e' w' ⟨rfl,rfl⟩
    try go_wp2_with fail
    refine hK.out _ _ bV (fun _=>?_)
    clear hK
    try simp only[Act.put,zA,zB,zC]
    refine only 17 rfl (by kernel_rfl) rfl (fun K hK=>?_)
    go_simp
    refine(mI bV.1 HG.out 8 (by omega) _).mono ?_
    rintro e' w' ⟨rfl,rfl⟩
    try go_wp2_with fail
    refine hK.out _ _ bV (fun _=>?_)
    clear hK
    try simp only[Act.put,zA,zB,zC]
    refine ae 18 (by assumption) ?_
    refine only 20 rfl (by kernel_rfl) rfl (fun K hK=>?_)
    go_simp
    refine hK.out _ _ ⟨hHeld.1.alloc _,hHeld.2.1.alloc _,hHeld.2.2.alloc hHeld.2.2.size _⟩ (fun _=>?_)
    clear hK
    try simp only[Act.put,zA,zB,zC]
    refine wpAnyH_done (by kernel_rfl) ?_ _
    go_wp2_with fail
    go_meet
    exact⟨_,rfl,iz,(Ce.made (w:=w1) (l:=[(g 0),(g 1),(g 12),(num g 4 4),(num g 8 4),(),(),(),(),false,(),.slice none 0 0,.slice none 0 0]) rfl).aP,(h2.out.alloc _).drew,(eu.out.alloc _).aP,(B2.out.alloc B2.out.size _).drew⟩
   obtain ⟨L,rfl,hL,aT,hA,eo,hB⟩:=hcut
   replace aT:=hid aT
   replace eo:=hid eo
   replace hA:=hid hA
   replace hB:=hid hB
   have dG:L≠w.heap.size:=Nat.ne_of_gt hL
   have FX:w.heap.size≠L:=Nat.ne_of_lt hL
   have hBlt:b≠L:=by omega
   have ET:b≠w.heap.size:=by omega
   clear eu B2 h2 iz lh
   rcases F9.out.2 with ⟨k3,Mj⟩ |k2 |⟨k1,k20,k21,k24⟩
   ·have q0:(g 0==3)=true:=by simpa using k3
    have tc:Hid (au g n ={ kind:=g 0,life:=g 1,piece:=g 12,src:=num g 4 4,dst:=num g 8 4,code:=g 16,nd:=n-20,gd:=fun j=>g (20+j) }):=hid (by rw[FY.out];unfold ez;rw[if_pos k3])
    clear k3
    have zW:=HG.out 16
    obtain ⟨GY,GX⟩:=zW
    have c16:=hA.out.at_ (j:=16) (by omega)
    have i16:(16:Int)<n:=by omega
    have i20:(20:Int)≤n:=by omega
    have k20:¬c=20:=by omega
    have y0:=aT.out.2.1 0 _ rfl
    have y1:=aT.out.2.1 1 _ rfl
    have y2:=aT.out.2.1 2 _ rfl
    have y3:=aT.out.2.1 3 _ rfl
    have y4:=aT.out.2.1 4 _ rfl
    have y5:=aT.out.2.1 5 _ rfl
    have y6:=aT.out.2.1 6 _ rfl
    have y7:=aT.out.2.1 7 _ rfl
    have y8:=aT.out.2.1 8 _ rfl
    have y9:=aT.out.2.1 9 _ rfl
    have aj:=aT.out.2.1 10 _ rfl
    have ah:=aT.out.2.1 11 _ rfl
    have ag:=aT.out.2.1 12 _ rfl
    have yf:=aT.out.2.2
    have Gb:=fun v=>hid (aT.out.set 10 (.int .i64 v) (by simp))
    have Ga:=fun v=>hid (eo.out.grown (gs 10 (.int .i64 v) (World.grownBy.refl wc (some L))) (fun e=>dG (by injection e)))
    have HA2:=fun v=>hid (bz hA.out (gs 10 (.int .i64 v) (World.grownBy.refl wc (some L))) hBlt)
    go_wp2_with fail
    refine(fK _ (n-20) _ (fun j=>g (20+j)) _ (Sl.cut (HA2 (g 16)).out (n-20) (by omega)) (by omega)).mono ?_
    rintro x w2 ⟨G,rfl,hG,hO,hb⟩
    have hG2:wc.heap.size≤G:=by simpa using hG
    have pj:=aT.out.1
    have gZ:=hid ((Gb (g 16)).out.below hb)
    have gH:=hid ((Ga (g 16)).out.below hb)
    have HB3:=hid (then_ (hB.out.setCell (p:=⟨L,10,none⟩) (Nat.le_of_lt hL) (.int .i64 (g 16))) hb)
    have td:=hid (OB.base hO (show wc.heap.size≤_ by simp))
    clear Gb Ga HA2 hb hO hG c16
    clear y0 y1 y2 y3 y4 y5 y6 y7 y8 y9 aj ah ag yf
    have y0:=gZ.out.2.1 0 _ rfl
    have y1:=gZ.out.2.1 1 _ rfl
    have y2:=gZ.out.2.1 2 _ rfl
    have y3:=gZ.out.2.1 3 _ rfl
    have y4:=gZ.out.2.1 4 _ rfl
    have y5:=gZ.out.2.1 5 _ rfl
    have y6:=gZ.out.2.1 6 _ rfl
    have y7:=gZ.out.2.1 7 _ rfl
    have y8:=gZ.out.2.1 8 _ rfl
    have y9:=gZ.out.2.1 9 _ rfl
    have aj:=gZ.out.2.1 10 _ rfl
    have ah:=gZ.out.2.1 11 _ rfl
    have ag:=gZ.out.2.1 12 _ rfl
    have yf:=gZ.out.2.2
    have z0:=gH.out.2.1 0 _ rfl
    have z1:=gH.out.2.1 1 _ rfl
    have z2:=gH.out.2.1 2 _ rfl
    have z3:=gH.out.2.1 3 _ rfl
    have z4:=gH.out.2.1 4 _ rfl
    have z5:=gH.out.2.1 5 _ rfl
    have z6:=gH.out.2.1 6 _ rfl
    have z7:=gH.out.2.1 7 _ rfl
    have z8:=gH.out.2.1 8 _ rfl
    have z9:=gH.out.2.1 9 _ rfl
    have je:=gH.out.2.1 10 _ rfl
    have jd:=gH.out.2.1 11 _ rfl
    have z12:=gH.out.2.1 12 _ rfl
    have zf:=gH.out.2.2
    have yl:=gZ.out.1
    have zl:=gH.out.1
    go_wp2_with fail
    have CE:=(gH.out.grown (gs 12 (.slice (some ⟨G,0,none⟩) (n-20) (n-20)) (World.grownBy.refl w2 (some L))) (fun e=>dG (by injection e))).s13 (.int .i64 (g 0)) (.int .i64 (g 1)) (.int .i64 (g 12)) (.int .i64 (num g 4 4)) (.int .i64 (num g 8 4)) (.int .i64 0) (.int .i64 0) (.int .i64 0) (.int .i64 0) (.bool false) (.int .i64 (g 16)) (.slice none 0 0) (.slice (some ⟨G,0,none⟩) (n-20) (n-20))
    have BE:=cF (b:=w.heap.size) (HB3.out.setCell (p:=⟨L,12,none⟩) (Nat.le_of_lt hL) (.slice (some ⟨G,0,none⟩) (n-20) (n-20))) (Nat.le_refl _) (.int .i64 (g 0)) (.int .i64 (g 1)) (.int .i64 (g 12)) (.int .i64 (num g 4 4)) (.int .i64 (num g 8 4)) (.int .i64 0) (.int .i64 0) (.int .i64 0) (.int .i64 0) (.bool false) (.int .i64 (g 16)) (.slice none 0 0) (.slice (some ⟨G,0,none⟩) (n-20) (n-20))
    have cn:=OB.grown (OB.grown td.out (gs 12 (.slice (some ⟨G,0,none⟩) (n-20) (n-20)) (World.grownBy.refl w2 (some L))) (OB.ne td.out pj)) (aJ _ w.heap.size (.int .i64 (g 0)) (.int .i64 (g 1)) (.int .i64 (g 12)) (.int .i64 (num g 4 4)) (.int .i64 (num g 8 4)) (.int .i64 0) (.int .i64 0) (.int .i64 0) (.int .i64 0) (.bool false) (.int .i64 (g 16)) (.slice none 0 0) (.slice (some ⟨G,0,none⟩) (n-20) (n-20))) (OB.ne (OB.grown td.out (gs 12 (.slice (some ⟨G,0,none⟩) (n-20) (n-20)) (World.grownBy.refl w2 (some L))) (OB.ne td.out pj)) (by omega))
    unfold cG at CE BE cn
    replace CE:=hid CE
    replace BE:=hid BE
    replace cn:=hid cn
    refine b5 (fun w'=>Ce w' w.heap.size [(g 0),(g 1),(g 12),(num g 4 4),(num g 8 4),(),(),(),(),false,(g 16),.slice none 0 0,.slice (some ⟨G,0,none⟩) (n-20) (n-20)]∧Below w.heap.size w w'∧OB w' wc.heap.size (.slice (some ⟨G,0,none⟩) (n-20) (n-20)) (n-20) (fun j=>g (20+j))) ⟨CE.out,BE.out,cn.out⟩ (fun wf hwf=>?_)
    obtain ⟨hc2,hbf,ho0⟩:=hwf
    have y0:=hc2.2.1 0 _ rfl
    have y1:=hc2.2.1 1 _ rfl
    have y2:=hc2.2.1 2 _ rfl
    have y3:=hc2.2.1 3 _ rfl
    have y4:=hc2.2.1 4 _ rfl
    have y5:=hc2.2.1 5 _ rfl
    have y6:=hc2.2.1 6 _ rfl
    have y7:=hc2.2.1 7 _ rfl
    have y8:=hc2.2.1 8 _ rfl
    have y9:=hc2.2.1 9 _ rfl
    have aj:=hc2.2.1 10 _ rfl
    have ah:=hc2.2.1 11 _ rfl
    have ag:=hc2.2.1 12 _ rfl
    refine bodyPost_ret (v:=.tuple #[.agg #[(g 0),(g 1),(g 12),(num g 4 4),(num g 8 4),(),(),(),(),false,(g 16),.slice none 0 0,.slice (some ⟨G,0,none⟩) (n-20) (n-20)],()]) (by simp[results,Tryz.results25,go_sem,y0,y1,y2,y3,y4,y5,y6,y7,y8,y9,aj,ah,ag]) rfl ?_
    refine⟨.slice none 0 0,(.slice (some ⟨G,0,none⟩) (n-20) (n-20)),by rw[tc.out,HE.out];rfl,by rw[tc.out];exact OB.nil,by rw[tc.out];exact OB.base ho0 (by omega),hbf⟩
   ·have q0:(g 0==3)=false:=by rw[k2];rfl
    have q1:(g 0==2)=true:=by simpa using k2
    have ik:Hid (au g n ={ kind:=g 0,life:=g 1,piece:=g 12,src:=num g 4 4,dst:=num g 8 4,fp:=num g 16 2,tp:=num g 18 2,label:=num g 20 2,bare:=num g 22 2==0,nd:=n-24,gd:=fun j=>g (24+j) }):=hid (by rw[FY.out];unfold ez;rw[if_neg (by omega),if_pos k2])
    have LY:Hid (dz g=(num g 22 2==0)):=hid (by unfold dz;rw[show (g 0==2)=true from by simpa using k2,Bool.true_and])
    have n24:=F9.out.1
    clear k2
    obtain ⟨A9,r1,r2⟩:=dU (some ⟨b,off,none⟩) n c 24 n24 hc 24 rfl
    replace r2:=hid r2
    have PP:=hid (fun (w':World) (hw:By w' (some ⟨b,off,none⟩) n g) (a:Nat) (ha:a+2≤n)=>Aw hw HG.out a ha hc hb)
    have i24:(24:Int)≤n:=by omega
    have y0:=aT.out.2.1 0 _ rfl
    have y1:=aT.out.2.1 1 _ rfl
    have y2:=aT.out.2.1 2 _ rfl
    have y3:=aT.out.2.1 3 _ rfl
    have y4:=aT.out.2.1 4 _ rfl
    have y5:=aT.out.2.1 5 _ rfl
    have y6:=aT.out.2.1 6 _ rfl
    have y7:=aT.out.2.1 7 _ rfl
    have y8:=aT.out.2.1 8 _ rfl
    have y9:=aT.out.2.1 9 _ rfl
    have aj:=aT.out.2.1 10 _ rfl
    have ah:=aT.out.2.1 11 _ rfl
    have ag:=aT.out.2.1 12 _ rfl
    have yf:=aT.out.2.2
    have yl:=aT.out.1
    go_wp2_with fail
    refine(PP.out _ hA.out 16 (by omega)).mono ?_
    rintro x w' ⟨rfl,rfl⟩
    go_wp2_with fail
    refine(PP.out _ hA.out 18 (by omega)).mono ?_
    rintro x w' ⟨rfl,rfl⟩
    have C2:=hid (((aT.out).set 5 (.int .i64 (num g 16 2)) (by simp)).set 6 (.int .i64 (num g 18 2)) (by simp))
    have R2:=hid (eo.out.grown (gs 6 (.int .i64 (num g 18 2)) (gs 5 (.int .i64 (num g 16 2)) (World.grownBy.refl wc (some L)))) (fun e=>dG (by injection e)))
    have A2:=hid (bz hA.out (gs 6 (.int .i64 (num g 18 2)) (gs 5 (.int .i64 (num g 16 2)) (World.grownBy.refl wc (some L)))) hBlt)
    have D2:=hid (((hB.out).setCell (p:=⟨L,5,none⟩) (Nat.le_of_lt hL) (.int .i64 (num g 16 2))).setCell (p:=⟨L,6,none⟩) (Nat.le_of_lt hL) (.int .i64 (num g 18 2)))
    have l2:=C2.out.1
    go_wp2_with fail
    refine(PP.out _ A2.out 20 (by omega)).mono ?_
    rintro x w' ⟨rfl,rfl⟩
    go_wp2_with fail
    refine(fY (lI _ n c g _ A2.out HG.out (by omega) (.inr n24) hc hb) LY.out).mono ?_
    rintro x w' ⟨rfl,rfl⟩
    have C3:=hid (((C2.out).set 8 (.int .i64 (num g 20 2)) (by simp)).set 9 (.bool (num g 22 2==0)) (by simp))
    have R3:=hid (R2.out.grown (gs 9 (.bool (num g 22 2==0)) (gs 8 (.int .i64 (num g 20 2)) (World.grownBy.refl ((wc.setCell ⟨L,5,none⟩ (.int .i64 (num g 16 2))).setCell ⟨L,6,none⟩ (.int .i64 (num g 18 2))) (some L)))) (fun e=>dG (by injection e)))
    have A3:=hid (bz A2.out (gs 9 (.bool (num g 22 2==0)) (gs 8 (.int .i64 (num g 20 2)) (World.grownBy.refl ((wc.setCell ⟨L,5,none⟩ (.int .i64 (num g 16 2))).setCell ⟨L,6,none⟩ (.int .i64 (num g 18 2))) (some L)))) hBlt)
    have D3:=hid (((D2.out).setCell (p:=⟨L,8,none⟩) (Nat.le_of_lt hL) (.int .i64 (num g 20 2))).setCell (p:=⟨L,9,none⟩) (Nat.le_of_lt hL) (.bool (num g 22 2==0)))
    go_wp2_with fail
    refine(fK _ (n-24) _ (fun j=>g (24+j)) _ (r2.out _ g A3.out) (by omega)).mono ?_
    rintro x w4 ⟨G,rfl,hG,hO,AU⟩
    have hG2:wc.heap.size≤G:=by simpa using hG
    have pj:=aT.out.1
    have C4:=hid (C3.out.below AU)
    have R4:=hid (R3.out.below AU)
    have D4:=hid (then_ D3.out AU)
    have O4:=hid (OB.base hO (show wc.heap.size≤_ by simp))
    clear C2 R2 A2 D2 C3 R3 A3 D3 AU hO hG PP
    clear y0 y1 y2 y3 y4 y5 y6 y7 y8 y9 aj ah ag yf
    have y0:=C4.out.2.1 0 _ rfl
    have y1:=C4.out.2.1 1 _ rfl
    have y2:=C4.out.2.1 2 _ rfl
    have y3:=C4.out.2.1 3 _ rfl
    have y4:=C4.out.2.1 4 _ rfl
    have y5:=C4.out.2.1 5 _ rfl
    have y6:=C4.out.2.1 6 _ rfl
    have y7:=C4.out.2.1 7 _ rfl
    have y8:=C4.out.2.1 8 _ rfl
    have y9:=C4.out.2.1 9 _ rfl
    have aj:=C4.out.2.1 10 _ rfl
    have ah:=C4.out.2.1 11 _ rfl
    have ag:=C4.out.2.1 12 _ rfl
    have yf:=C4.out.2.2
    have z0:=R4.out.2.1 0 _ rfl
    have z1:=R4.out.2.1 1 _ rfl
    have z2:=R4.out.2.1 2 _ rfl
    have z3:=R4.out.2.1 3 _ rfl
    have z4:=R4.out.2.1 4 _ rfl
    have z5:=R4.out.2.1 5 _ rfl
    have z6:=R4.out.2.1 6 _ rfl
    have z7:=R4.out.2.1 7 _ rfl
    have z8:=R4.out.2.1 8 _ rfl
    have z9:=R4.out.2.1 9 _ rfl
    have je:=R4.out.2.1 10 _ rfl
    have jd:=R4.out.2.1 11 _ rfl
    have z12:=R4.out.2.1 12 _ rfl
    have zf:=R4.out.2.2
    have J0:=C4.out.1
    have zl:=R4.out.1
    go_wp2_with fail
    have CE:=(R4.out.grown (gs 12 (.slice (some ⟨G,0,none⟩) (n-24) (n-24)) (World.grownBy.refl w4 (some L))) (fun e=>dG (by injection e))).s13 (.int .i64 (g 0)) (.int .i64 (g 1)) (.int .i64 (g 12)) (.int .i64 (num g 4 4)) (.int .i64 (num g 8 4)) (.int .i64 (num g 16 2)) (.int .i64 (num g 18 2)) (.int .i64 0) (.int .i64 (num g 20 2)) (.bool (num g 22 2==0)) (.int .i64 0) (.slice none 0 0) (.slice (some ⟨G,0,none⟩) (n-24) (n-24))
    have BE:=cF (b:=w.heap.size) (D4.out.setCell (p:=⟨L,12,none⟩) (Nat.le_of_lt hL) (.slice (some ⟨G,0,none⟩) (n-24) (n-24))) (Nat.le_refl _) (.int .i64 (g 0)) (.int .i64 (g 1)) (.int .i64 (g 12)) (.int .i64 (num g 4 4)) (.int .i64 (num g 8 4)) (.int .i64 (num g 16 2)) (.int .i64 (num g 18 2)) (.int .i64 0) (.int .i64 (num g 20 2)) (.bool (num g 22 2==0)) (.int .i64 0) (.slice none 0 0) (.slice (some ⟨G,0,none⟩) (n-24) (n-24))
    have cn:=OB.grown (OB.grown O4.out (gs 12 (.slice (some ⟨G,0,none⟩) (n-24) (n-24)) (World.grownBy.refl w4 (some L))) (OB.ne O4.out pj)) (aJ _ w.heap.size (.int .i64 (g 0)) (.int .i64 (g 1)) (.int .i64 (g 12)) (.int .i64 (num g 4 4)) (.int .i64 (num g 8 4)) (.int .i64 (num g 16 2)) (.int .i64 (num g 18 2)) (.int .i64 0) (.int .i64 (num g 20 2)) (.bool (num g 22 2==0)) (.int .i64 0) (.slice none 0 0) (.slice (some ⟨G,0,none⟩) (n-24) (n-24))) (OB.ne (OB.grown O4.out (gs 12 (.slice (some ⟨G,0,none⟩) (n-24) (n-24)) (World.grownBy.refl w4 (some L))) (OB.ne O4.out pj)) (by omega))
    unfold cG at CE BE cn
    replace CE:=hid CE
    replace BE:=hid BE
    replace cn:=hid cn
    refine b5 (fun w'=>Ce w' w.heap.size [(g 0),(g 1),(g 12),(num g 4 4),(num g 8 4),(num g 16 2),(num g 18 2),(),(num g 20 2),.bool (num g 22 2==0),(),.slice none 0 0,.slice (some ⟨G,0,none⟩) (n-24) (n-24)]∧Below w.heap.size w w'∧OB w' wc.heap.size (.slice (some ⟨G,0,none⟩) (n-24) (n-24)) (n-24) (fun j=>g (24+j))) ⟨CE.out,BE.out,cn.out⟩ (fun wf hwf=>?_)
    obtain ⟨hc2,hbf,ho0⟩:=hwf
    have y0:=hc2.2.1 0 _ rfl
    have y1:=hc2.2.1 1 _ rfl
    have y2:=hc2.2.1 2 _ rfl
    have y3:=hc2.2.1 3 _ rfl
    have y4:=hc2.2.1 4 _ rfl
    have y5:=hc2.2.1 5 _ rfl
    have y6:=hc2.2.1 6 _ rfl
    have y7:=hc2.2.1 7 _ rfl
    have y8:=hc2.2.1 8 _ rfl
    have y9:=hc2.2.1 9 _ rfl
    have aj:=hc2.2.1 10 _ rfl
    have ah:=hc2.2.1 11 _ rfl
    have ag:=hc2.2.1 12 _ rfl
    refine bodyPost_ret (v:=.tuple #[.agg #[(g 0),(g 1),(g 12),(num g 4 4),(num g 8 4),(num g 16 2),(num g 18 2),(),(num g 20 2),.bool (num g 22 2==0),(),.slice none 0 0,.slice (some ⟨G,0,none⟩) (n-24) (n-24)],()]) (by simp[results,Tryz.results25,go_sem,y0,y1,y2,y3,y4,y5,y6,y7,y8,y9,aj,ah,ag]) rfl ?_
    refine⟨.slice none 0 0,(.slice (some ⟨G,0,none⟩) (n-24) (n-24)),by rw[ik.out,HE.out];rfl,by rw[ik.out];exact OB.nil,by rw[ik.out];exact OB.base ho0 (by omega),hbf⟩
   have q0:(g 0==3)=false:=by rw[k1];rfl
   have q1:(g 0==2)=false:=by rw[k1];rfl
   have kf:Hid (au g n ={ kind:=g 0,life:=g 1,piece:=g 12,src:=num g 4 4,dst:=num g 8 4,fp:=num g 16 2,tp:=num g 18 2,flags:=g 20,no:=(g 21).toNat,go:=fun j=>g (24+j),nd:=n-24-(g 21).toNat,gd:=fun j=>g (24+(g 21).toNat+j) }):=hid (by rw[FY.out];unfold ez;rw[if_neg (by omega),if_neg (by omega)])
   clear k1
   have n24:=F9.out.1
   have sk:=HG.out 21
   have zT:=HG.out 20
   obtain ⟨GV,GU⟩:=zT
   obtain ⟨q,hq⟩:∃q:Nat,g 21=(q:Int):=⟨(g 21).toNat,by omega⟩
   rw[hq]at sk k21 k24
   obtain ⟨GR,GQ⟩:=sk
   have c21:=hA.out.at_ (j:=21) (by omega)
   rw[hq]at c21
   have HQ:Hid ((g 21).toNat=q):=hid (by omega)
   rw[HQ.out]at kf
   have s_:=hid hq
   clear hq
   have i21:(21:Int)<n:=by omega
   have i20:(20:Int)<n:=by omega
   have PP:=hid (fun (w':World) (hw:By w' (some ⟨b,off,none⟩) n g) (a:Nat) (ha:a+2≤n)=>Aw hw HG.out a ha hc hb)
   have i24:(24:Int)≤n:=by omega
   have y0:=aT.out.2.1 0 _ rfl
   have y1:=aT.out.2.1 1 _ rfl
   have y2:=aT.out.2.1 2 _ rfl
   have y3:=aT.out.2.1 3 _ rfl
   have y4:=aT.out.2.1 4 _ rfl
   have y5:=aT.out.2.1 5 _ rfl
   have y6:=aT.out.2.1 6 _ rfl
   have y7:=aT.out.2.1 7 _ rfl
   have y8:=aT.out.2.1 8 _ rfl
   have y9:=aT.out.2.1 9 _ rfl
   have aj:=aT.out.2.1 10 _ rfl
   have ah:=aT.out.2.1 11 _ rfl
   have ag:=aT.out.2.1 12 _ rfl
   have yf:=aT.out.2.2
   have yl:=aT.out.1
   go_wp2_with fail
   refine(PP.out _ hA.out 16 (by omega)).mono ?_
   rintro x w' ⟨rfl,rfl⟩
   go_wp2_with fail
   refine(PP.out _ hA.out 18 (by omega)).mono ?_
   rintro x w' ⟨rfl,rfl⟩
   have C2:=hid (((aT.out).set 5 (.int .i64 (num g 16 2)) (by simp)).set 6 (.int .i64 (num g 18 2)) (by simp))
   have R2:=hid (eo.out.grown (gs 6 (.int .i64 (num g 18 2)) (gs 5 (.int .i64 (num g 16 2)) (World.grownBy.refl wc (some L)))) (fun e=>dG (by injection e)))
   have A2:=hid (bz hA.out (gs 6 (.int .i64 (num g 18 2)) (gs 5 (.int .i64 (num g 16 2)) (World.grownBy.refl wc (some L)))) hBlt)
   have D2:=hid (((hB.out).setCell (p:=⟨L,5,none⟩) (Nat.le_of_lt hL) (.int .i64 (num g 16 2))).setCell (p:=⟨L,6,none⟩) (Nat.le_of_lt hL) (.int .i64 (num g 18 2)))
   have l2:=C2.out.1
   have sI:=A2.out.at_ (j:=21) (by omega)
   rw[s_.out]at sI
   have c20:=A2.out.at_ (j:=20) (by omega)
   have C3:=hid ((C2.out).set 7 (.int .i64 (g 20)) (by simp))
   have R3:=hid (R2.out.grown (gs 7 (.int .i64 (g 20)) (World.grownBy.refl ((wc.setCell ⟨L,5,none⟩ (.int .i64 (num g 16 2))).setCell ⟨L,6,none⟩ (.int .i64 (num g 18 2))) (some L))) (fun e=>dG (by injection e)))
   have A3:=hid (bz A2.out (gs 7 (.int .i64 (g 20)) (World.grownBy.refl ((wc.setCell ⟨L,5,none⟩ (.int .i64 (num g 16 2))).setCell ⟨L,6,none⟩ (.int .i64 (num g 18 2))) (some L))) hBlt)
   have D3:=hid ((D2.out).setCell (p:=⟨L,7,none⟩) (Nat.le_of_lt hL) (.int .i64 (g 20)))
   have xF:24+q≤n:=by omega
   obtain ⟨A8,r1,r2⟩:=gp (some ⟨b,off,none⟩) n c 24 (24+q) (by omega) xF hc 24 (24+(q:Int)) rfl (by omega)
   rw[show 24+q-24=q from by omega]at r1 r2
   obtain ⟨A9,s1,s2⟩:=dU (some ⟨b,off,none⟩) n c (24+q) xF hc (24+(q:Int)) (by omega)
   rw[show n-(24+q)=n-24-q from by omega]at s1 s2
   replace r2:=hid r2
   replace s2:=hid s2
   have lw:=C3.out.1
   have pj:=aT.out.1
   go_upto_region 19 with (fail)
   clear c20 c21 sI y0 y1 y2 y3 y4 y5 y6 y7 y8 y9 aj ah ag yf yl PP C2 R2 A2 D2 aT eo hA hB
   have Nf:L<(((wc.setCell ⟨L,5,none⟩ (.int .i64 (num g 16 2))).setCell ⟨L,6,none⟩ (.int .i64 (num g 18 2))).setCell ⟨L,7,none⟩ (.int .i64 (g 20))).heap.size:=by simpa using pj
   generalize (((wc.setCell ⟨L,5,none⟩ (.int .i64 (num g 16 2))).setCell ⟨L,6,none⟩ (.int .i64 (num g 18 2))).setCell ⟨L,7,none⟩ (.int .i64 (g 20)))=wq at *
   refine wp_region_held_drew (S:=fun w'=>By w' (some ⟨b,off,none⟩) n g∧Ce w' w.heap.size [(),(),(),(),(),(),(),(),(),false,(),.slice none 0 0,.slice none 0 0]∧Below w.heap.size w w') (by kernel_rfl) ?_ (fun hHeld=>?_)
   ·exact⟨A3.out.drew,R3.out,below_drewN D3.out 1⟩
   refine ae 0 (by assumption) ?_
   refine ae 1 (by assumption) ?_
   refine ae 2 (by assumption) ?_
   refine ae 4 (by assumption) ?_
   refine ae 5 (by assumption) ?_
   refine ae 6 (by assumption) ?_
   refine only 3 rfl (by kernel_rfl) rfl (fun K hK=>?_)
   go_simp
   refine(fK _ q _ (fun j=>g (24+j)) _ (r2.out _ g hHeld.1) (by omega)).mono ?_
   rintro x w5 ⟨G1,rfl,Mp,EM,sg⟩
   try go_wp2_with fail
   have hH5:By w5 (some ⟨b,off,none⟩) n g∧Ce w5 w.heap.size [(),(),(),(),(),(),(),(),(),false,(),.slice none 0 0,.slice none 0 0]∧Below w.heap.size w w5:=⟨hHeld.1.below sg (Nat.le_refl _),hHeld.2.1.below sg,then_ hHeld.2.2 sg⟩
   refine hK.out _ _ hH5 (fun _=>?_)
   clear hK
   try simp only[Act.put,zA,zB,zC]
   refine ae 8 hH5 ?_
   refine only 7 rfl (by kernel_rfl) rfl (fun K hK=>?_)
   go_simp
   refine(fK _ (n-24-q) _ (fun j=>g (24+q+j)) _ (s2.out _ g hH5.1) (by omega)).mono ?_
   rintro x w6 ⟨G2,rfl,Mn,EL,sf⟩
   try go_wp2_with fail
   have hH6:By w6 (some ⟨b,off,none⟩) n g∧Ce w6 w.heap.size [(),(),(),(),(),(),(),(),(),false,(),.slice none 0 0,.slice none 0 0]∧Below w.heap.size w w6:=⟨hH5.1.below sf (Nat.le_refl _),hH5.2.1.below sf,then_ hH5.2.2 sf⟩
   refine hK.out _ _ hH6 (fun _=>?_)
   clear hK
   try simp only[Act.put,zA,zB,zC]
   have M8:wq.heap.size≤w5.heap.size:=by have:=sg.size;simpa using this
   have OO:=hid ((OB.base EM (show L+1≤_ by simp;omega)).lH sf)
   have OD:=hid (OB.base EL (show L+1≤w5.heap.size by omega))
   have C6:=hid ((C3.out.aP.below sg).below sf)
   have y0:=C6.out.2.1 0 _ rfl
   have y1:=C6.out.2.1 1 _ rfl
   have y2:=C6.out.2.1 2 _ rfl
   have y3:=C6.out.2.1 3 _ rfl
   have y4:=C6.out.2.1 4 _ rfl
   have y5:=C6.out.2.1 5 _ rfl
   have y6:=C6.out.2.1 6 _ rfl
   have y7:=C6.out.2.1 7 _ rfl
   have y8:=C6.out.2.1 8 _ rfl
   have y9:=C6.out.2.1 9 _ rfl
   have aj:=C6.out.2.1 10 _ rfl
   have ah:=C6.out.2.1 11 _ rfl
   have ag:=C6.out.2.1 12 _ rfl
   have yf:=C6.out.2.2
   have yl:=C6.out.1
   have jz:=hid hH6
   clear hHeld hH5 EM EL
   clear hH6
   refine only 9 rfl (by kernel_rfl) rfl (fun K hK=>?_)
   go_simp
   refine hK.out _ _ ⟨bz jz.out.1 (gs 11 (.slice (some ⟨G1,0,none⟩) q q) (World.grownBy.refl w6 (some L))) hBlt,jz.out.2.1.grown (gs 11 (.slice (some ⟨G1,0,none⟩) q q) (World.grownBy.refl w6 (some L))) (fun e=>dG (by injection e)),jz.out.2.2.setCell (p:=⟨L,11,none⟩) (Nat.le_of_lt hL) (.slice (some ⟨G1,0,none⟩) q q)⟩ (fun uv=>?_)
   clear hK
   try simp only[Act.put,zA,zB,zC]
   refine ae 10 uv ?_
   clear uv
   refine only 11 rfl (by kernel_rfl) rfl (fun K hK=>?_)
   go_simp
   refine hK.out _ _ ⟨bz jz.out.1 (gs 12 (.slice (some ⟨G2,0,none⟩) (n-24-q) (n-24-q)) (gs 11 (.slice (some ⟨G1,0,none⟩) q q) (World.grownBy.refl w6 (some L)))) hBlt,jz.out.2.1.grown (gs 12 (.slice (some ⟨G2,0,none⟩) (n-24-q) (n-24-q)) (gs 11 (.slice (some ⟨G1,0,none⟩) q q) (World.grownBy.refl w6 (some L)))) (fun e=>dG (by injection e)),(jz.out.2.2.setCell (p:=⟨L,11,none⟩) (Nat.le_of_lt hL) (.slice (some ⟨G1,0,none⟩) q q)).setCell (p:=⟨L,12,none⟩) (Nat.le_of_lt hL) (.slice (some ⟨G2,0,none⟩) (n-24-q) (n-24-q))⟩ (fun _=>?_)
   clear hK
   try simp only[Act.put,zA,zB,zC]
   refine wpAnyH_done (by kernel_rfl) ?_ _
   have C7:=hid ((C6.out.set 11 (.slice (some ⟨G1,0,none⟩) q q) (by simp)).set 12 (.slice (some ⟨G2,0,none⟩) (n-24-q) (n-24-q)) (by simp))
   have R7:=hid (jz.out.2.1.grown (gs 12 (.slice (some ⟨G2,0,none⟩) (n-24-q) (n-24-q)) (gs 11 (.slice (some ⟨G1,0,none⟩) q q) (World.grownBy.refl w6 (some L)))) (fun e=>dG (by injection e)))
   have D7:=hid ((jz.out.2.2.setCell (p:=⟨L,11,none⟩) (Nat.le_of_lt hL) (.slice (some ⟨G1,0,none⟩) q q)).setCell (p:=⟨L,12,none⟩) (Nat.le_of_lt hL) (.slice (some ⟨G2,0,none⟩) (n-24-q) (n-24-q)))
   have yo:=hid (OB.grown OO.out (gs 12 (.slice (some ⟨G2,0,none⟩) (n-24-q) (n-24-q)) (gs 11 (.slice (some ⟨G1,0,none⟩) q q) (World.grownBy.refl w6 (some L)))) (OB.ne OO.out (by omega)))
   have Iy:=hid (OB.grown OD.out (gs 12 (.slice (some ⟨G2,0,none⟩) (n-24-q) (n-24-q)) (gs 11 (.slice (some ⟨G1,0,none⟩) q q) (World.grownBy.refl w6 (some L)))) (OB.ne OD.out (by omega)))
   clear y0 y1 y2 y3 y4 y5 y6 y7 y8 y9 aj ah ag yf yl
   generalize (w6.setCell ⟨L,11,none⟩ (.slice (some ⟨G1,0,none⟩) q q)).setCell ⟨L,12,none⟩ (.slice (some ⟨G2,0,none⟩) (n-24-q) (n-24-q))=w7 at *
   have y0:=C7.out.2.1 0 _ rfl
   have y1:=C7.out.2.1 1 _ rfl
   have y2:=C7.out.2.1 2 _ rfl
   have y3:=C7.out.2.1 3 _ rfl
   have y4:=C7.out.2.1 4 _ rfl
   have y5:=C7.out.2.1 5 _ rfl
   have y6:=C7.out.2.1 6 _ rfl
   have y7:=C7.out.2.1 7 _ rfl
   have y8:=C7.out.2.1 8 _ rfl
   have y9:=C7.out.2.1 9 _ rfl
   have aj:=C7.out.2.1 10 _ rfl
   have ah:=C7.out.2.1 11 _ rfl
   have ag:=C7.out.2.1 12 _ rfl
   have yf:=C7.out.2.2
   have z0:=R7.out.2.1 0 _ rfl
   have z1:=R7.out.2.1 1 _ rfl
   have z2:=R7.out.2.1 2 _ rfl
   have z3:=R7.out.2.1 3 _ rfl
   have z4:=R7.out.2.1 4 _ rfl
   have z5:=R7.out.2.1 5 _ rfl
   have z6:=R7.out.2.1 6 _ rfl
   have z7:=R7.out.2.1 7 _ rfl
   have z8:=R7.out.2.1 8 _ rfl
   have z9:=R7.out.2.1 9 _ rfl
   have je:=R7.out.2.1 10 _ rfl
   have jd:=R7.out.2.1 11 _ rfl
   have z12:=R7.out.2.1 12 _ rfl
   have zf:=R7.out.2.2
   have yl:=C7.out.1
   have zl:=R7.out.1
   go_wp2_with fail
   have CE:=(R7.out).s13 (.int .i64 (g 0)) (.int .i64 (g 1)) (.int .i64 (g 12)) (.int .i64 (num g 4 4)) (.int .i64 (num g 8 4)) (.int .i64 (num g 16 2)) (.int .i64 (num g 18 2)) (.int .i64 (g 20)) (.int .i64 0) (.bool false) (.int .i64 0) (.slice (some ⟨G1,0,none⟩) q q) (.slice (some ⟨G2,0,none⟩) (n-24-q) (n-24-q))
   have BE:=cF (b:=w.heap.size) (D7.out) (Nat.le_refl _) (.int .i64 (g 0)) (.int .i64 (g 1)) (.int .i64 (g 12)) (.int .i64 (num g 4 4)) (.int .i64 (num g 8 4)) (.int .i64 (num g 16 2)) (.int .i64 (num g 18 2)) (.int .i64 (g 20)) (.int .i64 0) (.bool false) (.int .i64 0) (.slice (some ⟨G1,0,none⟩) q q) (.slice (some ⟨G2,0,none⟩) (n-24-q) (n-24-q))
   have cn:=OB.grown (yo.out) (aJ _ w.heap.size (.int .i64 (g 0)) (.int .i64 (g 1)) (.int .i64 (g 12)) (.int .i64 (num g 4 4)) (.int .i64 (num g 8 4)) (.int .i64 (num g 16 2)) (.int .i64 (num g 18 2)) (.int .i64 (g 20)) (.int .i64 0) (.bool false) (.int .i64 0) (.slice (some ⟨G1,0,none⟩) q q) (.slice (some ⟨G2,0,none⟩) (n-24-q) (n-24-q))) (OB.ne (yo.out) (by omega))
   have gi:=OB.grown (Iy.out) (aJ _ w.heap.size (.int .i64 (g 0)) (.int .i64 (g 1)) (.int .i64 (g 12)) (.int .i64 (num g 4 4)) (.int .i64 (num g 8 4)) (.int .i64 (num g 16 2)) (.int .i64 (num g 18 2)) (.int .i64 (g 20)) (.int .i64 0) (.bool false) (.int .i64 0) (.slice (some ⟨G1,0,none⟩) q q) (.slice (some ⟨G2,0,none⟩) (n-24-q) (n-24-q))) (OB.ne (Iy.out) (by omega))
   unfold cG at CE BE cn gi
   replace CE:=hid CE
   replace BE:=hid BE
   replace cn:=hid cn
   replace gi:=hid gi
   refine b5 (fun w'=>Ce w' w.heap.size [(g 0),(g 1),(g 12),(num g 4 4),(num g 8 4),(num g 16 2),(num g 18 2),(g 20),(),false,(),.slice (some ⟨G1,0,none⟩) q q,.slice (some ⟨G2,0,none⟩) (n-24-q) (n-24-q)]∧Below w.heap.size w w'∧OB w' (L+1) (.slice (some ⟨G1,0,none⟩) q q) q (fun j=>g (24+j))∧OB w' (L+1) (.slice (some ⟨G2,0,none⟩) (n-24-q) (n-24-q)) (n-24-q) (fun j=>g (24+q+j))) ⟨CE.out,BE.out,cn.out,gi.out⟩ (fun wf hwf=>?_)
   obtain ⟨hc2,hbf,ho0,ho1⟩:=hwf
   have y0:=hc2.2.1 0 _ rfl
   have y1:=hc2.2.1 1 _ rfl
   have y2:=hc2.2.1 2 _ rfl
   have y3:=hc2.2.1 3 _ rfl
   have y4:=hc2.2.1 4 _ rfl
   have y5:=hc2.2.1 5 _ rfl
   have y6:=hc2.2.1 6 _ rfl
   have y7:=hc2.2.1 7 _ rfl
   have y8:=hc2.2.1 8 _ rfl
   have y9:=hc2.2.1 9 _ rfl
   have aj:=hc2.2.1 10 _ rfl
   have ah:=hc2.2.1 11 _ rfl
   have ag:=hc2.2.1 12 _ rfl
   refine bodyPost_ret (v:=.tuple #[.agg #[(g 0),(g 1),(g 12),(num g 4 4),(num g 8 4),(num g 16 2),(num g 18 2),(g 20),(),false,(),.slice (some ⟨G1,0,none⟩) q q,.slice (some ⟨G2,0,none⟩) (n-24-q) (n-24-q)],()]) (by simp[results,Tryz.results25,go_sem,y0,y1,y2,y3,y4,y5,y6,y7,y8,y9,aj,ah,ag]) rfl ?_
   refine⟨(.slice (some ⟨G1,0,none⟩) q q),(.slice (some ⟨G2,0,none⟩) (n-24-q) (n-24-q)),by rw[kf.out,HE.out];rfl,by rw[kf.out];exact OB.base ho0 (by omega),by rw[kf.out];exact OB.base ho1 (by omega),hbf⟩
  have e1:(be != 0)=true:=by simpa using b0
  have e2:(be==0)=false:=by simpa using b0
  have HR:Hid (au g n ={}):=hid (by unfold au;rw[hE,if_neg b0])
  have HE:=hid hE
  have h0':=hid (h.below ((Below.refl _ _).alloc (Nat.le_refl _) (.cells #[(),(),(),(),(),(),(),(),(),false,(),.slice none 0 0,.slice none 0 0] 45)) (Nat.le_refl _))
  clear r_ hbe hh hE h b0 hg
  go_enter Tryz.func25,Tryz.ntmps25
  go_wp2_with fail
  refine(HH.out _ h0'.out).mono ?_
  rintro x w' ⟨rfl,m,rfl⟩
  go_wp2_with fail
  refine(HB.out _ (Sl.drewN h0'.out m)).mono ?_
  rintro x w' ⟨rfl,rfl⟩
  go_wp2_with fail
  have CE:=hid (((Ce.made (w:=w) (l:=[(),(),(),(),(),(),(),(),(),false,(),.slice none 0 0,.slice none 0 0]) (T:=45) rfl).below (below_drewN (Below.refl _ _) m)).s13 (.int .i64 0) (.int .i64 0) (.int .i64 0) (.int .i64 0) (.int .i64 0) (.int .i64 0) (.int .i64 0) (.int .i64 0) (.int .i64 0) (.bool false) (.int .i64 0) (.slice none 0 0) (.slice none 0 0))
  refine b5 (fun w'=>Ce w' w.heap.size [(),(),(),(),(),(),(),(),(),false,(),.slice none 0 0,.slice none 0 0]∧Below w.heap.size w w') ⟨CE.out,?_⟩ (fun wf hwf=>?_)
  ·have BS:=fun o a0 a1 a2 a3 a4 a5 a6 a7 a8 a9 Fx Fw a12=>cF (b:=w.heap.size) (below_drewN ((Below.refl w.heap.size w).alloc (Nat.le_refl _) o) m) (Nat.le_refl _) a0 a1 a2 a3 a4 a5 a6 a7 a8 a9 Fx Fw a12
   unfold cG at BS
   exact BS _ _ _ _ _ _ _ _ _ _ _ _ _ _
  obtain ⟨hc2,hbf⟩:=hwf
  have y0:=hc2.2.1 0 _ rfl
  have y1:=hc2.2.1 1 _ rfl
  have y2:=hc2.2.1 2 _ rfl
  have y3:=hc2.2.1 3 _ rfl
  have y4:=hc2.2.1 4 _ rfl
  have y5:=hc2.2.1 5 _ rfl
  have y6:=hc2.2.1 6 _ rfl
  have y7:=hc2.2.1 7 _ rfl
  have y8:=hc2.2.1 8 _ rfl
  have y9:=hc2.2.1 9 _ rfl
  have aj:=hc2.2.1 10 _ rfl
  have ah:=hc2.2.1 11 _ rfl
  have ag:=hc2.2.1 12 _ rfl
  refine bodyPost_ret (v:=.tuple #[de {} (.slice none 0 0) (.slice none 0 0),be]) (by simp[results,Tryz.results25,go_sem,de,ea,y0,y1,y2,y3,y4,y5,y6,y7,y8,y9,aj,ah,ag]) rfl ?_
  exact⟨.slice none 0 0,.slice none 0 0,by rw[HR.out,HE.out],by rw[HR.out];exact OB.nil,by rw[HR.out];exact OB.nil,hbf⟩
 have e1:(he != 0)=true:=by simpa using h0
 have e2:(he==0)=false:=by simpa using h0
 have hE:aB g n=he:=by unfold aB;rw[←r_,if_neg h0]
 have HR:Hid (au g n ={}):=hid (by unfold au;rw[hE,if_neg h0])
 have HE:=hid hE
 have h0':=hid (h.below ((Below.refl _ _).alloc (Nat.le_refl _) (.cells #[(),(),(),(),(),(),(),(),(),false,(),.slice none 0 0,.slice none 0 0] 45)) (Nat.le_refl _))
 clear r_ hE h h0 hg
 go_enter Tryz.func25,Tryz.ntmps25
 go_wp2_with fail
 refine(HH.out _ h0'.out).mono ?_
 rintro x w' ⟨rfl,m,rfl⟩
 go_wp2_with fail
 have CE:=hid (((Ce.made (w:=w) (l:=[(),(),(),(),(),(),(),(),(),false,(),.slice none 0 0,.slice none 0 0]) (T:=45) rfl).below (below_drewN (Below.refl _ _) m)).s13 (.int .i64 0) (.int .i64 0) (.int .i64 0) (.int .i64 0) (.int .i64 0) (.int .i64 0) (.int .i64 0) (.int .i64 0) (.int .i64 0) (.bool false) (.int .i64 0) (.slice none 0 0) (.slice none 0 0))
 refine b5 (fun w'=>Ce w' w.heap.size [(),(),(),(),(),(),(),(),(),false,(),.slice none 0 0,.slice none 0 0]∧Below w.heap.size w w') ⟨CE.out,?_⟩ (fun wf hwf=>?_)
 ·have BS:=fun o a0 a1 a2 a3 a4 a5 a6 a7 a8 a9 Fx Fw a12=>cF (b:=w.heap.size) (below_drewN ((Below.refl w.heap.size w).alloc (Nat.le_refl _) o) m) (Nat.le_refl _) a0 a1 a2 a3 a4 a5 a6 a7 a8 a9 Fx Fw a12
  unfold cG at BS
  exact BS _ _ _ _ _ _ _ _ _ _ _ _ _ _
 obtain ⟨hc2,hbf⟩:=hwf
 have y0:=hc2.2.1 0 _ rfl
 have y1:=hc2.2.1 1 _ rfl
 have y2:=hc2.2.1 2 _ rfl
 have y3:=hc2.2.1 3 _ rfl
 have y4:=hc2.2.1 4 _ rfl
 have y5:=hc2.2.1 5 _ rfl
 have y6:=hc2.2.1 6 _ rfl
 have y7:=hc2.2.1 7 _ rfl
 have y8:=hc2.2.1 8 _ rfl
 have y9:=hc2.2.1 9 _ rfl
 have aj:=hc2.2.1 10 _ rfl
 have ah:=hc2.2.1 11 _ rfl
 have ag:=hc2.2.1 12 _ rfl
 refine bodyPost_ret (v:=.tuple #[de {} (.slice none 0 0) (.slice none 0 0),he]) (by simp[results,Tryz.results25,go_sem,de,ea,y0,y1,y2,y3,y4,y5,y6,y7,y8,y9,aj,ah,ag]) rfl ?_
 exact⟨.slice none 0 0,.slice none 0 0,by rw[HR.out,HE.out],by rw[HR.out];exact OB.nil,by rw[HR.out];exact OB.nil,hbf⟩
theorem dQ {w w':World}{r:Option Nat}(h:w.drew.grownBy w' r):w.grownBy w' r:=⟨h.os,h.tape,h.output,h.size,h.block⟩
theorem dI {G n c:Nat}(a m:Nat)(h:a+m≤n)(hc:n≤c)(hm:0<m)(x y z:Int)(hx:x=a)(hy:y=(a:Int)+m)(hz:z=(a:Int)+m)(W:World) :
 (Instr.slice 39 (.slice (some ⟨G,0,none⟩) n c) (some (.int .i64 x)) (some (.int .i64 y)) (some (.int .i64 z))).run Tryz.prog W =.ok (.slice (some ⟨G,a,none⟩) m m) W:=by
 subst hx
 subst hy
 subst hz
 rw[run_slice_lhm W 39 _ n c iF .i64 .i64 .i64 _ _ _ (by omega) (by omega) (by omega) (by omega),iw W]
 have e1:((a:Int)+m).toNat=a+m:=by omega
 simp only[Result.andThen,sliced,Int.toNat_natCast,e1,Option.map_some,Addr.add,Nat.mul_one,Nat.zero_add]
 rw[if_neg (by omega),Nat.add_sub_cancel_left]
 by_cases h0:a=0
 ·rw[if_pos h0,h0]
 rw[if_neg h0]
theorem bP {g:Nat→Int}(hg:az g)(a:Nat):0≤num g a 2∧num g a 2≤65535:=by
 have h:=fA hg a 2
 have h2:(256:Int)^2=65536:=by decide
 omega
set_option maxHeartbeats 9000000 in
theorem ki {w:World}{B G n c:Nat}{g:Nat→Int}(O:OB w B (.slice (some ⟨G,0,none⟩) n c) n g)(hg:az g)(a:Nat)(h:a+2≤n)(hc:n≤c)(hn:n≤1000000)(x y:Int)(hx0:0≤x)(hx:x≤65535)(hy0:0≤y)(hy:y≤65535) :
 Calls Tryz.prog 134 #[.slice (some ⟨G,0,none⟩) n c,a,x,y] w fun e w'=>e =.returned (.tuple #[])∧OB w' B (.slice (some ⟨G,0,none⟩) n c) n (aC g a 2 (turn (num g a 2) x y))∧w.grownBy w' (some G):=by
 have q2:IntKind.i64.wrap ((a:Int)+2)=(a:Int)+2:=IntWalk.i64_in _ (by omega)
 have CP:=fun W=>dI (G:=G) (n:=n) (c:=c) a 2 h hc (by omega) a (a+2) (a+2) rfl rfl rfl W
 have nb:=bP hg a
 have HT:=hid (fun w=>yM (num g a 2) x y w nb.1 nb.2 hx0 hx hy0 hy)
 have HP:=hid (fun (w':World) (o:OB w' B (.slice (some ⟨G,0,none⟩) n c) n g)=>cq (dY (some ⟨G,0,none⟩) n c g w' o.sl1 hg a (by omega) hc hn) (show aU g n a=num g a 2 from by unfold aU;rw[if_neg (by omega)]))
 have HO:=hid O
 clear O nb
 go_enter Tryz.func134,Tryz.ntmps134
 go_wp2_with fail
 refine wp_region_held_drew (S:=fun _=>True) (by kernel_rfl) trivial (fun hHeld=>?_)
 refine ae 0 (by assumption) ?_
 refine ae 1 (by assumption) ?_
 refine ae 2 (by assumption) ?_
 refine ae 3 (by assumption) ?_
 refine ae 4 (by assumption) ?_
 refine ae 5 (by assumption) ?_
 refine ae 6 (by assumption) ?_
 refine ae 7 (by assumption) ?_
 refine ae 8 (by assumption) ?_
 refine ae 10 (by assumption) ?_
 refine ae 11 (by assumption) ?_
 refine only 9 rfl (by kernel_rfl) rfl (fun K hK=>?_)
 go_simp
 refine(HP.out _ (Ow.drew HO.out)).mono ?_
 rintro e' w' ⟨rfl,rfl⟩
 try go_wp2_with fail
 refine hK.out _ _ trivial (fun _=>?_)
 clear hK
 try simp only[Act.put,zA,zB,zC]
 refine only 12 rfl (by kernel_rfl) rfl (fun K hK=>?_)
 go_simp
 refine(HT.out _).mono ?_
 rintro e' w' ⟨rfl,rfl⟩
 try go_wp2_with fail
 refine hK.out _ _ trivial (fun _=>?_)
 clear hK
 try simp only[Act.put,zA,zB,zC]
 refine only 13 rfl (by kernel_rfl) rfl (fun K hK=>?_)
 go_simp
 refine(dh (Ow.drew HO.out) a 2 2 (turn (num g a 2) x y) h (by omega)).mono ?_
 rintro e' w' ⟨rfl,ho,hw⟩
 try go_wp2_with fail
 refine hK.out _ _ trivial (fun _=>?_)
 clear hK
 try simp only[Act.put,zA,zB,zC]
 refine wpAnyH_done (by kernel_rfl) ?_ _
 go_wp2_with fail
 go_end0
 exact⟨rfl,ho,dQ hw⟩
def dp (g:Nat→Int):Nat→Int:=if dz g=true then aC g 22 2 65535 else g
theorem pW {g:Nat→Int}(hg:az g):az (dp g):=by unfold dp;split;exact dx hg _ _ _;exact hg
set_option maxHeartbeats 9000000 in
theorem j7 {w:World}{B G n c:Nat}{g:Nat→Int}(O:OB w B (.slice (some ⟨G,0,none⟩) n c) n g)(hg:az g)(h0:0<n)(hk:g 0=3∨24≤n)(hc:n≤c)(hn:n≤1000000) :
 Calls Tryz.prog 44 #[.slice (some ⟨G,0,none⟩) n c] w fun e w'=>e =.returned (.tuple #[])∧OB w' B (.slice (some ⟨G,0,none⟩) n c) n (dp g)∧w.grownBy w' (some G):=by
 have HB:=hid (lI (some ⟨G,0,none⟩) n c g w O.sl1 hg h0 hk hc hn)
 have HO:=hid O
 have gM:dz g=true→24≤n:=by
  intro hb
  rcases hk with h3 |h3
  ·unfold dz at hb;rw[h3]at hb;cases hb
  exact h3
 unfold dp
 cases hb:dz g
 ·rw[hb]at HB
  clear gM O hk
  rw[if_neg (by decide)]
  go_enter Tryz.func44,Tryz.ntmps44
  go_wp2_with fail
  refine HB.out.mono ?_
  rintro x w' ⟨rfl,rfl⟩
  go_wp2_with fail
  go_end0
  exact⟨rfl,HO.out,World.grownBy.refl _ _⟩
 rw[hb]at HB
 have gM:=gM hb
 have CP:=fun W=>dI (G:=G) (n:=n) (c:=c) 22 2 (by omega) hc (by omega) 22 24 24 rfl rfl rfl W
 have i24:(24:Int)≤c:=by omega
 clear O hk
 rw[if_pos rfl]
 go_enter Tryz.func44,Tryz.ntmps44
 go_wp2_with fail
 refine HB.out.mono ?_
 rintro x w' ⟨rfl,rfl⟩
 go_wp2_with fail
 refine(dh HO.out 22 2 2 65535 (by omega) (by omega)).mono ?_
 rintro x w' ⟨rfl,ho,hw⟩
 go_wp2_with fail
 go_end0
 exact⟨rfl,ho,hw⟩
theorem lu {w:World}{B G n c:Nat}{g:Nat→Int}(O:OB w B (.slice (some ⟨G,0,none⟩) n c) n g)(hg:az g)(h0:0<n)(hk:g 0=3∨24≤n)(hc:n≤c)(hn:n≤1000000)(was:Bool) :
 Calls Tryz.prog 91 #[.slice (some ⟨G,0,none⟩) n c,was] w fun e w'=>e =.returned (.tuple #[])∧OB w' B (.slice (some ⟨G,0,none⟩) n c) n (if was=true then g else dp g)∧w.grownBy w' (some G):=by
 have HO:=hid O
 have HN:=hid (fun gM:24≤n=>bv (some ⟨G,0,none⟩) n c g w O.sl1 hg 22 2 (by omega) (by omega) hn)
 obtain ⟨g',e,hB,hgs,hce,hfr⟩:=Ow.block_ O (by omega)
 injection e with e
 injection e with e _
 subst e
 have c0:=hce 0 (by omega)
 have i0:(0:Int)<n:=by omega
 clear hce hfr O
 cases h2:(g 0==2)
 ·have hf:dp g=g:=by unfold dp dz;rw[h2];rfl
  have hi:(if was=true then g else dp g)=g:=by rw[hf,ite_self]
  rw[hi]
  clear hi hf hk HN
  go_enter Tryz.func91,Tryz.ntmps91
  go_wp2_with fail
  go_end0
  exact⟨rfl,HO.out,World.grownBy.refl _ _⟩
 have gM:24≤n:=by
  rcases hk with h3 |h3
  ·rw[h3]at h2;cases h2
  exact h3
 have yu:=hid (HN.out gM)
 clear HN hk
 cases was
 ·rw[if_neg (by decide)]
  obtain ⟨z,hz⟩:∃z,z=num g 22 2:=⟨_,rfl⟩
  rw[←hz]at yu
  cases hb:(z==0)
  ·have hf:dp g=g:=by unfold dp dz;rw[h2,←hz,hb];rfl
   rw[hf]
   clear hf hz gM
   go_enter Tryz.func91,Tryz.ntmps91
   go_wp2_with fail
   refine yu.out.mono ?_
   rintro x w' ⟨rfl,rfl⟩
   go_wp2_with fail
   go_end0
   exact⟨rfl,HO.out,World.grownBy.refl _ _⟩
  have hf:dp g=aC g 22 2 65535:=by unfold dp dz;rw[h2,←hz,hb];rfl
  rw[hf]
  have PU:=hid (aO HO.out 22 2 65535 (by omega) (by omega) hn)
  clear hf hz gM
  go_enter Tryz.func91,Tryz.ntmps91
  go_wp2_with fail
  refine yu.out.mono ?_
  rintro x w' ⟨rfl,rfl⟩
  go_wp2_with fail
  refine PU.out.mono ?_
  rintro x w' ⟨rfl,ho,hw⟩
  go_wp2_with fail
  go_end0
  exact⟨rfl,ho,hw⟩
 rw[if_pos rfl]
 clear gM
 go_enter Tryz.func91,Tryz.ntmps91
 go_wp2_with fail
 go_end0
 exact⟨rfl,HO.out,World.grownBy.refl _ _⟩
def fT (g:Nat→Int)(n:Nat):Nat→Int:=fun j=>if j=0 then 0 else if j=1 then g 0 else if j=2 then ep ((n:Int)-16) 1 else ep ((n:Int)-16) 0
def dt (g:Nat→Int)(n:Nat):Nat:=if g 0=3 then n-12 else n-4
def dL (g:Nat→Int)(n:Nat):Nat→Int:=if g 0=3 then fun j=>if j<4 then fT g n j else g (12+j) else fun j=>if j<8 then g (4+j) else if j<12 then fT g n (j-8) else g (4+j)
theorem E7 {g:Nat→Int}(hg:az g)(n:Nat):az (fT g n):=by
 intro j;unfold fT
 split
 ·omega
 split
 ·exact hg 0
 split <;> exact jw _ _
theorem mr {g:Nat→Int}(hg:az g)(n:Nat):az (dL g n):=by
 intro j;unfold dL
 split <;> (dsimp only;repeat' split) <;> first |exact hg _ |exact E7 hg n _
def aR (s L:Nat)(g x:Nat→Int)(i:Nat):Nat→Int:=aC x s 2 (turn (num x s 2) (aU g L i) (aU x L i))
def bS (s L:Nat)(g:Nat→Int):Nat→Nat→(Nat→Int)→(Nat→Int)
 |0,_,x=>x
 |k+1,i,x=>bS s L g k (i+2) (aR s L g x i)
def ga (g:Nat→Int)(L:Nat)(a m v:Int):Bool:=(m==1&&decide (v≤255) || m==2&&decide (v≤65535) || m==4&&decide (v≤4294967295))&&decide (0≤v)&&decide (16≤a)&&decide (a≤(L:Int)-m)&&(decide (a+m≤(aQ (g 0):Int)) || decide ((aQ (g 0):Int)+2≤a))
def d_ (g:Nat→Int)(L a m:Nat)(v:Int):Nat→Int:=if dz g=true then aC g a m v else dp (bS (aQ (g 0)) L g ((m+a%2+1)/2) (a-a%2) (aC g a m v))
def kj (g:Nat→Int)(L:Nat)(a m v:Int):Int:=if aB g L≠0 then aB g L else if ga g L a m v=true then 0 else 14
def jC (g:Nat→Int)(L:Nat):Int:=if aB g L≠0 then aB g L else if g 1≤1 then 7 else 0
def aX (g:Nat→Int):Nat→Int:=aC (set1 g 1 (g 1-1)) 14 2 (turn (num g 14 2) (num g 0 2) (num (set1 g 1 (g 1-1)) 0 2))
def gE (g:Nat→Int)(L:Nat)(ad pt:Int):Int:=if aB g L≠0 then aB g L else if g 0=3 then 2 else if bW ad 4294967295&&bW pt 65535 then 0 else 14
def aE (g:Nat→Int)(s:Bool)(ad pt:Int):Nat→Int:=if s=true then aC (aC g 4 4 ad) 16 2 pt else aC (aC g 8 4 ad) 18 2 pt
def bQ (g:Nat→Int)(L:Nat)(s:Bool)(ad pt:Int):Nat→Int:=
 let a:=if s=true then 4 else 8
 let p:=if s=true then 16 else 18
 let x:=bS 14 L g 2 a (aE g s ad pt)
 if dz g=true then x else dp (bS 22 L g 1 p (bS 22 L g 2 a x))
def aV (p:Pk):Bool:=bW p.life 255&&bW p.piece 255&&bW p.src 4294967295&&bW p.dst 4294967295&&(if p.kind=3 then bW p.code 255 else bW p.fp 65535&&bW p.tp 65535&&(if p.kind=2 then bW p.label 65535 else bW p.flags 15))
def aG (p:Pk):Nat:=if p.kind=3 then 20+p.nd else if p.kind=2 then 24+p.nd else 24+p.no+p.nd
def ax (p:Pk):Int:=if isK p.kind=false then 2 else if aV p=false then 14 else if p.kind=1∧40<p.no then 5 else if p.kind=3∧p.nd<24∨1500<aG p then 3 else 0
def cm (p:Pk):Nat→Int:=fun j=>
 if p.kind=3 then (if j=0 then p.code else if j<4 then 0 else p.gd (j-4))
 else if j<2 then ep p.fp (1-j) else if j<4 then ep p.tp (3-j)
 else if p.kind=2 then (if j<6 then ep p.label (5-j) else if j<8 then 0 else p.gd (j-8))
 else if j=4 then p.flags else if j=5 then (p.no:Int) else if j<8 then 0 else if j<8+p.no then p.go (j-8) else p.gd (j-8-p.no)
def bL (p:Pk):Nat→Int:=fun j=>
 if j=0 then p.kind else if j=1 then p.life else if j<4 then ep (aG p) (3-j) else if j<8 then ep p.src (7-j) else if j<12 then ep p.dst (11-j) else if j=12 then p.piece else if j<16 then 0 else cm p (j-16)
def aN (p:Pk):Nat→Int:=aC (bL p) 14 2 (65535-norm (tot (bL p) 16))
def aD (p:Pk):Nat→Int:=if p.kind=2∧p.bare=true then aN p else dp (aC (aN p) (aQ p.kind) 2 (65535-norm (tot (dL (aN p) (aG p)) (dt (aN p) (aG p)))))
theorem Cg {g:Nat→Int}{off m j:Nat}{v:Int}(h:j<off):aC g off m v j=g j:=by unfold aC;rw[if_neg (by omega)]
theorem Ci {g:Nat→Int}{off m j:Nat}{v:Int}(h:off+m≤j):aC g off m v j=g j:=by unfold aC;rw[if_neg (by omega)]
theorem aI {g:Nat→Int}{off m j:Nat}{v:Int}(h:j<off∨off+m≤j):aC g off m v j=g j:=by unfold aC;rw[if_neg (by omega)]
theorem pL {g:Nat→Int}{off m j:Nat}{v:Int}(h:off≤j)(h':j<off+m):aC g off m v j=ep v (off+m-1-j):=by unfold aC;rw[if_pos ⟨h,h'⟩]
theorem i_ (g:Nat→Int)(a:Nat):num g a 2=g a*256+g (a+1):=by simp[num]
theorem GF (g:Nat→Int)(a:Nat):num g a 4=((g a*256+g (a+1))*256+g (a+2))*256+g (a+3):=by simp[num]
theorem rn (v:Int):ep v 0=v%256:=by simp[ep]
theorem rm (v:Int):ep v 1=v/256%256:=by simp[ep]
theorem G_ (v:Int):ep v 2=v/65536%256:=by simp[ep]
theorem G9 (v:Int):ep v 3=v/16777216%256:=by simp[ep]
theorem iR {g:Nat→Int}{a:Nat}{v:Int}(h0:g a=ep v 1)(h1:g (a+1)=ep v 0)(hv:0≤v)(hv':v≤65535):num g a 2=v:=by
 rw[i_,h0,h1,rn,rm];omega
theorem ug {g:Nat→Int}{a:Nat}{v:Int}(h0:g a=ep v 3)(h1:g (a+1)=ep v 2)(h2:g (a+2)=ep v 1)(h3:g (a+3)=ep v 0)(hv:0≤v)(hv':v≤4294967295):num g a 4=v:=by
 rw[GF,h0,h1,h2,h3,rn,rm,G_,G9];omega
theorem ly {g:Nat→Int}{a:Nat}{v:Int}(hv:0≤v)(hv':v≤65535):num (aC g a 2 v) a 2=v:=
 iR (by rw[pL (by omega) (by omega),show a+2-1-a=1 from by omega]) (by rw[pL (by omega) (by omega),show a+2-1-(a+1)=0 from by omega]) hv hv'
theorem pP {g:Nat→Int}{off m a n:Nat}{v:Int}(h:a+n≤off∨off+m≤a):num (aC g off m v) a n=num g a n:=
 nx fun j h1 h2=>aI (by omega)
theorem ib {g:Nat→Int}{j:Nat}(h:j<22∨24≤j):dp g j=g j:=by
 unfold dp;split
 ·exact aI h
 rfl
theorem nC {g:Nat→Int}(h:g 0≠2):dp g=g:=by
 unfold dp;rw[if_neg];unfold dz;rw[show (g 0==2)=false from by simpa using h];simp
theorem lD {t:Int}(h:0≤t):norm t=65535↔t≠0∧t%65535=0:=by unfold norm;split <;> omega
theorem zj (t:Int):norm t%65535=t%65535:=by unfold norm;split <;> omega
theorem oe (g:Nat→Int)(q:Nat)(v:Int)(hv:0≤v)(hv':v≤65535)(n:Nat)(h:2*q+2≤n):tot (aC g (2*q) 2 v) n=tot g n+v-num g (2*q) 2:=by
 obtain ⟨r,rfl⟩:∃r,n=2*(q+1)+r:=⟨n-(2*q+2),by omega⟩
 rw[p_ _ (q+1),p_ g (q+1),show 2*(q+1)=2*q+2 from by omega,iN,iN]
 rw[fX (fun j=>aC g (2*q) 2 v (2*q+2+j)) (fun j=>g (2*q+2+j)) r (fun j _=>Ci (by omega)),fX (aC g (2*q) 2 v) g (2*q) (fun j hj=>Cg hj)]
 have h1:=ly (g:=g) (a:=2*q) hv hv'
 rw[i_]at h1 ⊢
 omega
theorem t3 {g:Nat→Int}(hg:az g){n j:Nat}(hj:j<n)(h:g j≠0):tot g n≠0:=fun e=>h ((yN g hg n).1 e j hj)
theorem kU {p:Pk}(hg:az p.gd)(ho:az p.go)(hE:ax p=0):az (bL p):=by
 have h:=hE
 unfold ax at h
 split at h
 ·cases h
 rename_i h1
 split at h
 ·cases h
 rename_i h2
 split at h
 ·cases h
 rename_i h3
 split at h
 ·cases h
 rename_i h4
 unfold isK at h1
 unfold aV bW at h2
 simp at h1 h2
 intro j
 unfold bL
 split
 ·omega
 split
 ·omega
 split
 ·exact jw _ _
 split
 ·exact jw _ _
 split
 ·exact jw _ _
 split
 ·omega
 split
 ·omega
 unfold cm
 split
 ·split
  ·rename_i h5 _;rw[if_pos h5]at h2;simp at h2;omega
  split
  ·omega
  exact hg _
 rename_i hk3
 rw[if_neg hk3]at h2
 split
 ·exact jw _ _
 split
 ·exact jw _ _
 split
 ·split
  ·exact jw _ _
  split
  ·omega
  exact hg _
 rename_i hk2
 rw[if_neg hk2]at h2
 simp at h2
 split
 ·omega
 split
 ·omega
 split
 ·omega
 split
 ·exact ho _
 exact hg _
theorem fU {p:Pk}(h:ax p=0):isK p.kind=true∧aV p=true∧(p.kind=1→p.no≤40)∧(p.kind=3→24≤p.nd)∧aG p≤1500∧24≤aG p:=by
 unfold ax at h
 split at h
 ·cases h
 split at h
 ·cases h
 split at h
 ·cases h
 split at h
 ·cases h
 rename_i h1 h2 h3 h4
 refine⟨by simpa using h1,by simpa using h2,fun e=>by omega,fun e=>by omega,by omega,?_⟩
 unfold aG
 split
 ·omega
 split <;> omega
theorem fF (k:Int):∃q,aQ k=2*q∧16≤aQ k∧aQ k≤22:=by unfold aQ;split;exact⟨9,rfl,by omega,by omega⟩;exact⟨11,rfl,by omega,by omega⟩
theorem ju {p:Pk}(hg:az p.gd)(ho:az p.go)(hE:ax p=0):az (aN p):=dx (kU hg ho hE) _ _ _
theorem lM {p:Pk}(hg:az p.gd)(ho:az p.go)(hE:ax p=0):az (aD p):=by
 unfold aD;split
 ·exact ju hg ho hE
 exact pW (dx (ju hg ho hE) _ _ _)
theorem ye {p:Pk}{j:Nat}(h:j<14∨16≤j)(h':j<aQ p.kind∨aQ p.kind+2≤j)(h2:p.kind=2∨j<22∨24≤j∨p.kind=1∨p.kind=3):aD p j=bL p j:=by
 have hh:aN p j=bL p j:=aI h
 unfold aD
 split
 ·exact hh
 by_cases k2:p.kind=2
 ·have:aQ p.kind=22:=by unfold aQ;rw[if_neg (by omega)]
  rw[ib (by omega),aI h',hh]
 rw[nC,aI h',hh]
 have hs:=(fF p.kind).choose_spec
 rw[aI (by omega)]
 unfold aN
 rw[aI (by omega)]
 show (if (0:Nat)=0 then p.kind else _)≠2
 rw[if_pos rfl]
 exact k2
theorem i7 (p:Pk):bL p 0=p.kind:=by unfold bL;rw[if_pos rfl]
theorem gX {p:Pk}{j:Nat}(h:j<14):aD p j=bL p j:=by
 obtain ⟨q,hq,h1,h2⟩:=fF p.kind
 unfold aD
 split
 ·exact aI (by omega)
 rw[ib (by omega),aI (by omega)]
 exact aI (by omega)
theorem yg {p:Pk}{j:Nat}(h:j<16):aD p j=aN p j:=by
 obtain ⟨q,hq,h1,h2⟩:=fF p.kind
 unfold aD
 split
 ·rfl
 rw[ib (by omega),aI (by omega)]
theorem GB (p:Pk):bL p 1=p.life:=by simp[bL]
theorem D1 (p:Pk):bL p 12=p.piece:=by simp[bL]
theorem DZ (p:Pk):bL p 13=0:=by simp[bL]
theorem Cc (p:Pk)(h:aG p≤65535):num (bL p) 2 2=aG p:=iR (by simp[bL]) (by simp[bL]) (by omega) (by omega)
theorem Ca {p:Pk}(h:0≤p.src)(h':p.src≤4294967295):num (bL p) 4 4=p.src:=ug (by simp[bL]) (by simp[bL]) (by simp[bL]) (by simp[bL]) h h'
theorem Cd {p:Pk}(h:0≤p.dst)(h':p.dst≤4294967295):num (bL p) 8 4=p.dst:=ug (by simp[bL]) (by simp[bL]) (by simp[bL]) (by simp[bL]) h h'
theorem ct (p:Pk)(j:Nat):bL p (16+j)=cm p j:=by
 unfold bL
 rw[if_neg (by omega),if_neg (by omega),if_neg (by omega),if_neg (by omega),if_neg (by omega),if_neg (by omega),if_neg (by omega),show 16+j-16=j from by omega]
theorem eN {p:Pk}{j:Nat}(h:j<14∨16≤j)(h':j<aQ p.kind∨aQ p.kind+2≤j):aD p j=bL p j:=by
 have hk:p.kind=2→aQ p.kind=22:=fun e=>by unfold aQ;rw[if_neg (by omega)]
 by_cases k2:p.kind=2
 ·have:=hk k2
  exact ye h h' (.inl k2)
 have hh:aN p j=bL p j:=aI h
 have hs:=(fF p.kind).choose_spec
 unfold aD
 rw[if_neg (fun e=>k2 e.1),nC,aI h',hh]
 rw[aI (by omega)]
 unfold aN
 rw[aI (by omega),i7]
 exact k2
theorem fM {p:Pk}{a n:Nat}(h:a+n≤14∨16≤a)(h':a+n≤aQ p.kind∨aQ p.kind+2≤a):num (aD p) a n=num (bL p) a n:=
 nx fun j h1 h2=>eN (by omega) (by omega)
theorem g_ {p:Pk}(hE:ax p=0):p.kind=1∨p.kind=2∨p.kind=3:=by
 have:=(fU hE).1
 unfold isK at this;simp at this;omega
theorem tM {p:Pk}(hg:az p.gd)(ho:az p.go)(hE:ax p=0):bT (aD p) (aG p)=0:=by
 obtain ⟨h1,h2,h3,h4,h5,h6⟩:=fU hE
 have hB:=kU hg ho hE
 have hA:=(fF p.kind).choose_spec
 have e0:aD p 0=p.kind:=by rw[gX (by omega),i7]
 have e13:aD p 13=0:=by rw[gX (by omega),DZ]
 have e2:num (aD p) 2 2=aG p:=by rw[fM (by omega) (by omega),Cc p (by omega)]
 have et:norm (tot (aD p) 16)=65535:=by
  rw[fX (aD p) (aN p) 16 (fun j hj=>yg hj)]
  have hb:=iS (tot (bL p) 16)
  have hT:=oe (bL p) 7 (65535-norm (tot (bL p) 16)) (by omega) (by omega) 16 (by omega)
  have hz:num (bL p) 14 2=0:=by rw[i_];simp[bL]
  rw[show 2*7=14 from rfl,hz]at hT
  have hp:=eY (aN p) (ju hg ho hE) 16
  have hne:tot (aN p) 16≠0:=t3 (ju hg ho hE) (j:=0) (by omega) (by
   show aC (bL p) 14 2 _ 0≠0
   rw[aI (by omega),i7]
   have:=g_ hE
   omega)
  refine(lD hp).2 ⟨hne,?_⟩
  show tot (aC (bL p) 14 2 (65535-norm (tot (bL p) 16))) 16%65535=0
  rw[hT]
  have:=zj (tot (bL p) 16)
  omega
 have hp:aU (aD p) (aG p) 2=aG p:=by unfold aU;rw[if_neg (by omega),e2]
 unfold bT
 rw[if_neg (by omega),if_neg (by rw[e0,h1];decide),e13,hp,et,if_neg (by simp;omega),if_neg (by decide)]
structure Pe (p q:Pk):Prop where
 kind:p.kind=q.kind
 life:p.life=q.life
 piece:p.piece=q.piece
 src:p.src=q.src
 dst:p.dst=q.dst
 fp:p.fp=q.fp
 tp:p.tp=q.tp
 flags:p.flags=q.flags
 label:p.label=q.label
 bare:p.bare=q.bare
 code:p.code=q.code
 no:p.no=q.no
 go:∀j,j<p.no→p.go j=q.go j
 nd:p.nd=q.nd
 gd:∀j,j<p.nd→p.gd j=q.gd j
structure Clean (p:Pk):Prop where
 k3:p.kind=3→p.fp=0∧p.tp=0
 k1:p.kind≠1→p.flags=0∧p.no=0
 k2:p.kind≠2→p.label=0∧p.bare=false
 kc:p.kind≠3→p.code=0
theorem vA {p:Pk}(hE:ax p=0)(hk:p.kind=2):num (aD p) 22 2=0↔p.bare=true:=by
 have hs:aQ p.kind=22:=by unfold aQ;rw[if_neg (by omega)]
 have hz:num (aN p) 22 2=0:=by
  unfold aN
  rw[pP (by omega),i_,show 22=16+6 from rfl,show 16+6+1=16+7 from rfl,ct,ct]
  simp[cm,hk]
 constructor
 ·intro h
  rcases hb:p.bare with _ | _
  ·exfalso
   unfold aD at h
   rw[if_neg (by rw[hb];simp),hs]at h
   have hn:0≤65535-norm (tot (dL (aN p) (aG p)) (dt (aN p) (aG p)))∧65535-norm (tot (dL (aN p) (aG p)) (dt (aN p) (aG p)))≤65535:=by
    have:=iS (tot (dL (aN p) (aG p)) (dt (aN p) (aG p)))
    omega
   generalize 65535-norm (tot (dL (aN p) (aG p)) (dt (aN p) (aG p)))=s at h hn
   have e:num (aC (aN p) 22 2 s) 22 2=s:=ly (by omega) (by omega)
   unfold dp at h
   split at h
   ·rw[ly (by omega) (by omega)]at h;cases h
   rename_i hbf
   apply hbf
   unfold dz
   rw[h,show aC (aN p) 22 2 s 0=2 from by rw[aI (by omega)];unfold aN;rw[aI (by omega),i7,hk]]
   rfl
  rfl
 intro hb
 unfold aD
 rw[if_pos ⟨hk,hb⟩,hz]
set_option maxHeartbeats 1000000 in
theorem tN {p:Pk}(hE:ax p=0):cg (aD p) (aG p)=0:=by
 obtain ⟨h1,h2,h3,h4,h5,h6⟩:=fU hE
 have e0:aD p 0=p.kind:=by rw[gX (by omega),i7]
 unfold aV bW at h2
 simp at h2
 have hk:=g_ hE
 unfold cg
 rw[e0]
 rcases hk with k |k |k
 ·have hs:aQ p.kind=22:=by unfold aQ;rw[if_neg (by omega)]
  have e20:aD p 20=p.flags:=by rw[eN (by omega) (by omega),show 20=16+4 from rfl,ct];simp[cm,k]
  have e21:aD p 21=p.no:=by rw[eN (by omega) (by omega),show 21=16+5 from rfl,ct];simp[cm,k]
  rw[k]at h2
  simp at h2
  have hl:aG p=24+p.no+p.nd:=by unfold aG;rw[if_neg (by omega),if_neg (by omega)]
  have:=h3 k
  rw[if_neg (by omega),if_neg (by omega),if_neg]
  rw[e20,e21]
  omega
 ·rw[if_neg (by omega),if_neg (by omega),if_neg (by omega)]
 have hs:aQ p.kind=18:=by unfold aQ;rw[if_pos k]
 have e17:aD p 17=0:=by rw[eN (by omega) (by omega),show 17=16+1 from rfl,ct];simp[cm,k]
 have hl:aG p=20+p.nd:=by unfold aG;rw[if_pos k]
 have:=h4 k
 rw[if_pos k,if_neg (by omega),if_neg (by rw[e17];simp)]
theorem j_ {p:Pk}(hg:az p.gd)(ho:az p.go)(hE:ax p=0):aB (aD p) (aG p)=0:=by
 unfold aB
 rw[tM hg ho hE,if_pos rfl,tN hE]
set_option maxHeartbeats 9000000 in
theorem nY {p:Pk}(hg:az p.gd)(ho:az p.go)(hE:ax p=0)(hc:Clean p):Pe (au (aD p) (aG p)) p:=by
 obtain ⟨h1,h2,h3,h4,h5,h6⟩:=fU hE
 have e0:aD p 0=p.kind:=by rw[gX (by omega),i7]
 have e1:aD p 1=p.life:=by rw[gX (by omega),GB]
 have e12:aD p 12=p.piece:=by rw[gX (by omega),D1]
 have hA:=(fF p.kind).choose_spec
 unfold aV bW at h2
 simp at h2
 have es:num (aD p) 4 4=p.src:=by rw[fM (by omega) (by omega),Ca (by omega) (by omega)]
 have ed:num (aD p) 8 4=p.dst:=by rw[fM (by omega) (by omega),Cd (by omega) (by omega)]
 unfold au
 rw[j_ hg ho hE,if_pos rfl]
 unfold ez
 rw[e0]
 rcases g_ hE with k |k |k
 ·have hs:aQ p.kind=22:=by unfold aQ;rw[if_neg (by omega)]
  have hl:aG p=24+p.no+p.nd:=by unfold aG;rw[if_neg (by omega),if_neg (by omega)]
  have e20:aD p 20=p.flags:=by rw[eN (by omega) (by omega),show 20=16+4 from rfl,ct];simp[cm,k]
  have e21:aD p 21=p.no:=by rw[eN (by omega) (by omega),show 21=16+5 from rfl,ct];simp[cm,k]
  rw[k]at h2
  simp at h2
  have ef:num (aD p) 16 2=p.fp:=by rw[fM (by omega) (by omega)];exact iR (by rw[show 16=16+0 from rfl,ct];simp[cm,k]) (by rw[show 16+1=16+1 from rfl,ct];simp[cm,k]) (by omega) (by omega)
  have et:num (aD p) 18 2=p.tp:=by rw[fM (by omega) (by omega)];exact iR (by rw[show 18=16+2 from rfl,ct];simp[cm,k]) (by rw[show 18+1=16+3 from rfl,ct];simp[cm,k]) (by omega) (by omega)
  rw[if_neg (by omega),if_neg (by omega)]
  have hn:(aD p 21).toNat=p.no:=by rw[e21];rfl
  have q2:=hc.k2 (by omega)
  have qc:=hc.kc (by omega)
  refine⟨rfl,e1,e12,es,ed,ef,et,e20,q2.1.symm,q2.2.symm,qc.symm,hn,?_,by show aG p-24-(aD p 21).toNat=p.nd;rw[hn];omega,?_⟩
  ·intro j hj
   show aD p (24+j)=p.go j
   replace hj:j<(aD p 21).toNat:=hj
   rw[hn]at hj
   rw[eN (by omega) (by omega),show 24+j=16+(8+j) from by omega,ct]
   unfold cm
   rw[if_neg (by omega),if_neg (by omega),if_neg (by omega),if_neg (by omega),if_neg (by omega),if_neg (by omega),if_neg (by omega),if_pos (by omega),show 8+j-8=j from by omega]
  intro j hj
  show aD p (24+(aD p 21).toNat+j)=p.gd j
  rw[hn,eN (by omega) (by omega),show 24+p.no+j=16+(8+p.no+j) from by omega,ct]
  unfold cm
  rw[if_neg (by omega),if_neg (by omega),if_neg (by omega),if_neg (by omega),if_neg (by omega),if_neg (by omega),if_neg (by omega),if_neg (by omega),show 8+p.no+j-8-p.no=j from by omega]
 ·have hs:aQ p.kind=22:=by unfold aQ;rw[if_neg (by omega)]
  have hl:aG p=24+p.nd:=by unfold aG;rw[if_neg (by omega),if_pos k]
  rw[k]at h2
  simp at h2
  have ef:num (aD p) 16 2=p.fp:=by rw[fM (by omega) (by omega)];exact iR (by rw[show 16=16+0 from rfl,ct];simp[cm,k]) (by rw[show 16+1=16+1 from rfl,ct];simp[cm,k]) (by omega) (by omega)
  have et:num (aD p) 18 2=p.tp:=by rw[fM (by omega) (by omega)];exact iR (by rw[show 18=16+2 from rfl,ct];simp[cm,k]) (by rw[show 18+1=16+3 from rfl,ct];simp[cm,k]) (by omega) (by omega)
  have el:num (aD p) 20 2=p.label:=by rw[fM (by omega) (by omega)];exact iR (by rw[show 20=16+4 from rfl,ct];simp[cm,k]) (by rw[show 20+1=16+5 from rfl,ct];simp[cm,k]) (by omega) (by omega)
  have hb:=vA hE k
  rw[if_neg (by omega),if_pos k]
  have q1:=hc.k1 (by omega)
  have qc:=hc.kc (by omega)
  refine⟨rfl,e1,e12,es,ed,ef,et,q1.1.symm,el,?_,qc.symm,q1.2.symm,fun j hj=>absurd hj (by show ¬j<0;omega),by show aG p-24=p.nd;omega,?_⟩
  ·show (num (aD p) 22 2==0)=p.bare
   rcases hbb:p.bare with _ | _
   ·rw[hbb]at hb;simpa using hb
   rw[hbb]at hb;simpa using hb
  intro j hj
  show aD p (24+j)=p.gd j
  rw[eN (by omega) (by omega),show 24+j=16+(8+j) from by omega,ct]
  unfold cm
  rw[if_neg (by omega),if_neg (by omega),if_neg (by omega),if_pos k,if_neg (by omega),if_neg (by omega),show 8+j-8=j from by omega]
 have hs:aQ p.kind=18:=by unfold aQ;rw[if_pos k]
 have hl:aG p=20+p.nd:=by unfold aG;rw[if_pos k]
 have e16:aD p 16=p.code:=by rw[eN (by omega) (by omega),show 16=16+0 from rfl,ct];simp[cm,k]
 rw[if_pos k]
 have q3:=hc.k3 k
 have q1:=hc.k1 (by omega)
 have q2:=hc.k2 (by omega)
 refine⟨rfl,e1,e12,es,ed,q3.1.symm,q3.2.symm,q1.1.symm,q2.1.symm,q2.2.symm,e16,q1.2.symm,fun j hj=>absurd hj (by show ¬j<0;omega),by show aG p-20=p.nd;omega,?_⟩
 intro j hj
 show aD p (20+j)=p.gd j
 rw[eN (by omega) (by omega),show 20+j=16+(4+j) from by omega,ct]
 unfold cm
 rw[if_pos k,if_neg (by omega),if_neg (by omega),show 4+j-4=j from by omega]
def dS (d:Nat→Int):Nat→Nat→Int
 | _,0=>0
 |a,k+1=>d a+dS d (a+1) k
theorem pu (d:Nat→Int):∀(k a l:Nat),dS d a (k+l)=dS d a k+dS d (a+k) l
 |0,a,l=>by simp[dS]
 |k+1,a,l=>by
  rw[show k+1+l=(k+l)+1 from by omega]
  show d a+dS d (a+1) (k+l)=d a+dS d (a+1) k+dS d (a+(k+1)) l
  rw[pu d k (a+1) l,show a+1+k=a+(k+1) from by omega]
  omega
theorem pX {d:Nat→Int}:∀(k a:Nat),(∀q,a≤q→q<a+k→d q=0)→dS d a k=0
 |0,a,_=>rfl
 |k+1,a,h=>by
  show d a+dS d (a+1) k=0
  rw[h a (by omega) (by omega),pX k (a+1) (fun q h1 h2=>h q (by omega) (by omega))]
  rfl
theorem sB {d d':Nat→Int}:∀(k a:Nat),(∀q,a≤q→q<a+k→d q=d' q)→dS d a k=dS d' a k
 |0,a,_=>rfl
 |k+1,a,h=>by
  show d a+dS d (a+1) k=d' a+dS d' (a+1) k
  rw[h a (by omega) (by omega),sB k (a+1) (fun q h1 h2=>h q (by omega) (by omega))]
def dP (g x:Nat→Int)(L:Nat):Nat→Int:=fun q=>aU x L (2*q)-aU g L (2*q)
theorem gm {x y:Nat→Int}{L a:Nat}(h0:x a=y a)(h1:a+1<L→x (a+1)=y (a+1))(ha:a<L):aU x L a=aU y L a:=by
 unfold aU
 split
 ·rw[h0]
 rw[i_,i_,h0,h1 (by omega)]
theorem wm (g x:Nat→Int)(L:Nat):∀n,2*n≤L+1→tot x (min (2*n) L)-tot g (min (2*n) L)=dS (dP g x L) 0 n
 |0,_=>by simp[tot,dS]
 |n+1,h=>by
  rw[pu _ n 0 1,←wm g x L n (by omega),show min (2*n) L=2*n from by omega]
  show _=_+(dP g x L (0+n)+0)
  rw[Nat.zero_add]
  unfold dP aU
  by_cases e:2*n+1=L
  ·rw[if_pos e,if_pos e,show min (2*(n+1)) L=2*n+1 from by omega,ll,ll]
   omega
  rw[if_neg e,if_neg e,show min (2*(n+1)) L=2*n+2 from by omega,iN,iN,i_,i_]
  omega
theorem yP {g x:Nat→Int}{L a k n:Nat}(hn:2*n≤L+1)(hk:a+k≤n)(h:∀j,j<2*a∨2*(a+k)≤j→x j=g j):tot x (min (2*n) L)-tot g (min (2*n) L)=dS (dP g x L) a k:=by
 have hz:∀q,q<a∨a+k≤q→q<n→dP g x L q=0:=fun q hq hn'=>by
  unfold dP
  rw[gm (x:=x) (y:=g) (h _ (by omega)) (fun _=>h _ (by omega)) (by omega)]
  omega
 rw[wm g x L n hn,show n=a+(k+(n-a-k)) from by omega,pu,pu,Nat.zero_add,pX a 0 (fun q _ h2=>hz q (by omega) (by omega)),pX (n-a-k) (a+k) (fun q h1 h2=>hz q (by omega) (by omega))]
 omega
theorem fx {s L:Nat}{g x:Nat→Int}(hx:az x)(i:Nat):az (aR s L g x i):=dx hx _ _ _
theorem dV {s L:Nat}{g:Nat→Int}:∀(k i:Nat) (x:Nat→Int),az x→az (bS s L g k i x)
 |0,i,x,h=>h
 |k+1,i,x,h=>dV k (i+2) _ (fx h i)
theorem eH {s L:Nat}{g:Nat→Int}{j:Nat}(hj:j<s∨s+2≤j):∀(k i:Nat) (x:Nat→Int),bS s L g k i x j=x j
 |0,i,x=>rfl
 |k+1,i,x=>by
  show bS s L g k (i+2) (aR s L g x i) j=x j
  rw[eH hj k (i+2)]
  exact aI hj
theorem qe {F:(Nat→Int)→Int}{s L:Nat}{g:Nat→Int}(hg:az g)(σ:Nat)(hs:s=2*σ)(hsL:s+2≤L)
 (R:(Nat→Int)→Prop) (hR:∀x v,R x→R (aC x s 2 v)) (hF:∀x v,az x→R x→0≤v→v≤65535→F (aC x s 2 v)=F x+v-num x s 2) :
 ∀(k a:Nat) (x:Nat→Int),az x→R x→(∀q,a≤q→q<a+k→q≠σ∧2*q<L)→F (bS s L g k (2*a) x)%65535=(F x-dS (dP g x L) a k)%65535
 |0,a,x,_,_,_=>by simp[bS,dS]
 |k+1,a,x,hx,hr,hq=>by
  have hpx:=gn hx L (2*a)
  have hpg:=gn hg L (2*a)
  have hn:=bP hx s
  have ht:=tZ (num x s 2) (aU g L (2*a)) (aU x L (2*a)) hn.1 hn.2 hpg.1 hpg.2 hpx.1 hpx.2
  have hm:=ry (num x s 2) (aU g L (2*a)) (aU x L (2*a))
  have ih:=qe hg σ hs hsL R hR hF k (a+1) (aR s L g x (2*a)) (fx hx _) (hR _ _ hr) (fun q h1 h2=>hq q (by omega) (by omega))
  have hd:dS (dP g (aR s L g x (2*a)) L) (a+1) k=dS (dP g x L) (a+1) k:=sB k (a+1) (fun q h1 h2=>by
   have:=hq q (by omega) (by omega)
   unfold dP
   rw[gm (x:=aR s L g x (2*a)) (y:=x) (aI (by omega)) (fun _=>aI (by omega)) this.2])
  have hf:=hF x (turn (num x s 2) (aU g L (2*a)) (aU x L (2*a))) hx hr ht.1 ht.2
  show F (bS s L g k (2*a+2) (aR s L g x (2*a)))%65535=(F x-(dP g x L a+dS (dP g x L) (a+1) k))%65535
  rw[show 2*a+2=2*(a+1) from by omega,ih,hd]
  show (F (aC x s 2 (turn (num x s 2) (aU g L (2*a)) (aU x L (2*a))))-_)%65535=_
  rw[hf]
  show _=(F x-((aU x L (2*a)-aU g L (2*a))+dS (dP g x L) (a+1) k))%65535
  omega
theorem qu {g x:Nat→Int}{n:Nat}(h:∀j,j<16→x j=g j):bT x n=bT g n:=by
 unfold bT
 by_cases h16:n<16
 ·rw[if_pos h16,if_pos h16]
 rw[if_neg h16,if_neg h16,h 0 (by omega),h 13 (by omega),fX x g 16 h,gm (x:=x) (y:=g) (h 2 (by omega)) (fun _=>h 3 (by omega)) (by omega)]
theorem mZ {g x:Nat→Int}{n:Nat}(h0:x 0=g 0)(KS:x 17=g 17)(h20:g 0≠3→x 20=g 20)(h21:g 0≠3→x 21=g 21):cg x n=cg g n:=by
 unfold cg
 rw[h0,KS]
 by_cases k:g 0=3
 ·rw[if_pos k,if_pos k]
 rw[if_neg k,if_neg k,h20 k,h21 k]
theorem iO {g:Nat→Int}{n:Nat}(h:aB g n=0):bT g n=0∧cg g n=0:=by
 unfold aB at h
 split at h
 ·exact⟨by assumption,h⟩
 contradiction
theorem rV {g:Nat→Int}{L:Nat}{a m v:Int}(h:ga g L a m v=true):(m=1∧v≤255∨m=2∧v≤65535∨m=4∧v≤4294967295)∧0≤v∧16≤a∧a≤(L:Int)-m∧(a+m≤(aQ (g 0):Int)∨(aQ (g 0):Int)+2≤a):=by
 unfold ga at h
 simp only[Bool.and_eq_true,Bool.or_eq_true,decide_eq_true_eq,beq_iff_eq]at h
 omega
theorem vP {g:Nat→Int}{L a m:Nat}{v:Int}{j:Nat}(h:j<a∨a+m≤j)(h':j<aQ (g 0)∨aQ (g 0)+2≤j)(ha:16≤a):d_ g L a m v j=g j:=by
 have hA:=(fF (g 0)).choose_spec
 unfold d_
 split
 ·exact aI h
 have e0:bS (aQ (g 0)) L g ((m+a%2+1)/2) (a-a%2) (aC g a m v) 0=g 0:=by rw[eH (by omega),aI (by omega)]
 by_cases k2:g 0=2
 ·have hs:aQ (g 0)=22:=by unfold aQ;rw[if_neg (by omega)]
  rw[ib (by omega),eH (by omega),aI h]
 rw[nC (by rw[e0];exact k2),eH (by omega),aI h]
theorem Jj {g:Nat→Int}(hg:az g)(L a m:Nat)(v:Int):az (d_ g L a m v):=by
 unfold d_
 split
 ·exact dx hg _ _ _
 exact pW (dV _ _ _ (dx hg _ _ _))
theorem pJ (k:Int):aQ k=18∨aQ k=22:=by unfold aQ;split;exact .inl rfl;exact .inr rfl
theorem yI {g:Nat→Int}{L a m:Nat}{v:Int}(ha:24≤a)(hp:aB g L=0):aB (d_ g L a m v) L=0:=by
 obtain ⟨h1,h2⟩:=iO hp
 have hA:=pJ (g 0)
 have e:∀j,j<24→(j<aQ (g 0)∨aQ (g 0)+2≤j)→d_ g L a m v j=g j:=fun j hj h=>vP (by omega) h (by omega)
 unfold aB
 rw[qu (g:=g) (fun j hj=>e j (by omega) (by omega)),if_pos h1,mZ (g:=g) (e 0 (by omega) (by omega)) (e 17 (by omega) (by omega))
  (fun k=>e 20 (by omega) (by rw[show aQ (g 0)=22 from by unfold aQ;rw[if_neg k]];omega)) (fun k=>e 21 (by omega) (by rw[show aQ (g 0)=22 from by unfold aQ;rw[if_neg k]];omega)),h2]
theorem f7 {g:Nat→Int}{L:Nat}(hp:aB g L=0):24≤L∧L≤1500∧g 0≠0∧isK (g 0)=true:=by
 obtain ⟨h1,h2⟩:=iO hp
 have h3:=pU h1
 have h4:=pZ h2 h3.2.1
 have h5:=h3.2.1
 unfold isK at h5
 simp at h5
 exact⟨h4.1,h3.2.2.2.1,by omega,h3.2.1⟩
theorem zM {x:Nat→Int}{n:Nat}(h16:16≤n)(hk:isK (x 0)=true)(hp:aU x n 2=n)(hn:n≤1500)(ma:x 13=0)(ht:norm (tot x 16)=65535):bT x n=0:=by
 unfold bT
 rw[if_neg (by omega),if_neg (by rw[hk];decide),hp,ma,ht,if_neg (by simp;omega),if_neg (by decide)]
theorem qt {g x:Nat→Int}{n:Nat}(hx:az x)(hg:az g)(h:bT g n=0)(h0:x 0=g 0)(h2:x 2=g 2)(h3:x 3=g 3)(ma:x 13=g 13)(ht:tot x 16%65535=tot g 16%65535):bT x n=0:=by
 obtain ⟨a1,a2,a3,a4,a5,a6⟩:=pU h
 refine zM a1 (by rw[h0];exact a2) (by rw[gm (x:=x) (y:=g) h2 (fun _=>h3) (by omega)];exact a3) a4 (by rw[ma];exact a5) ?_
 have k0:x 0≠0:=by rw[h0];unfold isK at a2;simp at a2;omega
 have g1:=(lD (eY g hg 16)).1 a6
 exact(lD (eY x hx 16)).2 ⟨t3 hx (j:=0) (by omega) k0,by rw[ht];exact g1.2⟩
theorem gy {g:Nat→Int}{j:Nat}(h:j≠1)(h':j<14∨16≤j):aX g j=g j:=by
 unfold aX
 rw[aI h']
 unfold set1
 rw[if_neg h]
theorem yk {g:Nat→Int}{L:Nat}(h:jC g L=0):aB g L=0∧1<g 1:=by
 unfold jC at h
 split at h
 ·contradiction
 rename_i hp
 split at h
 ·cases h
 exact⟨by simpa using hp,by omega⟩
theorem Df {g:Nat→Int}(hg:az g)(h1:1<g 1):tot (aX g) 16%65535=tot g 16%65535:=by
 have hx:az (set1 g 1 (g 1-1)):=fun j=>by have:=hg 1;unfold set1;split;omega;exact hg j
 have b1:=bP hg 14
 have b2:=bP hg 0
 have b3:=bP hx 0
 have ht:=tZ (num g 14 2) (num g 0 2) (num (set1 g 1 (g 1-1)) 0 2) b1.1 b1.2 b2.1 b2.2 b3.1 b3.2
 have hm:=ry (num g 14 2) (num g 0 2) (num (set1 g 1 (g 1-1)) 0 2)
 have e:=oe (set1 g 1 (g 1-1)) 7 (turn (num g 14 2) (num g 0 2) (num (set1 g 1 (g 1-1)) 0 2)) ht.1 ht.2 16 (by omega)
 have e1:=yO g 1 (g 1-1) 16 (by omega)
 have e2:num (set1 g 1 (g 1-1)) (2*7) 2=num g 14 2:=nx fun j h1 h2=>by unfold set1;rw[if_neg (by omega)]
 have e3:num (set1 g 1 (g 1-1)) 0 2=num g 0 2-1:=by rw[i_,i_,Nat.zero_add];unfold set1;rw[if_neg (by omega),if_pos rfl];omega
 rw[if_neg (by decide)]at e1
 unfold aX
 rw[show aC (set1 g 1 (g 1-1)) 14 2 (turn (num g 14 2) (num g 0 2) (num (set1 g 1 (g 1-1)) 0 2))=aC (set1 g 1 (g 1-1)) (2*7) 2 (turn (num g 14 2) (num g 0 2) (num (set1 g 1 (g 1-1)) 0 2)) from rfl,e,e1,e2]
 rw[e3]at hm ⊢
 omega
theorem jS {g:Nat→Int}{L:Nat}(hg:az g)(h:jC g L=0):az (aX g):=by
 have h1:=(yk h).2
 have h2:=hg 1
 unfold aX
 exact dx (fun j=>by unfold set1;split;omega;exact hg j) _ _ _
theorem qN {g:Nat→Int}{L:Nat}(hg:az g)(h:jC g L=0):aB (aX g) L=0:=by
 obtain ⟨hp,h1⟩:=yk h
 obtain ⟨p1,p2⟩:=iO hp
 unfold aB
 rw[qt (jS hg h) hg p1 (gy (by omega) (by omega)) (gy (by omega) (by omega)) (gy (by omega) (by omega)) (gy (by omega) (by omega)) (Df hg h1),if_pos rfl,
  mZ (g:=g) (gy (by omega) (by omega)) (gy (by omega) (by omega)) (fun _=>gy (by omega) (by omega)) (fun _=>gy (by omega) (by omega)),p2]
def aA (s:Bool):Nat:=if s=true then 4 else 8
def pA (s:Bool):Nat:=if s=true then 16 else 18
theorem kZ (g:Nat→Int)(s:Bool)(ad po:Int):aE g s ad po=aC (aC g (aA s) 4 ad) (pA s) 2 po:=by cases s <;> rfl
theorem rp (s:Bool):aA s=4∧pA s=16∨aA s=8∧pA s=18:=by cases s;exact .inr ⟨rfl,rfl⟩;exact .inl ⟨rfl,rfl⟩
theorem pS (g:Nat→Int)(L:Nat)(s:Bool)(ad po:Int):bQ g L s ad po=if dz g=true then bS 14 L g 2 (aA s) (aE g s ad po) else dp (bS 22 L g 1 (pA s) (bS 22 L g 2 (aA s) (bS 14 L g 2 (aA s) (aE g s ad po)))):=by cases s <;> rfl
theorem Ef {g:Nat→Int}{L:Nat}{ad po:Int}(h:gE g L ad po=0):aB g L=0∧g 0≠3∧bW ad 4294967295=true∧bW po 65535=true:=by
 unfold gE at h
 split at h
 ·contradiction
 rename_i hp
 split at h
 ·cases h
 rename_i h3
 split at h
 ·rename_i hr
  simp at hr
  exact⟨by simpa using hp,h3,hr.1,hr.2⟩
 cases h
theorem ov {g:Nat→Int}(hg:az g)(s:Bool)(ad po:Int):az (aE g s ad po):=by rw[kZ];exact dx (dx hg _ _ _) _ _ _
theorem pR {g:Nat→Int}(hg:az g)(L:Nat)(s:Bool)(ad po:Int):az (bQ g L s ad po):=by
 rw[pS]
 split
 ·exact dV _ _ _ (ov hg _ _ _)
 exact pW (dV _ _ _ (dV _ _ _ (dV _ _ _ (ov hg _ _ _))))
theorem xt {g:Nat→Int}{L:Nat}{s:Bool}{ad po:Int}{j:Nat}(h:j<14∨16≤j)(h':j<22∨24≤j):bQ g L s ad po j=aE g s ad po j:=by
 rw[pS]
 split
 ·exact eH h _ _ _
 rw[ib h',eH h',eH h',eH h]
theorem rT {g:Nat→Int}{s:Bool}{ad po:Int}{j:Nat}(h:j<aA s∨aA s+4≤j)(h':j<pA s∨pA s+2≤j):aE g s ad po j=g j:=by rw[kZ,aI h',aI h]
theorem E9 {g x y:Nat→Int}{L q:Nat}(h0:x (2*q)=y (2*q))(h1:2*q+1<L→x (2*q+1)=y (2*q+1))(hq:2*q<L):dP g x L q=dP g y L q:=by
 unfold dP
 rw[gm (x:=x) (y:=y) h0 h1 hq]
theorem zk {g:Nat→Int}{L:Nat}{s:Bool}{ad po:Int}(hg:az g)(hL:24≤L):tot (bQ g L s ad po) 16%65535=tot g 16%65535:=by
 have ha:=rp s
 have hx:=ov hg s ad po
 have e1:tot (bQ g L s ad po) 16=tot (bS 14 L g 2 (aA s) (aE g s ad po)) 16:=fX _ _ _ fun j hj=>by
  rw[pS]
  split
  ·rfl
  rw[ib (by omega),eH (by omega),eH (by omega)]
 obtain ⟨q,hq⟩:∃q,aA s=2*q:=⟨aA s/2,by omega⟩
 rw[e1,hq]
 have hmain:=qe (F:=fun x=>tot x 16) (s:=14) (L:=L) hg 7 rfl (by omega) (fun _=>True) (fun _ _ _=>trivial) (fun x v hB _ hv hv'=>by
  have:=oe x 7 v hv hv' 16 (by omega);exact this) 2 q (aE g s ad po) hx trivial (fun q' h1 h2=>by omega)
 rw[hmain]
 have e2:tot (aE g s ad po) 16=tot (aC g (aA s) 4 ad) 16:=fX _ _ _ fun j hj=>by rw[kZ,aI (by omega)]
 have e3:dS (dP g (aE g s ad po) L) q 2=dS (dP g (aC g (aA s) 4 ad) L) q 2:=sB 2 q fun q' h1 h2=>E9 (by rw[kZ,aI (by omega)]) (fun _=>by rw[kZ,aI (by omega)]) (by omega)
 have hd:=yP (g:=g) (x:=aC g (aA s) 4 ad) (L:=L) (a:=q) (k:=2) (n:=8) (by omega) (by omega) (fun j hj=>aI (by omega))
 rw[show min (2*8) L=16 from by omega]at hd
 rw[e2,e3]
 omega
theorem xq {g:Nat→Int}{L:Nat}{s:Bool}{ad po:Int}(hg:az g)(h:gE g L ad po=0):aB (bQ g L s ad po) L=0:=by
 obtain ⟨hp,h3,_,_⟩:=Ef h
 obtain ⟨p1,p2⟩:=iO hp
 have pf:=f7 hp
 have ha:=rp s
 have o:∀j,(j<4∨j=13∨j=20∨j=21)→bQ g L s ad po j=g j:=fun j hj=>by rw[xt (by omega) (by omega),rT (by omega) (by omega)]
 have hb:cg (bQ g L s ad po) L=cg g L:=by
  unfold cg
  rw[o 0 (by omega),if_neg h3,if_neg h3,o 20 (by omega),o 21 (by omega)]
 unfold aB
 rw[qt (pR hg _ _ _ _) hg p1 (o 0 (by omega)) (o 2 (by omega)) (o 3 (by omega)) (o 13 (by omega)) (zk hg pf.1),if_pos rfl,hb,p2]
end Go.Proofs.YtgfonkagnambiaaGreat
