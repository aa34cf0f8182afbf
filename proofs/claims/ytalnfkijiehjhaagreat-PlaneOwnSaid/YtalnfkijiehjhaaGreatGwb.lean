/- Parse. Sums that are turned. What packets' functions tell. What is built. What is built is read as it was. What changes keep. What Age keeps. What Nat keeps. What Nat's packet is read as. -/
import Derived.Test.YtalnfkijiehjhaaGreatGa
import Derived.Test.YtalnfkijiehjhaaGreatGw
import Derived.Deep.CutRange
import Derived.BigQuiet
import Derived.Deep.RegionHeld3
import Derived.Deep.Cut
namespace Go.Proofs.YtalnfkijiehjhaaGreat
open List renaming setIfInBounds_toArray→zA,set_cons_zero→zB,set_cons_succ→zC
set_option linter.unusedVariables false
set_option linter.unusedSimpArgs false
open Go.RowKit Go.ChangeShapes Go.WideShapes Go.ChangeAt
theorem af {w w':World}{B b:Nat}(h:w.grownBy w' (some b))(hb:B≤b)(hB:B≤w.heap.size):Below B w w':=
 ⟨h.os,h.tape,h.output,h.size,fun k hk=>h.block k (Nat.lt_of_lt_of_le hk hB) (fun e=>by injection e with e;omega)⟩
theorem qZW{P:Prop}(h:P:=by
 refine⟨h.1,?_⟩
 rcases h.2 with h0 |⟨g',cap,cur,rfl,hB,hh,h1⟩
 ·exact .inl h0
 refine .inr ⟨g',cap,cur,rfl,hB,?_,h1⟩
 have hlt:g'<w.heap.size:=by
  rcases Nat.lt_or_ge g' w.heap.size with hlt |hge
  ·exact hlt
  rw[Array.getElem?_eq_none hge]at hh;cases hh
 rw[hg.block g' hlt hne]
 exact hh
 ):P:=h
theorem OB.grown {w w':World}{B n b:Nat}{v:Value}{g:Nat→Int}(h:OB w B v n g)(hg:w.grownBy w' (some b))(hne:v.ownBlock≠some b):OB w' B v n g:=by
 exact qZW
theorem OB.base {w:World}{B B' n:Nat}{v:Value}{g:Nat→Int}(h:OB w B v n g)(hB:B'≤B):OB w B' v n g:=by
 refine⟨h.1,?_⟩
 rcases h.2 with h0 |⟨g',cap,cur,rfl,hb,h1⟩
 ·exact .inl h0
 exact .inr ⟨g',cap,cur,rfl,Nat.le_trans hB hb,h1⟩
theorem OB.ne {w:World}{B n b:Nat}{v:Value}{g:Nat→Int}(h:OB w B v n g)(hb:b<B):v.ownBlock≠some b:=by
 rcases h.2 with ⟨rfl,_⟩ |⟨g',cap,cur,rfl,hB,h1⟩
 ·intro e;cases e
 intro e
 simp only[Value.ownBlock,Option.some.injEq]at e
 omega
section
variable {P:Program}{Q:Exit→Act→World→Prop}{md:Region.Mode}{S:World→Prop}
end
def cK (w:World)(b:Nat)(v0 v1 v2 v3 v4 v5 v6 v7 v8 v9 v10 v11 v12:Value):World:=(((((((((((((w.setCell ⟨b,0,none⟩ v0).setCell ⟨b,1,none⟩ v1).setCell ⟨b,2,none⟩ v2).setCell ⟨b,3,none⟩ v3).setCell ⟨b,4,none⟩ v4).setCell ⟨b,5,none⟩ v5).setCell ⟨b,6,none⟩ v6).setCell ⟨b,7,none⟩ v7).setCell ⟨b,8,none⟩ v8).setCell ⟨b,9,none⟩ v9).setCell ⟨b,10,none⟩ v10).setCell ⟨b,11,none⟩ v11).setCell ⟨b,12,none⟩ v12)
theorem Ce.s13 {w:World}{b:Nat}{x0 x1 x2 x3 x4 x5 x6 x7 x8 x9 gj gi gg:Value}(h:Ce w b [x0,x1,x2,x3,x4,x5,x6,x7,x8,x9,gj,gi,gg])(v0 v1 v2 v3 v4 v5 v6 v7 v8 v9 v10 v11 v12:Value):Ce (cK w b v0 v1 v2 v3 v4 v5 v6 v7 v8 v9 v10 v11 v12) b [v0,v1,v2,v3,v4,v5,v6,v7,v8,v9,v10,v11,v12]:=
 (((((((((((((h.set 0 v0 (by simp)).set 1 v1 (by simp)).set 2 v2 (by simp)).set 3 v3 (by simp)).set 4 v4 (by simp)).set 5 v5 (by simp)).set 6 v6 (by simp)).set 7 v7 (by simp)).set 8 v8 (by simp)).set 9 v9 (by simp)).set 10 v10 (by simp)).set 11 v11 (by simp)).set 12 v12 (by simp))
theorem dz {B:Nat}{w w':World}{b:Nat}(h:Below B w w')(hb:B≤b)(v0 v1 v2 v3 v4 v5 v6 v7 v8 v9 v10 v11 v12:Value):Below B w (cK w' b v0 v1 v2 v3 v4 v5 v6 v7 v8 v9 v10 v11 v12):=
 ((((((((((((h.setCell (p:=⟨b,0,none⟩) hb _).setCell (p:=⟨b,1,none⟩) hb _).setCell (p:=⟨b,2,none⟩) hb _).setCell (p:=⟨b,3,none⟩) hb _).setCell (p:=⟨b,4,none⟩) hb _).setCell (p:=⟨b,5,none⟩) hb _).setCell (p:=⟨b,6,none⟩) hb _).setCell (p:=⟨b,7,none⟩) hb _).setCell (p:=⟨b,8,none⟩) hb _).setCell (p:=⟨b,9,none⟩) hb _).setCell (p:=⟨b,10,none⟩) hb _).setCell (p:=⟨b,11,none⟩) hb _).setCell (p:=⟨b,12,none⟩) hb _
theorem aY (w:World)(b:Nat)(v0 v1 v2 v3 v4 v5 v6 v7 v8 v9 v10 v11 v12:Value):w.grownBy (cK w b v0 v1 v2 v3 v4 v5 v6 v7 v8 v9 v10 v11 v12) (some b):=by
 unfold cK
 iterate 13 (refine gs _ _ ?_)
 exact World.grownBy.refl _ _
structure Pk where
 kind:Int:=0
 life:Int:=0
 piece:Int:=0
 src:Int:=0
 dst:Int:=0
 fp:Int:=0
 tp:Int:=0
 flags:Int:=0
 label:Int:=0
 bare:Bool:=false
 code:Int:=0
 no:Nat:=0
 go:Nat→Int:=fun _=>0
 nd:Nat:=0
 gd:Nat→Int:=fun _=>0
def de (p:Pk)(O D:Value):List Value:=[p.kind,p.life,p.piece,p.src,p.dst,p.fp,p.tp,p.flags,p.label,p.bare,p.code,O,D]
def ct (p:Pk)(O D:Value):Value:=.agg (de p O D).toArray
def eY (g:Nat→Int)(n:Nat):Pk:=
 if g 0=3 then { kind:=g 0,life:=g 1,piece:=g 12,src:=num g 4 4,dst:=num g 8 4,code:=g 16,nd:=n-20,gd:=fun j=>g (20+j) }
 else if g 0=2 then { kind:=g 0,life:=g 1,piece:=g 12,src:=num g 4 4,dst:=num g 8 4,fp:=num g 16 2,tp:=num g 18 2,label:=num g 20 2,bare:=num g 22 2==0,nd:=n-24,gd:=fun j=>g (24+j) }
 else { kind:=g 0,life:=g 1,piece:=g 12,src:=num g 4 4,dst:=num g 8 4,fp:=num g 16 2,tp:=num g 18 2,flags:=g 20,no:=(g 21).toNat,go:=fun j=>g (24+j),nd:=n-24-(g 21).toNat,gd:=fun j=>g (24+(g 21).toNat+j) }
def ax (g:Nat→Int)(n:Nat):Pk:=if az g n=0 then eY g n else {}
def Parsed (w:World)(g:Nat→Int)(n:Nat)(e:Ending)(w':World):Prop:=
 ∃O D:Value,e =.returned (.tuple #[ct (ax g n) O D,(az g n)])∧OB w' w.heap.size O (ax g n).no (ax g n).go∧OB w' w.heap.size D (ax g n).nd (ax g n).gd∧Below w.heap.size w w'
theorem OB.nil {w:World}{B:Nat}{g:Nat→Int}:OB w B (.slice none 0 0) 0 g:=Ow.none_
theorem qs {P:Program}{F:FuncId}{args:Array Value}{w:World}{v:Value}(h:Calls P F args w fun e w'=>e =.returned v∧w=w'):Calls P F args w fun e w'=>e =.returned v∧w'=w:=h.mono fun _ _ ⟨a,b⟩=>⟨a,b.symm⟩
theorem tc {g:Nat→Int}{n:Nat}(h:dk g n=0)(hk:isK (g 0)=true):24≤n∧(g 0=3∧44≤n∨g 0=2∨g 0=1∧g 20≤15∧g 21≤40∧g 21≤(n:Int)-24):=by
 unfold isK at hk
 simp at hk
 unfold dk at h
 split at h
 ·split at h
  ·cases h
  exact⟨by omega,.inl ⟨by assumption,by omega⟩⟩
 split at h
 ·cases h
 split at h
 ·cases h
 rename_i h3 jc h5
 refine⟨by omega,.inr ?_⟩
 by_cases h1:g 0=1
 ·refine .inr ⟨h1,?_,?_,?_⟩ <;> (have:=fun x=>h5 ⟨h1,x⟩;omega)
 exact .inl (by omega)
theorem OB.nR {w w':World}{B n:Nat}{v:Value}{g:Nat→Int}(h:OB w B v n g)(hb:Below w.heap.size w w'):OB w' B v n g:=Ow.keep h hb (Nat.le_refl _)
theorem Ex {w:World}{n c b off:Nat}{g:Nat→Int}(h:By w (some ⟨b,off,none⟩) n g)(hg:aC g)(a:Nat)(ha:a+2≤n)(hc:n≤c)(hb:n≤1000000) :
 Calls Tryz.prog 86 #[.slice (some ⟨b,off,none⟩) n c,a] w fun e w2=>e =.returned (.int .i64 (num g a 2))∧w=w2:=by
 have:=fj (some ⟨b,off,none⟩) n c g w h hg a (by omega) hc hb
 rw[show aL g n a=num g a 2 from by unfold aL;rw[if_neg (by omega)]]at this
 exact this
theorem bT {w w':World}{n b off L:Nat}{g:Nat→Int}(h:By w (some ⟨b,off,none⟩) n g)(hg:w.grownBy w' (some L))(hne:b≠L):By w' (some ⟨b,off,none⟩) n g:=by
 intro hn
 obtain ⟨b',off',e,hlt,hc⟩:=h hn
 injection e with e
 injection e with e1 e2
 subst e1;subst e2
 exact⟨b,off,rfl,Nat.lt_of_lt_of_le hlt hg.size,fun j hj=>(World.cell?_of_block (a:=⟨b,off+j,none⟩) (hg.block b hlt (fun e=>hne (by injection e)))).trans (hc j hj)⟩
theorem oW {w:World}{n b off:Nat}{g:Nat→Int}(h:By w (some ⟨b,off,none⟩) n g)(hg:aC g)(a:Nat)(ha:a+4≤n)(c:Nat) :
 Calls Tryz.prog 84 #[.slice (some ⟨b,off+a,none⟩) 4 c] w fun e w2=>e =.returned (.int .i64 (num g a 4))∧w=w2:=by
 have:=rN (some ⟨b,off+a,none⟩) 4 c (fun j=>g (a+j)) w (Sl.cut h 4 ha) (fun j=>hg _) (by omega)
 rw[oU]at this
 exact this
theorem Ce.bo {w:World}{b:Nat}{l:List Value}(h:Ce w b l):Ce w.drew b l:=h
theorem qZA{P:Prop}(h:P:=by
 exact⟨.slice none 0 0,.slice none 0 0,by rw[HR.out,HE.out],by rw[HR.out];exact OB.nil,by rw[HR.out];exact OB.nil,hbf⟩
 ):P:=h
theorem qY5{P:Prop}(h:P:=by
 go_simp
 refine hK.out _ _ ⟨hHeld.1.alloc _,hHeld.2.1.alloc _,hHeld.2.2.alloc hHeld.2.2.size _⟩ (fun _=>?_)
 clear hK
 try simp only[Act.put,zA,zB,zC]
 refine wpAnyH_done (by kernel_rfl) ?_ _
 go_wp2_with fail
 go_meet
 exact⟨_,rfl,jM,(Ce.made (w:=w1) (l:=[(g 0),(g 1),(g 12),(num g 4 4),(num g 8 4),(),(),(),(),false,(),.slice none 0 0,.slice none 0 0]) rfl).bo,(h2.out.alloc _).drew,(fz.out.alloc _).bo,(B2.out.alloc B2.out.size _).drew⟩
 ):P:=h
theorem qQL{P:Prop}(h:P:=by
 exact qY5
 ):P:=h
theorem qJV{P:Prop}(h:P:=by
 clear hK
 try simp only[Act.put,zA,zB,zC]
 refine only 17 rfl (by kernel_rfl) rfl (fun K hK=>?_)
 go_simp
 refine(oW cH.1 HG.out 8 (by omega) _).mono ?_
 rintro e' w' ⟨rfl,rfl⟩
 try go_wp2_with fail
 refine hK.out _ _ cH (fun _=>?_)
 clear hK
 try simp only[Act.put,zA,zB,zC]
 refine ae 18 (by assumption) ?_
 refine only 20 rfl (by kernel_rfl) rfl (fun K hK=>?_)
 exact qQL
 ):P:=h
set_option maxRecDepth 100000 in
set_option maxHeartbeats 8000000 in
theorem jm (A:Option Addr)(n c:Nat)(g:Nat→Int)(w:World)(h:By w A n g)(hg:aC g)(hc:n≤c)(hb:n≤1000000) :
 Calls Tryz.prog 43 #[.slice A n c] w (Parsed w g n):=by
 have hz:∀w:World,(zeroValue 53).run Tryz.prog w =.ok (.agg #[(),(),(),(),(),(),(),(),(),false,(),.slice none 0 0,.slice none 0 0]) w:=fun w=>by kernel_rfl
 obtain ⟨he,vk⟩:∃z,z=cC g n:=⟨_,rfl⟩
 have HH:=hid (fun w (h:By w A n g)=>c_ (DN A n c g w h hg hc hb) vk.symm)
 by_cases h0:he=0
 ·subst h0
  have hh:=lD vk.symm
  obtain ⟨be,hbe⟩:∃z,z=dk g n:=⟨_,rfl⟩
  have HB:=hid (fun w (h:By w A n g)=>c_ (BL A n c g w h hg hh.1 hb) hbe.symm)
  have hE:az g n=be:=by unfold az;rw[if_pos vk.symm,hbe]
  by_cases b0:be=0
  ·subst b0
   have HE:=hid hE
   have hn16:=hh.1
   have hgb:=tc hbe.symm hh.2.1
   have CR:=(Ce.made (w:=w) (l:=[(),(),(),(),(),(),(),(),(),false,(),.slice none 0 0,.slice none 0 0]) (T:=53) rfl)
   have B1:=(Below.refl w.heap.size w).alloc (Nat.le_refl _) (.cells #[(),(),(),(),(),(),(),(),(),false,(),.slice none 0 0,.slice none 0 0] 53)
   have JY:Hid (ax g n=eY g n):=hid (by unfold ax;rw[hE,if_pos rfl])
   replace CR:=hid CR
   replace B1:=hid B1
   have h1:=hid (h.below B1.out (Nat.le_refl _))
   have HG:=hid hg
   have mc:=hid hgb
   have nA:=hid h
   clear vk hbe hh hE h hg hgb
   go_enter Tryz.func43,Tryz.ntmps43
   go_wp2_with fail
   refine(HH.out _ h1.out).mono ?_
   rintro x w' ⟨rfl,m,rfl⟩
   go_wp2_with fail
   refine(HB.out _ (Sl.drewN h1.out m)).mono ?_
   rintro x w' ⟨rfl,rfl⟩
   go_upto_region 7 with (fail)
   have fz:=hid (Ce.below CR.out (below_drewN (Below.refl _ _) m))
   have B2:=hid (below_drewN B1.out m)
   have h2:=hid (Sl.drewN h1.out m)
   have jM:=fz.out.1
   clear CR B1 h1 HH HB
   simp only[List.toArray]at fz
   generalize (w.alloc (.cells #[(),(),(),(),(),(),(),(),(),false,(),.slice none 0 0,.slice none 0 0] 53)).drewN m=w1 at *
   obtain ⟨b,off,rfl,hblt,hcell⟩:=h2.out (by omega)
   have hbw:b<w.heap.size:=Sl.lt nA.out (by omega)
   have c0:=hcell 0 (by omega)
   have c1:=hcell 1 (by omega)
   have c12:=hcell 12 (by omega)
   rw[Nat.add_zero]at c0
   have xx:=HG.out 0
   have ov:=HG.out 1
   have rn:=HG.out 12
   obtain ⟨Qq,Qp⟩:=xx
   obtain ⟨DX,DW⟩:=ov
   obtain ⟨yF,yE⟩:=rn
   have i1:(12:Int)<n:=by omega
   have i2:(1:Int)<n:=by omega
   have i3:(0:Int)<n:=by omega
   have j3:0<n:=by omega
   have v0:IntKind.i64.wrap (g 0)=g 0:=IntWalk.i64_in _ (by omega)
   have v1:IntKind.i64.wrap (g 1)=g 1:=IntWalk.i64_in _ (by omega)
   have v2:IntKind.i64.wrap (g 12)=g 12:=IntWalk.i64_in _ (by omega)
   have j2:1<n:=by omega
   have j1:12<n:=by omega
   have i4:(8:Int)≤c:=by omega
   have i5:(12:Int)≤c:=by omega
   have k4:¬c=4:=by omega
   have k8:¬c=8:=by omega
   clear hcell c0 c1 c12
   go_cut [6] from 20 (fun p wx=>∃L:Nat,p =.pointer (some ⟨L,0,none⟩)∧w.heap.size<L∧Ce wx L [(g 0),(g 1),(g 12),(num g 4 4),(num g 8 4),(),(),(),(),false,(),.slice none 0 0,.slice none 0 0]∧By wx (some ⟨b,off,none⟩) n g∧Ce wx w.heap.size [(),(),(),(),(),(),(),(),(),false,(),.slice none 0 0,.slice none 0 0]∧Below w.heap.size w wx)
   case first=>
    refine wp_region_held_drew (S:=fun w'=>By w' (some ⟨b,off,none⟩) n g∧Ce w' w.heap.size [(),(),(),(),(),(),(),(),(),false,(),.slice none 0 0,.slice none 0 0]∧Below w.heap.size w w') (by kernel_rfl) ?_ (fun hHeld=>?_)
    ·exact⟨h2.out.drew,fz.out,below_drewN B2.out 1⟩
    refine ae 0 (by assumption) ?_
    refine ae 1 (by assumption) ?_
    refine ae 2 (by assumption) ?_ (hy:=by intro w hSw;(try dsimp only at hSw);obtain ⟨hA,hC,hB⟩:=hSw;have z0:=hA.at_ (j:=0) (by omega);have z1:=hA.at_ (j:=1) (by omega);have z12:=hA.at_ (j:=12) (by omega);rw[Nat.add_zero]at z0;go_simp;(try with_reducible rfl))
    refine ae 3 (by assumption) ?_
    refine ae 4 (by assumption) ?_
    refine ae 5 (by assumption) ?_
    refine ae 6 (by assumption) ?_ (hy:=by intro w hSw;(try dsimp only at hSw);obtain ⟨hA,hC,hB⟩:=hSw;have z0:=hA.at_ (j:=0) (by omega);have z1:=hA.at_ (j:=1) (by omega);have z12:=hA.at_ (j:=12) (by omega);rw[Nat.add_zero]at z0;go_simp;(try with_reducible rfl))
    refine ae 7 (by assumption) ?_
    refine ae 8 (by assumption) ?_
    refine ae 9 (by assumption) ?_
    refine ae 10 (by assumption) ?_ (hy:=by intro w hSw;(try dsimp only at hSw);obtain ⟨hA,hC,hB⟩:=hSw;have z0:=hA.at_ (j:=0) (by omega);have z1:=hA.at_ (j:=1) (by omega);have z12:=hA.at_ (j:=12) (by omega);rw[Nat.add_zero]at z0;go_simp;(try with_reducible rfl))
    refine ae 11 (by assumption) ?_
    refine ae 12 (by assumption) ?_
    refine ae 13 (by assumption) ?_
    refine ae 15 (by assumption) ?_
    refine ae 16 (by assumption) ?_
    refine eX 14 19 rfl rfl (by kernel_rfl) rfl rfl (fun K hK=>?_) (fun K hK=>?_)
    ·go_simp
     refine(oW hHeld.1 HG.out 4 (by omega) _).mono ?_
     rintro e' w' ⟨rfl,rfl⟩
     try go_wp2_with fail
     refine hK.out _ _ hHeld (fun _=>?_)
     clear hK
     try simp only[Act.put,zA,zB,zC]
     refine eX 17 19 rfl rfl (by kernel_rfl) rfl rfl (fun K hK=>?_) (fun K hK=>?_)
     ·go_simp
      refine(oW hHeld.1 HG.out 8 (by omega) _).mono ?_
      rintro e' w' ⟨rfl,rfl⟩
      try go_wp2_with fail
      refine hK.out _ _ hHeld (fun _=>?_)
      clear hK
      try simp only[Act.put,zA,zB,zC]
      refine ae 18 (by assumption) ?_
      refine only 19 rfl (by kernel_rfl) rfl (fun K hK=>?_)
      go_simp
      refine hK.out _ _ ⟨hHeld.1.alloc _,hHeld.2.1.alloc _,hHeld.2.2.alloc hHeld.2.2.size _⟩ (fun cH=>?_)
      clear hK
      try simp only[Act.put,zA,zB,zC]
      refine only 20 rfl (by kernel_rfl) rfl (fun K hK=>?_)
      exact qQL
     go_simp
     refine hK.out _ _ ⟨hHeld.1.alloc _,hHeld.2.1.alloc _,hHeld.2.2.alloc hHeld.2.2.size _⟩ (fun cH=>?_)
     exact qJV
    go_simp
    refine hK.out _ _ ⟨hHeld.1.alloc _,hHeld.2.1.alloc _,hHeld.2.2.alloc hHeld.2.2.size _⟩ (fun cH=>?_)
    clear hK
    try simp only[Act.put,zA,zB,zC]
    refine only 14 rfl (by kernel_rfl) rfl (fun K hK=>?_)
    go_simp
    refine(oW cH.1 HG.out 4 (by omega) _).mono ?_
    rintro e' w' ⟨rfl,rfl⟩
    try go_wp2_with fail
    refine hK.out _ _ cH (fun _=>?_)
    exact qJV
   obtain ⟨L,rfl,hL,bq,hA,fx,hB⟩:=hcut
   replace bq:=hid bq
   replace fx:=hid fx
   replace hA:=hid hA
   replace hB:=hid hB
   have eI:L≠w.heap.size:=Nat.ne_of_gt hL
   have JX:w.heap.size≠L:=Nat.ne_of_lt hL
   have hBlt:b≠L:=by omega
   have IU:b≠w.heap.size:=by omega
   clear fz B2 h2 jM nA
   rcases mc.out.2 with ⟨k3,Qj⟩ |k2 |⟨k1,k20,k21,k24⟩
   ·have q0:(g 0==3)=true:=by simpa using k3
    have vR:Hid (ax g n ={ kind:=g 0,life:=g 1,piece:=g 12,src:=num g 4 4,dst:=num g 8 4,code:=g 16,nd:=n-20,gd:=fun j=>g (20+j) }):=hid (by rw[JY.out];unfold eY;rw[if_pos k3])
    clear k3
    have DY:=HG.out 16
    obtain ⟨KR,KP⟩:=DY
    have c16:=hA.out.at_ (j:=16) (by omega)
    have i16:(16:Int)<n:=by omega
    have i20:(20:Int)≤n:=by omega
    have k20:¬c=20:=by omega
    have y0:=bq.out.2.1 0 _ rfl
    have y1:=bq.out.2.1 1 _ rfl
    have y2:=bq.out.2.1 2 _ rfl
    have y3:=bq.out.2.1 3 _ rfl
    have y4:=bq.out.2.1 4 _ rfl
    have y5:=bq.out.2.1 5 _ rfl
    have y6:=bq.out.2.1 6 _ rfl
    have y7:=bq.out.2.1 7 _ rfl
    have y8:=bq.out.2.1 8 _ rfl
    have y9:=bq.out.2.1 9 _ rfl
    have al:=bq.out.2.1 10 _ rfl
    have ak:=bq.out.2.1 11 _ rfl
    have aj:=bq.out.2.1 12 _ rfl
    have yf:=bq.out.2.2
    have J4:=fun v=>hid (bq.out.set 10 (.int .i64 v) (by simp))
    have J3:=fun v=>hid (fx.out.grown (gs 10 (.int .i64 v) (World.grownBy.refl wc (some L))) (fun e=>eI (by injection e)))
    have HA2:=fun v=>hid (bT hA.out (gs 10 (.int .i64 v) (World.grownBy.refl wc (some L))) hBlt)
    go_wp2_with fail
    refine(gZ _ (n-20) _ (fun j=>g (20+j)) _ (Sl.cut (HA2 (g 16)).out (n-20) (by omega)) (by omega)).mono ?_
    rintro x w2 ⟨G,rfl,hG,hO,hb⟩
    have hG2:wc.heap.size≤G:=by simpa using hG
    have rW:=bq.out.1
    have jj:=hid ((J4 (g 16)).out.below hb)
    have i7:=hid ((J3 (g 16)).out.below hb)
    have HB3:=hid (then_ (hB.out.setCell (p:=⟨L,10,none⟩) (Nat.le_of_lt hL) (.int .i64 (g 16))) hb)
    have vS:=hid (OB.base hO (show wc.heap.size≤_ by simp))
    clear J4 J3 HA2 hb hO hG c16
    clear y0 y1 y2 y3 y4 y5 y6 y7 y8 y9 al ak aj yf
    have y0:=jj.out.2.1 0 _ rfl
    have y1:=jj.out.2.1 1 _ rfl
    have y2:=jj.out.2.1 2 _ rfl
    have y3:=jj.out.2.1 3 _ rfl
    have y4:=jj.out.2.1 4 _ rfl
    have y5:=jj.out.2.1 5 _ rfl
    have y6:=jj.out.2.1 6 _ rfl
    have y7:=jj.out.2.1 7 _ rfl
    have y8:=jj.out.2.1 8 _ rfl
    have y9:=jj.out.2.1 9 _ rfl
    have al:=jj.out.2.1 10 _ rfl
    have ak:=jj.out.2.1 11 _ rfl
    have aj:=jj.out.2.1 12 _ rfl
    have yf:=jj.out.2.2
    have z0:=i7.out.2.1 0 _ rfl
    have z1:=i7.out.2.1 1 _ rfl
    have z2:=i7.out.2.1 2 _ rfl
    have z3:=i7.out.2.1 3 _ rfl
    have z4:=i7.out.2.1 4 _ rfl
    have z5:=i7.out.2.1 5 _ rfl
    have z6:=i7.out.2.1 6 _ rfl
    have z7:=i7.out.2.1 7 _ rfl
    have z8:=i7.out.2.1 8 _ rfl
    have z9:=i7.out.2.1 9 _ rfl
    have kB:=i7.out.2.1 10 _ rfl
    have kz:=i7.out.2.1 11 _ rfl
    have z12:=i7.out.2.1 12 _ rfl
    have zf:=i7.out.2.2
    have yl:=jj.out.1
    have zl:=i7.out.1
    go_wp2_with fail
    have CE:=(i7.out.grown (gs 12 (.slice (some ⟨G,0,none⟩) (n-20) (n-20)) (World.grownBy.refl w2 (some L))) (fun e=>eI (by injection e))).s13 (.int .i64 (g 0)) (.int .i64 (g 1)) (.int .i64 (g 12)) (.int .i64 (num g 4 4)) (.int .i64 (num g 8 4)) (.int .i64 0) (.int .i64 0) (.int .i64 0) (.int .i64 0) (.bool false) (.int .i64 (g 16)) (.slice none 0 0) (.slice (some ⟨G,0,none⟩) (n-20) (n-20))
    have BE:=dz (b:=w.heap.size) (HB3.out.setCell (p:=⟨L,12,none⟩) (Nat.le_of_lt hL) (.slice (some ⟨G,0,none⟩) (n-20) (n-20))) (Nat.le_refl _) (.int .i64 (g 0)) (.int .i64 (g 1)) (.int .i64 (g 12)) (.int .i64 (num g 4 4)) (.int .i64 (num g 8 4)) (.int .i64 0) (.int .i64 0) (.int .i64 0) (.int .i64 0) (.bool false) (.int .i64 (g 16)) (.slice none 0 0) (.slice (some ⟨G,0,none⟩) (n-20) (n-20))
    have dr:=OB.grown (OB.grown vS.out (gs 12 (.slice (some ⟨G,0,none⟩) (n-20) (n-20)) (World.grownBy.refl w2 (some L))) (OB.ne vS.out rW)) (aY _ w.heap.size (.int .i64 (g 0)) (.int .i64 (g 1)) (.int .i64 (g 12)) (.int .i64 (num g 4 4)) (.int .i64 (num g 8 4)) (.int .i64 0) (.int .i64 0) (.int .i64 0) (.int .i64 0) (.bool false) (.int .i64 (g 16)) (.slice none 0 0) (.slice (some ⟨G,0,none⟩) (n-20) (n-20))) (OB.ne (OB.grown vS.out (gs 12 (.slice (some ⟨G,0,none⟩) (n-20) (n-20)) (World.grownBy.refl w2 (some L))) (OB.ne vS.out rW)) (by omega))
    unfold cK at CE BE dr
    replace CE:=hid CE
    replace BE:=hid BE
    replace dr:=hid dr
    refine cV (fun w'=>Ce w' w.heap.size [(g 0),(g 1),(g 12),(num g 4 4),(num g 8 4),(),(),(),(),false,(g 16),.slice none 0 0,.slice (some ⟨G,0,none⟩) (n-20) (n-20)]∧Below w.heap.size w w'∧OB w' wc.heap.size (.slice (some ⟨G,0,none⟩) (n-20) (n-20)) (n-20) (fun j=>g (20+j))) ⟨CE.out,BE.out,dr.out⟩ (fun wf hwf=>?_)
    obtain ⟨hc2,hbf,ho0⟩:=hwf
    have y0:=hc2.2.1 0 _ rfl
    have y1:=hc2.2.1 1 _ rfl
    have y2:=hc2.2.1 2 _ rfl
    have y3:=hc2.2.1 3 _ rfl
    have y4:=hc2.2.1 4 _ rfl
    have y5:=hc2.2.1 5 _ rfl
    have y6:=hc2.2.1 6 _ rfl
    have y7:=hc2.2.1 7 _ rfl
    have y8:=hc2.2.1 8 _ rfl
    have y9:=hc2.2.1 9 _ rfl
    have al:=hc2.2.1 10 _ rfl
    have ak:=hc2.2.1 11 _ rfl
    have aj:=hc2.2.1 12 _ rfl
    refine bodyPost_ret (v:=.tuple #[.agg #[(g 0),(g 1),(g 12),(num g 4 4),(num g 8 4),(),(),(),(),false,(g 16),.slice none 0 0,.slice (some ⟨G,0,none⟩) (n-20) (n-20)],()]) (by simp[results,Tryz.results43,go_sem,y0,y1,y2,y3,y4,y5,y6,y7,y8,y9,al,ak,aj]) rfl ?_
    refine⟨.slice none 0 0,(.slice (some ⟨G,0,none⟩) (n-20) (n-20)),by rw[vR.out,HE.out];rfl,by rw[vR.out];exact OB.nil,by rw[vR.out];exact OB.base ho0 (by omega),hbf⟩
   ·have q0:(g 0==3)=false:=by rw[k2];rfl
    have q1:(g 0==2)=true:=by simpa using k2
    have jB:Hid (ax g n ={ kind:=g 0,life:=g 1,piece:=g 12,src:=num g 4 4,dst:=num g 8 4,fp:=num g 16 2,tp:=num g 18 2,label:=num g 20 2,bare:=num g 22 2==0,nd:=n-24,gd:=fun j=>g (24+j) }):=hid (by rw[JY.out];unfold eY;rw[if_neg (by omega),if_pos k2])
    have PD:Hid (du g=(num g 22 2==0)):=hid (by unfold du;rw[show (g 0==2)=true from by simpa using k2,Bool.true_and])
    have n24:=mc.out.1
    clear k2
    obtain ⟨A9,r1,r2⟩:=eA (some ⟨b,off,none⟩) n c 24 n24 hc 24 rfl
    replace r2:=hid r2
    have PP:=hid (fun (w':World) (hw:By w' (some ⟨b,off,none⟩) n g) (a:Nat) (ha:a+2≤n)=>Ex hw HG.out a ha hc hb)
    have i24:(24:Int)≤n:=by omega
    have y0:=bq.out.2.1 0 _ rfl
    have y1:=bq.out.2.1 1 _ rfl
    have y2:=bq.out.2.1 2 _ rfl
    have y3:=bq.out.2.1 3 _ rfl
    have y4:=bq.out.2.1 4 _ rfl
    have y5:=bq.out.2.1 5 _ rfl
    have y6:=bq.out.2.1 6 _ rfl
    have y7:=bq.out.2.1 7 _ rfl
    have y8:=bq.out.2.1 8 _ rfl
    have y9:=bq.out.2.1 9 _ rfl
    have al:=bq.out.2.1 10 _ rfl
    have ak:=bq.out.2.1 11 _ rfl
    have aj:=bq.out.2.1 12 _ rfl
    have yf:=bq.out.2.2
    have yl:=bq.out.1
    go_wp2_with fail
    refine(PP.out _ hA.out 16 (by omega)).mono ?_
    rintro x w' ⟨rfl,rfl⟩
    go_wp2_with fail
    refine(PP.out _ hA.out 18 (by omega)).mono ?_
    rintro x w' ⟨rfl,rfl⟩
    have C2:=hid (((bq.out).set 5 (.int .i64 (num g 16 2)) (by simp)).set 6 (.int .i64 (num g 18 2)) (by simp))
    have R2:=hid (fx.out.grown (gs 6 (.int .i64 (num g 18 2)) (gs 5 (.int .i64 (num g 16 2)) (World.grownBy.refl wc (some L)))) (fun e=>eI (by injection e)))
    have A2:=hid (bT hA.out (gs 6 (.int .i64 (num g 18 2)) (gs 5 (.int .i64 (num g 16 2)) (World.grownBy.refl wc (some L)))) hBlt)
    have D2:=hid (((hB.out).setCell (p:=⟨L,5,none⟩) (Nat.le_of_lt hL) (.int .i64 (num g 16 2))).setCell (p:=⟨L,6,none⟩) (Nat.le_of_lt hL) (.int .i64 (num g 18 2)))
    have l2:=C2.out.1
    go_wp2_with fail
    refine(PP.out _ A2.out 20 (by omega)).mono ?_
    rintro x w' ⟨rfl,rfl⟩
    go_wp2_with fail
    refine(iS (nS _ n c g _ A2.out HG.out (by omega) (.inr n24) hc hb) PD.out).mono ?_
    rintro x w' ⟨rfl,rfl⟩
    have C3:=hid (((C2.out).set 8 (.int .i64 (num g 20 2)) (by simp)).set 9 (.bool (num g 22 2==0)) (by simp))
    have R3:=hid (R2.out.grown (gs 9 (.bool (num g 22 2==0)) (gs 8 (.int .i64 (num g 20 2)) (World.grownBy.refl ((wc.setCell ⟨L,5,none⟩ (.int .i64 (num g 16 2))).setCell ⟨L,6,none⟩ (.int .i64 (num g 18 2))) (some L)))) (fun e=>eI (by injection e)))
    have A3:=hid (bT A2.out (gs 9 (.bool (num g 22 2==0)) (gs 8 (.int .i64 (num g 20 2)) (World.grownBy.refl ((wc.setCell ⟨L,5,none⟩ (.int .i64 (num g 16 2))).setCell ⟨L,6,none⟩ (.int .i64 (num g 18 2))) (some L)))) hBlt)
    have D3:=hid (((D2.out).setCell (p:=⟨L,8,none⟩) (Nat.le_of_lt hL) (.int .i64 (num g 20 2))).setCell (p:=⟨L,9,none⟩) (Nat.le_of_lt hL) (.bool (num g 22 2==0)))
    go_wp2_with fail
    refine(gZ _ (n-24) _ (fun j=>g (24+j)) _ (r2.out _ g A3.out) (by omega)).mono ?_
    rintro x w4 ⟨G,rfl,hG,hO,EK⟩
    have hG2:wc.heap.size≤G:=by simpa using hG
    have rW:=bq.out.1
    have C4:=hid (C3.out.below EK)
    have R4:=hid (R3.out.below EK)
    have D4:=hid (then_ D3.out EK)
    have O4:=hid (OB.base hO (show wc.heap.size≤_ by simp))
    clear C2 R2 A2 D2 C3 R3 A3 D3 EK hO hG PP
    clear y0 y1 y2 y3 y4 y5 y6 y7 y8 y9 al ak aj yf
    have y0:=C4.out.2.1 0 _ rfl
    have y1:=C4.out.2.1 1 _ rfl
    have y2:=C4.out.2.1 2 _ rfl
    have y3:=C4.out.2.1 3 _ rfl
    have y4:=C4.out.2.1 4 _ rfl
    have y5:=C4.out.2.1 5 _ rfl
    have y6:=C4.out.2.1 6 _ rfl
    have y7:=C4.out.2.1 7 _ rfl
    have y8:=C4.out.2.1 8 _ rfl
    have y9:=C4.out.2.1 9 _ rfl
    have al:=C4.out.2.1 10 _ rfl
    have ak:=C4.out.2.1 11 _ rfl
    have aj:=C4.out.2.1 12 _ rfl
    have yf:=C4.out.2.2
    have z0:=R4.out.2.1 0 _ rfl
    have z1:=R4.out.2.1 1 _ rfl
    have z2:=R4.out.2.1 2 _ rfl
    have z3:=R4.out.2.1 3 _ rfl
    have z4:=R4.out.2.1 4 _ rfl
    have z5:=R4.out.2.1 5 _ rfl
    have z6:=R4.out.2.1 6 _ rfl
    have z7:=R4.out.2.1 7 _ rfl
    have z8:=R4.out.2.1 8 _ rfl
    have z9:=R4.out.2.1 9 _ rfl
    have kB:=R4.out.2.1 10 _ rfl
    have kz:=R4.out.2.1 11 _ rfl
    have z12:=R4.out.2.1 12 _ rfl
    have zf:=R4.out.2.2
    have Ng:=C4.out.1
    have zl:=R4.out.1
    go_wp2_with fail
    have CE:=(R4.out.grown (gs 12 (.slice (some ⟨G,0,none⟩) (n-24) (n-24)) (World.grownBy.refl w4 (some L))) (fun e=>eI (by injection e))).s13 (.int .i64 (g 0)) (.int .i64 (g 1)) (.int .i64 (g 12)) (.int .i64 (num g 4 4)) (.int .i64 (num g 8 4)) (.int .i64 (num g 16 2)) (.int .i64 (num g 18 2)) (.int .i64 0) (.int .i64 (num g 20 2)) (.bool (num g 22 2==0)) (.int .i64 0) (.slice none 0 0) (.slice (some ⟨G,0,none⟩) (n-24) (n-24))
    have BE:=dz (b:=w.heap.size) (D4.out.setCell (p:=⟨L,12,none⟩) (Nat.le_of_lt hL) (.slice (some ⟨G,0,none⟩) (n-24) (n-24))) (Nat.le_refl _) (.int .i64 (g 0)) (.int .i64 (g 1)) (.int .i64 (g 12)) (.int .i64 (num g 4 4)) (.int .i64 (num g 8 4)) (.int .i64 (num g 16 2)) (.int .i64 (num g 18 2)) (.int .i64 0) (.int .i64 (num g 20 2)) (.bool (num g 22 2==0)) (.int .i64 0) (.slice none 0 0) (.slice (some ⟨G,0,none⟩) (n-24) (n-24))
    have dr:=OB.grown (OB.grown O4.out (gs 12 (.slice (some ⟨G,0,none⟩) (n-24) (n-24)) (World.grownBy.refl w4 (some L))) (OB.ne O4.out rW)) (aY _ w.heap.size (.int .i64 (g 0)) (.int .i64 (g 1)) (.int .i64 (g 12)) (.int .i64 (num g 4 4)) (.int .i64 (num g 8 4)) (.int .i64 (num g 16 2)) (.int .i64 (num g 18 2)) (.int .i64 0) (.int .i64 (num g 20 2)) (.bool (num g 22 2==0)) (.int .i64 0) (.slice none 0 0) (.slice (some ⟨G,0,none⟩) (n-24) (n-24))) (OB.ne (OB.grown O4.out (gs 12 (.slice (some ⟨G,0,none⟩) (n-24) (n-24)) (World.grownBy.refl w4 (some L))) (OB.ne O4.out rW)) (by omega))
    unfold cK at CE BE dr
    replace CE:=hid CE
    replace BE:=hid BE
    replace dr:=hid dr
    refine cV (fun w'=>Ce w' w.heap.size [(g 0),(g 1),(g 12),(num g 4 4),(num g 8 4),(num g 16 2),(num g 18 2),(),(num g 20 2),.bool (num g 22 2==0),(),.slice none 0 0,.slice (some ⟨G,0,none⟩) (n-24) (n-24)]∧Below w.heap.size w w'∧OB w' wc.heap.size (.slice (some ⟨G,0,none⟩) (n-24) (n-24)) (n-24) (fun j=>g (24+j))) ⟨CE.out,BE.out,dr.out⟩ (fun wf hwf=>?_)
    obtain ⟨hc2,hbf,ho0⟩:=hwf
    have y0:=hc2.2.1 0 _ rfl
    have y1:=hc2.2.1 1 _ rfl
    have y2:=hc2.2.1 2 _ rfl
    have y3:=hc2.2.1 3 _ rfl
    have y4:=hc2.2.1 4 _ rfl
    have y5:=hc2.2.1 5 _ rfl
    have y6:=hc2.2.1 6 _ rfl
    have y7:=hc2.2.1 7 _ rfl
    have y8:=hc2.2.1 8 _ rfl
    have y9:=hc2.2.1 9 _ rfl
    have al:=hc2.2.1 10 _ rfl
    have ak:=hc2.2.1 11 _ rfl
    have aj:=hc2.2.1 12 _ rfl
    refine bodyPost_ret (v:=.tuple #[.agg #[(g 0),(g 1),(g 12),(num g 4 4),(num g 8 4),(num g 16 2),(num g 18 2),(),(num g 20 2),.bool (num g 22 2==0),(),.slice none 0 0,.slice (some ⟨G,0,none⟩) (n-24) (n-24)],()]) (by simp[results,Tryz.results43,go_sem,y0,y1,y2,y3,y4,y5,y6,y7,y8,y9,al,ak,aj]) rfl ?_
    refine⟨.slice none 0 0,(.slice (some ⟨G,0,none⟩) (n-24) (n-24)),by rw[jB.out,HE.out];rfl,by rw[jB.out];exact OB.nil,by rw[jB.out];exact OB.base ho0 (by omega),hbf⟩
   have q0:(g 0==3)=false:=by rw[k1];rfl
   have q1:(g 0==2)=false:=by rw[k1];rfl
   have ma:Hid (ax g n ={ kind:=g 0,life:=g 1,piece:=g 12,src:=num g 4 4,dst:=num g 8 4,fp:=num g 16 2,tp:=num g 18 2,flags:=g 20,no:=(g 21).toNat,go:=fun j=>g (24+j),nd:=n-24-(g 21).toNat,gd:=fun j=>g (24+(g 21).toNat+j) }):=hid (by rw[JY.out];unfold eY;rw[if_neg (by omega),if_neg (by omega)])
   clear k1
   have n24:=mc.out.1
   have vr:=HG.out 21
   have DV:=HG.out 20
   obtain ⟨KO,KN⟩:=DV
   obtain ⟨q,hq⟩:∃q:Nat,g 21=(q:Int):=⟨(g 21).toNat,by omega⟩
   rw[hq]at vr k21 k24
   obtain ⟨KM,KJ⟩:=vr
   have c21:=hA.out.at_ (j:=21) (by omega)
   rw[hq]at c21
   have HQ:Hid ((g 21).toNat=q):=hid (by omega)
   rw[HQ.out]at ma
   have vQ:=hid hq
   clear hq
   have i21:(21:Int)<n:=by omega
   have i20:(20:Int)<n:=by omega
   have PP:=hid (fun (w':World) (hw:By w' (some ⟨b,off,none⟩) n g) (a:Nat) (ha:a+2≤n)=>Ex hw HG.out a ha hc hb)
   have i24:(24:Int)≤n:=by omega
   have y0:=bq.out.2.1 0 _ rfl
   have y1:=bq.out.2.1 1 _ rfl
   have y2:=bq.out.2.1 2 _ rfl
   have y3:=bq.out.2.1 3 _ rfl
   have y4:=bq.out.2.1 4 _ rfl
   have y5:=bq.out.2.1 5 _ rfl
   have y6:=bq.out.2.1 6 _ rfl
   have y7:=bq.out.2.1 7 _ rfl
   have y8:=bq.out.2.1 8 _ rfl
   have y9:=bq.out.2.1 9 _ rfl
   have al:=bq.out.2.1 10 _ rfl
   have ak:=bq.out.2.1 11 _ rfl
   have aj:=bq.out.2.1 12 _ rfl
   have yf:=bq.out.2.2
   have yl:=bq.out.1
   go_wp2_with fail
   refine(PP.out _ hA.out 16 (by omega)).mono ?_
   rintro x w' ⟨rfl,rfl⟩
   go_wp2_with fail
   refine(PP.out _ hA.out 18 (by omega)).mono ?_
   rintro x w' ⟨rfl,rfl⟩
   have C2:=hid (((bq.out).set 5 (.int .i64 (num g 16 2)) (by simp)).set 6 (.int .i64 (num g 18 2)) (by simp))
   have R2:=hid (fx.out.grown (gs 6 (.int .i64 (num g 18 2)) (gs 5 (.int .i64 (num g 16 2)) (World.grownBy.refl wc (some L)))) (fun e=>eI (by injection e)))
   have A2:=hid (bT hA.out (gs 6 (.int .i64 (num g 18 2)) (gs 5 (.int .i64 (num g 16 2)) (World.grownBy.refl wc (some L)))) hBlt)
   have D2:=hid (((hB.out).setCell (p:=⟨L,5,none⟩) (Nat.le_of_lt hL) (.int .i64 (num g 16 2))).setCell (p:=⟨L,6,none⟩) (Nat.le_of_lt hL) (.int .i64 (num g 18 2)))
   have l2:=C2.out.1
   have vG:=A2.out.at_ (j:=21) (by omega)
   rw[vQ.out]at vG
   have c20:=A2.out.at_ (j:=20) (by omega)
   have C3:=hid ((C2.out).set 7 (.int .i64 (g 20)) (by simp))
   have R3:=hid (R2.out.grown (gs 7 (.int .i64 (g 20)) (World.grownBy.refl ((wc.setCell ⟨L,5,none⟩ (.int .i64 (num g 16 2))).setCell ⟨L,6,none⟩ (.int .i64 (num g 18 2))) (some L))) (fun e=>eI (by injection e)))
   have A3:=hid (bT A2.out (gs 7 (.int .i64 (g 20)) (World.grownBy.refl ((wc.setCell ⟨L,5,none⟩ (.int .i64 (num g 16 2))).setCell ⟨L,6,none⟩ (.int .i64 (num g 18 2))) (some L))) hBlt)
   have D3:=hid ((D2.out).setCell (p:=⟨L,7,none⟩) (Nat.le_of_lt hL) (.int .i64 (g 20)))
   have AY:24+q≤n:=by omega
   obtain ⟨A8,r1,r2⟩:=iK (some ⟨b,off,none⟩) n c 24 (24+q) (by omega) AY hc 24 (24+(q:Int)) rfl (by omega)
   rw[show 24+q-24=q from by omega]at r1 r2
   obtain ⟨A9,s1,s2⟩:=eA (some ⟨b,off,none⟩) n c (24+q) AY hc (24+(q:Int)) (by omega)
   rw[show n-(24+q)=n-24-q from by omega]at s1 s2
   replace r2:=hid r2
   replace s2:=hid s2
   have lw:=C3.out.1
   have rW:=bq.out.1
   go_upto_region 19 with (fail)
   clear c20 c21 vG y0 y1 y2 y3 y4 y5 y6 y7 y8 y9 al ak aj yf yl PP C2 R2 A2 D2 bq fx hA hB
   have Q6:L<(((wc.setCell ⟨L,5,none⟩ (.int .i64 (num g 16 2))).setCell ⟨L,6,none⟩ (.int .i64 (num g 18 2))).setCell ⟨L,7,none⟩ (.int .i64 (g 20))).heap.size:=by simpa using rW
   generalize (((wc.setCell ⟨L,5,none⟩ (.int .i64 (num g 16 2))).setCell ⟨L,6,none⟩ (.int .i64 (num g 18 2))).setCell ⟨L,7,none⟩ (.int .i64 (g 20)))=wq at *
   refine wp_region_held_drew (S:=fun w'=>By w' (some ⟨b,off,none⟩) n g∧Ce w' w.heap.size [(),(),(),(),(),(),(),(),(),false,(),.slice none 0 0,.slice none 0 0]∧Below w.heap.size w w') (by kernel_rfl) ?_ (fun hHeld=>?_)
   ·exact⟨A3.out.drew,R3.out,below_drewN D3.out 1⟩
   refine ae 0 (by assumption) ?_
   refine ae 1 (by assumption) ?_
   refine ae 2 (by assumption) ?_
   refine ae 4 (by assumption) ?_
   refine ae 5 (by assumption) ?_
   refine ae 6 (by assumption) ?_
   refine only 3 rfl (by kernel_rfl) rfl (fun K hK=>?_)
   go_simp
   refine(gZ _ q _ (fun j=>g (24+j)) _ (r2.out _ g hHeld.1) (by omega)).mono ?_
   rintro x w5 ⟨G1,rfl,Qo,IL,vp⟩
   try go_wp2_with fail
   have hH5:By w5 (some ⟨b,off,none⟩) n g∧Ce w5 w.heap.size [(),(),(),(),(),(),(),(),(),false,(),.slice none 0 0,.slice none 0 0]∧Below w.heap.size w w5:=⟨hHeld.1.below vp (Nat.le_refl _),hHeld.2.1.below vp,then_ hHeld.2.2 vp⟩
   refine hK.out _ _ hH5 (fun _=>?_)
   clear hK
   try simp only[Act.put,zA,zB,zC]
   refine ae 8 hH5 ?_
   refine only 7 rfl (by kernel_rfl) rfl (fun K hK=>?_)
   go_simp
   refine(gZ _ (n-24-q) _ (fun j=>g (24+q+j)) _ (s2.out _ g hH5.1) (by omega)).mono ?_
   rintro x w6 ⟨G2,rfl,Qn,IJ,vo⟩
   try go_wp2_with fail
   have hH6:By w6 (some ⟨b,off,none⟩) n g∧Ce w6 w.heap.size [(),(),(),(),(),(),(),(),(),false,(),.slice none 0 0,.slice none 0 0]∧Below w.heap.size w w6:=⟨hH5.1.below vo (Nat.le_refl _),hH5.2.1.below vo,then_ hH5.2.2 vo⟩
   refine hK.out _ _ hH6 (fun _=>?_)
   clear hK
   try simp only[Act.put,zA,zB,zC]
   have QV:wq.heap.size≤w5.heap.size:=by have:=vp.size;simpa using this
   have OO:=hid ((OB.base IL (show L+1≤_ by simp;omega)).nR vo)
   have OD:=hid (OB.base IJ (show L+1≤w5.heap.size by omega))
   have C6:=hid ((C3.out.bo.below vp).below vo)
   have y0:=C6.out.2.1 0 _ rfl
   have y1:=C6.out.2.1 1 _ rfl
   have y2:=C6.out.2.1 2 _ rfl
   have y3:=C6.out.2.1 3 _ rfl
   have y4:=C6.out.2.1 4 _ rfl
   have y5:=C6.out.2.1 5 _ rfl
   have y6:=C6.out.2.1 6 _ rfl
   have y7:=C6.out.2.1 7 _ rfl
   have y8:=C6.out.2.1 8 _ rfl
   have y9:=C6.out.2.1 9 _ rfl
   have al:=C6.out.2.1 10 _ rfl
   have ak:=C6.out.2.1 11 _ rfl
   have aj:=C6.out.2.1 12 _ rfl
   have yf:=C6.out.2.2
   have yl:=C6.out.1
   have k_:=hid hH6
   clear hHeld hH5 IL IJ
   clear hH6
   refine only 9 rfl (by kernel_rfl) rfl (fun K hK=>?_)
   go_simp
   refine hK.out _ _ ⟨bT k_.out.1 (gs 11 (.slice (some ⟨G1,0,none⟩) q q) (World.grownBy.refl w6 (some L))) hBlt,k_.out.2.1.grown (gs 11 (.slice (some ⟨G1,0,none⟩) q q) (World.grownBy.refl w6 (some L))) (fun e=>eI (by injection e)),k_.out.2.2.setCell (p:=⟨L,11,none⟩) (Nat.le_of_lt hL) (.slice (some ⟨G1,0,none⟩) q q)⟩ (fun xt=>?_)
   clear hK
   try simp only[Act.put,zA,zB,zC]
   refine ae 10 xt ?_
   clear xt
   refine only 11 rfl (by kernel_rfl) rfl (fun K hK=>?_)
   go_simp
   refine hK.out _ _ ⟨bT k_.out.1 (gs 12 (.slice (some ⟨G2,0,none⟩) (n-24-q) (n-24-q)) (gs 11 (.slice (some ⟨G1,0,none⟩) q q) (World.grownBy.refl w6 (some L)))) hBlt,k_.out.2.1.grown (gs 12 (.slice (some ⟨G2,0,none⟩) (n-24-q) (n-24-q)) (gs 11 (.slice (some ⟨G1,0,none⟩) q q) (World.grownBy.refl w6 (some L)))) (fun e=>eI (by injection e)),(k_.out.2.2.setCell (p:=⟨L,11,none⟩) (Nat.le_of_lt hL) (.slice (some ⟨G1,0,none⟩) q q)).setCell (p:=⟨L,12,none⟩) (Nat.le_of_lt hL) (.slice (some ⟨G2,0,none⟩) (n-24-q) (n-24-q))⟩ (fun _=>?_)
   clear hK
   try simp only[Act.put,zA,zB,zC]
   refine wpAnyH_done (by kernel_rfl) ?_ _
   have C7:=hid ((C6.out.set 11 (.slice (some ⟨G1,0,none⟩) q q) (by simp)).set 12 (.slice (some ⟨G2,0,none⟩) (n-24-q) (n-24-q)) (by simp))
   have R7:=hid (k_.out.2.1.grown (gs 12 (.slice (some ⟨G2,0,none⟩) (n-24-q) (n-24-q)) (gs 11 (.slice (some ⟨G1,0,none⟩) q q) (World.grownBy.refl w6 (some L)))) (fun e=>eI (by injection e)))
   have D7:=hid ((k_.out.2.2.setCell (p:=⟨L,11,none⟩) (Nat.le_of_lt hL) (.slice (some ⟨G1,0,none⟩) q q)).setCell (p:=⟨L,12,none⟩) (Nat.le_of_lt hL) (.slice (some ⟨G2,0,none⟩) (n-24-q) (n-24-q)))
   have B_:=hid (OB.grown OO.out (gs 12 (.slice (some ⟨G2,0,none⟩) (n-24-q) (n-24-q)) (gs 11 (.slice (some ⟨G1,0,none⟩) q q) (World.grownBy.refl w6 (some L)))) (OB.ne OO.out (by omega)))
   have Ma:=hid (OB.grown OD.out (gs 12 (.slice (some ⟨G2,0,none⟩) (n-24-q) (n-24-q)) (gs 11 (.slice (some ⟨G1,0,none⟩) q q) (World.grownBy.refl w6 (some L)))) (OB.ne OD.out (by omega)))
   clear y0 y1 y2 y3 y4 y5 y6 y7 y8 y9 al ak aj yf yl
   generalize (w6.setCell ⟨L,11,none⟩ (.slice (some ⟨G1,0,none⟩) q q)).setCell ⟨L,12,none⟩ (.slice (some ⟨G2,0,none⟩) (n-24-q) (n-24-q))=w7 at *
   have y0:=C7.out.2.1 0 _ rfl
   have y1:=C7.out.2.1 1 _ rfl
   have y2:=C7.out.2.1 2 _ rfl
   have y3:=C7.out.2.1 3 _ rfl
   have y4:=C7.out.2.1 4 _ rfl
   have y5:=C7.out.2.1 5 _ rfl
   have y6:=C7.out.2.1 6 _ rfl
   have y7:=C7.out.2.1 7 _ rfl
   have y8:=C7.out.2.1 8 _ rfl
   have y9:=C7.out.2.1 9 _ rfl
   have al:=C7.out.2.1 10 _ rfl
   have ak:=C7.out.2.1 11 _ rfl
   have aj:=C7.out.2.1 12 _ rfl
   have yf:=C7.out.2.2
   have z0:=R7.out.2.1 0 _ rfl
   have z1:=R7.out.2.1 1 _ rfl
   have z2:=R7.out.2.1 2 _ rfl
   have z3:=R7.out.2.1 3 _ rfl
   have z4:=R7.out.2.1 4 _ rfl
   have z5:=R7.out.2.1 5 _ rfl
   have z6:=R7.out.2.1 6 _ rfl
   have z7:=R7.out.2.1 7 _ rfl
   have z8:=R7.out.2.1 8 _ rfl
   have z9:=R7.out.2.1 9 _ rfl
   have kB:=R7.out.2.1 10 _ rfl
   have kz:=R7.out.2.1 11 _ rfl
   have z12:=R7.out.2.1 12 _ rfl
   have zf:=R7.out.2.2
   have yl:=C7.out.1
   have zl:=R7.out.1
   go_wp2_with fail
   have CE:=(R7.out).s13 (.int .i64 (g 0)) (.int .i64 (g 1)) (.int .i64 (g 12)) (.int .i64 (num g 4 4)) (.int .i64 (num g 8 4)) (.int .i64 (num g 16 2)) (.int .i64 (num g 18 2)) (.int .i64 (g 20)) (.int .i64 0) (.bool false) (.int .i64 0) (.slice (some ⟨G1,0,none⟩) q q) (.slice (some ⟨G2,0,none⟩) (n-24-q) (n-24-q))
   have BE:=dz (b:=w.heap.size) (D7.out) (Nat.le_refl _) (.int .i64 (g 0)) (.int .i64 (g 1)) (.int .i64 (g 12)) (.int .i64 (num g 4 4)) (.int .i64 (num g 8 4)) (.int .i64 (num g 16 2)) (.int .i64 (num g 18 2)) (.int .i64 (g 20)) (.int .i64 0) (.bool false) (.int .i64 0) (.slice (some ⟨G1,0,none⟩) q q) (.slice (some ⟨G2,0,none⟩) (n-24-q) (n-24-q))
   have dr:=OB.grown (B_.out) (aY _ w.heap.size (.int .i64 (g 0)) (.int .i64 (g 1)) (.int .i64 (g 12)) (.int .i64 (num g 4 4)) (.int .i64 (num g 8 4)) (.int .i64 (num g 16 2)) (.int .i64 (num g 18 2)) (.int .i64 (g 20)) (.int .i64 0) (.bool false) (.int .i64 0) (.slice (some ⟨G1,0,none⟩) q q) (.slice (some ⟨G2,0,none⟩) (n-24-q) (n-24-q))) (OB.ne (B_.out) (by omega))
   have iC:=OB.grown (Ma.out) (aY _ w.heap.size (.int .i64 (g 0)) (.int .i64 (g 1)) (.int .i64 (g 12)) (.int .i64 (num g 4 4)) (.int .i64 (num g 8 4)) (.int .i64 (num g 16 2)) (.int .i64 (num g 18 2)) (.int .i64 (g 20)) (.int .i64 0) (.bool false) (.int .i64 0) (.slice (some ⟨G1,0,none⟩) q q) (.slice (some ⟨G2,0,none⟩) (n-24-q) (n-24-q))) (OB.ne (Ma.out) (by omega))
   unfold cK at CE BE dr iC
   replace CE:=hid CE
   replace BE:=hid BE
   replace dr:=hid dr
   replace iC:=hid iC
   refine cV (fun w'=>Ce w' w.heap.size [(g 0),(g 1),(g 12),(num g 4 4),(num g 8 4),(num g 16 2),(num g 18 2),(g 20),(),false,(),.slice (some ⟨G1,0,none⟩) q q,.slice (some ⟨G2,0,none⟩) (n-24-q) (n-24-q)]∧Below w.heap.size w w'∧OB w' (L+1) (.slice (some ⟨G1,0,none⟩) q q) q (fun j=>g (24+j))∧OB w' (L+1) (.slice (some ⟨G2,0,none⟩) (n-24-q) (n-24-q)) (n-24-q) (fun j=>g (24+q+j))) ⟨CE.out,BE.out,dr.out,iC.out⟩ (fun wf hwf=>?_)
   obtain ⟨hc2,hbf,ho0,ho1⟩:=hwf
   have y0:=hc2.2.1 0 _ rfl
   have y1:=hc2.2.1 1 _ rfl
   have y2:=hc2.2.1 2 _ rfl
   have y3:=hc2.2.1 3 _ rfl
   have y4:=hc2.2.1 4 _ rfl
   have y5:=hc2.2.1 5 _ rfl
   have y6:=hc2.2.1 6 _ rfl
   have y7:=hc2.2.1 7 _ rfl
   have y8:=hc2.2.1 8 _ rfl
   have y9:=hc2.2.1 9 _ rfl
   have al:=hc2.2.1 10 _ rfl
   have ak:=hc2.2.1 11 _ rfl
   have aj:=hc2.2.1 12 _ rfl
   refine bodyPost_ret (v:=.tuple #[.agg #[(g 0),(g 1),(g 12),(num g 4 4),(num g 8 4),(num g 16 2),(num g 18 2),(g 20),(),false,(),.slice (some ⟨G1,0,none⟩) q q,.slice (some ⟨G2,0,none⟩) (n-24-q) (n-24-q)],()]) (by simp[results,Tryz.results43,go_sem,y0,y1,y2,y3,y4,y5,y6,y7,y8,y9,al,ak,aj]) rfl ?_
   refine⟨(.slice (some ⟨G1,0,none⟩) q q),(.slice (some ⟨G2,0,none⟩) (n-24-q) (n-24-q)),by rw[ma.out,HE.out];rfl,by rw[ma.out];exact OB.base ho0 (by omega),by rw[ma.out];exact OB.base ho1 (by omega),hbf⟩
  have e1:(be != 0)=true:=by simpa using b0
  have e2:(be==0)=false:=by simpa using b0
  have HR:Hid (ax g n ={}):=hid (by unfold ax;rw[hE,if_neg b0])
  have HE:=hid hE
  have h0':=hid (h.below ((Below.refl _ _).alloc (Nat.le_refl _) (.cells #[(),(),(),(),(),(),(),(),(),false,(),.slice none 0 0,.slice none 0 0] 53)) (Nat.le_refl _))
  clear vk hbe hh hE h b0 hg
  go_enter Tryz.func43,Tryz.ntmps43
  go_wp2_with fail
  refine(HH.out _ h0'.out).mono ?_
  rintro x w' ⟨rfl,m,rfl⟩
  go_wp2_with fail
  refine(HB.out _ (Sl.drewN h0'.out m)).mono ?_
  rintro x w' ⟨rfl,rfl⟩
  go_wp2_with fail
  have CE:=hid (((Ce.made (w:=w) (l:=[(),(),(),(),(),(),(),(),(),false,(),.slice none 0 0,.slice none 0 0]) (T:=53) rfl).below (below_drewN (Below.refl _ _) m)).s13 (.int .i64 0) (.int .i64 0) (.int .i64 0) (.int .i64 0) (.int .i64 0) (.int .i64 0) (.int .i64 0) (.int .i64 0) (.int .i64 0) (.bool false) (.int .i64 0) (.slice none 0 0) (.slice none 0 0))
  refine cV (fun w'=>Ce w' w.heap.size [(),(),(),(),(),(),(),(),(),false,(),.slice none 0 0,.slice none 0 0]∧Below w.heap.size w w') ⟨CE.out,?_⟩ (fun wf hwf=>?_)
  ·have BS:=fun o a0 a1 a2 a3 a4 a5 a6 a7 a8 a9 JA Jz a12=>dz (b:=w.heap.size) (below_drewN ((Below.refl w.heap.size w).alloc (Nat.le_refl _) o) m) (Nat.le_refl _) a0 a1 a2 a3 a4 a5 a6 a7 a8 a9 JA Jz a12
   unfold cK at BS
   exact BS _ _ _ _ _ _ _ _ _ _ _ _ _ _
  obtain ⟨hc2,hbf⟩:=hwf
  have y0:=hc2.2.1 0 _ rfl
  have y1:=hc2.2.1 1 _ rfl
  have y2:=hc2.2.1 2 _ rfl
  have y3:=hc2.2.1 3 _ rfl
  have y4:=hc2.2.1 4 _ rfl
  have y5:=hc2.2.1 5 _ rfl
  have y6:=hc2.2.1 6 _ rfl
  have y7:=hc2.2.1 7 _ rfl
  have y8:=hc2.2.1 8 _ rfl
  have y9:=hc2.2.1 9 _ rfl
  have al:=hc2.2.1 10 _ rfl
  have ak:=hc2.2.1 11 _ rfl
  have aj:=hc2.2.1 12 _ rfl
  refine bodyPost_ret (v:=.tuple #[ct {} (.slice none 0 0) (.slice none 0 0),be]) (by simp[results,Tryz.results43,go_sem,ct,de,y0,y1,y2,y3,y4,y5,y6,y7,y8,y9,al,ak,aj]) rfl ?_
  exact qZA
 have e1:(he != 0)=true:=by simpa using h0
 have e2:(he==0)=false:=by simpa using h0
 have hE:az g n=he:=by unfold az;rw[←vk,if_neg h0]
 have HR:Hid (ax g n ={}):=hid (by unfold ax;rw[hE,if_neg h0])
 have HE:=hid hE
 have h0':=hid (h.below ((Below.refl _ _).alloc (Nat.le_refl _) (.cells #[(),(),(),(),(),(),(),(),(),false,(),.slice none 0 0,.slice none 0 0] 53)) (Nat.le_refl _))
 clear vk hE h h0 hg
 go_enter Tryz.func43,Tryz.ntmps43
 go_wp2_with fail
 refine(HH.out _ h0'.out).mono ?_
 rintro x w' ⟨rfl,m,rfl⟩
 go_wp2_with fail
 have CE:=hid (((Ce.made (w:=w) (l:=[(),(),(),(),(),(),(),(),(),false,(),.slice none 0 0,.slice none 0 0]) (T:=53) rfl).below (below_drewN (Below.refl _ _) m)).s13 (.int .i64 0) (.int .i64 0) (.int .i64 0) (.int .i64 0) (.int .i64 0) (.int .i64 0) (.int .i64 0) (.int .i64 0) (.int .i64 0) (.bool false) (.int .i64 0) (.slice none 0 0) (.slice none 0 0))
 refine cV (fun w'=>Ce w' w.heap.size [(),(),(),(),(),(),(),(),(),false,(),.slice none 0 0,.slice none 0 0]∧Below w.heap.size w w') ⟨CE.out,?_⟩ (fun wf hwf=>?_)
 ·have BS:=fun o a0 a1 a2 a3 a4 a5 a6 a7 a8 a9 JA Jz a12=>dz (b:=w.heap.size) (below_drewN ((Below.refl w.heap.size w).alloc (Nat.le_refl _) o) m) (Nat.le_refl _) a0 a1 a2 a3 a4 a5 a6 a7 a8 a9 JA Jz a12
  unfold cK at BS
  exact BS _ _ _ _ _ _ _ _ _ _ _ _ _ _
 obtain ⟨hc2,hbf⟩:=hwf
 have y0:=hc2.2.1 0 _ rfl
 have y1:=hc2.2.1 1 _ rfl
 have y2:=hc2.2.1 2 _ rfl
 have y3:=hc2.2.1 3 _ rfl
 have y4:=hc2.2.1 4 _ rfl
 have y5:=hc2.2.1 5 _ rfl
 have y6:=hc2.2.1 6 _ rfl
 have y7:=hc2.2.1 7 _ rfl
 have y8:=hc2.2.1 8 _ rfl
 have y9:=hc2.2.1 9 _ rfl
 have al:=hc2.2.1 10 _ rfl
 have ak:=hc2.2.1 11 _ rfl
 have aj:=hc2.2.1 12 _ rfl
 refine bodyPost_ret (v:=.tuple #[ct {} (.slice none 0 0) (.slice none 0 0),he]) (by simp[results,Tryz.results43,go_sem,ct,de,y0,y1,y2,y3,y4,y5,y6,y7,y8,y9,al,ak,aj]) rfl ?_
 exact qZA
theorem fe {w w':World}{r:Option Nat}(h:w.drew.grownBy w' r):w.grownBy w' r:=⟨h.os,h.tape,h.output,h.size,h.block⟩
theorem eP {G n c:Nat}(a m:Nat)(h:a+m≤n)(hc:n≤c)(hm:0<m)(x y z:Int)(hx:x=a)(hy:y=(a:Int)+m)(hz:z=(a:Int)+m)(W:World) :
 (Instr.slice 23 (.slice (some ⟨G,0,none⟩) n c) (some (.int .i64 x)) (some (.int .i64 y)) (some (.int .i64 z))).run Tryz.prog W =.ok (.slice (some ⟨G,a,none⟩) m m) W:=by
 subst hx
 subst hy
 subst hz
 rw[run_slice_lhm W 23 _ n c jU .i64 .i64 .i64 _ _ _ (by omega) (by omega) (by omega) (by omega),jF W]
 have e1:((a:Int)+m).toNat=a+m:=by omega
 simp only[Result.andThen,sliced,Int.toNat_natCast,e1,Option.map_some,Addr.add,Nat.mul_one,Nat.zero_add]
 rw[if_neg (by omega),Nat.add_sub_cancel_left]
 by_cases h0:a=0
 ·rw[if_pos h0,h0]
 rw[if_neg h0]
theorem bE {g:Nat→Int}(hg:aC g)(a:Nat):0≤num g a 2∧num g a 2≤65535:=by
 have h:=fF hg a 2
 have h2:(256:Int)^2=65536:=by decide
 omega
set_option maxHeartbeats 4000000 in
theorem ml {w:World}{B G n c:Nat}{g:Nat→Int}(O:OB w B (.slice (some ⟨G,0,none⟩) n c) n g)(hg:aC g)(a:Nat)(h:a+2≤n)(hc:n≤c)(hn:n≤1000000)(x y:Int)(hx0:0≤x)(hx:x≤65535)(hy0:0≤y)(hy:y≤65535) :
 Calls Tryz.prog 148 #[.slice (some ⟨G,0,none⟩) n c,a,x,y] w fun e w'=>e =.returned (.tuple #[])∧OB w' B (.slice (some ⟨G,0,none⟩) n c) n (ao g a 2 (turn (num g a 2) x y))∧w.grownBy w' (some G):=by
 have q2:IntKind.i64.wrap ((a:Int)+2)=(a:Int)+2:=IntWalk.i64_in _ (by omega)
 have CP:=fun W=>eP (G:=G) (n:=n) (c:=c) a 2 h hc (by omega) a (a+2) (a+2) rfl rfl rfl W
 have nb:=bE hg a
 have HT:=hid (fun w=>Ct (num g a 2) x y w nb.1 nb.2 hx0 hx hy0 hy)
 have HP:=hid (fun (w':World) (o:OB w' B (.slice (some ⟨G,0,none⟩) n c) n g)=>c_ (fj (some ⟨G,0,none⟩) n c g w' o.sl1 hg a (by omega) hc hn) (show aL g n a=num g a 2 from by unfold aL;rw[if_neg (by omega)]))
 have HO:=hid O
 clear O nb
 go_enter Tryz.func148,Tryz.ntmps148
 go_wp2_with fail
 refine wp_region_held_drew (S:=fun _=>True) (by kernel_rfl) trivial (fun hHeld=>?_)
 refine ae 0 (by assumption) ?_
 refine ae 1 (by assumption) ?_
 refine ae 2 (by assumption) ?_
 refine ae 3 (by assumption) ?_
 refine ae 4 (by assumption) ?_
 refine ae 5 (by assumption) ?_
 refine ae 6 (by assumption) ?_
 refine ae 7 (by assumption) ?_
 refine ae 8 (by assumption) ?_
 refine ae 10 (by assumption) ?_
 refine ae 11 (by assumption) ?_
 refine only 9 rfl (by kernel_rfl) rfl (fun K hK=>?_)
 go_simp
 refine(HP.out _ (Ow.drew HO.out)).mono ?_
 rintro e' w' ⟨rfl,rfl⟩
 try go_wp2_with fail
 refine hK.out _ _ trivial (fun _=>?_)
 clear hK
 try simp only[Act.put,zA,zB,zC]
 refine only 12 rfl (by kernel_rfl) rfl (fun K hK=>?_)
 go_simp
 refine(HT.out _).mono ?_
 rintro e' w' ⟨rfl,rfl⟩
 try go_wp2_with fail
 refine hK.out _ _ trivial (fun _=>?_)
 clear hK
 try simp only[Act.put,zA,zB,zC]
 refine only 13 rfl (by kernel_rfl) rfl (fun K hK=>?_)
 go_simp
 refine(dX (Ow.drew HO.out) a 2 2 (turn (num g a 2) x y) h (by omega)).mono ?_
 rintro e' w' ⟨rfl,ho,hw⟩
 try go_wp2_with fail
 refine hK.out _ _ trivial (fun _=>?_)
 clear hK
 try simp only[Act.put,zA,zB,zC]
 refine wpAnyH_done (by kernel_rfl) ?_ _
 go_wp2_with fail
 go_end0
 exact⟨rfl,ho,fe hw⟩
def cZ (g:Nat→Int):Nat→Int:=if du g=true then ao g 22 2 65535 else g
theorem sZ {g:Nat→Int}(hg:aC g):aC (cZ g):=by unfold cZ;split;exact dy hg _ _ _;exact hg
set_option maxHeartbeats 4000000 in
theorem lU {w:World}{B G n c:Nat}{g:Nat→Int}(O:OB w B (.slice (some ⟨G,0,none⟩) n c) n g)(hg:aC g)(h0:0<n)(hk:g 0=3∨24≤n)(hc:n≤c)(hn:n≤1000000) :
 Calls Tryz.prog 155 #[.slice (some ⟨G,0,none⟩) n c] w fun e w'=>e =.returned (.tuple #[])∧OB w' B (.slice (some ⟨G,0,none⟩) n c) n (cZ g)∧w.grownBy w' (some G):=by
 have HB:=hid (nS (some ⟨G,0,none⟩) n c g w O.sl1 hg h0 hk hc hn)
 have HO:=hid O
 have jc:du g=true→24≤n:=by
  intro hb
  rcases hk with h3 |h3
  ·unfold du at hb;rw[h3]at hb;cases hb
  exact h3
 unfold cZ
 cases hb:du g
 ·rw[hb]at HB
  clear jc O hk
  rw[if_neg (by decide)]
  go_enter Tryz.func155,Tryz.ntmps155
  go_wp2_with fail
  refine HB.out.mono ?_
  rintro x w' ⟨rfl,rfl⟩
  go_wp2_with fail
  go_end0
  exact⟨rfl,HO.out,World.grownBy.refl _ _⟩
 rw[hb]at HB
 have jc:=jc hb
 have CP:=fun W=>eP (G:=G) (n:=n) (c:=c) 22 2 (by omega) hc (by omega) 22 24 24 rfl rfl rfl W
 have i24:(24:Int)≤c:=by omega
 clear O hk
 rw[if_pos rfl]
 go_enter Tryz.func155,Tryz.ntmps155
 go_wp2_with fail
 refine HB.out.mono ?_
 rintro x w' ⟨rfl,rfl⟩
 go_wp2_with fail
 refine(dX HO.out 22 2 2 65535 (by omega) (by omega)).mono ?_
 rintro x w' ⟨rfl,ho,hw⟩
 go_wp2_with fail
 go_end0
 exact⟨rfl,ho,hw⟩
theorem qYE{P:Prop}(h:P:=by
 go_enter Tryz.func80,Tryz.ntmps80
 go_wp2_with fail
 go_end0
 exact⟨rfl,HO.out,World.grownBy.refl _ _⟩
 ):P:=h
theorem ep {w:World}{B G n c:Nat}{g:Nat→Int}(O:OB w B (.slice (some ⟨G,0,none⟩) n c) n g)(hg:aC g)(h0:0<n)(hk:g 0=3∨24≤n)(hc:n≤c)(hn:n≤1000000)(was:Bool) :
 Calls Tryz.prog 80 #[.slice (some ⟨G,0,none⟩) n c,was] w fun e w'=>e =.returned (.tuple #[])∧OB w' B (.slice (some ⟨G,0,none⟩) n c) n (if was=true then g else cZ g)∧w.grownBy w' (some G):=by
 have HO:=hid O
 have HN:=hid (fun jc:24≤n=>aX (some ⟨G,0,none⟩) n c g w O.sl1 hg 22 2 (by omega) (by omega) hn)
 obtain ⟨g',e,hB,hgs,hce,hfr⟩:=Ow.block_ O (by omega)
 injection e with e
 injection e with e _
 subst e
 have c0:=hce 0 (by omega)
 have i0:(0:Int)<n:=by omega
 clear hce hfr O
 cases h2:(g 0==2)
 ·have hf:cZ g=g:=by unfold cZ du;rw[h2];rfl
  have hi:(if was=true then g else cZ g)=g:=by rw[hf,ite_self]
  rw[hi]
  clear hi hf hk HN
  exact qYE
 have jc:24≤n:=by
  rcases hk with h3 |h3
  ·rw[h3]at h2;cases h2
  exact h3
 have sn:=hid (HN.out jc)
 clear HN hk
 cases was
 ·rw[if_neg (by decide)]
  obtain ⟨z,hz⟩:∃z,z=num g 22 2:=⟨_,rfl⟩
  rw[←hz]at sn
  cases hb:(z==0)
  ·have hf:cZ g=g:=by unfold cZ du;rw[h2,←hz,hb];rfl
   rw[hf]
   clear hf hz jc
   go_enter Tryz.func80,Tryz.ntmps80
   go_wp2_with fail
   refine sn.out.mono ?_
   rintro x w' ⟨rfl,rfl⟩
   go_wp2_with fail
   go_end0
   exact⟨rfl,HO.out,World.grownBy.refl _ _⟩
  have hf:cZ g=ao g 22 2 65535:=by unfold cZ du;rw[h2,←hz,hb];rfl
  rw[hf]
  have PU:=hid (aM HO.out 22 2 65535 (by omega) (by omega) hn)
  clear hf hz jc
  go_enter Tryz.func80,Tryz.ntmps80
  go_wp2_with fail
  refine sn.out.mono ?_
  rintro x w' ⟨rfl,rfl⟩
  go_wp2_with fail
  refine PU.out.mono ?_
  rintro x w' ⟨rfl,ho,hw⟩
  go_wp2_with fail
  go_end0
  exact⟨rfl,ho,hw⟩
 rw[if_pos rfl]
 clear jc
 exact qYE
def ie (g:Nat→Int)(n:Nat):Nat→Int:=fun j=>if j=0 then 0 else if j=1 then g 0 else if j=2 then eG ((n:Int)-16) 1 else eG ((n:Int)-16) 0
def eg (g:Nat→Int)(n:Nat):Nat:=if g 0=3 then n-12 else n-4
def eQ (g:Nat→Int)(n:Nat):Nat→Int:=if g 0=3 then fun j=>if j<4 then ie g n j else g (12+j) else fun j=>if j<8 then g (4+j) else if j<12 then ie g n (j-8) else g (4+j)
theorem Jb {g:Nat→Int}(hg:aC g)(n:Nat):aC (ie g n):=by
 intro j;unfold ie
 split
 ·omega
 split
 ·exact hg 0
 split <;> exact kY _ _
theorem oL {g:Nat→Int}(hg:aC g)(n:Nat):aC (eQ g n):=by
 intro j;unfold eQ
 split <;> (dsimp only;repeat' split) <;> first |exact hg _ |exact Jb hg n _
def bh (s L:Nat)(g x:Nat→Int)(i:Nat):Nat→Int:=ao x s 2 (turn (num x s 2) (aL g L i) (aL x L i))
def aQ (s L:Nat)(g:Nat→Int):Nat→Nat→(Nat→Int)→(Nat→Int)
 |0,_,x=>x
 |k+1,i,x=>aQ s L g k (i+2) (bh s L g x i)
def di (g:Nat→Int)(L:Nat)(a m v:Int):Bool:=(m==1&&decide (v≤255) || m==2&&decide (v≤65535) || m==4&&decide (v≤4294967295))&&decide (0≤v)&&decide (16≤a)&&decide (a≤(L:Int)-m)&&(decide (a+m≤(a_ (g 0):Int)) || decide ((a_ (g 0):Int)+2≤a))
def cB (g:Nat→Int)(L a m:Nat)(v:Int):Nat→Int:=if du g=true then ao g a m v else cZ (aQ (a_ (g 0)) L g ((m+a%2+1)/2) (a-a%2) (ao g a m v))
def fG (g:Nat→Int)(L:Nat)(a m v:Int):Int:=if az g L≠0 then az g L else if di g L a m v=true then 0 else 14
def iL (g:Nat→Int)(L:Nat):Int:=if az g L≠0 then az g L else if g 1≤1 then 7 else 0
def aN (g:Nat→Int):Nat→Int:=ao (set1 g 1 (g 1-1)) 14 2 (turn (num g 14 2) (num g 0 2) (num (set1 g 1 (g 1-1)) 0 2))
def iZ (g:Nat→Int)(L:Nat)(ad pt:Int):Int:=if az g L≠0 then az g L else if g 0=3 then 2 else if cW ad 4294967295&&cW pt 65535 then 0 else 14
def aO (g:Nat→Int)(s:Bool)(ad pt:Int):Nat→Int:=if s=true then ao (ao g 4 4 ad) 16 2 pt else ao (ao g 8 4 ad) 18 2 pt
def bA (g:Nat→Int)(L:Nat)(s:Bool)(ad pt:Int):Nat→Int:=
 let a:=if s=true then 4 else 8
 let p:=if s=true then 16 else 18
 let x:=aQ 14 L g 2 a (aO g s ad pt)
 if du g=true then x else cZ (aQ 22 L g 1 p (aQ 22 L g 2 a x))
def bC (p:Pk):Bool:=cW p.life 255&&cW p.piece 255&&cW p.src 4294967295&&cW p.dst 4294967295&&(if p.kind=3 then cW p.code 255 else cW p.fp 65535&&cW p.tp 65535&&(if p.kind=2 then cW p.label 65535 else cW p.flags 15))
def aU (p:Pk):Nat:=if p.kind=3 then 20+p.nd else if p.kind=2 then 24+p.nd else 24+p.no+p.nd
def aG (p:Pk):Int:=if isK p.kind=false then 2 else if bC p=false then 14 else if p.kind=1∧40<p.no then 5 else if p.kind=3∧p.nd<24∨1500<aU p then 3 else 0
def dq (p:Pk):Nat→Int:=fun j=>
 if p.kind=3 then (if j=0 then p.code else if j<4 then 0 else p.gd (j-4))
 else if j<2 then eG p.fp (1-j) else if j<4 then eG p.tp (3-j)
 else if p.kind=2 then (if j<6 then eG p.label (5-j) else if j<8 then 0 else p.gd (j-8))
 else if j=4 then p.flags else if j=5 then (p.no:Int) else if j<8 then 0 else if j<8+p.no then p.go (j-8) else p.gd (j-8-p.no)
def cj (p:Pk):Nat→Int:=fun j=>
 if j=0 then p.kind else if j=1 then p.life else if j<4 then eG (aU p) (3-j) else if j<8 then eG p.src (7-j) else if j<12 then eG p.dst (11-j) else if j=12 then p.piece else if j<16 then 0 else dq p (j-16)
def aZ (p:Pk):Nat→Int:=ao (cj p) 14 2 (65535-norm (tot (cj p) 16))
def aP (p:Pk):Nat→Int:=if p.kind=2∧p.bare=true then aZ p else cZ (ao (aZ p) (a_ p.kind) 2 (65535-norm (tot (eQ (aZ p) (aU p)) (eg (aZ p) (aU p)))))
theorem FU {g:Nat→Int}{off m j:Nat}{v:Int}(h:j<off):ao g off m v j=g j:=by unfold ao;rw[if_neg (by omega)]
theorem FV {g:Nat→Int}{off m j:Nat}{v:Int}(h:off+m≤j):ao g off m v j=g j:=by unfold ao;rw[if_neg (by omega)]
theorem aT {g:Nat→Int}{off m j:Nat}{v:Int}(h:j<off∨off+m≤j):ao g off m v j=g j:=by unfold ao;rw[if_neg (by omega)]
theorem sL {g:Nat→Int}{off m j:Nat}{v:Int}(h:off≤j)(h':j<off+m):ao g off m v j=eG v (off+m-1-j):=by unfold ao;rw[if_pos ⟨h,h'⟩]
theorem iB (g:Nat→Int)(a:Nat):num g a 2=g a*256+g (a+1):=by simp[num]
theorem yo (g:Nat→Int)(a:Nat):num g a 4=((g a*256+g (a+1))*256+g (a+2))*256+g (a+3):=by simp[num]
theorem qf (v:Int):eG v 0=v%256:=by simp[eG]
theorem qe (v:Int):eG v 1=v/256%256:=by simp[eG]
theorem EY (v:Int):eG v 2=v/65536%256:=by simp[eG]
theorem EX (v:Int):eG v 3=v/16777216%256:=by simp[eG]
theorem kh {g:Nat→Int}{a:Nat}{v:Int}(h0:g a=eG v 1)(h1:g (a+1)=eG v 0)(hv:0≤v)(hv':v≤65535):num g a 2=v:=by
 rw[iB,h0,h1,qf,qe];omega
theorem xi {g:Nat→Int}{a:Nat}{v:Int}(h0:g a=eG v 3)(h1:g (a+1)=eG v 2)(h2:g (a+2)=eG v 1)(h3:g (a+3)=eG v 0)(hv:0≤v)(hv':v≤4294967295):num g a 4=v:=by
 rw[yo,h0,h1,h2,h3,qf,qe,EY,EX];omega
theorem kg {g:Nat→Int}{a:Nat}{v:Int}(hv:0≤v)(hv':v≤65535):num (ao g a 2 v) a 2=v:=
 kh (by rw[sL (by omega) (by omega),show a+2-1-a=1 from by omega]) (by rw[sL (by omega) (by omega),show a+2-1-(a+1)=0 from by omega]) hv hv'
theorem sR {g:Nat→Int}{off m a n:Nat}{v:Int}(h:a+n≤off∨off+m≤a):num (ao g off m v) a n=num g a n:=
 ly fun j h1 h2=>aT (by omega)
theorem ju {g:Nat→Int}{j:Nat}(h:j<22∨24≤j):cZ g j=g j:=by
 unfold cZ;split
 ·exact aT h
 rfl
theorem p7 {g:Nat→Int}(h:g 0≠2):cZ g=g:=by
 unfold cZ;rw[if_neg];unfold du;rw[show (g 0==2)=false from by simpa using h];simp
theorem jL {t:Int}(h:0≤t):norm t=65535↔t≠0∧t%65535=0:=by unfold norm;split <;> omega
theorem Dp (t:Int):norm t%65535=t%65535:=by unfold norm;split <;> omega
theorem nD (g:Nat→Int)(q:Nat)(v:Int)(hv:0≤v)(hv':v≤65535)(n:Nat)(h:2*q+2≤n):tot (ao g (2*q) 2 v) n=tot g n+v-num g (2*q) 2:=by
 obtain ⟨r,rfl⟩:∃r,n=2*(q+1)+r:=⟨n-(2*q+2),by omega⟩
 rw[tA _ (q+1),tA g (q+1),show 2*(q+1)=2*q+2 from by omega,iG,iG]
 rw[gM (fun j=>ao g (2*q) 2 v (2*q+2+j)) (fun j=>g (2*q+2+j)) r (fun j _=>FV (by omega)),gM (ao g (2*q) 2 v) g (2*q) (fun j hj=>FU hj)]
 have h1:=kg (g:=g) (a:=2*q) hv hv'
 rw[iB]at h1 ⊢
 omega
theorem sE {g:Nat→Int}(hg:aC g){n j:Nat}(hj:j<n)(h:g j≠0):tot g n≠0:=fun e=>h ((Cu g hg n).1 e j hj)
theorem lL {p:Pk}(hg:aC p.gd)(ho:aC p.go)(hE:aG p=0):aC (cj p):=by
 have h:=hE
 unfold aG at h
 split at h
 ·cases h
 rename_i h1
 split at h
 ·cases h
 rename_i h2
 split at h
 ·cases h
 rename_i h3
 split at h
 ·cases h
 rename_i h4
 unfold isK at h1
 unfold bC cW at h2
 simp at h1 h2
 intro j
 unfold cj
 split
 ·omega
 split
 ·omega
 split
 ·exact kY _ _
 split
 ·exact kY _ _
 split
 ·exact kY _ _
 split
 ·omega
 split
 ·omega
 unfold dq
 split
 ·split
  ·rename_i h5 _;rw[if_pos h5]at h2;simp at h2;omega
  split
  ·omega
  exact hg _
 rename_i hk3
 rw[if_neg hk3]at h2
 split
 ·exact kY _ _
 split
 ·exact kY _ _
 split
 ·split
  ·exact kY _ _
  split
  ·omega
  exact hg _
 rename_i hk2
 rw[if_neg hk2]at h2
 simp at h2
 split
 ·omega
 split
 ·omega
 split
 ·omega
 split
 ·exact ho _
 exact hg _
theorem ig {p:Pk}(h:aG p=0):isK p.kind=true∧bC p=true∧(p.kind=1→p.no≤40)∧(p.kind=3→24≤p.nd)∧aU p≤1500∧24≤aU p:=by
 unfold aG at h
 split at h
 ·cases h
 split at h
 ·cases h
 split at h
 ·cases h
 split at h
 ·cases h
 rename_i h1 h2 h3 h4
 refine⟨by simpa using h1,by simpa using h2,fun e=>by omega,fun e=>by omega,by omega,?_⟩
 unfold aU
 split
 ·omega
 split <;> omega
theorem gV (k:Int):∃q,a_ k=2*q∧16≤a_ k∧a_ k≤22:=by unfold a_;split;exact⟨9,rfl,by omega,by omega⟩;exact⟨11,rfl,by omega,by omega⟩
theorem kU {p:Pk}(hg:aC p.gd)(ho:aC p.go)(hE:aG p=0):aC (aZ p):=dy (lL hg ho hE) _ _ _
theorem nZ {p:Pk}(hg:aC p.gd)(ho:aC p.go)(hE:aG p=0):aC (aP p):=by
 unfold aP;split
 ·exact kU hg ho hE
 exact sZ (dy (kU hg ho hE) _ _ _)
theorem Bz {p:Pk}{j:Nat}(h:j<14∨16≤j)(h':j<a_ p.kind∨a_ p.kind+2≤j)(h2:p.kind=2∨j<22∨24≤j∨p.kind=1∨p.kind=3):aP p j=cj p j:=by
 have hh:aZ p j=cj p j:=aT h
 unfold aP
 split
 ·exact hh
 by_cases k2:p.kind=2
 ·have:a_ p.kind=22:=by unfold a_;rw[if_neg (by omega)]
  rw[ju (by omega),aT h',hh]
 rw[p7,aT h',hh]
 have hs:=(gV p.kind).choose_spec
 rw[aT (by omega)]
 unfold aZ
 rw[aT (by omega)]
 show (if (0:Nat)=0 then p.kind else _)≠2
 rw[if_pos rfl]
 exact k2
theorem jg (p:Pk):cj p 0=p.kind:=by unfold cj;rw[if_pos rfl]
theorem gF {p:Pk}{j:Nat}(h:j<14):aP p j=cj p j:=by
 obtain ⟨q,hq,h1,h2⟩:=gV p.kind
 unfold aP
 split
 ·exact aT (by omega)
 rw[ju (by omega),aT (by omega)]
 exact aT (by omega)
theorem t5 {p:Pk}{j:Nat}(h:j<16):aP p j=aZ p j:=by
 obtain ⟨q,hq,h1,h2⟩:=gV p.kind
 unfold aP
 split
 ·rfl
 rw[ju (by omega),aT (by omega)]
theorem Ks (p:Pk):cj p 1=p.life:=by simp[cj]
theorem Ho (p:Pk):cj p 12=p.piece:=by simp[cj]
theorem Hn (p:Pk):cj p 13=0:=by simp[cj]
theorem FQ (p:Pk)(h:aU p≤65535):num (cj p) 2 2=aU p:=kh (by simp[cj]) (by simp[cj]) (by omega) (by omega)
theorem FP {p:Pk}(h:0≤p.src)(h':p.src≤4294967295):num (cj p) 4 4=p.src:=xi (by simp[cj]) (by simp[cj]) (by simp[cj]) (by simp[cj]) h h'
theorem FR {p:Pk}(h:0≤p.dst)(h':p.dst≤4294967295):num (cj p) 8 4=p.dst:=xi (by simp[cj]) (by simp[cj]) (by simp[cj]) (by simp[cj]) h h'
theorem dt (p:Pk)(j:Nat):cj p (16+j)=dq p j:=by
 unfold cj
 rw[if_neg (by omega),if_neg (by omega),if_neg (by omega),if_neg (by omega),if_neg (by omega),if_neg (by omega),if_neg (by omega),show 16+j-16=j from by omega]
theorem fU {p:Pk}{j:Nat}(h:j<14∨16≤j)(h':j<a_ p.kind∨a_ p.kind+2≤j):aP p j=cj p j:=by
 have hk:p.kind=2→a_ p.kind=22:=fun e=>by unfold a_;rw[if_neg (by omega)]
 by_cases k2:p.kind=2
 ·have:=hk k2
  exact Bz h h' (.inl k2)
 have hh:aZ p j=cj p j:=aT h
 have hs:=(gV p.kind).choose_spec
 unfold aP
 rw[if_neg (fun e=>k2 e.1),p7,aT h',hh]
 rw[aT (by omega)]
 unfold aZ
 rw[aT (by omega),jg]
 exact k2
theorem g6 {p:Pk}{a n:Nat}(h:a+n≤14∨16≤a)(h':a+n≤a_ p.kind∨a_ p.kind+2≤a):num (aP p) a n=num (cj p) a n:=
 ly fun j h1 h2=>fU (by omega) (by omega)
theorem jq {p:Pk}(hE:aG p=0):p.kind=1∨p.kind=2∨p.kind=3:=by
 have:=(ig hE).1
 unfold isK at this;simp at this;omega
theorem qy {p:Pk}(hg:aC p.gd)(ho:aC p.go)(hE:aG p=0):cC (aP p) (aU p)=0:=by
 obtain ⟨h1,h2,h3,h4,h5,h6⟩:=ig hE
 have hB:=lL hg ho hE
 have hA:=(gV p.kind).choose_spec
 have e0:aP p 0=p.kind:=by rw[gF (by omega),jg]
 have e13:aP p 13=0:=by rw[gF (by omega),Hn]
 have e2:num (aP p) 2 2=aU p:=by rw[g6 (by omega) (by omega),FQ p (by omega)]
 have et:norm (tot (aP p) 16)=65535:=by
  rw[gM (aP p) (aZ p) 16 (fun j hj=>t5 hj)]
  have hb:=jo (tot (cj p) 16)
  have hT:=nD (cj p) 7 (65535-norm (tot (cj p) 16)) (by omega) (by omega) 16 (by omega)
  have hz:num (cj p) 14 2=0:=by rw[iB];simp[cj]
  rw[show 2*7=14 from rfl,hz]at hT
  have hp:=fA (aZ p) (kU hg ho hE) 16
  have hne:tot (aZ p) 16≠0:=sE (kU hg ho hE) (j:=0) (by omega) (by
   show ao (cj p) 14 2 _ 0≠0
   rw[aT (by omega),jg]
   have:=jq hE
   omega)
  refine(jL hp).2 ⟨hne,?_⟩
  show tot (ao (cj p) 14 2 (65535-norm (tot (cj p) 16))) 16%65535=0
  rw[hT]
  have:=Dp (tot (cj p) 16)
  omega
 have hp:aL (aP p) (aU p) 2=aU p:=by unfold aL;rw[if_neg (by omega),e2]
 unfold cC
 rw[if_neg (by omega),if_neg (by rw[e0,h1];decide),e13,hp,et,if_neg (by simp;omega),if_neg (by decide)]
structure Pe (p q:Pk):Prop where
 kind:p.kind=q.kind
 life:p.life=q.life
 piece:p.piece=q.piece
 src:p.src=q.src
 dst:p.dst=q.dst
 fp:p.fp=q.fp
 tp:p.tp=q.tp
 flags:p.flags=q.flags
 label:p.label=q.label
 bare:p.bare=q.bare
 code:p.code=q.code
 no:p.no=q.no
 go:∀j,j<p.no→p.go j=q.go j
 nd:p.nd=q.nd
 gd:∀j,j<p.nd→p.gd j=q.gd j
structure Clean (p:Pk):Prop where
 k3:p.kind=3→p.fp=0∧p.tp=0
 k1:p.kind≠1→p.flags=0∧p.no=0
 k2:p.kind≠2→p.label=0∧p.bare=false
 kc:p.kind≠3→p.code=0
theorem yK {p:Pk}(hE:aG p=0)(hk:p.kind=2):num (aP p) 22 2=0↔p.bare=true:=by
 have hs:a_ p.kind=22:=by unfold a_;rw[if_neg (by omega)]
 have hz:num (aZ p) 22 2=0:=by
  unfold aZ
  rw[sR (by omega),iB,show 22=16+6 from rfl,show 16+6+1=16+7 from rfl,dt,dt]
  simp[dq,hk]
 constructor
 ·intro h
  rcases hb:p.bare with _ | _
  ·exfalso
   unfold aP at h
   rw[if_neg (by rw[hb];simp),hs]at h
   have hn:0≤65535-norm (tot (eQ (aZ p) (aU p)) (eg (aZ p) (aU p)))∧65535-norm (tot (eQ (aZ p) (aU p)) (eg (aZ p) (aU p)))≤65535:=by
    have:=jo (tot (eQ (aZ p) (aU p)) (eg (aZ p) (aU p)))
    omega
   generalize 65535-norm (tot (eQ (aZ p) (aU p)) (eg (aZ p) (aU p)))=s at h hn
   have e:num (ao (aZ p) 22 2 s) 22 2=s:=kg (by omega) (by omega)
   unfold cZ at h
   split at h
   ·rw[kg (by omega) (by omega)]at h;cases h
   rename_i hbf
   apply hbf
   unfold du
   rw[h,show ao (aZ p) 22 2 s 0=2 from by rw[aT (by omega)];unfold aZ;rw[aT (by omega),jg,hk]]
   rfl
  rfl
 intro hb
 unfold aP
 rw[if_pos ⟨hk,hb⟩,hz]
set_option maxHeartbeats 1000000 in
theorem wN {p:Pk}(hE:aG p=0):dk (aP p) (aU p)=0:=by
 obtain ⟨h1,h2,h3,h4,h5,h6⟩:=ig hE
 have e0:aP p 0=p.kind:=by rw[gF (by omega),jg]
 unfold bC cW at h2
 simp at h2
 have hk:=jq hE
 unfold dk
 rw[e0]
 rcases hk with k |k |k
 ·have hs:a_ p.kind=22:=by unfold a_;rw[if_neg (by omega)]
  have e20:aP p 20=p.flags:=by rw[fU (by omega) (by omega),show 20=16+4 from rfl,dt];simp[dq,k]
  have e21:aP p 21=p.no:=by rw[fU (by omega) (by omega),show 21=16+5 from rfl,dt];simp[dq,k]
  rw[k]at h2
  simp at h2
  have hl:aU p=24+p.no+p.nd:=by unfold aU;rw[if_neg (by omega),if_neg (by omega)]
  have:=h3 k
  rw[if_neg (by omega),if_neg (by omega),if_neg]
  rw[e20,e21]
  omega
 ·rw[if_neg (by omega),if_neg (by omega),if_neg (by omega)]
 have hs:a_ p.kind=18:=by unfold a_;rw[if_pos k]
 have e17:aP p 17=0:=by rw[fU (by omega) (by omega),show 17=16+1 from rfl,dt];simp[dq,k]
 have hl:aU p=20+p.nd:=by unfold aU;rw[if_pos k]
 have:=h4 k
 rw[if_pos k,if_neg (by omega),if_neg (by rw[e17];simp)]
theorem lY {p:Pk}(hg:aC p.gd)(ho:aC p.go)(hE:aG p=0):az (aP p) (aU p)=0:=by
 unfold az
 rw[qy hg ho hE,if_pos rfl,wN hE]
set_option maxHeartbeats 4000000 in
theorem wM {p:Pk}(hg:aC p.gd)(ho:aC p.go)(hE:aG p=0)(hc:Clean p):Pe (ax (aP p) (aU p)) p:=by
 obtain ⟨h1,h2,h3,h4,h5,h6⟩:=ig hE
 have e0:aP p 0=p.kind:=by rw[gF (by omega),jg]
 have e1:aP p 1=p.life:=by rw[gF (by omega),Ks]
 have e12:aP p 12=p.piece:=by rw[gF (by omega),Ho]
 have hA:=(gV p.kind).choose_spec
 unfold bC cW at h2
 simp at h2
 have es:num (aP p) 4 4=p.src:=by rw[g6 (by omega) (by omega),FP (by omega) (by omega)]
 have ed:num (aP p) 8 4=p.dst:=by rw[g6 (by omega) (by omega),FR (by omega) (by omega)]
 unfold ax
 rw[lY hg ho hE,if_pos rfl]
 unfold eY
 rw[e0]
 rcases jq hE with k |k |k
 ·have hs:a_ p.kind=22:=by unfold a_;rw[if_neg (by omega)]
  have hl:aU p=24+p.no+p.nd:=by unfold aU;rw[if_neg (by omega),if_neg (by omega)]
  have e20:aP p 20=p.flags:=by rw[fU (by omega) (by omega),show 20=16+4 from rfl,dt];simp[dq,k]
  have e21:aP p 21=p.no:=by rw[fU (by omega) (by omega),show 21=16+5 from rfl,dt];simp[dq,k]
  rw[k]at h2
  simp at h2
  have ef:num (aP p) 16 2=p.fp:=by rw[g6 (by omega) (by omega)];exact kh (by rw[show 16=16+0 from rfl,dt];simp[dq,k]) (by rw[show 16+1=16+1 from rfl,dt];simp[dq,k]) (by omega) (by omega)
  have et:num (aP p) 18 2=p.tp:=by rw[g6 (by omega) (by omega)];exact kh (by rw[show 18=16+2 from rfl,dt];simp[dq,k]) (by rw[show 18+1=16+3 from rfl,dt];simp[dq,k]) (by omega) (by omega)
  rw[if_neg (by omega),if_neg (by omega)]
  have hn:(aP p 21).toNat=p.no:=by rw[e21];rfl
  have q2:=hc.k2 (by omega)
  have qc:=hc.kc (by omega)
  refine⟨rfl,e1,e12,es,ed,ef,et,e20,q2.1.symm,q2.2.symm,qc.symm,hn,?_,by show aU p-24-(aP p 21).toNat=p.nd;rw[hn];omega,?_⟩
  ·intro j hj
   show aP p (24+j)=p.go j
   replace hj:j<(aP p 21).toNat:=hj
   rw[hn]at hj
   rw[fU (by omega) (by omega),show 24+j=16+(8+j) from by omega,dt]
   unfold dq
   rw[if_neg (by omega),if_neg (by omega),if_neg (by omega),if_neg (by omega),if_neg (by omega),if_neg (by omega),if_neg (by omega),if_pos (by omega),show 8+j-8=j from by omega]
  intro j hj
  show aP p (24+(aP p 21).toNat+j)=p.gd j
  rw[hn,fU (by omega) (by omega),show 24+p.no+j=16+(8+p.no+j) from by omega,dt]
  unfold dq
  rw[if_neg (by omega),if_neg (by omega),if_neg (by omega),if_neg (by omega),if_neg (by omega),if_neg (by omega),if_neg (by omega),if_neg (by omega),show 8+p.no+j-8-p.no=j from by omega]
 ·have hs:a_ p.kind=22:=by unfold a_;rw[if_neg (by omega)]
  have hl:aU p=24+p.nd:=by unfold aU;rw[if_neg (by omega),if_pos k]
  rw[k]at h2
  simp at h2
  have ef:num (aP p) 16 2=p.fp:=by rw[g6 (by omega) (by omega)];exact kh (by rw[show 16=16+0 from rfl,dt];simp[dq,k]) (by rw[show 16+1=16+1 from rfl,dt];simp[dq,k]) (by omega) (by omega)
  have et:num (aP p) 18 2=p.tp:=by rw[g6 (by omega) (by omega)];exact kh (by rw[show 18=16+2 from rfl,dt];simp[dq,k]) (by rw[show 18+1=16+3 from rfl,dt];simp[dq,k]) (by omega) (by omega)
  have el:num (aP p) 20 2=p.label:=by rw[g6 (by omega) (by omega)];exact kh (by rw[show 20=16+4 from rfl,dt];simp[dq,k]) (by rw[show 20+1=16+5 from rfl,dt];simp[dq,k]) (by omega) (by omega)
  have hb:=yK hE k
  rw[if_neg (by omega),if_pos k]
  have q1:=hc.k1 (by omega)
  have qc:=hc.kc (by omega)
  refine⟨rfl,e1,e12,es,ed,ef,et,q1.1.symm,el,?_,qc.symm,q1.2.symm,fun j hj=>absurd hj (by show ¬j<0;omega),by show aU p-24=p.nd;omega,?_⟩
  ·show (num (aP p) 22 2==0)=p.bare
   rcases hbb:p.bare with _ | _
   ·rw[hbb]at hb;simpa using hb
   rw[hbb]at hb;simpa using hb
  intro j hj
  show aP p (24+j)=p.gd j
  rw[fU (by omega) (by omega),show 24+j=16+(8+j) from by omega,dt]
  unfold dq
  rw[if_neg (by omega),if_neg (by omega),if_neg (by omega),if_pos k,if_neg (by omega),if_neg (by omega),show 8+j-8=j from by omega]
 have hs:a_ p.kind=18:=by unfold a_;rw[if_pos k]
 have hl:aU p=20+p.nd:=by unfold aU;rw[if_pos k]
 have e16:aP p 16=p.code:=by rw[fU (by omega) (by omega),show 16=16+0 from rfl,dt];simp[dq,k]
 rw[if_pos k]
 have q3:=hc.k3 k
 have q1:=hc.k1 (by omega)
 have q2:=hc.k2 (by omega)
 refine⟨rfl,e1,e12,es,ed,q3.1.symm,q3.2.symm,q1.1.symm,q2.1.symm,q2.2.symm,e16,q1.2.symm,fun j hj=>absurd hj (by show ¬j<0;omega),by show aU p-20=p.nd;omega,?_⟩
 intro j hj
 show aP p (20+j)=p.gd j
 rw[fU (by omega) (by omega),show 20+j=16+(4+j) from by omega,dt]
 unfold dq
 rw[if_pos k,if_neg (by omega),if_neg (by omega),show 4+j-4=j from by omega]
def dS (d:Nat→Int):Nat→Nat→Int
 | _,0=>0
 |a,k+1=>d a+dS d (a+1) k
theorem r8 (d:Nat→Int):∀(k a l:Nat),dS d a (k+l)=dS d a k+dS d (a+k) l
 |0,a,l=>by simp[dS]
 |k+1,a,l=>by
  rw[show k+1+l=(k+l)+1 from by omega]
  show d a+dS d (a+1) (k+l)=d a+dS d (a+1) k+dS d (a+(k+1)) l
  rw[r8 d k (a+1) l,show a+1+k=a+(k+1) from by omega]
  omega
theorem s_ {d:Nat→Int}:∀(k a:Nat),(∀q,a≤q→q<a+k→d q=0)→dS d a k=0
 |0,a,_=>rfl
 |k+1,a,h=>by
  show d a+dS d (a+1) k=0
  rw[h a (by omega) (by omega),s_ k (a+1) (fun q h1 h2=>h q (by omega) (by omega))]
  rfl
theorem vy {d d':Nat→Int}:∀(k a:Nat),(∀q,a≤q→q<a+k→d q=d' q)→dS d a k=dS d' a k
 |0,a,_=>rfl
 |k+1,a,h=>by
  show d a+dS d (a+1) k=d' a+dS d' (a+1) k
  rw[h a (by omega) (by omega),vy k (a+1) (fun q h1 h2=>h q (by omega) (by omega))]
def dP (g x:Nat→Int)(L:Nat):Nat→Int:=fun q=>aL x L (2*q)-aL g L (2*q)
theorem iJ {x y:Nat→Int}{L a:Nat}(h0:x a=y a)(h1:a+1<L→x (a+1)=y (a+1))(ha:a<L):aL x L a=aL y L a:=by
 unfold aL
 split
 ·rw[h0]
 rw[iB,iB,h0,h1 (by omega)]
theorem zk (g x:Nat→Int)(L:Nat):∀n,2*n≤L+1→tot x (min (2*n) L)-tot g (min (2*n) L)=dS (dP g x L) 0 n
 |0,_=>by simp[tot,dS]
 |n+1,h=>by
  rw[r8 _ n 0 1,←zk g x L n (by omega),show min (2*n) L=2*n from by omega]
  show _=_+(dP g x L (0+n)+0)
  rw[Nat.zero_add]
  unfold dP aL
  by_cases e:2*n+1=L
  ·rw[if_pos e,if_pos e,show min (2*(n+1)) L=2*n+1 from by omega,nE,nE]
   omega
  rw[if_neg e,if_neg e,show min (2*(n+1)) L=2*n+2 from by omega,iG,iG,iB,iB]
  omega
theorem uH {g x:Nat→Int}{L a k n:Nat}(hn:2*n≤L+1)(hk:a+k≤n)(h:∀j,j<2*a∨2*(a+k)≤j→x j=g j):tot x (min (2*n) L)-tot g (min (2*n) L)=dS (dP g x L) a k:=by
 have hz:∀q,q<a∨a+k≤q→q<n→dP g x L q=0:=fun q hq hn'=>by
  unfold dP
  rw[iJ (x:=x) (y:=g) (h _ (by omega)) (fun _=>h _ (by omega)) (by omega)]
  omega
 rw[zk g x L n hn,show n=a+(k+(n-a-k)) from by omega,r8,r8,Nat.zero_add,s_ a 0 (fun q _ h2=>hz q (by omega) (by omega)),s_ (n-a-k) (a+k) (fun q h1 h2=>hz q (by omega) (by omega))]
 omega
theorem ga {s L:Nat}{g x:Nat→Int}(hx:aC x)(i:Nat):aC (bh s L g x i):=dy hx _ _ _
theorem cJ {s L:Nat}{g:Nat→Int}:∀(k i:Nat) (x:Nat→Int),aC x→aC (aQ s L g k i x)
 |0,i,x,h=>h
 |k+1,i,x,h=>cJ k (i+2) _ (ga h i)
theorem eM {s L:Nat}{g:Nat→Int}{j:Nat}(hj:j<s∨s+2≤j):∀(k i:Nat) (x:Nat→Int),aQ s L g k i x j=x j
 |0,i,x=>rfl
 |k+1,i,x=>by
  show aQ s L g k (i+2) (bh s L g x i) j=x j
  rw[eM hj k (i+2)]
  exact aT hj
theorem oJ {F:(Nat→Int)→Int}{s L:Nat}{g:Nat→Int}(hg:aC g)(σ:Nat)(hs:s=2*σ)(hsL:s+2≤L)
 (R:(Nat→Int)→Prop) (hR:∀x v,R x→R (ao x s 2 v)) (hF:∀x v,aC x→R x→0≤v→v≤65535→F (ao x s 2 v)=F x+v-num x s 2) :
 ∀(k a:Nat) (x:Nat→Int),aC x→R x→(∀q,a≤q→q<a+k→q≠σ∧2*q<L)→F (aQ s L g k (2*a) x)%65535=(F x-dS (dP g x L) a k)%65535
 |0,a,x,_,_,_=>by simp[aQ,dS]
 |k+1,a,x,hx,hr,hq=>by
  have hpx:=dh hx L (2*a)
  have hpg:=dh hg L (2*a)
  have hn:=bE hx s
  have ht:=sD (num x s 2) (aL g L (2*a)) (aL x L (2*a)) hn.1 hn.2 hpg.1 hpg.2 hpx.1 hpx.2
  have hm:=uF (num x s 2) (aL g L (2*a)) (aL x L (2*a))
  have ih:=oJ hg σ hs hsL R hR hF k (a+1) (bh s L g x (2*a)) (ga hx _) (hR _ _ hr) (fun q h1 h2=>hq q (by omega) (by omega))
  have hd:dS (dP g (bh s L g x (2*a)) L) (a+1) k=dS (dP g x L) (a+1) k:=vy k (a+1) (fun q h1 h2=>by
   have:=hq q (by omega) (by omega)
   unfold dP
   rw[iJ (x:=bh s L g x (2*a)) (y:=x) (aT (by omega)) (fun _=>aT (by omega)) this.2])
  have hf:=hF x (turn (num x s 2) (aL g L (2*a)) (aL x L (2*a))) hx hr ht.1 ht.2
  show F (aQ s L g k (2*a+2) (bh s L g x (2*a)))%65535=(F x-(dP g x L a+dS (dP g x L) (a+1) k))%65535
  rw[show 2*a+2=2*(a+1) from by omega,ih,hd]
  show (F (ao x s 2 (turn (num x s 2) (aL g L (2*a)) (aL x L (2*a))))-_)%65535=_
  rw[hf]
  show _=(F x-((aL x L (2*a)-aL g L (2*a))+dS (dP g x L) (a+1) k))%65535
  omega
theorem tR {g x:Nat→Int}{n:Nat}(h:∀j,j<16→x j=g j):cC x n=cC g n:=by
 unfold cC
 by_cases h16:n<16
 ·rw[if_pos h16,if_pos h16]
 rw[if_neg h16,if_neg h16,h 0 (by omega),h 13 (by omega),gM x g 16 h,iJ (x:=x) (y:=g) (h 2 (by omega)) (fun _=>h 3 (by omega)) (by omega)]
theorem pD {g x:Nat→Int}{n:Nat}(h0:x 0=g 0)(Oq:x 17=g 17)(h20:g 0≠3→x 20=g 20)(h21:g 0≠3→x 21=g 21):dk x n=dk g n:=by
 unfold dk
 rw[h0,Oq]
 by_cases k:g 0=3
 ·rw[if_pos k,if_pos k]
 rw[if_neg k,if_neg k,h20 k,h21 k]
theorem iI {g:Nat→Int}{n:Nat}(h:az g n=0):cC g n=0∧dk g n=0:=by
 unfold az at h
 split at h
 ·exact⟨by assumption,h⟩
 contradiction
theorem q_ {g:Nat→Int}{L:Nat}{a m v:Int}(h:di g L a m v=true):(m=1∧v≤255∨m=2∧v≤65535∨m=4∧v≤4294967295)∧0≤v∧16≤a∧a≤(L:Int)-m∧(a+m≤(a_ (g 0):Int)∨(a_ (g 0):Int)+2≤a):=by
 unfold di at h
 simp only[Bool.and_eq_true,Bool.or_eq_true,decide_eq_true_eq,beq_iff_eq]at h
 omega
theorem yW {g:Nat→Int}{L a m:Nat}{v:Int}{j:Nat}(h:j<a∨a+m≤j)(h':j<a_ (g 0)∨a_ (g 0)+2≤j)(ha:16≤a):cB g L a m v j=g j:=by
 have hA:=(gV (g 0)).choose_spec
 unfold cB
 split
 ·exact aT h
 have e0:aQ (a_ (g 0)) L g ((m+a%2+1)/2) (a-a%2) (ao g a m v) 0=g 0:=by rw[eM (by omega),aT (by omega)]
 by_cases k2:g 0=2
 ·have hs:a_ (g 0)=22:=by unfold a_;rw[if_neg (by omega)]
  rw[ju (by omega),eM (by omega),aT h]
 rw[p7 (by rw[e0];exact k2),eM (by omega),aT h]
theorem Mz {g:Nat→Int}(hg:aC g)(L a m:Nat)(v:Int):aC (cB g L a m v):=by
 unfold cB
 split
 ·exact dy hg _ _ _
 exact sZ (cJ _ _ _ (dy hg _ _ _))
theorem sH (k:Int):a_ k=18∨a_ k=22:=by unfold a_;split;exact .inl rfl;exact .inr rfl
theorem Cq {g:Nat→Int}{L a m:Nat}{v:Int}(ha:24≤a)(hp:az g L=0):az (cB g L a m v) L=0:=by
 obtain ⟨h1,h2⟩:=iI hp
 have hA:=sH (g 0)
 have e:∀j,j<24→(j<a_ (g 0)∨a_ (g 0)+2≤j)→cB g L a m v j=g j:=fun j hj h=>yW (by omega) h (by omega)
 unfold az
 rw[tR (g:=g) (fun j hj=>e j (by omega) (by omega)),if_pos h1,pD (g:=g) (e 0 (by omega) (by omega)) (e 17 (by omega) (by omega))
  (fun k=>e 20 (by omega) (by rw[show a_ (g 0)=22 from by unfold a_;rw[if_neg k]];omega)) (fun k=>e 21 (by omega) (by rw[show a_ (g 0)=22 from by unfold a_;rw[if_neg k]];omega)),h2]
theorem eW {g:Nat→Int}{L:Nat}(hp:az g L=0):24≤L∧L≤1500∧g 0≠0∧isK (g 0)=true:=by
 obtain ⟨h1,h2⟩:=iI hp
 have h3:=lD h1
 have h4:=tc h2 h3.2.1
 have h5:=h3.2.1
 unfold isK at h5
 simp at h5
 exact⟨h4.1,h3.2.2.2.1,by omega,h3.2.1⟩
theorem DO {x:Nat→Int}{n:Nat}(h16:16≤n)(hk:isK (x 0)=true)(hp:aL x n 2=n)(hn:n≤1500)(ou:x 13=0)(ht:norm (tot x 16)=65535):cC x n=0:=by
 unfold cC
 rw[if_neg (by omega),if_neg (by rw[hk];decide),hp,ou,ht,if_neg (by simp;omega),if_neg (by decide)]
theorem tQ {g x:Nat→Int}{n:Nat}(hx:aC x)(hg:aC g)(h:cC g n=0)(h0:x 0=g 0)(h2:x 2=g 2)(h3:x 3=g 3)(ou:x 13=g 13)(ht:tot x 16%65535=tot g 16%65535):cC x n=0:=by
 obtain ⟨a1,a2,a3,a4,a5,a6⟩:=lD h
 refine DO a1 (by rw[h0];exact a2) (by rw[iJ (x:=x) (y:=g) h2 (fun _=>h3) (by omega)];exact a3) a4 (by rw[ou];exact a5) ?_
 have k0:x 0≠0:=by rw[h0];unfold isK at a2;simp at a2;omega
 have g1:=(jL (fA g hg 16)).1 a6
 exact(jL (fA x hx 16)).2 ⟨sE hx (j:=0) (by omega) k0,by rw[ht];exact g1.2⟩
theorem iA {g:Nat→Int}{j:Nat}(h:j≠1)(h':j<14∨16≤j):aN g j=g j:=by
 unfold aN
 rw[aT h']
 unfold set1
 rw[if_neg h]
theorem BP {g:Nat→Int}{L:Nat}(h:iL g L=0):az g L=0∧1<g 1:=by
 unfold iL at h
 split at h
 ·contradiction
 rename_i hp
 split at h
 ·cases h
 exact⟨by simpa using hp,by omega⟩
theorem Gw {g:Nat→Int}(hg:aC g)(h1:1<g 1):tot (aN g) 16%65535=tot g 16%65535:=by
 have hx:aC (set1 g 1 (g 1-1)):=fun j=>by have:=hg 1;unfold set1;split;omega;exact hg j
 have b1:=bE hg 14
 have b2:=bE hg 0
 have b3:=bE hx 0
 have ht:=sD (num g 14 2) (num g 0 2) (num (set1 g 1 (g 1-1)) 0 2) b1.1 b1.2 b2.1 b2.2 b3.1 b3.2
 have hm:=uF (num g 14 2) (num g 0 2) (num (set1 g 1 (g 1-1)) 0 2)
 have e:=nD (set1 g 1 (g 1-1)) 7 (turn (num g 14 2) (num g 0 2) (num (set1 g 1 (g 1-1)) 0 2)) ht.1 ht.2 16 (by omega)
 have e1:=Cv g 1 (g 1-1) 16 (by omega)
 have e2:num (set1 g 1 (g 1-1)) (2*7) 2=num g 14 2:=ly fun j h1 h2=>by unfold set1;rw[if_neg (by omega)]
 have e3:num (set1 g 1 (g 1-1)) 0 2=num g 0 2-1:=by rw[iB,iB,Nat.zero_add];unfold set1;rw[if_neg (by omega),if_pos rfl];omega
 rw[if_neg (by decide)]at e1
 unfold aN
 rw[show ao (set1 g 1 (g 1-1)) 14 2 (turn (num g 14 2) (num g 0 2) (num (set1 g 1 (g 1-1)) 0 2))=ao (set1 g 1 (g 1-1)) (2*7) 2 (turn (num g 14 2) (num g 0 2) (num (set1 g 1 (g 1-1)) 0 2)) from rfl,e,e1,e2]
 rw[e3]at hm ⊢
 omega
theorem jz {g:Nat→Int}{L:Nat}(hg:aC g)(h:iL g L=0):aC (aN g):=by
 have h1:=(BP h).2
 have h2:=hg 1
 unfold aN
 exact dy (fun j=>by unfold set1;split;omega;exact hg j) _ _ _
theorem ub {g:Nat→Int}{L:Nat}(hg:aC g)(h:iL g L=0):az (aN g) L=0:=by
 obtain ⟨hp,h1⟩:=BP h
 obtain ⟨p1,p2⟩:=iI hp
 unfold az
 rw[tQ (jz hg h) hg p1 (iA (by omega) (by omega)) (iA (by omega) (by omega)) (iA (by omega) (by omega)) (iA (by omega) (by omega)) (Gw hg h1),if_pos rfl,
  pD (g:=g) (iA (by omega) (by omega)) (iA (by omega) (by omega)) (fun _=>iA (by omega) (by omega)) (fun _=>iA (by omega) (by omega)),p2]
def aA (s:Bool):Nat:=if s=true then 4 else 8
def pA (s:Bool):Nat:=if s=true then 16 else 18
theorem m4 (g:Nat→Int)(s:Bool)(ad po:Int):aO g s ad po=ao (ao g (aA s) 4 ad) (pA s) 2 po:=by cases s <;> rfl
theorem uw (s:Bool):aA s=4∧pA s=16∨aA s=8∧pA s=18:=by cases s;exact .inr ⟨rfl,rfl⟩;exact .inl ⟨rfl,rfl⟩
theorem sV (g:Nat→Int)(L:Nat)(s:Bool)(ad po:Int):bA g L s ad po=if du g=true then aQ 14 L g 2 (aA s) (aO g s ad po) else cZ (aQ 22 L g 1 (pA s) (aQ 22 L g 2 (aA s) (aQ 14 L g 2 (aA s) (aO g s ad po)))):=by cases s <;> rfl
theorem H9 {g:Nat→Int}{L:Nat}{ad po:Int}(h:iZ g L ad po=0):az g L=0∧g 0≠3∧cW ad 4294967295=true∧cW po 65535=true:=by
 unfold iZ at h
 split at h
 ·contradiction
 rename_i hp
 split at h
 ·cases h
 rename_i h3
 split at h
 ·rename_i hr
  simp at hr
  exact⟨by simpa using hp,h3,hr.1,hr.2⟩
 cases h
theorem q8 {g:Nat→Int}(hg:aC g)(s:Bool)(ad po:Int):aC (aO g s ad po):=by rw[m4];exact dy (dy hg _ _ _) _ _ _
theorem sU {g:Nat→Int}(hg:aC g)(L:Nat)(s:Bool)(ad po:Int):aC (bA g L s ad po):=by
 rw[sV]
 split
 ·exact cJ _ _ _ (q8 hg _ _ _)
 exact sZ (cJ _ _ _ (cJ _ _ _ (cJ _ _ _ (q8 hg _ _ _))))
theorem AJ {g:Nat→Int}{L:Nat}{s:Bool}{ad po:Int}{j:Nat}(h:j<14∨16≤j)(h':j<22∨24≤j):bA g L s ad po j=aO g s ad po j:=by
 rw[sV]
 split
 ·exact eM h _ _ _
 rw[ju h',eM h',eM h',eM h]
theorem vb {g:Nat→Int}{s:Bool}{ad po:Int}{j:Nat}(h:j<aA s∨aA s+4≤j)(h':j<pA s∨pA s+2≤j):aO g s ad po j=g j:=by rw[m4,aT h',aT h]
theorem Jd {g x y:Nat→Int}{L q:Nat}(h0:x (2*q)=y (2*q))(h1:2*q+1<L→x (2*q+1)=y (2*q+1))(hq:2*q<L):dP g x L q=dP g y L q:=by
 unfold dP
 rw[iJ (x:=x) (y:=y) h0 h1 hq]
theorem Dq {g:Nat→Int}{L:Nat}{s:Bool}{ad po:Int}(hg:aC g)(hL:24≤L):tot (bA g L s ad po) 16%65535=tot g 16%65535:=by
 have ha:=uw s
 have hx:=q8 hg s ad po
 have e1:tot (bA g L s ad po) 16=tot (aQ 14 L g 2 (aA s) (aO g s ad po)) 16:=gM _ _ _ fun j hj=>by
  rw[sV]
  split
  ·rfl
  rw[ju (by omega),eM (by omega),eM (by omega)]
 obtain ⟨q,hq⟩:∃q,aA s=2*q:=⟨aA s/2,by omega⟩
 rw[e1,hq]
 have hmain:=oJ (F:=fun x=>tot x 16) (s:=14) (L:=L) hg 7 rfl (by omega) (fun _=>True) (fun _ _ _=>trivial) (fun x v hB _ hv hv'=>by
  have:=nD x 7 v hv hv' 16 (by omega);exact this) 2 q (aO g s ad po) hx trivial (fun q' h1 h2=>by omega)
 rw[hmain]
 have e2:tot (aO g s ad po) 16=tot (ao g (aA s) 4 ad) 16:=gM _ _ _ fun j hj=>by rw[m4,aT (by omega)]
 have e3:dS (dP g (aO g s ad po) L) q 2=dS (dP g (ao g (aA s) 4 ad) L) q 2:=vy 2 q fun q' h1 h2=>Jd (by rw[m4,aT (by omega)]) (fun _=>by rw[m4,aT (by omega)]) (by omega)
 have hd:=uH (g:=g) (x:=ao g (aA s) 4 ad) (L:=L) (a:=q) (k:=2) (n:=8) (by omega) (by omega) (fun j hj=>aT (by omega))
 rw[show min (2*8) L=16 from by omega]at hd
 rw[e2,e3]
 omega
theorem AH {g:Nat→Int}{L:Nat}{s:Bool}{ad po:Int}(hg:aC g)(h:iZ g L ad po=0):az (bA g L s ad po) L=0:=by
 obtain ⟨hp,h3,_,_⟩:=H9 h
 obtain ⟨p1,p2⟩:=iI hp
 have pf:=eW hp
 have ha:=uw s
 have o:∀j,(j<4∨j=13∨j=20∨j=21)→bA g L s ad po j=g j:=fun j hj=>by rw[AJ (by omega) (by omega),vb (by omega) (by omega)]
 have hb:dk (bA g L s ad po) L=dk g L:=by
  unfold dk
  rw[o 0 (by omega),if_neg h3,if_neg h3,o 20 (by omega),o 21 (by omega)]
 unfold az
 rw[tQ (sU hg _ _ _ _) hg p1 (o 0 (by omega)) (o 2 (by omega)) (o 3 (by omega)) (o 13 (by omega)) (Dq hg pf.1),if_pos rfl,hb,p2]
end Go.Proofs.YtalnfkijiehjhaaGreat
