/- The reference's Parse. The reference's Parse of a gram. -/
import Derived.Test.YtgfonkagnambiaaGreatGa
import Derived.Test.YtgfonkagnambiaaGreatGwb
import Derived.BigQuiet
import Derived.Deep.RegionHeld3
import Derived.Deep.Cut
namespace Go.Proofs.YtgfonkagnambiaaGreat
open List renaming setIfInBounds_toArray→zA,set_cons_zero→zB,set_cons_succ→zC
set_option linter.unusedVariables false
set_option linter.unusedSimpArgs false
open Go.RowKit Go.ChangeShapes Go.WideShapes Go.ChangeAt
theorem mK {x:Int}(h:isK x=true):x=1∨x=2∨x=3:=by unfold isK at h;simp at h;omega
theorem i9 {g:Nat→Int}{n:Nat}(e:Int)(h:bT g n=e)(he:e≠0):aB g n=e:=by unfold aB;rw[h,if_neg he]
set_option maxRecDepth 100000 in
set_option maxHeartbeats 8000000 in
theorem wS (A:Option Addr)(n c:Nat)(g:Nat→Int)(w:World)(h:By w A n g)(hg:az g)(hc:n≤c)(hb:n≤1000000)(hne:bT g n≠0∧bT g n≠4) :
 Calls Tryz.prog 87 #[.slice A n c] w (Parsed w g n):=by
 have hz:∀w:World,(zeroValue 45).run Tryz.prog w =.ok (.agg #[(),(),(),(),(),(),(),(),(),false,(),.slice none 0 0,.slice none 0 0]) w:=fun w=>by kernel_rfl
 by_cases h16:n<16
 ·have i1:(n:Int)<16:=by omega
  have hE:aB g n=1:=i9 1 (by unfold bT;rw[if_pos h16]) (by decide)
  have HR:Hid (au g n ={}):=hid (by unfold au;rw[hE,if_neg (by decide)])
  have HE:=hid hE
  clear hE
  clear h h16 hne
  go_enter Tryz.func87,Tryz.ntmps87
  go_wp2_with fail
  refine bodyPost_ret (v:=.tuple #[de {} (.slice none 0 0) (.slice none 0 0),.int .i64 1]) (by simp[results,Tryz.results87,go_sem,de,ea]) rfl ?_
  exact⟨.slice none 0 0,.slice none 0 0,by rw[HR.out,HE.out],by rw[HR.out];exact OB.nil,by rw[HR.out];exact OB.nil,(Below.refl _ _).alloc (Nat.le_refl _) _⟩
 have i1:¬(n:Int)<16:=by omega
 have gb:=hg 0
 obtain ⟨uy,mc⟩:=gb
 have HN:=hid (fun (w':World) (h':By w' A n g)=>bv A n c g w' h' hg 2 2 (by omega) (by omega) hb)
 have hA:=hid (h.below ((Below.refl w.heap.size w).alloc (Nat.le_refl _) (.cells #[(),(),(),(),(),(),(),(),(),false,(),.slice none 0 0,.slice none 0 0] 45)) (Nat.le_refl _))
 obtain ⟨b,off,rfl,hblt,hcell⟩:=hA.out (by omega)
 have c0:=hcell 0 (by omega)
 have c13:=hcell 13 (by omega)
 rw[Nat.add_zero]at c0
 have i2:(0:Int)<n:=by omega
 have i3:(13:Int)<n:=by omega
 clear hcell h
 cases b0:isK (g 0)
 ·have hk:g 0<1∨3<g 0:=by unfold isK at b0;simp at b0;omega
  have hE:aB g n=2:=i9 2 (by unfold bT;rw[if_neg h16,if_pos b0]) (by decide)
  have HR:Hid (au g n ={}):=hid (by unfold au;rw[hE,if_neg (by decide)])
  have HE:=hid hE
  clear hE
  clear h16 b0 hne
  rcases hk with hk |hk
  ·go_enter Tryz.func87,Tryz.ntmps87
   go_wp2_with fail
   refine bodyPost_ret (v:=.tuple #[de {} (.slice none 0 0) (.slice none 0 0),.int .i64 2]) (by simp[results,Tryz.results87,go_sem,de,ea]) rfl ?_
   exact⟨.slice none 0 0,.slice none 0 0,by rw[HR.out,HE.out],by rw[HR.out];exact OB.nil,by rw[HR.out];exact OB.nil,(Below.refl _ _).alloc (Nat.le_refl _) _⟩
  have hk2:¬g 0<1:=by omega
  go_enter Tryz.func87,Tryz.ntmps87
  go_wp2_with fail
  refine bodyPost_ret (v:=.tuple #[de {} (.slice none 0 0) (.slice none 0 0),.int .i64 2]) (by simp[results,Tryz.results87,go_sem,de,ea]) rfl ?_
  exact⟨.slice none 0 0,.slice none 0 0,by rw[HR.out,HE.out],by rw[HR.out];exact OB.nil,by rw[HR.out];exact OB.nil,(Below.refl _ _).alloc (Nat.le_refl _) _⟩
 have hp:aU g n 2=num g 2 2:=by unfold aU;rw[if_neg (by omega)]
 have hx:bT g n=if ((num g 2 2 != (n:Int)) || decide (1500<(n:Int)) || (g 13 != 0))=true then 3 else if (norm (tot g 16)==65535)=false then 4 else 0:=by
  unfold bT;rw[if_neg h16,if_neg (by simp[b0]),hp]
 have hk:=mK b0
 have k1:¬g 0<1:=by omega
 have k2:¬3<g 0:=by omega
 obtain ⟨p,hpp⟩:∃p,p=num g 2 2:=⟨_,rfl⟩
 rw[←hpp]at HN hx
 clear hpp hp h16 b0 hk
 cases b1:(p != (n:Int)) <;> cases b2:decide (1500<(n:Int)) <;> cases b3:(g 13 != 0)
 ·exfalso
  rw[b1,b2,b3]at hx
  simp only[Bool.false_or,Bool.false_eq_true,if_false]at hx
  split at hx
  ·exact hne.2 hx
  exact hne.1 hx
 all_goals
  have hE:aB g n=3:=i9 3 (by rw[hx,b1,b2,b3];rfl) (by decide)
  have HR:Hid (au g n ={}):=hid (by unfold au;rw[hE,if_neg (by decide)])
  have HE:=hid hE
  clear hE hx hne
  go_enter Tryz.func87,Tryz.ntmps87
  go_wp2_with fail
  refine(HN.out _ hA.out).mono ?_
  rintro x w' ⟨rfl,rfl⟩
  go_wp2_with fail
  refine bodyPost_ret (v:=.tuple #[de {} (.slice none 0 0) (.slice none 0 0),.int .i64 3]) (by simp[results,Tryz.results87,go_sem,de,ea]) rfl ?_
  exact⟨.slice none 0 0,.slice none 0 0,by rw[HR.out,HE.out],by rw[HR.out];exact OB.nil,by rw[HR.out];exact OB.nil,(Below.refl _ _).alloc (Nat.le_refl _) _⟩
theorem pT {g:Nat→Int}{n:Nat}(h:bT g n=0∨bT g n=4):16≤n∧isK (g 0)=true∧num g 2 2=n∧n≤1500∧g 13=0∧bT g n=if (norm (tot g 16)==65535)=false then 4 else 0:=by
 have hx:bT g n=bT g n:=rfl
 unfold bT at h
 split at h
 ·rcases h with h |h <;> cases h
 split at h
 ·rcases h with h |h <;> cases h
 split at h
 ·rcases h with h |h <;> cases h
 rename_i h1 h2 h3
 refine⟨by omega,by simpa using h2,?_,?_,?_,?_⟩
 ·have hp:aU g n 2=num g 2 2:=by unfold aU;rw[if_neg (by simp at h3;omega)]
  rw[←hp];simp at h3;exact h3.1.1
 ·simp at h3;omega
 ·simp at h3;exact h3.2
 unfold bT;rw[if_neg h1,if_neg h2,if_neg h3]
theorem bZ {w w':World}{B n b size:Nat}{e:TypeId}{v:Value}{f:Nat→Value}(h:Ow w B e size v n f)(hg:w.grownBy w' (some b))(hne:v.ownBlock≠some b):Ow w' B e size v n f:=by
 refine⟨h.1,?_⟩
 rcases h.2 with h0 |⟨g',cap,cur,rfl,hB,hh,h1⟩
 ·exact .inl h0
 refine .inr ⟨g',cap,cur,rfl,hB,?_,h1⟩
 have hlt:g'<w.heap.size:=by
  rcases Nat.lt_or_ge g' w.heap.size with hlt |hge
  ·exact hlt
  rw[Array.getElem?_eq_none hge]at hh;cases hh
 rw[hg.block g' hlt hne]
 exact hh
theorem ve {w:World}{B n size:Nat}{e:TypeId}{v:Value}{f:Nat→Value}(h:Ow w B e size v n f)(x:Nat)(hx:w.heap.size≤x):v.ownBlock≠some x:=by
 rcases h.2 with ⟨rfl,_⟩ |⟨g',cap,cur,rfl,hB,hh,h1⟩
 ·intro e;cases e
 intro e
 simp only[Value.ownBlock,Option.some.injEq]at e
 rw[Array.getElem?_eq_none (by omega)]at hh
 cases hh
theorem ew {w:World}{o:Oper}{a:Act}{K:Act→World→Prop}{Q:Exit→Act→World→Prop}(hgd:o.guard=none)(s x:Operand)(ho:o.op =.call { callee:=.builtin .append,args:=#[s,x],argTypes:=#[39,39] })
 (E:Nat) (hs:a.eval s =.slice (some ⟨E,0,none⟩) 0 0) (hown:∀f,Ow w E 5 1 (.slice (some ⟨E,0,none⟩) 0 0) 0 f) (hE:E<w.heap.size)
 (A:Option Addr) (m c:Nat) (f2:Nat→Int) (hx:a.eval x =.slice A m c) (hr:By w A m f2) (hsz:m≤140737488355328)
 (h:∀A' c' w',OB w' E (.slice A' m c') m f2→w.grownBy w' (some E)→(∀x,x≠E→x<w.heap.size→(Value.slice A' m c').ownBlock≠some x)→K (a.put o.dst (.slice A' m c')) w'):Oper.wp Tryz.prog o a w K Q:=by
 have:=nK (ops:=#[]) (a:=a) (K:=K) (Q:=Q) (E:=True) hgd s x ho E _ hs hown A m c f2 hx hr hsz (by omega) (fun A' c' w' h1 _ _ h4 h5 h6=>h A' c' w' h1 h5 (fun x h7 h8 h9=>by
  rcases h6 x h9 with h10 |h10
  ·exact h7 (by injection h10 with h10;exact h10.symm)
  omega))
 rw[if_pos (by simp[Region.wanted,hgd])]at this
 exact this
set_option maxRecDepth 100000 in
set_option maxHeartbeats 8000000 in
theorem tz (A:Option Addr)(n c:Nat)(g:Nat→Int)(w:World)(h:By w A n g)(hg:az g)(hc:n≤c)(hb:n≤1000000)(hne:bT g n=0)(n24:24≤n)(b3:(g 0==3)=false)(b2:(g 0==2)=true) :
 Calls Tryz.prog 87 #[.slice A n c] w (Parsed w g n):=by
 have hz:∀w:World,(zeroValue 45).run Tryz.prog w =.ok (.agg #[(),(),(),(),(),(),(),(),(),false,(),.slice none 0 0,.slice none 0 0]) w:=fun w=>by kernel_rfl
 obtain ⟨h16,hk,hp,mQ,ma,hx⟩:=pT (.inl hne)
 have i1:¬(n:Int)<16:=by omega
 have gb:=hg 0
 obtain ⟨uy,mc⟩:=gb
 have HN:=hid (fun (w':World) (h':By w' A n g)=>cq (bv A n c g w' h' hg 2 2 (by omega) (by omega) hb) hp)
 have hs:(norm (tot g 16)==65535)=true:=by rw[hne]at hx;split at hx;(cases hx);rename_i h;simpa using h
 have m6:=hid (fun (w':World) (h':By w' A n g) c'=>fY (lq A 16 c' g w' (h'.less (k:=16) (by omega)) hg (by omega)) hs)
 clear hx hs
 have hA:=hid (h.below ((Below.refl w.heap.size w).alloc (Nat.le_refl _) (.cells #[(),(),(),(),(),(),(),(),(),false,(),.slice none 0 0,.slice none 0 0] 45)) (Nat.le_refl _))
 have lh:=hid h
 obtain ⟨b,off,rfl,hblt,hcell⟩:=hA.out (by omega)
 have c0:=hcell 0 (by omega)
 have c13:=hcell 13 (by omega)
 rw[Nat.add_zero]at c0
 have i2:(0:Int)<n:=by omega
 have i3:(13:Int)<n:=by omega
 have i4:(16:Int)≤c:=by omega
 have i5:¬(1500:Int)<n:=by omega
 have hk3:=mK hk
 have k1:¬g 0<1:=by omega
 have k2:¬3<g 0:=by omega
 have e13:(g 13 != 0)=false:=by simpa using ma
 have yv:=hid hk3
 have HG:=hid hg
 clear hcell h hp hk hk3 yv ma hg
 have iM:aB g n=cg g n:=by unfold aB;rw[if_pos hne]
 clear hne
 have k3:¬g 0=3:=by simpa using b3
 have px:decide ((n:Int)<24)=false:=by simp;omega
 have K2:Hid (g 0=2):=hid (by simpa using b2)
 go_enter Tryz.func87,Tryz.ntmps87
 go_wp2_with fail
 refine(HN.out _ hA.out).mono ?_
 rintro x w' ⟨rfl,rfl⟩
 go_wp2_with fail
 refine(m6.out _ hA.out _).mono ?_
 rintro x w' ⟨rfl,rfl⟩
 go_upto_region 11 with (fail)
 have eu:=hid (Ce.made (w:=w) (l:=[(),(),(),(),(),(),(),(),(),false,(),.slice none 0 0,.slice none 0 0]) (T:=45) rfl)
 have B2:=hid ((Below.refl w.heap.size w).alloc (Nat.le_refl _) (.cells #[(),(),(),(),(),(),(),(),(),false,(),.slice none 0 0,.slice none 0 0] 45))
 have h2:=hA
 have iz:=eu.out.1
 simp only[List.toArray]at eu
 clear c0 c13 HN m6 hA
 generalize w.alloc (.cells #[(),(),(),(),(),(),(),(),(),false,(),.slice none 0 0,.slice none 0 0] 45)=w1 at *
 have hbw:b<w.heap.size:=Sl.lt lh.out (by omega)
 have gj:=hid (fun (w':World) (hw:By w' (some ⟨b,off,none⟩) n g) (a:Nat) (ha:a+4≤n)=>bv _ n c g w' hw HG.out a 4 (by omega) ha hb)
 have mc:=HG.out 1
 have oE:=HG.out 12
 obtain ⟨zV,zU⟩:=mc
 obtain ⟨vv,vu⟩:=oE
 have j1:(12:Int)<n:=by omega
 have j2:(1:Int)<n:=by omega
 have j3:0<n:=by omega
 have j4:1<n:=by omega
 have j5:12<n:=by omega
 have v0:IntKind.i64.wrap (g 0)=g 0:=IntWalk.i64_in _ (by omega)
 have v1:IntKind.i64.wrap (g 1)=g 1:=IntWalk.i64_in _ (by omega)
 have v2:IntKind.i64.wrap (g 12)=g 12:=IntWalk.i64_in _ (by omega)
 go_cut [4] from 63 (fun p wx=>∃L:Nat,p =.pointer (some ⟨L,0,none⟩)∧w.heap.size<L∧Ce wx L [(g 0),(g 1),(g 12),(num g 4 4),(num g 8 4),(),(),(),(),false,(),.slice none 0 0,.slice none 0 0]∧By wx (some ⟨b,off,none⟩) n g∧Ce wx w.heap.size [(),(),(),(),(),(),(),(),(),false,(),.slice none 0 0,.slice none 0 0]∧Below w.heap.size w wx)
 case first=>
  refine wp_region_held_drew (S:=fun w'=>By w' (some ⟨b,off,none⟩) n g∧Ce w' w.heap.size [(),(),(),(),(),(),(),(),(),false,(),.slice none 0 0,.slice none 0 0]∧Below w.heap.size w w') (by kernel_rfl) ?_ (fun hHeld=>?_)
  ·exact⟨h2.out.drew,eu.out,below_drewN B2.out 1⟩
  refine ae 0 (by assumption) ?_
  refine ae 1 (by assumption) ?_
  refine ae 2 (by assumption) ?_ (hy:=by intro w hSw;(try dsimp only at hSw);obtain ⟨hA,hC,hB⟩:=hSw;have z0:=hA.at_ (j:=0) (by omega);have z1:=hA.at_ (j:=1) (by omega);have z12:=hA.at_ (j:=12) (by omega);rw[Nat.add_zero]at z0;go_simp;(try with_reducible rfl))
  refine ae 3 (by assumption) ?_
  refine ae 4 (by assumption) ?_
  refine ae 5 (by assumption) ?_
  refine ae 6 (by assumption) ?_ (hy:=by intro w hSw;(try dsimp only at hSw);obtain ⟨hA,hC,hB⟩:=hSw;have z0:=hA.at_ (j:=0) (by omega);have z1:=hA.at_ (j:=1) (by omega);have z12:=hA.at_ (j:=12) (by omega);rw[Nat.add_zero]at z0;go_simp;(try with_reducible rfl))
  refine ae 7 (by assumption) ?_
  refine ae 8 (by assumption) ?_
  refine ae 9 (by assumption) ?_
  refine ae 10 (by assumption) ?_ (hy:=by intro w hSw;(try dsimp only at hSw);obtain ⟨hA,hC,hB⟩:=hSw;have z0:=hA.at_ (j:=0) (by omega);have z1:=hA.at_ (j:=1) (by omega);have z12:=hA.at_ (j:=12) (by omega);rw[Nat.add_zero]at z0;go_simp;(try with_reducible rfl))
  refine ae 11 (by assumption) ?_
  refine ae 12 (by assumption) ?_
  refine ae 14 (by assumption) ?_
  refine dO 13 17 rfl rfl (by kernel_rfl) rfl rfl (fun K hK=>?_) (fun K hK=>?_)
  ·go_simp
   refine(gj.out _ hHeld.1 4 (by omega)).mono ?_
   rintro e' w' ⟨rfl,rfl⟩
   try go_wp2_with fail
   refine hK.out _ _ hHeld (fun _=>?_)
   clear hK
   try simp only[Act.put,zA,zB,zC]
   refine dO 15 17 rfl rfl (by kernel_rfl) rfl rfl (fun K hK=>?_) (fun K hK=>?_)
   ·go_simp
    refine(gj.out _ hHeld.1 8 (by omega)).mono ?_
    rintro e' w' ⟨rfl,rfl⟩
    try go_wp2_with fail
    refine hK.out _ _ hHeld (fun _=>?_)
    clear hK
    try simp only[Act.put,zA,zB,zC]
    refine ae 16 (by assumption) ?_
    refine only 17 rfl (by kernel_rfl) rfl (fun K hK=>?_)
    go_simp
    refine hK.out _ _ ⟨hHeld.1.alloc _,hHeld.2.1.alloc _,hHeld.2.2.alloc hHeld.2.2.size _⟩ (fun bV=>?_)
    clear hK
    try simp only[Act.put,zA,zB,zC]
    refine only 18 rfl (by kernel_rfl) rfl (fun K hK=>?_)
    go_simp
    refine hK.out _ _ ⟨hHeld.1.alloc _,hHeld.2.1.alloc _,hHeld.2.2.alloc hHeld.2.2.size _⟩ (fun _=>?_)
    clear hK
    try simp only[Act.put,zA,zB,zC]
    refine wpAnyH_done (by kernel_rfl) ?_ _
    go_wp2_with fail
    go_meet
    exact⟨_,rfl,iz,(Ce.made (w:=w1) (l:=[(g 0),(g 1),(g 12),(num g 4 4),(num g 8 4),(),(),(),(),false,(),.slice none 0 0,.slice none 0 0]) rfl).aP,(h2.out.alloc _).drew,(eu.out.alloc _).aP,(B2.out.alloc B2.out.size _).drew⟩
   go_simp
   refine hK.out _ _ ⟨hHeld.1.alloc _,hHeld.2.1.alloc _,hHeld.2.2.alloc hHeld.2.2.size _⟩ (fun bV=>?_)
   clear hK
   try simp only[Act.put,zA,zB,zC]
   refine only 15 rfl (by kernel_rfl) rfl (fun K hK=>?_)
   go_simp
   refine(gj.out _ bV.1 8 (by omega)).mono ?_
   rintro e' w' ⟨rfl,rfl⟩
   try go_wp2_with fail
   refine hK.out _ _ bV (fun _=>?_)
   clear hK
   try simp only[Act.put,zA,zB,zC]
   refine ae 16 (by assumption) ?_
   refine only 18 rfl (by kernel_rfl) rfl (fun K hK=>?_)
   go_simp
   refine hK.out _ _ ⟨hHeld.1.alloc _,hHeld.2.1.alloc _,hHeld.2.2.alloc hHeld.2.2.size _⟩ (fun _=>?_)
   clear hK
   try simp only[Act.put,zA,zB,zC]
   refine wpAnyH_done (by kernel_rfl) ?_ _
   go_wp2_with fail
   go_meet
   exact⟨_,rfl,iz,(Ce.made (w:=w1) (l:=[(g 0),(g 1),(g 12),(num g 4 4),(num g 8 4),(),(),(),(),false,(),.slice none 0 0,.slice none 0 0]) rfl).aP,(h2.out.alloc _).drew,(eu.out.alloc _).aP,(B2.out.alloc B2.out.size _).drew⟩
  go_simp
  refine hK.out _ _ ⟨hHeld.1.alloc _,hHeld.2.1.alloc _,hHeld.2.2.alloc hHeld.2.2.size _⟩ (fun bV=>?_)
  clear hK
  try simp only[Act.put,zA,zB,zC]
  refine only 13 rfl (by kernel_rfl) rfl (fun K hK=>?_)
  go_simp
  refine(gj.out _ bV.1 4 (by omega)).mono ?_
  rintro e' w' ⟨rfl,rfl⟩
  try go_wp2_with fail
  refine hK.out _ _ bV (fun _=>?_)
  clear hK
  try simp only[Act.put,zA,zB,zC]
  refine only 15 rfl (by kernel_rfl) rfl (fun K hK=>?_)
  go_simp
  refine(gj.out _ bV.1 8 (by omega)).mono ?_
  rintro e' w' ⟨rfl,rfl⟩
  try go_wp2_with fail
  refine hK.out _ _ bV (fun _=>?_)
  clear hK
  try simp only[Act.put,zA,zB,zC]
  refine ae 16 (by assumption) ?_
  refine only 18 rfl (by kernel_rfl) rfl (fun K hK=>?_)
  go_simp
  refine hK.out _ _ ⟨hHeld.1.alloc _,hHeld.2.1.alloc _,hHeld.2.2.alloc hHeld.2.2.size _⟩ (fun _=>?_)
  clear hK
  try simp only[Act.put,zA,zB,zC]
  refine wpAnyH_done (by kernel_rfl) ?_ _
  go_wp2_with fail
  go_meet
  exact⟨_,rfl,iz,(Ce.made (w:=w1) (l:=[(g 0),(g 1),(g 12),(num g 4 4),(num g 8 4),(),(),(),(),false,(),.slice none 0 0,.slice none 0 0]) rfl).aP,(h2.out.alloc _).drew,(eu.out.alloc _).aP,(B2.out.alloc B2.out.size _).drew⟩
 obtain ⟨L,rfl,hL,aT,hA,eo,hB⟩:=hcut
 replace aT:=hid aT
 replace eo:=hid eo
 replace hA:=hid hA
 replace hB:=hid hB
 have dG:L≠w.heap.size:=Nat.ne_of_gt hL
 have FX:w.heap.size≠L:=Nat.ne_of_lt hL
 have hBlt:b≠L:=by omega
 have ET:b≠w.heap.size:=by omega
 clear eu B2 h2 iz lh
 have mO:aB g n=0:=by rw[iM];unfold cg;rw[if_neg k3,if_neg (by omega),if_neg (fun e=>by have:=e.1;have:=K2.out;omega)]
 have ik:Hid (au g n ={ kind:=g 0,life:=g 1,piece:=g 12,src:=num g 4 4,dst:=num g 8 4,fp:=num g 16 2,tp:=num g 18 2,label:=num g 20 2,bare:=num g 22 2==0,nd:=n-24,gd:=fun j=>g (24+j) }):=hid (by unfold au;rw[mO,if_pos rfl];unfold ez;rw[if_neg k3,if_pos K2.out])
 have HE:=hid mO
 clear mO iM px k3
 obtain ⟨A9,r1,r2⟩:=dU (some ⟨b,off,none⟩) n c 24 n24 hc 24 rfl
 replace r2:=hid r2
 have kO:=hid (fun (w':World) (hw:By w' (some ⟨b,off,none⟩) n g) (a:Nat) (ha:a+2≤n)=>bv _ n c g w' hw HG.out a 2 (by omega) ha hb)
 have y0:=aT.out.2.1 0 _ rfl
 have y1:=aT.out.2.1 1 _ rfl
 have y2:=aT.out.2.1 2 _ rfl
 have y3:=aT.out.2.1 3 _ rfl
 have y4:=aT.out.2.1 4 _ rfl
 have y5:=aT.out.2.1 5 _ rfl
 have y6:=aT.out.2.1 6 _ rfl
 have y7:=aT.out.2.1 7 _ rfl
 have y8:=aT.out.2.1 8 _ rfl
 have y9:=aT.out.2.1 9 _ rfl
 have aj:=aT.out.2.1 10 _ rfl
 have ah:=aT.out.2.1 11 _ rfl
 have ag:=aT.out.2.1 12 _ rfl
 have yf:=aT.out.2.2
 have yl:=aT.out.1
 go_wp2_with fail
 refine(kO.out _ hA.out 16 (by omega)).mono ?_
 rintro x w' ⟨rfl,rfl⟩
 go_wp2_with fail
 refine(kO.out _ hA.out 18 (by omega)).mono ?_
 rintro x w' ⟨rfl,rfl⟩
 have C2:=hid (((aT.out).set 5 (.int .i64 (num g 16 2)) (by simp)).set 6 (.int .i64 (num g 18 2)) (by simp))
 have R2:=hid (eo.out.grown (gs 6 (.int .i64 (num g 18 2)) (gs 5 (.int .i64 (num g 16 2)) (World.grownBy.refl wc (some L)))) (fun e=>dG (by injection e)))
 have A2:=hid (bz hA.out (gs 6 (.int .i64 (num g 18 2)) (gs 5 (.int .i64 (num g 16 2)) (World.grownBy.refl wc (some L)))) hBlt)
 have D2:=hid (((hB.out).setCell (p:=⟨L,5,none⟩) (Nat.le_of_lt hL) (.int .i64 (num g 16 2))).setCell (p:=⟨L,6,none⟩) (Nat.le_of_lt hL) (.int .i64 (num g 18 2)))
 go_upto_region 19 with (fail)
 clear y0 y1 y2 y3 y4 y5 y6 y7 y8 y9 aj ah ag yf yl aT eo hA hB
 generalize ((wc.setCell ⟨L,5,none⟩ (.int .i64 (num g 16 2))).setCell ⟨L,6,none⟩ (.int .i64 (num g 18 2)))=wq at *
 have na:=C2.out.aP
 refine wp_region_held_drew (S:=fun w'=>By w' (some ⟨b,off,none⟩) n g∧Ce w' w.heap.size [(),(),(),(),(),(),(),(),(),false,(),.slice none 0 0,.slice none 0 0]∧Below w.heap.size w w') (by kernel_rfl) ?_ (fun hHeld=>?_)
 ·exact⟨A2.out.drew,R2.out,below_drewN D2.out 1⟩
 clear A2 R2 D2 C2
 refine ae 0 (by assumption) ?_
 refine ae 2 (by assumption) ?_
 refine ae 6 (by assumption) ?_
 refine ae 7 (by assumption) ?_
 refine dO 1 5 rfl rfl (by kernel_rfl) rfl rfl (fun K hK=>?_) (fun K hK=>?_)
 ·go_simp
  refine(kO.out _ hHeld.1 20 (by omega)).mono ?_
  rintro e' w' ⟨rfl,rfl⟩
  try go_wp2_with fail
  refine hK.out _ _ hHeld (fun _=>?_)
  clear hK
  try simp only[Act.put,zA,zB,zC]
  refine ae 9 (by assumption) ?_
  refine dO 3 5 rfl rfl (by kernel_rfl) rfl rfl (fun K hK=>?_) (fun K hK=>?_)
  ·go_simp
   refine(kO.out _ hHeld.1 22 (by omega)).mono ?_
   rintro e' w' ⟨rfl,rfl⟩
   try go_wp2_with fail
   refine hK.out _ _ hHeld (fun _=>?_)
   clear hK
   try simp only[Act.put,zA,zB,zC]
   refine ae 4 (by assumption) ?_
   refine only 5 rfl (by kernel_rfl) rfl (fun K hK=>?_)
   go_simp
   have h6:By ((wq.alloc (.cells #[] 5)).drew) (some ⟨b,off,none⟩) n g∧Ce ((wq.alloc (.cells #[] 5)).drew) w.heap.size [(),(),(),(),(),(),(),(),(),false,(),.slice none 0 0,.slice none 0 0]∧Below w.heap.size w ((wq.alloc (.cells #[] 5)).drew):=⟨hHeld.1.alloc _,hHeld.2.1.alloc _,hHeld.2.2.alloc hHeld.2.2.size _⟩
   have yG:Ce ((wq.alloc (.cells #[] 5)).drew) L [(g 0),(g 1),(g 12),(num g 4 4),(num g 8 4),(num g 16 2),(num g 18 2),(),(),false,(),.slice none 0 0,.slice none 0 0]:=na.alloc (.cells #[] 5)
   have e6:∀f,Ow ((wq.alloc (.cells #[] 5)).drew) wq.heap.size 5 1 (.slice (some ⟨wq.heap.size,0,none⟩) 0 0) 0 f:=fun f=>Ow.new' (w:=wq.drew) rfl
   have l6:L<wq.heap.size:=na.1
   have s6:((wq.alloc (.cells #[] 5)).drew).heap.size=wq.heap.size+1:=by simp
   refine hK.out _ _ h6 (fun _=>?_)
   clear hK
   try simp only[Act.put,zA,zB,zC]
   generalize ((wq.alloc (.cells #[] 5)).drew)=w6 at *
   generalize wq.heap.size=E6 at *
   refine only 8 rfl (by kernel_rfl) rfl (fun K hK=>?_)
   refine ew rfl (.tmp 113) (.tmp 115) rfl E6 rfl e6 (by omega) _ (n-24) _ (fun j=>g (24+j)) rfl (r2.out _ g h6.1) (by omega) ?_
   intro A7 c7 w7 o7 g7 q7
   have h7:By w7 (some ⟨b,off,none⟩) n g∧Ce w7 w.heap.size [(),(),(),(),(),(),(),(),(),false,(),.slice none 0 0,.slice none 0 0]∧Below w.heap.size w w7:=⟨bz h6.1 g7 (by omega),h6.2.1.grown g7 (fun e=>by injection e with e;omega),h6.2.2.trans (af g7 (by omega) h6.2.2.size)⟩
   have yF:=yG.grown g7 (fun e=>by injection e with e;omega)
   have s7:=g7.size
   refine hK.out _ _ h7 (fun _=>?_)
   clear hK
   try simp only[Act.put,zA,zB,zC]
   have CC:=hid yF
   have y0:=CC.out.2.1 0 _ rfl
   have y1:=CC.out.2.1 1 _ rfl
   have y2:=CC.out.2.1 2 _ rfl
   have y3:=CC.out.2.1 3 _ rfl
   have y4:=CC.out.2.1 4 _ rfl
   have y5:=CC.out.2.1 5 _ rfl
   have y6:=CC.out.2.1 6 _ rfl
   have y7:=CC.out.2.1 7 _ rfl
   have y8:=CC.out.2.1 8 _ rfl
   have y9:=CC.out.2.1 9 _ rfl
   have aj:=CC.out.2.1 10 _ rfl
   have ah:=CC.out.2.1 11 _ rfl
   have ag:=CC.out.2.1 12 _ rfl
   have yf:=CC.out.2.2
   have yl:=CC.out.1
   have HH:=hid h7
   refine only 10 rfl (by kernel_rfl) rfl (fun K hK=>?_)
   go_simp
   refine hK.out _ _ ⟨bz HH.out.1 (gs 8 (.int .i64 (num g 20 2)) (World.grownBy.refl w7 (some L))) hBlt,HH.out.2.1.grown (gs 8 (.int .i64 (num g 20 2)) (World.grownBy.refl w7 (some L))) (fun e=>dG (by injection e)),(HH.out.2.2).setCell (p:=⟨L,8,none⟩) (Nat.le_of_lt hL) (.int .i64 (num g 20 2))⟩ (fun hN0=>?_)
   clear hK
   try simp only[Act.put,zA,zB,zC]
   refine ae 11 hN0 ?_
   clear hN0
   refine only 12 rfl (by kernel_rfl) rfl (fun K hK=>?_)
   go_simp
   refine hK.out _ _ ⟨bz HH.out.1 (gs 9 (.bool (num g 22 2==0)) (gs 8 (.int .i64 (num g 20 2)) (World.grownBy.refl w7 (some L)))) hBlt,HH.out.2.1.grown (gs 9 (.bool (num g 22 2==0)) (gs 8 (.int .i64 (num g 20 2)) (World.grownBy.refl w7 (some L)))) (fun e=>dG (by injection e)),((HH.out.2.2).setCell (p:=⟨L,8,none⟩) (Nat.le_of_lt hL) (.int .i64 (num g 20 2))).setCell (p:=⟨L,9,none⟩) (Nat.le_of_lt hL) (.bool (num g 22 2==0))⟩ (fun hN1=>?_)
   clear hK
   try simp only[Act.put,zA,zB,zC]
   refine ae 13 hN1 ?_
   clear hN1
   refine only 14 rfl (by kernel_rfl) rfl (fun K hK=>?_)
   go_simp
   refine hK.out _ _ ⟨bz HH.out.1 (gs 12 (.slice A7 (n-24) c7) (gs 9 (.bool (num g 22 2==0)) (gs 8 (.int .i64 (num g 20 2)) (World.grownBy.refl w7 (some L))))) hBlt,HH.out.2.1.grown (gs 12 (.slice A7 (n-24) c7) (gs 9 (.bool (num g 22 2==0)) (gs 8 (.int .i64 (num g 20 2)) (World.grownBy.refl w7 (some L))))) (fun e=>dG (by injection e)),(((HH.out.2.2).setCell (p:=⟨L,8,none⟩) (Nat.le_of_lt hL) (.int .i64 (num g 20 2))).setCell (p:=⟨L,9,none⟩) (Nat.le_of_lt hL) (.bool (num g 22 2==0))).setCell (p:=⟨L,12,none⟩) (Nat.le_of_lt hL) (.slice A7 (n-24) c7)⟩ (fun kB=>?_)
   clear hK
   try simp only[Act.put,zA,zB,zC]
   refine wpAnyH_done (by kernel_rfl) ?_ _
   have bw:=hid ((((CC.out).set 8 (.int .i64 (num g 20 2)) (by simp)).set 9 (.bool (num g 22 2==0)) (by simp)).set 12 (.slice A7 (n-24) c7) (by simp))
   have aZ:=hid (HH.out.2.1.grown (gs 12 (.slice A7 (n-24) c7) (gs 9 (.bool (num g 22 2==0)) (gs 8 (.int .i64 (num g 20 2)) (World.grownBy.refl w7 (some L))))) (fun e=>dG (by injection e)))
   have m_:=hid ((((HH.out.2.2).setCell (p:=⟨L,8,none⟩) (Nat.le_of_lt hL) (.int .i64 (num g 20 2))).setCell (p:=⟨L,9,none⟩) (Nat.le_of_lt hL) (.bool (num g 22 2==0))).setCell (p:=⟨L,12,none⟩) (Nat.le_of_lt hL) (.slice A7 (n-24) c7))
   have jy:=hid (OB.grown o7 (gs 12 (.slice A7 (n-24) c7) (gs 9 (.bool (num g 22 2==0)) (gs 8 (.int .i64 (num g 20 2)) (World.grownBy.refl w7 (some L))))) (OB.ne o7 l6))
   clear kB
   clear y0 y1 y2 y3 y4 y5 y6 y7 y8 y9 aj ah ag yf yl
   generalize (((w7.setCell ⟨L,8,none⟩ (.int .i64 (num g 20 2))).setCell ⟨L,9,none⟩ (.bool (num g 22 2==0))).setCell ⟨L,12,none⟩ (.slice A7 (n-24) c7))=w8 at *
   have y0:=bw.out.2.1 0 _ rfl
   have y1:=bw.out.2.1 1 _ rfl
   have y2:=bw.out.2.1 2 _ rfl
   have y3:=bw.out.2.1 3 _ rfl
   have y4:=bw.out.2.1 4 _ rfl
   have y5:=bw.out.2.1 5 _ rfl
   have y6:=bw.out.2.1 6 _ rfl
   have y7:=bw.out.2.1 7 _ rfl
   have y8:=bw.out.2.1 8 _ rfl
   have y9:=bw.out.2.1 9 _ rfl
   have aj:=bw.out.2.1 10 _ rfl
   have ah:=bw.out.2.1 11 _ rfl
   have ag:=bw.out.2.1 12 _ rfl
   have yf:=bw.out.2.2
   have yl:=bw.out.1
   have z0:=aZ.out.2.1 0 _ rfl
   have z1:=aZ.out.2.1 1 _ rfl
   have z2:=aZ.out.2.1 2 _ rfl
   have z3:=aZ.out.2.1 3 _ rfl
   have z4:=aZ.out.2.1 4 _ rfl
   have z5:=aZ.out.2.1 5 _ rfl
   have z6:=aZ.out.2.1 6 _ rfl
   have z7:=aZ.out.2.1 7 _ rfl
   have z8:=aZ.out.2.1 8 _ rfl
   have z9:=aZ.out.2.1 9 _ rfl
   have je:=aZ.out.2.1 10 _ rfl
   have jd:=aZ.out.2.1 11 _ rfl
   have z12:=aZ.out.2.1 12 _ rfl
   have zf:=aZ.out.2.2
   have zl:=aZ.out.1
   go_wp2_with fail
   have CE:=(aZ.out).s13 (.int .i64 (g 0)) (.int .i64 (g 1)) (.int .i64 (g 12)) (.int .i64 (num g 4 4)) (.int .i64 (num g 8 4)) (.int .i64 (num g 16 2)) (.int .i64 (num g 18 2)) (.int .i64 0) (.int .i64 (num g 20 2)) (.bool (num g 22 2==0)) (.int .i64 0) (.slice none 0 0) (.slice A7 (n-24) c7)
   have BE:=cF (b:=w.heap.size) (m_.out) (Nat.le_refl _) (.int .i64 (g 0)) (.int .i64 (g 1)) (.int .i64 (g 12)) (.int .i64 (num g 4 4)) (.int .i64 (num g 8 4)) (.int .i64 (num g 16 2)) (.int .i64 (num g 18 2)) (.int .i64 0) (.int .i64 (num g 20 2)) (.bool (num g 22 2==0)) (.int .i64 0) (.slice none 0 0) (.slice A7 (n-24) c7)
   have cn:=OB.grown (jy.out) (aJ _ w.heap.size (.int .i64 (g 0)) (.int .i64 (g 1)) (.int .i64 (g 12)) (.int .i64 (num g 4 4)) (.int .i64 (num g 8 4)) (.int .i64 (num g 16 2)) (.int .i64 (num g 18 2)) (.int .i64 0) (.int .i64 (num g 20 2)) (.bool (num g 22 2==0)) (.int .i64 0) (.slice none 0 0) (.slice A7 (n-24) c7)) (OB.ne (jy.out) (by omega))
   unfold cG at CE BE cn
   replace CE:=hid CE
   replace BE:=hid BE
   replace cn:=hid cn
   refine b5 (fun w'=>Ce w' w.heap.size [(g 0),(g 1),(g 12),(num g 4 4),(num g 8 4),(num g 16 2),(num g 18 2),(),(num g 20 2),.bool (num g 22 2==0),(),.slice none 0 0,.slice A7 (n-24) c7]∧Below w.heap.size w w'∧OB w' E6 (.slice A7 (n-24) c7) (n-24) (fun j=>g (24+j))) ⟨CE.out,BE.out,cn.out⟩ (fun wf hwf=>?_)
   obtain ⟨hc2,hbf,ho0⟩:=hwf
   have x0:=hc2.2.1 0 _ rfl
   have x1:=hc2.2.1 1 _ rfl
   have x2:=hc2.2.1 2 _ rfl
   have x3:=hc2.2.1 3 _ rfl
   have x4:=hc2.2.1 4 _ rfl
   have x5:=hc2.2.1 5 _ rfl
   have x6:=hc2.2.1 6 _ rfl
   have x7:=hc2.2.1 7 _ rfl
   have x8:=hc2.2.1 8 _ rfl
   have x9:=hc2.2.1 9 _ rfl
   have eX:=hc2.2.1 10 _ rfl
   have eW:=hc2.2.1 11 _ rfl
   have eV:=hc2.2.1 12 _ rfl
   refine bodyPost_ret (v:=.tuple #[.agg #[(g 0),(g 1),(g 12),(num g 4 4),(num g 8 4),(num g 16 2),(num g 18 2),(),(num g 20 2),.bool (num g 22 2==0),(),.slice none 0 0,.slice A7 (n-24) c7],()]) (by simp[results,Tryz.results87,go_sem,x0,x1,x2,x3,x4,x5,x6,x7,x8,x9,eX,eW,eV]) rfl ?_
   exact⟨.slice none 0 0,(.slice A7 (n-24) c7),by rw[ik.out,HE.out];rfl,by rw[ik.out];exact OB.nil,by rw[ik.out];exact OB.base ho0 (by omega),hbf⟩
  go_simp
  have h6:By ((wq.alloc (.cells #[] 5)).drew) (some ⟨b,off,none⟩) n g∧Ce ((wq.alloc (.cells #[] 5)).drew) w.heap.size [(),(),(),(),(),(),(),(),(),false,(),.slice none 0 0,.slice none 0 0]∧Below w.heap.size w ((wq.alloc (.cells #[] 5)).drew):=⟨hHeld.1.alloc _,hHeld.2.1.alloc _,hHeld.2.2.alloc hHeld.2.2.size _⟩
  have yG:Ce ((wq.alloc (.cells #[] 5)).drew) L [(g 0),(g 1),(g 12),(num g 4 4),(num g 8 4),(num g 16 2),(num g 18 2),(),(),false,(),.slice none 0 0,.slice none 0 0]:=na.alloc (.cells #[] 5)
  have e6:∀f,Ow ((wq.alloc (.cells #[] 5)).drew) wq.heap.size 5 1 (.slice (some ⟨wq.heap.size,0,none⟩) 0 0) 0 f:=fun f=>Ow.new' (w:=wq.drew) rfl
  have l6:L<wq.heap.size:=na.1
  have s6:((wq.alloc (.cells #[] 5)).drew).heap.size=wq.heap.size+1:=by simp
  refine hK.out _ _ h6 (fun _=>?_)
  clear hK
  try simp only[Act.put,zA,zB,zC]
  generalize ((wq.alloc (.cells #[] 5)).drew)=w6 at *
  generalize wq.heap.size=E6 at *
  refine only 3 rfl (by kernel_rfl) rfl (fun K hK=>?_)
  go_simp
  refine(kO.out _ h6.1 22 (by omega)).mono ?_
  rintro e' w' ⟨rfl,rfl⟩
  try go_wp2_with fail
  refine hK.out _ _ h6 (fun _=>?_)
  clear hK
  try simp only[Act.put,zA,zB,zC]
  refine ae 4 (by assumption) ?_
  refine only 8 rfl (by kernel_rfl) rfl (fun K hK=>?_)
  refine ew rfl (.tmp 113) (.tmp 115) rfl E6 rfl e6 (by omega) _ (n-24) _ (fun j=>g (24+j)) rfl (r2.out _ g h6.1) (by omega) ?_
  intro A7 c7 w7 o7 g7 q7
  have h7:By w7 (some ⟨b,off,none⟩) n g∧Ce w7 w.heap.size [(),(),(),(),(),(),(),(),(),false,(),.slice none 0 0,.slice none 0 0]∧Below w.heap.size w w7:=⟨bz h6.1 g7 (by omega),h6.2.1.grown g7 (fun e=>by injection e with e;omega),h6.2.2.trans (af g7 (by omega) h6.2.2.size)⟩
  have yF:=yG.grown g7 (fun e=>by injection e with e;omega)
  have s7:=g7.size
  refine hK.out _ _ h7 (fun _=>?_)
  clear hK
  try simp only[Act.put,zA,zB,zC]
  have CC:=hid yF
  have y0:=CC.out.2.1 0 _ rfl
  have y1:=CC.out.2.1 1 _ rfl
  have y2:=CC.out.2.1 2 _ rfl
  have y3:=CC.out.2.1 3 _ rfl
  have y4:=CC.out.2.1 4 _ rfl
  have y5:=CC.out.2.1 5 _ rfl
  have y6:=CC.out.2.1 6 _ rfl
  have y7:=CC.out.2.1 7 _ rfl
  have y8:=CC.out.2.1 8 _ rfl
  have y9:=CC.out.2.1 9 _ rfl
  have aj:=CC.out.2.1 10 _ rfl
  have ah:=CC.out.2.1 11 _ rfl
  have ag:=CC.out.2.1 12 _ rfl
  have yf:=CC.out.2.2
  have yl:=CC.out.1
  have HH:=hid h7
  refine only 10 rfl (by kernel_rfl) rfl (fun K hK=>?_)
  go_simp
  refine hK.out _ _ ⟨bz HH.out.1 (gs 8 (.int .i64 (num g 20 2)) (World.grownBy.refl w7 (some L))) hBlt,HH.out.2.1.grown (gs 8 (.int .i64 (num g 20 2)) (World.grownBy.refl w7 (some L))) (fun e=>dG (by injection e)),(HH.out.2.2).setCell (p:=⟨L,8,none⟩) (Nat.le_of_lt hL) (.int .i64 (num g 20 2))⟩ (fun hN0=>?_)
  clear hK
  try simp only[Act.put,zA,zB,zC]
  refine ae 11 hN0 ?_
  clear hN0
  refine only 12 rfl (by kernel_rfl) rfl (fun K hK=>?_)
  go_simp
  refine hK.out _ _ ⟨bz HH.out.1 (gs 9 (.bool (num g 22 2==0)) (gs 8 (.int .i64 (num g 20 2)) (World.grownBy.refl w7 (some L)))) hBlt,HH.out.2.1.grown (gs 9 (.bool (num g 22 2==0)) (gs 8 (.int .i64 (num g 20 2)) (World.grownBy.refl w7 (some L)))) (fun e=>dG (by injection e)),((HH.out.2.2).setCell (p:=⟨L,8,none⟩) (Nat.le_of_lt hL) (.int .i64 (num g 20 2))).setCell (p:=⟨L,9,none⟩) (Nat.le_of_lt hL) (.bool (num g 22 2==0))⟩ (fun hN1=>?_)
  clear hK
  try simp only[Act.put,zA,zB,zC]
  refine ae 13 hN1 ?_
  clear hN1
  refine only 14 rfl (by kernel_rfl) rfl (fun K hK=>?_)
  go_simp
  refine hK.out _ _ ⟨bz HH.out.1 (gs 12 (.slice A7 (n-24) c7) (gs 9 (.bool (num g 22 2==0)) (gs 8 (.int .i64 (num g 20 2)) (World.grownBy.refl w7 (some L))))) hBlt,HH.out.2.1.grown (gs 12 (.slice A7 (n-24) c7) (gs 9 (.bool (num g 22 2==0)) (gs 8 (.int .i64 (num g 20 2)) (World.grownBy.refl w7 (some L))))) (fun e=>dG (by injection e)),(((HH.out.2.2).setCell (p:=⟨L,8,none⟩) (Nat.le_of_lt hL) (.int .i64 (num g 20 2))).setCell (p:=⟨L,9,none⟩) (Nat.le_of_lt hL) (.bool (num g 22 2==0))).setCell (p:=⟨L,12,none⟩) (Nat.le_of_lt hL) (.slice A7 (n-24) c7)⟩ (fun kB=>?_)
  clear hK
  try simp only[Act.put,zA,zB,zC]
  refine wpAnyH_done (by kernel_rfl) ?_ _
  have bw:=hid ((((CC.out).set 8 (.int .i64 (num g 20 2)) (by simp)).set 9 (.bool (num g 22 2==0)) (by simp)).set 12 (.slice A7 (n-24) c7) (by simp))
  have aZ:=hid (HH.out.2.1.grown (gs 12 (.slice A7 (n-24) c7) (gs 9 (.bool (num g 22 2==0)) (gs 8 (.int .i64 (num g 20 2)) (World.grownBy.refl w7 (some L))))) (fun e=>dG (by injection e)))
  have m_:=hid ((((HH.out.2.2).setCell (p:=⟨L,8,none⟩) (Nat.le_of_lt hL) (.int .i64 (num g 20 2))).setCell (p:=⟨L,9,none⟩) (Nat.le_of_lt hL) (.bool (num g 22 2==0))).setCell (p:=⟨L,12,none⟩) (Nat.le_of_lt hL) (.slice A7 (n-24) c7))
  have jy:=hid (OB.grown o7 (gs 12 (.slice A7 (n-24) c7) (gs 9 (.bool (num g 22 2==0)) (gs 8 (.int .i64 (num g 20 2)) (World.grownBy.refl w7 (some L))))) (OB.ne o7 l6))
  clear kB
  clear y0 y1 y2 y3 y4 y5 y6 y7 y8 y9 aj ah ag yf yl
  generalize (((w7.setCell ⟨L,8,none⟩ (.int .i64 (num g 20 2))).setCell ⟨L,9,none⟩ (.bool (num g 22 2==0))).setCell ⟨L,12,none⟩ (.slice A7 (n-24) c7))=w8 at *
  have y0:=bw.out.2.1 0 _ rfl
  have y1:=bw.out.2.1 1 _ rfl
  have y2:=bw.out.2.1 2 _ rfl
  have y3:=bw.out.2.1 3 _ rfl
  have y4:=bw.out.2.1 4 _ rfl
  have y5:=bw.out.2.1 5 _ rfl
  have y6:=bw.out.2.1 6 _ rfl
  have y7:=bw.out.2.1 7 _ rfl
  have y8:=bw.out.2.1 8 _ rfl
  have y9:=bw.out.2.1 9 _ rfl
  have aj:=bw.out.2.1 10 _ rfl
  have ah:=bw.out.2.1 11 _ rfl
  have ag:=bw.out.2.1 12 _ rfl
  have yf:=bw.out.2.2
  have yl:=bw.out.1
  have z0:=aZ.out.2.1 0 _ rfl
  have z1:=aZ.out.2.1 1 _ rfl
  have z2:=aZ.out.2.1 2 _ rfl
  have z3:=aZ.out.2.1 3 _ rfl
  have z4:=aZ.out.2.1 4 _ rfl
  have z5:=aZ.out.2.1 5 _ rfl
  have z6:=aZ.out.2.1 6 _ rfl
  have z7:=aZ.out.2.1 7 _ rfl
  have z8:=aZ.out.2.1 8 _ rfl
  have z9:=aZ.out.2.1 9 _ rfl
  have je:=aZ.out.2.1 10 _ rfl
  have jd:=aZ.out.2.1 11 _ rfl
  have z12:=aZ.out.2.1 12 _ rfl
  have zf:=aZ.out.2.2
  have zl:=aZ.out.1
  go_wp2_with fail
  have CE:=(aZ.out).s13 (.int .i64 (g 0)) (.int .i64 (g 1)) (.int .i64 (g 12)) (.int .i64 (num g 4 4)) (.int .i64 (num g 8 4)) (.int .i64 (num g 16 2)) (.int .i64 (num g 18 2)) (.int .i64 0) (.int .i64 (num g 20 2)) (.bool (num g 22 2==0)) (.int .i64 0) (.slice none 0 0) (.slice A7 (n-24) c7)
  have BE:=cF (b:=w.heap.size) (m_.out) (Nat.le_refl _) (.int .i64 (g 0)) (.int .i64 (g 1)) (.int .i64 (g 12)) (.int .i64 (num g 4 4)) (.int .i64 (num g 8 4)) (.int .i64 (num g 16 2)) (.int .i64 (num g 18 2)) (.int .i64 0) (.int .i64 (num g 20 2)) (.bool (num g 22 2==0)) (.int .i64 0) (.slice none 0 0) (.slice A7 (n-24) c7)
  have cn:=OB.grown (jy.out) (aJ _ w.heap.size (.int .i64 (g 0)) (.int .i64 (g 1)) (.int .i64 (g 12)) (.int .i64 (num g 4 4)) (.int .i64 (num g 8 4)) (.int .i64 (num g 16 2)) (.int .i64 (num g 18 2)) (.int .i64 0) (.int .i64 (num g 20 2)) (.bool (num g 22 2==0)) (.int .i64 0) (.slice none 0 0) (.slice A7 (n-24) c7)) (OB.ne (jy.out) (by omega))
  unfold cG at CE BE cn
  replace CE:=hid CE
  replace BE:=hid BE
  replace cn:=hid cn
  refine b5 (fun w'=>Ce w' w.heap.size [(g 0),(g 1),(g 12),(num g 4 4),(num g 8 4),(num g 16 2),(num g 18 2),(),(num g 20 2),.bool (num g 22 2==0),(),.slice none 0 0,.slice A7 (n-24) c7]∧Below w.heap.size w w'∧OB w' E6 (.slice A7 (n-24) c7) (n-24) (fun j=>g (24+j))) ⟨CE.out,BE.out,cn.out⟩ (fun wf hwf=>?_)
  obtain ⟨hc2,hbf,ho0⟩:=hwf
  have x0:=hc2.2.1 0 _ rfl
  have x1:=hc2.2.1 1 _ rfl
  have x2:=hc2.2.1 2 _ rfl
  have x3:=hc2.2.1 3 _ rfl
  have x4:=hc2.2.1 4 _ rfl
  have x5:=hc2.2.1 5 _ rfl
  have x6:=hc2.2.1 6 _ rfl
  have x7:=hc2.2.1 7 _ rfl
  have x8:=hc2.2.1 8 _ rfl
  have x9:=hc2.2.1 9 _ rfl
  have eX:=hc2.2.1 10 _ rfl
  have eW:=hc2.2.1 11 _ rfl
  have eV:=hc2.2.1 12 _ rfl
  refine bodyPost_ret (v:=.tuple #[.agg #[(g 0),(g 1),(g 12),(num g 4 4),(num g 8 4),(num g 16 2),(num g 18 2),(),(num g 20 2),.bool (num g 22 2==0),(),.slice none 0 0,.slice A7 (n-24) c7],()]) (by simp[results,Tryz.results87,go_sem,x0,x1,x2,x3,x4,x5,x6,x7,x8,x9,eX,eW,eV]) rfl ?_
  exact⟨.slice none 0 0,(.slice A7 (n-24) c7),by rw[ik.out,HE.out];rfl,by rw[ik.out];exact OB.nil,by rw[ik.out];exact OB.base ho0 (by omega),hbf⟩
 go_simp
 have h6:By ((wq.alloc (.cells #[] 5)).drew) (some ⟨b,off,none⟩) n g∧Ce ((wq.alloc (.cells #[] 5)).drew) w.heap.size [(),(),(),(),(),(),(),(),(),false,(),.slice none 0 0,.slice none 0 0]∧Below w.heap.size w ((wq.alloc (.cells #[] 5)).drew):=⟨hHeld.1.alloc _,hHeld.2.1.alloc _,hHeld.2.2.alloc hHeld.2.2.size _⟩
 have yG:Ce ((wq.alloc (.cells #[] 5)).drew) L [(g 0),(g 1),(g 12),(num g 4 4),(num g 8 4),(num g 16 2),(num g 18 2),(),(),false,(),.slice none 0 0,.slice none 0 0]:=na.alloc (.cells #[] 5)
 have e6:∀f,Ow ((wq.alloc (.cells #[] 5)).drew) wq.heap.size 5 1 (.slice (some ⟨wq.heap.size,0,none⟩) 0 0) 0 f:=fun f=>Ow.new' (w:=wq.drew) rfl
 have l6:L<wq.heap.size:=na.1
 have s6:((wq.alloc (.cells #[] 5)).drew).heap.size=wq.heap.size+1:=by simp
 refine hK.out _ _ h6 (fun _=>?_)
 clear hK
 try simp only[Act.put,zA,zB,zC]
 generalize ((wq.alloc (.cells #[] 5)).drew)=w6 at *
 generalize wq.heap.size=E6 at *
 refine only 1 rfl (by kernel_rfl) rfl (fun K hK=>?_)
 go_simp
 refine(kO.out _ h6.1 20 (by omega)).mono ?_
 rintro e' w' ⟨rfl,rfl⟩
 try go_wp2_with fail
 refine hK.out _ _ h6 (fun _=>?_)
 clear hK
 try simp only[Act.put,zA,zB,zC]
 refine ae 9 (by assumption) ?_
 refine only 3 rfl (by kernel_rfl) rfl (fun K hK=>?_)
 go_simp
 refine(kO.out _ h6.1 22 (by omega)).mono ?_
 rintro e' w' ⟨rfl,rfl⟩
 try go_wp2_with fail
 refine hK.out _ _ h6 (fun _=>?_)
 clear hK
 try simp only[Act.put,zA,zB,zC]
 refine ae 4 (by assumption) ?_
 refine only 8 rfl (by kernel_rfl) rfl (fun K hK=>?_)
 refine ew rfl (.tmp 113) (.tmp 115) rfl E6 rfl e6 (by omega) _ (n-24) _ (fun j=>g (24+j)) rfl (r2.out _ g h6.1) (by omega) ?_
 intro A7 c7 w7 o7 g7 q7
 have h7:By w7 (some ⟨b,off,none⟩) n g∧Ce w7 w.heap.size [(),(),(),(),(),(),(),(),(),false,(),.slice none 0 0,.slice none 0 0]∧Below w.heap.size w w7:=⟨bz h6.1 g7 (by omega),h6.2.1.grown g7 (fun e=>by injection e with e;omega),h6.2.2.trans (af g7 (by omega) h6.2.2.size)⟩
 have yF:=yG.grown g7 (fun e=>by injection e with e;omega)
 have s7:=g7.size
 refine hK.out _ _ h7 (fun _=>?_)
 clear hK
 try simp only[Act.put,zA,zB,zC]
 have CC:=hid yF
 have y0:=CC.out.2.1 0 _ rfl
 have y1:=CC.out.2.1 1 _ rfl
 have y2:=CC.out.2.1 2 _ rfl
 have y3:=CC.out.2.1 3 _ rfl
 have y4:=CC.out.2.1 4 _ rfl
 have y5:=CC.out.2.1 5 _ rfl
 have y6:=CC.out.2.1 6 _ rfl
 have y7:=CC.out.2.1 7 _ rfl
 have y8:=CC.out.2.1 8 _ rfl
 have y9:=CC.out.2.1 9 _ rfl
 have aj:=CC.out.2.1 10 _ rfl
 have ah:=CC.out.2.1 11 _ rfl
 have ag:=CC.out.2.1 12 _ rfl
 have yf:=CC.out.2.2
 have yl:=CC.out.1
 have HH:=hid h7
 refine only 10 rfl (by kernel_rfl) rfl (fun K hK=>?_)
 go_simp
 refine hK.out _ _ ⟨bz HH.out.1 (gs 8 (.int .i64 (num g 20 2)) (World.grownBy.refl w7 (some L))) hBlt,HH.out.2.1.grown (gs 8 (.int .i64 (num g 20 2)) (World.grownBy.refl w7 (some L))) (fun e=>dG (by injection e)),(HH.out.2.2).setCell (p:=⟨L,8,none⟩) (Nat.le_of_lt hL) (.int .i64 (num g 20 2))⟩ (fun hN0=>?_)
 clear hK
 try simp only[Act.put,zA,zB,zC]
 refine ae 11 hN0 ?_
 clear hN0
 refine only 12 rfl (by kernel_rfl) rfl (fun K hK=>?_)
 go_simp
 refine hK.out _ _ ⟨bz HH.out.1 (gs 9 (.bool (num g 22 2==0)) (gs 8 (.int .i64 (num g 20 2)) (World.grownBy.refl w7 (some L)))) hBlt,HH.out.2.1.grown (gs 9 (.bool (num g 22 2==0)) (gs 8 (.int .i64 (num g 20 2)) (World.grownBy.refl w7 (some L)))) (fun e=>dG (by injection e)),((HH.out.2.2).setCell (p:=⟨L,8,none⟩) (Nat.le_of_lt hL) (.int .i64 (num g 20 2))).setCell (p:=⟨L,9,none⟩) (Nat.le_of_lt hL) (.bool (num g 22 2==0))⟩ (fun hN1=>?_)
 clear hK
 try simp only[Act.put,zA,zB,zC]
 refine ae 13 hN1 ?_
 clear hN1
 refine only 14 rfl (by kernel_rfl) rfl (fun K hK=>?_)
 go_simp
 refine hK.out _ _ ⟨bz HH.out.1 (gs 12 (.slice A7 (n-24) c7) (gs 9 (.bool (num g 22 2==0)) (gs 8 (.int .i64 (num g 20 2)) (World.grownBy.refl w7 (some L))))) hBlt,HH.out.2.1.grown (gs 12 (.slice A7 (n-24) c7) (gs 9 (.bool (num g 22 2==0)) (gs 8 (.int .i64 (num g 20 2)) (World.grownBy.refl w7 (some L))))) (fun e=>dG (by injection e)),(((HH.out.2.2).setCell (p:=⟨L,8,none⟩) (Nat.le_of_lt hL) (.int .i64 (num g 20 2))).setCell (p:=⟨L,9,none⟩) (Nat.le_of_lt hL) (.bool (num g 22 2==0))).setCell (p:=⟨L,12,none⟩) (Nat.le_of_lt hL) (.slice A7 (n-24) c7)⟩ (fun kB=>?_)
 clear hK
 try simp only[Act.put,zA,zB,zC]
 refine wpAnyH_done (by kernel_rfl) ?_ _
 have bw:=hid ((((CC.out).set 8 (.int .i64 (num g 20 2)) (by simp)).set 9 (.bool (num g 22 2==0)) (by simp)).set 12 (.slice A7 (n-24) c7) (by simp))
 have aZ:=hid (HH.out.2.1.grown (gs 12 (.slice A7 (n-24) c7) (gs 9 (.bool (num g 22 2==0)) (gs 8 (.int .i64 (num g 20 2)) (World.grownBy.refl w7 (some L))))) (fun e=>dG (by injection e)))
 have m_:=hid ((((HH.out.2.2).setCell (p:=⟨L,8,none⟩) (Nat.le_of_lt hL) (.int .i64 (num g 20 2))).setCell (p:=⟨L,9,none⟩) (Nat.le_of_lt hL) (.bool (num g 22 2==0))).setCell (p:=⟨L,12,none⟩) (Nat.le_of_lt hL) (.slice A7 (n-24) c7))
 have jy:=hid (OB.grown o7 (gs 12 (.slice A7 (n-24) c7) (gs 9 (.bool (num g 22 2==0)) (gs 8 (.int .i64 (num g 20 2)) (World.grownBy.refl w7 (some L))))) (OB.ne o7 l6))
 clear kB
 clear y0 y1 y2 y3 y4 y5 y6 y7 y8 y9 aj ah ag yf yl
 generalize (((w7.setCell ⟨L,8,none⟩ (.int .i64 (num g 20 2))).setCell ⟨L,9,none⟩ (.bool (num g 22 2==0))).setCell ⟨L,12,none⟩ (.slice A7 (n-24) c7))=w8 at *
 have y0:=bw.out.2.1 0 _ rfl
 have y1:=bw.out.2.1 1 _ rfl
 have y2:=bw.out.2.1 2 _ rfl
 have y3:=bw.out.2.1 3 _ rfl
 have y4:=bw.out.2.1 4 _ rfl
 have y5:=bw.out.2.1 5 _ rfl
 have y6:=bw.out.2.1 6 _ rfl
 have y7:=bw.out.2.1 7 _ rfl
 have y8:=bw.out.2.1 8 _ rfl
 have y9:=bw.out.2.1 9 _ rfl
 have aj:=bw.out.2.1 10 _ rfl
 have ah:=bw.out.2.1 11 _ rfl
 have ag:=bw.out.2.1 12 _ rfl
 have yf:=bw.out.2.2
 have yl:=bw.out.1
 have z0:=aZ.out.2.1 0 _ rfl
 have z1:=aZ.out.2.1 1 _ rfl
 have z2:=aZ.out.2.1 2 _ rfl
 have z3:=aZ.out.2.1 3 _ rfl
 have z4:=aZ.out.2.1 4 _ rfl
 have z5:=aZ.out.2.1 5 _ rfl
 have z6:=aZ.out.2.1 6 _ rfl
 have z7:=aZ.out.2.1 7 _ rfl
 have z8:=aZ.out.2.1 8 _ rfl
 have z9:=aZ.out.2.1 9 _ rfl
 have je:=aZ.out.2.1 10 _ rfl
 have jd:=aZ.out.2.1 11 _ rfl
 have z12:=aZ.out.2.1 12 _ rfl
 have zf:=aZ.out.2.2
 have zl:=aZ.out.1
 go_wp2_with fail
 have CE:=(aZ.out).s13 (.int .i64 (g 0)) (.int .i64 (g 1)) (.int .i64 (g 12)) (.int .i64 (num g 4 4)) (.int .i64 (num g 8 4)) (.int .i64 (num g 16 2)) (.int .i64 (num g 18 2)) (.int .i64 0) (.int .i64 (num g 20 2)) (.bool (num g 22 2==0)) (.int .i64 0) (.slice none 0 0) (.slice A7 (n-24) c7)
 have BE:=cF (b:=w.heap.size) (m_.out) (Nat.le_refl _) (.int .i64 (g 0)) (.int .i64 (g 1)) (.int .i64 (g 12)) (.int .i64 (num g 4 4)) (.int .i64 (num g 8 4)) (.int .i64 (num g 16 2)) (.int .i64 (num g 18 2)) (.int .i64 0) (.int .i64 (num g 20 2)) (.bool (num g 22 2==0)) (.int .i64 0) (.slice none 0 0) (.slice A7 (n-24) c7)
 have cn:=OB.grown (jy.out) (aJ _ w.heap.size (.int .i64 (g 0)) (.int .i64 (g 1)) (.int .i64 (g 12)) (.int .i64 (num g 4 4)) (.int .i64 (num g 8 4)) (.int .i64 (num g 16 2)) (.int .i64 (num g 18 2)) (.int .i64 0) (.int .i64 (num g 20 2)) (.bool (num g 22 2==0)) (.int .i64 0) (.slice none 0 0) (.slice A7 (n-24) c7)) (OB.ne (jy.out) (by omega))
 unfold cG at CE BE cn
 replace CE:=hid CE
 replace BE:=hid BE
 replace cn:=hid cn
 refine b5 (fun w'=>Ce w' w.heap.size [(g 0),(g 1),(g 12),(num g 4 4),(num g 8 4),(num g 16 2),(num g 18 2),(),(num g 20 2),.bool (num g 22 2==0),(),.slice none 0 0,.slice A7 (n-24) c7]∧Below w.heap.size w w'∧OB w' E6 (.slice A7 (n-24) c7) (n-24) (fun j=>g (24+j))) ⟨CE.out,BE.out,cn.out⟩ (fun wf hwf=>?_)
 obtain ⟨hc2,hbf,ho0⟩:=hwf
 have x0:=hc2.2.1 0 _ rfl
 have x1:=hc2.2.1 1 _ rfl
 have x2:=hc2.2.1 2 _ rfl
 have x3:=hc2.2.1 3 _ rfl
 have x4:=hc2.2.1 4 _ rfl
 have x5:=hc2.2.1 5 _ rfl
 have x6:=hc2.2.1 6 _ rfl
 have x7:=hc2.2.1 7 _ rfl
 have x8:=hc2.2.1 8 _ rfl
 have x9:=hc2.2.1 9 _ rfl
 have eX:=hc2.2.1 10 _ rfl
 have eW:=hc2.2.1 11 _ rfl
 have eV:=hc2.2.1 12 _ rfl
 refine bodyPost_ret (v:=.tuple #[.agg #[(g 0),(g 1),(g 12),(num g 4 4),(num g 8 4),(num g 16 2),(num g 18 2),(),(num g 20 2),.bool (num g 22 2==0),(),.slice none 0 0,.slice A7 (n-24) c7],()]) (by simp[results,Tryz.results87,go_sem,x0,x1,x2,x3,x4,x5,x6,x7,x8,x9,eX,eW,eV]) rfl ?_
 exact⟨.slice none 0 0,(.slice A7 (n-24) c7),by rw[ik.out,HE.out];rfl,by rw[ik.out];exact OB.nil,by rw[ik.out];exact OB.base ho0 (by omega),hbf⟩
end Go.Proofs.YtgfonkagnambiaaGreat
