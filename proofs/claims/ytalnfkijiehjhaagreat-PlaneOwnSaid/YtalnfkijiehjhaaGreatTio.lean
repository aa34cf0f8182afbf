/- A client's packet. What a slot's backend sends. -/
import Derived.Test.YtalnfkijiehjhaaGreatGa
import Derived.Test.YtalnfkijiehjhaaGreatTth
import Derived.Test.YtalnfkijiehjhaaGreatTam
import Derived.Test.YtalnfkijiehjhaaGreatGu
import Derived.Deep.CutBlock
import Derived.Deep.CutRange
import Derived.BigQuiet
import Derived.Deep.RegionHeld3
import Derived.Deep.Cut
import Derived.IntWalk
namespace Go.Proofs.YtalnfkijiehjhaaGreat
open List renaming setIfInBounds_toArray→zA,set_cons_zero→zB,set_cons_succ→zC
set_option linter.unusedVariables false
set_option linter.unusedSimpArgs false
open Go.RowKit Go.ChangeShapes Go.WideShapes Go.ChangeAt
set_option maxRecDepth 100000
structure Fa (p:Pl) (x:Pk):Prop where
 md:Me x
 lf:1≤x.life∧x.life≤9
 pc:x.piece=0
 src:0≤x.src∧x.src≤4294967295
 dst:x.dst=p.a
 fp:0≤x.fp∧x.fp≤65535
 tp:x.tp=p.p
theorem yU (c j:Int)(N:Nat)(hc:0≤c∧c<2^N)(hj:0≤j∧j<16)(hN:16≤N)(mC:N≤20):0≤bits .xor .i64 c (2^j.toNat)∧bits .xor .i64 c (2^j.toNat)<2^N:=by
 obtain ⟨a,rfl⟩:=Int.eq_ofNat_of_zero_le hc.1
 obtain ⟨b,rfl⟩:=Int.eq_ofNat_of_zero_le hj.1
 have ha:a<2^N:=by have:=hc.2;exact_mod_cast this
 have hb:2^b<2^N:=Nat.pow_lt_pow_right (by omega) (by omega)
 have h64:(2:Nat)^N≤2^20:=Nat.pow_le_pow_right (by omega) mC
 have hx:a ^^^ 2^b<2^N:=Nat.xor_lt_two_pow ha hb
 have e:bits .xor .i64 (a:Int) (2^(b:Int).toNat)=((a ^^^ 2^b:Nat):Int):=by
  have e1:((2:Int)^(b:Int).toNat)=((2^b:Nat):Int):=by simp
  rw[e1]
  show IntKind.i64.wrap ((BitVec.ofInt 64 (a:Int) ^^^ BitVec.ofInt 64 ((2^b:Nat):Int)).toNat:Int)=_
  rw[BitVec.toNat_xor,BitVec.ofInt_natCast,BitVec.ofInt_natCast,BitVec.toNat_ofNat,BitVec.toNat_ofNat,Nat.mod_eq_of_lt (by omega),Nat.mod_eq_of_lt (by omega)]
  exact IntWalk.i64_in _ (by omega)
 rw[e]
 exact⟨by omega,by exact_mod_cast hx⟩
theorem gA (a n:Int)(w:World)(hb:0<n)(hb':n≤4611686018427387904) :
 Calls Tryz.prog 36 #[a,n] w fun e w'=>e =.returned (.int .i64 (wi a n))∧w=w':=by
 have ht:=sF a n hb
 have hn:=hid (tmod_neg a n hb)
 have hp:=hid (qO a n hb)
 obtain ⟨h1,h2⟩:=ht
 go_enter Tryz.func36,Tryz.ntmps36
 exact qZ5
theorem mo (x:Int):0≤IntKind.u8.wrap x∧IntKind.u8.wrap x≤255:=by
 show 0≤x%256∧x%256≤255
 omega
theorem lj (x:Int):eH (IntKind.u32.wrap x):=by
 unfold eH
 show 0≤x%4294967296∧x%4294967296<4294967296
 omega
theorem Aj (v:Int){c:Int}(hc:0≤c∧c<1048576):eH (fR v c):=by
 unfold eH fR
 omega
theorem HS.yp {S:List Nat}{W w:World}{L:List Th}{f:Nat→Int}(h:HS S W w L):HS S W w (bS (.slice none 0 0) 0 f::L):=h.qZ (Below.refl _ _) OB.nil
theorem HS.sub {S:List Nat}{W w:World}{L M:List Th}(h:HS S W w L)(hs:M.Sublist L):HS S W w M:=by
 obtain ⟨h1,h2,h3,h4⟩:=h
 have hm:∀b,b∈M.flatMap Th.bs→b∈L.flatMap Th.bs:=fun b hb=>by
  obtain ⟨x,hx,hxb⟩:=List.mem_flatMap.1 hb
  exact List.mem_flatMap.2 ⟨x,hs.subset hx,hxb⟩
 refine⟨fun x hx=>h1 x (hs.subset hx),h2,h3.sublist ?_,fun b hb=>h4 b (hm b hb)⟩
 clear h1 h2 h3 h4 hm
 induction hs with
 |slnil=>exact List.Sublist.refl _
 |cons a _ ih=>rw[List.flatMap_cons];exact ih.trans (List.sublist_append_right _ _)
 |cons_cons a _ ih=>rw[List.flatMap_cons,List.flatMap_cons];exact List.Sublist.append (List.Sublist.refl _) ih
theorem HS.join {S:List Nat}{W w w':World}{L M:List Th}(h:HS S W w L)(k:HS [] w w' M):HS S W w' (M++L):=by
 have hL:=h.below k.bl
 refine⟨fun x hx=>?_,hL.2.1,?_,fun b hb=>?_⟩
 ·rcases List.mem_append.1 hx with hx |hx
  ·exact k.1 x hx
  exact hL.1 x hx
 ·rw[List.flatMap_append,List.nodup_append]
  refine⟨k.2.2.1,hL.2.2.1,fun a ha b hb e=>?_⟩
  subst e
  obtain ⟨x,hx,hxa⟩:=List.mem_flatMap.1 hb
  have h1:=x.lt w (h.1 x hx) a hxa
  rcases k.2.2.2 a ha with h2 |h2
  ·cases h2
  omega
 rw[List.flatMap_append]at hb
 rcases List.mem_append.1 hb with hb |hb
 ·rcases k.2.2.2 b hb with h2 |h2
  ·cases h2
  exact .inr (Nat.le_trans h.jf h2)
 exact hL.2.2.2 b hb
def mS (b:Nat)(A:Option Addr)(n:Nat)(f:Nat→Int):Th:=⟨fun w=>b<w.heap.size∧(0<n→∃off,A=some ⟨b,off,none⟩∧∀j,j<n→w.cell? ⟨b,off+j,none⟩=some (.int .u8 (f j))),[b],
 fun w w' h e=>⟨gp h.1 (e b (by simp)),fun hn=>by
  obtain ⟨off,rfl,hc⟩:=h.2 hn
  exact⟨off,rfl,fun j hj=>(World.cell?_of_block (a:=⟨b,off+j,none⟩) (e b (by simp))).trans (hc j hj)⟩⟩,
 fun _ h x hx=>by simp at hx;subst hx;exact h.1⟩
theorem Em {w:World}{b nd:Nat}{x y:Int}(h:Ce w b [.int .u8 x,.int .u8 y])(hn:nd≤2):(mS b (some ⟨b,0,none⟩) nd (fun j=>if j=0 then x else y)).at_ w:=by
 refine⟨h.1,fun _=>⟨0,rfl,fun j hj=>?_⟩⟩
 rw[Nat.zero_add]
 match j,(show j<2 by omega) with
 |0,_=>exact h.2.1 0 _ rfl
 |1,_=>exact h.2.1 1 _ rfl
theorem Ft (j:Int)(hj:0≤j∧j<16):wrap64 (2^j.toNat)=2^j.toNat:=by
 rcases (by omega:j=0∨j=1∨j=2∨j=3∨j=4∨j=5∨j=6∨j=7∨j=8∨j=9∨j=10∨j=11∨j=12∨j=13∨j=14∨j=15) with rfl |rfl |rfl |rfl |rfl |rfl |rfl |rfl |rfl |rfl |rfl |rfl |rfl |rfl |rfl |rfl <;> simp[wrap64]
theorem Mx (w:World):(zeroValue 32).run Tryz.prog w =.ok (.agg ([(),.int .u64 0,.int .u64 0,.int .u64 0,.int .u64 0,.int .u64 0,.int .u64 0]:List Value).toArray) w:=by kernel_rfl
theorem MW:(Tryz.prog.info? 32).map (·.size)=some 7:=by kernel_rfl
theorem M7 {w:World}{b:Nat}{v0 v1 v2 v3 v4 v5 v6:Value}(h:Ce w b [v0,v1,v2,v3,v4,v5,v6]):w.cell? ⟨b,0,none⟩=some v0∧w.cell? ⟨b,1,none⟩=some v1∧w.cell? ⟨b,2,none⟩=some v2∧w.cell? ⟨b,3,none⟩=some v3∧w.cell? ⟨b,4,none⟩=some v4∧w.cell? ⟨b,5,none⟩=some v5∧w.cell? ⟨b,6,none⟩=some v6:=⟨h.2.1 0 _ rfl,h.2.1 1 _ rfl,h.2.1 2 _ rfl,h.2.1 3 _ rfl,h.2.1 4 _ rfl,h.2.1 5 _ rfl,h.2.1 6 _ rfl⟩
theorem uT {k:Int}(hk:k%2=0∨k%2=1)(r:Rg)(f:Fl)(s:Int)(hf:f.I)(hs:0≤s∧s<64)(w:World):Calls Tryz.prog 75 #[fE r,.int .i64 (1+k%2),ff f,s] w fun e w'=>∃c,e =.returned (.int .i64 c)∧(0≤c∧c<1048576∧(k%2=1→c<65536))∧Below w.heap.size w w':=by
 rcases hk with h |h
 ·rw[h]
  refine(zX r f s hf hs w).mono ?_
  rintro e w' ⟨rfl,hb⟩
  obtain ⟨_,_,_,h0,h1⟩:=tZ 4096 r.c 1 f s (r.e%4) (.inl rfl) hs (by omega)
  exact⟨_,rfl,⟨h0,by omega,fun h=>absurd h (by decide)⟩,hb⟩
 rw[h]
 refine(zW r f s hf hs w).mono ?_
 rintro e w' ⟨rfl,hb⟩
 obtain ⟨_,_,_,h0,h1⟩:=tZ 256 r.c 2 f s (r.e%4) (.inr rfl) hs (by omega)
 exact⟨_,rfl,⟨h0,by omega,fun _=>by omega⟩,hb⟩
theorem GH {k c j:Int}(hk:k%2=0∨k%2=1)(c0:0≤c)(c1:c<1048576)(c2:k%2=1→c<65536)(hj:0≤j∧j<16):0≤bits .xor .i64 c (2^j.toNat)∧bits .xor .i64 c (2^j.toNat)<1048576∧(k%2=1→bits .xor .i64 c (2^j.toNat)<65536):=by
 have h20:=yU c j 20 ⟨c0,c1⟩ hj (by omega) (by omega)
 exact⟨h20.1,h20.2,fun h=>(yU c j 16 ⟨c0,c2 h⟩ hj (by omega) (by omega)).2⟩
attribute [local irreducible] FA FL mO
theorem qXC{P:Prop}(h:P:=by
 refine hK.out _ _ hY.tail.tail (fun _=>?_)
 clear hK
 try simp only[Act.put,zA,zB,zC]
 refine wpAnyH_done (by kernel_rfl) ?_ _
 go_wp2_with fail
 go_meet
 exact⟨X,_,rfl,hY⟩
 ):P:=h
set_option maxHeartbeats 8000000 in
theorem DC (p:Pl)(hp:Pt p)(n m:Int)(hn: -9223372036854775808≤n∧n≤9223372036854775807)(hm: -9223372036854775808≤m∧m≤9223372036854775807)(w:World):Calls Tryz.prog 37 #[.agg (FA 330 (pc p)),n,m] w fun e w'=>∃x AO cO AD cD bD,e =.returned (.agg #[x.kind,x.life,x.piece,x.src,x.dst,x.fp,x.tp,x.flags,x.label,x.bare,x.code,.slice AO x.no cO,.slice AD x.nd cD])∧x.no≤cO∧Fa p x∧HS [] w w' [bS (.slice AO x.no cO) x.no x.go,mS bD AD x.nd x.gd]:=by
 obtain ⟨k,hk⟩:∃k,k=wi n 1125899906842624:=⟨_,rfl⟩
 have kb:=jE n 1125899906842624 (by omega)
 rw[←hk]at kb
 have WK:=hid (fun (w:World)=>c_ (gA n 1125899906842624 w (by omega) (by omega)) hk.symm)
 clear hk
 obtain ⟨jN,Ih⟩:=kb
 obtain ⟨m16,rl⟩:∃x,x=wi m 65536:=⟨_,rfl⟩
 have vI:=jE m 65536 (by omega)
 rw[←rl]at vI
 have Eh:=hid (fun w=>c_ (gA m 65536 w (by omega) (by omega)) rl.symm)
 clear rl
 obtain ⟨EZ,KZ⟩:=vI
 obtain ⟨mj,Iw⟩:∃x,x=wi m 16:=⟨_,rfl⟩
 have LV:=jE m 16 (by omega)
 rw[←Iw]at LV
 have O0:=hid (fun w=>c_ (gA m 16 w (by omega) (by omega)) Iw.symm)
 clear Iw
 obtain ⟨Jr,Jq⟩:=LV
 obtain ⟨nd,hnd⟩:∃nd:Nat,k/270%3=(nd:Int):=⟨(k/270%3).toNat,by omega⟩
 have M0:(nd:Int)≤2:=by omega
 have M1:(0:Int)≤nd:=by omega
 have hpa:=hp.2.2.2.1
 have hpp:=hp.2.2.2.2
 have hpe:=hp.2.1
 have Rt:=hid hpe
 have hK2:k%2=0∨k%2=1:=by omega
 have FI:(⟨(1000+k/18%5),(k/90%3),p.a,p.p⟩:Fl).I:=⟨⟨by show _≤(1000+k/18%5);omega,by show (1000+k/18%5)≤_;omega⟩,⟨by show _≤(k/90%3);omega,by show (k/90%3)≤_;omega⟩,⟨by show _≤p.a;omega,by show p.a≤_;omega⟩,⟨by show _≤p.p;omega,by show p.p≤_;omega⟩⟩
 have L8:=hid (fun (w:World)=>(show Calls Tryz.prog 75 #[.agg #[p.r.e,.int .u64 p.r.p.a,.int .u64 p.r.p.b,.int .u64 p.r.c.a,.int .u64 p.r.c.b,.int .u64 p.r.n.a,.int .u64 p.r.n.b],.int .i64 (1+k%2),.agg #[.int .i64 (1000+k/18%5),.int .i64 (k/90%3),p.a,p.p],.int .i64 (k/810%7)] w fun e w'=>∃c,e =.returned (.int .i64 c)∧(0≤c∧c<1048576∧(k%2=1→c<65536))∧Below w.heap.size w w' from uT hK2 (p.r) ⟨(1000+k/18%5),(k/90%3),p.a,p.p⟩ (k/810%7) FI ⟨by omega,by omega⟩ w))
 have Pb:=hid (fun (w:World)=>(show Calls Tryz.prog 75 #[.agg #[.int .i64 (p.r.e-1),.int .u64 p.r.p.a,.int .u64 p.r.p.b,.int .u64 p.r.p.a,.int .u64 p.r.p.b,.int .u64 p.r.c.a,.int .u64 p.r.c.b],.int .i64 (1+k%2),.agg #[.int .i64 (1000+k/18%5),.int .i64 (k/90%3),p.a,p.p],.int .i64 (k/810%7)] w fun e w'=>∃c,e =.returned (.int .i64 c)∧(0≤c∧c<1048576∧(k%2=1→c<65536))∧Below w.heap.size w w' from uT hK2 (⟨p.r.e-1,p.r.p,p.r.p,p.r.c⟩) ⟨(1000+k/18%5),(k/90%3),p.a,p.p⟩ (k/810%7) FI ⟨by omega,by omega⟩ w))
 have Rq:=hid hpe
 obtain ⟨he1,he2⟩:=hpe
 have Rv:=hid FI
 clear FI
 have S0:Hid (HS [] w w []):=hid HS.start
 go_enter Tryz.func37,Tryz.ntmps37
 go_upto_region 1 with (first | ((with_reducible refine ah ?_);refine ay rfl (kN rfl rfl (by omega) S0.out ?_);intro P w_ hZ _;have SX:=hid hZ;clear hZ) | ((with_reducible refine ah ?_);refine ay rfl (bw rfl (oB _) (by simp) SX.out ?_);intro R w_ hZ _;have SY:=hid hZ;clear hZ))
 have S1:Hid (HS [] w _ [aw R [(),(),(),(),(),(),(),(),(),false,(),.slice none 0 0,.slice none 0 0],aD P 330 (pc p)]):=hid (SY.out)
 clear SX SY S0
 go_wp2_with fail
 refine(WK.out _).mono ?_
 rintro e w' ⟨rfl,rfl⟩
 go_upto_region 2 with (fail)
 go_cut [8] from 14 to 42 (fun v wx=>∃X b,v =.pointer (some ⟨X,0,none⟩)∧HS [] w wx [aw X [.int .i64 (1+k%2),.int .i64 (1+k/2%9),(),.int .i64 (1000+k/18%5),p.a,.int .i64 (k/90%3),p.p,(),(),false,(),.slice none 0 0,.slice (some ⟨b,0,none⟩) nd 2],aw b [.int .u8 (IntKind.u8.wrap k),.int .u8 (IntKind.u8.wrap (k/7))],aw R [(),(),(),(),(),(),(),(),(),false,(),.slice none 0 0,.slice none 0 0],aD P 330 (pc p)])
 case first=>
  refine wp_region_held_drew (S:=fun (w':World)=>HS [] w w' [aw R [(),(),(),(),(),(),(),(),(),false,(),.slice none 0 0,.slice none 0 0],aD P 330 (pc p)]) (by kernel_rfl) ?_ (fun hHeld=>?_)
  ·exact S1.out.drew
  have Ri:IntKind.i64.wrap (k.tdiv 2)=k/2:=by rw[Int.tdiv_eq_ediv_of_nonneg jN];exact IntWalk.i64_in _ (by omega)
  have Qs:IntKind.i64.wrap (k.tdiv 18)=k/18:=by rw[Int.tdiv_eq_ediv_of_nonneg jN];exact IntWalk.i64_in _ (by omega)
  have Qr:IntKind.i64.wrap (k.tdiv 90)=k/90:=by rw[Int.tdiv_eq_ediv_of_nonneg jN];exact IntWalk.i64_in _ (by omega)
  have Rf:IntKind.i64.wrap (k.tdiv 7)=k/7:=by rw[Int.tdiv_eq_ediv_of_nonneg jN];exact IntWalk.i64_in _ (by omega)
  have P_:IntKind.i64.wrap (k.tdiv 270)=k/270:=by rw[Int.tdiv_eq_ediv_of_nonneg jN];exact IntWalk.i64_in _ (by omega)
  have NL:Int.tmod k 2=k%2:=Int.tmod_eq_emod_of_nonneg (by omega)
  have NJ:Int.tmod (k/2) 9=(k/2)%9:=Int.tmod_eq_emod_of_nonneg (by omega)
  have NH:Int.tmod (k/18) 5=(k/18)%5:=Int.tmod_eq_emod_of_nonneg (by omega)
  have NG:Int.tmod (k/90) 3=(k/90)%3:=Int.tmod_eq_emod_of_nonneg (by omega)
  have ND:Int.tmod (k/270) 3=(k/270)%3:=Int.tmod_eq_emod_of_nonneg (by omega)
  have Nk:IntKind.i64.wrap (1+k%2)=1+k%2:=IntWalk.i64_in _ (by omega)
  have Nj:IntKind.i64.wrap (1+k/2%9)=1+k/2%9:=IntWalk.i64_in _ (by omega)
  have Ni:IntKind.i64.wrap (1000+k/18%5)=1000+k/18%5:=IntWalk.i64_in _ (by omega)
  refine ae 0 hHeld ?_
  refine ae 1 hHeld ?_
  refine ae 2 hHeld ?_
  refine ae 3 hHeld ?_
  refine ae 4 hHeld ?_
  refine ae 5 hHeld ?_
  refine ae 6 hHeld ?_
  refine ae 7 hHeld ?_
  refine ae 8 hHeld ?_
  refine ae 9 hHeld ?_
  refine ae 10 hHeld ?_
  refine ae 11 hHeld ?_
  refine ae 12 hHeld ?_ (hy:=by intro w hSw;(try dsimp only at hSw);have x0:=(iy (hSw.fb 1 rfl)).c1;go_simp;(try with_reducible rfl))
  refine ae 13 hHeld ?_
  refine ae 14 hHeld ?_
  refine ae 15 hHeld ?_
  refine ae 16 hHeld ?_
  refine ae 17 hHeld ?_ (hy:=by intro w hSw;(try dsimp only at hSw);have x0:=(iy (hSw.fb 1 rfl)).c2;go_simp;(try with_reducible rfl))
  refine ae 18 hHeld ?_
  refine ae 19 hHeld ?_
  refine ae 20 hHeld ?_
  refine ae 21 hHeld ?_
  refine ae 22 hHeld ?_
  refine ae 24 hHeld ?_
  refine ae 25 hHeld ?_
  refine ae 26 hHeld ?_
  refine eX 23 29 rfl rfl (by kernel_rfl) rfl rfl (fun K hK=>?_) (fun K hK=>?_)
  ·go_simp
   have lF:=HS.cells hHeld (T:=5) [.int .u8 (IntKind.u8.wrap k),.int .u8 (IntKind.u8.wrap (k/7))]
   refine hK.out _ _ lF.tail (fun hz0=>?_)
   clear hK
   try simp only[Act.put,zA,zB,zC]
   refine ae 27 hz0 ?_
   refine ae 28 hz0 ?_
   refine only 29 rfl (by kernel_rfl) rfl (fun K hK=>?_)
   refine bw rfl (oB _) (by simp) lF (fun X qj lE _=>?_)
   refine hK.out _ _ lE.tail.tail (fun hz1=>?_)
   clear hK
   try simp only[Act.put,zA,zB,zC]
   refine only 30 rfl (by kernel_rfl) rfl (fun K hK=>?_)
   refine aB (A:=[]) [.int .i64 (1+k%2),.int .i64 (1+k/2%9),(),.int .i64 (1000+k/18%5),p.a,.int .i64 (k/90%3),p.p,(),(),false,(),.slice none 0 0,.slice (some ⟨_,0,none⟩) nd 2] rfl rfl rfl lE rfl jt rfl (fun Ek hY=>?_)
   exact qXC
  refine bw rfl (oB _) (by simp) hHeld (fun X qj lF _=>?_)
  refine hK.out _ _ lF.tail (fun hz0=>?_)
  clear hK
  try simp only[Act.put,zA,zB,zC]
  refine only 23 rfl (by kernel_rfl) rfl (fun K hK=>?_)
  go_simp
  have lE:=HS.cells lF (T:=5) [.int .u8 (IntKind.u8.wrap k),.int .u8 (IntKind.u8.wrap (k/7))]
  refine hK.out _ _ lE.tail.tail (fun hz1=>?_)
  clear hK
  try simp only[Act.put,zA,zB,zC]
  refine ae 27 hz1 ?_
  refine ae 28 hz1 ?_
  refine only 30 rfl (by kernel_rfl) rfl (fun K hK=>?_)
  have xR:=HS.swap_ lE
  refine aB (A:=[]) [.int .i64 (1+k%2),.int .i64 (1+k/2%9),(),.int .i64 (1000+k/18%5),p.a,.int .i64 (k/90%3),p.p,(),(),false,(),.slice none 0 0,.slice (some ⟨_,0,none⟩) nd 2] rfl rfl rfl xR rfl jt rfl (fun Ek hY=>?_)
  exact qXC
 obtain ⟨X,b,rfl,hz⟩:=hcut
 have S2:Hid (HS [] w _ [aw X [.int .i64 (1+k%2),.int .i64 (1+k/2%9),(),.int .i64 (1000+k/18%5),p.a,.int .i64 (k/90%3),p.p,(),(),false,(),.slice none 0 0,.slice (some ⟨b,0,none⟩) nd 2],aw b [.int .u8 (IntKind.u8.wrap k),.int .u8 (IntKind.u8.wrap (k/7))],aw R [(),(),(),(),(),(),(),(),(),false,(),.slice none 0 0,.slice none 0 0],aD P 330 (pc p)]):=hid (hz)
 clear hz S1
 have y3:=(S2.out.ce 0 rfl).2.1 3 _ rfl
 have y5:=(S2.out.ce 0 rfl).2.1 5 _ rfl
 have x1:=(iy (S2.out.fb 3 rfl)).c1
 have x2:=(iy (S2.out.fb 3 rfl)).c2
 go_upto_region 4 with (first | ((with_reducible refine ah ?_);refine ay rfl (bw rfl (Ei _) (by simp) S2.out ?_);intro Q w_ hZ _;have SY:=hid hZ;clear hZ) | ((with_reducible refine ah ?_);refine ay rfl (aB (A:=[]) [.int .i64 (1000+k/18%5),.int .i64 (k/90%3),p.a,p.p] rfl rfl (rfl) SY.out rfl AX rfl ?_);intro w_ hZ;have SX:=hid hZ;clear hZ))
 clear y3 y5 x1 x2
 have S3:Hid (HS [] w _ [aw Q [.int .i64 (1000+k/18%5),.int .i64 (k/90%3),p.a,p.p],aw X [.int .i64 (1+k%2),.int .i64 (1+k/2%9),(),.int .i64 (1000+k/18%5),p.a,.int .i64 (k/90%3),p.p,(),(),false,(),.slice none 0 0,.slice (some ⟨b,0,none⟩) nd 2],aw b [.int .u8 (IntKind.u8.wrap k),.int .u8 (IntKind.u8.wrap (k/7))],aw R [(),(),(),(),(),(),(),(),(),false,(),.slice none 0 0,.slice none 0 0],aD P 330 (pc p)]):=hid (SX.out)
 clear SX SY S2
 obtain ⟨r0,r1,r2,r3,r4,r5,r6⟩:=(iy (S3.out.fb 4 rfl)).r7
 have y0:=(S3.out.ce 1 rfl).2.1 0 _ rfl
 obtain ⟨f0,f1,f2,f3⟩:=(S3.out.ce 0 rfl).c4
 go_wp2_with fail
 refine(L8.out _).mono ?_
 rintro e w5 ⟨c,rfl,hcb,hb⟩
 have S4:Hid (HS [] w w5 [aw Q [.int .i64 (1000+k/18%5),.int .i64 (k/90%3),p.a,p.p],aw X [.int .i64 (1+k%2),.int .i64 (1+k/2%9),(),.int .i64 (1000+k/18%5),p.a,.int .i64 (k/90%3),p.p,(),(),false,(),.slice none 0 0,.slice (some ⟨b,0,none⟩) nd 2],aw b [.int .u8 (IntKind.u8.wrap k),.int .u8 (IntKind.u8.wrap (k/7))],aw R [(),(),(),(),(),(),(),(),(),false,(),.slice none 0 0,.slice none 0 0],aD P 330 (pc p)]):=hid (S3.out.below hb)
 clear hb S3 y0 f0 f1 f2 f3
 have vY:=hid hcb
 clear hcb
 go_simp
 clear r0 r1 r2 r3 r4 r5 r6 L8
 go_upto_block 0 with (fail)
 go_cut [10,11] from 64 to 99 (fun v r wx=>∃c,v =.int .i64 c∧(0≤c∧c<1048576∧(k%2=1→c<65536))∧HS [] w wx [aw Q [.int .i64 (1000+k/18%5),.int .i64 (k/90%3),p.a,p.p],aw X [.int .i64 (1+k%2),.int .i64 (1+k/2%9),(),.int .i64 (1000+k/18%5),p.a,.int .i64 (k/90%3),p.p,(),(),false,(),.slice none 0 0,.slice (some ⟨b,0,none⟩) nd 2],aw b [.int .u8 (IntKind.u8.wrap k),.int .u8 (IntKind.u8.wrap (k/7))],aw R [(),(),(),(),(),(),(),(),(),false,(),.slice none 0 0,.slice none 0 0],aD P 330 (pc p)])
 case first=>
  cases e0:(k/5670%6==0)
  ·cases e1:(k/5670%6==1)
   ·cases e2:(k/5670%6==2)
    ·go_wp2_with fail
     go_meet
     exact⟨c,rfl,vY.out,S4.out⟩
    obtain ⟨r0,r1,r2,r3,r4,r5,r6⟩:=(iy (S4.out.fb 4 rfl)).r7
    go_upto_region 12 with (first | ((with_reducible refine ah ?_);refine ay rfl (bw rfl (Mx _) (by simp) S4.out ?_);intro V w_ hZ _;have SY:=hid hZ;clear hZ) | ((with_reducible refine ah ?_);refine ay rfl (aB (A:=[]) [.int .i64 (p.r.e-1),.int .u64 p.r.p.a,.int .u64 p.r.p.b,.int .u64 p.r.p.a,.int .u64 p.r.p.b,.int .u64 p.r.c.a,.int .u64 p.r.c.b] rfl rfl (rfl) SY.out rfl MW rfl ?_);intro w_ hZ;have SX:=hid hZ;clear hZ))
    clear r0 r1 r2 r3 r4 r5 r6
    have S5:Hid (HS [] w _ [aw V [.int .i64 (p.r.e-1),.int .u64 p.r.p.a,.int .u64 p.r.p.b,.int .u64 p.r.p.a,.int .u64 p.r.p.b,.int .u64 p.r.c.a,.int .u64 p.r.c.b],aw Q [.int .i64 (1000+k/18%5),.int .i64 (k/90%3),p.a,p.p],aw X [.int .i64 (1+k%2),.int .i64 (1+k/2%9),(),.int .i64 (1000+k/18%5),p.a,.int .i64 (k/90%3),p.p,(),(),false,(),.slice none 0 0,.slice (some ⟨b,0,none⟩) nd 2],aw b [.int .u8 (IntKind.u8.wrap k),.int .u8 (IntKind.u8.wrap (k/7))],aw R [(),(),(),(),(),(),(),(),(),false,(),.slice none 0 0,.slice none 0 0],aD P 330 (pc p)]):=hid (SX.out)
    clear SX SY
    obtain ⟨r0,r1,r2,r3,r4,r5,r6⟩:=M7 (S5.out.ce 0 rfl)
    have y0:=(S5.out.ce 2 rfl).2.1 0 _ rfl
    obtain ⟨f0,f1,f2,f3⟩:=(S5.out.ce 1 rfl).c4
    go_wp2_with fail
    refine(Pb.out _).mono ?_
    rintro e w6 ⟨c,rfl,hcb,hb⟩
    have S6:Hid (HS [] w w6 [aw V [.int .i64 (p.r.e-1),.int .u64 p.r.p.a,.int .u64 p.r.p.b,.int .u64 p.r.p.a,.int .u64 p.r.p.b,.int .u64 p.r.c.a,.int .u64 p.r.c.b],aw Q [.int .i64 (1000+k/18%5),.int .i64 (k/90%3),p.a,p.p],aw X [.int .i64 (1+k%2),.int .i64 (1+k/2%9),(),.int .i64 (1000+k/18%5),p.a,.int .i64 (k/90%3),p.p,(),(),false,(),.slice none 0 0,.slice (some ⟨b,0,none⟩) nd 2],aw b [.int .u8 (IntKind.u8.wrap k),.int .u8 (IntKind.u8.wrap (k/7))],aw R [(),(),(),(),(),(),(),(),(),false,(),.slice none 0 0,.slice none 0 0],aD P 330 (pc p)]):=hid (S5.out.below hb)
    clear hb S5 y0 f0 f1 f2 f3
    have vY:=hid hcb
    clear hcb
    go_simp
    go_wp2_with fail
    go_meet
    exact⟨c,rfl,vY.out,S6.out.tail⟩
   go_wp2_with fail
   refine(O0.out _).mono ?_
   rintro e w' ⟨rfl,rfl⟩
   obtain ⟨c0,c1,c2⟩:=vY.out
   have hx:=GH hK2 c0 c1 c2 ⟨Jr,Jq⟩
   have hw64:=Ft mj ⟨Jr,Jq⟩
   go_wp2_with fail
   try rw[hw64]
   generalize bits BinOp.xor IntKind.i64 c (2^mj.toNat)=xc at *
   go_meet
   exact⟨xc,rfl,hx,S4.out⟩
  go_wp2_with fail
  refine(Eh.out _).mono ?_
  rintro e w' ⟨rfl,rfl⟩
  go_wp2_with fail
  go_meet
  exact⟨m16,rfl,⟨EZ,by omega,fun _=>by omega⟩,S4.out⟩
 obtain ⟨cc,rfl,hcb,hz⟩:=hcut
 have S5:Hid (HS [] w _ [aw Q [.int .i64 (1000+k/18%5),.int .i64 (k/90%3),p.a,p.p],aw X [.int .i64 (1+k%2),.int .i64 (1+k/2%9),(),.int .i64 (1000+k/18%5),p.a,.int .i64 (k/90%3),p.p,(),(),false,(),.slice none 0 0,.slice (some ⟨b,0,none⟩) nd 2],aw b [.int .u8 (IntKind.u8.wrap k),.int .u8 (IntKind.u8.wrap (k/7))],aw R [(),(),(),(),(),(),(),(),(),false,(),.slice none 0 0,.slice none 0 0],aD P 330 (pc p)]):=hid (hz)
 clear hz S4
 obtain ⟨c0,c1,c2⟩:=hcb
 have y0:=(S5.out.ce 1 rfl).2.1 0 _ rfl
 rcases hK2 with hk2 |hk2
 ·have k2:(1+k%2==2)=false:=by simp[hk2]
  have HK:=hid hk2
  clear hk2
  have yf:=(S5.out.ce 1 rfl).2.2
  have GG:=yf 7
  have y7:=(S5.out.ce 1 rfl).2.1 7 _ rfl
  have yl:=(S5.out.ce 1 rfl).1
  go_upto_region 17 with (fail)
  clear yf GG y7 yl y0 k2
  have S6:Hid (HS [] w _ [aw Q [.int .i64 (1000+k/18%5),.int .i64 (k/90%3),p.a,p.p],aw X [.int .i64 (1+k%2),.int .i64 (1+k/2%9),(),.int .i64 (1000+k/18%5),p.a,.int .i64 (k/90%3),p.p,.int .i64 (k/34020%16),(),false,(),.slice none 0 0,.slice (some ⟨b,0,none⟩) nd 2],aw b [.int .u8 (IntKind.u8.wrap k),.int .u8 (IntKind.u8.wrap (k/7))],aw R [(),(),(),(),(),(),(),(),(),false,(),.slice none 0 0,.slice none 0 0],aD P 330 (pc p)]):=hid (HS.lg (A:=[aw Q [.int .i64 (1000+k/18%5),.int .i64 (k/90%3),p.a,p.p]]) (B:=[aw b [.int .u8 (IntKind.u8.wrap k),.int .u8 (IntKind.u8.wrap (k/7))],aw R [(),(),(),(),(),(),(),(),(),false,(),.slice none 0 0,.slice none 0 0],aD P 330 (pc p)]) S5.out 7 (.int .i64 (k/34020%16)) (by simp))
  clear S5
  have S7:Hid (HS [] w _ [aw X [.int .i64 (1+k%2),.int .i64 (1+k/2%9),(),.int .i64 (1000+k/18%5),p.a,.int .i64 (k/90%3),p.p,.int .i64 (k/34020%16),(),false,(),.slice none 0 0,.slice (some ⟨b,0,none⟩) nd 2],aw Q [.int .i64 (1000+k/18%5),.int .i64 (k/90%3),p.a,p.p],aw b [.int .u8 (IntKind.u8.wrap k),.int .u8 (IntKind.u8.wrap (k/7))],aw R [(),(),(),(),(),(),(),(),(),false,(),.slice none 0 0,.slice none 0 0],aD P 330 (pc p)]):=hid (HS.swap_ S6.out)
  clear S6
  have S8:Hid (HS [] w _ [bS (.slice none 0 0) 0 (fun _=>0),aw X [.int .i64 (1+k%2),.int .i64 (1+k/2%9),(),.int .i64 (1000+k/18%5),p.a,.int .i64 (k/90%3),p.p,.int .i64 (k/34020%16),(),false,(),.slice none 0 0,.slice (some ⟨b,0,none⟩) nd 2],aw Q [.int .i64 (1000+k/18%5),.int .i64 (k/90%3),p.a,p.p],aw b [.int .u8 (IntKind.u8.wrap k),.int .u8 (IntKind.u8.wrap (k/7))],aw R [(),(),(),(),(),(),(),(),(),false,(),.slice none 0 0,.slice none 0 0],aD P 330 (pc p)]):=hid (S7.out.yp)
  clear S7
  go_upto_if 118 with (fail)
  go_cut [] from 115 to 127 (fun wx=>∃(AN:Option Addr) (nn cN:Nat) (gN:Nat→Int),HS [] w wx [bS (.slice AN nn cN) nn gN,aw X [.int .i64 (1+k%2),.int .i64 (1+k/2%9),(),.int .i64 (1000+k/18%5),p.a,.int .i64 (k/90%3),p.p,.int .i64 (k/34020%16),(),false,(),.slice AN nn cN,.slice (some ⟨b,0,none⟩) nd 2],aw Q [.int .i64 (1000+k/18%5),.int .i64 (k/90%3),p.a,p.p],aw b [.int .u8 (IntKind.u8.wrap k),.int .u8 (IntKind.u8.wrap (k/7))],aw R [(),(),(),(),(),(),(),(),(),false,(),.slice none 0 0,.slice none 0 0],aD P 330 (pc p)]∧nn≤cN∧nn≤12∧aC gN)
  case first=>
   cases e5:decide (k/34020%5>0)
   ·go_wp2_with fail
    go_meet
    exact⟨none,0,0,fun _=>0,S8.out,by omega,by omega,lh⟩
   have yf:=(S8.out.ce 1 rfl).2.2 11
   have ak:=(S8.out.ce 1 rfl).2.1 11 _ rfl
   have yl:=(S8.out.ce 1 rfl).1
   go_wp2_with fail
   refine(uO _ cc (lj _) ⟨c0,c1⟩ _).mono ?_
   rintro e w' ⟨rfl,rfl⟩
   go_wp2_with fail
   refine(nK _ _ _ (lj _) (Aj _ ⟨c0,c1⟩)).mono ?_
   rintro e w7 ⟨AM,cM,rfl,hO,hb⟩
   have U1:=S8.out.qZ hb hO
   clear yf ak yl
   have Bc:=uP hO
   have yf:=(U1.ce 2 rfl).2.2 11
   have ak:=(U1.ce 2 rfl).2.1 11 _ rfl
   have yl:=(U1.ce 2 rfl).1
   go_simp
   go_wp2_with fail
   go_meet
   have U2:=HS.lg (A:=[bS (.slice AM 12 cM) 12 _,bS (.slice none 0 0) 0 (fun _=>0)]) (B:=[aw Q [.int .i64 (1000+k/18%5),.int .i64 (k/90%3),p.a,p.p],aw b [.int .u8 (IntKind.u8.wrap k),.int .u8 (IntKind.u8.wrap (k/7))],aw R [(),(),(),(),(),(),(),(),(),false,(),.slice none 0 0,.slice none 0 0],aD P 330 (pc p)]) U1 11 (.slice AM 12 cM) (by simp)
   exact⟨AM,12,cM,_,HS.drop (A:=[_]) U2,Bc,by omega,yt (lj _) (Aj _ ⟨c0,c1⟩)⟩
  obtain ⟨AN,nn,cN,gN,hz,hnc,DJ,hgN⟩:=hcut
  have S9:Hid (HS [] w _ [bS (.slice AN nn cN) nn gN,aw X [.int .i64 (1+k%2),.int .i64 (1+k/2%9),(),.int .i64 (1000+k/18%5),p.a,.int .i64 (k/90%3),p.p,.int .i64 (k/34020%16),(),false,(),.slice AN nn cN,.slice (some ⟨b,0,none⟩) nd 2],aw Q [.int .i64 (1000+k/18%5),.int .i64 (k/90%3),p.a,p.p],aw b [.int .u8 (IntKind.u8.wrap k),.int .u8 (IntKind.u8.wrap (k/7))],aw R [(),(),(),(),(),(),(),(),(),false,(),.slice none 0 0,.slice none 0 0],aD P 330 (pc p)]):=hid (hz)
  clear hz S8
  have Cd:=hid hgN
  clear hgN
  go_upto_if 131 with (fail)
  go_cut [] from 128 to 135 (fun wx=>∃(AN:Option Addr) (nn cN:Nat) (gN:Nat→Int),HS [] w wx [bS (.slice AN nn cN) nn gN,aw X [.int .i64 (1+k%2),.int .i64 (1+k/2%9),(),.int .i64 (1000+k/18%5),p.a,.int .i64 (k/90%3),p.p,.int .i64 (k/34020%16),(),false,(),.slice AN nn cN,.slice (some ⟨b,0,none⟩) nd 2],aw Q [.int .i64 (1000+k/18%5),.int .i64 (k/90%3),p.a,p.p],aw b [.int .u8 (IntKind.u8.wrap k),.int .u8 (IntKind.u8.wrap (k/7))],aw R [(),(),(),(),(),(),(),(),(),false,(),.slice none 0 0,.slice none 0 0],aD P 330 (pc p)]∧nn≤cN∧nn≤12∧aC gN)
  case first=>
   cases e6:(k/34020%31==1)
   ·go_wp2_with fail
    go_meet
    exact⟨AN,nn,cN,gN,S9.out,hnc,DJ,Cd.out⟩
   have yf:=(S9.out.ce 1 rfl).2.2 11
   have ak:=(S9.out.ce 1 rfl).2.1 11 _ rfl
   have yl:=(S9.out.ce 1 rfl).1
   go_wp2_with fail
   refine(nK _ _ _ (lj _) ⟨by decide,by decide⟩).mono ?_
   rintro e w7 ⟨AM,cM,rfl,hO,hb⟩
   have U1:=S9.out.qZ hb hO
   clear yf ak yl
   have Bc:=uP hO
   have yf:=(U1.ce 2 rfl).2.2 11
   have ak:=(U1.ce 2 rfl).2.1 11 _ rfl
   have yl:=(U1.ce 2 rfl).1
   go_simp
   go_wp2_with fail
   go_meet
   have U2:=HS.lg (A:=[bS (.slice AM 12 cM) 12 _,bS (.slice AN nn cN) nn gN]) (B:=[aw Q [.int .i64 (1000+k/18%5),.int .i64 (k/90%3),p.a,p.p],aw b [.int .u8 (IntKind.u8.wrap k),.int .u8 (IntKind.u8.wrap (k/7))],aw R [(),(),(),(),(),(),(),(),(),false,(),.slice none 0 0,.slice none 0 0],aD P 330 (pc p)]) U1 11 (.slice AM 12 cM) (by simp)
   exact⟨AM,12,cM,_,HS.drop (A:=[_]) U2,Bc,by omega,yt (lj _) ⟨by decide,by decide⟩⟩
  obtain ⟨AN,nn,cN,gN,hz,hnc,DJ,hgN⟩:=hcut
  have eo:Hid (HS [] w _ [bS (.slice AN nn cN) nn gN,aw X [.int .i64 (1+k%2),.int .i64 (1+k/2%9),(),.int .i64 (1000+k/18%5),p.a,.int .i64 (k/90%3),p.p,.int .i64 (k/34020%16),(),false,(),.slice AN nn cN,.slice (some ⟨b,0,none⟩) nd 2],aw Q [.int .i64 (1000+k/18%5),.int .i64 (k/90%3),p.a,p.p],aw b [.int .u8 (IntKind.u8.wrap k),.int .u8 (IntKind.u8.wrap (k/7))],aw R [(),(),(),(),(),(),(),(),(),false,(),.slice none 0 0,.slice none 0 0],aD P 330 (pc p)]):=hid (hz)
  clear hz S9
  have Cd:=hid hgN
  clear hgN
  have hk2:=HK.out
  have pI:Fa p { kind:=(1+k%2),life:=(1+k/2%9),src:=(1000+k/18%5),dst:=p.a,fp:=(k/90%3),tp:=p.p,flags:=(k/34020%16),label:=0,bare:=false,no:=nn,go:=gN,nd:=nd,gd:=fun j=>if j=0 then IntKind.u8.wrap k else IntKind.u8.wrap (k/7) }:=⟨⟨by show (1+k%2)=1∨(1+k%2)=2;omega,hpp,by show 0≤(k/34020%16)∧(k/34020%16)≤15;omega,by show 0≤0∧0≤65535;decide,⟨fun h=>absurd (show (1+k%2)=1 from by omega) h,fun _=>⟨rfl,rfl⟩,rfl⟩,Cd.out,fun j=>by show 0≤(if j=0 then _ else _)∧(if j=0 then _ else _)≤255;split;exact mo _;exact mo _,by show nn≤40;omega,by show nd≤200;omega⟩,by show 1≤(1+k/2%9)∧(1+k/2%9)≤9;omega,rfl,by show 0≤(1000+k/18%5)∧(1000+k/18%5)≤4294967295;omega,rfl,by show 0≤(k/90%3)∧(k/90%3)≤65535;omega,rfl⟩
  clear hk2
  replace pI:=hid pI
  obtain ⟨y0,y1,y2,y3,y4,y5,y6,y7,y8,y9,al,ak,aj⟩:=(eo.out.ce 1 rfl).c13
  go_wp2_with ((with_reducible refine ah ?_);refine ay rfl (aB (A:=[bS (.slice AN nn cN) nn gN,aw X [.int .i64 (1+k%2),.int .i64 (1+k/2%9),(),.int .i64 (1000+k/18%5),p.a,.int .i64 (k/90%3),p.p,.int .i64 (k/34020%16),(),false,(),.slice AN nn cN,.slice (some ⟨b,0,none⟩) nd 2],aw Q [.int .i64 (1000+k/18%5),.int .i64 (k/90%3),p.a,p.p],aw b [.int .u8 (IntKind.u8.wrap k),.int .u8 (IntKind.u8.wrap (k/7))]]) [.int .i64 (1+k%2),.int .i64 (1+k/2%9),(),.int .i64 (1000+k/18%5),p.a,.int .i64 (k/90%3),p.p,.int .i64 (k/34020%16),(),false,(),.slice AN nn cN,.slice (some ⟨b,0,none⟩) nd 2] rfl rfl rfl eo.out rfl jt rfl ?_);intro w_ hZ;have SF:=hid hZ;clear hZ;(first |refine aJ ?_ |refine aR ?_);apply_assumption;refine wp_ret ?_;(repeat refine aI ?_);(show bodyPost _ _ _ _ _ _);exact bodyPost_ret (v:=.agg ([.int .i64 (1+k%2),.int .i64 (1+k/2%9),(),.int .i64 (1000+k/18%5),p.a,.int .i64 (k/90%3),p.p,.int .i64 (k/34020%16),(),false,(),.slice AN nn cN,.slice (some ⟨b,0,none⟩) nd 2]:List Value).toArray) (aS Tryz.results37 _ rfl (SF.out.ce 4 rfl) Tryz.underlying53 rfl jt) rfl ⟨{ kind:=(1+k%2),life:=(1+k/2%9),src:=(1000+k/18%5),dst:=p.a,fp:=(k/90%3),tp:=p.p,flags:=(k/34020%16),label:=0,bare:=false,no:=nn,go:=gN,nd:=nd,gd:=fun j=>if j=0 then IntKind.u8.wrap k else IntKind.u8.wrap (k/7) },AN,cN,some ⟨b,0,none⟩,2,b,rfl,hnc,pI.out,HS.upd (A:=[bS (.slice AN nn cN) nn gN]) (B:=[]) (HS.sub (M:=[bS (.slice AN nn cN) nn gN,aw b [.int .u8 (IntKind.u8.wrap k),.int .u8 (IntKind.u8.wrap (k/7))]]) SF.out (by(try simp only[List.cons_append,List.nil_append]);repeat (first |exact List.Sublist.slnil |with_reducible apply List.Sublist.cons_cons |with_reducible apply List.Sublist.cons))) (mS b (some ⟨b,0,none⟩) nd _) rfl (Ch.refl _ _) (Em (SF.out.ce 3 rfl) (by omega))⟩)
 have k2:(1+k%2==2)=true:=by simp[hk2]
 have HK:=hid hk2
 clear hk2
 have yf:=(S5.out.ce 1 rfl).2.2
 have GF:=yf 8
 have GD:=yf 9
 have y8:=(S5.out.ce 1 rfl).2.1 8 _ rfl
 have y9:=(S5.out.ce 1 rfl).2.1 9 _ rfl
 have yl:=(S5.out.ce 1 rfl).1
 go_upto_region 15 with (fail)
 clear yf GF GD y8 y9 yl y0 k2
 have S6:Hid (HS [] w _ [aw Q [.int .i64 (1000+k/18%5),.int .i64 (k/90%3),p.a,p.p],aw X [.int .i64 (1+k%2),.int .i64 (1+k/2%9),(),.int .i64 (1000+k/18%5),p.a,.int .i64 (k/90%3),p.p,(),cc,.bool (k/34020%3==0),(),.slice none 0 0,.slice (some ⟨b,0,none⟩) nd 2],aw b [.int .u8 (IntKind.u8.wrap k),.int .u8 (IntKind.u8.wrap (k/7))],aw R [(),(),(),(),(),(),(),(),(),false,(),.slice none 0 0,.slice none 0 0],aD P 330 (pc p)]):=hid (HS.lg (A:=[aw Q [.int .i64 (1000+k/18%5),.int .i64 (k/90%3),p.a,p.p]]) (B:=[aw b [.int .u8 (IntKind.u8.wrap k),.int .u8 (IntKind.u8.wrap (k/7))],aw R [(),(),(),(),(),(),(),(),(),false,(),.slice none 0 0,.slice none 0 0],aD P 330 (pc p)]) (HS.lg (A:=[aw Q [.int .i64 (1000+k/18%5),.int .i64 (k/90%3),p.a,p.p]]) (B:=[aw b [.int .u8 (IntKind.u8.wrap k),.int .u8 (IntKind.u8.wrap (k/7))],aw R [(),(),(),(),(),(),(),(),(),false,(),.slice none 0 0,.slice none 0 0],aD P 330 (pc p)]) S5.out 8 (.int .i64 cc) (by simp)) 9 (.bool (k/34020%3==0)) (by simp))
 clear S5
 have hk2:=HK.out
 have pI:Fa p { kind:=(1+k%2),life:=(1+k/2%9),src:=(1000+k/18%5),dst:=p.a,fp:=(k/90%3),tp:=p.p,flags:=0,label:=cc,bare:=(k/34020%3==0),no:=0,go:=fun _=>0,nd:=nd,gd:=fun j=>if j=0 then IntKind.u8.wrap k else IntKind.u8.wrap (k/7) }:=⟨⟨by show (1+k%2)=1∨(1+k%2)=2;omega,hpp,by show 0≤0∧0≤15;decide,by show 0≤cc∧cc≤65535;have:=c2 hk2;omega,⟨fun _=>⟨rfl,rfl⟩,fun h=>absurd (show (1+k%2)=2 from by omega) h,rfl⟩,lh,fun j=>by show 0≤(if j=0 then _ else _)∧(if j=0 then _ else _)≤255;split;exact mo _;exact mo _,by show 0≤40;omega,by show nd≤200;omega⟩,by show 1≤(1+k/2%9)∧(1+k/2%9)≤9;omega,rfl,by show 0≤(1000+k/18%5)∧(1000+k/18%5)≤4294967295;omega,rfl,by show 0≤(k/90%3)∧(k/90%3)≤65535;omega,rfl⟩
 clear hk2
 replace pI:=hid pI
 obtain ⟨y0,y1,y2,y3,y4,y5,y6,y7,y8,y9,al,ak,aj⟩:=(S6.out.ce 1 rfl).c13
 go_wp2_with ((with_reducible refine ah ?_);refine ay rfl (aB (A:=[aw Q [.int .i64 (1000+k/18%5),.int .i64 (k/90%3),p.a,p.p],aw X [.int .i64 (1+k%2),.int .i64 (1+k/2%9),(),.int .i64 (1000+k/18%5),p.a,.int .i64 (k/90%3),p.p,(),cc,.bool (k/34020%3==0),(),.slice none 0 0,.slice (some ⟨b,0,none⟩) nd 2],aw b [.int .u8 (IntKind.u8.wrap k),.int .u8 (IntKind.u8.wrap (k/7))]]) [.int .i64 (1+k%2),.int .i64 (1+k/2%9),(),.int .i64 (1000+k/18%5),p.a,.int .i64 (k/90%3),p.p,(),cc,.bool (k/34020%3==0),(),.slice none 0 0,.slice (some ⟨b,0,none⟩) nd 2] rfl rfl rfl S6.out rfl jt rfl ?_);intro w_ hZ;have SF:=hid hZ;clear hZ;(first |refine aJ ?_ |refine aR ?_);apply_assumption;refine wp_ret ?_;(repeat refine aI ?_);(show bodyPost _ _ _ _ _ _);exact bodyPost_ret (v:=.agg ([.int .i64 (1+k%2),.int .i64 (1+k/2%9),(),.int .i64 (1000+k/18%5),p.a,.int .i64 (k/90%3),p.p,(),cc,.bool (k/34020%3==0),(),.slice none 0 0,.slice (some ⟨b,0,none⟩) nd 2]:List Value).toArray) (aS Tryz.results37 _ rfl (SF.out.ce 3 rfl) Tryz.underlying53 rfl jt) rfl ⟨{ kind:=(1+k%2),life:=(1+k/2%9),src:=(1000+k/18%5),dst:=p.a,fp:=(k/90%3),tp:=p.p,flags:=0,label:=cc,bare:=(k/34020%3==0),no:=0,go:=fun _=>0,nd:=nd,gd:=fun j=>if j=0 then IntKind.u8.wrap k else IntKind.u8.wrap (k/7) },none,0,some ⟨b,0,none⟩,2,b,rfl,Nat.le_refl _,pI.out,HS.upd (A:=[bS (.slice none 0 0) 0 (fun _=>0)]) (B:=[]) (HS.yp (HS.sub (M:=[aw b [.int .u8 (IntKind.u8.wrap k),.int .u8 (IntKind.u8.wrap (k/7))]]) SF.out (by(try simp only[List.cons_append,List.nil_append]);repeat (first |exact List.Sublist.slnil |with_reducible apply List.Sublist.cons_cons |with_reducible apply List.Sublist.cons)))) (mS b (some ⟨b,0,none⟩) nd _) rfl (Ch.refl _ _) (Em (SF.out.ce 2 rfl) (by omega))⟩)
theorem Jl {S:List Nat}{W w:World}{L:List Th}(hS:HS S W w L)(p:Pl)(hp:Pt p)(n m:Int)(hn: -9223372036854775808≤n∧n≤9223372036854775807)(hm: -9223372036854775808≤m∧m≤9223372036854775807):Calls Tryz.prog 37 #[.agg (FA 330 (pc p)),n,m] w fun e w'=>∃x AO cO AD cD bD,e =.returned (.agg #[x.kind,x.life,x.piece,x.src,x.dst,x.fp,x.tp,x.flags,x.label,x.bare,x.code,.slice AO x.no cO,.slice AD x.nd cD])∧x.no≤cO∧Fa p x∧HS S W w' (bS (.slice AO x.no cO) x.no x.go::mS bD AD x.nd x.gd::L):=by
 refine(DC p hp n m hn hm w).mono ?_
 rintro e w' ⟨x,AO,cO,AD,cD,bD,rfl,h1,h2,h3⟩
 exact⟨x,AO,cO,AD,cD,bD,rfl,h1,h2,hS.join h3⟩
end Go.Proofs.YtalnfkijiehjhaaGreat
namespace Go.Proofs.YtalnfkijiehjhaaGreat
open List renaming setIfInBounds_toArray→zA,set_cons_zero→zB,set_cons_succ→zC
set_option linter.unusedVariables false
set_option linter.unusedSimpArgs false
open Go.RowKit Go.ChangeShapes Go.WideShapes Go.ChangeAt
set_option maxRecDepth 100000
structure E_ (p:Pl) (x:Pk):Prop where
 md:Me x
 lf:1≤x.life∧x.life≤9
 pc:x.piece=0
 sl:∃s:Nat,s<6∧x.src=(p.s s).ad∧x.fp=(p.s s).po
 dst:1000≤x.dst∧x.dst≤1004
theorem Mw (w:World):(zeroValue 26).run Tryz.prog w =.ok (.agg ([(),(),(),(),()]:List Value).toArray) w:=by kernel_rfl
theorem MV:(Tryz.prog.info? 26).map (·.size)=some 5:=by kernel_rfl
theorem Ey {w:World}{b nd:Nat}{x:Int}(h:Ce w b [.int .u8 x])(hn:nd≤1):(mS b (some ⟨b,0,none⟩) nd (fun _=>x)).at_ w:=by
 refine⟨h.1,fun _=>⟨0,rfl,fun j hj=>?_⟩⟩
 rw[Nat.zero_add]
 match j,(show j<1 by omega) with
 |0,_=>exact h.2.1 0 _ rfl
attribute [local irreducible] FA FL mO
set_option maxHeartbeats 8000000 in
theorem AW (p:Pl)(hp:Pt p)(n m:Int)(hn: -9223372036854775808≤n∧n≤9223372036854775807)(hm: -9223372036854775808≤m∧m≤9223372036854775807)(w:World):Calls Tryz.prog 38 #[.agg (FA 330 (pc p)),n,m] w fun e w'=>∃x AO cO AD cD bD,e =.returned (.agg #[x.kind,x.life,x.piece,x.src,x.dst,x.fp,x.tp,x.flags,x.label,x.bare,x.code,.slice AO x.no cO,.slice AD x.nd cD])∧x.no≤cO∧E_ p x∧HS [] w w' [bS (.slice AO x.no cO) x.no x.go,mS bD AD x.nd x.gd]:=by
 obtain ⟨k,hk⟩:∃k,k=wi n 1125899906842624:=⟨_,rfl⟩
 have kb:=jE n 1125899906842624 (by omega)
 rw[←hk]at kb
 have WK:=hid (fun (w:World)=>c_ (gA n 1125899906842624 w (by omega) (by omega)) hk.symm)
 clear hk
 obtain ⟨jN,Ih⟩:=kb
 obtain ⟨m16,rl⟩:∃x,x=wi m 65536:=⟨_,rfl⟩
 have vI:=jE m 65536 (by omega)
 rw[←rl]at vI
 have Eh:=hid (fun w=>c_ (gA m 65536 w (by omega) (by omega)) rl.symm)
 clear rl
 obtain ⟨EZ,KZ⟩:=vI
 obtain ⟨nd,hnd⟩:∃nd:Nat,k/1620%2=(nd:Int):=⟨(k/1620%2).toNat,by omega⟩
 have M0:(nd:Int)≤1:=by omega
 have M1:(0:Int)≤nd:=by omega
 obtain ⟨sN,Ln⟩:∃s:Nat,k%6=(s:Int):=⟨(k%6).toNat,by omega⟩
 have hs6:sN<6:=by omega
 have Iu:sN<64:=by omega
 have i0:(0:Int)≤sN:=by omega
 have i1:(sN:Int)<64:=by omega
 have hsp:=hp.1 sN Iu
 have hK2:k/6%2=0∨k/6%2=1:=by omega
 have Pu:=hid hnd
 have Ro:=hid Ln
 clear hnd
 have S0:Hid (HS [] w w []):=hid HS.start
 go_enter Tryz.func38,Tryz.ntmps38
 go_upto_region 1 with (first | ((with_reducible refine ah ?_);refine ay rfl (kN rfl rfl (by omega) S0.out ?_);intro P w_ hZ _;have SX:=hid hZ;clear hZ) | ((with_reducible refine ah ?_);refine ay rfl (bw rfl (oB _) (by simp) SX.out ?_);intro R w_ hZ _;have SY:=hid hZ;clear hZ))
 have S1:Hid (HS [] w _ [aw R [(),(),(),(),(),(),(),(),(),false,(),.slice none 0 0,.slice none 0 0],aD P 330 (pc p)]):=hid (SY.out)
 clear SX SY S0
 go_wp2_with fail
 refine(WK.out _).mono ?_
 rintro e w' ⟨rfl,rfl⟩
 obtain ⟨q0,q1,q2,q3,q4⟩:=(iy (S1.out.fb 1 rfl)).s5 sN Iu
 go_upto_region 3 with (first | ((with_reducible refine ah ?_);refine ay rfl (bw rfl (Mw _) (by simp) S1.out ?_);intro Z w_ hZ _;have SY:=hid hZ;clear hZ) | ((with_reducible refine ah ?_);refine ay rfl (aB (A:=[]) [(p.s sN).st,(p.s sN).ad,(p.s sN).po,(p.s sN).we,(p.s sN).si] rfl rfl (rfl) SY.out rfl MV rfl ?_);intro w_ hZ;have SX:=hid hZ;clear hZ))
 clear q0 q1 q2 q3 q4 Ln
 have S2:Hid (HS [] w _ [aw Z [(p.s sN).st,(p.s sN).ad,(p.s sN).po,(p.s sN).we,(p.s sN).si],aw R [(),(),(),(),(),(),(),(),(),false,(),.slice none 0 0,.slice none 0 0],aD P 330 (pc p)]):=hid (SX.out)
 clear SX SY S1
 try simp only[Act.put,zA,zB,zC]
 go_upto_region 3 with (fail)
 go_cut [9] from 17 to 43 (fun v wx=>∃X b,v =.pointer (some ⟨X,0,none⟩)∧HS [] w wx [aw X [.int .i64 (1+k/6%2),.int .i64 (1+k/12%9),(),(p.s sN).ad,.int .i64 (1000+k/108%5),(p.s sN).po,.int .i64 (k/540%3),(),(),false,(),.slice none 0 0,.slice (some ⟨b,0,none⟩) nd 1],aw b [.int .u8 (IntKind.u8.wrap k)],aw Z [(p.s sN).st,(p.s sN).ad,(p.s sN).po,(p.s sN).we,(p.s sN).si],aw R [(),(),(),(),(),(),(),(),(),false,(),.slice none 0 0,.slice none 0 0],aD P 330 (pc p)])
 case first=>
  have hnd:=Pu.out
  refine wp_region_held_drew (S:=fun (w':World)=>HS [] w w' [aw Z [(p.s sN).st,(p.s sN).ad,(p.s sN).po,(p.s sN).we,(p.s sN).si],aw R [(),(),(),(),(),(),(),(),(),false,(),.slice none 0 0,.slice none 0 0],aD P 330 (pc p)]) (by kernel_rfl) ?_ (fun hHeld=>?_)
  ·exact S2.out.drew
  have Rh:IntKind.i64.wrap (k.tdiv 6)=k/6:=by rw[Int.tdiv_eq_ediv_of_nonneg jN];exact IntWalk.i64_in _ (by omega)
  have Qt:IntKind.i64.wrap (k.tdiv 12)=k/12:=by rw[Int.tdiv_eq_ediv_of_nonneg jN];exact IntWalk.i64_in _ (by omega)
  have Qa:IntKind.i64.wrap (k.tdiv 108)=k/108:=by rw[Int.tdiv_eq_ediv_of_nonneg jN];exact IntWalk.i64_in _ (by omega)
  have PZ:IntKind.i64.wrap (k.tdiv 540)=k/540:=by rw[Int.tdiv_eq_ediv_of_nonneg jN];exact IntWalk.i64_in _ (by omega)
  have OC:IntKind.i64.wrap (k.tdiv 1620)=k/1620:=by rw[Int.tdiv_eq_ediv_of_nonneg jN];exact IntWalk.i64_in _ (by omega)
  have NL:Int.tmod (k/6) 2=(k/6)%2:=Int.tmod_eq_emod_of_nonneg (by omega)
  have NJ:Int.tmod (k/12) 9=(k/12)%9:=Int.tmod_eq_emod_of_nonneg (by omega)
  have NH:Int.tmod (k/108) 5=(k/108)%5:=Int.tmod_eq_emod_of_nonneg (by omega)
  have NG:Int.tmod (k/540) 3=(k/540)%3:=Int.tmod_eq_emod_of_nonneg (by omega)
  have ND:Int.tmod (k/1620) 2=(k/1620)%2:=Int.tmod_eq_emod_of_nonneg (by omega)
  have Nk:IntKind.i64.wrap (1+k/6%2)=1+k/6%2:=IntWalk.i64_in _ (by omega)
  have Nj:IntKind.i64.wrap (1+k/12%9)=1+k/12%9:=IntWalk.i64_in _ (by omega)
  have Ni:IntKind.i64.wrap (1000+k/108%5)=1000+k/108%5:=IntWalk.i64_in _ (by omega)
  refine ae 0 hHeld ?_
  refine ae 1 hHeld ?_
  refine ae 2 hHeld ?_
  refine ae 3 hHeld ?_
  refine ae 4 hHeld ?_
  refine ae 5 hHeld ?_
  refine ae 6 hHeld ?_
  refine ae 7 hHeld ?_
  refine ae 8 hHeld ?_
  refine ae 9 hHeld ?_ (hy:=by intro w hSw;(try dsimp only at hSw);have x0:=(hSw.ce 0 rfl).2.1 1 _ rfl;go_simp;(try with_reducible rfl))
  refine ae 10 hHeld ?_
  refine ae 11 hHeld ?_ (hy:=by intro w hSw;(try dsimp only at hSw);have x0:=(hSw.ce 0 rfl).2.1 2 _ rfl;go_simp;(try with_reducible rfl))
  refine ae 12 hHeld ?_
  refine ae 13 hHeld ?_
  refine ae 14 hHeld ?_
  refine ae 15 hHeld ?_
  refine ae 16 hHeld ?_
  refine ae 17 hHeld ?_
  refine ae 18 hHeld ?_
  refine ae 19 hHeld ?_
  refine ae 20 hHeld ?_
  refine ae 22 hHeld ?_
  refine ae 23 hHeld ?_
  refine ae 24 hHeld ?_
  refine eX 21 27 rfl rfl (by kernel_rfl) rfl rfl (fun K hK=>?_) (fun K hK=>?_)
  ·go_simp
   have lF:=HS.cells hHeld (T:=5) [.int .u8 (IntKind.u8.wrap k)]
   refine hK.out _ _ lF.tail (fun hz0=>?_)
   clear hK
   try simp only[Act.put,zA,zB,zC]
   refine ae 25 hz0 ?_
   refine ae 26 hz0 ?_
   refine only 27 rfl (by kernel_rfl) rfl (fun K hK=>?_)
   refine bw rfl (oB _) (by simp) lF (fun X qj lE _=>?_)
   refine hK.out _ _ lE.tail.tail (fun hz1=>?_)
   clear hK
   try simp only[Act.put,zA,zB,zC]
   refine only 28 rfl (by kernel_rfl) rfl (fun K hK=>?_)
   refine aB (A:=[]) [.int .i64 (1+k/6%2),.int .i64 (1+k/12%9),(),(p.s sN).ad,.int .i64 (1000+k/108%5),(p.s sN).po,.int .i64 (k/540%3),(),(),false,(),.slice none 0 0,.slice (some ⟨_,0,none⟩) nd 1] rfl rfl rfl lE rfl jt rfl (fun Ek hY=>?_)
   exact qXC
  refine bw rfl (oB _) (by simp) hHeld (fun X qj lF _=>?_)
  refine hK.out _ _ lF.tail (fun hz0=>?_)
  clear hK
  try simp only[Act.put,zA,zB,zC]
  refine only 21 rfl (by kernel_rfl) rfl (fun K hK=>?_)
  go_simp
  have lE:=HS.cells lF (T:=5) [.int .u8 (IntKind.u8.wrap k)]
  refine hK.out _ _ lE.tail.tail (fun hz1=>?_)
  clear hK
  try simp only[Act.put,zA,zB,zC]
  refine ae 25 hz1 ?_
  refine ae 26 hz1 ?_
  refine only 28 rfl (by kernel_rfl) rfl (fun K hK=>?_)
  have xR:=HS.swap_ lE
  refine aB (A:=[]) [.int .i64 (1+k/6%2),.int .i64 (1+k/12%9),(),(p.s sN).ad,.int .i64 (1000+k/108%5),(p.s sN).po,.int .i64 (k/540%3),(),(),false,(),.slice none 0 0,.slice (some ⟨_,0,none⟩) nd 1] rfl rfl rfl xR rfl jt rfl (fun Ek hY=>?_)
  exact qXC
 obtain ⟨X,b,rfl,hz⟩:=hcut
 have S3:Hid (HS [] w _ [aw X [.int .i64 (1+k/6%2),.int .i64 (1+k/12%9),(),(p.s sN).ad,.int .i64 (1000+k/108%5),(p.s sN).po,.int .i64 (k/540%3),(),(),false,(),.slice none 0 0,.slice (some ⟨b,0,none⟩) nd 1],aw b [.int .u8 (IntKind.u8.wrap k)],aw Z [(p.s sN).st,(p.s sN).ad,(p.s sN).po,(p.s sN).we,(p.s sN).si],aw R [(),(),(),(),(),(),(),(),(),false,(),.slice none 0 0,.slice none 0 0],aD P 330 (pc p)]):=hid (hz)
 clear hz S2
 have y0:=(S3.out.ce 0 rfl).2.1 0 _ rfl
 rcases hK2 with hk2 |hk2
 ·have k2:(1+k/6%2==2)=false:=by simp[hk2]
  have HK:=hid hk2
  clear hk2
  have yf:=(S3.out.ce 0 rfl).2.2
  have GG:=yf 7
  have y7:=(S3.out.ce 0 rfl).2.1 7 _ rfl
  have yl:=(S3.out.ce 0 rfl).1
  go_upto_region 8 with (fail)
  clear yf GG y7 yl y0 k2
  have S4:Hid (HS [] w _ [aw X [.int .i64 (1+k/6%2),.int .i64 (1+k/12%9),(),(p.s sN).ad,.int .i64 (1000+k/108%5),(p.s sN).po,.int .i64 (k/540%3),.int .i64 (k/3240%16),(),false,(),.slice none 0 0,.slice (some ⟨b,0,none⟩) nd 1],aw b [.int .u8 (IntKind.u8.wrap k)],aw Z [(p.s sN).st,(p.s sN).ad,(p.s sN).po,(p.s sN).we,(p.s sN).si],aw R [(),(),(),(),(),(),(),(),(),false,(),.slice none 0 0,.slice none 0 0],aD P 330 (pc p)]):=hid (HS.lg (A:=[]) S3.out 7 (.int .i64 (k/3240%16)) (by simp))
  clear S3
  have S5:Hid (HS [] w _ [bS (.slice none 0 0) 0 (fun _=>0),aw X [.int .i64 (1+k/6%2),.int .i64 (1+k/12%9),(),(p.s sN).ad,.int .i64 (1000+k/108%5),(p.s sN).po,.int .i64 (k/540%3),.int .i64 (k/3240%16),(),false,(),.slice none 0 0,.slice (some ⟨b,0,none⟩) nd 1],aw b [.int .u8 (IntKind.u8.wrap k)],aw Z [(p.s sN).st,(p.s sN).ad,(p.s sN).po,(p.s sN).we,(p.s sN).si],aw R [(),(),(),(),(),(),(),(),(),false,(),.slice none 0 0,.slice none 0 0],aD P 330 (pc p)]):=hid (S4.out.yp)
  clear S4
  go_upto_if 63 with (fail)
  go_cut [] from 60 to 70 (fun wx=>∃(AN:Option Addr) (nn cN:Nat) (gN:Nat→Int),HS [] w wx [bS (.slice AN nn cN) nn gN,aw X [.int .i64 (1+k/6%2),.int .i64 (1+k/12%9),(),(p.s sN).ad,.int .i64 (1000+k/108%5),(p.s sN).po,.int .i64 (k/540%3),.int .i64 (k/3240%16),(),false,(),.slice AN nn cN,.slice (some ⟨b,0,none⟩) nd 1],aw b [.int .u8 (IntKind.u8.wrap k)],aw Z [(p.s sN).st,(p.s sN).ad,(p.s sN).po,(p.s sN).we,(p.s sN).si],aw R [(),(),(),(),(),(),(),(),(),false,(),.slice none 0 0,.slice none 0 0],aD P 330 (pc p)]∧nn≤cN∧nn≤12∧aC gN)
  case first=>
   cases e5:decide (k/3240%4>0)
   ·go_wp2_with fail
    go_meet
    exact⟨none,0,0,fun _=>0,S5.out,by omega,by omega,lh⟩
   have yf:=(S5.out.ce 1 rfl).2.2 11
   have ak:=(S5.out.ce 1 rfl).2.1 11 _ rfl
   have yl:=(S5.out.ce 1 rfl).1
   go_wp2_with fail
   refine(nK _ _ _ (lj _) (lj _)).mono ?_
   rintro e w7 ⟨AM,cM,rfl,hO,hb⟩
   have U1:=S5.out.qZ hb hO
   clear yf ak yl
   have Bc:=uP hO
   have yf:=(U1.ce 2 rfl).2.2 11
   have ak:=(U1.ce 2 rfl).2.1 11 _ rfl
   have yl:=(U1.ce 2 rfl).1
   go_simp
   go_wp2_with fail
   go_meet
   have U2:=HS.lg (A:=[bS (.slice AM 12 cM) 12 _,bS (.slice none 0 0) 0 (fun _=>0)]) (B:=[aw b [.int .u8 (IntKind.u8.wrap k)],aw Z [(p.s sN).st,(p.s sN).ad,(p.s sN).po,(p.s sN).we,(p.s sN).si],aw R [(),(),(),(),(),(),(),(),(),false,(),.slice none 0 0,.slice none 0 0],aD P 330 (pc p)]) U1 11 (.slice AM 12 cM) (by simp)
   exact⟨AM,12,cM,_,HS.drop (A:=[_]) U2,Bc,by omega,yt (lj _) (lj _)⟩
  obtain ⟨AN,nn,cN,gN,hz,hnc,DJ,hgN⟩:=hcut
  have S6:Hid (HS [] w _ [bS (.slice AN nn cN) nn gN,aw X [.int .i64 (1+k/6%2),.int .i64 (1+k/12%9),(),(p.s sN).ad,.int .i64 (1000+k/108%5),(p.s sN).po,.int .i64 (k/540%3),.int .i64 (k/3240%16),(),false,(),.slice AN nn cN,.slice (some ⟨b,0,none⟩) nd 1],aw b [.int .u8 (IntKind.u8.wrap k)],aw Z [(p.s sN).st,(p.s sN).ad,(p.s sN).po,(p.s sN).we,(p.s sN).si],aw R [(),(),(),(),(),(),(),(),(),false,(),.slice none 0 0,.slice none 0 0],aD P 330 (pc p)]):=hid (hz)
  clear hz S5
  have Cd:=hid hgN
  clear hgN
  have hk2:=HK.out
  have pI:=hid (show E_ p { kind:=(1+k/6%2),life:=(1+k/12%9),src:=(p.s sN).ad,dst:=(1000+k/108%5),fp:=(p.s sN).po,tp:=(k/540%3),flags:=(k/3240%16),label:=0,bare:=false,no:=nn,go:=gN,nd:=nd,gd:=fun _=>IntKind.u8.wrap k } from ⟨⟨by show (1+k/6%2)=1∨(1+k/6%2)=2;omega,by show 0≤(k/540%3)∧(k/540%3)≤65535;omega,by show 0≤(k/3240%16)∧(k/3240%16)≤15;omega,by show 0≤0∧0≤65535;decide,⟨fun h=>absurd (show (1+k/6%2)=1 from by omega) h,fun _=>⟨rfl,rfl⟩,rfl⟩,Cd.out,fun j=>mo k,by show nn≤40;omega,by show nd≤200;omega⟩,by show 1≤(1+k/12%9)∧(1+k/12%9)≤9;omega,rfl,⟨sN,hs6,rfl,rfl⟩,by show 1000≤(1000+k/108%5)∧(1000+k/108%5)≤1004;omega⟩)
  clear hk2
  obtain ⟨y0,y1,y2,y3,y4,y5,y6,y7,y8,y9,al,ak,aj⟩:=(S6.out.ce 1 rfl).c13
  go_wp2_with ((with_reducible refine ah ?_);refine ay rfl (aB (A:=[bS (.slice AN nn cN) nn gN,aw X [.int .i64 (1+k/6%2),.int .i64 (1+k/12%9),(),(p.s sN).ad,.int .i64 (1000+k/108%5),(p.s sN).po,.int .i64 (k/540%3),.int .i64 (k/3240%16),(),false,(),.slice AN nn cN,.slice (some ⟨b,0,none⟩) nd 1],aw b [.int .u8 (IntKind.u8.wrap k)],aw Z [(p.s sN).st,(p.s sN).ad,(p.s sN).po,(p.s sN).we,(p.s sN).si]]) [.int .i64 (1+k/6%2),.int .i64 (1+k/12%9),(),(p.s sN).ad,.int .i64 (1000+k/108%5),(p.s sN).po,.int .i64 (k/540%3),.int .i64 (k/3240%16),(),false,(),.slice AN nn cN,.slice (some ⟨b,0,none⟩) nd 1] rfl rfl rfl S6.out rfl jt rfl ?_);intro w_ hZ;have SF:=hid hZ;clear hZ;(first |refine aJ ?_ |refine aR ?_);apply_assumption;refine wp_ret ?_;(repeat refine aI ?_);(show bodyPost _ _ _ _ _ _);exact bodyPost_ret (v:=.agg ([.int .i64 (1+k/6%2),.int .i64 (1+k/12%9),(),(p.s sN).ad,.int .i64 (1000+k/108%5),(p.s sN).po,.int .i64 (k/540%3),.int .i64 (k/3240%16),(),false,(),.slice AN nn cN,.slice (some ⟨b,0,none⟩) nd 1]:List Value).toArray) (aS Tryz.results38 _ rfl (SF.out.ce 4 rfl) Tryz.underlying53 rfl jt) rfl ⟨{ kind:=(1+k/6%2),life:=(1+k/12%9),src:=(p.s sN).ad,dst:=(1000+k/108%5),fp:=(p.s sN).po,tp:=(k/540%3),flags:=(k/3240%16),label:=0,bare:=false,no:=nn,go:=gN,nd:=nd,gd:=fun _=>IntKind.u8.wrap k },AN,cN,some ⟨b,0,none⟩,1,b,rfl,hnc,pI.out,HS.upd (A:=[bS (.slice AN nn cN) nn gN]) (B:=[]) (HS.sub (M:=[bS (.slice AN nn cN) nn gN,aw b [.int .u8 (IntKind.u8.wrap k)]]) SF.out (by(try simp only[List.cons_append,List.nil_append]);repeat (first |exact List.Sublist.slnil |with_reducible apply List.Sublist.cons_cons |with_reducible apply List.Sublist.cons))) (mS b (some ⟨b,0,none⟩) nd _) rfl (Ch.refl _ _) (Ey (SF.out.ce 2 rfl) (by omega))⟩)
 have k2:(1+k/6%2==2)=true:=by simp[hk2]
 have HK:=hid hk2
 clear hk2
 have yf:=(S3.out.ce 0 rfl).2.2
 have GF:=yf 8
 have GD:=yf 9
 have y8:=(S3.out.ce 0 rfl).2.1 8 _ rfl
 have y9:=(S3.out.ce 0 rfl).2.1 9 _ rfl
 have yl:=(S3.out.ce 0 rfl).1
 go_wp2_with fail
 refine(Eh.out _).mono ?_
 rintro e w' ⟨rfl,rfl⟩
 go_upto_region 6 with (fail)
 clear yf GF GD y8 y9 yl y0 k2
 have S4:Hid (HS [] w _ [aw X [.int .i64 (1+k/6%2),.int .i64 (1+k/12%9),(),(p.s sN).ad,.int .i64 (1000+k/108%5),(p.s sN).po,.int .i64 (k/540%3),(),m16,.bool (k/3240%3==0),(),.slice none 0 0,.slice (some ⟨b,0,none⟩) nd 1],aw b [.int .u8 (IntKind.u8.wrap k)],aw Z [(p.s sN).st,(p.s sN).ad,(p.s sN).po,(p.s sN).we,(p.s sN).si],aw R [(),(),(),(),(),(),(),(),(),false,(),.slice none 0 0,.slice none 0 0],aD P 330 (pc p)]):=hid (HS.lg (A:=[]) (HS.lg (A:=[]) S3.out 8 (.int .i64 m16) (by simp)) 9 (.bool (k/3240%3==0)) (by simp))
 clear S3
 have hk2:=HK.out
 have pI:=hid (show E_ p { kind:=(1+k/6%2),life:=(1+k/12%9),src:=(p.s sN).ad,dst:=(1000+k/108%5),fp:=(p.s sN).po,tp:=(k/540%3),flags:=0,label:=m16,bare:=(k/3240%3==0),no:=0,go:=fun _=>0,nd:=nd,gd:=fun _=>IntKind.u8.wrap k } from ⟨⟨by show (1+k/6%2)=1∨(1+k/6%2)=2;omega,by show 0≤(k/540%3)∧(k/540%3)≤65535;omega,by show 0≤0∧0≤15;decide,by show 0≤m16∧m16≤65535;omega,⟨fun _=>⟨rfl,rfl⟩,fun h=>absurd (show (1+k/6%2)=2 from by omega) h,rfl⟩,lh,fun j=>mo k,by show 0≤40;omega,by show nd≤200;omega⟩,by show 1≤(1+k/12%9)∧(1+k/12%9)≤9;omega,rfl,⟨sN,hs6,rfl,rfl⟩,by show 1000≤(1000+k/108%5)∧(1000+k/108%5)≤1004;omega⟩)
 clear hk2
 obtain ⟨y0,y1,y2,y3,y4,y5,y6,y7,y8,y9,al,ak,aj⟩:=(S4.out.ce 0 rfl).c13
 go_wp2_with ((with_reducible refine ah ?_);refine ay rfl (aB (A:=[aw X [.int .i64 (1+k/6%2),.int .i64 (1+k/12%9),(),(p.s sN).ad,.int .i64 (1000+k/108%5),(p.s sN).po,.int .i64 (k/540%3),(),m16,.bool (k/3240%3==0),(),.slice none 0 0,.slice (some ⟨b,0,none⟩) nd 1],aw b [.int .u8 (IntKind.u8.wrap k)],aw Z [(p.s sN).st,(p.s sN).ad,(p.s sN).po,(p.s sN).we,(p.s sN).si]]) [.int .i64 (1+k/6%2),.int .i64 (1+k/12%9),(),(p.s sN).ad,.int .i64 (1000+k/108%5),(p.s sN).po,.int .i64 (k/540%3),(),m16,.bool (k/3240%3==0),(),.slice none 0 0,.slice (some ⟨b,0,none⟩) nd 1] rfl rfl rfl S4.out rfl jt rfl ?_);intro w_ hZ;have SF:=hid hZ;clear hZ;(first |refine aJ ?_ |refine aR ?_);apply_assumption;refine wp_ret ?_;(repeat refine aI ?_);(show bodyPost _ _ _ _ _ _);exact bodyPost_ret (v:=.agg ([.int .i64 (1+k/6%2),.int .i64 (1+k/12%9),(),(p.s sN).ad,.int .i64 (1000+k/108%5),(p.s sN).po,.int .i64 (k/540%3),(),m16,.bool (k/3240%3==0),(),.slice none 0 0,.slice (some ⟨b,0,none⟩) nd 1]:List Value).toArray) (aS Tryz.results38 _ rfl (SF.out.ce 3 rfl) Tryz.underlying53 rfl jt) rfl ⟨{ kind:=(1+k/6%2),life:=(1+k/12%9),src:=(p.s sN).ad,dst:=(1000+k/108%5),fp:=(p.s sN).po,tp:=(k/540%3),flags:=0,label:=m16,bare:=(k/3240%3==0),no:=0,go:=fun _=>0,nd:=nd,gd:=fun _=>IntKind.u8.wrap k },none,0,some ⟨b,0,none⟩,1,b,rfl,Nat.le_refl _,pI.out,HS.upd (A:=[bS (.slice none 0 0) 0 (fun _=>0)]) (B:=[]) (HS.yp (HS.sub (M:=[aw b [.int .u8 (IntKind.u8.wrap k)]]) SF.out (by(try simp only[List.cons_append,List.nil_append]);repeat (first |exact List.Sublist.slnil |with_reducible apply List.Sublist.cons_cons |with_reducible apply List.Sublist.cons)))) (mS b (some ⟨b,0,none⟩) nd _) rfl (Ch.refl _ _) (Ey (SF.out.ce 1 rfl) (by omega))⟩)
theorem KW {S:List Nat}{W w:World}{L:List Th}(hS:HS S W w L)(p:Pl)(hp:Pt p)(n m:Int)(hn: -9223372036854775808≤n∧n≤9223372036854775807)(hm: -9223372036854775808≤m∧m≤9223372036854775807):Calls Tryz.prog 38 #[.agg (FA 330 (pc p)),n,m] w fun e w'=>∃x AO cO AD cD bD,e =.returned (.agg #[x.kind,x.life,x.piece,x.src,x.dst,x.fp,x.tp,x.flags,x.label,x.bare,x.code,.slice AO x.no cO,.slice AD x.nd cD])∧x.no≤cO∧E_ p x∧HS S W w' (bS (.slice AO x.no cO) x.no x.go::mS bD AD x.nd x.gd::L):=by
 refine(AW p hp n m hn hm w).mono ?_
 rintro e w' ⟨x,AO,cO,AD,cD,bD,rfl,h1,h2,h3⟩
 exact⟨x,AO,cO,AD,cD,bD,rfl,h1,h2,hS.join h3⟩
end Go.Proofs.YtalnfkijiehjhaaGreat
