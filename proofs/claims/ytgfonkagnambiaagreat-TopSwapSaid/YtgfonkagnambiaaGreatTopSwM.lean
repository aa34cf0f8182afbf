/- Units that tell the same of what comes in without a stamp, pure. -/
import Derived.Test.YtgfonkagnambiaaGreatGa
import Derived.Test.YtgfonkagnambiaaGreatTio
import Derived.BigQuiet
import Derived.Deep.RegionHeld3
import Derived.Deep.Cut
import Derived.IntWalk
namespace Go.Proofs.YtgfonkagnambiaaGreat
set_option linter.unusedVariables false
set_option linter.unusedSimpArgs false
open Go.RowKit Go.ChangeShapes Go.WideShapes Go.ChangeAt
set_option maxRecDepth 100000
def xS (x:Pk)(l:Int):Pk:={ kind:=2,life:=7,piece:=x.piece,src:=x.src,dst:=x.dst,fp:=x.fp,tp:=x.tp,label:=l,code:=x.code,nd:=x.nd,gd:=x.gd }
theorem BM {p:Pl}{g:Nat→Int}{n:Nat}{x:Pk}(h0:x.no=0)(nr Km:Nat→Option Int):inT p nr g n x ={ inT p Km g n x with nr:=nr }:=by
 have h:¬((cx x).2.2.2=true∧(cx x).2.2.1≠0):=fun h=>by
  have:=(uU h.1).2.1
  omega
 unfold inT r8
 dsimp only
 rw[if_neg h,if_neg h]
 split <;> rfl
theorem yV {p:Pl}(hp:Pt p){x:Pk}(hI:yq p x){l:Int}(hl:0≤l∧l≤65535):ax (xS x l)=0∧az (aD (xS x l))∧aG (xS x l)≤1500∧∃t:To,∀nr,dj p true nr (aD (xS x l)) (aG (xS x l)) ={ t with nr:=nr }:=by
 have hM:Bl (xS x l):=⟨.inr rfl,by show 0≤x.tp∧x.tp≤65535;rw[hI.tp];exact hp.2.2.2.2,by show (0:Int)≤0∧(0:Int)≤15;decide,hl,⟨fun _=>⟨rfl,rfl⟩,fun h=>absurd rfl h,hI.md.cl.2.2⟩,j9,hI.md.gd,by show 0≤40;decide,hI.md.nd⟩
 obtain ⟨hE,hC,_,hL,_⟩:=Jz hM (by show (0:Int)≤7∧(7:Int)≤255;decide) hI.pc hI.src (by show 0≤x.dst∧x.dst≤4294967295;rw[hI.dst];exact hp.2.2.2.1) hI.fp
 have hgo:az (xS x l).go:=j9
 have hgd:az (xS x l).gd:=hI.md.gd
 have hq:=j_ hgd hgo hE
 have pe:=nY hgd hgo hE hC
 refine⟨hE,lM hgd hgo hE,hL,inT p (fun _=>none) (aD (xS x l)) (aG (xS x l)) (xS x l),fun nr=>?_⟩
 rw[BI hq pe hI.pc (by show (1:Int)<7;decide) (by show (2:Int)≠3;decide) ⟨hI.dst,hI.tp⟩]
 exact BM rfl _ _
end Go.Proofs.YtgfonkagnambiaaGreat
