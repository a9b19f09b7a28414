import Derived.Test.YthmmgiaobakilaaGreatJ01
import Derived.ProofKit
import Derived.OpenShut
import Derived.Deep.Fields
import Derived.ShutString
import Derived.ChangeOld
import Derived.SizedLaws
set_option maxRecDepth 100000
set_option maxHeartbeats 8000000
set_option linter.all false
namespace Go.Proofs.YthmmgiaobakilaaGreat
open Go.ChangeShapes Go.WideShapes Go.ChangeAt Go.RowKit
variable {H:Type} {ao bo:Option Addr} {b0 n:Nat} {cs:List Value} {p:List MemPlace} {r:Reach} {src:ByteArray} {t:TypeId} {v:Value} {w:World}
theorem own:ownKnob Tryz.prog.godebug=none:=by kernel_rfl
theorem Fv:laidOutB Tryz.prog=true:=by kernel_rfl
theorem Ip:Tryz.prog.cellsOf 24=5:=by kernel_rfl
theorem Qg2 {α:Type} {cs:Array α} (h:cs.size=5):∃c0 c1 c2 c3 c4,cs=#[c0,c1,c2,c3,c4]:=by
 obtain⟨l⟩:=cs
 match l,h with
 | [c0,c1,c2,c3,c4],_=>exact⟨c0,c1,c2,c3,c4,rfl⟩
section
variable {H:Type} {enc:TypeId×Value->H} {P:Program} {w:World} {base:Nat} {spare:Nat->Bool} {held:Bool}
theorem M5 {f0 f1 f2 f3 f4:Field} {fuel:Nat} {x:DataW H×List MemPlace} (ht:P.underlying t=some (.struct #[f0,f1,f2,f3,f4])) (h:DataW.trod enc P w base spare held fuel t cs=some x) :
  ∃y0 y1 y2 y3 y4 n,DataW.trod enc P w base spare held n f0.type ((cs.drop f0.offset).take (P.cellsOf f0.type))=some y0 /\
   DataW.trod enc P w base spare held n f1.type ((cs.drop f1.offset).take (P.cellsOf f1.type))=some y1/\DataW.trod enc P w base spare held n f2.type ((cs.drop f2.offset).take (P.cellsOf f2.type))=some y2 /\
   DataW.trod enc P w base spare held n f3.type ((cs.drop f3.offset).take (P.cellsOf f3.type))=some y3/\DataW.trod enc P w base spare held n f4.type ((cs.drop f4.offset).take (P.cellsOf f4.type))=some y4 /\
   x=(.agg [y0.1,y1.1,y2.1,y3.1,y4.1],y0.2++(y1.2++(y2.2++(y3.2++y4.2)))):=by
 obtain⟨xs,n,_,rfl,hl,hlen,hf⟩:=DataW.trod_struct ht h
 match xs,hlen with
 | [y0,y1,y2,y3,y4],_=>exact⟨y0,y1,y2,y3,y4,n,by simpa using hf 0 f0 rfl,by simpa using hf 1 f1 rfl,by simpa using hf 2 f2 rfl,by simpa using hf 3 f3 rfl,by simpa using hf 4 f4 rfl,by simp⟩
theorem Kl {f0 f1 f2 f3 f4:Field} {d:DataW H} (hs:P.underlying t=some (.struct #[f0,f1,f2,f3,f4])) (hone:Go.Deep.oneCellFields P #[f0,f1,f2,f3,f4]=true) (hC:P.cellsOf t=5)
  (hv:Value.okWide P w r b0 t v) (h:DataW.Trod enc P w base spare held t v d p) :
  ∃(v0 v1 v2 v3 v4:Value) (y0 y1 y2 y3 y4:DataW H×List MemPlace) (n:Nat),v=.agg #[v0,v1,v2,v3,v4]/\d=.agg [y0.1,y1.1,y2.1,y3.1,y4.1] /\
   DataW.trod enc P w base spare held n f0.type [v0]=some y0/\DataW.trod enc P w base spare held n f1.type [v1]=some y1/\DataW.trod enc P w base spare held n f2.type [v2]=some y2/\DataW.trod enc P w base spare held n f3.type [v3]=some y3/\DataW.trod enc P w base spare held n f4.type [v4]=some y4:=by
 obtain⟨cs,rfl,hsz⟩:=okWide_struct hs hv;obtain⟨c0,c1,c2,c3,c4,rfl⟩:=Qg2 (hsz.trans hC);obtain⟨fuel,hf⟩:=h;obtain⟨y0,y1,y2,y3,y4,n,h0,h1,h2,h3,h4,hx⟩:=M5 hs hf;obtain⟨o0,k0⟩:=Go.Deep.hone_of hone 0 f0 rfl;obtain⟨o1,k1⟩:=Go.Deep.hone_of hone 1 f1 rfl;obtain⟨o2,k2⟩:=Go.Deep.hone_of hone 2 f2 rfl;obtain⟨o3,k3⟩:=Go.Deep.hone_of hone 3 f3 rfl;obtain⟨o4,k4⟩:=Go.Deep.hone_of hone 4 f4 rfl;simp only[je]at hx;exact⟨c0,c1,c2,c3,c4,y0,y1,y2,y3,y4,n,rfl,hx.1,by simpa[Value.cells,o0,k0] using h0,by simpa[Value.cells,o1,k1] using h1,by simpa[Value.cells,o2,k2] using h2,by simpa[Value.cells,o3,k3] using h3,by simpa[Value.cells,o4,k4] using h4⟩
end
theorem D8 {enc:TypeId×Value->H} {y:DataW H×List MemPlace} (h:DataW.trod enc Tryz.prog w 0 (λ_=>true) true n 22 [v]=some y) :
  ∃ao c xs,v=.slice ao xs.length c/\aF w.heap.size w ao xs/\xs.length<=maxLen/\xs.length<=c:=by
 rcases open_ints Tryz.underlying22 Tryz.underlying3 (by kernel_rfl) h with⟨hcs,_⟩|⟨x,l,c,zs,hcs,_,hl,hm,hz,_,hcell,_⟩
 .simp at hcs;exact⟨none,0,[],by simpa using hcs,.inl rfl,by simp,by simp⟩
 .simp at hcs;simp only[if_true]at hz;have hlen:(zs.take l).length=l:=by rw[List.length_take];omega
  refine⟨some x,c,zs.take l,by rw[hlen];exact hcs,?_,by omega,by omega⟩;by_cases h0:l=0
  .left;rw[h0,List.take_zero]
  .right;obtain⟨b,off,spot⟩:=x;have hc:=hcell 0 (by omega);have hspot:spot=none:=by simpa[Addr.add] using World.cell?_spot hc
   subst hspot;have hc':∀j,j<l->w.cell? ⟨b,off+j,none⟩=some (.int .i64 (zs.getD j 0)):=λj hj=>by
    have:=hcell j (by omega);have hadd:(⟨b,off,none⟩:Addr).add j=⟨b,off+j,none⟩:=by unfold Addr.add;split<;>simp_all
    rwa [hadd]at this
   refine⟨b,off,rfl,fB w _ (hc' 0 (by omega)),λj hj=>?_⟩;rw[hc' j (by omega)];simp only[List.getD,List.getElem?_take];rw[ag (by omega)]
theorem IJ {enc:TypeId×Value->H} {d:DataW H} (hv:Value.okWide Tryz.prog w r b0 24 v) (h:DataW.Trod enc Tryz.prog w 0 (λ_=>true) true 24 v d p) :
  ∃(W Hh:Int) (ao bo:Option Addr) (c e:Nat) (xs ys:List Int) (src:ByteArray),v=.agg #[.int .i64 W,.int .i64 Hh,.slice ao xs.length c,.slice bo ys.length e,.string src] /\
   aF w.heap.size w ao xs/\aF w.heap.size w bo ys/\xs.length<=maxLen/\ys.length<=maxLen/\src.size<=maxLen/\(Lit.int .i64 W).wf=true/\(Lit.int .i64 Hh).wf=true/\xs.length<=c/\ys.length<=e:=by
 obtain⟨v0,v1,v2,v3,v4,y0,y1,y2,y3,y4,n,rfl,_,h0,h1,h2,h3,h4⟩:=Kl Tryz.underlying24 (by kernel_rfl) Ip hv h;obtain⟨W,e0,_,w0⟩:=DataW.trod_int Tryz.underlying3 h0;obtain⟨Hh,e1,_,w1⟩:=DataW.trod_int Tryz.underlying3 h1;obtain⟨ao,c,xs,rfl,hx,lx,cx⟩:=D8 h2;obtain⟨bo,e,ys,rfl,hy,ly,cy⟩:=D8 h3;obtain⟨src,e4,_,ls⟩:=DataW.trod_string Tryz.underlying9 h4;simp at e0 e1 e4;subst e0 e1 e4;exact⟨W,Hh,ao,bo,c,e,xs,ys,src,rfl,hx,hy,lx,ly,ls,w0,w1,cx,cy⟩
theorem Qf4:Tryz.prog.bytesOf 3=8:=by kernel_rfl
theorem Hm {enc:TypeId×Value->H} {m c:Nat} {y:DataW H×List MemPlace} (h:DataW.trod enc Tryz.prog w 0 (λ_=>true) true n 22 [.slice ao m c]=some y) (hw:∀n∈y.1.weights Tryz.prog 22,n<=reachBytes):m<=17592186043904:=by
 rcases open_ints Tryz.underlying22 Tryz.underlying3 (by kernel_rfl) h with⟨hcs,_⟩|⟨x,l,c,zs,hcs,_,hl,hm,hz,rfl,_⟩
 .simp at hcs;omega
 .simp at hcs;simp only[if_true]at hz;have h8:=hw (((lits (H:=H) IntKind.i64 (zs.take l)).length+(lits (H:=H) IntKind.i64 (zs.drop l)).length)*Tryz.prog.bytesOf 3) (by simp[DataW.weights,Tryz.underlying22]);rw[show(lits (H:=H) IntKind.i64 (zs.take l)).length=l by simp[lits];omega,Qf4]at h8;unfold reachBytes at h8;omega
theorem Fa {enc:TypeId×Value->H} {W Hh:Int} {m c e:Nat} {d:DataW H} (hv:Value.okWide Tryz.prog w r b0 24 (.agg #[.int .i64 W,.int .i64 Hh,.slice ao m c,.slice bo n e,.string src])) (h:DataW.Trod enc Tryz.prog w 0 (λ_=>true) true 24 (.agg #[.int .i64 W,.int .i64 Hh,.slice ao m c,.slice bo n e,.string src]) d p) (hw:∀n∈d.weights Tryz.prog 24,n<=reachBytes) :
  m<=17592186043904/\n<=17592186043904:=by
 obtain⟨v0,v1,v2,v3,v4,y0,y1,y2,y3,y4,k,hv,rfl,h0,h1,h2,h3,h4⟩:=Kl Tryz.underlying24 (by kernel_rfl) Ip hv h;obtain⟨rfl,rfl,rfl,rfl,rfl⟩ : .int .i64 W=v0/\.int .i64 Hh=v1/\.slice ao m c=v2/\.slice bo n e=v3/\.string src=v4:=by simpa using hv
 rw[DataW.weights,Tryz.underlying24]at hw;exact⟨Hm h2 λx hx=>hw x (DataW.weights_mem_each (j:=2) rfl rfl x hx),Hm h3 λx hx=>hw x (DataW.weights_mem_each (j:=3) rfl rfl x hx)⟩
end Go.Proofs.YthmmgiaobakilaaGreat
