import Derived.Test.YthmmgiaobakilaaGreatK01
import Derived.ProofKit
import Derived.OpenShut
import Derived.Deep.Fields
import Derived.ShutString
import Derived.ChangeOld
set_option maxRecDepth 100000
namespace Go.Proofs.YthmmgiaobakilaaGreat
open Go.ChangeShapes Go.WideShapes Go.ChangeAt Go.RowKit
theorem own:ownKnob Tryz.prog.godebug=none:=by kernel_rfl
theorem laidOut:laidOutB Tryz.prog=true:=by kernel_rfl
theorem cellsScene:Tryz.prog.cellsOf 24=5:=by kernel_rfl
theorem array5 {α:Type} {cs:Array α} (h:cs.size=5):∃c0 c1 c2 c3 c4,cs = #[c0,c1,c2,c3,c4]:=by
 obtain ⟨l⟩:=cs
 match l,h with
 | [c0,c1,c2,c3,c4],_=>exact ⟨c0,c1,c2,c3,c4,rfl⟩
section
variable {H:Type} {enc:TypeId×Value→H} {P:Program} {w:World} {base:Nat} {spare:Nat→Bool} {held:Bool}
theorem trod_struct5 {t:TypeId} {f0 f1 f2 f3 f4:Field} {fuel:Nat} {cs:List Value} {x:DataW H×List MemPlace} (ht:P.underlying t=some (.struct #[f0,f1,f2,f3,f4])) (h:DataW.trod enc P w base spare held fuel t cs=some x) :
  ∃y0 y1 y2 y3 y4 n,DataW.trod enc P w base spare held n f0.type ((cs.drop f0.offset).take (P.cellsOf f0.type))=some y0 ∧
   DataW.trod enc P w base spare held n f1.type ((cs.drop f1.offset).take (P.cellsOf f1.type))=some y1∧DataW.trod enc P w base spare held n f2.type ((cs.drop f2.offset).take (P.cellsOf f2.type))=some y2 ∧
   DataW.trod enc P w base spare held n f3.type ((cs.drop f3.offset).take (P.cellsOf f3.type))=some y3∧DataW.trod enc P w base spare held n f4.type ((cs.drop f4.offset).take (P.cellsOf f4.type))=some y4 ∧
   x=(.agg [y0.1,y1.1,y2.1,y3.1,y4.1],y0.2++(y1.2++(y2.2++(y3.2++y4.2)))):=by
 obtain ⟨xs,n,_,rfl,hl,hlen,hf⟩:=DataW.trod_struct ht h
 match xs,hlen with
 | [y0,y1,y2,y3,y4],_=>exact ⟨y0,y1,y2,y3,y4,n,by simpa using hf 0 f0 rfl,by simpa using hf 1 f1 rfl,by simpa using hf 2 f2 rfl,by simpa using hf 3 f3 rfl,by simpa using hf 4 f4 rfl,by simp⟩
theorem open_agg5 {r:Reach} {b0:Nat} {t:TypeId} {f0 f1 f2 f3 f4:Field} {v:Value} {d:DataW H} {p:List MemPlace} (hs:P.underlying t=some (.struct #[f0,f1,f2,f3,f4])) (hone:Go.Deep.oneCellFields P #[f0,f1,f2,f3,f4]=true) (hC:P.cellsOf t=5)
  (hv:Value.okWide P w r b0 t v) (h:DataW.Trod enc P w base spare held t v d p) :
  ∃(v0 v1 v2 v3 v4:Value) (y0 y1 y2 y3 y4:DataW H×List MemPlace) (n:Nat),v = .agg #[v0,v1,v2,v3,v4]∧d = .agg [y0.1,y1.1,y2.1,y3.1,y4.1] ∧
   DataW.trod enc P w base spare held n f0.type [v0]=some y0∧DataW.trod enc P w base spare held n f1.type [v1]=some y1∧DataW.trod enc P w base spare held n f2.type [v2]=some y2∧DataW.trod enc P w base spare held n f3.type [v3]=some y3∧DataW.trod enc P w base spare held n f4.type [v4]=some y4:=by
 obtain ⟨cs,rfl,hsz⟩:=okWide_struct hs hv
 obtain ⟨c0,c1,c2,c3,c4,rfl⟩:=array5 (hsz.trans hC)
 obtain ⟨fuel,hf⟩:=h
 obtain ⟨y0,y1,y2,y3,y4,n,h0,h1,h2,h3,h4,hx⟩:=trod_struct5 hs hf
 obtain ⟨o0,k0⟩:=Go.Deep.hone_of hone 0 f0 rfl
 obtain ⟨o1,k1⟩:=Go.Deep.hone_of hone 1 f1 rfl
 obtain ⟨o2,k2⟩:=Go.Deep.hone_of hone 2 f2 rfl
 obtain ⟨o3,k3⟩:=Go.Deep.hone_of hone 3 f3 rfl
 obtain ⟨o4,k4⟩:=Go.Deep.hone_of hone 4 f4 rfl
 simp only [Prod.mk.injEq] at hx
 exact ⟨c0,c1,c2,c3,c4,y0,y1,y2,y3,y4,n,rfl,hx.1,by simpa [Value.cells,o0,k0] using h0,by simpa [Value.cells,o1,k1] using h1,by simpa [Value.cells,o2,k2] using h2,by simpa [Value.cells,o3,k3] using h3,by simpa [Value.cells,o4,k4] using h4⟩
end
theorem ints_of_trod {H:Type} {enc:TypeId×Value→H} {w:World} {n:Nat} {v:Value} {y:DataW H×List MemPlace} (h:DataW.trod enc Tryz.prog w 0 (fun _=>true) true n 22 [v]=some y) :
  ∃ao c xs,v = .slice ao xs.length c∧IntsAt w.heap.size w ao xs∧xs.length≤maxLen∧xs.length≤c:=by
 rcases open_ints Tryz.underlying22 Tryz.underlying3 (by kernel_rfl) h with ⟨hcs,_⟩ | ⟨x,l,c,zs,hcs,_,hl,hm,hz,_,hcell,_⟩
 ·simp at hcs
  exact ⟨none,0,[],by simpa using hcs,.inl rfl,by simp,by simp⟩
 ·simp at hcs
  simp only [if_true] at hz
  have hlen:(zs.take l).length=l:=by rw [List.length_take];omega
  refine ⟨some x,c,zs.take l,by rw [hlen];exact hcs,?_,by omega,by omega⟩
  by_cases h0:l=0
  ·left
   rw [h0,List.take_zero]
  ·right
   obtain ⟨b,off,spot⟩:=x
   have hc:=hcell 0 (by omega)
   have hspot:spot=none:=by simpa [Addr.add] using World.cell?_spot hc
   subst hspot
   have hc':∀j,j < l→w.cell? ⟨b,off+j,none⟩=some (.int .i64 (zs.getD j 0)):=fun j hj=>by
    have:=hcell j (by omega)
    have hadd:(⟨b,off,none⟩:Addr).add j=⟨b,off+j,none⟩:=by unfold Addr.add;split <;> simp_all
    rwa [hadd] at this
   refine ⟨b,off,rfl,World.block_lt_of_cell? w _ (hc' 0 (by omega)),fun j hj=>?_⟩
   rw [hc' j (by omega)]
   simp only [List.getD,List.getElem?_take]
   rw [if_pos (by omega)]
theorem open_scene {H:Type} {enc:TypeId×Value→H} {w:World} {r:Reach} {b0:Nat} {v:Value} {d:DataW H} {p:List MemPlace} (hv:Value.okWide Tryz.prog w r b0 24 v) (h:DataW.Trod enc Tryz.prog w 0 (fun _=>true) true 24 v d p) :
  ∃(W Hh:Int) (ao bo:Option Addr) (c e:Nat) (xs ys:List Int) (src:ByteArray),v = .agg #[.int .i64 W,.int .i64 Hh,.slice ao xs.length c,.slice bo ys.length e,.string src] ∧
   IntsAt w.heap.size w ao xs∧IntsAt w.heap.size w bo ys∧xs.length≤maxLen∧ys.length≤maxLen∧src.size≤maxLen∧(Lit.int .i64 W).wf=true∧(Lit.int .i64 Hh).wf=true∧xs.length≤c∧ys.length≤e:=by
 obtain ⟨v0,v1,v2,v3,v4,y0,y1,y2,y3,y4,n,rfl,_,h0,h1,h2,h3,h4⟩:=open_agg5 Tryz.underlying24 (by kernel_rfl) cellsScene hv h
 obtain ⟨W,e0,_,w0⟩:=DataW.trod_int Tryz.underlying3 h0
 obtain ⟨Hh,e1,_,w1⟩:=DataW.trod_int Tryz.underlying3 h1
 obtain ⟨ao,c,xs,rfl,hx,lx,cx⟩:=ints_of_trod h2
 obtain ⟨bo,e,ys,rfl,hy,ly,cy⟩:=ints_of_trod h3
 obtain ⟨src,e4,_,ls⟩:=DataW.trod_string Tryz.underlying9 h4
 simp at e0 e1 e4
 subst e0 e1 e4
 exact ⟨W,Hh,ao,bo,c,e,xs,ys,src,rfl,hx,hy,lx,ly,ls,w0,w1,cx,cy⟩
end Go.Proofs.YthmmgiaobakilaaGreat
