/- Proved here: for every two scenes and every two texts All answers true, and they read as they did. No condition. -/
import Derived.Test.YthmmgiaobakilaaGreatJ02
import Derived.Test.YthmmgiaobakilaaGreatJ53
set_option maxRecDepth 100000
set_option maxHeartbeats 8000000
set_option linter.all false
namespace Go.Proofs.YthmmgiaobakilaaGreat
open Go.ChangeShapes Go.WideShapes Go.ChangeAt Go.RowKit
open Go.ChangeMaps (open_string shut_string)
theorem KR (H:Type) (enc:TypeId×Value->H) (W:World) (base:Nat) (args:Array Value) (ds gs:List (DataW H)) (before:List MemPlace)
  (hval0:∀(j:Nat) t v,Tryz.f4.params[j]?=some t->args[j]?=some v->Value.okWide Tryz.prog W .any base t v)
  (hW:DataW.Whole enc Tryz.prog Tryz.f4.params.toList Rows.allSpec.vars false W args.toList ds gs before) (hk:(DataW.weightsEach Tryz.prog (Tryz.f4.params.toList++Rows.allSpec.plain.varTypes Tryz.prog) (ds++gs)).all (·<=reachBytes)=true) :
  Calls Tryz.prog 4 args W λe W'=>∃v,e=.returned v/\Rows.allSpec.post enc Tryz.prog Tryz.f4 false true false false W args v W':=by
 have hval:∀(j:Nat) t v,Tryz.f4.params[j]?=some t->args[j]?=some v->Value.okWide Tryz.prog W .any base t v:=hval0;have hW':=hW;obtain⟨p,q,hA0,hV,rfl,hfz,hnd⟩:=hW;have hA:DataW.TrodAll enc Tryz.prog W 0 (λ_=>true) true Tryz.f4.params.toList args.toList ds p:=hA0;rw[Tryz.params4]at hA hval;obtain⟨v0,vs0,d0,ds0,p0,q0,hargs,rfl,rfl,h0,r0⟩:=trodAll_cons hA;obtain⟨v1,vs1,d1,ds1,p1,q1,rfl,rfl,rfl,h1,r1⟩:=trodAll_cons r0;obtain⟨v2,vs2,d2,ds2,p2,q2,rfl,rfl,rfl,h2,r2⟩:=trodAll_cons r1;obtain⟨v3,vs3,d3,ds3,p3,q3,rfl,rfl,rfl,h3,r3⟩:=trodAll_cons r2;obtain⟨rfl,rfl,rfl⟩:=trodAll_nil r3;obtain rfl:args=#[v0,v1,v2,v3]:=by cases args;simp_all
 obtain⟨rfl,rfl⟩:=trodVars_none hV;have k0:=h0;have k1:=h1;have k2:=h2;have k3:=h3;have lt0:∀x∈p0,x.block<W.heap.size:=by obtain⟨m,hm⟩:=k0;exact DataW.trod_lt m _ _ _ hm
 have lt1:∀x∈p1,x.block<W.heap.size:=by obtain⟨m,hm⟩:=k1;exact DataW.trod_lt m _ _ _ hm
 have lt2:∀x∈p2,x.block<W.heap.size:=by obtain⟨m,hm⟩:=k2;exact DataW.trod_lt m _ _ _ hm
 have lt3:∀x∈p3,x.block<W.heap.size:=by obtain⟨m,hm⟩:=k3;exact DataW.trod_lt m _ _ _ hm
 have o0:=hval 0 24 v0 rfl rfl;have o2:=hval 2 24 v2 rfl rfl;obtain⟨sw,sh,ao,bo,c,e,xs,ys,src,rfl,hx,hy,_,_,ls,_,_,_,_⟩:=IJ o0 h0;obtain⟨tw,th,ao',bo',c',e',us,vs,trc,rfl,hu,hv,_,_,lt,_,_,_,_⟩:=IJ o2 h2;obtain⟨b,rfl,_,_,lb⟩:=open_string Tryz.underlying9 (hval 1 9 v1 rfl rfl) h1;obtain⟨o,rfl,_,_,lo⟩:=open_string Tryz.underlying9 (hval 3 9 v3 rfl rfl) h3;have hwt:∀n∈DataW.weightsEach Tryz.prog (Tryz.f4.params.toList++Rows.allSpec.plain.varTypes Tryz.prog) ([d0,d1,d2,d3]++[]),n<=reachBytes:=λn hn=>by simpa using wC.1 hk n hn
 have s0:=Fa o0 k0 λn hn=>hwt n (DataW.weights_mem_each (j:=0) rfl rfl n hn);have s2:=Fa o2 k2 λn hn=>hwt n (DataW.weights_mem_each (j:=2) rfl rfl n hn);clear hA0 hval0;refine(VV W sw sh ao bo c e xs ys src b tw th ao' bo' c' e' us vs trc o hx hy hu hv s0.1 s0.2 s2.1 s2.2 ls lb lt lo).mono λe W' ⟨he,bel⟩=>?_;subst he;exact⟨_,rfl,_,_,_,[],_,[],hW',trodAll_mk1 (shut_bool Tryz.underlying4 _),(trodAll_cons_mk (Below.trod Fv (by kernel_rfl) (of_decide_eq_true (by kernel_rfl)) k0 bel lt0) (trodAll_cons_mk (Below.trod Fv (by kernel_rfl) (of_decide_eq_true (by kernel_rfl)) k1 bel lt1) (trodAll_cons_mk (Below.trod Fv (by kernel_rfl) (of_decide_eq_true (by kernel_rfl)) k2 bel lt2) (trodAll_cons_mk (Below.trod Fv (by kernel_rfl) (of_decide_eq_true (by kernel_rfl)) k3 bel lt3) trodAll_mk0)))),rfl,bel.frame _,λh=>by cases h⟩
theorem Pn (os:Os) (started:os.Started) (H:Type) (enc:TypeId×Value->H) :
  ReturnsInHanded {} Tryz.checked os 4 .any (Rows.allSpec.pre6 enc Tryz.prog Tryz.f4 Rows.allRow.domain false) (Rows.allSpec.post enc Tryz.prog Tryz.f4 false true false false):=by
 refine returnsInHanded_of_change_sized (C:=Tryz.checked) own started (by kernel_rfl) Tryz.func4
  (ChangeSpec.witness6 (enc:=enc) (C:=Tryz.checked) false ⟨#[],#[.agg #[.int .i64 0,.int .i64 0,.slice none 0 0,.slice none 0 0,.string .empty],.string .empty,.agg #[.int .i64 0,.int .i64 0,.slice none 0 0,.slice none 0 0,.string .empty],.string .empty],[]⟩ 8 (by kernel_rfl) (by kernel_rfl) (by kernel_rfl) (by kernel_rfl)) ?_
 intro W base args ds gs before hval hW _ hk _;exact KR H enc W base args ds gs before hval hW hk
theorem all_holds:Rows.AllSaid:=
 OpenClaim.holds_of_wide 4 Tryz.f4 rfl rfl rfl rfl rfl rfl rfl ⟨rfl,rfl,rfl,rfl,rfl⟩ rfl rfl rfl rfl rfl (by kernel_rfl) Tryz.func4 (by kernel_rfl)
  (of_decide_eq_true (by kernel_rfl)) (by unfold Func.isWrapper;first|(rw[ag (by decide +kernel)];kernel_rfl)|(rw[ae (by decide +kernel)];exact⟨rfl,rfl⟩))
  (λos started H enc _=>Pn os started H enc)
#print axioms all_holds
end Go.Proofs.YthmmgiaobakilaaGreat
