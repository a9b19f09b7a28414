import Derived.Test.YthmmgiaobakilaaGreatK03
import Derived.Maps.OwnSet
import Derived.Maps.OwnOps
set_option maxRecDepth 100000
namespace Go.Proofs.YthmmgiaobakilaaGreat
open Go.RowKit Go.Deep
theorem str_keyed:Maps.Keyed Tryz.prog 9:=Maps.string_keyed Tryz.underlying9
theorem str_key {s:ByteArray} (hs:s.size≤maxLen):keyOf Tryz.prog 9 (.string s)=some (.string s.data.toList):=WideMaps.keyOf_string_mk Tryz.underlying9 hs
def updR (R:ByteArray→Int) (s:ByteArray) (c:Int):ByteArray→Int:=fun t=>if t.toList==s.toList then c else R t
def MapIs (E:TypeId) (q:IntKind) (w:World) (b n:Nat) (R:ByteArray→Int):Prop:=
 ∃D:DataW Unit,w.ownsMap Tryz.prog 9 (plainElem Tryz.prog E) b n D∧∀s:ByteArray,s.size≤maxLen→D.atKey (.string s.data.toList) (.lit (.int q 0)) = .lit (.int q (R s))
section
variable {E T:TypeId} {q:IntKind} {w w':World} {b n:Nat} {R:ByteArray→Int}
theorem MapIs.later (h:MapIs E q w b n R) (hs:w'.heap[b]?=w.heap[b]?):MapIs E q w' b n R:=by
 obtain ⟨D,⟨es,clock,hb,r⟩,hD⟩:=h
 exact ⟨D,⟨es,clock,hs.trans hb,r⟩,hD⟩
theorem MapIs.lt (h:MapIs E q w b n R):b < w.heap.size:=by
 obtain ⟨D,h,_⟩:=h
 exact h.lt
theorem MapIs.obj (h:MapIs E q w b n R):∃es clock,w.heap[b]?=some (.map es clock):=by
 obtain ⟨D,⟨es,clock,hb,r⟩,hD⟩:=h
 exact ⟨es,clock,hb⟩
theorem MapIs.made (w:World):MapIs E q (w.alloc (.map #[] 0)) w.heap.size 0 (fun _=>0):=⟨_,World.ownsMap_made w _ _ _,fun _ _=>rfl⟩
theorem MapIs.look (h:MapIs E q w b n R) (ht:Tryz.prog.underlying T=some (.map 9 E)) (he:Tryz.prog.underlying E=some (.int q)) (hz:(zeroValue E).run Tryz.prog w = .ok (.int q 0) w) {s:ByteArray} (hs:s.size≤maxLen) :
  (Instr.lookup T (.map (some b)) (.string s) false).run Tryz.prog w = .ok (.int q (R s)) w:=by
 obtain ⟨D,ho,hD⟩:=h
 obtain ⟨c,hrun,hat,_⟩:=ho.lookup_int str_keyed ht he hz (str_key hs)
 rw [hD s hs] at hat
 cases hat
 exact hrun
theorem key_lit (s:ByteArray):WideAt.IsKeyLit (.string s.data.toList):=by
 trivial
theorem key_ne {s t:ByteArray} (h:(t.toList==s.toList)=false):(Lit.string t.data.toList)≠.string s.data.toList:=by
 intro e
 have e1:t.data.toList=s.data.toList:=by simpa using e
 rw [ByteArray.toList_eq,ByteArray.toList_eq] at h
 rw [e1] at h
 simp at h
theorem MapIs.store (h:MapIs E q w b n R) (ht:Tryz.prog.underlying T=some (.map 9 E)) (he:Tryz.prog.underlying E=some (.int q)) (hn:n < maxLen) {s:ByteArray} (hs:s.size≤maxLen) {c:Int} (hc:(Lit.int q c).wf=true) :
  ∃w',(Instr.mapUpdate T (.map (some b)) (.string s) (.int q c)).run Tryz.prog w = .ok () w'∧MapIs E q w' b (n+1) (updR R s c)∧w.mapTurned w' b:=by
 obtain ⟨D,ho,hD⟩:=h
 obtain ⟨w',hrun,ho',ht'⟩:=ho.store str_keyed ht hn (str_key hs) (plainElem_int he hc)
 refine ⟨w',hrun,⟨_,ho',fun t hts=>?_⟩,ht'⟩
 unfold updR
 cases hb:(t.toList==s.toList)
 ·rw [if_neg (by simp)]
  rw [Maps.atKey_put_other (key_ne hb)]
  exact hD t hts
 ·rw [if_pos rfl]
  have e:t=s:=bytes_eq (by simpa using hb)
  rw [e]
  exact Maps.atKey_put_same ho.isMap (key_lit s) _ _
theorem MapIs.drop (h:MapIs E q w b n R) (ht:Tryz.prog.underlying T=some (.map 9 E)) {s:ByteArray} (hs:s.size≤maxLen) (ty:TypeId) :
  ∃w',(Builtin.delete_ #[T,9] ty #[.map (some b),.string s]).run Tryz.prog w = .ok (.tuple #[]) w'∧MapIs E q w' b n (updR R s 0)∧w.mapTurned w' b:=by
 obtain ⟨D,ho,hD⟩:=h
 obtain ⟨w',hrun,ho',ht'⟩:=ho.drop str_keyed ht (str_key hs) ty
 refine ⟨w',hrun,⟨_,ho',fun t hts=>?_⟩,ht'⟩
 unfold updR
 cases hb:(t.toList==s.toList)
 ·rw [if_neg (by simp)]
  rw [Maps.atKey_del_other (key_ne hb)]
  exact hD t hts
 ·rw [if_pos rfl]
  have e:t=s:=bytes_eq (by simpa using hb)
  rw [e]
  exact Maps.atKey_del_same _
theorem MapIs.clear (h:MapIs E q w b n R) (ht:Tryz.prog.underlying T=some (.map 9 E)) (ty:TypeId) :
  ∃w',(Builtin.clear_ #[T] ty #[.map (some b)]).run Tryz.prog w = .ok (.tuple #[]) w'∧MapIs E q w' b 0 (fun _=>0)∧w.mapTurned w' b:=by
 obtain ⟨D,⟨es,clock,hb,F,hs,hD0⟩,hD⟩:=h
 refine ⟨_,by simp [Builtin.clear_,run_underlying ht,MapKept.run_getObj_map hb,MapKept.run_setObj_map _ hb,Result.andThen];rfl,⟨.map [],⟨#[],clock,?_,⟨by simp,MapKept.stamped_empty clock,by simp⟩,Nat.le_refl _,rfl⟩,fun _ _=>rfl⟩,⟨es,clock,#[],clock,hb,?_⟩⟩
 ·exact (MapKept.heap_set hb).1
 ·rfl
end
end Go.Proofs.YthmmgiaobakilaaGreat
