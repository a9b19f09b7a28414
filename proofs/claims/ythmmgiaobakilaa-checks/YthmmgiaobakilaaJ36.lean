import Derived.Test.YthmmgiaobakilaaJ24
import Derived.Test.YthmmgiaobakilaaJ35
import Derived.Deep.LoopGhost
/- Is one of the operands hidden? IndexFunc, ContainsFunc over the project's isHidden. -/
set_option maxRecDepth 100000
namespace Go.Proofs.Ythmmgiaobakilaa
open Go.RowKit Go.Deep

def HidOK (m : Nat) : Prop := ∀ (e : Ex) (w : World) (cb hc : Nat) (ho : Option Addr) (H : List ByteArray) (F : Flt) (Q : Nat → Prop) (v : Value), szE e ≤ m → FcAt w cb ho hc H F → RepV w Q v e →
  Calls Try.prog 131 #[.pointer (some ⟨cb, 0, none⟩), v] w fun r w' => r = .returned (.bool (hid1 H e)) ∧ Below w.heap.size w w'
set_option maxHeartbeats 8000000 in
theorem fidx_any {m : Nat} (ih : HidOK m) (k : Ex) (w : World) (cb hc c : Nat) (ho ao : Option Addr) (H : List ByteArray) (F : Flt) (Q : Nat → Prop) (hsz : szE k ≤ m) (hm : m ≤ 100000) (h : FcAt w cb ho hc H F) (rep : RepFa w Q k ao 0) :
    Calls Try.prog 149 #[.slice ao (lenE k) c, .func (.func 131) #[.pointer (some ⟨cb, 0, none⟩)] #[]] w fun r w' => (∃ i : Int, r = .returned (.int .i64 i) ∧ decide (0 ≤ i) = hidE H k) ∧ Below w.heap.size w w' := by
  have hlen : lenE k ≤ 100000 := by have := lenE_le k; omega
  go_enter Try.func149, Try.ntmps149
  go_wp2
  go_loopg [8] (lenE k) (fun q v wr => ∃ rest, v = .int .i64 ((lenE k - q : Nat) : Int) ∧ q ≤ lenE k ∧ lenE rest = q ∧ szE rest ≤ szE k ∧ FcAt wr cb ho hc H F ∧ Below w.heap.size w wr ∧ hidE H rest = hidE H k ∧ RepFa wr Q rest ao (lenE k - q))
  case atStart => exact ⟨k, by rw [Nat.sub_self]; rfl, Nat.le_refl _, rfl, Nat.le_refl _, h, Below.refl _ _, rfl, by rw [Nat.sub_self]; exact rep⟩
  case round =>
  clear h rep
  obtain ⟨rest, rfl, hq, hlr, hsr, hfc, kw, hfold, hrep⟩ := hrel
  cases rest with
  | nil =>
    have hq0 : gk = 0 := by rw [← hlr]; rfl
    subst hq0
    have hge : decide (((lenE k - 0 : Nat) : Int) < (lenE k : Int)) = false := by simp
    have HF := hide hfold
    clear hfold
    go_wp2
    go_ret
    exact ⟨⟨-1, rfl, by rw [← unhide HF]; simp [hidE]⟩, kw⟩
  | node b1 o1 t1 k1 r1 =>
    have hl1 : lenE r1 + 1 = gk := hlr
    obtain ⟨d, hd⟩ : ∃ d, d + gk = lenE k := ⟨lenE k - gk, by omega⟩
    have hnd : lenE k - gk = d := by omega
    rw [hnd] at hrep ⊢
    have hlt : decide ((d : Int) < (lenE k : Int)) = true := by simp; omega
    rcases hrep with hn | ⟨g, rfl, hg, hrf⟩
    · cases hn
    obtain ⟨⟨sv1, hcells, hkids⟩, hrest⟩ := hrf
    obtain ⟨x0, x1, x2, x3, x4, x5⟩ := hcells
    have hv1 : RepV wr Q (exV t1 sv1) (.node b1 o1 t1 k1 r1) := ⟨b1, o1, t1, k1, r1, sv1, rfl, rfl, hkids⟩
    obtain ⟨so1, sc1, hsv1⟩ := RepK.form hkids
    subst hsv1
    have hsz1 : szE (.node b1 o1 t1 k1 r1) ≤ m := by omega
    have hgw : g < wr.heap.size := World.block_lt_of_cell? _ _ x0
    have HF := hide hfold
    clear hkids hfold
    go_wp2_with fail
    refine (ih (.node b1 o1 t1 k1 r1) wr cb hc ho H F Q (exV t1 (.slice so1 (lenE k1) sc1)) hsz1 hfc hv1).mono ?_
    rintro e w3 ⟨rfl, B3⟩
    have K3 := kw.trans (B3.mono kw.size)
    have f3 := hfc.below B3
    have hr3 : RepFa w3 Q r1 (some ⟨g, 0, none⟩) (d + 1) := .inr ⟨g, rfl, hg, RepF.later (fun j hj hl => B3.block j hl) (fun j hj _ => hj) r1 g (d + 1) hg hrest⟩
    clear hv1 hrest B3 hfc kw
    cases hh : hid1 H (.node b1 o1 t1 k1 r1)
    · go_wp2
      go_roundg (lenE r1)
      case rel =>
        refine ⟨r1, by congr 1; omega, by omega, rfl, by simp [szE] at hsr; omega, f3, K3, ?_, by rw [show lenE k - lenE r1 = d + 1 by omega]; exact hr3⟩
        have := unhide HF
        have hh : (hidH H t1 || hidE H k1) = false := hh
        have this : ((hidH H t1 || hidE H k1) || hidE H r1) = hidE H k := this
        rw [hh, Bool.false_or] at this
        exact this
      case measure => omega
    · have hk : hidE H k = true := by
        have := unhide HF
        have hh : (hidH H t1 || hidE H k1) = true := hh
        have this : ((hidH H t1 || hidE H k1) || hidE H r1) = hidE H k := this
        rw [hh, Bool.true_or] at this
        exact this.symm
      go_wp2
      go_ret
      exact ⟨⟨(d : Int), rfl, by rw [hk]; simp⟩, K3⟩
set_option maxHeartbeats 4000000 in
theorem fcont_any {m : Nat} (ih : HidOK m) (k : Ex) (w : World) (cb hc c : Nat) (ho ao : Option Addr) (H : List ByteArray) (F : Flt) (Q : Nat → Prop) (hsz : szE k ≤ m) (hm : m ≤ 100000) (h : FcAt w cb ho hc H F) (rep : RepFa w Q k ao 0) :
    Calls Try.prog 142 #[.slice ao (lenE k) c, .func (.func 131) #[.pointer (some ⟨cb, 0, none⟩)] #[]] w fun r w' => r = .returned (.bool (hidE H k)) ∧ Below w.heap.size w w' := by
  go_enter Try.func142, Try.ntmps142
  go_wp2_with fail
  refine (fidx_any ih k w cb hc c ho ao H F Q hsz hm h rep).mono ?_
  rintro e w1 ⟨⟨n, rfl, hn⟩, hb⟩
  have HN := hide hn
  clear hn
  go_wp2
  go_ret
  exact ⟨ret_bool (unhide HN), hb⟩

end Go.Proofs.Ythmmgiaobakilaa
