/- What reading comes to, against the document's own rule, in plain lists. Nothing of the program. -/
import Derived.Test.YthmmgiaobakilaaCodec
set_option maxRecDepth 100000
namespace Go.Proofs.Ythmmgiaobakilaa

/-- The document's rule behind the sides: n texels each, then the length, then the source. -/
def tE (n : Nat) (M : List Int) : Int :=
  if M.length < 2 + 2 * n then 1
  else if 300 < M.getD (2 * n) 0 * 256 + M.getD (2 * n + 1) 0 then 7
  else if ((M.length - 2 - 2 * n : Nat) : Int) < M.getD (2 * n) 0 * 256 + M.getD (2 * n + 1) 0 then 1
  else if M.getD (2 * n) 0 * 256 + M.getD (2 * n + 1) 0 < ((M.length - 2 - 2 * n : Nat) : Int) then 5
  else 0

/-- The document's rule. -/
def dE (L : List Int) : Int :=
  match L with
  | [] => 1
  | a :: L1 => if a = 85 then (match L1 with
    | [] => 1
    | x :: L2 => if sideB x then (match L2 with
      | [] => 1
      | y :: M => if sideB y then tE (x * y).toNat M else 3) else 3) else 2

theorem rt_bad (n : Nat) (L : List Int) (f : Int) (h : f ≠ 0) : rtL n L f = L ∧ rtF n L f = f := by
  induction n with
  | zero => exact ⟨rfl, rfl⟩
  | succ n ih => rw [rtL_succ, rtF_succ, ih.1, ih.2]; simp [rbL, rbF, h]

theorem rt_good (n : Nat) (L : List Int) (h : n ≤ L.length) : rtV n L 0 = L.take n ∧ rtL n L 0 = L.drop n ∧ rtF n L 0 = 0 := by
  induction n with
  | zero => exact ⟨by simp [rtV_zero], by simp [rtL_zero], rfl⟩
  | succ n ih =>
    obtain ⟨a, b, c⟩ := ih (by omega)
    have hd : L.drop n ≠ [] := by intro e; have := congrArg List.length e; simp at this; omega
    refine ⟨?_, ?_, ?_⟩
    · rw [rtV_succ, a, b, c, List.take_succ_eq_append_getElem (by omega)]
      congr 1
      simp only [rbV, if_true]
      rw [List.headD_eq_head?_getD, List.head?_drop, List.getElem?_eq_getElem (by omega)]
      rfl
    · rw [rtL_succ, b, c]
      simp [rbL]
    · rw [rtF_succ, b, c]
      simp only [rbF, if_true, if_neg hd]

theorem rt_short (n : Nat) (L : List Int) (h : L.length < n) : rtF n L 0 = 1 := by
  induction n with
  | zero => omega
  | succ n ih =>
    by_cases hl : L.length < n
    · rw [rtF_succ, ih hl]; rfl
    · have hn : n = L.length := by omega
      obtain ⟨a, b, c⟩ := rt_good n L (by omega)
      rw [rtF_succ, b, c, hn, List.drop_length]
      rfl

theorem sc_stop (L : List Int) (f : Int) (h : f ≠ 0) : scF L f = f := by
  have e1 : rbF L f = f := by simp [rbF, h]
  have e2 : rbL L f = L := by simp [rbL, h]
  have e3 : scN L f = 0 := by simp [scN, rbV, e1, h]
  have e4 : scF2 L f = f := by simp [scF2, e1, e2]
  have h1 : ¬ 300 < scN L f := by rw [e3]; decide
  have h2 : ¬ ((scL L f).length : Int) < scN L f := by rw [e3]; omega
  rw [scF, if_neg h2, scF3, if_neg h1, e4]
theorem end_stop (L : List Int) (f : Int) (h : f ≠ 0) : endF L f = f := by
  unfold endF failF
  split <;> simp_all

theorem stop3 (L : List Int) (h : rdF3 L ≠ 0) : rdE L = rdF3 L := by
  have a : rdF4 L = rdF3 L := (rt_bad _ _ _ h).2
  have b : rdF5 L = rdF3 L := by rw [rdF5, a]; exact (rt_bad _ _ _ h).2
  have c : rdF6 L = rdF3 L := by rw [rdF6, b]; exact sc_stop _ _ h
  rw [rdE, c]
  exact end_stop _ _ h
theorem side_stop (L : List Int) (f : Int) (h : f ≠ 0) : sideF L f = f := by
  have e1 : rbV L f = 0 := by simp [rbV, h]
  have e2 : rbF L f = f := by simp [rbF, h]
  simp [sideF, e1, e2, sideB, failF, h]
theorem stop2 (L : List Int) (h : rdF2 L ≠ 0) : rdE L = rdF2 L := by
  have a : rdF3 L = rdF2 L := side_stop _ _ h
  rw [stop3 L (by rw [a]; exact h), a]
theorem stop1 (L : List Int) (h : rdF1 L ≠ 0) : rdE L = rdF1 L := by
  have a : rdF2 L = rdF1 L := side_stop _ _ h
  rw [stop2 L (by rw [a]; exact h), a]

/-- Behind the length's two bytes. -/
theorem sc_two (a c : Int) (K : List Int) : scN (a :: c :: K) 0 = a * 256 + c ∧ scL (a :: c :: K) 0 = K ∧ scF2 (a :: c :: K) 0 = 0 := by
  refine ⟨?_, ?_, ?_⟩ <;> simp [scN, scL, scF2, rbV, rbL, rbF]
theorem sc_less (K : List Int) (h : K.length < 2) : scF K 0 = 1 := by
  match K, h with
  | [], _ => simp [scF, scF3, scF2, scN, scL, rbV, rbL, rbF]
  | [a], _ =>
    have e : scF2 [a] 0 = 1 := by simp [scF2, rbL, rbF]
    have e3 : scF3 [a] 0 = 1 := by unfold scF3; split <;> simp [e, failF]
    unfold scF
    split <;> simp [e3, failF]

/-- The tail of a reading: from the texels on. -/
theorem tail_of (n : Nat) (M : List Int) (hb : Bytes01 M) :
    endF (scR (rtL n (rtL n M 0) (rtF n M 0)) (rtF n (rtL n M 0) (rtF n M 0))) (scF (rtL n (rtL n M 0) (rtF n M 0)) (rtF n (rtL n M 0) (rtF n M 0))) = tE n M ∧
    (tE n M = 0 → rtV n M 0 = M.take n ∧ rtV n (rtL n M 0) (rtF n M 0) = (M.drop n).take n ∧ scS (rtL n (rtL n M 0) (rtF n M 0)) (rtF n (rtL n M 0) (rtF n M 0)) = M.drop (2 + 2 * n)) := by
  by_cases h1 : M.length < n
  · have e1 : rtF n M 0 = 1 := rt_short n M h1
    have e2 := rt_bad n (rtL n M 0) 1 (by decide)
    rw [e1, e2.2, sc_stop _ 1 (by decide), end_stop _ 1 (by decide)]
    have : tE n M = 1 := by rw [tE, if_pos (by omega)]
    exact ⟨this.symm, fun h => by rw [this] at h; cases h⟩
  · obtain ⟨a1, a2, a3⟩ := rt_good n M (by omega)
    rw [a2, a3]
    by_cases h2 : M.length < 2 * n
    · have e1 : rtF n (M.drop n) 0 = 1 := rt_short n _ (by rw [List.length_drop]; omega)
      rw [e1, sc_stop _ 1 (by decide), end_stop _ 1 (by decide)]
      have : tE n M = 1 := by rw [tE, if_pos (by omega)]
      exact ⟨this.symm, fun h => by rw [this] at h; cases h⟩
    · obtain ⟨b1, b2, b3⟩ := rt_good n (M.drop n) (by rw [List.length_drop]; omega)
      rw [b2, b3, List.drop_drop, ← Nat.two_mul]
      by_cases h3 : M.length < 2 + 2 * n
      · rw [sc_less _ (by rw [List.length_drop]; omega), end_stop _ 1 (by decide)]
        have : tE n M = 1 := by rw [tE, if_pos h3]
        exact ⟨this.symm, fun h => by rw [this] at h; cases h⟩
      · obtain ⟨x, c, K, hK⟩ : ∃ x c K, M.drop (2 * n) = x :: c :: K := by
          match hM : M.drop (2 * n) with
          | [] => have := congrArg List.length hM; simp at this; omega
          | [x] => have := congrArg List.length hM; simp at this; omega
          | x :: c :: K => exact ⟨x, c, K, rfl⟩
        have g0 : M.getD (2 * n) 0 = x := by
          have := congrArg (fun l => l[0]?) hK
          simp only [List.getElem?_drop, Nat.add_zero, List.getElem?_cons_zero] at this
          simp [List.getD, this]
        have g1 : M.getD (2 * n + 1) 0 = c := by
          have := congrArg (fun l => l[1]?) hK
          simp only [List.getElem?_drop, List.getElem?_cons_succ, List.getElem?_cons_zero] at this
          simp [List.getD, this]
        have hKl : K.length = M.length - 2 - 2 * n := by have := congrArg List.length hK; simp at this; omega
        have hKd : K = M.drop (2 + 2 * n) := by
          have := congrArg (fun l => l.drop 2) hK
          simp only [List.drop_drop] at this
          rw [Nat.add_comm 2 (2 * n), this]; rfl
        have hx0 : 0 ≤ x ∧ x ≤ 255 := hb x (List.mem_of_mem_drop (by rw [hK]; exact List.mem_cons_self))
        have hc0 : 0 ≤ c ∧ c ≤ 255 := hb c (List.mem_of_mem_drop (by rw [hK]; exact List.mem_cons_of_mem _ List.mem_cons_self))
        obtain ⟨s1, s2, s3⟩ := sc_two x c K
        have hT : tE n M = if 300 < x * 256 + c then 7 else if (K.length : Int) < x * 256 + c then 1 else if x * 256 + c < (K.length : Int) then 5 else 0 := by
          rw [tE, if_neg h3, g0, g1, hKl]
        rw [hK, hT]
        by_cases h4 : 300 < x * 256 + c
        · have hF : scF (x :: c :: K) 0 = 7 := by
            by_cases h5 : ((scL (x :: c :: K) 0).length : Int) < scN (x :: c :: K) 0
            · rw [(sc_long (by rw [s1]; exact h4) h5).1, s3]; rfl
            · rw [(sc_long2 (by rw [s1]; exact h4) h5).1, s3]; rfl
          rw [hF, end_stop _ 7 (by decide), if_pos h4]
          exact ⟨rfl, fun h => by cases h⟩
        · rw [if_neg h4]
          by_cases h5 : (K.length : Int) < x * 256 + c
          · have hF : scF (x :: c :: K) 0 = 1 := by rw [(sc_short (by rw [s1]; exact h4) (by rw [s1, s2]; exact h5)).1, s3]; rfl
            rw [hF, end_stop _ 1 (by decide), if_pos h5]
            exact ⟨rfl, fun h => by cases h⟩
          · obtain ⟨t1, t2, t3⟩ := sc_good (by rw [s1]; exact h4) (by rw [s1, s2]; exact h5) s3
            rw [t1, t3, t2, s1, s2, if_neg h5]
            by_cases h6 : x * 256 + c < (K.length : Int)
            · rw [if_pos h6]
              have hne : K.drop (x * 256 + c).toNat ≠ [] := by intro e; have := congrArg List.length e; simp at this; omega
              exact ⟨by simp [endF, hne, failF], fun h => by cases h⟩
            · rw [if_neg h6]
              have he : K.drop (x * 256 + c).toNat = [] := List.drop_eq_nil_of_le (by omega)
              refine ⟨by simp [endF, he], fun _ => ⟨a1, b1, ?_⟩⟩
              rw [List.take_of_length_le (by omega), hKd]

/-- THE READING KEEPS THE DOCUMENT's RULE. -/
theorem rdE_eq (L : List Int) (hb : Bytes01 L) : rdE L = dE L := by
  match L with
  | [] => rw [stop1 [] (by decide)]; rfl
  | a :: L1 =>
    by_cases ha : a = 85
    · subst ha
      have f1 : rdF1 (85 :: L1) = 0 := by simp [rdF1, markF, rbV, rbF]
      have l1 : rdL1 (85 :: L1) = L1 := by simp [rdL1, rbL]
      match L1 with
      | [] =>
        have f2 : rdF2 [85] = 1 := by rw [rdF2, f1, l1]; decide
        rw [stop2 _ (by rw [f2]; decide), f2]; rfl
      | x :: L2 =>
        by_cases hx : sideB x = true
        · have f2 : rdF2 (85 :: x :: L2) = 0 := by rw [rdF2, f1, l1]; simp [sideF, rbV, rbF, hx]
          have l2 : rdL2 (85 :: x :: L2) = L2 := by rw [rdL2, f1, l1]; simp [rbL]
          have w1 : rdW (85 :: x :: L2) = x := by rw [rdW, f1, l1]; simp [sideV, rbV, hx]
          match L2 with
          | [] =>
            have f3 : rdF3 [85, x] = 1 := by rw [rdF3, f2, l2]; decide
            rw [stop3 _ (by rw [f3]; decide), f3]; simp [dE, hx]
          | y :: M =>
            by_cases hy : sideB y = true
            · have f3 : rdF3 (85 :: x :: y :: M) = 0 := by rw [rdF3, f2, l2]; simp [sideF, rbV, rbF, hy]
              have l3 : rdL3 (85 :: x :: y :: M) = M := by rw [rdL3, f2, l2]; simp [rbL]
              have h1 : rdH (85 :: x :: y :: M) = y := by rw [rdH, f2, l2]; simp [sideV, rbV, hy]
              have hbM : Bytes01 M := fun z hz => hb z (by simp [hz])
              have ht := (tail_of (rdN (85 :: x :: y :: M)) M hbM).1
              rw [rdE, rdL6, rdF6, rdL5, rdF5, rdL4, rdF4, l3, f3, ht, rdN, w1, h1]
              simp [dE, hx, hy]
            · have f3 : rdF3 (85 :: x :: y :: M) = 3 := by rw [rdF3, f2, l2]; simp [sideF, rbV, rbF, hy, failF]
              rw [stop3 _ (by rw [f3]; decide), f3]; simp [dE, hx, hy]
        · have f2 : rdF2 (85 :: x :: L2) = 3 := by rw [rdF2, f1, l1]; simp [sideF, rbV, rbF, hx, failF]
          rw [stop2 _ (by rw [f2]; decide), f2]; simp [dE, hx]
    · have f1 : rdF1 (a :: L1) = 2 := by simp [rdF1, markF, rbV, rbF, ha, failF]
      rw [stop1 _ (by rw [f1]; decide), f1]; simp [dE, ha]

theorem dE_zero {L : List Int} (h : dE L = 0) : ∃ x y M, L = 85 :: x :: y :: M ∧ sideB x = true ∧ sideB y = true ∧ tE (x * y).toNat M = 0 := by
  match L with
  | [] => simp [dE] at h
  | [a] => simp only [dE] at h; split at h <;> cases h
  | [a, x] =>
    simp only [dE] at h
    split at h
    · split at h <;> cases h
    · cases h
  | a :: x :: y :: M =>
    simp only [dE] at h
    split at h
    · rename_i h1
      split at h
      · rename_i h2
        split at h
        · rename_i h3
          exact ⟨x, y, M, by rw [h1], h2, h3, h⟩
        · cases h
      · cases h
    · cases h

/-- What was read, where there is no error. -/
theorem rd_good {x y : Int} {M : List Int} (hb : Bytes01 (85 :: x :: y :: M)) (hx : sideB x = true) (hy : sideB y = true) (ht : tE (x * y).toNat M = 0) :
    rdW (85 :: x :: y :: M) = x ∧ rdH (85 :: x :: y :: M) = y ∧ rdN (85 :: x :: y :: M) = (x * y).toNat ∧ rdX (85 :: x :: y :: M) = M.take (x * y).toNat ∧ rdY (85 :: x :: y :: M) = (M.drop (x * y).toNat).take (x * y).toNat ∧ rdS (85 :: x :: y :: M) = M.drop (2 + 2 * (x * y).toNat) := by
  have f1 : rdF1 (85 :: x :: y :: M) = 0 := by simp [rdF1, markF, rbV, rbF]
  have l1 : rdL1 (85 :: x :: y :: M) = x :: y :: M := by simp [rdL1, rbL]
  have f2 : rdF2 (85 :: x :: y :: M) = 0 := by rw [rdF2, f1, l1]; simp [sideF, rbV, rbF, hx]
  have l2 : rdL2 (85 :: x :: y :: M) = y :: M := by rw [rdL2, f1, l1]; simp [rbL]
  have w1 : rdW (85 :: x :: y :: M) = x := by rw [rdW, f1, l1]; simp [sideV, rbV, hx]
  have f3 : rdF3 (85 :: x :: y :: M) = 0 := by rw [rdF3, f2, l2]; simp [sideF, rbV, rbF, hy]
  have l3 : rdL3 (85 :: x :: y :: M) = M := by rw [rdL3, f2, l2]; simp [rbL]
  have h1 : rdH (85 :: x :: y :: M) = y := by rw [rdH, f2, l2]; simp [sideV, rbV, hy]
  have n1 : rdN (85 :: x :: y :: M) = (x * y).toNat := by rw [rdN, w1, h1]
  have hbM : Bytes01 M := fun z hz => hb z (by simp [hz])
  obtain ⟨c1, c2, c3⟩ := (tail_of (x * y).toNat M hbM).2 ht
  refine ⟨w1, h1, n1, ?_, ?_, ?_⟩
  · rw [rdX, l3, f3, n1]; exact c1
  · rw [rdY, rdL4, rdF4, l3, f3, n1]; exact c2
  · rw [rdS, rdL5, rdF5, rdL4, rdF4, l3, f3, n1]; exact c3

end Go.Proofs.Ythmmgiaobakilaa
