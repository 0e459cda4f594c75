/- The document's own HasKey, withKey. -/
import Derived.Test.YtjlglfjikfpboaaThM


namespace Go.Proofs.Ytjlglfjikfpboaa.thiefs
set_option linter.unusedVariables false
set_option linter.unusedSimpArgs false
open Go.RowKit Go.Shelf Go.Lib Go.Proofs.Ytjlglfjikfpboaa.base Go.Proofs.Ytjlglfjikfpboaa.tm Go.Proofs.Ytjlglfjikfpboaa.lies Go.Proofs.Ytjlglfjikfpboaa.copies Go.Proofs.Ytjlglfjikfpboaa.reads Go.Proofs.Ytjlglfjikfpboaa.texts

/-- a number put in: done is whether it has been -/
def insI (s : Int) : List Int → Bool → List Int
  | [], d => if d then [] else [s]
  | x :: r, d => if d then x :: insI s r true else if s = x then x :: insI s r true else if s < x then s :: x :: insI s r true else x :: insI s r false
theorem insI_done (s : Int) (l : List Int) : insI s l true = l := by
  induction l with
  | nil => rfl
  | cons x r ih => simp [insI, ih]
theorem insI_len (s : Int) (l : List Int) (b : Bool) : (insI s l b).length ≤ l.length + 1 := by
  induction l generalizing b with
  | nil => cases b <;> simp [insI]
  | cons x r ih =>
    have h1 := ih false
    have h2 : (insI s r true).length = r.length := by rw [insI_done]
    cases b <;> simp only [insI]
    · simp only [Bool.false_eq_true, if_false]
      split
      · simp; omega
      · split <;> simp <;> omega
    · simp; omega
theorem insI_props (s : Int) (l : List Int) (h : Up id l) : Up id (insI s l false) ∧ ∀ x, x ∈ insI s l false ↔ x = s ∨ x ∈ l := by
  unfold Up at *
  simp only [id] at *
  induction l with
  | nil => exact ⟨by simp [insI], fun x => by simp [insI]⟩
  | cons y r ih =>
    obtain ⟨h1, h2⟩ := List.pairwise_cons.1 h
    obtain ⟨i1, i2⟩ := ih h2
    simp only [insI, insI_done, Bool.false_eq_true, if_false]
    by_cases e : s = y
    · rw [if_pos e]
      refine ⟨h, fun x => ?_⟩
      rw [e]; simp
    · rw [if_neg e]
      by_cases hl : s < y
      · rw [if_pos hl]
        refine ⟨List.pairwise_cons.2 ⟨fun a ha => ?_, h⟩, fun x => by simp⟩
        rcases List.mem_cons.1 ha with rfl | ha
        · exact hl
        · have := h1 a ha; omega
      · rw [if_neg hl]
        refine ⟨List.pairwise_cons.2 ⟨fun a ha => ?_, i1⟩, fun x => ?_⟩
        · rcases (i2 a).1 ha with rfl | ha
          · omega
          · exact h1 a ha
        · rw [List.mem_cons, i2, List.mem_cons]
          constructor
          · rintro (h | h | h) <;> simp [h]
          · rintro (h | h | h) <;> simp [h]
/-- numbers in a row of the call's own -/
abbrev Irow (w : World) (K : List Int) (v : Value) : Prop := w.ownsRow 0 36 1 v K.length (K.map (Value.int .u64))
theorem irow_new (w : World) : Irow (w.alloc (.cells #[] 36)) [] (.slice (some ⟨w.heap.size, 0, none⟩) 0 0) :=
  World.ownsRow_lit (base := 0) (e := 36) (size := 1) w #[] 0 (Nat.zero_le _) (by unfold maxLen; omega) rfl
theorem irow_ints {w : World} {K : List Int} {v : Value} (h : Irow w K v) (hl : K.length ≤ 1000000) : Ints w v K := by
  obtain ⟨A, c, e, h1, h2, h3⟩ := row_rdF h
  exact ⟨A, c, e, h1, hl, h3.rd⟩
theorem wp_int {ops : Array Oper} {rest : List Oper} {o : Oper} {a : Act} {Q : Exit → Act → World → Prop} (hgd : o.guard = none) (s x : Operand) (ho : o.op = .call { callee := .builtin .append, args := #[s, x], argTypes := #[24, 24] })
    {w : World} {K : List Int} {v : Value} (hown : Irow w K v) (hs : a.eval s = v) (n : Int) (hx : a.eval x = .slice (some ⟨w.heap.size, 0, none⟩) 1 1) (hlen : K.length ≤ 1000000)
    (h : ∀ v' w', Irow w' (K ++ [n]) v' → Keep (fun g => v.ownBlock = some g) w w' → (∀ g, v'.ownBlock = some g → v.ownBlock = some g ∨ (w.heap.size ≤ g ∧ g < w'.heap.size)) → wpList Try.prog ops Q rest (a.put o.dst v') w') :
    wpList Try.prog ops Q (o :: rest) a (w.alloc (.cells #[.int .u64 n] 36)) := by
  obtain ⟨i0, hi0, hz0, hz1, hz2⟩ := info_parts infoU
  have bA := (Below.refl w.heap.size w).alloc (Nat.le_refl _) (.cells #[.int .u64 n] 36)
  have hr := Blk.rd (xs := [Value.int .u64 n]) (t := 36) (B := w.heap.size + 1) (Blk.new w 36 #[.int .u64 n]) (by omega)
  refine wpList_bulk Try.underlying24 hi0 hz0 hz1 hz2 rfl (by decide) hgd s x ho (row_below hown bA) hs (ys := [.int .u64 n]) (m := 1) rfl hr (fun e => by cases e) (Nat.le_refl _) (fun u hu => by rw [List.mem_singleton] at hu; subst hu; rfl) hx (by omega) (by unfold maxLen; omega) fun v' w' h2 h3 h4 => h v' w' ?_ ?_ fun g hg => ?_
  · show w'.ownsRow 0 _ 1 v' (K ++ [n]).length _
    rw [List.length_append, List.map_append]
    exact h2
  · exact (Keep.of_below (S := fun g => v.ownBlock = some g) bA).trans h3 (fun g hg _ => hg)
  · rcases h4 g hg with h | h
    · exact .inl h
    · simp only [World.size_alloc] at h; exact .inr ⟨by omega, h.2⟩
/-- at the loop's head -/
def WHead (W : World) (K : List Int) (s : Int) (u d i : Value) (wr : World) : Prop :=
  ∃ (j : Nat) (out : List Int) (b : Bool), j ≤ K.length ∧ i = .int .i64 j ∧ d = .bool b ∧ out.length ≤ j + b.toNat ∧ Irow wr out u ∧ (∀ g, u.ownBlock = some g → W.heap.size ≤ g) ∧ Below W.heap.size W wr ∧ Hid (insI s K false = out ++ insI s (K.drop j) b)
theorem wk_own {w w1 w2 : World} {u v : Value} (h : ∀ g, u.ownBlock = some g → w.heap.size ≤ g) (hb : Below w.heap.size w w1) (hat : ∀ g, v.ownBlock = some g → u.ownBlock = some g ∨ (w1.heap.size ≤ g ∧ g < w2.heap.size)) : ∀ g, v.ownBlock = some g → w.heap.size ≤ g :=
  fun g hg => (hat g hg).elim (h g) fun h2 => Nat.le_trans hb.size h2.1
theorem wk_below {w w1 w2 : World} {u : Value} (h : ∀ g, u.ownBlock = some g → w.heap.size ≤ g) (hb : Below w.heap.size w w1) (hk : Keep (fun g => u.ownBlock = some g) w1 w2) : Below w.heap.size w w2 := hb.trans (hk.below h hb.size)

set_option maxRecDepth 100000 in
set_option maxHeartbeats 2000000 in
theorem hasKey_any (v : Value) (K : List Int) (x : Int) (w : World) (hT : Ints w v K) :
    Calls Try.prog 21 #[v, .int .u64 x] w fun e w' => e = .returned (.bool (decide (x ∈ K))) ∧ w' = w := by
  by_cases hx : x ∈ K
  · rw [decide_eq_true hx]
    exact hasKey_yes v K x w hT hx
  · rw [decide_eq_false hx]
    obtain ⟨A, c, rfl, hc, hlen, hT⟩ := hT
    have HX := lies.lay hx
    clear hx
    go_enter Try.func21, Try.ntmps21
    go_wp2_with fail
    go_loopw [9] (fun i wr => ∃ j : Nat, j ≤ K.length ∧ i = .int .i64 j ∧ wr = w) (fun i _ => K.length - (intOf i).toNat)
    case atStart => exact ⟨0, Nat.zero_le _, rfl, rfl⟩
    case round =>
      obtain ⟨j, hj, rfl, rfl⟩ := hrel
      by_cases hlt : j < K.length
      · obtain ⟨b, off, rfl, hb, e0⟩ := hT.at_ (k := j) (by simpa using hlt)
        simp only [List.getElem_map] at e0
        have d1 : (K[j] == x) = false := by
          have : K[j] ≠ x := fun e => HX.out (e ▸ List.getElem_mem hlt)
          simpa using this
        go_wp2_with fail
        exact ⟨⟨j + 1, hlt, by go_num, by first | rfl | trivial⟩, by simp [intOf]; omega⟩
      · go_wp2_with fail
        go_ret
        exact ⟨rfl, rfl⟩

set_option maxRecDepth 100000 in
set_option maxHeartbeats 2000000 in
theorem withKey_any (v : Value) (K : List Int) (s : Int) (w : World) (hT : Ints w v K) :
    Calls Try.prog 83 #[v, .int .u64 s] w fun e w' => ∃ v', e = .returned v' ∧ Below w.heap.size w w' ∧ Irow w' (insI s K false) v' ∧ ∀ g, v'.ownBlock = some g → w.heap.size ≤ g := by
  obtain ⟨A, c, rfl, hc, hlen, hT⟩ := hT
  have bE := (Below.refl w.heap.size w).alloc (Nat.le_refl _) (.cells #[] 36)
  go_enter Try.func83, Try.ntmps83
  go_wp2_with fail
  go_loopw [5, 6, 12] (fun u d i wr => WHead w K s u d i wr) (fun _ _ i _ => K.length - (intOf i).toNat)
  case atStart => exact ⟨0, [], false, Nat.zero_le _, rfl, rfl, by simp, irow_new w, (fun g hg => by cases hg; exact Nat.le_refl _), bE, lies.lay rfl⟩
  case round =>
    obtain ⟨j, out, b, hj, rfl, rfl, hol, hE, hown, hbw, HI⟩ := hrel
    by_cases hlt : j < K.length
    · obtain ⟨bk, off, rfl, hbk, e0⟩ := (hT.below hbw).at_ (k := j) (by simpa using hlt)
      simp only [List.getElem_map] at e0
      have hdr : K.drop j = K[j] :: K.drop (j + 1) := List.drop_eq_getElem_cons hlt
      rw [hdr] at HI
      clear hdr
      cases b with
      | true =>
        simp only [Bool.toNat_true] at hol
        have HJ := lies.lay (show insI s K false = (out ++ [K[j]]) ++ insI s (K.drop (j + 1)) true by rw [HI.out]; simp [insI])
        clear HI
        generalize K[j] = x at *
        go_wp2_with (at_builtin; refine wp_int rfl _ _ rfl hE rfl (x) rfl (by first | omega | (simp; omega)) ?_; intro v1 w1 ho1 hk1 hat1)
        have hw1 := wk_own hown hbw hat1
        have hb1 := wk_below hown hbw hk1
        go_wp2_with fail
        exact ⟨⟨j + 1, _, true, hlt, by go_num, rfl, by simp; omega, ho1, hw1, hb1, HJ⟩, by simp [intOf]; omega⟩
      | false =>
        simp only [Bool.toNat_false] at hol
        by_cases heq : s = K[j]
        · have e1 : decide (s ≤ K[j]) = true := decide_eq_true (by omega)
          have e2 : decide (s < K[j]) = false := decide_eq_false (by omega)
          have HJ := lies.lay (show insI s K false = (out ++ [K[j]]) ++ insI s (K.drop (j + 1)) true by rw [HI.out]; simp [insI, heq])
          clear HI heq
          generalize K[j] = x at *
          go_wp2_with (at_builtin; refine wp_int rfl _ _ rfl hE rfl (x) rfl (by first | omega | (simp; omega)) ?_; intro v1 w1 ho1 hk1 hat1)
          have hw1 := wk_own hown hbw hat1
          have hb1 := wk_below hown hbw hk1
          go_wp2_with fail
          exact ⟨⟨j + 1, _, true, hlt, by go_num, rfl, by simp; omega, ho1, hw1, hb1, HJ⟩, by simp [intOf]; omega⟩
        · by_cases hls : s < K[j]
          · have e1 : decide (s ≤ K[j]) = true := decide_eq_true (by omega)
            have e2 : decide (s < K[j]) = true := decide_eq_true hls
            have HJ := lies.lay (show insI s K false = (out ++ [s] ++ [K[j]]) ++ insI s (K.drop (j + 1)) true by rw [HI.out]; simp [insI, heq, hls])
            clear HI heq hls
            generalize K[j] = x at *
            go_wp2_with (at_builtin; refine wp_int rfl _ _ rfl hE rfl (s) rfl (by omega) ?next)
            case next =>
              intro v1 w1 ho1 hk1 hat1
              have hw1 := wk_own hown hbw hat1
              have hb1 := wk_below hown hbw hk1
              go_wp2_with (at_builtin; refine wp_int rfl _ _ rfl ho1 rfl (x) rfl (by first | omega | (simp; omega)) ?_; intro v2 w2 ho2 hk2 hat2)
              have hw2 := wk_own hw1 hb1 hat2
              have hb2 := wk_below hw1 hb1 hk2
              go_wp2_with fail
              exact ⟨⟨j + 1, _, true, hlt, by go_num, rfl, by simp; omega, ho2, hw2, hb2, HJ⟩, by simp [intOf]; omega⟩
          · have e1 : decide (s ≤ K[j]) = false := decide_eq_false (by omega)
            have HJ := lies.lay (show insI s K false = (out ++ [K[j]]) ++ insI s (K.drop (j + 1)) false by rw [HI.out]; simp [insI, heq, hls])
            clear HI heq hls
            generalize K[j] = x at *
            go_wp2_with (at_builtin; refine wp_int rfl _ _ rfl hE rfl (x) rfl (by first | omega | (simp; omega)) ?_; intro v1 w1 ho1 hk1 hat1)
            have hw1 := wk_own hown hbw hat1
            have hb1 := wk_below hown hbw hk1
            go_wp2_with fail
            exact ⟨⟨j + 1, _, false, hlt, by go_num, rfl, by simp; omega, ho1, hw1, hb1, HJ⟩, by simp [intOf]; omega⟩
    · rw [List.drop_of_length_le (by omega)] at HI
      cases b with
      | true =>
        have HJ := lies.lay (show insI s K false = out by rw [HI.out]; simp [insI])
        clear HI
        go_wp2_with fail
        go_ret
        exact ⟨_, rfl, hbw, (by rw [HJ.out]; exact hE), hown⟩
      | false =>
        simp only [Bool.toNat_false] at hol
        have HJ := lies.lay (show insI s K false = out ++ [s] by rw [HI.out]; simp [insI])
        clear HI
        go_wp2_with (at_builtin; refine wp_int rfl _ _ rfl hE rfl (s) rfl (by first | omega | (simp; omega)) ?_; intro v1 w1 ho1 hk1 hat1)
        have hw1 := wk_own hown hbw hat1
        have hb1 := wk_below hown hbw hk1
        go_wp2_with fail
        go_ret
        exact ⟨_, rfl, hb1, (by rw [HJ.out]; exact ho1), hw1⟩

end Go.Proofs.Ytjlglfjikfpboaa.thiefs
