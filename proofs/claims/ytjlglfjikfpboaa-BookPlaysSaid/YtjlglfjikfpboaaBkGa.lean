/- The walk of BookGone. -/
import Derived.Test.YtjlglfjikfpboaaBkV


namespace Go.Proofs.Ytjlglfjikfpboaa.books
set_option linter.unusedVariables false
set_option linter.unusedSimpArgs false
open Go.RowKit Go.Shelf Go.Proofs.Ytjlglfjikfpboaa.base Go.Proofs.Ytjlglfjikfpboaa.quotas Go.Proofs.Ytjlglfjikfpboaa.vers Go.Proofs.Ytjlglfjikfpboaa.nodes Go.Proofs.Ytjlglfjikfpboaa.trees Go.Proofs.Ytjlglfjikfpboaa.texts

def InHead (ts : List (List UInt8)) (s : List UInt8) (w : World) (i : Value) (wr : World) : Prop :=
  ∃ j : Nat, j ≤ ts.length ∧ i = .int .i64 j ∧ wr = w ∧ Hid (∀ k (h : k < ts.length), k < j → ts[k] ≠ s)
set_option maxRecDepth 100000 in
theorem in_ok (v : Value) (lo : Nat) (ts : List (List UInt8)) (s : ByteArray) (w : World) (hT : Txt w lo v ts) (bb : Bool) (hbb : decide (bn s ∈ ts) = bb) :
    Calls Try.prog 19 #[v, .string s] w fun e w' => e = .returned (.bool bb) ∧ w = w' := by
  obtain ⟨A, c, rfl, hlen, hT⟩ := hT
  have hbs : bn s = s.toList := (Lib.toList_data s).symm
  rw [hbs] at hbb
  have HBB := vers.lay hbb
  clear hbb hbs
  go_enter Try.func19, Try.ntmps19
  go_wp2_with fail
  go_loopw [9] (fun i wr => InHead ts s.toList w i wr) (fun i _ => ts.length - (intOf i).toNat)
  case atStart => exact ⟨0, Nat.zero_le _, rfl, rfl, vers.lay (fun k _ h => absurd h (Nat.not_lt_zero _))⟩
  case round =>
    obtain ⟨j, hj, rfl, rfl, HJ⟩ := hrel
    by_cases hlt : j < ts.length
    · obtain ⟨g, rfl, hlo, hg, hcell⟩ := hT j hlt
      by_cases he : ts[j] = s.toList
      · have d1 : (ts[j] == s.toList) = true := by simpa using he
        have HM := vers.lay (show bb = true by rw [← HBB.out, ← he]; simp)
        clear he
        go_wp2_with fail
        go_ret
        exact ⟨by rw [HM.out]; rfl, rfl⟩
      · have d1 : (ts[j] == s.toList) = false := by simpa using he
        have HE := vers.lay he
        clear he
        go_wp2_with fail
        exact ⟨⟨j + 1, hlt, by go_num, rfl, vers.lay (fun k hk hkj => by
          by_cases hkk : k = j
          · subst hkk; exact HE.out
          · exact HJ.out k hk (by omega))⟩, by simp [intOf]; omega⟩
    · have HM := vers.lay (show bb = false by
        rw [← HBB.out, decide_eq_false_iff_not]
        intro hm
        obtain ⟨k, hk, e⟩ := List.getElem_of_mem hm
        exact HJ.out k hk (by omega) e)
      go_wp2_with fail
      go_ret
      exact ⟨by rw [HM.out]; rfl, rfl⟩
theorem goneP_mem {b : Bk} {x : List UInt8} : x ∈ goneP b ↔ x ∈ b.P ∧ ¬ x ∈ fin (allP b.L) := by unfold goneP; rw [List.mem_filter]; simp
theorem goneP_up {b : Bk} (h : b.P.Pairwise (· < ·)) : (goneP b).Pairwise (· < ·) := h.sublist List.filter_sublist
/-- the values that calls put -/
def pv (ops : List O) : List ByteArray := (ops.filter fun o => decide (o.k ≠ 3)).map (·.v)
theorem pv_yes {ops : List O} {k : Nat} (hk : k < ops.length) (h : ops[k].k ≠ 3) : pv (ops.take (k + 1)) = pv (ops.take k) ++ [ops[k].v] := by
  unfold pv
  rw [List.take_succ_eq_append_getElem hk, List.filter_append, List.map_append]
  simp [h]
theorem pv_no {ops : List O} {k : Nat} (hk : k < ops.length) (h : ops[k].k = 3) : pv (ops.take (k + 1)) = pv (ops.take k) := by
  unfold pv
  rw [List.take_succ_eq_append_getElem hk, List.filter_append, List.map_append]
  simp [h]
theorem pv_len (ops : List O) : (pv ops).length ≤ ops.length := by unfold pv; rw [List.length_map]; exact List.length_filter_le _ _
theorem wereP_mem : ∀ (ops : List O) (P : List (List UInt8)), P.Pairwise (· < ·) → ∀ x, x ∈ wereP P ops ↔ x ∈ P ∨ x ∈ brs (pv ops)
  | [], P, _, x => by simp [wereP, pv, brs]
  | o :: r, P, h, x => by
    have e : wereP P (o :: r) = wereP (wereP P [o]) r := rfl
    have e2 : brs (pv (o :: r)) = (if o.k ≠ 3 then [bn o.v] else []) ++ brs (pv r) := by
      unfold pv brs
      by_cases h3 : o.k = 3 <;> simp [h3, bn]
    rw [e, wereP_mem r _ (wereP_up [o] P h), wereP_one, e2]
    by_cases h3 : o.k ≠ 3
    · rw [if_pos h3, if_pos h3, (insD_props _ P h).2]
      simp only [List.mem_append, List.mem_singleton]
      constructor
      · rintro ((h | h) | h)
        · exact .inr (.inl h)
        · exact .inl h
        · exact .inr (.inr h)
      · rintro (h | h | h)
        · exact .inl (.inr h)
        · exact .inl (.inl h)
        · exact .inr h
    · rw [if_neg h3, if_neg h3]
      simp
/-- where a loop stands: the book, and a row of its own of what was put, apart from the book -/
def GnAt (W : World) (q : Qt) (bp mp : Nat) (b : Bk) (ps : List ByteArray) (u : Value) (wr : World) : Prop := Below W.heap.size W wr ∧ ∃ Z : Nat → Prop, W.heap.size ≤ bp ∧ W.heap.size ≤ mp ∧ BAt wr q bp mp Z b ∧ (∀ g, Z g → W.heap.size ≤ g) ∧ wr.ownsRow 0 9 1 u ps.length (sts ps) ∧ ∀ g, u.ownBlock = some g → W.heap.size ≤ g ∧ g ≠ bp ∧ g ≠ mp ∧ ¬ Z g
section
variable {W : World} {q : Qt} {bp mp : Nat} {b : Bk} {ps : List ByteArray} {u : Value} {wr w' : World} {n : Nat}
theorem GnAt.md (h : GnAt W q bp mp b ps u wr) : MdHead W q bp mp b wr := by
  obtain ⟨h1, Z, h2, h3, h4, h5, _⟩ := h
  exact ⟨h1, Z, h2, h3, h4, h5⟩
theorem GnAt.of (h : MdHead W q bp mp b wr) : GnAt W q bp mp b [] (.slice none 0 0) wr := by
  obtain ⟨h1, Z, h2, h3, h4, h5⟩ := h
  exact ⟨h1, Z, h2, h3, h4, h5, ⟨rfl, .inl ⟨rfl, rfl⟩⟩, fun g h => by cases h⟩
theorem GnAt.row (h : GnAt W q bp mp b ps u wr) : wr.ownsRow 0 9 1 u ps.length (sts ps) := by
  obtain ⟨h1, Z, h2, h3, h4, h5, h6, h7⟩ := h
  exact h6
theorem GnAt.below (h : GnAt W q bp mp b ps u wr) (hb : Below wr.heap.size wr w') : GnAt W q bp mp b ps u w' := by
  obtain ⟨h1, Z, h2, h3, h4, h5, h6, h7⟩ := h
  exact ⟨h1.trans (hb.mono h1.size), Z, h2, h3, h4.below hb, h5, row_below h6 hb, h7⟩
theorem GnAt.txt (h : GnAt W q bp mp b ps u wr) (hl : ps.length ≤ 140737488355328) : Txt wr 0 u (brs ps) := by
  refine own_txt ?_ (by rw [brs_len]; exact hl)
  rw [brs_len, ← sts_brs]
  exact h.row
theorem GnAt.play (h : GnAt W q bp mp b ps u wr) (hk : q.ok) (hI : BInv q n b) (hn : n ≤ 1000) {ops : List O} {A : Option Addr} {c : Nat} (hO : Os wr wr.heap.size ops A c) (hA : ops ≠ [] → ∀ g off, A = some ⟨g, off, none⟩ → g < W.heap.size) :
    Calls Try.prog 45 #[.pointer (some ⟨bp, 0, none⟩), .slice A ops.length c] wr fun e w' => e = .returned (.tuple #[.int .i64 (playP q b ops).2.1, .int .i64 (playP q b ops).2.2]) ∧ GnAt W q bp mp (playP q b ops).1 ps u w' := by
  obtain ⟨h1, Z, h2, h3, h4, h5, h6, h7⟩ := h
  have hL := hI.inv.le hk
  have hP := hI.plen
  refine (play_any q bp mp Z b ops A c wr h4 hO (fun hn g off e => by have := hA hn g off e; omega) (by have := hk.2.2.2.2.2.1.2; omega) (by have := hk.2.2.2.2.2.1.2; omega)).mono ?_
  rintro e w' ⟨he, hK, Z', hB, hZ⟩
  refine ⟨he, h1.trans (hK.below (fun g hg => by rcases hg with rfl | rfl <;> assumption) h1.size), Z', h2, h3, hB, fun g hg => (hZ g hg).elim (h5 g) (fun h => Nat.le_trans h1.size h), ownsRow_agree h6 (fun g hg => hK.block g (h6.lt g hg).2 (fun h => h.elim (h7 g hg).2.1 (h7 g hg).2.2.1)), fun g hg => ⟨(h7 g hg).1, (h7 g hg).2.1, (h7 g hg).2.2.1, fun h => (hZ g h).elim (h7 g hg).2.2.2 (fun h8 => by have := (h6.lt g hg).2; omega)⟩⟩
theorem GnAt.put (h : GnAt W q bp mp b ps u wr) {u' : Value} {x : ByteArray} (ho : w'.ownsRow 0 9 1 u' (ps ++ [x]).length (sts (ps ++ [x]))) (hK : Keep (fun g => u.ownBlock = some g) wr w') (hv : ∀ g, u'.ownBlock = some g → u.ownBlock = some g ∨ (wr.heap.size ≤ g ∧ g < w'.heap.size)) : GnAt W q bp mp b (ps ++ [x]) u' w' := by
  obtain ⟨h1, Z, h2, h3, h4, h5, h6, h7⟩ := h
  have hl := h4.lt
  refine ⟨h1.trans (hK.below (fun g hg => (h7 g hg).1) h1.size), Z, h2, h3, h4.keep hK (fun h => (h7 _ h).2.1 rfl) (fun h => (h7 _ h).2.2.1 rfl) (fun g hg h => (h7 g h).2.2.2 hg), h5, ho, fun g hg => ?_⟩
  rcases hv g hg with h8 | h8
  · exact h7 g h8
  · have hz := h1.size
    refine ⟨by omega, by omega, by omega, fun h9 => ?_⟩
    obtain ⟨_, _, _, _, _, _, _, _, e7, _⟩ := h4
    have := (e7 g h9).2.2
    omega
end
theorem less_all {a b : ByteArray} (h : bn a < bn b) : Op.bytesLess a.toList b.toList = true ∧ Op.bytesLess b.toList a.toList = false ∧ (a.toList == b.toList) = false ∧ (b.toList == a.toList) = false := by
  have h1 : a.data.toList ≠ b.data.toList := fun e => by
    rw [show bn a = bn b from e] at h
    exact bn_irrefl _ h
  rw [Go.Proofs.bytesLess_eq, Go.Proofs.bytesLess_eq, Lib.toList_data, Lib.toList_data]
  exact ⟨decide_eq_true h, decide_eq_false (fun h2 => bn_irrefl _ (List.lt_trans h h2)), beq_eq_false_iff_ne.2 h1, beq_eq_false_iff_ne.2 (Ne.symm h1)⟩
theorem getElem_bn (x : List UInt8) : encStr x = .string ⟨x.toArray⟩ ∧ bn ⟨x.toArray⟩ = x := ⟨rfl, by simp [bn]⟩

end Go.Proofs.Ytjlglfjikfpboaa.books
