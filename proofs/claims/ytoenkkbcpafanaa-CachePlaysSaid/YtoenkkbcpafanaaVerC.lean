/- LikeVersions, Like and Copy of the document. -/
import Derived.Test.YtoenkkbcpafanaaVerB
import Derived.Laws.StructEq


namespace Go.Proofs.Ytoenkkbcpafanaa.vers
set_option linter.unusedVariables false
set_option linter.unusedSimpArgs false
open Go.RowKit Go.Proofs.Ytoenkkbcpafanaa.base Go.Proofs.Ytoenkkbcpafanaa.quotas

theorem ret_bool {a b : Bool} (h : a = b) : Ending.returned (.bool a) = .returned (.bool b) := by rw [h]
theorem bytes_eq {a b : ByteArray} (h : a = b) : (a.toList == b.toList) = true := by rw [h]; simp
theorem bytes_ne {a b : ByteArray} (h : ¬ a = b) : (a.toList == b.toList) = false := by
  rw [beq_eq_false_iff_ne]
  intro e
  apply h
  apply ByteArray.ext
  apply Array.toList_inj.1
  rwa [ByteArray.toList_eq, ByteArray.toList_eq] at e
theorem take_next {l m : List V} {j : Nat} (h : l.take j = m.take j) (hl : j < l.length) (hm : j < m.length) (e : l[j] = m[j]) : l.take (j + 1) = m.take (j + 1) := by
  rw [List.take_succ_eq_append_getElem hl, List.take_succ_eq_append_getElem hm, h, e]
theorem ne_at {l m : List V} {j : Nat} (hl : j < l.length) (hm : j < m.length) (e : l[j] ≠ m[j]) : decide (l = m) = false := by
  rw [decide_eq_false_iff_not]
  rintro rfl
  exact e rfl
def KHead (w : World) (l m : List V) (x : Value) (wr : World) : Prop := ∃ j : Nat, j ≤ l.length ∧ x = .int .i64 j ∧ Hid (l.take j = m.take j) ∧ Below w.heap.size w wr

set_option maxRecDepth 100000 in
set_option maxHeartbeats 400000 in
theorem likeVs_any (l m : List V) (A A' : Option Addr) (cap cap' : Nat) (w : World) (hv : Vs w w.heap.size l A cap) (hv' : Vs w w.heap.size m A' cap') :
    Calls Try.prog 208 #[.slice A l.length cap, .slice A' m.length cap'] w fun x w' => x = .returned (.bool (decide (l = m))) ∧ Below w.heap.size w w' := by
  have hlen := len_in hv
  have hlen' := len_in hv'
  by_cases hl : l.length = m.length
  · go_enter Try.func208, Try.ntmps208
    go_wp2_with fail
    go_loopw [13] (fun x wr => KHead w l m x wr) (fun x _ => l.length - (intOf x).toNat)
    case atStart => exact ⟨0, Nat.zero_le _, rfl, lay rfl, Below.refl _ _⟩
    case round =>
      obtain ⟨j, hj, rfl, hV, hb⟩ := hrel
      by_cases hlt : j < l.length
      · have hlt' : j < m.length := by omega
        obtain ⟨bk, off, rfl, hbk, v0, v1, v2⟩ := (hv.below hb).at_ hlt
        obtain ⟨bk', off', rfl, hbk', y0, y1, y2⟩ := (hv'.below hb).at_ hlt'
        have k1 : (0 : Int) ≤ (j : Int) := by omega
        have k2 : (j : Int) < (l.length : Int) := by omega
        have k3 : (j : Int) < (m.length : Int) := by omega
        go_wp2_with fail
        by_cases g1 : l[j].n = m[j].n
        · have d1 : (l[j].n == m[j].n) = true := by simp [g1]
          by_cases g2 : l[j].v = m[j].v
          · have d2 := bytes_eq g2
            by_cases g3 : l[j].t = m[j].t
            · have d3 := bytes_eq g3
              have he : Hid (l[j] = m[j]) := lay (by
                cases hx : l[j]; cases hy : m[j]
                rw [hx, hy] at g1 g2 g3
                simp only at g1 g2 g3
                rw [g1, g2, g3])
              clear g1 g2 g3
              go_quiet (fail)
              go_wp2_with fail
              exact ⟨⟨j + 1, hlt, by go_num, lay (take_next hV.out hlt hlt' he.out), hb.trans ⟨rfl, rfl, rfl, Nat.le_refl _, fun _ _ => rfl⟩⟩, by simp [intOf]; omega⟩
            · have d3 := bytes_ne g3
              have he : Hid (l[j] ≠ m[j]) := lay (fun e => g3 (by rw [e]))
              clear g1 g2 g3
              go_quiet (fail)
              go_wp2_with fail
              go_ret
              exact ⟨ret_bool (ne_at hlt hlt' he.out).symm, hb.trans ⟨rfl, rfl, rfl, Nat.le_refl _, fun _ _ => rfl⟩⟩
          · have d2 := bytes_ne g2
            have he : Hid (l[j] ≠ m[j]) := lay (fun e => g2 (by rw [e]))
            clear g1 g2
            go_quiet (fail)
            go_wp2_with fail
            go_ret
            exact ⟨ret_bool (ne_at hlt hlt' he.out).symm, hb.trans ⟨rfl, rfl, rfl, Nat.le_refl _, fun _ _ => rfl⟩⟩
        · have d1 : (l[j].n == m[j].n) = false := by simpa using g1
          have he : Hid (l[j] ≠ m[j]) := lay (fun e => g1 (by rw [e]))
          clear g1
          go_quiet (fail)
          go_wp2_with fail
          go_ret
          exact ⟨ret_bool (ne_at hlt hlt' he.out).symm, hb.trans ⟨rfl, rfl, rfl, Nat.le_refl _, fun _ _ => rfl⟩⟩
      · have he : Hid (l = m) := lay (by
          have h1 := hV.out
          rwa [List.take_of_length_le (by omega), List.take_of_length_le (by omega)] at h1)
        go_wp2_with fail
        go_ret
        exact ⟨ret_bool (decide_eq_true he.out).symm, hb⟩
  · have hd : ((l.length : Int) != (m.length : Int)) = true := by simp; omega
    go_enter Try.func208, Try.ntmps208
    go_wp2_with fail
    all_goals (go_ret; exact ⟨ret_bool (by rw [eq_comm, decide_eq_false_iff_not]; rintro rfl; exact hl rfl), Below.refl _ _⟩)
end Go.Proofs.Ytoenkkbcpafanaa.vers
