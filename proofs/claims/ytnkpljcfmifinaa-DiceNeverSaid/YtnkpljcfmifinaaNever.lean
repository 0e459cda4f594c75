/- The walk of the law DiceNever: it answers true and writes nothing that was there. -/
import Derived.Test.YtnkpljcfmifinaaFresh
import Derived.Lib.Hide
import Derived.Deep.CutRange
import Derived.Deep.LoopGhost
namespace Go.Proofs.Ytnkpljcfmifinaa.never
open Go.RowKit Go.Proofs.Ytnkpljcfmifinaa.base Go.Proofs.Ytnkpljcfmifinaa.dice Go.Proofs.Ytnkpljcfmifinaa.fresh

/-- do two of the first m draws agree? -/
def Twice (zs : List Int) (m : Nat) : Prop := ∃ i j, j < i ∧ i < m ∧ draw zs i = draw zs j
theorem twice_succ {zs : List Int} {k : Nat} : Twice zs (k + 1) ↔ Twice zs k ∨ ∃ j, j < k ∧ draw zs k = draw zs j := by
  constructor
  · rintro ⟨i, j, h1, h2, h3⟩
    by_cases e : i = k
    · subst e; exact .inr ⟨j, h1, h3⟩
    · exact .inl ⟨i, j, h1, by omega, h3⟩
  · rintro (⟨i, j, h1, h2, h3⟩ | ⟨j, h1, h3⟩)
    · exact ⟨i, j, h1, by omega, h3⟩
    · exact ⟨k, j, h1, by omega, h3⟩
/-- does a number stand twice among the first m of a list? -/
def Own (zs : List Int) (m : Nat) : Prop := ∃ i j, j < i ∧ i < m ∧ at' zs i = at' zs j
theorem own_succ {zs : List Int} {k : Nat} : Own zs (k + 1) ↔ Own zs k ∨ ∃ j, j < k ∧ at' zs k = at' zs j := by
  constructor
  · rintro ⟨i, j, h1, h2, h3⟩
    by_cases e : i = k
    · subst e; exact .inr ⟨j, h1, h3⟩
    · exact .inl ⟨i, j, h1, by omega, h3⟩
  · rintro (⟨i, j, h1, h2, h3⟩ | ⟨j, h1, h3⟩)
    · exact ⟨i, j, h1, by omega, h3⟩
    · exact ⟨k, j, h1, by omega, h3⟩
theorem draw_in {zs : List Int} {k : Nat} (h : k < zs.length) : draw zs k = at' zs k := by simp [draw, h, at']
theorem draw_out {zs : List Int} {k : Nat} (h : zs.length ≤ k) : draw zs k = 1099511627776 + k := by simp [draw, Nat.not_lt.2 h]
theorem ok_once {zs : List Int} (h : Ok zs.length (at' zs)) (n : Nat) : ¬ Twice zs n := by
  rintro ⟨i, j, h1, h2, h3⟩
  by_cases hi : i < zs.length
  · rw [draw_in hi, draw_in (by omega)] at h3
    exact h.2 i j h1 hi h3.symm
  · rw [draw_out (by omega)] at h3
    by_cases hj : j < zs.length
    · rw [draw_in hj] at h3
      have := h.1 j hj
      omega
    · rw [draw_out (by omega)] at h3
      omega
theorem ok_own {zs : List Int} (h : Ok zs.length (at' zs)) : ¬ Own zs zs.length := by
  rintro ⟨i, j, h1, h2, h3⟩
  exact h.2 i j h1 h2 h3.symm
theorem own_twice {zs : List Int} {n : Nat} (hn : zs.length ≤ n) (h : Own zs zs.length) : Twice zs n := by
  obtain ⟨i, j, h1, h2, h3⟩ := h
  exact ⟨i, j, h1, by omega, by rw [draw_in h2, draw_in (by omega)]; exact h3⟩
/-- the draws that were had -/
def had (zs : List Int) (k : Nat) : List Value := (List.range k).map fun i => Value.int .u64 (draw zs i)
theorem had_length (zs : List Int) (k : Nat) : (had zs k).length = k := by simp [had]
theorem had_succ (zs : List Int) (k : Nat) : had zs k ++ [Value.int .u64 (draw zs k)] = had zs (k + 1) := by simp [had, List.range_succ]
theorem had_at (zs : List Int) (k q : Nat) (h : q < k) : (had zs k)[q]? = some (Value.int .u64 (draw zs q)) := by simp [had, h]

set_option maxHeartbeats 4000000 in
set_option maxRecDepth 100000 in
theorem never_any (A0 : Option Addr) (len0 cap0 : Nat) (z0 : List Int) (more : Int) (w : World)
    (h0 : Rd w w.heap.size A0 (z0.map (Value.int .u64))) (l0 : z0.length = len0) (c0 : len0 ≤ cap0) :
    Calls Try.prog 5 #[.slice A0 len0 cap0, .int .i64 more] w fun e w' => e = .returned (.bool true) ∧ Below w.heap.size w w' := by
  obtain ⟨i0, hi, hz0, hz1, hz2⟩ := info_parts info64
  have hs := short_ok A0 len0 cap0 300 w.heap.size (z0.map (Value.int .u64)) w h0 (by simpa using l0) c0
  obtain ⟨zs, hzs⟩ : ∃ zs, zs = z0.take 300 := ⟨_, rfl⟩
  have hlen : min len0 300 = zs.length := by rw [hzs, List.length_take]; omega
  rw [hlen] at hs
  have hr := h0.take 300
  rw [← List.map_take, ← hzs] at hr
  have hz : zs.length ≤ 300 := by omega
  clear hlen hzs h0 c0
  obtain ⟨n, hn1, hn2, hcase⟩ : ∃ n : Nat, zs.length + 3 ≤ n ∧ n ≤ zs.length + 62 ∧ ((more ≤ 0 ∧ (zs.length : Int) + 3 = (n : Int)) ∨ (60 ≤ more ∧ (zs.length : Int) + 3 = (n : Int)) ∨ (0 < more ∧ more < 60 ∧ (zs.length : Int) + 3 + more = (n : Int))) := by
    by_cases h : 0 < more ∧ more < 60
    · exact ⟨zs.length + 3 + more.toNat, by omega, by omega, by omega⟩
    · exact ⟨zs.length + 3, by omega, by omega, by omega⟩
  have hb0 : Below w.heap.size w w := Below.refl _ _
  rcases hcase with ⟨hm1, hnn⟩ | ⟨hm1, hnn⟩ | ⟨hm1, hm2, hnn⟩
  have hx1 : decide (0 < more) = false := by simp; omega
  go_enter Try.func5, Try.ntmps5
  go_wp2_with (first
    | (go_at_call 8; refine hs.mono ?_; rintro e w0 ⟨rfl, rfl⟩)
    | (go_at_call 9; ((with_reducible refine (new_ok A0 cap0 zs w hr (by omega)).mono ?_); rintro e w1 ⟨gd, gl, rfl, hd, hbel⟩)))
  clear hx1 hm1
  rotate_left
  have hx1 : decide (0 < more) = true := by simp; omega
  have hx2 : decide (more < 60) = false := by simp; omega
  go_enter Try.func5, Try.ntmps5
  go_wp2_with (first
    | (go_at_call 8; refine hs.mono ?_; rintro e w0 ⟨rfl, rfl⟩)
    | (go_at_call 9; ((with_reducible refine (new_ok A0 cap0 zs w hr (by omega)).mono ?_); rintro e w1 ⟨gd, gl, rfl, hd, hbel⟩)))
  clear hx1 hx2 hm1
  rotate_left
  have hx1 : decide (0 < more) = true := by simp; omega
  have hx2 : decide (more < 60) = true := by simp; omega
  go_enter Try.func5, Try.ntmps5
  go_wp2_with (first
    | (go_at_call 8; refine hs.mono ?_; rintro e w0 ⟨rfl, rfl⟩)
    | (go_at_call 9; ((with_reducible refine (new_ok A0 cap0 zs w hr (by omega)).mono ?_); rintro e w1 ⟨gd, gl, rfl, hd, hbel⟩)))
  clear hx1 hx2 hm1 hm2
  all_goals
    clear hnn hs
    have hgd1 := hd.self.lt
    have hgl1 := hd.list.lt
    have hsz1 := hbel.size
    have hlowd := hd.low
    have hT0 : Hid (false = true ↔ Twice zs 0) := (show false = true ↔ Twice zs 0 from ⟨(fun h => by cases h), fun ⟨i, j, _, h, _⟩ => by omega⟩)
    go_loopw [9, 10, 11] (fun v t i wr => ∃ (k : Nat) (tw : Bool), i = .int .i64 k ∧ t = .bool tw ∧ k ≤ n ∧ IsDice wr w.heap.size gd gl zs k ∧ wr.ownsRow w1.heap.size 31 1 v k (had zs k) ∧ Hid (tw = true ↔ Twice zs k) ∧ w1.heap.size ≤ wr.heap.size ∧ Below w.heap.size w wr) (fun _ _ i _ => n - (intOf i).toNat)
    case atStart => exact ⟨0, false, rfl, rfl, Nat.zero_le _, hd, World.ownsRow_nil _ _ _ _, hT0, Nat.le_refl _, hbel⟩
    case round =>
      clear hd hbel hT0
      obtain ⟨k, tw, rfl, rfl, hk, hd, hown, hT, hsz, hb⟩ := hrel
      by_cases hkn : k < n
      · have hnext := hd.next
        have hown1 := ownsRow_setCell_below hown (a := ⟨gd, 1, none⟩) hgd1 (.int .i64 ((k + 1 : Nat) : Int))
        have hb1 := hb.setCell (p := ⟨gd, 1, none⟩) hlowd (.int .i64 ((k + 1 : Nat) : Int))
        obtain ⟨A, c, rfl, hrd, hkm⟩ := own_slice hown1
        go_wp2_with fail
        refine (next_ok wr _ gd gl zs k hd (by omega)).mono ?_
        rintro e w2 ⟨rfl, hw2⟩
        rw [← hw2] at hnext hown1 hb1 hrd
        have hsz2 : w1.heap.size ≤ w2.heap.size := by rw [hw2]; simpa using hsz
        clear hw2 hd hown hb hsz
        go_wp2_with fail
        have hT0 : Hid (tw = true ↔ Twice zs k ∨ ∃ j, j < 0 ∧ draw zs k = draw zs j) := (show tw = true ↔ Twice zs k ∨ ∃ j, j < 0 ∧ draw zs k = draw zs j by
          rw [hT.out]
          exact ⟨.inl, fun h => h.elim id (fun ⟨j, h, _⟩ => by omega)⟩)
        clear hT
        go_loop [52, 10] (fun vj t => ∃ (q : Nat) (tw : Bool), vj = .int .i64 q ∧ t = .bool tw ∧ q ≤ k ∧ Hid (tw = true ↔ Twice zs k ∨ ∃ j, j < q ∧ draw zs k = draw zs j)) (fun vj _ => k - (intOf vj).toNat)
        case atStart => exact ⟨0, tw, rfl, rfl, Nat.zero_le _, hT0⟩
        case round =>
          clear hT0
          obtain ⟨q, tw', rfl, rfl, hq, hT⟩ := hrel
          by_cases hqk : q < k
          · obtain ⟨bh, oh, rfl, _, hcq⟩ := hrd q _ (had_at zs k q hqk)
            have H1 : Hid ((tw' || (draw zs k == draw zs q)) = true ↔ Twice zs k ∨ ∃ j, j < q + 1 ∧ draw zs k = draw zs j) := (show (tw' || (draw zs k == draw zs q)) = true ↔ Twice zs k ∨ ∃ j, j < q + 1 ∧ draw zs k = draw zs j by
              rw [Bool.or_eq_true, hT.out, beq_iff_eq]
              constructor
              · rintro ((h | ⟨j, h1, h2⟩) | h)
                · exact .inl h
                · exact .inr ⟨j, by omega, h2⟩
                · exact .inr ⟨q, by omega, h⟩
              · rintro (h | ⟨j, h1, h2⟩)
                · exact .inl (.inl h)
                · by_cases e : j = q
                  · subst e; exact .inr h2
                  · exact .inl (.inr ⟨j, by omega, h2⟩))
            cases tw'
            all_goals
              go_wp2
              go_round
              case rel => exact ⟨q + 1, _, by go_num, rfl, by omega, H1⟩
              case measure => simp [intOf]; omega
          · obtain rfl : q = k := by omega
            have H1 : Hid (tw' = true ↔ Twice zs (q + 1)) := (show tw' = true ↔ Twice zs (q + 1) by rw [hT.out, twice_succ])
            clear hT
            have e1 : ∀ j u, [Value.int .u64 (draw zs q)][j]? = some u → (w2.alloc (.cells #[.int .u64 (draw zs q)] 31)).cell? ((⟨w2.heap.size, 0, none⟩ : Addr).add j) = some u := fun j u hj => by
              match j, hj with
              | 0, hj => simp at hj; subst hj; simp [Addr.add]
            have E1 := Lib.hid e1
            have E2 : Hid (∀ u ∈ [Value.int .u64 (draw zs q)], u.oneCell' = true) := (show ∀ u ∈ [Value.int .u64 (draw zs q)], u.oneCell' = true from fun u hu => by simp at hu; subst hu; rfl)
            have E3 : q + 1 ≤ maxLen := by unfold maxLen; omega
            have E5 : w1.heap.size ≤ (w2.alloc (.cells #[.int .u64 (draw zs q)] 31)).heap.size := by simp; omega
            clear e1
            go_wp2_with (at_builtin; refine wpList_append_own _ rfl (.tmp 63) (.tmp 65) _ rfl w1.heap.size 31 i0 _ 1 8 Try.underlying22 hi hz0 hz1 hz2 rfl (by decide) _ q (had zs q) rfl (hown1.alloc _) ⟨w2.heap.size, 0, none⟩ 1 1 [.int .u64 (draw zs q)] rfl rfl E1.out E2.out E3 (by omega) E5 ?_)
            · intro v' w3 hown3 hg3 _
              have hb3 : Below w.heap.size w w3 := (hb1.alloc hb1.size _).grown hg3 (by simp; have := hb1.size; omega) (fun g hg => by have := (hown1.lt g hg).1; omega)
              have hd3 : IsDice w3 w.heap.size gd gl zs (q + 1) := hnext.keep
                ((hg3.block gd (by simp; omega) (fun e => by have := (hown1.lt gd e.symm).1; omega)).trans (Below.heap_alloc _ _ _ (by omega)))
                ((hg3.block gl (by simp; omega) (fun e => by have := (hown1.lt gl e.symm).1; omega)).trans (Below.heap_alloc _ _ _ (by omega)))
              have hsz3 : w1.heap.size ≤ w3.heap.size := by have := hg3.size; simp at this; omega
              rw [had_succ] at hown3
              clear hg3 hb1 hown1 hnext hrd hsz2
              go_wp2_with fail
              go_roundw
              case rel => exact ⟨q + 1, tw', by go_num, rfl, by omega, hd3, hown3, H1, hsz3, hb3⟩
              case measure => simp [intOf]; omega
      · obtain rfl : k = n := by omega
        obtain ⟨A, c, rfl, _, _⟩ := own_slice hown
        have hrl : Rd wr w.heap.size A0 (zs.map (Value.int .u64)) := hr.below hb
        clear hown hd hsz
        go_wp2_with fail
        have hO0 : Hid (false = true ↔ Own zs 0) := (show false = true ↔ Own zs 0 from ⟨(fun h => by cases h), fun ⟨i, j, _, h, _⟩ => by omega⟩)
        go_loopw [69, 15] (fun vi o wr => ∃ (p : Nat) (ow : Bool), vi = .int .i64 p ∧ o = .bool ow ∧ p ≤ zs.length ∧ Hid (ow = true ↔ Own zs p) ∧ Rd wr w.heap.size A0 (zs.map (Value.int .u64)) ∧ Below w.heap.size w wr) (fun vi _ _ => zs.length - (intOf vi).toNat)
        case atStart => exact ⟨0, false, rfl, rfl, Nat.zero_le _, hO0, hrl, hb⟩
        case round =>
          clear hO0 hrl hb
          obtain ⟨p, ow, rfl, rfl, hp, hO, hrl, hb⟩ := hrel
          by_cases hpl : p < zs.length
          · go_wp2_with fail
            have hO0 : Hid (ow = true ↔ Own zs p ∨ ∃ j, j < 0 ∧ at' zs p = at' zs j) := (show ow = true ↔ Own zs p ∨ ∃ j, j < 0 ∧ at' zs p = at' zs j by
              rw [hO.out]
              exact ⟨.inl, fun h => h.elim id (fun ⟨j, h, _⟩ => by omega)⟩)
            clear hO
            go_loopw [17, 15] (fun vj o wr => ∃ (q : Nat) (ow : Bool), vj = .int .i64 q ∧ o = .bool ow ∧ q ≤ p ∧ Hid (ow = true ↔ Own zs p ∨ ∃ j, j < q ∧ at' zs p = at' zs j) ∧ Rd wr w.heap.size A0 (zs.map (Value.int .u64)) ∧ Below w.heap.size w wr) (fun vj _ _ => p - (intOf vj).toNat)
            case atStart => exact ⟨0, ow, rfl, rfl, Nat.zero_le _, hO0, hrl, hb⟩
            case round =>
              clear hO0 hrl hb
              obtain ⟨q, ow', rfl, rfl, hq, hO, hrl, hb⟩ := hrel
              by_cases hqp : q < p
              · obtain ⟨ba, oa, hA, _, hca⟩ := hrl p (.int .u64 (at' zs p)) (by simp [at', hpl])
                obtain ⟨ba', oa', hA', _, hcb⟩ := hrl q (.int .u64 (at' zs q)) (by simp [at', Nat.lt_trans hqp hpl])
                subst hA
                cases hA'
                have H1 : Hid ((ow' || (at' zs p == at' zs q)) = true ↔ Own zs p ∨ ∃ j, j < q + 1 ∧ at' zs p = at' zs j) := (show (ow' || (at' zs p == at' zs q)) = true ↔ Own zs p ∨ ∃ j, j < q + 1 ∧ at' zs p = at' zs j by
                  rw [Bool.or_eq_true, hO.out, beq_iff_eq]
                  constructor
                  · rintro ((h | ⟨j, h1, h2⟩) | h)
                    · exact .inl h
                    · exact .inr ⟨j, by omega, h2⟩
                    · exact .inr ⟨q, by omega, h⟩
                  · rintro (h | ⟨j, h1, h2⟩)
                    · exact .inl (.inl h)
                    · by_cases e : j = q
                      · subst e; exact .inr h2
                      · exact .inl (.inr ⟨j, by omega, h2⟩))
                have h1p : (p : Int) < (zs.length : Int) := by omega
                have h1q : (q : Int) < (zs.length : Int) := by omega
                cases ow'
                all_goals
                  go_wp2_with fail
                  go_quiet (fail)
                  go_wp2
                  go_roundw
                  case rel => exact ⟨q + 1, _, by go_num, rfl, by omega, H1, hrl, ⟨hb.os, hb.tape, hb.output, hb.size, hb.block⟩⟩
                  case measure => simp [intOf]; omega
              · obtain rfl : q = p := by omega
                have H1 : Hid (ow' = true ↔ Own zs (q + 1)) := (show ow' = true ↔ Own zs (q + 1) by rw [hO.out, own_succ])
                go_wp2_with fail
                go_roundw
                case rel => exact ⟨q + 1, ow', by go_num, rfl, by omega, H1, hrl, hb⟩
                case measure => simp [intOf]; omega
          · obtain rfl : p = zs.length := by omega
            have hf := fresh_ok A0 cap0 zs wr (hrl.more hb.size) (by omega)
            go_wp2_with fail
            refine hf.mono ?_
            rintro e w5 ⟨⟨y, rfl, hy⟩, hb5⟩
            have hbe : Below w.heap.size w w5 := hb.trans (hb5.mono hb.size)
            cases y
            · have hown : ow = true → tw = true := fun h => hT.out.2 (own_twice (by omega) (hO.out.1 h))
              cases tw
              · have : ow = false := by cases ow with | false => rfl | true => cases hown rfl
                subst this
                clear hown hy hT hO
                go_wp2
                go_ret
                exact ⟨rfl, hbe⟩
              · clear hown hy hT hO
                go_wp2
                go_ret
                exact ⟨rfl, hbe⟩
            · have hok := hy.1 rfl
              have : tw = false := by cases tw with | false => rfl | true => exact absurd (hT.out.1 rfl) (ok_once hok _)
              subst this
              have : ow = false := by cases ow with | false => rfl | true => exact absurd (hO.out.1 rfl) (ok_own hok)
              subst this
              clear hok hy hT hO
              go_wp2
              go_ret
              exact ⟨rfl, hbe⟩
end Go.Proofs.Ytnkpljcfmifinaa.never
