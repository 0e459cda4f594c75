/- The document's own reader of terms: wrong, atom. -/
import Derived.Test.YtjlglfjikfpboaaTermD
import Derived.WalkSpells
import Derived.Test.YtjlglfjikfpboaaTermE
import Derived.Test.YtjlglfjikfpboaaTermB


namespace Go.Proofs.Ytjlglfjikfpboaa.refReads
set_option linter.unusedVariables false
set_option linter.unusedSimpArgs false
open Go.RowKit Go.Proofs.Ytjlglfjikfpboaa.base Go.Proofs.Ytjlglfjikfpboaa.tm Go.Proofs.Ytjlglfjikfpboaa.lies Go.Proofs.Ytjlglfjikfpboaa.rights Go.Proofs.Ytjlglfjikfpboaa.copies Go.Proofs.Ytjlglfjikfpboaa.built Go.Proofs.Ytjlglfjikfpboaa.reads

set_option maxRecDepth 100000 in
theorem wrong_any (err : Int) (w : World) :
    Calls Try.prog 101 #[.int .i64 err] w fun e w' => e = .returned (.agg #[.int .i64 0, .int .u64 0, .string ⟨#[]⟩, .slice none 0 0, .int .i64 0, .int .i64 0, .int .i64 err]) ∧ Below w.heap.size w w' := by
  go_enter Try.func101, Try.ntmps101
  go_wp2
  refine bodyPost_ret (v := .agg #[.int .i64 0, .int .u64 0, .string ⟨#[]⟩, .slice none 0 0, .int .i64 0, .int .i64 0, .int .i64 err]) (by simp [results, Try.results101, go_sem]) rfl ⟨rfl, ?_⟩
  exact (Below.refl _ _).alloc (Nat.le_refl _) _

theorem below_own {w w2 : World} {o o' : Obj} (hb : Below ((w.alloc o).alloc o').heap.size ((w.alloc o).alloc o') w2) : Below w.heap.size w w2 :=
  (((Below.refl _ _).alloc (Nat.le_refl _) o).alloc (by simp) o').trans (hb.mono (by simp; omega))
def seven (w : World) (g : Nat) (a b c d e f i : Value) : World := ((((((w.setCell ⟨g, 0, none⟩ a).setCell ⟨g, 1, none⟩ b).setCell ⟨g, 2, none⟩ c).setCell ⟨g, 3, none⟩ d).setCell ⟨g, 4, none⟩ e).setCell ⟨g, 5, none⟩ f).setCell ⟨g, 6, none⟩ i
theorem seven_below {w w1 : World} (h : Below w.heap.size w w1) (a b c d e f i : Value) : Below w.heap.size w (seven w1 (w.heap.size + 1) a b c d e f i) :=
  ((((((h.setCell (p := ⟨w.heap.size + 1, 0, none⟩) (Nat.le_succ _) a).setCell (p := ⟨w.heap.size + 1, 1, none⟩) (Nat.le_succ _) b).setCell (p := ⟨w.heap.size + 1, 2, none⟩) (Nat.le_succ _) c).setCell (p := ⟨w.heap.size + 1, 3, none⟩) (Nat.le_succ _) d).setCell (p := ⟨w.heap.size + 1, 4, none⟩) (Nat.le_succ _) e).setCell (p := ⟨w.heap.size + 1, 5, none⟩) (Nat.le_succ _) f).setCell (p := ⟨w.heap.size + 1, 6, none⟩) (Nat.le_succ _) i

/-- what was read, as a value -/
abbrev got (k n : Int) (z : ByteArray) (v : Value) (a b e : Int) : Value := .agg #[.int .i64 k, .int .u64 n, .string z, v, .int .i64 a, .int .i64 b, .int .i64 e]

set_option maxRecDepth 100000 in
set_option maxHeartbeats 400000 in
theorem ratom_any (s : ByteArray) (a n : Nat) (b : Int) (w : World) (hs : s.size ≤ maxLen) (ha : a ≤ s.size) (hn : n < 18446744073709551616) :
    Calls Try.prog 103 #[.string s, got 2 0 ⟨#[]⟩ (.slice none 0 0) a b 0, .int .u64 n] w fun e w' => Below w.heap.size w w' ∧
      (4000 < n → e = .returned (got 0 0 ⟨#[]⟩ (.slice none 0 0) 0 0 25)) ∧ (¬ 4000 < n → s.size - a < n → e = .returned (got 0 0 ⟨#[]⟩ (.slice none 0 0) 0 0 20)) ∧
      (¬ 4000 < n → ¬ s.size - a < n → e = .returned (got 2 0 ⟨((s.data.toList.drop a).take n).toArray⟩ (.slice none 0 0) (a + n : Nat) b 0)) := by
  unfold maxLen at hs
  by_cases h1 : 4000 < n
  · refine Calls.mono (R := fun e w' => e = .returned (got 0 0 ⟨#[]⟩ (.slice none 0 0) 0 0 25) ∧ Below w.heap.size w w') ?_ fun e w' h => ⟨h.2, fun _ => h.1, fun h' => absurd h1 h', fun h' => absurd h1 h'⟩
    go_enter Try.func103, Try.ntmps103
    go_wp2_with (go_at_call 101; refine (wrong_any 25 _).mono ?_; rintro e w1 ⟨rfl, hb1⟩; obtain ⟨hc1, hf1⟩ := bcell hb1)
    refine bodyPost_ret (v := got 0 0 ⟨#[]⟩ (.slice none 0 0) 0 0 25) (by simp [results, Try.results103, go_sem, hc1]) rfl ⟨rfl, ?_⟩
    exact seven_below (below_own hb1) _ _ _ _ _ _ _
  · by_cases h2 : s.size - a < n
    · have hi : (s.size : Int) - (a : Int) < (n : Int) := by omega
      refine Calls.mono (R := fun e w' => e = .returned (got 0 0 ⟨#[]⟩ (.slice none 0 0) 0 0 20) ∧ Below w.heap.size w w') ?_ fun e w' h => ⟨h.2, fun h' => absurd h' h1, fun _ _ => h.1, fun _ h' => absurd h2 h'⟩
      go_enter Try.func103, Try.ntmps103
      go_wp2_with (go_at_call 101; refine (wrong_any 20 _).mono ?_; rintro e w1 ⟨rfl, hb1⟩; obtain ⟨hc1, hf1⟩ := bcell hb1)
      refine bodyPost_ret (v := got 0 0 ⟨#[]⟩ (.slice none 0 0) 0 0 20) (by simp [results, Try.results103, go_sem, hc1]) rfl ⟨rfl, ?_⟩
      exact seven_below (below_own hb1) _ _ _ _ _ _ _
    · have hi : ¬ (s.size : Int) - (a : Int) < (n : Int) := by omega
      have hi2 : (n : Int) ≤ (s.size : Int) - (a : Int) := by omega
      have han : a + n ≤ s.size := by omega
      have han1 : (a : Int) + (n : Int) ≤ (s.size : Int) := by omega
      have han2 : (a : Int) ≤ (a : Int) + (n : Int) := by omega
      have HE := lay (show s.extract a (a + n) = ⟨((s.data.toList.drop a).take n).toArray⟩ from str_ext (by simp))
      refine Calls.mono (R := fun e w' => e = .returned (got 2 0 (s.extract a (a + n)) (.slice none 0 0) (a + n : Nat) b 0) ∧ Below w.heap.size w w') ?_ fun e w' h => ⟨h.2, fun h' => absurd h' h1, fun _ h' => absurd h' h2, fun _ _ => by rw [← HE.out]; exact h.1⟩
      go_enter Try.func103, Try.ntmps103
      go_wp2_with fail
      refine bodyPost_ret (v := got 2 0 (s.extract a (a + n)) (.slice none 0 0) (a + n : Nat) b 0) (by simp [results, Try.results103, go_sem]) rfl ⟨rfl, ?_⟩
      exact ((Below.refl _ _).alloc (Nat.le_refl _) _).alloc (by simp) _
end Go.Proofs.Ytjlglfjikfpboaa.refReads

/- The document's own reader of terms: more, given what read does. -/

namespace Go.Proofs.Ytjlglfjikfpboaa.refReads
set_option linter.unusedVariables false
set_option linter.unusedSimpArgs false
open Go.RowKit Go.Proofs.Ytjlglfjikfpboaa.base Go.Proofs.Ytjlglfjikfpboaa.tm Go.Proofs.Ytjlglfjikfpboaa.lies Go.Proofs.Ytjlglfjikfpboaa.rights Go.Proofs.Ytjlglfjikfpboaa.copies Go.Proofs.Ytjlglfjikfpboaa.built Go.Proofs.Ytjlglfjikfpboaa.reads

/-- what read leaves -/
def GPost (W : World) (s : ByteArray) (b : Nat) (r : Res T) (e : Ending) (w' : World) : Prop :=
  Below W.heap.size W w' ∧ match r with
  | .bad err => err ≠ 0 ∧ e = .returned (got 0 0 ⟨#[]⟩ (.slice none 0 0) 0 0 err)
  | .ok t r b' => ∃ (A : Option Addr) (c a' : Nat), e = .returned (got t.k t.n t.s (.slice A t.l.length c) (a' : Nat) (b' : Nat) 0) ∧ a' ≤ s.size ∧ s.data.toList.drop a' = r ∧ b < b' ∧ b' ≤ 4000 ∧ Held w' W.heap.size w'.heap.size t.l (.slice A t.l.length c) ∧ Fits t
/-- what more leaves -/
def NPost (W : World) (s : ByteArray) (k n : Int) (b : Nat) (r : Res (List T)) (e : Ending) (w' : World) : Prop :=
  Below W.heap.size W w' ∧ match r with
  | .bad err => err ≠ 0 ∧ e = .returned (got 0 0 ⟨#[]⟩ (.slice none 0 0) 0 0 err)
  | .ok l r b' => ∃ (A : Option Addr) (c a' : Nat), e = .returned (got k n ⟨#[]⟩ (.slice A l.length c) (a' : Nat) (b' : Nat) 0) ∧ a' ≤ s.size ∧ s.data.toList.drop a' = r ∧ b ≤ b' ∧ b' ≤ 4000 ∧ Held w' W.heap.size w'.heap.size l (.slice A l.length c)

def ReadAt (d : Nat) : Prop := ∀ (s : ByteArray) (a b : Nat) (x y z : Int) (w : World), s.size ≤ maxLen → a ≤ s.size → b ≤ 4000 → x = (a : Int) → y = (b : Int) → z = 12 - (d : Int) → d ≤ 12 →
  Calls Try.prog 67 #[.string s, .int .i64 x, .int .i64 y, .int .i64 z] w (GPost w s b (readT d (s.data.toList.drop a) b))

theorem seven_cell (w : World) (g : Nat) (a b c d e f i : Value) (p : Addr) (h : p.block ≠ g) : (seven w g a b c d e f i).cell? p = w.cell? p := by
  unfold seven
  rw [World.cell?_setCell_other, World.cell?_setCell_other, World.cell?_setCell_other, World.cell?_setCell_other, World.cell?_setCell_other, World.cell?_setCell_other, World.cell?_setCell_other] <;> (rintro rfl; exact h rfl)

/-- at the loop's head -/
def RHead (W : World) (s : ByteArray) (k n : Int) (a b cnt d : Nat) (i : Value) (wr : World) : Prop :=
  ∃ (l : List T) (A : Option Addr) (c a' b' : Nat), i = .int .u64 ((cnt - l.length : Nat) : Int) ∧ l.length ≤ cnt ∧ Blk wr W.heap.size 125 #[.int .i64 k, .int .u64 n, .string ⟨#[]⟩, .slice A l.length c, .int .i64 (a' : Nat), .int .i64 (b' : Nat), .int .i64 0] ∧
    Blk wr (W.heap.size + 1) 125 #[.int .i64 0, .int .u64 0, .string ⟨#[]⟩, .slice none 0 0, .int .i64 0, .int .i64 0, .int .i64 0] ∧ Built (W.heap.size + 2) wr l (.slice A l.length c) ∧ a' ≤ s.size ∧ b + l.length ≤ b' ∧ b' ≤ 4000 ∧ Below W.heap.size W wr ∧ W.heap.size + 2 ≤ wr.heap.size ∧
    Hid (many (readT d) cnt (s.data.toList.drop a) b = prep l (many (readT d) (cnt - l.length) (s.data.toList.drop a') b'))

set_option maxRecDepth 100000 in
set_option maxHeartbeats 600000 in
theorem more_any (d : Nat) (hR : ReadAt d) (hd : d ≤ 12) (s : ByteArray) (k n : Int) (a b cnt : Nat) (x y z q : Int) (w : World) (hs : s.size ≤ maxLen) (ha : a ≤ s.size) (hb : b ≤ 4000) (hx : x = (a : Int)) (hy : y = (b : Int)) (hz : z + 1 = 12 - (d : Int)) (hq : q = (cnt : Int)) (hcnt : cnt < 18446744073709551616) :
    Calls Try.prog 104 #[.string s, got k n ⟨#[]⟩ (.slice none 0 0) x y 0, .int .u64 q, .int .i64 z] w (NPost w s k n b (many (readT d) cnt (s.data.toList.drop a) b)) := by
  subst hx hy hq
  have hb0 := Blk.new w 125 #[.int .i64 k, .int .u64 n, .string ⟨#[]⟩, .slice none 0 0, .int .i64 (a : Nat), .int .i64 (b : Nat), .int .i64 0]
  have hb1 := hb0.alloc (.cells #[.int .i64 0, .int .u64 0, .string ⟨#[]⟩, .slice none 0 0, .int .i64 0, .int .i64 0, .int .i64 0] 125)
  have hb2 := Blk.new (w.alloc (.cells #[.int .i64 k, .int .u64 n, .string ⟨#[]⟩, .slice none 0 0, .int .i64 (a : Nat), .int .i64 (b : Nat), .int .i64 0] 125)) 125 #[.int .i64 0, .int .u64 0, .string ⟨#[]⟩, .slice none 0 0, .int .i64 0, .int .i64 0, .int .i64 0]
  simp only [World.size_alloc] at hb2
  have HX := lay hz
  have HT := lay hR
  have hz0 : 0 ≤ z + 1 := by omega
  have hz12 : z + 1 ≤ 12 := by omega
  clear hz hR
  go_enter Try.func104, Try.ntmps104
  go_wp2_with fail
  go_loopw [2] (fun i wr => RHead w s k n a b cnt d i wr) (fun i _ => (intOf i).toNat)
  case atStart => exact ⟨[], none, 0, a, b, rfl, Nat.zero_le _, hb1, hb2, Built.nil _ _, ha, Nat.le_refl _, hb, ((Below.refl _ _).alloc (Nat.le_refl _) _).alloc (by simp) _, by simp, lay (by
    show many (readT d) cnt (s.data.toList.drop a) b = prep [] (many (readT d) cnt (s.data.toList.drop a) b)
    cases many (readT d) cnt (s.data.toList.drop a) b <;> rfl)⟩
  case round =>
    clear hb0 hb1 hb2
    obtain ⟨l, A, c, a', b', rfl, hln, hk0, hk1, hB, ha', hbl, hb4', hbw, hzr, HM⟩ := hrel
    have z0 := hk0.cell 0
    have z1 := hk0.cell 1
    have z2 := hk0.cell 2
    have z3 := hk0.cell 3
    have z4 := hk0.cell 4
    have z5 := hk0.cell 5
    have z6 := hk0.cell 6
    simp at z0 z1 z2 z3 z4 z5 z6
    have hw0 : w.heap.size < wr.heap.size := by omega
    have hw1 : w.heap.size + 1 < wr.heap.size := by omega
    by_cases hlt : l.length < cnt
    · obtain ⟨m, hm⟩ : ∃ m, cnt - l.length = m + 1 := ⟨cnt - l.length - 1, by omega⟩
      rw [hm] at HM ⊢
      have hm64 : m + 1 < 18446744073709551616 := by omega
      have hcall := HT.out s a' b' a' b' (z + 1) wr hs ha' hb4' rfl rfl HX.out hd
      cases hq : readT d (s.data.toList.drop a') b' with
      | bad err =>
        rw [hq] at hcall
        have HB := lay (many_bad HM.out hq)
        clear hq hm
        go_wp2_with fail
        refine hcall.mono ?_
        rintro e w2 ⟨hG, hne, rfl⟩
        have d1 : (err != 0) = true := by simpa using hne
        have HN := lay hne
        clear hne
        have hk2 := hk1.below hG hw1
        have q0 := hk2.cell 0
        have q1 := hk2.cell 1
        have q2 := hk2.cell 2
        have q3 := hk2.cell 3
        have q4 := hk2.cell 4
        have q5 := hk2.cell 5
        have q6 := hk2.cell 6
        simp at q0 q1 q2 q3 q4 q5 q6
        have f0 := hk2.frozen 0
        have f1 := hk2.frozen 1
        have f2 := hk2.frozen 2
        have f3 := hk2.frozen 3
        have f4 := hk2.frozen 4
        have f5 := hk2.frozen 5
        have f6 := hk2.frozen 6
        have hz2 : w.heap.size + 1 < w2.heap.size := by have := hG.size; omega
        have hz2' : w.heap.size < w2.heap.size := by omega
        go_wp2_with fail
        refine bodyPost_ret (v := got 0 0 ⟨#[]⟩ (.slice none 0 0) 0 0 err) (by simp [results, Try.results104, go_sem, hz2, hz2', q0, q1, q2, q3, q4, q5, q6]) rfl ?_
        rw [HB.out]
        exact ⟨(seven_below (hbw.trans (hG.mono hbw.size)) _ _ _ _ _ _ _).alloc (by have := hbw.size; have := hG.size; simp [seven]; omega) _, HN.out, rfl⟩
      | ok t r b2 =>
        rw [hq] at hcall
        have HB := lay (many_ok HM.out hq)
        have HMm := lay hm
        clear hq hm
        have hown := fun k hk => (hB.own k hk).2
        go_wp2_with fail
        refine hcall.mono ?_
        rintro e w2 ⟨hG, A2, c2, a2, rfl, ha2, hr2, hbb, hb42, hH, hF⟩
        have HR2 := lay hr2
        clear hr2
        have hz2 : w.heap.size + 1 < w2.heap.size := by have := hG.size; omega
        have hz2' : w.heap.size < w2.heap.size := by omega
        have hzw2 := hG.size
        have hk2 := hk0.below hG hw0
        have q0 := hk2.cell 0
        have q1 := hk2.cell 1
        have q2 := hk2.cell 2
        have q3 := hk2.cell 3
        have q4 := hk2.cell 4
        have q5 := hk2.cell 5
        have q6 := hk2.cell 6
        simp at q0 q1 q2 q3 q4 q5 q6
        have hB2 := (hB.below hG).below ((Below.refl _ _).alloc (Nat.le_refl _) (.cells #[.int .i64 t.k, .int .u64 t.n, .string t.s, .slice A2 t.l.length c2, .int .i64 (a2 : Nat), .int .i64 (b2 : Nat), .int .i64 0] 125))
        have hH2 := hH.move (Nat.le_refl _) (Nat.le_refl _) (fun p _ p2 => World.cell?_alloc_lt w2 (.cells #[.int .i64 t.k, .int .u64 t.n, .string t.s, .slice A2 t.l.length c2, .int .i64 (a2 : Nat), .int .i64 (b2 : Nat), .int .i64 0] 125) p p2)
        have hxk := Blk.new w2 125 #[.int .i64 t.k, .int .u64 t.n, .string t.s, .slice A2 t.l.length c2, .int .i64 (a2 : Nat), .int .i64 (b2 : Nat), .int .i64 0]
        have hk3 := hk2.alloc (.cells #[.int .i64 t.k, .int .u64 t.n, .string t.s, .slice A2 t.l.length c2, .int .i64 (a2 : Nat), .int .i64 (b2 : Nat), .int .i64 0] 125)
        have hk1' := (hk1.below hG hw1).alloc (.cells #[.int .i64 t.k, .int .u64 t.n, .string t.s, .slice A2 t.l.length c2, .int .i64 (a2 : Nat), .int .i64 (b2 : Nat), .int .i64 0] 125)
        go_wp2_with (at_builtin; refine wpList_append_term rfl _ _ rfl (t := t) rfl hB2 rfl (by simp; omega) hH2 (by simp) (by omega) hown hF.1 hF.2.1 hF.2.2 rfl (by simp) (by omega) ?next)
        case next =>
          intro v3 w3 hB3 hbe3 hz3 hkeep3
          obtain ⟨A3, c3, rfl, hc3⟩ := hB3.form
          have hxk3 := hkeep3 _ _ _ (by decide) hxk
          have hk4 := Blk.below hk3 hbe3 (by omega)
          have hk5 := Blk.below hk1' hbe3 (by omega)
          clear hkeep3 q0 q1 q2 q3 q4 q5 q6 z0 z1 z2 z3 z4 z5 z6
          have q0 := hk4.cell 0
          have q1 := hk4.cell 1
          have q2 := hk4.cell 2
          have q3 := hk4.cell 3
          have q4 := hk4.cell 4
          have q5 := hk4.cell 5
          have q6 := hk4.cell 6
          have y4 := hxk3.cell 4
          have y5 := hxk3.cell 5
          simp at q0 q1 q2 q3 q4 q5 q6 y4 y5
          have f3 := hk4.frozen 3
          have f4 := hk4.frozen 4
          have f5 := hk4.frozen 5
          have hzz := hk4.lt
          go_wp2_with fail
          have hBw3 := ((hbw.trans (hG.mono hbw.size)).alloc (Nat.le_trans hbw.size hG.size) (.cells #[.int .i64 t.k, .int .u64 t.n, .string t.s, .slice A2 t.l.length c2, .int .i64 (a2 : Nat), .int .i64 (b2 : Nat), .int .i64 0] 125)).trans (hbe3.mono (Nat.le_add_right _ 2))
          have hbox := ((hk4.put 3 (.slice A3 (l ++ [t]).length c3)).put 4 (.int .i64 (a2 : Nat))).put 5 (.int .i64 (b2 : Nat))
          have hlen1 : (l ++ [t]).length = l.length + 1 := by simp
          rw [hlen1] at hbox
          refine ⟨⟨l ++ [t], A3, c3, a2, b2, ?_, by omega, ?_, ?_, ?_, ha2, by omega, hb42, ?_, ?_, ?_⟩, by simp [intOf]⟩
          · rw [hlen1, show cnt - (l.length + 1) = m by have := HMm.out; omega]
          · rw [hlen1]
            simpa using hbox
          · exact ((hk5.far (p := ⟨w.heap.size, 3, none⟩) (by show w.heap.size + 1 ≠ w.heap.size; omega) _).far (p := ⟨w.heap.size, 4, none⟩) (by show w.heap.size + 1 ≠ w.heap.size; omega) _).far (p := ⟨w.heap.size, 5, none⟩) (by show w.heap.size + 1 ≠ w.heap.size; omega) _
          · exact ((hB3.kept (grown_set _ w.heap.size 3 _) (fun g e => by injection e with e; omega)).kept (grown_set _ w.heap.size 4 _) (fun g e => by injection e with e; omega)).kept (grown_set _ w.heap.size 5 _) (fun g e => by injection e with e; omega)
          · exact ((hBw3.setCell (p := ⟨w.heap.size, 3, none⟩) (Nat.le_refl _) _).setCell (p := ⟨w.heap.size, 4, none⟩) (Nat.le_refl _) _).setCell (p := ⟨w.heap.size, 5, none⟩) (Nat.le_refl _) _
          · have := hk5.lt; simp only [World.size_setCell]; omega
          · rw [hlen1, HB.out, HR2.out, show cnt - (l.length + 1) = m by have := HMm.out; omega]
            exact lay rfl
    · have HE := lay (show cnt - l.length = 0 by omega)
      rw [HE.out] at HM ⊢
      have hHl := hB.held (by omega)
      have q0 := hk1.cell 0
      have q1 := hk1.cell 1
      have q2 := hk1.cell 2
      have q3 := hk1.cell 3
      have q4 := hk1.cell 4
      have q5 := hk1.cell 5
      have q6 := hk1.cell 6
      simp at q0 q1 q2 q3 q4 q5 q6
      have f0 := hk1.frozen 0
      have f1 := hk1.frozen 1
      have f2 := hk1.frozen 2
      have f3 := hk1.frozen 3
      have f4 := hk1.frozen 4
      have f5 := hk1.frozen 5
      have f6 := hk1.frozen 6
      go_wp2_with fail
      refine bodyPost_ret (v := got k n ⟨#[]⟩ (.slice A l.length c) (a' : Nat) (b' : Nat) 0) (by simp [results, Try.results104, go_sem, hw0, hw1, q0, q1, q2, q3, q4, q5, q6]) rfl ?_
      rw [many_end HM.out]
      refine ⟨seven_below hbw _ _ _ _ _ _ _, A, c, a', rfl, ha', rfl, by omega, hb4', ?_⟩
      exact hHl.move (by omega) (by simp [seven]) fun p p1 p2 => seven_cell _ _ _ _ _ _ _ _ _ _ (by omega)
end Go.Proofs.Ytjlglfjikfpboaa.refReads

/- The document's own reader of terms: read, by how deep it may go. -/

namespace Go.Proofs.Ytjlglfjikfpboaa.refReads
set_option linter.unusedVariables false
set_option linter.unusedSimpArgs false
open Go.RowKit Go.Proofs.Ytjlglfjikfpboaa.base Go.Proofs.Ytjlglfjikfpboaa.tm Go.Proofs.Ytjlglfjikfpboaa.lies Go.Proofs.Ytjlglfjikfpboaa.rights Go.Proofs.Ytjlglfjikfpboaa.copies Go.Proofs.Ytjlglfjikfpboaa.built Go.Proofs.Ytjlglfjikfpboaa.reads Go.Proofs.Ytjlglfjikfpboaa.numLaws

theorem seven_below' {w w1 : World} (h : Below w.heap.size w w1) (a b c d e f i : Value) : Below w.heap.size w (seven w1 w.heap.size a b c d e f i) :=
  ((((((h.setCell (p := ⟨w.heap.size, 0, none⟩) (Nat.le_refl _) a).setCell (p := ⟨w.heap.size, 1, none⟩) (Nat.le_refl _) b).setCell (p := ⟨w.heap.size, 2, none⟩) (Nat.le_refl _) c).setCell (p := ⟨w.heap.size, 3, none⟩) (Nat.le_refl _) d).setCell (p := ⟨w.heap.size, 4, none⟩) (Nat.le_refl _) e).setCell (p := ⟨w.heap.size, 5, none⟩) (Nat.le_refl _) f).setCell (p := ⟨w.heap.size, 6, none⟩) (Nat.le_refl _) i

set_option maxRecDepth 100000 in
set_option maxHeartbeats 400000 in
theorem read_early (s : ByteArray) (a b : Nat) (z err : Int) (w : World) (hs : s.size ≤ maxLen)
    (he : (4000 ≤ b ∧ err = 23) ∨ (b < 4000 ∧ 12 ≤ z ∧ err = 22) ∨ (b < 4000 ∧ z < 12 ∧ s.size ≤ a ∧ err = 20)) (ha : a ≤ s.size) :
    Calls Try.prog 67 #[.string s, .int .i64 (a : Nat), .int .i64 (b : Nat), .int .i64 z] w fun e w' => e = .returned (got 0 0 ⟨#[]⟩ (.slice none 0 0) 0 0 err) ∧ Below w.heap.size w w' := by
  unfold maxLen at hs
  rcases he with ⟨h1, rfl⟩ | ⟨h1, h2, rfl⟩ | ⟨h1, h2, h3, rfl⟩
  all_goals
    go_enter Try.func67, Try.ntmps67
    go_wp2_with (go_at_call 101; refine (wrong_any _ _).mono ?_; rintro e w1 ⟨rfl, hb1⟩; obtain ⟨hc1, hf1⟩ := bcell hb1)
    have hz1 : w.heap.size < w1.heap.size := by have := hb1.size; simp at this; omega
    refine bodyPost_ret (v := got 0 0 ⟨#[]⟩ (.slice none 0 0) 0 0 _) (by simp [results, Try.results67, go_sem, hc1, hz1]) rfl ⟨rfl, ?_⟩
    exact seven_below' (below_call (Below.refl _ _) hb1) _ _ _ _ _ _ _

theorem ratom_at (s : ByteArray) (a n : Nat) (x b : Int) (w : World) (hx : x = (a : Int)) (hs : s.size ≤ maxLen) (ha : a ≤ s.size) (hn : n < 18446744073709551616) :
    Calls Try.prog 103 #[.string s, got 2 0 ⟨#[]⟩ (.slice none 0 0) x b 0, .int .u64 n] w fun e w' => Below w.heap.size w w' ∧
      (4000 < n → e = .returned (got 0 0 ⟨#[]⟩ (.slice none 0 0) 0 0 25)) ∧ (¬ 4000 < n → s.size - a < n → e = .returned (got 0 0 ⟨#[]⟩ (.slice none 0 0) 0 0 20)) ∧
      (¬ 4000 < n → ¬ s.size - a < n → e = .returned (got 2 0 ⟨((s.data.toList.drop a).take n).toArray⟩ (.slice none 0 0) (a + n : Nat) b 0)) := by
  subst hx; exact ratom_any s a n b w hs ha hn

theorem hd_at (s : ByteArray) (a : Nat) (h : a < s.size) : hd (s.data.toList.drop a) = if s[a].toNat < 1 ∨ 5 < s[a].toNat then .bad 21 else match getL (s.extract (a + 1) s.size).data.toList with
    | .bad e => .bad e
    | .ok n m => .ok s[a].toNat n (s.data.toList.drop (a + 1 + m)) := by
  rw [sevens.drop_cons s a h, hd, tail_list]
  cases getL (s.data.toList.drop (a + 1)) <;> simp [Nat.add_comm, Nat.add_left_comm]

set_option maxRecDepth 100000 in
set_option maxHeartbeats 400000 in
theorem read_kind (s : ByteArray) (a b : Nat) (z : Int) (w : World) (hs : s.size ≤ maxLen) (hb : b < 4000) (hz : z < 12) (ha : a < s.size) (hk : s[a].toNat < 1 ∨ 5 < s[a].toNat) :
    Calls Try.prog 67 #[.string s, .int .i64 (a : Nat), .int .i64 (b : Nat), .int .i64 z] w fun e w' => e = .returned (got 0 0 ⟨#[]⟩ (.slice none 0 0) 0 0 21) ∧ Below w.heap.size w w' := by
  unfold maxLen at hs
  have hkb := byte_lt s[a]
  go_enter Try.func67, Try.ntmps67
  go_wp2_with (go_at_call 101; refine (wrong_any _ _).mono ?_; rintro e w1 ⟨rfl, hb1⟩; obtain ⟨hc1, hf1⟩ := bcell hb1)
  all_goals
    have hz1 : w.heap.size < w1.heap.size := by have := hb1.size; simp at this; omega
    refine bodyPost_ret (v := got 0 0 ⟨#[]⟩ (.slice none 0 0) 0 0 21) (by simp [results, Try.results67, go_sem, hc1, hz1]) rfl ⟨rfl, ?_⟩
    exact seven_below' (below_call (Below.refl _ _) hb1) _ _ _ _ _ _ _

set_option maxRecDepth 100000 in
set_option maxHeartbeats 400000 in
theorem read_bad (s : ByteArray) (a b : Nat) (z err : Int) (w : World) (hs : s.size ≤ maxLen) (hb : b < 4000) (hz : z < 12) (ha : a < s.size) (hk1 : 1 ≤ s[a].toNat) (hk5 : s[a].toNat ≤ 5) (hq : getL (s.extract (a + 1) s.size).data.toList = .bad err) :
    Calls Try.prog 67 #[.string s, .int .i64 (a : Nat), .int .i64 (b : Nat), .int .i64 z] w fun e w' => e = .returned (got 0 0 ⟨#[]⟩ (.slice none 0 0) 0 0 err) ∧ Below w.heap.size w w' := by
  have hts := tail_size s (a + 1)
  have hc := refGetNum_bad hq (by omega)
  have hne0 : (err != 0) = true := by simpa using getL_bad_ne hq
  unfold maxLen at hs
  have hkb := byte_lt s[a]
  clear hq
  go_enter Try.func67, Try.ntmps67
  go_wp2_with (first
    | (go_at_call 102; refine (hc _).mono ?_; rintro e w' ⟨rfl, rfl⟩)
    | (go_at_call 101; refine (wrong_any _ _).mono ?_; rintro e w1 ⟨rfl, hb1⟩; obtain ⟨hc1, hf1⟩ := bcell hb1))
  have hz1 : w.heap.size < w1.heap.size := by have := hb1.size; simp at this; omega
  refine bodyPost_ret (v := got 0 0 ⟨#[]⟩ (.slice none 0 0) 0 0 err) (by simp [results, Try.results67, go_sem, hc1, hz1]) rfl ⟨rfl, ?_⟩
  exact seven_below' (below_call (Below.refl _ _) hb1) _ _ _ _ _ _ _
end Go.Proofs.Ytjlglfjikfpboaa.refReads

/- The document's own reader of terms: read at a number, at an atom. -/

namespace Go.Proofs.Ytjlglfjikfpboaa.refReads
set_option linter.unusedVariables false
set_option linter.unusedSimpArgs false
open Go.RowKit Go.Proofs.Ytjlglfjikfpboaa.base Go.Proofs.Ytjlglfjikfpboaa.tm Go.Proofs.Ytjlglfjikfpboaa.lies Go.Proofs.Ytjlglfjikfpboaa.rights Go.Proofs.Ytjlglfjikfpboaa.copies Go.Proofs.Ytjlglfjikfpboaa.built Go.Proofs.Ytjlglfjikfpboaa.reads Go.Proofs.Ytjlglfjikfpboaa.numLaws

set_option maxRecDepth 100000 in
set_option maxHeartbeats 1000000 in
theorem read_num (s : ByteArray) (a b n m : Nat) (z : Int) (w : World) (hs : s.size ≤ maxLen) (hb : b < 4000) (hz : z < 12) (ha : a < s.size) (hk : s[a].toNat = 1 ∨ s[a].toNat = 3) (hq : getL (s.extract (a + 1) s.size).data.toList = .ok n m) :
    Calls Try.prog 67 #[.string s, .int .i64 (a : Nat), .int .i64 (b : Nat), .int .i64 z] w fun e w' => e = .returned (got s[a].toNat n ⟨#[]⟩ (.slice none 0 0) (a + 1 + m : Nat) (b + 1 : Nat) 0) ∧ Below w.heap.size w w' := by
  have hts := tail_size s (a + 1)
  have hc := refGetNum_ok hq (by omega)
  have hm := getL_len hq
  rw [tail_list, List.length_drop] at hm
  simp at hm
  have hn := (getL_back hq).1
  unfold maxLen at hs
  have hkb := byte_lt s[a]
  clear hq
  obtain ⟨k, hk', HK⟩ : ∃ k : Nat, s[a].toNat = k ∧ Hid (k = 1 ∨ k = 3) := ⟨_, rfl, lay hk⟩
  rw [hk']
  refine Calls.mono (R := fun e w' => e = .returned (got k n ⟨#[]⟩ (.slice none 0 0) ((a : Int) + 1 + (m : Int)) ((b : Int) + 1) 0) ∧ Below w.heap.size w w') ?_ fun e w' h => h
  rcases HK.out with rfl | rfl
  all_goals
    clear HK hk
    go_enter Try.func67, Try.ntmps67
    go_wp2_with (go_at_call 102; refine (hc _).mono ?_; rintro e w' ⟨rfl, rfl⟩)
    refine bodyPost_ret (v := got _ n ⟨#[]⟩ (.slice none 0 0) ((a : Int) + 1 + (m : Int)) ((b : Int) + 1) 0) ?_ rfl ⟨rfl, ?_⟩
    · simp [results, Try.results67, go_sem]
    · exact ((Below.refl _ _).alloc (Nat.le_refl _) _).alloc (by simp) _

set_option maxRecDepth 100000 in
set_option maxHeartbeats 1000000 in
theorem read_atom (s : ByteArray) (a b n m : Nat) (z : Int) (w : World) (hs : s.size ≤ maxLen) (hb : b < 4000) (hz : z < 12) (ha : a < s.size) (hk : s[a].toNat = 2) (hq : getL (s.extract (a + 1) s.size).data.toList = .ok n m) (v : Value)
    (hv : ∀ w, Calls Try.prog 103 #[.string s, got 2 0 ⟨#[]⟩ (.slice none 0 0) ((a : Int) + 1 + (m : Int)) ((b : Int) + 1) 0, .int .u64 n] w fun e w' => e = .returned v ∧ Below w.heap.size w w')
    (hform : ∃ k2 n2 s2 A2 l2 c2 a2 b2 e2, v = got k2 n2 s2 (.slice A2 l2 c2) a2 b2 e2) :
    Calls Try.prog 67 #[.string s, .int .i64 (a : Nat), .int .i64 (b : Nat), .int .i64 z] w fun e w' => e = .returned v ∧ Below w.heap.size w w' := by
  have hts := tail_size s (a + 1)
  have hc := refGetNum_ok hq (by omega)
  have hm := getL_len hq
  rw [tail_list, List.length_drop] at hm
  simp at hm
  have hn := (getL_back hq).1
  unfold maxLen at hs
  obtain ⟨k2, n2, s2, A2, l2, c2, a2, b2, e2, rfl⟩ := hform
  have HV := lay hv
  have hblk := (Blk.new w 125 #[.int .i64 0, .int .u64 0, .string ⟨#[]⟩, .slice none 0 0, .int .i64 0, .int .i64 0, .int .i64 0]).alloc (.cells #[.int .i64 2, .int .u64 0, .string ⟨#[]⟩, .slice none 0 0, .int .i64 ((a : Int) + 1 + (m : Int)), .int .i64 ((b : Int) + 1), .int .i64 0] 125)
  clear hq hv
  go_enter Try.func67, Try.ntmps67
  go_wp2_with (first
    | (go_at_call 102; refine (hc _).mono ?_; rintro e w' ⟨rfl, rfl⟩)
    | (go_at_call 103; refine (HV.out _).mono ?_; rintro e w1 ⟨rfl, hb1⟩; have hz1 : w.heap.size < w1.heap.size := by { have := hb1.size; simp at this; omega }; have hk1 := hblk.below hb1 (by simp; omega); have f0 := hk1.frozen 0; have f1 := hk1.frozen 1; have f2 := hk1.frozen 2; have f3 := hk1.frozen 3; have f4 := hk1.frozen 4; have f5 := hk1.frozen 5; have f6 := hk1.frozen 6; have q0 := hk1.cell 0; have q1 := hk1.cell 1; have q2 := hk1.cell 2; have q3 := hk1.cell 3; have q4 := hk1.cell 4; have q5 := hk1.cell 5; have q6 := hk1.cell 6; simp at q0 q1 q2 q3 q4 q5 q6))
  refine bodyPost_ret (v := got k2 n2 s2 (.slice A2 l2 c2) a2 b2 e2) (by simp [results, Try.results67, go_sem, hz1, q0, q1, q2, q3, q4, q5, q6]) rfl ⟨rfl, ?_⟩
  exact seven_below' ((((Below.refl _ _).alloc (Nat.le_refl _) _).alloc (by simp) _).trans (hb1.mono (by simp; omega))) _ _ _ _ _ _ _

end Go.Proofs.Ytjlglfjikfpboaa.refReads

/- The document's own reader of terms: read at a box, at a row. -/

namespace Go.Proofs.Ytjlglfjikfpboaa.refReads
set_option linter.unusedVariables false
set_option linter.unusedSimpArgs false
open Go.RowKit Go.Proofs.Ytjlglfjikfpboaa.base Go.Proofs.Ytjlglfjikfpboaa.tm Go.Proofs.Ytjlglfjikfpboaa.lies Go.Proofs.Ytjlglfjikfpboaa.rights Go.Proofs.Ytjlglfjikfpboaa.copies Go.Proofs.Ytjlglfjikfpboaa.built Go.Proofs.Ytjlglfjikfpboaa.reads Go.Proofs.Ytjlglfjikfpboaa.numLaws

/-- what more leaves, by what it says -/
def NVal (s : ByteArray) (k n : Int) (b : Nat) (r : Res (List T)) (W w' : World) (v : Value) : Prop :=
  match r with
  | .bad err => err ≠ 0 ∧ v = got 0 0 ⟨#[]⟩ (.slice none 0 0) 0 0 err
  | .ok l r b' => ∃ (A : Option Addr) (c a' : Nat), v = got k n ⟨#[]⟩ (.slice A l.length c) (a' : Nat) (b' : Nat) 0 ∧ a' ≤ s.size ∧ s.data.toList.drop a' = r ∧ b ≤ b' ∧ b' ≤ 4000 ∧ Held w' W.heap.size w'.heap.size l (.slice A l.length c)
theorem nval {s : ByteArray} {k n : Int} {b : Nat} {r : Res (List T)} {W w' : World} {e : Ending} (h : NPost W s k n b r e w') :
    ∃ k2 n2 s2 A2 l2 c2 a2 b2 e2, e = .returned (got k2 n2 s2 (.slice A2 l2 c2) a2 b2 e2) ∧ Below W.heap.size W w' ∧ NVal s k n b r W w' (got k2 n2 s2 (.slice A2 l2 c2) a2 b2 e2) := by
  cases r with
  | bad err => obtain ⟨h1, h2, rfl⟩ := h; exact ⟨_, _, _, _, _, _, _, _, _, rfl, h1, h2, rfl⟩
  | ok l r b' => obtain ⟨h1, A, c, a', rfl, h2, h3, h4, h5, h6⟩ := h; exact ⟨_, _, _, _, _, _, _, _, _, rfl, h1, A, c, a', rfl, h2, h3, h4, h5, h6⟩

set_option maxRecDepth 100000 in
set_option maxHeartbeats 1000000 in
theorem read_box (s : ByteArray) (a b n m : Nat) (z : Int) (w : World) (hs : s.size ≤ maxLen) (hb : b < 4000) (hz : z < 12) (ha : a < s.size) (hk : s[a].toNat = 4) (hq : getL (s.extract (a + 1) s.size).data.toList = .ok n m) (P : World → World → Value → Prop)
    (hv : ∀ w, Calls Try.prog 104 #[.string s, got 4 n ⟨#[]⟩ (.slice none 0 0) ((a : Int) + 1 + (m : Int)) ((b : Int) + 1) 0, .int .u64 1, .int .i64 z] w fun e w' => ∃ k2 n2 s2 A2 l2 c2 a2 b2 e2, e = .returned (got k2 n2 s2 (.slice A2 l2 c2) a2 b2 e2) ∧ Below w.heap.size w w' ∧ P w w' (got k2 n2 s2 (.slice A2 l2 c2) a2 b2 e2)) :
    Calls Try.prog 67 #[.string s, .int .i64 (a : Nat), .int .i64 (b : Nat), .int .i64 z] w fun e w' => ∃ v W w1 c0 c1 c2 c3 c4 c5 c6, e = .returned v ∧ Below w.heap.size w w' ∧ P W w1 v ∧ w' = seven w1 w.heap.size c0 c1 c2 c3 c4 c5 c6 ∧ w.heap.size < W.heap.size := by
  have hts := tail_size s (a + 1)
  have hc := refGetNum_ok hq (by omega)
  have hm := getL_len hq
  rw [tail_list, List.length_drop] at hm
  simp at hm
  have hn := (getL_back hq).1
  unfold maxLen at hs
  have HV := lay hv
  have hblk := (Blk.new w 125 #[.int .i64 0, .int .u64 0, .string ⟨#[]⟩, .slice none 0 0, .int .i64 0, .int .i64 0, .int .i64 0]).alloc (.cells #[.int .i64 4, .int .u64 n, .string ⟨#[]⟩, .slice none 0 0, .int .i64 ((a : Int) + 1 + (m : Int)), .int .i64 ((b : Int) + 1), .int .i64 0] 125)
  clear hq hv
  go_enter Try.func67, Try.ntmps67
  go_wp2_with (first
    | (go_at_call 102; refine (hc _).mono ?_; rintro e w' ⟨rfl, rfl⟩)
    | (go_at_call 104; refine (HV.out _).mono ?_; rintro e w1 ⟨k2, n2, s2, A2, l2, c2, a2, b2, e2, rfl, hb1, hP⟩; have HP := lay hP; clear hP; have hz1 : w.heap.size < w1.heap.size := by { have := hb1.size; simp at this; omega }; have hk1 := hblk.below hb1 (by simp; omega); have f0 := hk1.frozen 0; have f1 := hk1.frozen 1; have f2 := hk1.frozen 2; have f3 := hk1.frozen 3; have f4 := hk1.frozen 4; have f5 := hk1.frozen 5; have f6 := hk1.frozen 6; have q0 := hk1.cell 0; have q1 := hk1.cell 1; have q2 := hk1.cell 2; have q3 := hk1.cell 3; have q4 := hk1.cell 4; have q5 := hk1.cell 5; have q6 := hk1.cell 6; simp at q0 q1 q2 q3 q4 q5 q6))
  refine bodyPost_ret (v := got k2 n2 s2 (.slice A2 l2 c2) a2 b2 e2) (by simp [results, Try.results67, go_sem, hz1, q0, q1, q2, q3, q4, q5, q6]) rfl ⟨_, _, w1, _, _, _, _, _, _, _, rfl, ?_, HP.out, rfl, by simp; omega⟩
  exact seven_below' ((((Below.refl _ _).alloc (Nat.le_refl _) _).alloc (by simp) _).trans (hb1.mono (by simp; omega))) _ _ _ _ _ _ _

set_option maxRecDepth 100000 in
set_option maxHeartbeats 1000000 in
theorem read_row (s : ByteArray) (a b n m : Nat) (z : Int) (w : World) (hs : s.size ≤ maxLen) (hb : b < 4000) (hz : z < 12) (ha : a < s.size) (hk : s[a].toNat = 5) (hq : getL (s.extract (a + 1) s.size).data.toList = .ok n m) (P : World → World → Value → Prop)
    (hv : ∀ w, Calls Try.prog 104 #[.string s, got 5 0 ⟨#[]⟩ (.slice none 0 0) ((a : Int) + 1 + (m : Int)) ((b : Int) + 1) 0, .int .u64 n, .int .i64 z] w fun e w' => ∃ k2 n2 s2 A2 l2 c2 a2 b2 e2, e = .returned (got k2 n2 s2 (.slice A2 l2 c2) a2 b2 e2) ∧ Below w.heap.size w w' ∧ P w w' (got k2 n2 s2 (.slice A2 l2 c2) a2 b2 e2)) :
    Calls Try.prog 67 #[.string s, .int .i64 (a : Nat), .int .i64 (b : Nat), .int .i64 z] w fun e w' => ∃ v W w1 c0 c1 c2 c3 c4 c5 c6, e = .returned v ∧ Below w.heap.size w w' ∧ P W w1 v ∧ w' = seven w1 w.heap.size c0 c1 c2 c3 c4 c5 c6 ∧ w.heap.size < W.heap.size := by
  have hts := tail_size s (a + 1)
  have hc := refGetNum_ok hq (by omega)
  have hm := getL_len hq
  rw [tail_list, List.length_drop] at hm
  simp at hm
  have hn := (getL_back hq).1
  unfold maxLen at hs
  have HV := lay hv
  have hblk := (Blk.new w 125 #[.int .i64 0, .int .u64 0, .string ⟨#[]⟩, .slice none 0 0, .int .i64 0, .int .i64 0, .int .i64 0]).alloc (.cells #[.int .i64 5, .int .u64 0, .string ⟨#[]⟩, .slice none 0 0, .int .i64 ((a : Int) + 1 + (m : Int)), .int .i64 ((b : Int) + 1), .int .i64 0] 125)
  clear hq hv
  go_enter Try.func67, Try.ntmps67
  go_wp2_with (first
    | (go_at_call 102; refine (hc _).mono ?_; rintro e w' ⟨rfl, rfl⟩)
    | (go_at_call 104; refine (HV.out _).mono ?_; rintro e w1 ⟨k2, n2, s2, A2, l2, c2, a2, b2, e2, rfl, hb1, hP⟩; have HP := lay hP; clear hP; have hz1 : w.heap.size < w1.heap.size := by { have := hb1.size; simp at this; omega }; have hk1 := hblk.below hb1 (by simp; omega); have f0 := hk1.frozen 0; have f1 := hk1.frozen 1; have f2 := hk1.frozen 2; have f3 := hk1.frozen 3; have f4 := hk1.frozen 4; have f5 := hk1.frozen 5; have f6 := hk1.frozen 6; have q0 := hk1.cell 0; have q1 := hk1.cell 1; have q2 := hk1.cell 2; have q3 := hk1.cell 3; have q4 := hk1.cell 4; have q5 := hk1.cell 5; have q6 := hk1.cell 6; simp at q0 q1 q2 q3 q4 q5 q6))
  refine bodyPost_ret (v := got k2 n2 s2 (.slice A2 l2 c2) a2 b2 e2) (by simp [results, Try.results67, go_sem, hz1, q0, q1, q2, q3, q4, q5, q6]) rfl ⟨_, _, w1, _, _, _, _, _, _, _, rfl, ?_, HP.out, rfl, by simp; omega⟩
  exact seven_below' ((((Below.refl _ _).alloc (Nat.le_refl _) _).alloc (by simp) _).trans (hb1.mono (by simp; omega))) _ _ _ _ _ _ _
end Go.Proofs.Ytjlglfjikfpboaa.refReads

/- The document's own reader of terms: read at any place. -/

namespace Go.Proofs.Ytjlglfjikfpboaa.refReads
set_option linter.unusedVariables false
set_option linter.unusedSimpArgs false
open Go.RowKit Go.Proofs.Ytjlglfjikfpboaa.base Go.Proofs.Ytjlglfjikfpboaa.tm Go.Proofs.Ytjlglfjikfpboaa.lies Go.Proofs.Ytjlglfjikfpboaa.rights Go.Proofs.Ytjlglfjikfpboaa.copies Go.Proofs.Ytjlglfjikfpboaa.built Go.Proofs.Ytjlglfjikfpboaa.reads Go.Proofs.Ytjlglfjikfpboaa.numLaws

theorem read_list (s : ByteArray) (a b k n m cnt d : Nat) (kk nn : Int) (w : World) (e : Ending) (w' : World) (hkk : kk = (k : Int)) (hnn : nn = (n : Int)) (hk : k ≤ 5) (hn : n < 18446744073709551616)
    (h : ∃ v W w1 c0 c1 c2 c3 c4 c5 c6, e = .returned v ∧ Below w.heap.size w w' ∧ NVal s kk nn (b + 1) (many (readT d) cnt (s.data.toList.drop (a + 1 + m)) (b + 1)) W w1 v ∧ w' = seven w1 w.heap.size c0 c1 c2 c3 c4 c5 c6 ∧ w.heap.size < W.heap.size) :
    GPost w s b (match many (readT d) cnt (s.data.toList.drop (a + 1 + m)) (b + 1) with | .bad e => .bad e | .ok l r b' => .ok (.mk k n ⟨#[]⟩ l) r b') e w' := by
  obtain ⟨v, W, w1, c0, c1, c2, c3, c4, c5, c6, rfl, hb, hv, rfl, hW⟩ := h
  subst hkk hnn
  cases hm : many (readT d) cnt (s.data.toList.drop (a + 1 + m)) (b + 1) with
  | bad err =>
    rw [hm] at hv
    obtain ⟨h1, rfl⟩ := hv
    exact ⟨hb, h1, rfl⟩
  | ok l r b' =>
    rw [hm] at hv
    obtain ⟨A, c, a', rfl, h1, h2, h3, h4, h5⟩ := hv
    refine ⟨hb, A, c, a', rfl, h1, h2, by omega, h4, ?_, ?_⟩
    · exact h5.move (by omega) (by simp [seven]) fun p p1 p2 => seven_cell _ _ _ _ _ _ _ _ _ _ (by omega)
    · exact ⟨by show (-9223372036854775808 : Int) ≤ (k : Int) ∧ (k : Int) ≤ 9223372036854775807; omega, by show (0 : Int) ≤ (n : Int) ∧ (n : Int) < 18446744073709551616; omega, Nat.zero_le _⟩

theorem read_all (d : Nat) : ReadAt d := by
  induction d with
  | zero =>
    intro s a b x y z w hs ha hb hx hy hz _
    subst hx hy
    unfold readT
    by_cases h : 4000 ≤ b
    · rw [if_pos h]; exact (read_early s a b z 23 w hs (.inl ⟨h, rfl⟩) ha).mono fun e w' h => ⟨h.2, by decide, h.1⟩
    · rw [if_neg h]; exact (read_early s a b z 22 w hs (.inr (.inl ⟨by omega, by omega, rfl⟩)) ha).mono fun e w' h => ⟨h.2, by decide, h.1⟩
  | succ d ih =>
    intro s a b x y z w hs ha hb hx hy hz hd12
    subst hx hy
    have hz12 : z < 12 := by omega
    have hzd : z + 1 = 12 - (d : Int) := by omega
    unfold readT
    by_cases h : 4000 ≤ b
    · rw [if_pos h]; exact (read_early s a b z 23 w hs (.inl ⟨h, rfl⟩) ha).mono fun e w' h => ⟨h.2, by decide, h.1⟩
    · rw [if_neg h]
      have hb4 : b < 4000 := by omega
      by_cases hl : a < s.size
      · rw [hd_at s a hl]
        by_cases hk : s[a].toNat < 1 ∨ 5 < s[a].toNat
        · rw [if_pos hk]; exact (read_kind s a b z w hs hb4 hz12 hl hk).mono fun e w' h => ⟨h.2, by decide, h.1⟩
        · rw [if_neg hk]
          have hk1 : 1 ≤ s[a].toNat := by omega
          have hk5 : s[a].toNat ≤ 5 := by omega
          cases hq : getL (s.extract (a + 1) s.size).data.toList with
          | bad err => exact (read_bad s a b z err w hs hb4 hz12 hl hk1 hk5 hq).mono fun e w' h => ⟨h.2, getL_bad_ne hq, h.1⟩
          | ok n m =>
            have hm := getL_len hq
            rw [tail_list, List.length_drop] at hm
            simp at hm
            have hn := (getL_back hq).1
            have hlen : (s.data.toList.drop (a + 1 + m)).length = s.size - (a + 1 + m) := by simp
            have ham : a + 1 + m ≤ s.size := by omega
            have hx : (a : Int) + 1 + (m : Int) = ((a + 1 + m : Nat) : Int) := by omega
            simp only [body]
            by_cases h2 : s[a].toNat = 2
            · rw [if_pos h2]
              have hat := fun w => ratom_at s (a + 1 + m) n ((a : Int) + 1 + (m : Int)) ((b : Int) + 1) w hx hs ham hn
              by_cases c1 : 4000 < n
              · rw [if_pos c1]
                exact (read_atom s a b n m z w hs hb4 hz12 hl h2 hq _ (fun w => (hat w).mono fun e w' h => ⟨h.2.1 c1, h.1⟩) ⟨_, _, _, _, _, _, _, _, _, rfl⟩).mono fun e w' h => ⟨h.2, by decide, h.1⟩
              · rw [if_neg c1, hlen]
                by_cases c2 : s.size - (a + 1 + m) < n
                · rw [if_pos c2]
                  exact (read_atom s a b n m z w hs hb4 hz12 hl h2 hq _ (fun w => (hat w).mono fun e w' h => ⟨h.2.2.1 c1 c2, h.1⟩) ⟨_, _, _, _, _, _, _, _, _, rfl⟩).mono fun e w' h => ⟨h.2, by decide, h.1⟩
                · rw [if_neg c2]
                  refine (read_atom s a b n m z w hs hb4 hz12 hl h2 hq _ (fun w => (hat w).mono fun e w' h => ⟨h.2.2.2 c1 c2, h.1⟩) ⟨_, _, _, _, _, _, _, _, _, rfl⟩).mono fun e w' h => ⟨h.2, none, 0, a + 1 + m + n, h.1, by omega, ?_, by omega, by omega, Held.nil _ _ _, ?_⟩
                  · rw [List.drop_drop]
                  · exact ⟨by show (-9223372036854775808 : Int) ≤ 2 ∧ (2 : Int) ≤ 9223372036854775807; omega, by show (0 : Int) ≤ 0 ∧ (0 : Int) < 18446744073709551616; omega, by show ((s.data.toList.drop (a + 1 + m)).take n).length ≤ maxLen; rw [List.length_take]; unfold maxLen; omega⟩
            · rw [if_neg h2]
              by_cases h5 : s[a].toNat = 5
              · rw [if_pos h5]
                refine (read_row s a b n m z w hs hb4 hz12 hl h5 hq (NVal s 5 0 (b + 1) (many (readT d) n (s.data.toList.drop (a + 1 + m)) (b + 1))) (fun w => (more_any d ih (by omega) s 5 0 (a + 1 + m) (b + 1) n _ _ z _ w hs ham (by omega) hx (by omega) hzd rfl hn).mono fun e w' h => nval h)).mono fun e w' h => ?_
                exact read_list s a b 5 0 m n d 5 0 w e w' rfl rfl (by omega) (by omega) h
              · rw [if_neg h5]
                by_cases h4 : s[a].toNat = 4
                · rw [if_pos h4]
                  refine (read_box s a b n m z w hs hb4 hz12 hl h4 hq (NVal s 4 n (b + 1) (many (readT d) 1 (s.data.toList.drop (a + 1 + m)) (b + 1))) (fun w => (more_any d ih (by omega) s 4 n (a + 1 + m) (b + 1) 1 _ _ z _ w hs ham (by omega) hx (by omega) hzd rfl (by omega)).mono fun e w' h => nval h)).mono fun e w' h => ?_
                  exact read_list s a b 4 n m 1 d 4 n w e w' rfl rfl (by omega) hn h
                · rw [if_neg h4]
                  refine (read_num s a b n m z w hs hb4 hz12 hl (by omega) hq).mono fun e w' h => ⟨h.2, none, 0, a + 1 + m, h.1, ham, rfl, by omega, by omega, Held.nil _ _ _, ?_⟩
                  exact ⟨by show (-9223372036854775808 : Int) ≤ (s[a].toNat : Int) ∧ (s[a].toNat : Int) ≤ 9223372036854775807; omega, by show (0 : Int) ≤ (n : Int) ∧ (n : Int) < 18446744073709551616; omega, Nat.zero_le _⟩
      · rw [List.drop_of_length_le (by simp; omega)]
        exact (read_early s a b z 20 w hs (.inr (.inr ⟨hb4, hz12, by omega, rfl⟩)) ha).mono fun e w' h => ⟨h.2, by decide, h.1⟩

theorem dec1_below {w w2 : World} {o : Obj} (hG : Below (w.alloc o).heap.size (w.alloc o) w2) (a b c d : Value) (q : Obj) : Below w.heap.size w ((four w2 w.heap.size 0 a b c d).alloc q) := by
  have h : Below w.heap.size w w2 := ((Below.refl _ _).alloc (Nat.le_refl _) o).trans (hG.mono (by simp))
  exact (four_below h (Nat.le_refl _) a b c d).alloc (by rw [four_size]; exact h.size) q
theorem dec1_lies {w w2 : World} {o : Obj} {t : T} {v : Value} (hH : Held w2 (w.alloc o).heap.size w2.heap.size t.l v) (hF : Fits t) (a b c d : Value) (q : Obj) :
    Lies ((four w2 w.heap.size 0 a b c d).alloc q) ((four w2 w.heap.size 0 a b c d).alloc q).heap.size t v := by
  refine Held.lies (lo := (w.alloc o).heap.size) (hi := w2.heap.size) (hH.move (Nat.le_refl _) (Nat.le_refl _) fun p p1 p2 => ?_) hF.1 hF.2.1 hF.2.2 (by rw [World.size_alloc, four_size]; omega)
  simp only [World.size_alloc] at p1
  rw [World.cell?_alloc_lt _ _ _ (by rw [four_size]; exact p2), four_cell _ _ _ _ _ _ _ _ (by omega)]

set_option maxRecDepth 100000 in
set_option maxHeartbeats 400000 in
theorem refDecode_any (s : ByteArray) (w : World) (hs : s.size ≤ maxLen) :
    Calls Try.prog 29 #[.string s] w (DPost w (tm.decode s.data.toList)) := by
  have hcall := fun w => read_all 12 s 0 0 0 0 0 w hs (Nat.zero_le _) (by omega) rfl rfl (by omega) (Nat.le_refl _)
  simp only [List.drop_zero] at hcall
  have hres := Blk.new w 39 #[.int .i64 0, .int .u64 0, .string ⟨#[]⟩, .slice none 0 0]
  cases hq : readT 12 s.data.toList 0 with
  | bad err =>
    have HD := lay (show tm.decode s.data.toList = .bad err by unfold tm.decode; rw [hq])
    rw [hq] at hcall
    rw [HD.out]
    clear hq
    go_enter Try.func29, Try.ntmps29
    go_wp2_with fail
    refine (hcall _).mono ?_
    rintro e w2 ⟨hG, hne, rfl⟩
    have d2 : (err != 0) = true := by simpa using hne
    have HN := lay hne
    clear hne
    have hgw : w.heap.size < w2.heap.size := by have := hG.size; simp at this; omega
    have hB0 := hres.below hG (by simp)
    have q0 := hB0.cell 0
    have q1 := hB0.cell 1
    have q2 := hB0.cell 2
    have q3 := hB0.cell 3
    simp at q0 q1 q2 q3
    have fq0 := hB0.frozen 0
    have fq1 := hB0.frozen 1
    have fq2 := hB0.frozen 2
    have fq3 := hB0.frozen 3
    go_wp2_with fail
    go_region
    go_wp2_with fail
    refine bodyPost_ret (v := .tuple #[.agg #[.int .i64 0, .int .u64 0, .string ⟨#[]⟩, .slice none 0 0], .int .i64 err]) (by simp [results, Try.results29, go_sem, q0, q1, q2, q3, hgw]) rfl ?_
    exact ⟨(dec1_below hG _ _ _ _ _).drew, HN.out, rfl⟩
  | ok t r b =>
    rw [hq] at hcall
    by_cases hr : r = []
    · have HD := lay (show tm.decode s.data.toList = .ok t by unfold tm.decode; rw [hq]; exact if_pos hr)
      rw [HD.out]
      clear hq
      go_enter Try.func29, Try.ntmps29
      go_wp2_with fail
      refine (hcall _).mono ?_
      rintro e w2 ⟨hG, A2, c2, a2, rfl, ha2, hr2, hbb, hb4, hH, hF⟩
      have e0 : ¬ (a2 : Int) < (s.size : Int) := by
        have := congrArg List.length hr2
        rw [hr] at this
        simp at this
        omega
      clear hr hr2
      have hgw : w.heap.size < w2.heap.size := by have := hG.size; simp at this; omega
      have hB0 := hres.below hG (by simp)
      have q0 := hB0.cell 0
      have q1 := hB0.cell 1
      have q2 := hB0.cell 2
      have q3 := hB0.cell 3
      simp at q0 q1 q2 q3
      have fq0 := hB0.frozen 0
      have fq1 := hB0.frozen 1
      have fq2 := hB0.frozen 2
      have fq3 := hB0.frozen 3
      go_wp2_with fail
      refine bodyPost_ret (v := .tuple #[.agg #[.int .i64 t.k, .int .u64 t.n, .string t.s, .slice A2 t.l.length c2], .int .i64 0]) (by simp [results, Try.results29, go_sem, q0, q1, q2, q3, hgw]) rfl ?_
      exact ⟨dec1_below hG _ _ _ _ _, A2, c2, rfl, dec1_lies hH hF _ _ _ _ _⟩
    · have HD := lay (show tm.decode s.data.toList = .bad 24 by unfold tm.decode; rw [hq]; exact if_neg hr)
      rw [HD.out]
      clear hq
      go_enter Try.func29, Try.ntmps29
      go_wp2_with fail
      refine (hcall _).mono ?_
      rintro e w2 ⟨hG, A2, c2, a2, rfl, ha2, hr2, hbb, hb4, hH, hF⟩
      have e0 : (a2 : Int) < (s.size : Int) := by
        by_cases h : a2 < s.size
        · omega
        · refine absurd ?_ hr
          rw [← hr2]
          exact List.drop_of_length_le (by simp; omega)
      clear hr hr2
      have hgw : w.heap.size < w2.heap.size := by have := hG.size; simp at this; omega
      have hB0 := hres.below hG (by simp)
      have q0 := hB0.cell 0
      have q1 := hB0.cell 1
      have q2 := hB0.cell 2
      have q3 := hB0.cell 3
      simp at q0 q1 q2 q3
      have fq0 := hB0.frozen 0
      have fq1 := hB0.frozen 1
      have fq2 := hB0.frozen 2
      have fq3 := hB0.frozen 3
      go_wp2_with fail
      refine bodyPost_ret (v := .tuple #[.agg #[.int .i64 0, .int .u64 0, .string ⟨#[]⟩, .slice none 0 0], .int .i64 24]) (by simp [results, Try.results29, go_sem, q0, q1, q2, q3, hgw]) rfl ?_
      exact ⟨dec1_below hG _ _ _ _ _, by decide, rfl⟩
end Go.Proofs.Ytjlglfjikfpboaa.refReads

/- The walks of the laws TermDecodes and TermReads: they answer true and write nothing that was there. -/

namespace Go.Proofs.Ytjlglfjikfpboaa.decs
set_option linter.unusedVariables false
set_option linter.unusedSimpArgs false
open Go.RowKit Go.Proofs.Ytjlglfjikfpboaa.base Go.Proofs.Ytjlglfjikfpboaa.tm Go.Proofs.Ytjlglfjikfpboaa.lies Go.Proofs.Ytjlglfjikfpboaa.rights Go.Proofs.Ytjlglfjikfpboaa.encs Go.Proofs.Ytjlglfjikfpboaa.refEncs Go.Proofs.Ytjlglfjikfpboaa.cuts Go.Proofs.Ytjlglfjikfpboaa.refReads

theorem refDecode_bad {s : ByteArray} {err : Int} (h : tm.decode s.data.toList = .bad err) (hs : s.size ≤ maxLen) (w : World) :
    Calls Try.prog 29 #[.string s] w fun e w' => e = .returned (.tuple #[.agg #[.int .i64 0, .int .u64 0, .string ⟨#[]⟩, .slice none 0 0], .int .i64 err]) ∧ Below w.heap.size w w' := by
  have := refDecode_any s w hs
  rw [h] at this
  exact this.mono fun e w' ⟨hb, _, he⟩ => ⟨he, hb⟩
theorem refDecode_ok {s : ByteArray} {t : T} (h : tm.decode s.data.toList = .ok t) (hs : s.size ≤ maxLen) (w : World) :
    Calls Try.prog 29 #[.string s] w fun e w' => ∃ (A : Option Addr) (c : Nat), e = .returned (.tuple #[.agg #[.int .i64 t.k, .int .u64 t.n, .string t.s, .slice A t.l.length c], .int .i64 0]) ∧ Lies w' w'.heap.size t (.slice A t.l.length c) ∧ Below w.heap.size w w' := by
  have := refDecode_any s w hs
  rw [h] at this
  exact this.mono fun e w' ⟨hb, A, c, he, hL⟩ => ⟨A, c, he, hL, hb⟩

end Go.Proofs.Ytjlglfjikfpboaa.decs

/- The document's own Copy. -/

namespace Go.Proofs.Ytjlglfjikfpboaa.copyT
set_option linter.unusedVariables false
set_option linter.unusedSimpArgs false
open Go.RowKit Go.Proofs.Ytjlglfjikfpboaa.base Go.Proofs.Ytjlglfjikfpboaa.tm Go.Proofs.Ytjlglfjikfpboaa.lies Go.Proofs.Ytjlglfjikfpboaa.rights Go.Proofs.Ytjlglfjikfpboaa.copies Go.Proofs.Ytjlglfjikfpboaa.built Go.Proofs.Ytjlglfjikfpboaa.refReads

/-- what Copy leaves -/
def CPost (W : World) (t : T) (e : Ending) (w' : World) : Prop :=
  Below W.heap.size W w' ∧ ∃ (A : Option Addr) (c : Nat), e = .returned (T.val t (.slice A t.l.length c)) ∧ Held w' W.heap.size w'.heap.size t.l (.slice A t.l.length c)

/-- at the loop's head -/
def CHead (W : World) (t : T) (i : Value) (wr : World) : Prop :=
  ∃ (j : Nat) (l : List T) (A : Option Addr) (c : Nat), i = .int .i64 j ∧ j ≤ t.l.length ∧ l = t.l.take j ∧ l.length = j ∧ Blk wr (W.heap.size + 1 + 1) 39 #[.int .i64 t.k, .int .u64 t.n, .string t.s, .slice A l.length c] ∧
    Blk wr (W.heap.size + 1) 39 #[.int .i64 0, .int .u64 0, .string ⟨#[]⟩, .slice none 0 0] ∧ Built (W.heap.size + 3) wr l (.slice A l.length c) ∧ Below W.heap.size W wr ∧ W.heap.size + 3 ≤ wr.heap.size

set_option maxRecDepth 100000 in
set_option maxHeartbeats 800000 in
theorem copy_any (N : Nat) : ∀ (t : T) (v : Value) (w : World), t.size ≤ N → Lies w w.heap.size t v → Calls Try.prog 127 #[T.val t v] w (CPost w t) := by
  induction N with
  | zero => intro t v w h; have := size_pos t; omega
  | succ N ih =>
    intro t v w hN hL
    obtain ⟨A, c, xs, rfl, hk, hn, hs, hlc, hc, hr, hl⟩ := hL.open_
    have HS := lay (size_eq t)
    have hN' : sizeL t.l ≤ N := by rw [size_eq] at hN; omega
    clear hN hL
    have hb0 := ((Blk.new w 39 #[.int .i64 t.k, .int .u64 t.n, .string t.s, .slice A t.l.length c]).alloc (.cells #[.int .i64 0, .int .u64 0, .string ⟨#[]⟩, .slice none 0 0] 39)).alloc (.cells #[.int .i64 t.k, .int .u64 t.n, .string t.s, .slice none 0 0] 39)
    have hb1 := (Blk.new (w.alloc (.cells #[.int .i64 t.k, .int .u64 t.n, .string t.s, .slice A t.l.length c] 39)) 39 #[.int .i64 0, .int .u64 0, .string ⟨#[]⟩, .slice none 0 0]).alloc (.cells #[.int .i64 t.k, .int .u64 t.n, .string t.s, .slice none 0 0] 39)
    have hb2 := Blk.new ((w.alloc (.cells #[.int .i64 t.k, .int .u64 t.n, .string t.s, .slice A t.l.length c] 39)).alloc (.cells #[.int .i64 0, .int .u64 0, .string ⟨#[]⟩, .slice none 0 0] 39)) 39 #[.int .i64 t.k, .int .u64 t.n, .string t.s, .slice none 0 0]
    simp only [World.size_alloc] at hb1 hb2
    go_enter Try.func127, Try.ntmps127
    go_wp2_with fail
    go_loopw [17] (fun i wr => CHead w t i wr) (fun i _ => t.l.length - (intOf i).toNat)
    case atStart => exact ⟨0, [], none, 0, rfl, Nat.zero_le _, rfl, rfl, hb2, hb1, Built.nil _ _, (((Below.refl _ _).alloc (Nat.le_refl _) _).alloc (by simp) _).alloc (by simp; omega) _, by simp⟩
    case round =>
      clear hb0 hb1 hb2
      obtain ⟨j, l, A1, c1, rfl, hj, hlj', hll', hk0, hk1, hB, hbw, hzr⟩ := hrel
      have z0 := hk0.cell 0
      have z1 := hk0.cell 1
      have z2 := hk0.cell 2
      have z3 := hk0.cell 3
      simp at z0 z1 z2 z3
      have f3 := hk0.frozen 3
      by_cases hlt : j < t.l.length
      · obtain ⟨b0, off, A', c', rfl, hbl, hv, c0, c1', c2, c3⟩ := at_cells (hr.below hbw) (hl.below hbw) hlt
        obtain ⟨_, _, _, hvv, hk', hn', hs', _⟩ := hv.open_
        have HLJ := lay hlj'
        have HLL := lay hll'
        have hle56 : (l.length + 1) * 56 ≤ 140737488355328 := by omega
        clear hlj' hll'
        have hg := size_get t.l j hlt
        have hv1 := (hv.now (by omega)).later (Nat.le_refl _) (.cells #[.int .i64 t.l[j].k, .int .u64 t.l[j].n, .string t.l[j].s, .slice A' t.l[j].l.length c'] 39)
        have hcall := ih t.l[j] _ _ (by omega) hv1
        go_wp2_with fail
        refine hcall.mono ?_
        rintro e w2 ⟨hG, A2, c2', rfl, hH⟩
        have hown := fun k hk => (hB.own k hk).2
        have hzw2 := hG.size
        simp only [World.size_alloc] at hzw2
        have hk2 := (hk0.alloc (.cells #[.int .i64 t.l[j].k, .int .u64 t.l[j].n, .string t.l[j].s, .slice A' t.l[j].l.length c'] 39)).below hG (by simp; omega)
        have q3 := hk2.cell 3
        simp at q3
        have hbx := (Below.refl wr.heap.size wr).alloc (Nat.le_refl _) (.cells #[.int .i64 t.l[j].k, .int .u64 t.l[j].n, .string t.l[j].s, .slice A' t.l[j].l.length c'] 39)
        have hw2 : w.heap.size + 1 + 1 < w2.heap.size := by omega
        have hG' := hbx.trans (hG.mono (by simp))
        have hB2 := (hB.below hG').below ((Below.refl _ _).alloc (Nat.le_refl _) (.cells #[.int .i64 t.l[j].k, .int .u64 t.l[j].n, .string t.l[j].s, .slice A2 t.l[j].l.length c2'] 39))
        have hH2 := hH.move (Nat.le_refl _) (Nat.le_refl _) (fun p _ p2 => World.cell?_alloc_lt w2 (.cells #[.int .i64 t.l[j].k, .int .u64 t.l[j].n, .string t.l[j].s, .slice A2 t.l[j].l.length c2'] 39) p p2)
        have hk3 := hk2.alloc (.cells #[.int .i64 t.l[j].k, .int .u64 t.l[j].n, .string t.l[j].s, .slice A2 t.l[j].l.length c2'] 39)
        have hk1' := ((hk1.alloc (.cells #[.int .i64 t.l[j].k, .int .u64 t.l[j].n, .string t.l[j].s, .slice A' t.l[j].l.length c'] 39)).below hG (by simp; omega)).alloc (.cells #[.int .i64 t.l[j].k, .int .u64 t.l[j].n, .string t.l[j].s, .slice A2 t.l[j].l.length c2'] 39)
        go_wp2_with (at_builtin; refine wpList_append_term rfl _ _ rfl (t := t.l[j]) rfl hB2 rfl (by simp; omega) hH2 (by simp) (by simp; omega) (fun k hk => by have := hown k hk; simp; omega) hk' hn' hs' rfl (by simp) hle56 ?next)
        case next =>
          intro v3 w3 hB3 hbe3 hz3 hkeep3
          obtain ⟨A3, c3, rfl, hc3⟩ := hB3.form
          have hk4 := Blk.below hk3 hbe3 (by omega)
          have hk5 := Blk.below hk1' hbe3 (by omega)
          clear hkeep3 q3 z0 z1 z2 z3
          have f3' := hk4.frozen 3
          have hzz := hk4.lt
          have q3 := hk4.cell 3
          simp at q3
          go_wp2_with fail
          have hBw3 := (hbw.trans ((hG'.mono hbw.size))).alloc (by have := hbw.size; omega) (.cells #[.int .i64 t.l[j].k, .int .u64 t.l[j].n, .string t.l[j].s, .slice A2 t.l[j].l.length c2'] 39)
          have hBw4 := hBw3.trans (hbe3.mono (Nat.le_add_right _ 3))
          have hbox := hk4.put 3 (.slice A3 (l ++ [t.l[j]]).length c3)
          have hlen1 : (l ++ [t.l[j]]).length = j + 1 := by have := HLL.out; simp [this]
          have htk : t.l.take (j + 1) = l ++ [t.l[j]] := by rw [List.take_succ_eq_append_getElem hlt, ← HLJ.out]
          refine ⟨⟨j + 1, l ++ [t.l[j]], A3, c3, by go_num, hlt, htk.symm, hlen1, ?_, ?_, ?_, ?_, ?_⟩, by simp [intOf]; omega⟩
          · simpa using hbox
          · exact hk5.far (p := ⟨w.heap.size + 1 + 1, 3, none⟩) (by show w.heap.size + 1 ≠ w.heap.size + 1 + 1; omega) _
          · exact hB3.kept (grown_set _ (w.heap.size + 1 + 1) 3 _) (fun g e => by injection e with e; omega)
          · exact hBw4.setCell (p := ⟨w.heap.size + 1 + 1, 3, none⟩) (by show w.heap.size ≤ w.heap.size + 1 + 1; omega) _
          · have := hk5.lt; simp only [World.size_setCell]; omega
      · have hlt' : j = t.l.length := by omega
        subst hlt'
        have hlt2 : l = t.l := by rw [hlj', List.take_length]
        clear hlj' hll'
        subst hlt2
        have hHl := hB.held (by omega)
        have q0 := hk1.cell 0
        have q1 := hk1.cell 1
        have q2 := hk1.cell 2
        have q3 := hk1.cell 3
        simp at q0 q1 q2 q3
        have g0 := hk1.frozen 0
        have g1 := hk1.frozen 1
        have g2 := hk1.frozen 2
        have g3 := hk1.frozen 3
        have hw1 : w.heap.size + 1 < wr.heap.size := by omega
        go_wp2_with fail
        refine bodyPost_ret (v := .agg #[.int .i64 t.k, .int .u64 t.n, .string t.s, .slice A1 t.l.length c1]) (by simp [results, Try.results127, go_sem, hw1, q0, q1, q2, q3]) rfl ⟨?_, A1, c1, rfl, ?_⟩
        · exact four_below hbw (o := 0) (g := w.heap.size + 1) (by omega) _ _ _ _
        · exact hHl.move (by omega) (by rw [show ∀ a b c d : Value, ((((wr.setCell ⟨w.heap.size + 1, 0, none⟩ a).setCell ⟨w.heap.size + 1, 1, none⟩ b).setCell ⟨w.heap.size + 1, 2, none⟩ c).setCell ⟨w.heap.size + 1, 3, none⟩ d).heap.size = wr.heap.size from fun a b c d => by simp only [World.size_setCell]]; exact Nat.le_refl _) fun p p1 p2 => four_cell wr (w.heap.size + 1) 0 _ _ _ _ p (by omega)
end Go.Proofs.Ytjlglfjikfpboaa.copyT
