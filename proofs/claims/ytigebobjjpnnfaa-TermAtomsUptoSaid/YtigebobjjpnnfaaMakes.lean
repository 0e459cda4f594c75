/- Of, Num, Key, Atom; the walk of the law TermMakes. -/
import Derived.Test.YtigebobjjpnnfaaCopied
namespace Go.Proofs.Ytigebobjjpnnfaa.makes
open Go.RowKit Go.Proofs.Ytigebobjjpnnfaa.base Go.Proofs.Ytigebobjjpnnfaa.tm Go.Proofs.Ytigebobjjpnnfaa.lies Go.Proofs.Ytigebobjjpnnfaa.rights Go.Proofs.Ytigebobjjpnnfaa.likes Go.Proofs.Ytigebobjjpnnfaa.copies

/-- a slice of terms that lies below block B -/
def LiesS (w : World) (B : Nat) (l : List T) (A : Option Addr) (c : Nat) : Prop := ∃ xs, l.length ≤ c ∧ l.length * 56 ≤ 140737488355328 ∧ Rd w B A xs ∧ LiesL w B l xs

set_option maxRecDepth 100000 in
theorem of_any (l : List T) (A : Option Addr) (c B : Nat) (w : World) (h : LiesS w B l A c) (hB : B ≤ w.heap.size) :
    Calls Try.prog 27 #[.slice A l.length c] w fun e w' => ∃ A' c', e = .returned (.agg #[.int .i64 5, .int .u64 0, .string ⟨#[]⟩, .slice A' l.length c']) ∧ Held w' w.heap.size w'.heap.size l (.slice A' l.length c') ∧ Below w.heap.size w w' := by
  obtain ⟨xs, h1, h2, h3, h4⟩ := h
  have hcall := copied_any (sizeL l) l A c xs B (w.alloc (.cells #[.int .i64 0, .int .u64 0, .string ⟨#[]⟩, .slice none 0 0] 30)) (Nat.le_refl _) h1 h2 (h3.alloc hB _) (LiesL.keep (fun p hp => World.cell?_alloc_lt w _ p (by omega)) _ _ h4) (by simp; omega)
  have hbk := Blk.new w 30 #[.int .i64 0, .int .u64 0, .string ⟨#[]⟩, .slice none 0 0]
  go_enter Try.func27, Try.ntmps27
  go_wp2_with (go_at_call 46; refine hcall.mono ?_; rintro e w1 ⟨v, rfl, hh0, hb⟩; have hh := hh0; obtain ⟨A2, c2, rfl, _⟩ := hh0; have hk := hbk.below hb (by simp); have z0 := hk.cell 0; have z1 := hk.cell 1; have z2 := hk.cell 2; have z3 := hk.cell 3; simp at z0 z1 z2 z3; have f0 := hk.frozen 0; have f1 := hk.frozen 1; have f2 := hk.frozen 2; have f3 := hk.frozen 3)
  refine bodyPost_ret (v := .agg #[.int .i64 5, .int .u64 0, .string ⟨#[]⟩, .slice A2 l.length c2]) (by simp [results, Try.results27, go_sem, z0, z1, z2, z3]) rfl ⟨A2, c2, rfl, ?_, ?_⟩
  · refine hh.move (by simp) (by simp) fun p p1 p2 => ?_
    rw [World.size_alloc] at p1
    exact four_cell w1 w.heap.size 0 _ _ _ _ p (by omega)
  · exact four_below ((below_call (Below.refl _ _) hb)) (Nat.le_refl _) _ _ _ _

set_option maxRecDepth 100000 in
theorem num_any (n : Int) (w : World) :
    Calls Try.prog 28 #[.int .u64 n] w fun e w' => e = .returned (.agg #[.int .i64 1, .int .u64 n, .string ⟨#[]⟩, .slice none 0 0]) ∧ Below w.heap.size w w' := by
  go_enter Try.func28, Try.ntmps28
  go_wp2
  refine bodyPost_ret (v := .agg #[.int .i64 1, .int .u64 n, .string ⟨#[]⟩, .slice none 0 0]) (by simp [results, Try.results28, go_sem]) rfl ⟨rfl, ?_⟩
  exact (Below.refl _ _).alloc (Nat.le_refl _) _

set_option maxRecDepth 100000 in
theorem key_any (n : Int) (w : World) :
    Calls Try.prog 29 #[.int .u64 n] w fun e w' => e = .returned (.agg #[.int .i64 3, .int .u64 n, .string ⟨#[]⟩, .slice none 0 0]) ∧ Below w.heap.size w w' := by
  go_enter Try.func29, Try.ntmps29
  go_wp2
  refine bodyPost_ret (v := .agg #[.int .i64 3, .int .u64 n, .string ⟨#[]⟩, .slice none 0 0]) (by simp [results, Try.results29, go_sem]) rfl ⟨rfl, ?_⟩
  exact (Below.refl _ _).alloc (Nat.le_refl _) _

set_option maxRecDepth 100000 in
theorem atom_any (s : ByteArray) (w : World) :
    Calls Try.prog 30 #[.string s] w fun e w' => e = .returned (.agg #[.int .i64 2, .int .u64 0, .string s, .slice none 0 0]) ∧ Below w.heap.size w w' := by
  go_enter Try.func30, Try.ntmps30
  go_wp2
  refine bodyPost_ret (v := .agg #[.int .i64 2, .int .u64 0, .string s, .slice none 0 0]) (by simp [results, Try.results30, go_sem]) rfl ⟨rfl, ?_⟩
  exact (Below.refl _ _).alloc (Nat.le_refl _) _

theorem below_call2 {w w1 w2 : World} (hb1 : Below w.heap.size w w1) {o o' : Obj} (h2 : Below ((w1.alloc o).alloc o').heap.size ((w1.alloc o).alloc o') w2) : Below w.heap.size w w2 :=
  ((hb1.alloc hb1.size o).alloc (by have := hb1.size; simp; omega) o').trans (h2.mono (by have := hb1.size; simp; omega))
/-- a term without a list lies everywhere -/
theorem lies_bare (w : World) (B : Nat) (k n : Int) (s : ByteArray) (h1 : -9223372036854775808 ≤ k ∧ k ≤ 9223372036854775807) (h2 : 0 ≤ n ∧ n < 18446744073709551616) (h3 : s.size ≤ maxLen) : Lies w B (.mk k n s []) (.slice none 0 0) :=
  Lies.mk (t := .mk k n s []) h1 h2 h3 (Nat.le_refl _) (by show 0 * 56 ≤ 140737488355328; omega) (Rd.nil w B none) rfl

set_option maxRecDepth 100000 in
set_option maxHeartbeats 400000 in
theorem law_makes (l : List T) (A : Option Addr) (c : Nat) (n : Int) (s : ByteArray) (w : World) (h : LiesS w w.heap.size l A c) (hn : 0 ≤ n ∧ n < 18446744073709551616) (hs : s.size ≤ maxLen) :
    Calls Try.prog 10 #[.slice A l.length c, .int .u64 n, .string s] w fun e w' => e = .returned (.bool true) ∧ Below w.heap.size w w' := by
  have hof := of_any l A c w.heap.size w h (Nat.le_refl _)
  have e0 : (⟨#[]⟩ : ByteArray).size ≤ maxLen := Nat.zero_le _
  have hl0 := fun wx (u v : Value) (x : Lies wx wx.heap.size (.mk 5 0 ⟨#[]⟩ l) u) (y : Lies wx wx.heap.size (.mk 5 0 ⟨#[]⟩ l) v) => like_any _ (.mk 5 0 ⟨#[]⟩ l) u v wx (Nat.le_refl _) x y
  have hl1 := fun wx => like_any _ (.mk 1 n ⟨#[]⟩ []) _ _ wx (Nat.le_refl _) (lies_bare wx wx.heap.size 1 n ⟨#[]⟩ (by omega) hn e0) (lies_bare wx wx.heap.size 1 n ⟨#[]⟩ (by omega) hn e0)
  have hl3 := fun wx => like_any _ (.mk 3 n ⟨#[]⟩ []) _ _ wx (Nat.le_refl _) (lies_bare wx wx.heap.size 3 n ⟨#[]⟩ (by omega) hn e0) (lies_bare wx wx.heap.size 3 n ⟨#[]⟩ (by omega) hn e0)
  have hl2 := fun wx => like_any _ (.mk 2 0 s []) _ _ wx (Nat.le_refl _) (lies_bare wx wx.heap.size 2 0 s (by omega) (by omega) hs) (lies_bare wx wx.heap.size 2 0 s (by omega) (by omega) hs)
  go_enter Try.func10, Try.ntmps10
  go_wp2_with (go_at_call 27; refine hof.mono ?_; rintro e w1 ⟨A1, c1, rfl, hh, hb1⟩)
  have hx := ((Held.lies (t := .mk 5 0 ⟨#[]⟩ l) hh (by show (-9223372036854775808 : Int) ≤ 5 ∧ (5 : Int) ≤ 9223372036854775807; omega) (by show (0 : Int) ≤ 0 ∧ (0 : Int) < 18446744073709551616; omega) e0 (Nat.le_refl _)).later (Nat.le_refl _) (.cells #[.int .i64 5, .int .u64 0, .string ⟨#[]⟩, .slice A1 l.length c1] 30)).later (Nat.le_refl _) (.cells #[.int .i64 5, .int .u64 0, .string ⟨#[]⟩, .slice A l.length c] 30)
  obtain ⟨xs, g1, g2, g3, g4⟩ := h
  have hy := ((Lies.below (Lies.mk (t := .mk 5 0 ⟨#[]⟩ l) (by show (-9223372036854775808 : Int) ≤ 5 ∧ (5 : Int) ≤ 9223372036854775807; omega) (by show (0 : Int) ≤ 0 ∧ (0 : Int) < 18446744073709551616; omega) e0 g1 g2 g3 g4) hb1).later hb1.size (.cells #[.int .i64 5, .int .u64 0, .string ⟨#[]⟩, .slice A1 l.length c1] 30)).later (Nat.le_refl _) (.cells #[.int .i64 5, .int .u64 0, .string ⟨#[]⟩, .slice A l.length c] 30)
  refine (hl0 _ _ _ hx hy).mono ?_
  rintro e w2 ⟨rfl, hb2⟩
  have hB2 := below_call2 hb1 hb2
  clear hx hy g3 g4 hh
  go_wp2_with (go_at_call 28; refine (num_any n _).mono ?_; rintro e w3 ⟨rfl, hb3⟩)
  refine (hl1 _).mono ?_
  rintro e w4 ⟨rfl, hb4⟩
  have hB4 := (hB2.trans (hb3.mono hB2.size)).trans (hb4.mono (Nat.le_trans hB2.size hb3.size))
  go_wp2_with (go_at_call 29; refine (key_any n _).mono ?_; rintro e w5 ⟨rfl, hb5⟩)
  refine (hl3 _).mono ?_
  rintro e w6 ⟨rfl, hb6⟩
  have hB6 := (hB4.trans (hb5.mono hB4.size)).trans (hb6.mono (Nat.le_trans hB4.size hb5.size))
  go_wp2_with (go_at_call 30; refine (atom_any s _).mono ?_; rintro e w7 ⟨rfl, hb7⟩)
  refine (hl2 _).mono ?_
  rintro e w8 ⟨rfl, hb8⟩
  have hB8 := (hB6.trans (hb7.mono hB6.size)).trans (hb8.mono (Nat.le_trans hB6.size hb7.size))
  go_wp2_with fail
  go_ret
  exact ⟨rfl, hB8⟩
end Go.Proofs.Ytigebobjjpnnfaa.makes
