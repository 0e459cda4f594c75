/- A log's room and Append. -/
import Derived.Test.YtoenkkbcpafanaaA12
import Derived.Test.YtoenkkbcpafanaaA10


namespace Go.Proofs.Ytoenkkbcpafanaa.segs
set_option linter.unusedVariables false
set_option linter.unusedSimpArgs false
open Go.RowKit Go.Proofs.Ytoenkkbcpafanaa.base Go.Proofs.Ytoenkkbcpafanaa.trees Go.Proofs.Ytoenkkbcpafanaa.powers Go.Proofs.Ytoenkkbcpafanaa.mediums Go.Lib

theorem below_q {q : Nat} {w w' : World} (h : Below q w w') (e : w.heap.size = q) : Below w.heap.size w w' := e ▸ h
/-- three cells are written over -/
theorem three {B q : Nat} {t : TypeId} {w W : World} {x y z : Value} (k : Blk W q t #[x, y, z]) (hb : Below B w W) (hq : B ≤ q) (a b c : Value) :
    Blk (((W.setCell ⟨q, 0, none⟩ a).setCell ⟨q, 1, none⟩ b).setCell ⟨q, 2, none⟩ c) q t #[a, b, c] ∧ Below B w (((W.setCell ⟨q, 0, none⟩ a).setCell ⟨q, 1, none⟩ b).setCell ⟨q, 2, none⟩ c) ∧ Keep (fun k => k = q) W (((W.setCell ⟨q, 0, none⟩ a).setCell ⟨q, 1, none⟩ b).setCell ⟨q, 2, none⟩ c) := by
  have kz := ((k.put 0 a).put 1 b).put 2 c
  simp only [List.setIfInBounds_toArray, List.set_cons_zero, List.set_cons_succ] at kz
  refine ⟨kz, ((hb.setCell (p := ⟨q, 0, none⟩) hq a).setCell (p := ⟨q, 1, none⟩) hq b).setCell (p := ⟨q, 2, none⟩) hq c, ?_⟩
  exact ((grown_keep (grown_set W q 0 a)).trans (grown_keep (grown_set _ q 1 b)) fun k hk _ => hk).trans (grown_keep (grown_set _ q 2 c)) fun k hk _ => hk
theorem _root_.Go.Proofs.Ytoenkkbcpafanaa.base.Blk.c3 {q : Nat} {t : TypeId} {W : World} {x y z : Value} (k : Blk W q t #[x, y, z]) : W.cell? ⟨q, 0, none⟩ = some x ∧ W.cell? ⟨q, 1, none⟩ = some y ∧ W.cell? ⟨q, 2, none⟩ = some z := by
  have x0 := k.cell 0
  have x1 := k.cell 1
  have x2 := k.cell 2
  simp only [List.getElem?_toArray, List.getElem?_cons_zero, List.getElem?_cons_succ] at x0 x1 x2
  exact ⟨x0, x1, x2⟩
/-- where n bytes have room; why they have none -/
def roomE (size : Nat) (s : LS) (n : Nat) : Int := if n = 0 ∨ size < n then 2 else if (n : Int) ≤ (size : Int) - (at3 s.ac s.o).b then 0 else if firstI s.ac < 0 then 140 else 0
def roomJ (size : Nat) (s : LS) (n : Nat) : Nat := if (n : Int) ≤ (size : Int) - (at3 s.ac s.o).b then s.o else (firstI s.ac).toNat
theorem firstI_cases (ac : List T3) : (firstI ac = -1 ∧ first ac 1 = none) ∨ ∃ j : Nat, firstI ac = (j : Int) ∧ first ac 1 = some j := by
  unfold firstI
  cases first ac 1 with
  | none => exact .inl ⟨rfl, rfl⟩
  | some j => exact .inr ⟨j, rfl, rfl⟩
/-- where there is room, it is behind what is used -/
theorem room_facts {size : Nat} {s : LS} {n : Nat} (h : OkL s) (he : roomE size s n = 0) :
    1 ≤ n ∧ n ≤ size ∧ roomJ size s n < s.ac.length ∧ (at3 s.ac (roomJ size s n)).b + (n : Int) ≤ (size : Int) ∧ (roomJ size s n = s.o ∨ ((size : Int) - (at3 s.ac s.o).b < (n : Int) ∧ first s.ac 1 = some (roomJ size s n) ∧ (at3 s.ac (roomJ size s n)).b = 0)) := by
  unfold roomE at he
  unfold roomJ
  split at he
  · omega
  · rename_i h0
    split at he
    · rename_i h1
      rw [if_pos h1]
      exact ⟨by omega, by omega, h.o, by omega, .inl rfl⟩
    · rename_i h1
      split at he
      · omega
      · rename_i h2
        rw [if_neg h1]
        rcases firstI_cases s.ac with ⟨e, _⟩ | ⟨j, e, hf⟩
        · omega
        · obtain ⟨f1, f2, f3⟩ := first_some hf
          rw [e, Int.toNat_natCast]
          have hz := (h.free j f1 f2).1
          exact ⟨by omega, by omega, f1, by omega, .inr ⟨by omega, hf, hz⟩⟩
section
variable {w w' : World} {S : Nat → Prop} {p g lg ab c : Nat} {m : MS} {s : LS} {L W : Int}

set_option maxRecDepth 100000 in
set_option maxHeartbeats 4000000 in
theorem room_zero (h : LgAt w g lg ab c s) (hM : Md w S p g m) (n : Nat) (hn : n ≤ 9223372036854775807) (h0 : n = 0) :
    Calls Try.prog 151 #[.pointer (some ⟨lg, 0, none⟩), .int .i64 (n : Int)] w fun e w' => e = .returned (.tuple #[.agg #[.int .i64 0, .int .i64 0, .int .i64 0], .int .i64 2]) ∧ Below w.heap.size w w' := by
  obtain ⟨x0, x1, x2⟩ := h.x
  obtain ⟨sb, vs, vp, hM'⟩ := id hM
  have hms := hM'.bnd.1.2
  have bA : Below w.heap.size w (w.alloc (.cells #[.int .i64 0, .int .i64 0, .int .i64 0] 189)) := (Below.refl _ _).alloc (Nat.le_refl _) _
  have kA := Blk.new w 189 #[.int .i64 0, .int .i64 0, .int .i64 0]
  have hA := h.below ((Below.refl _ _).alloc (Nat.le_refl _) (.cells #[.int .i64 0, .int .i64 0, .int .i64 0] 189))
  have cS := size_ok (hM'.agree (Agree.of_below bA hM'.lt) bA.size)
  have hq : w.heap.size < (w.alloc (.cells #[.int .i64 0, .int .i64 0, .int .i64 0] 189)).heap.size := by simp
  obtain ⟨q, hqd⟩ : ∃ q, w.heap.size = q := ⟨_, rfl⟩
  obtain ⟨W, hW⟩ : ∃ W, w.alloc (.cells #[.int .i64 0, .int .i64 0, .int .i64 0] 189) = W := ⟨_, rfl⟩
  rw [hW] at bA kA hA cS hq
  have HW := powers.lay hW
  have HQ := powers.lay hqd
  rw [hqd] at kA hq bA
  obtain ⟨y0, y1, y2⟩ := hA.x
  have f0 := kA.frozen 0
  have f1 := kA.frozen 1
  have f2 := kA.frozen 2
  obtain ⟨g0, g1, g2⟩ := kA.c3
  have n1 := h.ok.len
  subst h0
  clear hA hM' hM h cS
  go_enter Try.func151, Try.ntmps151
  go_wp2_with fail
  obtain ⟨kz, bz, _⟩ := three kA bA (Nat.le_refl _) (.int .i64 0) (.int .i64 0) (.int .i64 0)
  generalize (((W.setCell ⟨q, 0, none⟩ (.int .i64 0)).setCell ⟨q, 1, none⟩ (.int .i64 0)).setCell ⟨q, 2, none⟩ (.int .i64 0)) = WZ at *
  obtain ⟨z0, z1, z2⟩ := kz.c3
  refine bodyPost_ret (v := .tuple #[.agg #[.int .i64 0, .int .i64 0, .int .i64 0], .int .i64 2]) (by simp [results, Try.results151, go_sem, z0, z1, z2]) rfl ⟨by first | rfl | (rw [HTT.out]; done) | (rw [HFI.out]; done), below_q bz HQ.out⟩

set_option maxRecDepth 100000 in
set_option maxHeartbeats 4000000 in
theorem room_long (h : LgAt w g lg ab c s) (hM : Md w S p g m) (n : Nat) (hn : n ≤ 9223372036854775807) (h0 : m.size < n) :
    Calls Try.prog 151 #[.pointer (some ⟨lg, 0, none⟩), .int .i64 (n : Int)] w fun e w' => e = .returned (.tuple #[.agg #[.int .i64 0, .int .i64 0, .int .i64 0], .int .i64 2]) ∧ Below w.heap.size w w' := by
  obtain ⟨x0, x1, x2⟩ := h.x
  obtain ⟨sb, vs, vp, hM'⟩ := id hM
  have hms := hM'.bnd.1.2
  have bA : Below w.heap.size w (w.alloc (.cells #[.int .i64 0, .int .i64 0, .int .i64 0] 189)) := (Below.refl _ _).alloc (Nat.le_refl _) _
  have kA := Blk.new w 189 #[.int .i64 0, .int .i64 0, .int .i64 0]
  have hA := h.below ((Below.refl _ _).alloc (Nat.le_refl _) (.cells #[.int .i64 0, .int .i64 0, .int .i64 0] 189))
  have cS := size_ok (hM'.agree (Agree.of_below bA hM'.lt) bA.size)
  have hq : w.heap.size < (w.alloc (.cells #[.int .i64 0, .int .i64 0, .int .i64 0] 189)).heap.size := by simp
  obtain ⟨q, hqd⟩ : ∃ q, w.heap.size = q := ⟨_, rfl⟩
  obtain ⟨W, hW⟩ : ∃ W, w.alloc (.cells #[.int .i64 0, .int .i64 0, .int .i64 0] 189) = W := ⟨_, rfl⟩
  rw [hW] at bA kA hA cS hq
  have HW := powers.lay hW
  have HQ := powers.lay hqd
  rw [hqd] at kA hq bA
  obtain ⟨y0, y1, y2⟩ := hA.x
  have f0 := kA.frozen 0
  have f1 := kA.frozen 1
  have f2 := kA.frozen 2
  obtain ⟨g0, g1, g2⟩ := kA.c3
  have n1 := h.ok.len
  have d0 : ((n : Int) == 0) = false := by simp; omega
  have d1 : decide ((n : Int) = 0) = false := decide_eq_false (by omega)
  have d2 : decide ((m.size : Int) < (n : Int)) = true := decide_eq_true (by omega)
  have d2' : decide (m.size < n) = true := decide_eq_true (by omega)
  generalize m.size = z at *
  clear hA hM' hM h h0
  go_enter Try.func151, Try.ntmps151
  go_wp2_with (first | (go_at_call 201; refine cS.mono ?_; rintro e W ⟨rfl, rfl⟩))
  obtain ⟨kz, bz, _⟩ := three kA bA (Nat.le_refl _) (.int .i64 0) (.int .i64 0) (.int .i64 0)
  generalize (((W.setCell ⟨q, 0, none⟩ (.int .i64 0)).setCell ⟨q, 1, none⟩ (.int .i64 0)).setCell ⟨q, 2, none⟩ (.int .i64 0)) = WZ at *
  obtain ⟨z0, z1, z2⟩ := kz.c3
  refine bodyPost_ret (v := .tuple #[.agg #[.int .i64 0, .int .i64 0, .int .i64 0], .int .i64 2]) (by simp [results, Try.results151, go_sem, z0, z1, z2]) rfl ⟨by first | rfl | (rw [HTT.out]; done) | (rw [HFI.out]; done), below_q bz HQ.out⟩

set_option maxRecDepth 100000 in
set_option maxHeartbeats 4000000 in
theorem room_open (h : LgAt w g lg ab c s) (hM : Md w S p g m) (n : Nat) (hn : n ≤ 9223372036854775807) (h0 : 1 ≤ n) (h1 : n ≤ m.size) (h2 : (n : Int) ≤ (m.size : Int) - (at3 s.ac s.o).b) :
    Calls Try.prog 151 #[.pointer (some ⟨lg, 0, none⟩), .int .i64 (n : Int)] w fun e w' => e = .returned (.tuple #[.agg #[.int .i64 (s.o : Int), .int .i64 (at3 s.ac s.o).b, .int .i64 (n : Int)], .int .i64 0]) ∧ Below w.heap.size w w' := by
  obtain ⟨x0, x1, x2⟩ := h.x
  obtain ⟨sb, vs, vp, hM'⟩ := id hM
  have hms := hM'.bnd.1.2
  have bA : Below w.heap.size w (w.alloc (.cells #[.int .i64 0, .int .i64 0, .int .i64 0] 189)) := (Below.refl _ _).alloc (Nat.le_refl _) _
  have kA := Blk.new w 189 #[.int .i64 0, .int .i64 0, .int .i64 0]
  have hA := h.below ((Below.refl _ _).alloc (Nat.le_refl _) (.cells #[.int .i64 0, .int .i64 0, .int .i64 0] 189))
  have cS := size_ok (hM'.agree (Agree.of_below bA hM'.lt) bA.size)
  have hq : w.heap.size < (w.alloc (.cells #[.int .i64 0, .int .i64 0, .int .i64 0] 189)).heap.size := by simp
  obtain ⟨q, hqd⟩ : ∃ q, w.heap.size = q := ⟨_, rfl⟩
  obtain ⟨W, hW⟩ : ∃ W, w.alloc (.cells #[.int .i64 0, .int .i64 0, .int .i64 0] 189) = W := ⟨_, rfl⟩
  rw [hW] at bA kA hA cS hq
  have HW := powers.lay hW
  have HQ := powers.lay hqd
  rw [hqd] at kA hq bA
  obtain ⟨y0, y1, y2⟩ := hA.x
  have f0 := kA.frozen 0
  have f1 := kA.frozen 1
  have f2 := kA.frozen 2
  obtain ⟨g0, g1, g2⟩ := kA.c3
  have n1 := h.ok.len
  have d0 : ((n : Int) == 0) = false := by simp; omega
  have d1 : decide ((n : Int) = 0) = false := decide_eq_false (by omega)
  have d2 : decide ((m.size : Int) < (n : Int)) = false := decide_eq_false (by omega)
  have d2' : decide (m.size < n) = false := decide_eq_false (by omega)
  have u1 := h.ok.used _ h.ok.o
  have cO := open_ok hA
  have d3 : decide ((n : Int) ≤ (m.size : Int) - (at3 s.ac s.o).b) = true := decide_eq_true h2
  have e3 : IntKind.i64.wrap ((m.size : Int) - (at3 s.ac s.o).b) = (m.size : Int) - (at3 s.ac s.o).b := IntWalk.i64_in _ (by omega)
  go_enter Try.func151, Try.ntmps151
  go_wp2_with (go_at_call 201; refine cS.mono ?_; rintro e W ⟨rfl, rfl⟩)
  refine cO.mono ?_
  rintro e W2 ⟨rfl, b2⟩
  have bA2 : Below q w W2 := bA.trans (b2.mono (by omega))
  have kA2 := kA.below b2 kA.lt
  have hA2 := hA.below b2
  have cS2 := size_ok (hM'.agree (Agree.of_below (below_q bA2 HQ.out) hM'.lt) (bA2.size))
  clear cS cO y0 y1 y2 g0 g1 g2 f0 f1 f2 hA kA
  have f0 := kA2.frozen 0
  have f1 := kA2.frozen 1
  have f2 := kA2.frozen 2
  obtain ⟨g0, g1, g2⟩ := kA2.c3
  obtain ⟨y0, y1, y2⟩ := hA2.x
  clear h2
  generalize hT : at3 s.ac s.o = t at *
  have HTT := powers.lay hT
  clear hT
  generalize m.size = z at *
  go_wp2_with (go_at_call 201; refine cS2.mono ?_; rintro e W2 ⟨rfl, rfl⟩)
  obtain ⟨kz, bz, _⟩ := three kA2 bA2 (Nat.le_refl _) (.int .i64 (s.o : Int)) (.int .i64 t.b) (.int .i64 (n : Int))
  generalize (((W2.setCell ⟨q, 0, none⟩ (.int .i64 (s.o : Int))).setCell ⟨q, 1, none⟩ (.int .i64 t.b)).setCell ⟨q, 2, none⟩ (.int .i64 (n : Int))) = WZ at *
  obtain ⟨z0, z1, z2⟩ := kz.c3
  refine bodyPost_ret (v := .tuple #[.agg #[.int .i64 (s.o : Int), .int .i64 t.b, .int .i64 (n : Int)], .int .i64 0]) (by simp [results, Try.results151, go_sem, z0, z1, z2]) rfl ⟨by first | rfl | (rw [HTT.out]; done) | (rw [HFI.out]; done), below_q bz HQ.out⟩

set_option maxRecDepth 100000 in
set_option maxHeartbeats 4000000 in
theorem room_none (h : LgAt w g lg ab c s) (hM : Md w S p g m) (n : Nat) (hn : n ≤ 9223372036854775807) (h0 : 1 ≤ n) (h1 : n ≤ m.size) (h2 : (m.size : Int) - (at3 s.ac s.o).b < (n : Int)) (h3 : firstI s.ac < 0) :
    Calls Try.prog 151 #[.pointer (some ⟨lg, 0, none⟩), .int .i64 (n : Int)] w fun e w' => e = .returned (.tuple #[.agg #[.int .i64 0, .int .i64 0, .int .i64 0], .int .i64 140]) ∧ Below w.heap.size w w' := by
  obtain ⟨x0, x1, x2⟩ := h.x
  obtain ⟨sb, vs, vp, hM'⟩ := id hM
  have hms := hM'.bnd.1.2
  have bA : Below w.heap.size w (w.alloc (.cells #[.int .i64 0, .int .i64 0, .int .i64 0] 189)) := (Below.refl _ _).alloc (Nat.le_refl _) _
  have kA := Blk.new w 189 #[.int .i64 0, .int .i64 0, .int .i64 0]
  have hA := h.below ((Below.refl _ _).alloc (Nat.le_refl _) (.cells #[.int .i64 0, .int .i64 0, .int .i64 0] 189))
  have cS := size_ok (hM'.agree (Agree.of_below bA hM'.lt) bA.size)
  have hq : w.heap.size < (w.alloc (.cells #[.int .i64 0, .int .i64 0, .int .i64 0] 189)).heap.size := by simp
  obtain ⟨q, hqd⟩ : ∃ q, w.heap.size = q := ⟨_, rfl⟩
  obtain ⟨W, hW⟩ : ∃ W, w.alloc (.cells #[.int .i64 0, .int .i64 0, .int .i64 0] 189) = W := ⟨_, rfl⟩
  rw [hW] at bA kA hA cS hq
  have HW := powers.lay hW
  have HQ := powers.lay hqd
  rw [hqd] at kA hq bA
  obtain ⟨y0, y1, y2⟩ := hA.x
  have f0 := kA.frozen 0
  have f1 := kA.frozen 1
  have f2 := kA.frozen 2
  obtain ⟨g0, g1, g2⟩ := kA.c3
  have n1 := h.ok.len
  have d0 : ((n : Int) == 0) = false := by simp; omega
  have d1 : decide ((n : Int) = 0) = false := decide_eq_false (by omega)
  have d2 : decide ((m.size : Int) < (n : Int)) = false := decide_eq_false (by omega)
  have d2' : decide (m.size < n) = false := decide_eq_false (by omega)
  have u1 := h.ok.used _ h.ok.o
  have cO := open_ok hA
  have d3 : decide ((n : Int) ≤ (m.size : Int) - (at3 s.ac s.o).b) = false := decide_eq_false (by omega)
  have e3 : IntKind.i64.wrap ((m.size : Int) - (at3 s.ac s.o).b) = (m.size : Int) - (at3 s.ac s.o).b := IntWalk.i64_in _ (by omega)
  go_enter Try.func151, Try.ntmps151
  go_wp2_with (go_at_call 201; refine cS.mono ?_; rintro e W ⟨rfl, rfl⟩)
  refine cO.mono ?_
  rintro e W2 ⟨rfl, b2⟩
  have bA2 : Below q w W2 := bA.trans (b2.mono (by omega))
  have kA2 := kA.below b2 kA.lt
  have hA2 := hA.below b2
  have cS2 := size_ok (hM'.agree (Agree.of_below (below_q bA2 HQ.out) hM'.lt) (bA2.size))
  clear cS cO y0 y1 y2 g0 g1 g2 f0 f1 f2 hA kA
  have f0 := kA2.frozen 0
  have f1 := kA2.frozen 1
  have f2 := kA2.frozen 2
  obtain ⟨g0, g1, g2⟩ := kA2.c3
  obtain ⟨y0, y1, y2⟩ := hA2.x
  have d4 : decide (firstI s.ac < 0) = true := decide_eq_true h3
  clear h3
  have cI := index_ok hA2
  clear h2
  generalize hT : at3 s.ac s.o = t at *
  have HTT := powers.lay hT
  clear hT
  generalize m.size = z at *
  generalize hF : firstI s.ac = fi at *
  have HFI := powers.lay hF
  clear hF
  go_wp2_with (go_at_call 201; refine cS2.mono ?_; rintro e W2 ⟨rfl, rfl⟩)
  refine cI.mono ?_
  rintro e W3 ⟨rfl, b3⟩
  have kA3 := kA2.below b3 kA2.lt
  have bA3 := bA2.trans (b3.mono (by have := bA2.size; have := HQ.out; omega))
  clear f0 f1 f2 g0 g1 g2 y0 y1 y2 cS2 cI
  have f0 := kA3.frozen 0
  have f1 := kA3.frozen 1
  have f2 := kA3.frozen 2
  obtain ⟨g0, g1, g2⟩ := kA3.c3
  go_wp2_with fail
  obtain ⟨kz, bz, _⟩ := three kA3 bA3 (Nat.le_refl _) (.int .i64 0) (.int .i64 0) (.int .i64 0)
  generalize (((W3.setCell ⟨q, 0, none⟩ (.int .i64 0)).setCell ⟨q, 1, none⟩ (.int .i64 0)).setCell ⟨q, 2, none⟩ (.int .i64 0)) = WZ at *
  obtain ⟨z0, z1, z2⟩ := kz.c3
  refine bodyPost_ret (v := .tuple #[.agg #[.int .i64 0, .int .i64 0, .int .i64 0], .int .i64 140]) (by simp [results, Try.results151, go_sem, z0, z1, z2]) rfl ⟨by first | rfl | (rw [HTT.out]; done) | (rw [HFI.out]; done), below_q bz HQ.out⟩

set_option maxRecDepth 100000 in
set_option maxHeartbeats 4000000 in
theorem room_free (h : LgAt w g lg ab c s) (hM : Md w S p g m) (n : Nat) (hn : n ≤ 9223372036854775807) (h0 : 1 ≤ n) (h1 : n ≤ m.size) (h2 : (m.size : Int) - (at3 s.ac s.o).b < (n : Int)) (h3 : ¬ firstI s.ac < 0) :
    Calls Try.prog 151 #[.pointer (some ⟨lg, 0, none⟩), .int .i64 (n : Int)] w fun e w' => e = .returned (.tuple #[.agg #[.int .i64 (firstI s.ac), .int .i64 0, .int .i64 (n : Int)], .int .i64 0]) ∧ Below w.heap.size w w' := by
  obtain ⟨x0, x1, x2⟩ := h.x
  obtain ⟨sb, vs, vp, hM'⟩ := id hM
  have hms := hM'.bnd.1.2
  have bA : Below w.heap.size w (w.alloc (.cells #[.int .i64 0, .int .i64 0, .int .i64 0] 189)) := (Below.refl _ _).alloc (Nat.le_refl _) _
  have kA := Blk.new w 189 #[.int .i64 0, .int .i64 0, .int .i64 0]
  have hA := h.below ((Below.refl _ _).alloc (Nat.le_refl _) (.cells #[.int .i64 0, .int .i64 0, .int .i64 0] 189))
  have cS := size_ok (hM'.agree (Agree.of_below bA hM'.lt) bA.size)
  have hq : w.heap.size < (w.alloc (.cells #[.int .i64 0, .int .i64 0, .int .i64 0] 189)).heap.size := by simp
  obtain ⟨q, hqd⟩ : ∃ q, w.heap.size = q := ⟨_, rfl⟩
  obtain ⟨W, hW⟩ : ∃ W, w.alloc (.cells #[.int .i64 0, .int .i64 0, .int .i64 0] 189) = W := ⟨_, rfl⟩
  rw [hW] at bA kA hA cS hq
  have HW := powers.lay hW
  have HQ := powers.lay hqd
  rw [hqd] at kA hq bA
  obtain ⟨y0, y1, y2⟩ := hA.x
  have f0 := kA.frozen 0
  have f1 := kA.frozen 1
  have f2 := kA.frozen 2
  obtain ⟨g0, g1, g2⟩ := kA.c3
  have n1 := h.ok.len
  have d0 : ((n : Int) == 0) = false := by simp; omega
  have d1 : decide ((n : Int) = 0) = false := decide_eq_false (by omega)
  have d2 : decide ((m.size : Int) < (n : Int)) = false := decide_eq_false (by omega)
  have d2' : decide (m.size < n) = false := decide_eq_false (by omega)
  have u1 := h.ok.used _ h.ok.o
  have cO := open_ok hA
  have d3 : decide ((n : Int) ≤ (m.size : Int) - (at3 s.ac s.o).b) = false := decide_eq_false (by omega)
  have e3 : IntKind.i64.wrap ((m.size : Int) - (at3 s.ac s.o).b) = (m.size : Int) - (at3 s.ac s.o).b := IntWalk.i64_in _ (by omega)
  go_enter Try.func151, Try.ntmps151
  go_wp2_with (go_at_call 201; refine cS.mono ?_; rintro e W ⟨rfl, rfl⟩)
  refine cO.mono ?_
  rintro e W2 ⟨rfl, b2⟩
  have bA2 : Below q w W2 := bA.trans (b2.mono (by omega))
  have kA2 := kA.below b2 kA.lt
  have hA2 := hA.below b2
  have cS2 := size_ok (hM'.agree (Agree.of_below (below_q bA2 HQ.out) hM'.lt) (bA2.size))
  clear cS cO y0 y1 y2 g0 g1 g2 f0 f1 f2 hA kA
  have f0 := kA2.frozen 0
  have f1 := kA2.frozen 1
  have f2 := kA2.frozen 2
  obtain ⟨g0, g1, g2⟩ := kA2.c3
  obtain ⟨y0, y1, y2⟩ := hA2.x
  have d4 : decide (firstI s.ac < 0) = false := decide_eq_false (by omega)
  clear h3
  have cI := index_ok hA2
  clear h2
  generalize hT : at3 s.ac s.o = t at *
  have HTT := powers.lay hT
  clear hT
  generalize m.size = z at *
  generalize hF : firstI s.ac = fi at *
  have HFI := powers.lay hF
  clear hF
  go_wp2_with (go_at_call 201; refine cS2.mono ?_; rintro e W2 ⟨rfl, rfl⟩)
  refine cI.mono ?_
  rintro e W3 ⟨rfl, b3⟩
  have kA3 := kA2.below b3 kA2.lt
  have bA3 := bA2.trans (b3.mono (by have := bA2.size; have := HQ.out; omega))
  clear f0 f1 f2 g0 g1 g2 y0 y1 y2 cS2 cI
  have f0 := kA3.frozen 0
  have f1 := kA3.frozen 1
  have f2 := kA3.frozen 2
  obtain ⟨g0, g1, g2⟩ := kA3.c3
  go_wp2_with fail
  obtain ⟨kz, bz, _⟩ := three kA3 bA3 (Nat.le_refl _) (.int .i64 fi) (.int .i64 0) (.int .i64 (n : Int))
  generalize (((W3.setCell ⟨q, 0, none⟩ (.int .i64 fi)).setCell ⟨q, 1, none⟩ (.int .i64 0)).setCell ⟨q, 2, none⟩ (.int .i64 (n : Int))) = WZ at *
  obtain ⟨z0, z1, z2⟩ := kz.c3
  refine bodyPost_ret (v := .tuple #[.agg #[.int .i64 fi, .int .i64 0, .int .i64 (n : Int)], .int .i64 0]) (by simp [results, Try.results151, go_sem, z0, z1, z2]) rfl ⟨by first | rfl | (rw [HTT.out]; done) | (rw [HFI.out]; done), below_q bz HQ.out⟩

/-- room, as a whole -/
def placeV (j : Nat) (b : Int) (n : Nat) : Value := .agg #[.int .i64 (j : Int), .int .i64 b, .int .i64 (n : Int)]
theorem room_any (h : LgAt w g lg ab c s) (hM : Md w S p g m) (n : Nat) (hn : n ≤ 9223372036854775807) :
    Calls Try.prog 151 #[.pointer (some ⟨lg, 0, none⟩), .int .i64 (n : Int)] w fun e w' => Below w.heap.size w w' ∧
      ((roomE m.size s n ≠ 0 ∧ e = .returned (.tuple #[.agg #[.int .i64 0, .int .i64 0, .int .i64 0], .int .i64 (roomE m.size s n)])) ∨ (roomE m.size s n = 0 ∧ e = .returned (.tuple #[placeV (roomJ m.size s n) (at3 s.ac (roomJ m.size s n)).b n, .int .i64 0]))) := by
  by_cases h0 : n = 0
  · have hE : roomE m.size s n = 2 := by unfold roomE; rw [if_pos (.inl h0)]
    exact (room_zero h hM n hn h0).mono fun e w' ⟨a, b⟩ => ⟨b, .inl ⟨by rw [hE]; decide, by rw [hE]; exact a⟩⟩
  · by_cases h1 : m.size < n
    · have hE : roomE m.size s n = 2 := by unfold roomE; rw [if_pos (.inr h1)]
      exact (room_long h hM n hn h1).mono fun e w' ⟨a, b⟩ => ⟨b, .inl ⟨by rw [hE]; decide, by rw [hE]; exact a⟩⟩
    · have h01 : ¬ (n = 0 ∨ m.size < n) := fun e => e.elim h0 h1
      by_cases h2 : (n : Int) ≤ (m.size : Int) - (at3 s.ac s.o).b
      · have hE : roomE m.size s n = 0 := by unfold roomE; rw [if_neg h01, if_pos h2]
        have hJ : roomJ m.size s n = s.o := by unfold roomJ; rw [if_pos h2]
        exact (room_open h hM n hn (by omega) (by omega) h2).mono fun e w' ⟨a, b⟩ => ⟨b, .inr ⟨hE, by rw [hJ]; exact a⟩⟩
      · by_cases h3 : firstI s.ac < 0
        · have hE : roomE m.size s n = 140 := by unfold roomE; rw [if_neg h01, if_neg h2, if_pos h3]
          exact (room_none h hM n hn (by omega) (by omega) (by omega) h3).mono fun e w' ⟨a, b⟩ => ⟨b, .inl ⟨by rw [hE]; decide, by rw [hE]; exact a⟩⟩
        · have hE : roomE m.size s n = 0 := by unfold roomE; rw [if_neg h01, if_neg h2, if_neg h3]
          have hF := (room_facts h.ok hE).2.2.2.2
          have hJ : roomJ m.size s n = (firstI s.ac).toNat := by unfold roomJ; rw [if_neg h2]
          rcases firstI_cases s.ac with ⟨e, _⟩ | ⟨j, e, hf⟩
          · omega
          · have hz := (h.ok.free j (first_some hf).1 (first_some hf).2.1).1
            refine (room_free h hM n hn (by omega) (by omega) (by omega) h3).mono fun e' w' ⟨a, b⟩ => ⟨b, .inr ⟨hE, ?_⟩⟩
            rw [hJ, e, Int.toNat_natCast, hz, a, e]
            rfl

end
end Go.Proofs.Ytoenkkbcpafanaa.segs

/- MediumCuts. -/

namespace Go.Proofs.Ytoenkkbcpafanaa.mediums
set_option linter.unusedVariables false
set_option linter.unusedSimpArgs false
open Go.RowKit Go.Proofs.Ytoenkkbcpafanaa.base Go.Proofs.Ytoenkkbcpafanaa.trees Go.Proofs.Ytoenkkbcpafanaa.powers Go.Lib

def lW (m : MS) (L sg o : Int) (b : ByteArray) : Int := if refE m sg o b = 0 then spL L else L
def wW (m : MS) (L W sg o : Int) (b : ByteArray) : Int := if refE m sg o b = 0 then wSp L W else W
def mW (m : MS) (L sg o : Int) (b : ByteArray) : MS := if refE m sg o b = 0 ∧ L ≠ 0 then putM m sg.toNat o.toNat b else m
/-- two media, apart, each with a power of its own -/
structure Two (B : Nat) (w0 w : World) (Sa Sb : Nat → Prop) (pa ga pb gb : Nat) (ma mb : MS) (La Wa Lb Wb : Int) : Prop where
  a : Md w Sa pa ga ma
  b : Md w Sb pb gb mb
  ka : Blk w pa 219 (PC La Wa)
  kb : Blk w pb 219 (PC Lb Wb)
  dis : ∀ k, Sa k → ¬ Sb k
  apb : ¬ Sa pb
  bpa : ¬ Sb pa
  ne : pa ≠ pb
  lo : ∀ k, Sa k ∨ Sb k ∨ k = pa ∨ k = pb → B ≤ k
  hb : Below B w0 w
  le : B ≤ w0.heap.size
section
variable {B : Nat} {w0 w w' : World} {Sa Sb : Nat → Prop} {pa ga pb gb : Nat} {ma mb : MS} {La Wa Lb Wb : Int}
theorem Two.symm (h : Two B w0 w Sa Sb pa ga pb gb ma mb La Wa Lb Wb) : Two B w0 w Sb Sa pb gb pa ga mb ma Lb Wb La Wa :=
  ⟨h.b, h.a, h.kb, h.ka, fun k h1 h2 => h.dis k h2 h1, h.bpa, h.apb, fun e => h.ne e.symm, fun k hk => h.lo k (by rcases hk with h | h | h | h; exact .inr (.inl h); exact .inl h; exact .inr (.inr (.inr h)); exact .inr (.inr (.inl h))), h.hb, h.le⟩
theorem Two.below (h : Two B w0 w Sa Sb pa ga pb gb ma mb La Wa Lb Wb) (hb : Below w.heap.size w w') : Two B w0 w' Sa Sb pa ga pb gb ma mb La Wa Lb Wb :=
  ⟨h.a.below hb, h.b.below hb, h.ka.below hb h.ka.lt, h.kb.below hb h.kb.lt, h.dis, h.apb, h.bpa, h.ne, h.lo, h.hb.trans (hb.mono (Nat.le_trans h.le h.hb.size)), h.le⟩
theorem Two.write (h : Two B w0 w Sa Sb pa ga pb gb ma mb La Wa Lb Wb) {sg o : Int} {b : ByteArray} {e : Ending} (hw : WrPost Sa pa ga ma La Wa sg o b w e w') :
    e = .returned (.int .i64 (wrE ma La sg o b)) ∧ ∃ Sa', Two B w0 w' Sa' Sb pa ga pb gb (mW ma La sg o b) mb (lW ma La sg o b) (wW ma La Wa sg o b) Lb Wb := by
  obtain ⟨he, S', hs, hm, hp, hk⟩ := hw
  have lp := h.kb.lt
  have hbs := h.hb.size
  have hle := h.le
  refine ⟨he, S', ⟨hm, h.b.keep hk (fun k hb hx => ?_), ?_, hk.blk h.kb (fun hx => ?_), fun k h1 h2 => ?_, fun h1 => ?_, h.bpa, h.ne, fun k hx => ?_, h.hb.trans (hk.below (fun k hx => ?_) (by omega)), h.le⟩⟩
  · rcases hx with hx | hx
    · exact h.dis k hx hb
    · exact h.bpa (hx ▸ hb)
  · unfold lW wW
    by_cases hr : refE ma sg o b = 0
    · rw [if_pos hr] at hp; rw [if_pos hr, if_pos hr]; exact hp
    · rw [if_neg hr] at hp; rw [if_neg hr, if_neg hr]; exact hp
  · rcases hx with hx | hx
    · exact h.apb hx
    · exact h.ne hx.symm
  · rcases hs k h1 with h3 | h3
    · exact h.dis k h3 h2
    · have := h.b.lt k h2; omega
  · rcases hs pb h1 with h3 | h3
    · exact h.apb h3
    · omega
  · rcases hx with hx | hx | hx | hx
    · rcases hs k hx with h3 | h3
      · exact h.lo k (.inl h3)
      · omega
    · exact h.lo k (.inr (.inl hx))
    · exact h.lo k (.inr (.inr (.inl hx)))
    · exact h.lo k (.inr (.inr (.inr hx)))
  · rcases hx with hx | hx
    · exact h.lo k (.inl hx)
    · exact h.lo k (.inr (.inr (.inl hx)))
theorem Two.keepS (h : Two B w0 w Sa Sb pa ga pb gb ma mb La Wa Lb Wb) {e : Ending} {sg o : Int} {b : ByteArray} (hw : WrPost Sa pa ga ma La Wa sg o b w e w') {g : Nat} {t : TypeId} {cs : Array Value} (hk : Blk w g t cs) (hg : ¬ Sa g) (hgp : g ≠ pa) : Blk w' g t cs := by
  obtain ⟨he, S', hs, hm, hp, hkk⟩ := hw
  exact hkk.blk hk (fun hx => hx.elim hg hgp)
end
theorem putM_len (m : MS) (g o : Nat) (b : ByteArray) : (putM m g o b).segs.length = m.segs.length := by simp [putM]
theorem putM_past (m : MS) (g o : Nat) (b : ByteArray) : (putM m g o b).past.length = m.past.length + 1 := by simp [putM]
theorem wr_on (m : MS) (L sg o : Int) (b : ByteArray) (hL : L ≠ 0) : wrE m L sg o b = refE m sg o b := by
  unfold wrE eSp
  by_cases h : refE m sg o b = 0 <;> simp [h, hL]
theorem wr_off (m : MS) (sg o : Int) (b : ByteArray) : wrE m 0 sg o b ≠ 0 := by
  unfold wrE eSp
  split
  · decide
  · assumption
theorem mW_on (m : MS) (L sg o : Int) (b : ByteArray) (hL : L ≠ 0) : mW m L sg o b = if refE m sg o b = 0 then putM m sg.toNat o.toNat b else m := by
  unfold mW
  by_cases h : refE m sg o b = 0 <;> simp [h, hL]
theorem mW_off (m : MS) (sg o : Int) (b : ByteArray) : mW m 0 sg o b = m := by unfold mW; simp
theorem lW_off (m : MS) (sg o : Int) (b : ByteArray) : lW m 0 sg o b = 0 := by unfold lW spL; split <;> simp
theorem lW_neg (m : MS) (sg o : Int) (b : ByteArray) : lW m (-1) sg o b = -1 := by unfold lW spL; split <;> simp
theorem cut_yes (n : Nat) (hn : n ≤ 3000) : cutL (-1) (n : Int) = (n : Int) := by unfold cutL; rw [if_neg (by omega)]; omega
/-- what holds between two calls: the same in both; of n so many are left as were not done -/
def Rel (n sgN : Nat) (m : MS) (Lb : Int) : Prop := m.past.length ≤ n ∧ m.segs.length = sgN ∧ Lb = (n : Int) - (m.past.length : Int)
theorem Rel.on {n sgN : Nat} {m : MS} {Lb : Int} (h : Rel n sgN m Lb) (hL : Lb ≠ 0) (sg o : Int) (b : ByteArray) : Rel n sgN (mW m Lb sg o b) (lW m Lb sg o b) := by
  obtain ⟨h1, h2, h3⟩ := h
  rw [mW_on _ _ _ _ _ hL]
  unfold lW
  split
  · refine ⟨by rw [putM_past]; omega, by rw [putM_len]; exact h2, ?_⟩
    rw [putM_past]
    unfold spL
    rw [if_neg (by omega)]
    omega
  · exact ⟨h1, h2, h3⟩

end Go.Proofs.Ytoenkkbcpafanaa.mediums
