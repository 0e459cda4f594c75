/- A log in memory: its open segment and its accounts; New, has, Open, Kind, Live, Free, Sealed. -/
import Derived.Test.YtoenkkbcpafanaaA02
import Derived.Test.YtoenkkbcpafanaaA10
import Derived.Laws.AppendOwn
import Derived.Laws.OwnMore
import Derived.Test.YtoenkkbcpafanaaA08


namespace Go.Proofs.Ytoenkkbcpafanaa.segs
set_option linter.unusedVariables false
set_option linter.unusedSimpArgs false
open Go.RowKit Go.Proofs.Ytoenkkbcpafanaa.base Go.Proofs.Ytoenkkbcpafanaa.trees Go.Proofs.Ytoenkkbcpafanaa.powers Go.Proofs.Ytoenkkbcpafanaa.mediums Go.Lib

theorem infoInt : (Try.prog.info? 3).map (fun i => (i.zero, i.size, i.bytes)) = some (some (.int .i64 0), 1, 8) := by kernel_rfl
theorem infoAc : (Try.prog.info? 194).map (fun i => (i.zero, i.size, i.bytes)) = some (some (.agg #[.int .i64 0, .int .i64 0, .int .i64 0]), 3, 24) := by kernel_rfl
theorem infoPl : (Try.prog.info? 189).map (fun i => (i.zero, i.size, i.bytes)) = some (some (.agg #[.int .i64 0, .int .i64 0, .int .i64 0]), 3, 24) := by kernel_rfl
/-- what a log keeps -/
structure LS where
  o : Nat
  ac : List T3
/-- .. is right -/
structure OkL (s : LS) : Prop where
  len : 1 ≤ s.ac.length ∧ s.ac.length ≤ 4096
  o : s.o < s.ac.length
  kind : ∀ i, i < s.ac.length → ((at3 s.ac i).a = 1 ∨ (at3 s.ac i).a = 2 ∨ (at3 s.ac i).a = 3) ∧ ((at3 s.ac i).a = 3 ↔ i = s.o)
  used : ∀ i, i < s.ac.length → 0 ≤ (at3 s.ac i).b ∧ (at3 s.ac i).b ≤ 1048576
  live : ∀ i, i < s.ac.length → 0 ≤ (at3 s.ac i).c ∧ (at3 s.ac i).c ≤ 9223372036854775807
  free : ∀ i, i < s.ac.length → (at3 s.ac i).a = 1 → (at3 s.ac i).b = 0 ∧ (at3 s.ac i).c = 0
/-- a log in block lg over the medium in block g, its accounts in block ab -/
structure LgAt (w : World) (g lg ab c : Nat) (s : LS) : Prop where
  head : Blk w lg 130 #[.pointer (some ⟨g, 0, none⟩), .int .i64 (s.o : Int), .slice (some ⟨ab, 0, none⟩) s.ac.length c]
  row : w.ownsRow 0 194 3 (.slice (some ⟨ab, 0, none⟩) s.ac.length c) s.ac.length (cellsJ s.ac)
  ne : ab ≠ lg
  ok : OkL s
section
variable {w w' : World} {g lg ab c : Nat} {s : LS}
theorem LgAt.lt (h : LgAt w g lg ab c s) : lg < w.heap.size ∧ ab < w.heap.size := ⟨h.head.lt, (h.row.lt ab rfl).2⟩
theorem LgAt.agree (h : LgAt w g lg ab c s) (h1 : w'.heap[lg]? = w.heap[lg]?) (h2 : w'.heap[ab]? = w.heap[ab]?) : LgAt w' g lg ab c s :=
  ⟨h1.trans h.head, ownsRow_agree h.row fun k hk => by cases hk; exact h2, h.ne, h.ok⟩
theorem LgAt.below (h : LgAt w g lg ab c s) (hb : Below w.heap.size w w') : LgAt w' g lg ab c s := h.agree (hb.block _ h.lt.1) (hb.block _ h.lt.2)
theorem LgAt.keep {T : Nat → Prop} (h : LgAt w g lg ab c s) (hk : Keep T w w') (h1 : ¬ T lg) (h2 : ¬ T ab) : LgAt w' g lg ab c s := h.agree (hk.block _ h.lt.1 h1) (hk.block _ h.lt.2 h2)
theorem LgAt.cells (h : LgAt w g lg ab c s) {i : Nat} (hi : i < s.ac.length) : w.cell? ⟨ab, i * 3, none⟩ = some (.int .i64 (at3 s.ac i).a) ∧ w.cell? ⟨ab, i * 3 + 1, none⟩ = some (.int .i64 (at3 s.ac i).b) ∧ w.cell? ⟨ab, i * 3 + 2, none⟩ = some (.int .i64 (at3 s.ac i).c) := by
  obtain ⟨c0, c1, c2⟩ := cellsJ_at s.ac hi
  rw [at3_eq hi]
  exact ⟨(h.row.cellAt _ (by omega)).trans c0, (h.row.cellAt _ (by omega)).trans c1, (h.row.cellAt _ (by omega)).trans c2⟩
theorem LgAt.cap (h : LgAt w g lg ab c s) : s.ac.length ≤ c := by
  obtain ⟨_, h1⟩ := h.row
  rcases h1 with ⟨h1, _⟩ | ⟨g, cap, cur, h1, _, _, hc, _⟩
  · cases h1
  · injection h1 with _ _ h3; subst h3; exact hc
theorem LgAt.x (h : LgAt w g lg ab c s) : w.cell? ⟨lg, 0, none⟩ = some (.pointer (some ⟨g, 0, none⟩)) ∧ w.cell? ⟨lg, 1, none⟩ = some (.int .i64 (s.o : Int)) ∧ w.cell? ⟨lg, 2, none⟩ = some (.slice (some ⟨ab, 0, none⟩) s.ac.length c) := by
  have x0 := h.head.cell 0
  have x1 := h.head.cell 1
  have x2 := h.head.cell 2
  simp only [List.getElem?_toArray, List.getElem?_cons_zero, List.getElem?_cons_succ] at x0 x1 x2
  exact ⟨x0, x1, x2⟩

set_option maxRecDepth 100000 in
set_option maxHeartbeats 4000000 in
theorem has_ok (h : LgAt w g lg ab c s) (sg : Int) :
    Calls Try.prog 153 #[.pointer (some ⟨lg, 0, none⟩), .int .i64 sg] w fun e w' => e = .returned (.bool (decide (0 ≤ sg ∧ sg < (s.ac.length : Int)))) ∧ w' = w := by
  obtain ⟨x0, x1, x2⟩ := h.x
  have n1 := h.ok.len
  clear h
  generalize s.ac.length = n at *
  by_cases h0 : 0 ≤ sg
  · by_cases h1 : sg < (n : Int)
    · have HH := decide_eq_true (show 0 ≤ sg ∧ sg < (n : Int) from ⟨h0, h1⟩)
      go_enter Try.func153, Try.ntmps153
      go_wp2_with fail
      go_ret
      exact ⟨by simp [h0, h1], rfl⟩
    · go_enter Try.func153, Try.ntmps153
      go_wp2_with fail
      go_ret
      exact ⟨by simp [h0, h1], rfl⟩
  · have HH : ¬ (0 ≤ sg ∧ sg < (n : Int)) := fun h => h0 h.1
    go_enter Try.func153, Try.ntmps153
    go_wp2_with fail
    go_ret
    exact ⟨by first | rfl | (rw [decide_eq_false HH]; rfl), rfl⟩

set_option maxRecDepth 100000 in
set_option maxHeartbeats 4000000 in
theorem open_ok (h : LgAt w g lg ab c s) :
    Calls Try.prog 88 #[.pointer (some ⟨lg, 0, none⟩)] w fun e w' => e = .returned (.tuple #[.int .i64 (s.o : Int), .int .i64 (at3 s.ac s.o).b]) ∧ Below w.heap.size w w' := by
  obtain ⟨x0, x1, x2⟩ := h.x
  obtain ⟨y0, y1, y2⟩ := h.cells h.ok.o
  have n1 := h.ok.len
  have n2 := h.ok.o
  have n3 := h.cap
  clear h
  generalize at3 s.ac s.o = t at *
  generalize s.ac.length = n at *
  generalize s.o = o at *
  go_enter Try.func88, Try.ntmps88
  go_wp2_with fail
  go_quiet (fail)
  go_wp2_with fail
  refine bodyPost_ret (v := .tuple #[.int .i64 (o : Int), .int .i64 t.b]) (by simp [results, Try.results88, go_sem]) rfl ⟨rfl, rfl, rfl, rfl, Nat.le_refl _, fun _ _ => rfl⟩

/-- what Kind tells -/
def kindI (s : LS) (sg : Int) : Int := if 0 ≤ sg ∧ sg < (s.ac.length : Int) then (at3 s.ac sg.toNat).a else 0
set_option maxRecDepth 100000 in
set_option maxHeartbeats 4000000 in
theorem kind_ok (h : LgAt w g lg ab c s) (sg : Int) :
    Calls Try.prog 89 #[.pointer (some ⟨lg, 0, none⟩), .int .i64 sg] w fun e w' => e = .returned (.int .i64 (kindI s sg)) ∧ w' = w := by
  have hz := has_ok h sg
  by_cases hj : 0 ≤ sg ∧ sg < (s.ac.length : Int)
  · obtain ⟨j, rfl⟩ := Int.eq_ofNat_of_zero_le hj.1
    have hj' : j < s.ac.length := by omega
    rw [decide_eq_true hj] at hz
    have HI := powers.lay (show kindI s (j : Int) = (at3 s.ac j).a by unfold kindI; rw [if_pos hj, Int.toNat_natCast])
    obtain ⟨x0, x1, x2⟩ := h.x
    obtain ⟨y0, y1, y2⟩ := h.cells hj'
    have n1 := h.ok.len
    have n3 := h.cap
    clear h
    generalize kindI s (j : Int) = r at *
    generalize at3 s.ac j = t at *
    generalize s.ac.length = n at *
    go_enter Try.func89, Try.ntmps89
    go_wp2_with fail
    refine hz.mono ?_
    rintro e w' ⟨rfl, rfl⟩
    clear hz
    go_wp2_with fail
    go_ret
    exact ⟨by rw [HI.out]; rfl, rfl⟩
  · rw [decide_eq_false hj] at hz
    have HI := powers.lay (show kindI s sg = 0 by unfold kindI; rw [if_neg hj])
    clear h
    generalize kindI s sg = r at *
    go_enter Try.func89, Try.ntmps89
    go_wp2_with fail
    refine hz.mono ?_
    rintro e w' ⟨rfl, rfl⟩
    go_wp2_with fail
    go_ret
    exact ⟨by rw [HI.out]; rfl, rfl⟩

/-- what Live tells -/
def liveI (s : LS) (sg : Int) : Int := if 0 ≤ sg ∧ sg < (s.ac.length : Int) then (at3 s.ac sg.toNat).c else 0
set_option maxRecDepth 100000 in
set_option maxHeartbeats 4000000 in
theorem live_ok (h : LgAt w g lg ab c s) (sg : Int) :
    Calls Try.prog 102 #[.pointer (some ⟨lg, 0, none⟩), .int .i64 sg] w fun e w' => e = .returned (.int .i64 (liveI s sg)) ∧ w' = w := by
  have hz := has_ok h sg
  by_cases hj : 0 ≤ sg ∧ sg < (s.ac.length : Int)
  · obtain ⟨j, rfl⟩ := Int.eq_ofNat_of_zero_le hj.1
    have hj' : j < s.ac.length := by omega
    rw [decide_eq_true hj] at hz
    have HI := powers.lay (show liveI s (j : Int) = (at3 s.ac j).c by unfold liveI; rw [if_pos hj, Int.toNat_natCast])
    obtain ⟨x0, x1, x2⟩ := h.x
    obtain ⟨y0, y1, y2⟩ := h.cells hj'
    have n1 := h.ok.len
    have n3 := h.cap
    clear h
    generalize liveI s (j : Int) = r at *
    generalize at3 s.ac j = t at *
    generalize s.ac.length = n at *
    go_enter Try.func102, Try.ntmps102
    go_wp2_with fail
    refine hz.mono ?_
    rintro e w' ⟨rfl, rfl⟩
    clear hz
    go_wp2_with fail
    go_ret
    exact ⟨by rw [HI.out]; rfl, rfl⟩
  · rw [decide_eq_false hj] at hz
    have HI := powers.lay (show liveI s sg = 0 by unfold liveI; rw [if_neg hj])
    clear h
    generalize liveI s sg = r at *
    go_enter Try.func102, Try.ntmps102
    go_wp2_with fail
    refine hz.mono ?_
    rintro e w' ⟨rfl, rfl⟩
    go_wp2_with fail
    go_ret
    exact ⟨by rw [HI.out]; rfl, rfl⟩

/-- a list of numbers of the call's own -/
def NsPost (l : List Nat) (w : World) (e : Ending) (w' : World) : Prop := ∃ v, e = .returned v ∧ w'.ownsRow w.heap.size 3 1 v l.length (l.map fun i : Nat => Value.int .i64 (i : Int)) ∧ Below w.heap.size w w'
set_option maxRecDepth 100000 in
set_option maxHeartbeats 4000000 in
theorem those_ok (h : LgAt w g lg ab c s) (k : Int) :
    Calls Try.prog 164 #[.pointer (some ⟨lg, 0, none⟩), .int .i64 k] w (NsPost (those s.ac k) w) := by
  obtain ⟨i0, hi0, hz0, hz1, hz2⟩ := @info_parts _ _ _ _ _ infoInt
  obtain ⟨x0, x1, x2⟩ := h.x
  have n1 := h.ok.len
  have n3 := h.cap
  have lab := h.lt.2
  have HC := powers.lay h
  have HA := powers.lay (thoseTo_all s.ac k)
  have ho0 : w.ownsRow w.heap.size 3 1 (.slice none 0 0) 0 [] := ⟨rfl, .inl ⟨rfl, rfl⟩⟩
  obtain ⟨n, hn⟩ : ∃ n, n = s.ac.length := ⟨_, rfl⟩
  have HN := powers.lay hn
  rw [← hn] at x2 n1 n3
  clear h hn
  go_enter Try.func164, Try.ntmps164
  go_wp2_with fail
  go_loopw [13, 5] (fun i x wr => ∃ j : Nat, i = .int .i64 (j : Int) ∧ j ≤ n ∧ Hid (wr.ownsRow w.heap.size 3 1 x (thoseTo s.ac k j).length ((thoseTo s.ac k j).map fun i : Nat => Value.int .i64 (i : Int))) ∧ Below w.heap.size w wr) (fun i _ _ => n - (RowKit.intOf i).toNat)
  case atStart => exact ⟨0, rfl, by omega, powers.lay ho0, Below.refl _ _⟩
  case round =>
    clear ho0
    obtain ⟨j, rfl, hj, HO, hb⟩ := hrel
    obtain ⟨VA, vc, rfl, _⟩ := own_slice HO.out
    have hsz := hb.size
    have e1 : IntKind.i64.wrap ((j : Int) + 1) = (j : Int) + 1 := IntWalk.i64_in _ (by omega)
    by_cases hlt : j < n
    · obtain ⟨y0, y1, y2⟩ := (HC.out.below hb).cells (i := j) (by rw [← HN.out]; exact hlt)
      by_cases hk : (at3 s.ac j).a = k
      · have HS := powers.lay (thoseTo_yes hk)
        have HK := powers.lay hk
        have hlen := thoseTo_len s.ac k j
        rw [hk] at y0
        clear hk
        generalize (at3 s.ac j).b = tb at *
        generalize (at3 s.ac j).c = tc at *
        have bA : Below w.heap.size w (wr.alloc (.cells #[.int .i64 k, .int .i64 tb, .int .i64 tc] 194)) := hb.alloc hb.size _
        have HO' : Hid ((wr.alloc (.cells #[.int .i64 k, .int .i64 tb, .int .i64 tc] 194)).ownsRow w.heap.size 3 1 (.slice VA (thoseTo s.ac k j).length vc) (thoseTo s.ac k j).length ((thoseTo s.ac k j).map fun i : Nat => Value.int .i64 (i : Int))) := powers.lay (HO.out.alloc _)
        have kA := (Blk.new wr 194 #[.int .i64 k, .int .i64 tb, .int .i64 tc]).cell 0
        simp only [List.getElem?_toArray, List.getElem?_cons_zero] at kA
        have lZ : wr.heap.size < (wr.alloc (.cells #[.int .i64 k, .int .i64 tb, .int .i64 tc] 194)).heap.size := by simp
        generalize hWA : wr.alloc (.cells #[.int .i64 k, .int .i64 tb, .int .i64 tc] 194) = WA at *
        have e3 : ∀ j' u, [Value.int .i64 (j : Int)][j']? = some u → (WA.alloc (.cells #[.int .i64 (j : Int)] 3)).cell? ((⟨WA.heap.size, 0, none⟩ : Addr).add j') = some u := fun j' u hj' => by
          match j', hj' with
          | 0, hj' => simp at hj'; subst hj'; simp [Addr.add]
        have E1 := powers.lay e3
        have E2 := powers.lay (show ∀ u ∈ [Value.int .i64 (j : Int)], u.oneCell' = true from fun u hu => by simp at hu; subst hu; rfl)
        have E3 : (thoseTo s.ac k j).length + 1 ≤ maxLen := by unfold maxLen; omega
        have E5 : w.heap.size ≤ (WA.alloc (.cells #[.int .i64 (j : Int)] 3)).heap.size := by simp; omega
        clear e3 HO
        go_wp2_with (at_builtin; refine wpList_append_own _ rfl (.tmp 22) (.tmp 24) _ rfl w.heap.size 3 i0 _ 1 8 Try.underlying34 hi0 hz0 hz1 hz2 rfl (by decide) _ (thoseTo s.ac k j).length ((thoseTo s.ac k j).map fun i : Nat => Value.int .i64 (i : Int)) rfl (HO'.out.alloc _) ⟨WA.heap.size, 0, none⟩ 1 1 [.int .i64 (j : Int)] rfl rfl E1.out E2.out E3 (by omega) E5 ?_)
        intro v' w3 hown3 hg3 _
        have hb3 : Below w.heap.size w w3 := (bA.alloc bA.size _).grown hg3 (by simp; omega) (fun b hb' => (HO'.out.lt b hb').1)
        have HO3 : Hid (w3.ownsRow w.heap.size 3 1 v' (thoseTo s.ac k (j + 1)).length ((thoseTo s.ac k (j + 1)).map fun i : Nat => Value.int .i64 (i : Int))) := powers.lay (by rw [HS.out, List.length_append, List.map_append]; exact hown3)
        clear hown3 hg3 HO' hb bA
        go_wp2_with fail
        go_roundw
        case rel => exact ⟨j + 1, by go_num, hlt, HO3, hb3⟩
        case measure => first | (simp [RowKit.intOf]; done) | (simp [RowKit.intOf]; omega) | omega
      · have HS := powers.lay (thoseTo_no hk)
        generalize (at3 s.ac j).a = ta at *
        generalize (at3 s.ac j).b = tb at *
        generalize (at3 s.ac j).c = tc at *
        have bA : Below w.heap.size w (wr.alloc (.cells #[.int .i64 ta, .int .i64 tb, .int .i64 tc] 194)) := hb.alloc hb.size _
        have HO' : Hid ((wr.alloc (.cells #[.int .i64 ta, .int .i64 tb, .int .i64 tc] 194)).ownsRow w.heap.size 3 1 (.slice VA (thoseTo s.ac k j).length vc) (thoseTo s.ac k j).length ((thoseTo s.ac k j).map fun i : Nat => Value.int .i64 (i : Int))) := powers.lay (HO.out.alloc _)
        have kA := (Blk.new wr 194 #[.int .i64 ta, .int .i64 tb, .int .i64 tc]).cell 0
        simp only [List.getElem?_toArray, List.getElem?_cons_zero] at kA
        have lZ : wr.heap.size < (wr.alloc (.cells #[.int .i64 ta, .int .i64 tb, .int .i64 tc] 194)).heap.size := by simp
        generalize hWA : wr.alloc (.cells #[.int .i64 ta, .int .i64 tb, .int .i64 tc] 194) = WA at *
        have d1 : decide (ta = k) = false := decide_eq_false hk
        have d2 : (ta == k) = false := by simp [hk]
        clear HO hk
        go_wp2_with fail
        go_roundw
        case rel => exact ⟨j + 1, by go_num, hlt, by rw [HS.out]; exact HO', bA⟩
        case measure => first | (simp [RowKit.intOf]; done) | (simp [RowKit.intOf]; omega) | omega
    · obtain rfl : j = n := by omega
      go_wp2_with fail
      go_ret
      exact ⟨_, rfl, by rw [← HA.out, ← HN.out]; exact HO.out, hb⟩

set_option maxRecDepth 100000 in
set_option maxHeartbeats 4000000 in
theorem free_ok (h : LgAt w g lg ab c s) :
    Calls Try.prog 104 #[.pointer (some ⟨lg, 0, none⟩)] w (NsPost (those s.ac 1) w) := by
  have hc := those_ok h 1
  clear h
  generalize those s.ac 1 = l at *
  go_enter Try.func104, Try.ntmps104
  go_wp2_with fail
  refine hc.mono ?_
  rintro e w' ⟨v, rfl, ho, hb⟩
  obtain ⟨A, cc, rfl, _⟩ := own_slice ho
  have HO := powers.lay ho
  clear ho hc
  go_wp2_with fail
  go_ret
  exact ⟨_, rfl, HO.out, hb⟩

set_option maxRecDepth 100000 in
set_option maxHeartbeats 4000000 in
theorem sealed_ok (h : LgAt w g lg ab c s) :
    Calls Try.prog 105 #[.pointer (some ⟨lg, 0, none⟩)] w (NsPost (those s.ac 2) w) := by
  have hc := those_ok h 2
  clear h
  generalize those s.ac 2 = l at *
  go_enter Try.func105, Try.ntmps105
  go_wp2_with fail
  refine hc.mono ?_
  rintro e w' ⟨v, rfl, ho, hb⟩
  obtain ⟨A, cc, rfl, _⟩ := own_slice ho
  have HO := powers.lay ho
  clear ho hc
  go_wp2_with fail
  go_ret
  exact ⟨_, rfl, HO.out, hb⟩

end
end Go.Proofs.Ytoenkkbcpafanaa.segs

/- A guarded operation in a region that draws. -/

namespace Go.Proofs.Ytoenkkbcpafanaa.mix
set_option linter.unusedVariables false
set_option linter.unusedSimpArgs false
open Go.RowKit
section
variable {P : Program} {ops : Array Oper} {md : Region.Mode} {S : World → Prop} {D : Nat → Bool} {Q : Exit → Act → World → Prop}
theorem D_opW {k : Nat} {o : Oper} {fuel : Nat} {listed : Array Bool} {a : Act} {w : World} (ho : ops[k]? = some o) (hr : (Region.ready md ops listed == [k]) = true) (hw : Region.wanted o (yielded ops a.tmps) = true)
    (h : ∀ K' : Act → World → Prop, Shut (∀ a' w', (D k = false → S w') → wpAnyD P md ops Q S D fuel (listed.setIfInBounds k true) a' w' → K' a' w') → Oper.wp P o a w K' Q) : wpAnyD P md ops Q S D (fuel + 1) listed a w :=
  D_one ho hr (fun K' hK => by rw [if_pos hw]; exact h K' hK)
end
end Go.Proofs.Ytoenkkbcpafanaa.mix
