/- The library's sort at numbers of kind uint64, ninth part: the whole of it. -/
import Derived.Test.YtnkpljcfmifinaaSortC
import Derived.Test.YtnkpljcfmifinaaSortD
import Derived.Test.YtnkpljcfmifinaaSortE
import Derived.Test.YtnkpljcfmifinaaSortF
import Derived.Test.YtnkpljcfmifinaaSortG
import Derived.Test.YtnkpljcfmifinaaSortH
import Derived.Deep.CutRange
import Derived.Deep.LoopGhost
namespace Go.Proofs.Ytnkpljcfmifinaa.sorts
open Go.RowKit Go.Proofs.Ytnkpljcfmifinaa.base Go.Proofs.Ytnkpljcfmifinaa.swaps

/-- of [a, b) all is in order but what lies in [x, y) -/
def Part (a b x y : Nat) (d : Nat → Int) : Prop := ∀ p q, a ≤ p → p < q → q < b → ¬(x ≤ p ∧ q < y) → d p ≤ d q
theorem Part.turned {a b x y : Nat} {d e : Nat → Int} (h : Part a b x y d) (hax : a ≤ x) (hyb : y ≤ b) (hp : RP x y d e) : Part a b x y e := by
  intro p q h1 h2 h3 h4
  by_cases hpin : x ≤ p ∧ p < y
  · by_cases hqin : x ≤ q ∧ q < y
    · omega
    · rw [hp.out (k := q) (by omega)]
      exact hp.all (P := fun v => v ≤ d q) (fun k k1 k2 => h k q (by omega) (by omega) h3 (by omega)) p hpin.1 hpin.2
  · rw [hp.out (k := p) (by omega)]
    by_cases hqin : x ≤ q ∧ q < y
    · exact hp.all (P := fun v => d p ≤ v) (fun k k1 k2 => h p k h1 (by omega) (by omega) (by omega)) q hqin.1 hqin.2
    · rw [hp.out (k := q) (by omega)]
      exact h p q h1 h2 h3 h4
theorem Part.done {a b x y : Nat} {d : Nat → Int} (h : Part a b x y d) (hs : Sorted x y d) : Sorted a b d := by
  intro p q h1 h2 h3
  by_cases hin : x ≤ p ∧ q < y
  · exact hs p q hin.1 h2 hin.2
  · exact h p q h1 h2 h3 hin
/-- what lies left of the middle is in order now, and no greater than the middle -/
theorem Part.right {a b x y m : Nat} {d : Nat → Int} (h : Part a b x y d) (_hxm : x ≤ m) (_hmy : m ≤ y) (hs : Sorted x m d) (hlo : ∀ p q, x ≤ p → p < m → m ≤ q → q < y → d p ≤ d q) : Part a b m y d := by
  intro p q h1 h2 h3 h4
  by_cases hin : x ≤ p ∧ q < y
  · by_cases hqm : q < m
    · exact hs p q hin.1 h2 hqm
    · exact hlo p q hin.1 (by omega) (by omega) hin.2
  · exact h p q h1 h2 h3 hin
theorem Part.left {a b x y m : Nat} {d : Nat → Int} (h : Part a b x y d) (_hxm : x ≤ m) (_hmy : m ≤ y) (hs : Sorted m y d) (hlo : ∀ p q, x ≤ p → p < m → m ≤ q → q < y → d p ≤ d q) : Part a b x m d := by
  intro p q h1 h2 h3 h4
  by_cases hin : x ≤ p ∧ q < y
  · by_cases hpm : m ≤ p
    · exact hs p q hpm h2 hin.2
    · exact hlo p q hin.1 (by omega) (by omega) hin.2
  · exact h p q h1 h2 h3 hin

/-- the state of the sort: the row's numbers d0 have become some numbers by exchanges; what is outside [x, y) is in its place -/
def St (w : World) (g n a b x y : Nat) (d0 : Nat → Int) (wr : World) (d : Nat → Int) : Prop :=
  Row wr g n d ∧ RP a b d0 d ∧ Part a b x y d ∧ Ahead x y d ∧ w.grownBy wr (some g)
theorem St.step {w wr w1 : World} {g n a b x y : Nat} {d0 d e : Nat → Int} (h : St w g n a b x y d0 wr d) (hax : a ≤ x) (hyb : y ≤ b) (hr : Row w1 g n e) (hp : RP x y d e) (hg : wr.grownBy w1 (some g)) : St w g n a b x y d0 w1 e :=
  ⟨hr, h.2.1.trans (hp.wide hax hyb), h.2.2.1.turned hax hyb hp, h.2.2.2.1.turned hp (Nat.le_refl _) (Nat.le_refl _), grown_trans h.2.2.2.2 hg⟩
theorem St.quiet {w wr : World} {g n a b x y : Nat} {d0 d : Nat → Int} (h : St w g n a b x y d0 wr d) (m : Nat) : St w g n a b x y d0 (wr.drewN m) d :=
  ⟨h.1, h.2.1, h.2.2.1, h.2.2.2.1, grown_drew h.2.2.2.2 m⟩
theorem St.finish {w wr w1 : World} {g n a b x y : Nat} {d0 d e : Nat → Int} (h : St w g n a b x y d0 wr d) (hax : a ≤ x) (hyb : y ≤ b) (hr : Row w1 g n e) (hp : RP x y d e) (hs : Sorted x y e) (hg : wr.grownBy w1 (some g)) :
    ∃ e, Row w1 g n e ∧ RP a b d0 e ∧ Sorted a b e ∧ w.grownBy w1 (some g) :=
  ⟨e, hr, h.2.1.trans (hp.wide hax hyb), (h.2.2.1.turned hax hyb hp).done hs, grown_trans h.2.2.2.2 hg⟩

theorem Ahead.less {x y y' : Nat} {d : Nat → Int} (h : Ahead x y d) (hy : y' ≤ y) : Ahead x y' d := by
  rcases h with h | h
  · exact .inl h
  · exact .inr fun k h1 h2 => h k h1 (by omega)
theorem St.equal {w wr w1 : World} {g n a b x y m p : Nat} {d0 d e : Nat → Int} (h : St w g n a b x y d0 wr d) (hax : a ≤ x) (hyb : y ≤ b) (hx0 : 0 < x) (hp0 : d p ≤ d (x - 1)) (hm1 : x < m) (hm2 : m ≤ y)
    (hr : Row w1 g n e) (hp : RP x y d e) (hlo : ∀ k, x ≤ k → k < m → e k ≤ d p) (hhi : ∀ k, m ≤ k → k < y → d p < e k) (hg : wr.grownBy w1 (some g)) : St w g n a b m y d0 w1 e := by
  obtain ⟨k1, k2, k3, k4, k5⟩ := h.step hax hyb hr hp hg
  have hx1 : e (x - 1) = d (x - 1) := hp.out (by omega)
  refine ⟨k1, k2, k3.right (by omega) hm2 (fun i j h1 h2 h3 => ?_) (fun i j h1 h2 h3 h4 => ?_), .inr fun k h1 h2 => ?_, k5⟩
  · rcases k4 with h0 | h0
    · omega
    · have := h0 j (by omega) (by omega)
      have := hlo i h1 (by omega)
      omega
  · have := hlo i h1 h2
    have := hhi j h3 h4
    omega
  · have := hlo (m - 1) (by omega) (by omega)
    have := hhi k h1 h2
    omega
theorem St.rightOf {w wr w1 : World} {g n a b x y m : Nat} {d0 d e : Nat → Int} (h : St w g n a b x y d0 wr d) (hax : a ≤ x) (hyb : y ≤ b) (hm1 : x ≤ m) (hm2 : m < y)
    (hlo : ∀ k, x ≤ k → k < m → d k < d m) (hhi : ∀ k, m < k → k < y → d m ≤ d k) (hr : Row w1 g n e) (hp : RP x m d e) (hs : Sorted x m e) (hg : wr.grownBy w1 (some g)) : St w g n a b (m + 1) y d0 w1 e := by
  obtain ⟨k1, k2, k3, k4, k5⟩ := h.step hax hyb hr (hp.wide (Nat.le_refl _) (by omega)) hg
  have em : e m = d m := hp.out (by omega)
  have elo : ∀ k, x ≤ k → k < m → e k < d m := hp.all (P := fun v => v < d m) hlo
  have ehi : ∀ k, m < k → k < y → e k = d k := fun k h1 h2 => hp.out (by omega)
  refine ⟨k1, k2, k3.right (by omega) (by omega) (fun i j h1 h2 h3 => ?_) (fun i j h1 h2 h3 h4 => ?_), .inr fun k h1 h2 => ?_, k5⟩
  · by_cases ej : j = m
    · subst ej; have := elo i h1 h2; omega
    · exact hs i j h1 h2 (by omega)
  · have h5 := ehi j (by omega) h4
    have h6 := hhi j (by omega) h4
    by_cases ei : i = m
    · subst ei; omega
    · have := elo i h1 (by omega); omega
  · have h5 := ehi k (by omega) h2
    have h6 := hhi k (by omega) h2
    rw [Nat.add_sub_cancel]; omega
theorem St.leftOf {w wr w1 : World} {g n a b x y m : Nat} {d0 d e : Nat → Int} (h : St w g n a b x y d0 wr d) (hax : a ≤ x) (hyb : y ≤ b) (hm1 : x ≤ m) (hm2 : m < y)
    (hlo : ∀ k, x ≤ k → k < m → d k < d m) (hhi : ∀ k, m < k → k < y → d m ≤ d k) (hr : Row w1 g n e) (hp : RP (m + 1) y d e) (hs : Sorted (m + 1) y e) (hg : wr.grownBy w1 (some g)) : St w g n a b x m d0 w1 e := by
  obtain ⟨k1, k2, k3, k4, k5⟩ := h.step hax hyb hr (hp.wide (by omega) (Nat.le_refl _)) hg
  have em : e m = d m := hp.out (by omega)
  have elo : ∀ k, x ≤ k → k < m → e k = d k := fun k h1 h2 => hp.out (by omega)
  have ehi : ∀ k, m + 1 ≤ k → k < y → d m ≤ e k := hp.all (P := fun v => d m ≤ v) (fun k h1 h2 => hhi k (by omega) h2)
  refine ⟨k1, k2, k3.left hm1 (by omega) (fun i j h1 h2 h3 => ?_) (fun i j h1 h2 h3 h4 => ?_), k4.less (by omega), k5⟩
  · by_cases ei : i = m
    · subst ei; have := ehi j (by omega) h3; omega
    · exact hs i j (by omega) h2 h3
  · have h5 := elo i h1 h2
    have h6 := hlo i h1 h2
    by_cases ej : j = m
    · subst ej; omega
    · have := ehi j (by omega) h4; omega

set_option maxHeartbeats 10000000 in
set_option maxRecDepth 100000 in
theorem pdq_ok (g n c : Nat) (hn : n ≤ 100000000) : ∀ (N a b lim : Nat) (d0 : Nat → Int) (w : World), b - a < N → a ≤ b → b ≤ n → lim ≤ 100 → Row w g n d0 → Ahead a b d0 →
    Calls Try.prog 18 #[.slice (some ⟨g, 0, none⟩) n c, .int .i64 a, .int .i64 b, .int .i64 lim] w fun e w' =>
      e = .returned (.tuple #[]) ∧ ∃ d, Row w' g n d ∧ RP a b d0 d ∧ Sorted a b d ∧ w.grownBy w' (some g) := by
  intro N
  induction N with
  | zero => intro a b lim d0 w h; omega
  | succ N ih =>
  intro a b lim d0 w hN hab hbn hlim hrow hah
  have hSt0 : St w g n a b a b d0 w d0 := ⟨hrow, .refl, fun p q h1 h2 h3 h4 => by omega, hah, World.grownBy.refl _ _⟩
  clear hrow hah
  go_enter Try.func18, Try.ntmps18
  go_wp2_with fail
  go_loopg [1, 2, 3, 8, 9] (b - a) (fun k s1 s2 s3 s8 s9 wr => ∃ (x y L : Nat) (wb wp : Bool) (d : Nat → Int), s1 = .int .i64 x ∧ s2 = .int .i64 y ∧ s3 = .int .i64 L ∧ s8 = .bool wb ∧ s9 = .bool wp ∧ k = y - x ∧ a ≤ x ∧ x ≤ y ∧ y ≤ b ∧ L ≤ 100 ∧ St w g n a b x y d0 wr d)
  case atStart => exact ⟨a, b, lim, true, true, d0, rfl, rfl, rfl, rfl, rfl, rfl, Nat.le_refl _, hab, Nat.le_refl _, hlim, hSt0⟩
  case round =>
    clear hSt0
    obtain ⟨x, y, L, wb, wp, d, rfl, rfl, rfl, rfl, rfl, hk, hax, hxy, hyb, hL, hst⟩ := hrel
    by_cases h12 : y - x ≤ 12
    · have hc := insertion_ok g n c x y d wr hst.1 hxy (by omega) hn
      go_wp2_with (go_at_call 20; ((with_reducible refine hc.mono ?_); rintro e w1 ⟨rfl, d1, hr1, hp1, hs1, hg1⟩))
      first | go_end0 | refine bodyPost_ret (results_none rfl _ _ _) rfl ?_
      exact ⟨rfl, hst.finish hax hyb hr1 hp1 hs1 hg1⟩
    · by_cases hL0 : L = 0
      · subst hL0
        have hc := heap_ok g n c x y d wr hst.1 (by omega) (by omega) hn
        go_wp2_with (go_at_call 21; ((with_reducible refine hc.mono ?_); rintro e w1 ⟨rfl, d1, hr1, hp1, hs1, hg1⟩))
        first | go_end0 | refine bodyPost_ret (results_none rfl _ _ _) rfl ?_
        exact ⟨rfl, hst.finish hax hyb hr1 hp1 hs1 hg1⟩
      · have hc := break_ok g n c x y d wr hst.1 (by omega) (by omega) hn
        go_upto_if 35 with fail
        go_cut [3] from 19 (fun s3 wc => ∃ (L' : Nat) (d1 : Nat → Int), s3 = .int .i64 L' ∧ L' ≤ 100 ∧ St w g n a b x y d0 wc d1)
        case first =>
          cases wb
          · go_wp2_with (go_at_call 22; ((with_reducible refine hc.mono ?_); rintro e w1 ⟨rfl, d1, hr1, hp1, hg1⟩))
            go_meet
            exact ⟨L - 1, d1, by go_num, by omega, hst.step hax hyb hr1 hp1 hg1⟩
          · go_wp2_with fail
            go_meet
            exact ⟨L, d, rfl, hL, hst⟩
        case rest =>
          clear hst hc
          obtain ⟨L', d1, rfl, hL', hst⟩ := hcut
          have hc := pivot_ok g n c x y d1 wc hst.1 (by omega) (by omega) hn
          go_upto_if 50 with (go_at_call 23; ((with_reducible refine hc.mono ?_); rintro e w1 ⟨m, h, rfl, hm1, hm2, hr1, hb1⟩))
          have hst1 : St w g n a b x y d0 w1 d1 := ⟨hr1, hst.2.1, hst.2.2.1, hst.2.2.2.1, grown_below hst.2.2.2.2 hb1⟩
          clear hc hst hr1 hb1
          have hc := reverse_ok g n c x y d1 w1 hst1.1 (by omega) (by omega) hn
          go_cut [11, 12] from 19 (fun s11 s12 wc => ∃ (m : Nat) (h : Int) (d1 : Nat → Int), s11 = .int .i64 m ∧ s12 = .int .i64 h ∧ x ≤ m ∧ m < y ∧ St w g n a b x y d0 wc d1)
          case first =>
            by_cases hh : h = 2
            · subst hh
              go_wp2_with (go_at_call 24; ((with_reducible refine hc.mono ?_); rintro e w2 ⟨rfl, d2, hr2, hp2, hg2⟩))
              go_meet
              exact ⟨y - 1 - (m - x), 1, d2, by go_num, rfl, by omega, by omega, hst1.step hax hyb hr2 hp2 hg2⟩
            · go_wp2_with fail
              go_meet
              exact ⟨m, h, d1, rfl, rfl, hm1, hm2, hst1⟩
          case rest =>
            clear hst1 hc hm1 hm2
            obtain ⟨m, h, d1, rfl, rfl, hm1, hm2, hst⟩ := hcut
            go_upto_region 15 with fail
            go_cut [68] from 19 (fun s68 wx => ∃ t : Bool, s68 = .bool t ∧ wx = wc)
            case first =>
              by_cases hh : h = 1 <;> cases wb <;> cases wp
              all_goals (go_wp2_with fail; go_meet; exact ⟨_, rfl, rfl⟩)
            case rest =>
              obtain ⟨t, rfl, rfl⟩ := hcut
              have hc := partial_ok g n c x y d1 _ hst.1 (by omega) (by omega) hn hst.2.2.2.1
              go_upto_if 68 with fail
              go_cut [] from 19 (fun wx => ∃ d1 : Nat → Int, St w g n a b x y d0 wx d1)
              case first =>
                cases t
                · go_wp2_with fail
                  go_meet
                  exact ⟨d1, hst⟩
                · go_wp2_with (go_at_call 25; ((with_reducible refine hc.mono ?_); rintro e w2 ⟨z, d2, rfl, hr2, hp2, hs2, hg2⟩; cases z))
                  · go_meet
                    exact ⟨d2, hst.step hax hyb hr2 hp2 hg2⟩
                  · first | go_end0 | refine bodyPost_ret (results_none rfl _ _ _) rfl ?_
                    exact ⟨rfl, hst.finish hax hyb hr2 hp2 (by first | exact hs2 rfl | exact hs2 trivial) hg2⟩
              case rest =>
                clear hst hc
                obtain ⟨d2, hst⟩ := hcut
                go_upto_region 17 with fail
                go_cut [87] from 19 (fun s87 wx => ∃ t : Bool, s87 = .bool t ∧ (t = true → 0 < x ∧ d2 m ≤ d2 (x - 1)) ∧ St w g n a b x y d0 wx d2)
                case first =>
                  have hcm := hst.1.cell (i := m) (by omega)
                  by_cases hx0 : 0 < x
                  · have hcx := hst.1.cell (i := x - 1) (by omega)
                    by_cases hlt : d2 (x - 1) < d2 m
                    · go_quiet ((go_at_call 26; exact Calls.quiet_of_same (less_any _ _ _)))
                      go_wp2_with fail
                      go_meet
                      exact ⟨false, by simp, (fun h => by cases h), hst.quiet _⟩
                    · go_quiet ((go_at_call 26; exact Calls.quiet_of_same (less_any _ _ _)))
                      go_wp2_with fail
                      go_meet
                      exact ⟨true, by simp, fun _ => ⟨hx0, by omega⟩, hst.quiet _⟩
                  · have hdec : decide ((0 : Int) < (x : Int)) = false := by simp; omega
                    go_quiet (fail)
                    go_wp2_with fail
                    go_meet
                    exact ⟨false, rfl, (fun h => by cases h), hst.quiet _⟩
                case rest =>
                  clear hst
                  obtain ⟨t, rfl, ht, hst⟩ := hcut
                  have HT : Hid (t = true → 0 < x ∧ d2 m ≤ d2 (x - 1)) := ht
                  clear ht
                  cases t
                  · have hc := part_ok g n c x y m d2 _ hst.1 hm1 hm2 (by omega) hn
                    go_upto_if 113 with (go_at_call 28; ((with_reducible refine hc.mono ?_); rintro e w3 ⟨k, z, d3, rfl, hk1, hk2, hr3, hp3, he3, hlo3, hhi3, hg3⟩))
                    have hst3 := hst.step hax hyb hr3 hp3 hg3
                    have HLO : Hid (∀ j, x ≤ j → j < k → d3 j < d3 k) := (show ∀ j, x ≤ j → j < k → d3 j < d3 k from fun j h1 h2 => by rw [he3]; exact hlo3 j h1 h2)
                    have HHI : Hid (∀ j, k < j → j < y → d3 k ≤ d3 j) := (show ∀ j, k < j → j < y → d3 k ≤ d3 j from fun j h1 h2 => by rw [he3]; exact hhi3 j h1 h2)
                    clear hst hc hr3 hp3 he3 hlo3 hhi3 hg3 HT
                    by_cases hlen : (k : Int) - (x : Int) < (y : Int) - (k : Int)
                    · have hc := ih x k L' d3 w3 (by omega) hk1 (by omega) hL' hst3.1 (hst3.2.2.2.1.less (by omega))
                      go_wp2_with (go_at_call 18; ((with_reducible refine hc.mono ?_); rintro e w4 ⟨rfl, d4, hr4, hp4, hs4, hg4⟩))
                      go_roundg (y - (k + 1))
                      case measure => omega
                      case rel => exact ⟨k + 1, y, L', _, z, d4, by go_num, rfl, rfl, rfl, rfl, rfl, by omega, by omega, hyb, hL', hst3.rightOf hax hyb hk1 hk2 HLO.out HHI.out hr4 hp4 hs4 hg4⟩
                    · have hc := ih (k + 1) y L' d3 w3 (by omega) (by omega) (by omega) hL' hst3.1 (.inr fun j h1 h2 => by rw [Nat.add_sub_cancel]; exact HHI.out j (by omega) h2)
                      rw [show ((k + 1 : Nat) : Int) = (k : Int) + 1 by omega] at hc
                      go_wp2_with (go_at_call 18; ((with_reducible refine hc.mono ?_); rintro e w4 ⟨rfl, d4, hr4, hp4, hs4, hg4⟩))
                      go_roundg (k - x)
                      case measure => omega
                      case rel => exact ⟨x, k, L', _, z, d4, rfl, rfl, rfl, rfl, rfl, rfl, hax, hk1, by omega, hL', hst3.leftOf hax hyb hk1 hk2 HLO.out HHI.out hr4 hp4 hs4 hg4⟩
                  · have HT1 : Hid (0 < x ∧ d2 m ≤ d2 (x - 1)) := HT.out rfl
                    have hc := equal_ok g n c x y m d2 _ hst.1 hm1 hm2 (by omega) hn
                    go_wp2_with (go_at_call 27; ((with_reducible refine hc.mono ?_); rintro e w3 ⟨k, d3, rfl, hk1, hk2, hr3, hp3, hlo3, hhi3, hg3⟩))
                    go_roundg (y - k)
                    case measure => omega
                    case rel => exact ⟨k, y, L', wb, wp, d3, rfl, rfl, rfl, rfl, rfl, rfl, by omega, hk2, hyb, hL', hst.equal hax hyb HT1.out.1 HT1.out.2 hk1 hk2 hr3 hp3 hlo3 hhi3 hg3⟩
end Go.Proofs.Ytnkpljcfmifinaa.sorts
