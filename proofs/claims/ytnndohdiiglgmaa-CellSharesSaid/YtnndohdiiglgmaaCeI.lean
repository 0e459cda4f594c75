/- CellShares: the walk. -/
import Derived.Test.YtnndohdiiglgmaaCeG
import Derived.Test.YtnndohdiiglgmaaMdE
import Derived.Deep.CutRange


namespace Go.Proofs.Ytnndohdiiglgmaa.cells
set_option linter.unusedVariables false
set_option linter.unusedSimpArgs false
open Go.RowKit Go.Proofs.Ytnndohdiiglgmaa.base Go.Proofs.Ytnndohdiiglgmaa.powers Go.Proofs.Ytnndohdiiglgmaa.mediums Go.Proofs.Ytnndohdiiglgmaa.trees Go.Lib

abbrev sM : ByteArray := ⟨#[109]⟩
abbrev sC : ByteArray := ⟨#[99]⟩
abbrev sD : ByteArray := ⟨#[100]⟩
/-- how many were written behind a raw write more, with a cut at n -/
def stp (n W : Nat) : Nat := if n ≤ W then W else W + 1
def ePw (n W : Nat) : Int := if n ≤ W then 110 else 0
/-- a medium and a cell that share one power with a cut at n; W raw writes are done -/
structure Sh (w0 : World) (n pp gm gc : Nat) (S : Nat → Prop) (m : MS) (c : CS) (W : Nat) (w : World) : Prop where
  md : Md w S pp gm m
  ce : Ce w pp gc c
  k : Blk w pp 144 (PC ((n : Int) - W) W)
  ns : ¬ S gc
  seg : m.segs.length = 1 ∧ m.size = 1000
  sum : (m.past.length : Int) + c.D = W ∧ 0 ≤ c.D
  le : W ≤ n ∧ n ≤ 60
  hb : Below w0.heap.size w0 w
  lo : w0.heap.size ≤ pp ∧ w0.heap.size ≤ gc ∧ ∀ k, S k → w0.heap.size ≤ k
section
variable {w0 w w' : World} {n pp gm gc W : Nat} {S : Nat → Prop} {m : MS} {c : CS}
theorem Sh.below (h : Sh w0 n pp gm gc S m c W w) (hb : Below w.heap.size w w') : Sh w0 n pp gm gc S m c W w' :=
  ⟨h.md.below hb, h.ce.below hb h.ce.lt, h.k.below hb h.k.lt, h.ns, h.seg, h.sum, h.le, h.hb.trans (hb.mono h.hb.size), h.lo⟩
theorem Sh.inn (h : Sh w0 n pp gm gc S m c W w) : In ((n : Int) - W) := by have := h.le; unfold In; omega
theorem nx_small {W : Nat} (h : W ≤ 60) : nx (W : Int) = ((W + 1 : Nat) : Int) := by unfold nx wrap64; omega
theorem pw_stp {n W : Nat} (h : W ≤ n ∧ n ≤ 60) : PC (spL ((n : Int) - W)) (wSp ((n : Int) - W) W) = PC ((n : Int) - stp n W) (stp n W) := by
  unfold spL wSp stp
  by_cases hn : n ≤ W
  · rw [if_pos (by omega), if_pos (by omega), if_pos hn]
  · rw [if_neg (by omega), if_neg (by omega), if_neg hn, nx_small (by omega)]
    rw [show (n : Int) - W - 1 = (n : Int) - ((W + 1 : Nat) : Int) by omega]
theorem lF_zero (L : Int) : lF 0 L = spL L := if_pos rfl
theorem wF_zero (L W : Int) : wF 0 L W = wSp L W := if_pos rfl
theorem ansF_zero (L : Int) : ansF 0 L = eSp L := if_pos rfl
theorem ansF_set (L : Int) : ansF 131 L = 131 := if_neg (by decide)
theorem e_stp {n W : Nat} (h : W ≤ n) : eSp ((n : Int) - W) = ePw n W := by
  unfold eSp ePw
  by_cases hn : n ≤ W
  · rw [if_pos (by omega), if_pos hn]
  · rw [if_neg (by omega), if_neg hn]
theorem Sh.wmd (h : Sh w0 n pp gm gc S m c W w) {e : Ending} (hw : WrPost S pp gm m ((n : Int) - W) W 0 0 sM w e w') : e = .returned (.int .i64 (ePw n W)) ∧ ∃ S' m', Sh w0 n pp gm gc S' m' c (stp n W) w' := by
  have hat := h.md.at_le 0
  have hf : refE m 0 0 sM = 0 := by
    unfold refE
    rw [if_pos (by rw [h.seg.1]; omega), if_neg (by omega), if_neg (by rw [h.seg.2]; show ¬ ((1000 : Nat) : Int) - 0 < ((1 : Nat) : Int); omega)]
  obtain ⟨rfl, S', hS, hm, hk, hkp⟩ := hw
  rw [if_pos hf, pw_stp h.le] at hk
  refine ⟨by unfold wrE; rw [if_pos hf, e_stp h.le.1], S', _, hm, h.ce.agree (hkp.block _ h.ce.lt (fun hc => hc.elim h.ns h.ce.ne)), hk, fun hc => (hS _ hc).elim h.ns (fun hz => by have := h.ce.lt; omega), ?_, ?_, ?_, h.hb.trans (hkp.below (B := w0.heap.size) (fun k hk => hk.elim (h.lo.2.2 k) (fun e => e ▸ h.lo.1)) h.hb.size), h.lo.1, h.lo.2.1, fun k hk => (hS k hk).elim (h.lo.2.2 k) (fun hz => by have := h.hb.size; omega)⟩
  · split
    · exact ⟨by simp [putM, h.seg.1], h.seg.2⟩
    · exact h.seg
  · have hs := h.sum
    refine ⟨?_, hs.2⟩
    unfold stp
    by_cases hn : n ≤ W
    · rw [if_neg (fun hc => hc.2 (by have := h.le; omega)), if_pos hn]; exact hs.1
    · rw [if_pos ⟨hf, by omega⟩, if_neg hn]
      simp only [putM, List.length_append, List.length_singleton]
      omega
  · have := h.le
    unfold stp
    split <;> omega
theorem Sh.wce (h : Sh w0 n pp gm gc S m c W w) {e : Ending} {k : Nat} {b : ByteArray} (hw : WPost pp gc c ((n : Int) - W) W 0 k b w e w') : e = .returned (.int .i64 (ePw n W)) ∧ ∃ c', Sh w0 n pp gm gc S m c' (stp n W) w' := by
  obtain ⟨rfl, a1, a2, a3⟩ := hw
  rw [lF_zero, wF_zero, pw_stp h.le] at a2
  refine ⟨by rw [ansF_zero, e_stp h.le.1], _, h.md.keep (T := two pp gc) ⟨a3.os, a3.tape, a3.output, a3.size, a3.block⟩ (fun k hk hc => hc.elim (fun e => h.md.notp (e ▸ hk)) (fun e => h.ns (e ▸ hk))), a1, a2, h.ns, h.seg, ?_, ?_, h.hb.trans (a3.below (B := w0.heap.size) (fun k hk => hk.elim (fun e => e ▸ h.lo.1) (fun e => e ▸ h.lo.2.1)) h.hb.size), h.lo⟩
  · have hs := h.sum
    have hle := h.le
    unfold stp cellF
    by_cases hn : n ≤ W
    · rw [if_neg (fun hc => hc.2 (by omega)), if_pos hn]; exact hs
    · rw [if_pos ⟨rfl, by omega⟩, if_neg hn]
      have hd : (c.put k b).D = nx c.D := by unfold CS.put; split <;> rfl
      rw [hd]
      have : nx c.D = c.D + 1 := by unfold nx wrap64; omega
      omega
  · have := h.le
    unfold stp
    split <;> omega
end

section
variable {w0 w w' : World} {n pp gm gc W : Nat} {S : Nat → Prop} {m : MS} {c : CS}
theorem Sh.same (h : Sh w0 n pp gm gc S m c W w) {k : Nat} {b : ByteArray} (a1 : Ce w' pp gc (cellF c 131 ((n : Int) - W) k b)) (a2 : Blk w' pp 144 (PC (lF 131 ((n : Int) - W)) (wF 131 ((n : Int) - W) W))) (a3 : St (two pp gc) w w') : Sh w0 n pp gm gc S m c W w' := by
  rw [show cellF c 131 ((n : Int) - W) k b = c from if_neg (fun h => absurd h.1 (by decide))] at a1
  rw [show lF 131 ((n : Int) - W) = (n : Int) - W from if_neg (by decide), show wF 131 ((n : Int) - W) W = W from if_neg (by decide)] at a2
  exact ⟨h.md.keep (T := two pp gc) ⟨a3.os, a3.tape, a3.output, a3.size, a3.block⟩ (fun k hk hc => hc.elim (fun e => h.md.notp (e ▸ hk)) (fun e => h.ns (e ▸ hk))), a1, a2, h.ns, h.seg, h.sum, h.le, h.hb.trans (a3.below (B := w0.heap.size) (fun k hk => hk.elim (fun e => e ▸ h.lo.1) (fun e => e ▸ h.lo.2.1)) h.hb.size), h.lo⟩
end
def cutN (n : Int) : Nat := if n < 0 ∨ 60 < n then 60 else n.toNat

set_option maxRecDepth 100000 in
set_option maxHeartbeats 8000000 in
theorem law_shares (l : List Int) (A : Option Addr) (cc : Nat) (cut : Int) (w : World) (hK : Rd w w.heap.size A (l.map (Value.int .i64))) (hlm : l.length ≤ maxLen) :
    Calls Try.prog 10 #[.slice A l.length cc, .int .i64 cut] w fun e w' => e = .returned (.bool true) ∧ Below w.heap.size w w' := by
  have hl : l.length ≤ 9223372036854775807 := hlm
  clear hlm
  have c1 := powers.new_ok w
  go_enter Try.func10, Try.ntmps10
  go_wp2_with fail
  refine c1.mono ?_
  clear c1
  rintro e w1 ⟨rfl, k1, b1, z1'⟩
  have z1 := powers.lay z1'
  clear z1'
  have c1 := mnew_ok w.heap.size 1 1000 (by omega) (by omega) w1 k1.lt
  rw [show ((1 : Nat) : Int) = 1 from rfl, show ((1000 : Nat) : Int) = 1000 from rfl] at c1
  go_wp2_with fail
  refine c1.mono ?_
  clear c1
  rintro e w2 ⟨gm, rfl, m2, b2⟩
  have k2 := k1.below b2 k1.lt
  have c1 := new_yes w2 w.heap.size k2.lt
  go_wp2_with fail
  refine c1.mono ?_
  clear c1
  rintro e w3 ⟨rfl, c3, b3, z3'⟩
  have z3 := powers.lay z3'
  clear z3'
  have m3 := m2.below b3
  have k3 := k2.below b3 k2.lt
  have hb3 : Below w.heap.size w w3 := b1.trans ((b2.trans (b3.mono b2.size)).mono b1.size)
  have s1 := b1.size
  have s2 := b2.size
  obtain ⟨pp, hpp⟩ : ∃ x, w.heap.size = x := ⟨_, rfl⟩
  obtain ⟨gc, hgc⟩ : ∃ x, w2.heap.size = x := ⟨_, rfl⟩
  obtain ⟨S, hS⟩ : ∃ S : Nat → Prop, (fun k => w1.heap.size ≤ k ∧ k < w2.heap.size) = S := ⟨_, rfl⟩
  have hS1 : ¬ S gc := by rw [← hS]; intro h; have h : w1.heap.size ≤ gc ∧ gc < w2.heap.size := h; omega
  have hS2 : ∀ k, S k → w.heap.size ≤ k := fun k hk => by rw [← hS] at hk; have hk : w1.heap.size ≤ k ∧ k < w2.heap.size := hk; have := b1.size; omega
  rw [hS] at m3
  rw [hgc] at c3 ⊢
  have hk0 : pp = w.heap.size := hpp.symm
  have HP := powers.lay hpp
  have c3 : Ce w3 pp gc ⟨⟨#[]⟩, ⟨#[]⟩, 0⟩ := by rw [← hpp]; exact c3
  have k3 : Blk w3 pp 144 (PC (-1) 0) := by rw [← hpp]; exact k3
  have m3 : Md w3 S pp gm (newM 1 1000) := by rw [← hpp]; exact m3
  have hgc0 : w.heap.size ≤ gc := by omega
  rw [hpp]
  clear hS hgc k1 k2 m2 b1 b2 b3 z1 z3 s1 s2 hpp
  have HS := powers.lay (And.intro hS1 (And.intro hS2 hgc0))
  have HM := powers.lay (And.intro m3 (And.intro c3 k3))
  have HB := powers.lay hb3
  clear m3 c3 k3 hb3 hS1 hS2 hgc0 hk0
  go_upto_region 6 with (fail)
  go_cut [37] from 32 to 36 (fun x wx => ∃ bb : Bool, x = .bool bb ∧ Hid (bb = false → 0 ≤ cut ∧ cut ≤ 60) ∧ w3 = wx)
  case first =>
    by_cases h1 : cut < 0
    · have d1 : decide (cut < 0) = true := decide_eq_true h1
      clear h1
      go_wp2_with fail
      go_meet
      exact ⟨true, rfl, powers.lay (fun h => by cases h), rfl⟩
    · have d1 : decide (cut < 0) = false := decide_eq_false h1
      by_cases h2 : 60 < cut
      · have d2 : decide (60 < cut) = true := decide_eq_true h2
        clear h1 h2
        go_wp2_with fail
        go_meet
        exact ⟨true, rfl, powers.lay (fun h => by cases h), rfl⟩
      · have d2 : decide (60 < cut) = false := decide_eq_false h2
        have HC := powers.lay (And.intro h1 h2)
        clear h1 h2
        go_wp2_with fail
        go_meet
        exact ⟨false, rfl, powers.lay (fun _ => by have := HC.out; omega), rfl⟩
  case rest =>
  obtain ⟨bb, rfl, HC, rfl⟩ := hcut
  go_upto_if 37 with (fail)
  go_cut [1] from 32 to 37 (fun x wx => ∃ n : Nat, n ≤ 60 ∧ x = .int .i64 (n : Int) ∧ w3 = wx)
  case first =>
    cases bb with
    | true =>
      go_wp2_with fail
      go_meet
      exact ⟨60, by omega, rfl, rfl⟩
    | false =>
      obtain ⟨n, rfl⟩ := Int.eq_ofNat_of_zero_le (show 0 ≤ cut by have := HC.out rfl; omega)
      go_wp2_with fail
      go_meet
      exact ⟨n, by have := HC.out (by trivial); omega, rfl, rfl⟩
  case rest =>
  clear HC
  obtain ⟨n, hn60, rfl, rfl⟩ := hcut
  obtain ⟨m3, c3, k3⟩ := HM.out
  obtain ⟨hS1, hS2, hgc0⟩ := HS.out
  have hb3 := HB.out
  have hk0 := HP.out
  have c1 := cut_ok (n : Int) k3 (by unfold In; omega)
  rw [show cutL (-1) (n : Int) = n by unfold cutL; rw [if_neg (by omega)]; omega] at c1
  have hgo : ∀ (w4 : World), Blk w4 pp 144 (PC (n : Int) 0) → St (powers.one pp) w3 w4 → Hid (Sh w n pp gm gc S (newM 1 1000) ⟨⟨#[]⟩, ⟨#[]⟩, 0⟩ 0 w4) := fun w4 k4 s4 => powers.lay
    ⟨m3.keep (T := powers.one pp) ⟨s4.os, s4.tape, s4.output, s4.size, s4.block⟩ (fun k hk hc => m3.notp (by rw [← show k = pp from hc]; exact hk)), c3.keep s4 c3.ne, by rw [show (n : Int) - ((0 : Nat) : Int) = n by omega]; exact k4, hS1, ⟨by simp [newM], rfl⟩, ⟨by simp [newM], by simp⟩, ⟨Nat.zero_le _, hn60⟩, hb3.trans (s4.below (B := w.heap.size) (fun k hk => by rw [show k = pp from hk]; omega) hb3.size), by omega, hgc0, hS2⟩
  clear m3 c3 k3 hb3 hk0 hS1 hS2 hgc0 HB HM HS
  go_wp2_with fail
  refine c1.mono ?_
  clear c1
  rintro e w4 ⟨rfl, k4, s4⟩
  have T4 := hgo w4 k4 s4
  clear k4 s4 hgo
  go_wp2_with fail
  go_loopw [43] (fun i wr => ∃ (j : Nat) (S : Nat → Prop) (m : MS) (c : CS) (W : Nat), i = .int .i64 (j : Int) ∧ j ≤ l.length ∧ Hid (Sh w n pp gm gc S m c W wr)) (fun i _ => l.length - (RowKit.intOf i).toNat)
  case atStart => exact ⟨0, _, _, _, _, rfl, Nat.zero_le _, T4⟩
  case round =>
    clear T4
    obtain ⟨j, S, m, c, W, rfl, hj, HT⟩ := hrel
    by_cases hlt : j < l.length
    · skip
      have eI : IntKind.i64.wrap ((j : Int) + 1) = (j : Int) + 1 := IntWalk.i64_in _ (by omega)
      obtain ⟨bk, off, eA, hbk, xl⟩ := hK.at_ (k := j) (by rw [List.length_map]; exact hlt)
      rw [List.getElem_map] at xl
      have xl := (HT.out.hb.cell (p := ⟨bk, off + j, none⟩) hbk).trans xl
      have lb : bk < wr.heap.size := Nat.lt_of_lt_of_le hbk HT.out.hb.size
      have HK := powers.lay hK
      clear hK
      generalize l[j] = x at xl
      subst eA
      by_cases h60 : j < 60
      · have d60 : decide ((60 : Int) ≤ (j : Int)) = false := decide_eq_false (by omega)
        have d61 : decide (60 ≤ j) = false := decide_eq_false (by omega)
        clear h60
        have T := HT.out
        have hW := powers.lay T.le.1
        have cO1 := on_ok T.k
        have cW1 := writes_ok T.k T.inn
        by_cases r0 : Int.tmod x 3 = 0
        · have cA := write_any T.md T.k T.inn 0 0 sM (by have := T.sum; have := T.le; omega)
          have hd : decide (Int.tmod x 3 = 0) = true := decide_eq_true r0
          have hd2 : (Int.tmod x 3 == 0) = true := by rw [r0]; rfl
          clear r0
          go_wp2_with (first | (go_at_call 42; refine cW1.mono ?_; rintro e wr ⟨rfl, rfl⟩) | (go_at_call 41; refine cO1.mono ?_; rintro e wr ⟨rfl, rfl⟩))
          refine cA.mono ?_
          rintro e w2 hA
          obtain ⟨rfl, S2, m2, T2⟩ := T.wmd hA
          obtain ⟨c2, hc2⟩ : ∃ c2, c = c2 := ⟨_, rfl⟩
          rw [hc2] at T2
          clear cA cO1 cW1 hA T HT xl hc2
          have HT2 := powers.lay T2
          have hle := T2.le
          have cW := writes_ok T2.k T2.inn
          have cO := on_ok T2.k
          have hbl2 : bL ((n : Int) - (stp n W : Int)) = decide ((stp n W : Int) < (n : Int)) := by unfold bL; rw [decide_eq_decide]; omega
          rw [hbl2] at cO
          have cM := count_any T2.md
          have cC := cells.count_ok T2.ce
          have x1 := T2.md.ptr
          have x2 := T2.ce.ptr
          have hsum := T2.sum
          clear hbl2 T2
          by_cases hon : n ≤ W
          · have es : stp n W = W := if_pos hon
            have ee : ePw n W = 110 := if_pos hon
            have eb : bL ((n : Int) - (W : Int)) = false := by unfold bL; exact decide_eq_false (by have := hW.out; omega)
            rw [es] at cW cO hsum hle
            rw [ee, eb]
            have d1 : decide ((n : Int) < (W : Int)) = false := decide_eq_false (by omega)
            have d2 : decide ((W : Int) < (n : Int)) = false := decide_eq_false (by omega)
            have d3 : decide (n < W) = false := decide_eq_false (by omega)
            have d4 : decide (W < n) = false := decide_eq_false (by omega)
            rw [d2] at cO
            have hD : ∃ dd : Nat, c2.D = (dd : Int) := ⟨c2.D.toNat, by omega⟩
            obtain ⟨dd, hD⟩ := hD
            rw [hD] at cC hsum
            generalize m2.past.length = pl at *
            have e3 : IntKind.i64.wrap ((pl : Int) + (dd : Int)) = (W : Int) := (IntWalk.i64_in _ (by omega)).trans hsum.1
            have HON := powers.lay hon
            have HH := powers.lay hsum
            clear hsum es ee eb hon hle hD
            go_wp2_with (first | (go_at_call 42; refine cW.mono ?_; rintro e wa ⟨rfl, rfl⟩) | (go_at_call 41; refine cO.mono ?_; rintro e wa ⟨rfl, rfl⟩) | (go_at_call 44; refine cM.mono ?_; rintro e wa ⟨rfl, rfl⟩) | (go_at_call 45; refine cC.mono ?_; rintro e wa ⟨rfl, rfl⟩))
            go_roundw
            case rel => exact ⟨j + 1, _, _, _, _, by go_num, hlt, HT2⟩
            case measure => first | (simp [RowKit.intOf]; done) | (simp [RowKit.intOf]; omega) | omega
          · have es : stp n W = W + 1 := if_neg hon
            have ee : ePw n W = 0 := if_neg hon
            have eb : bL ((n : Int) - (W : Int)) = true := by unfold bL; exact decide_eq_true (by omega)
            rw [es] at cW cO hsum hle
            rw [ee, eb]
            have d0 : IntKind.i64.wrap ((W : Int) + 1) = (W : Int) + 1 := IntWalk.i64_in _ (by omega)
            rw [show ((W + 1 : Nat) : Int) = (W : Int) + 1 from rfl] at cW cO hsum
            have d1 : decide ((n : Int) < (W : Int) + 1) = false := decide_eq_false (by omega)
            have d3 : decide (n < W + 1) = false := decide_eq_false (by omega)
            have hD : ∃ dd : Nat, c2.D = (dd : Int) := ⟨c2.D.toNat, by omega⟩
            obtain ⟨dd, hD⟩ := hD
            rw [hD] at cC hsum
            generalize m2.past.length = pl at *
            have e3 : IntKind.i64.wrap ((pl : Int) + (dd : Int)) = (W : Int) + 1 := (IntWalk.i64_in _ (by omega)).trans hsum.1
            have HON := powers.lay hon
            have HH := powers.lay hsum
            clear hsum es ee eb hon hle hD
            go_wp2_with (first | (go_at_call 42; refine cW.mono ?_; rintro e wa ⟨rfl, rfl⟩) | (go_at_call 41; refine cO.mono ?_; rintro e wa ⟨rfl, rfl⟩) | (go_at_call 44; refine cM.mono ?_; rintro e wa ⟨rfl, rfl⟩) | (go_at_call 45; refine cC.mono ?_; rintro e wa ⟨rfl, rfl⟩))
            go_roundw
            case rel => exact ⟨j + 1, _, _, _, _, by go_num, hlt, HT2⟩
            case measure => first | (simp [RowKit.intOf]; done) | (simp [RowKit.intOf]; omega) | omega
        · have hd : decide (Int.tmod x 3 = 0) = false := decide_eq_false r0
          have hd2 : (Int.tmod x 3 == 0) = false := beq_eq_false_iff_ne.2 r0
          clear r0
          by_cases r1 : Int.tmod x 3 = 1
          · have hd3 : decide (Int.tmod x 3 = 1) = true := decide_eq_true r1
            have hd4 : (Int.tmod x 3 == 1) = true := by rw [r1]; rfl
            clear r1
            by_cases hs : c.s0.size = 0
            · have cA := set_any T.ce T.k T.inn 0 sC
              have hf : setF c 0 sC = 0 := by unfold setF; rw [if_pos (by omega)]; exact (if_neg (fun h => h hs)).trans (if_neg (by show ¬ ((1 : Nat) = 0 ∨ 200 < (1 : Nat)); omega))
              rw [hf] at cA
              go_wp2_with (first | (go_at_call 42; refine cW1.mono ?_; rintro e wr ⟨rfl, rfl⟩) | (go_at_call 41; refine cO1.mono ?_; rintro e wr ⟨rfl, rfl⟩))
              refine cA.mono ?_
              rintro e w2 hA
              obtain ⟨rfl, c2, T2⟩ := T.wce hA
              obtain ⟨m2, hm2⟩ : ∃ m2, m = m2 := ⟨_, rfl⟩
              rw [hm2] at T2
              have q1 : decide (ePw n W = 131) = false := decide_eq_false (by unfold ePw; split <;> omega)
              have q2 : (ePw n W == 131) = false := beq_eq_false_iff_ne.2 (by unfold ePw; split <;> omega)
              clear cA cO1 cW1 hA T HT xl hm2 hf hs
              have HT2 := powers.lay T2
              have hle := T2.le
              have cW := writes_ok T2.k T2.inn
              have cO := on_ok T2.k
              have hbl2 : bL ((n : Int) - (stp n W : Int)) = decide ((stp n W : Int) < (n : Int)) := by unfold bL; rw [decide_eq_decide]; omega
              rw [hbl2] at cO
              have cM := count_any T2.md
              have cC := cells.count_ok T2.ce
              have x1 := T2.md.ptr
              have x2 := T2.ce.ptr
              have hsum := T2.sum
              clear hbl2 T2
              by_cases hon : n ≤ W
              · have es : stp n W = W := if_pos hon
                have ee : ePw n W = 110 := if_pos hon
                have eb : bL ((n : Int) - (W : Int)) = false := by unfold bL; exact decide_eq_false (by have := hW.out; omega)
                rw [es] at cW cO hsum hle
                rw [ee, eb]
                have d1 : decide ((n : Int) < (W : Int)) = false := decide_eq_false (by omega)
                have d2 : decide ((W : Int) < (n : Int)) = false := decide_eq_false (by omega)
                have d3 : decide (n < W) = false := decide_eq_false (by omega)
                have d4 : decide (W < n) = false := decide_eq_false (by omega)
                rw [d2] at cO
                have hD : ∃ dd : Nat, c2.D = (dd : Int) := ⟨c2.D.toNat, by omega⟩
                obtain ⟨dd, hD⟩ := hD
                rw [hD] at cC hsum
                generalize m2.past.length = pl at *
                have e3 : IntKind.i64.wrap ((pl : Int) + (dd : Int)) = (W : Int) := (IntWalk.i64_in _ (by omega)).trans hsum.1
                have HON := powers.lay hon
                have HH := powers.lay hsum
                clear hsum es ee eb hon hle hD
                go_wp2_with (first | (go_at_call 42; refine cW.mono ?_; rintro e wa ⟨rfl, rfl⟩) | (go_at_call 41; refine cO.mono ?_; rintro e wa ⟨rfl, rfl⟩) | (go_at_call 44; refine cM.mono ?_; rintro e wa ⟨rfl, rfl⟩) | (go_at_call 45; refine cC.mono ?_; rintro e wa ⟨rfl, rfl⟩))
                go_roundw
                case rel => exact ⟨j + 1, _, _, _, _, by go_num, hlt, HT2⟩
                case measure => first | (simp [RowKit.intOf]; done) | (simp [RowKit.intOf]; omega) | omega
              · have es : stp n W = W + 1 := if_neg hon
                have ee : ePw n W = 0 := if_neg hon
                have eb : bL ((n : Int) - (W : Int)) = true := by unfold bL; exact decide_eq_true (by omega)
                rw [es] at cW cO hsum hle
                rw [ee, eb]
                have d0 : IntKind.i64.wrap ((W : Int) + 1) = (W : Int) + 1 := IntWalk.i64_in _ (by omega)
                rw [show ((W + 1 : Nat) : Int) = (W : Int) + 1 from rfl] at cW cO hsum
                have d1 : decide ((n : Int) < (W : Int) + 1) = false := decide_eq_false (by omega)
                have d3 : decide (n < W + 1) = false := decide_eq_false (by omega)
                have hD : ∃ dd : Nat, c2.D = (dd : Int) := ⟨c2.D.toNat, by omega⟩
                obtain ⟨dd, hD⟩ := hD
                rw [hD] at cC hsum
                generalize m2.past.length = pl at *
                have e3 : IntKind.i64.wrap ((pl : Int) + (dd : Int)) = (W : Int) + 1 := (IntWalk.i64_in _ (by omega)).trans hsum.1
                have HON := powers.lay hon
                have HH := powers.lay hsum
                clear hsum es ee eb hon hle hD
                go_wp2_with (first | (go_at_call 42; refine cW.mono ?_; rintro e wa ⟨rfl, rfl⟩) | (go_at_call 41; refine cO.mono ?_; rintro e wa ⟨rfl, rfl⟩) | (go_at_call 44; refine cM.mono ?_; rintro e wa ⟨rfl, rfl⟩) | (go_at_call 45; refine cC.mono ?_; rintro e wa ⟨rfl, rfl⟩))
                go_roundw
                case rel => exact ⟨j + 1, _, _, _, _, by go_num, hlt, HT2⟩
                case measure => first | (simp [RowKit.intOf]; done) | (simp [RowKit.intOf]; omega) | omega
            · have cA := set_any T.ce T.k T.inn 0 sC
              have hf : setF c 0 sC = 131 := by unfold setF; rw [if_pos (by omega)]; exact if_pos hs
              rw [hf] at cA
              have he : eraF c 0 = 0 := by unfold eraF; rw [if_pos (by omega)]; exact if_neg hs
              go_wp2_with (first | (go_at_call 42; refine cW1.mono ?_; rintro e wr ⟨rfl, rfl⟩) | (go_at_call 41; refine cO1.mono ?_; rintro e wr ⟨rfl, rfl⟩))
              refine cA.mono ?_
              rintro e w1 ⟨rfl, a1, a2, a3⟩
              have T1 : Sh w n pp gm gc S m c W w1 := T.same a1 a2 a3
              rw [ansF_set]
              have cB := erase_any T1.ce T1.k T1.inn 0
              rw [he] at cB
              clear cA T HT a1 a2 a3 xl
              go_wp2_with fail
              refine cB.mono ?_
              rintro e w2 hA
              obtain ⟨rfl, c2, T2⟩ := T1.wce hA
              obtain ⟨m2, hm2⟩ : ∃ m2, m = m2 := ⟨_, rfl⟩
              rw [hm2] at T2
              clear cB cO1 cW1 hA T1 hm2 hf hs he
              have HT2 := powers.lay T2
              have hle := T2.le
              have cW := writes_ok T2.k T2.inn
              have cO := on_ok T2.k
              have hbl2 : bL ((n : Int) - (stp n W : Int)) = decide ((stp n W : Int) < (n : Int)) := by unfold bL; rw [decide_eq_decide]; omega
              rw [hbl2] at cO
              have cM := count_any T2.md
              have cC := cells.count_ok T2.ce
              have x1 := T2.md.ptr
              have x2 := T2.ce.ptr
              have hsum := T2.sum
              clear hbl2 T2
              by_cases hon : n ≤ W
              · have es : stp n W = W := if_pos hon
                have ee : ePw n W = 110 := if_pos hon
                have eb : bL ((n : Int) - (W : Int)) = false := by unfold bL; exact decide_eq_false (by have := hW.out; omega)
                rw [es] at cW cO hsum hle
                rw [ee, eb]
                have d1 : decide ((n : Int) < (W : Int)) = false := decide_eq_false (by omega)
                have d2 : decide ((W : Int) < (n : Int)) = false := decide_eq_false (by omega)
                have d3 : decide (n < W) = false := decide_eq_false (by omega)
                have d4 : decide (W < n) = false := decide_eq_false (by omega)
                rw [d2] at cO
                have hD : ∃ dd : Nat, c2.D = (dd : Int) := ⟨c2.D.toNat, by omega⟩
                obtain ⟨dd, hD⟩ := hD
                rw [hD] at cC hsum
                generalize m2.past.length = pl at *
                have e3 : IntKind.i64.wrap ((pl : Int) + (dd : Int)) = (W : Int) := (IntWalk.i64_in _ (by omega)).trans hsum.1
                have HON := powers.lay hon
                have HH := powers.lay hsum
                clear hsum es ee eb hon hle hD
                go_wp2_with (first | (go_at_call 42; refine cW.mono ?_; rintro e wa ⟨rfl, rfl⟩) | (go_at_call 41; refine cO.mono ?_; rintro e wa ⟨rfl, rfl⟩) | (go_at_call 44; refine cM.mono ?_; rintro e wa ⟨rfl, rfl⟩) | (go_at_call 45; refine cC.mono ?_; rintro e wa ⟨rfl, rfl⟩))
                go_roundw
                case rel => exact ⟨j + 1, _, _, _, _, by go_num, hlt, HT2⟩
                case measure => first | (simp [RowKit.intOf]; done) | (simp [RowKit.intOf]; omega) | omega
              · have es : stp n W = W + 1 := if_neg hon
                have ee : ePw n W = 0 := if_neg hon
                have eb : bL ((n : Int) - (W : Int)) = true := by unfold bL; exact decide_eq_true (by omega)
                rw [es] at cW cO hsum hle
                rw [ee, eb]
                have d0 : IntKind.i64.wrap ((W : Int) + 1) = (W : Int) + 1 := IntWalk.i64_in _ (by omega)
                rw [show ((W + 1 : Nat) : Int) = (W : Int) + 1 from rfl] at cW cO hsum
                have d1 : decide ((n : Int) < (W : Int) + 1) = false := decide_eq_false (by omega)
                have d3 : decide (n < W + 1) = false := decide_eq_false (by omega)
                have hD : ∃ dd : Nat, c2.D = (dd : Int) := ⟨c2.D.toNat, by omega⟩
                obtain ⟨dd, hD⟩ := hD
                rw [hD] at cC hsum
                generalize m2.past.length = pl at *
                have e3 : IntKind.i64.wrap ((pl : Int) + (dd : Int)) = (W : Int) + 1 := (IntWalk.i64_in _ (by omega)).trans hsum.1
                have HON := powers.lay hon
                have HH := powers.lay hsum
                clear hsum es ee eb hon hle hD
                go_wp2_with (first | (go_at_call 42; refine cW.mono ?_; rintro e wa ⟨rfl, rfl⟩) | (go_at_call 41; refine cO.mono ?_; rintro e wa ⟨rfl, rfl⟩) | (go_at_call 44; refine cM.mono ?_; rintro e wa ⟨rfl, rfl⟩) | (go_at_call 45; refine cC.mono ?_; rintro e wa ⟨rfl, rfl⟩))
                go_roundw
                case rel => exact ⟨j + 1, _, _, _, _, by go_num, hlt, HT2⟩
                case measure => first | (simp [RowKit.intOf]; done) | (simp [RowKit.intOf]; omega) | omega
          · have hd3 : decide (Int.tmod x 3 = 1) = false := decide_eq_false r1
            have hd4 : (Int.tmod x 3 == 1) = false := beq_eq_false_iff_ne.2 r1
            clear r1
            by_cases hs : c.s1.size = 0
            · have cA := set_any T.ce T.k T.inn 1 sD
              have hf : setF c 1 sD = 0 := by unfold setF; rw [if_pos (by omega)]; exact (if_neg (fun h => h hs)).trans (if_neg (by show ¬ ((1 : Nat) = 0 ∨ 200 < (1 : Nat)); omega))
              rw [hf] at cA
              go_wp2_with (first | (go_at_call 42; refine cW1.mono ?_; rintro e wr ⟨rfl, rfl⟩) | (go_at_call 41; refine cO1.mono ?_; rintro e wr ⟨rfl, rfl⟩))
              refine cA.mono ?_
              rintro e w2 hA
              obtain ⟨rfl, c2, T2⟩ := T.wce hA
              obtain ⟨m2, hm2⟩ : ∃ m2, m = m2 := ⟨_, rfl⟩
              rw [hm2] at T2
              have q1 : decide (ePw n W = 131) = false := decide_eq_false (by unfold ePw; split <;> omega)
              have q2 : (ePw n W == 131) = false := beq_eq_false_iff_ne.2 (by unfold ePw; split <;> omega)
              clear cA cO1 cW1 hA T HT xl hm2 hf hs
              have HT2 := powers.lay T2
              have hle := T2.le
              have cW := writes_ok T2.k T2.inn
              have cO := on_ok T2.k
              have hbl2 : bL ((n : Int) - (stp n W : Int)) = decide ((stp n W : Int) < (n : Int)) := by unfold bL; rw [decide_eq_decide]; omega
              rw [hbl2] at cO
              have cM := count_any T2.md
              have cC := cells.count_ok T2.ce
              have x1 := T2.md.ptr
              have x2 := T2.ce.ptr
              have hsum := T2.sum
              clear hbl2 T2
              by_cases hon : n ≤ W
              · have es : stp n W = W := if_pos hon
                have ee : ePw n W = 110 := if_pos hon
                have eb : bL ((n : Int) - (W : Int)) = false := by unfold bL; exact decide_eq_false (by have := hW.out; omega)
                rw [es] at cW cO hsum hle
                rw [ee, eb]
                have d1 : decide ((n : Int) < (W : Int)) = false := decide_eq_false (by omega)
                have d2 : decide ((W : Int) < (n : Int)) = false := decide_eq_false (by omega)
                have d3 : decide (n < W) = false := decide_eq_false (by omega)
                have d4 : decide (W < n) = false := decide_eq_false (by omega)
                rw [d2] at cO
                have hD : ∃ dd : Nat, c2.D = (dd : Int) := ⟨c2.D.toNat, by omega⟩
                obtain ⟨dd, hD⟩ := hD
                rw [hD] at cC hsum
                generalize m2.past.length = pl at *
                have e3 : IntKind.i64.wrap ((pl : Int) + (dd : Int)) = (W : Int) := (IntWalk.i64_in _ (by omega)).trans hsum.1
                have HON := powers.lay hon
                have HH := powers.lay hsum
                clear hsum es ee eb hon hle hD
                go_wp2_with (first | (go_at_call 42; refine cW.mono ?_; rintro e wa ⟨rfl, rfl⟩) | (go_at_call 41; refine cO.mono ?_; rintro e wa ⟨rfl, rfl⟩) | (go_at_call 44; refine cM.mono ?_; rintro e wa ⟨rfl, rfl⟩) | (go_at_call 45; refine cC.mono ?_; rintro e wa ⟨rfl, rfl⟩))
                go_roundw
                case rel => exact ⟨j + 1, _, _, _, _, by go_num, hlt, HT2⟩
                case measure => first | (simp [RowKit.intOf]; done) | (simp [RowKit.intOf]; omega) | omega
              · have es : stp n W = W + 1 := if_neg hon
                have ee : ePw n W = 0 := if_neg hon
                have eb : bL ((n : Int) - (W : Int)) = true := by unfold bL; exact decide_eq_true (by omega)
                rw [es] at cW cO hsum hle
                rw [ee, eb]
                have d0 : IntKind.i64.wrap ((W : Int) + 1) = (W : Int) + 1 := IntWalk.i64_in _ (by omega)
                rw [show ((W + 1 : Nat) : Int) = (W : Int) + 1 from rfl] at cW cO hsum
                have d1 : decide ((n : Int) < (W : Int) + 1) = false := decide_eq_false (by omega)
                have d3 : decide (n < W + 1) = false := decide_eq_false (by omega)
                have hD : ∃ dd : Nat, c2.D = (dd : Int) := ⟨c2.D.toNat, by omega⟩
                obtain ⟨dd, hD⟩ := hD
                rw [hD] at cC hsum
                generalize m2.past.length = pl at *
                have e3 : IntKind.i64.wrap ((pl : Int) + (dd : Int)) = (W : Int) + 1 := (IntWalk.i64_in _ (by omega)).trans hsum.1
                have HON := powers.lay hon
                have HH := powers.lay hsum
                clear hsum es ee eb hon hle hD
                go_wp2_with (first | (go_at_call 42; refine cW.mono ?_; rintro e wa ⟨rfl, rfl⟩) | (go_at_call 41; refine cO.mono ?_; rintro e wa ⟨rfl, rfl⟩) | (go_at_call 44; refine cM.mono ?_; rintro e wa ⟨rfl, rfl⟩) | (go_at_call 45; refine cC.mono ?_; rintro e wa ⟨rfl, rfl⟩))
                go_roundw
                case rel => exact ⟨j + 1, _, _, _, _, by go_num, hlt, HT2⟩
                case measure => first | (simp [RowKit.intOf]; done) | (simp [RowKit.intOf]; omega) | omega
            · have cA := set_any T.ce T.k T.inn 1 sD
              have hf : setF c 1 sD = 131 := by unfold setF; rw [if_pos (by omega)]; exact if_pos hs
              rw [hf] at cA
              have he : eraF c 1 = 0 := by unfold eraF; rw [if_pos (by omega)]; exact if_neg hs
              go_wp2_with (first | (go_at_call 42; refine cW1.mono ?_; rintro e wr ⟨rfl, rfl⟩) | (go_at_call 41; refine cO1.mono ?_; rintro e wr ⟨rfl, rfl⟩))
              refine cA.mono ?_
              rintro e w1 ⟨rfl, a1, a2, a3⟩
              have T1 : Sh w n pp gm gc S m c W w1 := T.same a1 a2 a3
              rw [ansF_set]
              have cB := erase_any T1.ce T1.k T1.inn 1
              rw [he] at cB
              clear cA T HT a1 a2 a3 xl
              go_wp2_with fail
              refine cB.mono ?_
              rintro e w2 hA
              obtain ⟨rfl, c2, T2⟩ := T1.wce hA
              obtain ⟨m2, hm2⟩ : ∃ m2, m = m2 := ⟨_, rfl⟩
              rw [hm2] at T2
              clear cB cO1 cW1 hA T1 hm2 hf hs he
              have HT2 := powers.lay T2
              have hle := T2.le
              have cW := writes_ok T2.k T2.inn
              have cO := on_ok T2.k
              have hbl2 : bL ((n : Int) - (stp n W : Int)) = decide ((stp n W : Int) < (n : Int)) := by unfold bL; rw [decide_eq_decide]; omega
              rw [hbl2] at cO
              have cM := count_any T2.md
              have cC := cells.count_ok T2.ce
              have x1 := T2.md.ptr
              have x2 := T2.ce.ptr
              have hsum := T2.sum
              clear hbl2 T2
              by_cases hon : n ≤ W
              · have es : stp n W = W := if_pos hon
                have ee : ePw n W = 110 := if_pos hon
                have eb : bL ((n : Int) - (W : Int)) = false := by unfold bL; exact decide_eq_false (by have := hW.out; omega)
                rw [es] at cW cO hsum hle
                rw [ee, eb]
                have d1 : decide ((n : Int) < (W : Int)) = false := decide_eq_false (by omega)
                have d2 : decide ((W : Int) < (n : Int)) = false := decide_eq_false (by omega)
                have d3 : decide (n < W) = false := decide_eq_false (by omega)
                have d4 : decide (W < n) = false := decide_eq_false (by omega)
                rw [d2] at cO
                have hD : ∃ dd : Nat, c2.D = (dd : Int) := ⟨c2.D.toNat, by omega⟩
                obtain ⟨dd, hD⟩ := hD
                rw [hD] at cC hsum
                generalize m2.past.length = pl at *
                have e3 : IntKind.i64.wrap ((pl : Int) + (dd : Int)) = (W : Int) := (IntWalk.i64_in _ (by omega)).trans hsum.1
                have HON := powers.lay hon
                have HH := powers.lay hsum
                clear hsum es ee eb hon hle hD
                go_wp2_with (first | (go_at_call 42; refine cW.mono ?_; rintro e wa ⟨rfl, rfl⟩) | (go_at_call 41; refine cO.mono ?_; rintro e wa ⟨rfl, rfl⟩) | (go_at_call 44; refine cM.mono ?_; rintro e wa ⟨rfl, rfl⟩) | (go_at_call 45; refine cC.mono ?_; rintro e wa ⟨rfl, rfl⟩))
                go_roundw
                case rel => exact ⟨j + 1, _, _, _, _, by go_num, hlt, HT2⟩
                case measure => first | (simp [RowKit.intOf]; done) | (simp [RowKit.intOf]; omega) | omega
              · have es : stp n W = W + 1 := if_neg hon
                have ee : ePw n W = 0 := if_neg hon
                have eb : bL ((n : Int) - (W : Int)) = true := by unfold bL; exact decide_eq_true (by omega)
                rw [es] at cW cO hsum hle
                rw [ee, eb]
                have d0 : IntKind.i64.wrap ((W : Int) + 1) = (W : Int) + 1 := IntWalk.i64_in _ (by omega)
                rw [show ((W + 1 : Nat) : Int) = (W : Int) + 1 from rfl] at cW cO hsum
                have d1 : decide ((n : Int) < (W : Int) + 1) = false := decide_eq_false (by omega)
                have d3 : decide (n < W + 1) = false := decide_eq_false (by omega)
                have hD : ∃ dd : Nat, c2.D = (dd : Int) := ⟨c2.D.toNat, by omega⟩
                obtain ⟨dd, hD⟩ := hD
                rw [hD] at cC hsum
                generalize m2.past.length = pl at *
                have e3 : IntKind.i64.wrap ((pl : Int) + (dd : Int)) = (W : Int) + 1 := (IntWalk.i64_in _ (by omega)).trans hsum.1
                have HON := powers.lay hon
                have HH := powers.lay hsum
                clear hsum es ee eb hon hle hD
                go_wp2_with (first | (go_at_call 42; refine cW.mono ?_; rintro e wa ⟨rfl, rfl⟩) | (go_at_call 41; refine cO.mono ?_; rintro e wa ⟨rfl, rfl⟩) | (go_at_call 44; refine cM.mono ?_; rintro e wa ⟨rfl, rfl⟩) | (go_at_call 45; refine cC.mono ?_; rintro e wa ⟨rfl, rfl⟩))
                go_roundw
                case rel => exact ⟨j + 1, _, _, _, _, by go_num, hlt, HT2⟩
                case measure => first | (simp [RowKit.intOf]; done) | (simp [RowKit.intOf]; omega) | omega
      · have d60 : decide ((60 : Int) ≤ (j : Int)) = true := decide_eq_true (by omega)
        have d61 : decide (60 ≤ j) = true := decide_eq_true (by omega)
        have hfin := HT.out.hb
        clear h60 HT
        go_wp2_with fail
        go_ret
        exact ⟨rfl, hfin⟩
    · obtain rfl : j = l.length := by omega
      have hfin := HT.out.hb
      clear HT hK
      go_wp2_with fail
      go_ret
      exact ⟨rfl, hfin⟩

end Go.Proofs.Ytnndohdiiglgmaa.cells
