/- add of the document: a version more. -/
import Derived.Test.YtolngibmfffjcaaVerG


namespace Go.Proofs.Ytolngibmfffjcaa.vers
set_option linter.unusedVariables false
set_option linter.unusedSimpArgs false
open Go.RowKit Go.Proofs.Ytolngibmfffjcaa.base Go.Proofs.Ytolngibmfffjcaa.quotas

/-- a new block that holds one version, as a slice of one -/
theorem Vs.one (w : World) (x : V) (hx : x.fits) : Vs (w.alloc (.cells #[.int .i64 x.n, .string x.v, .string x.t] 39)) (w.heap.size + 1) [x] (some ⟨w.heap.size, 0, none⟩) 1 := by
  refine ⟨Nat.le_refl _, by simp, (fun e => by cases e), ?_, fun y hy => by rw [List.mem_singleton.1 hy]; exact hx⟩
  exact (Blk.new w 39 #[.int .i64 x.n, .string x.v, .string x.t]).rd (xs := [.int .i64 x.n, .string x.v, .string x.t]) (by omega)

theorem Cx.far {w wr w' : World} {a b c d e f h : Int} {s : ByteArray} {u : Value} {B : Nat} (h1 : Cx w a b c d e f h s u wr) (hb : Below B wr w') (hB : w.heap.size + 2 < B) : Cx w a b c d e f h s u w' := by
  obtain ⟨⟨⟨⟨c0, c1, c2, c3, c4, c5, c6⟩, l1, l2, b1⟩, ⟨e0, e1⟩, l3⟩, hR⟩ := h1
  have hs := hb.size
  have hc : ∀ q : Addr, q.block < B → w'.cell? q = wr.cell? q := fun q hq => hb.cell hq
  refine ⟨⟨⟨⟨?_, ?_, ?_, ?_, ?_, ?_, ?_⟩, l1, by omega, b1.trans (hb.mono (by omega))⟩, ⟨?_, ?_⟩, by omega⟩, hR.below hb (by omega)⟩ <;> (rw [hc _ (by simp; omega)]; assumption)
theorem OwnV.shape {lo : Nat} {w : World} {l : List V} {v : Value} (h : OwnV lo w l v) : ∃ A n c, v = .slice A n c ∧ Hid (n = l.length) := by
  obtain ⟨A, c, e, _⟩ := h.form
  exact ⟨A, _, c, e, lay rfl⟩
theorem take_snoc (l : List V) {j : Nat} (hj : j < l.length) : l.take (j + 1) = l.take j ++ [l[j]] := List.take_succ_eq_append_getElem hj
theorem drop_snoc (l : List V) {j dr : Nat} (hj : j < l.length) (hd : dr ≤ j) : (l.take (j + 1)).drop dr = (l.take j).drop dr ++ [l[j]] := by
  rw [take_snoc l hj, List.drop_append_of_le_length (by simp; omega)]
theorem drop_none (l : List V) {j dr : Nat} (hd : j ≤ dr) : (l.take j).drop dr = [] := List.drop_eq_nil_of_le (by simp; omega)

/-- a round's head: what was kept so far, what dropped so far -/
def GHead (w : World) (a b c d e f h : Int) (s : ByteArray) (l : List V) (A : Option Addr) (cap : Nat) (g dr : Nat) (x : Value) (wr : World) : Prop :=
  ∃ (j : Nat) (uE uD : Value), j ≤ l.length ∧ x = .int .i64 j ∧ Cx w a b c d e f h s (.slice A l.length cap) wr ∧ w.heap.size + 2 < g ∧ Blk wr g 33 #[.string s, uE, uD, .int .i64 0] ∧
    OwnV (g + 1) wr ((l.take j).drop dr) uE ∧ OwnV (g + 1) wr (l.take (min j dr)) uD ∧ (∀ k, uE.ownBlock = some k → uD.ownBlock ≠ some k) ∧ (j ≤ dr → uE = .slice none 0 0)

set_option maxRecDepth 100000 in
set_option maxHeartbeats 1000000 in
theorem add_first (a b c d e f h : Int) (s : ByteArray) (l : List V) (A : Option Addr) (cap : Nat) (v t : ByteArray) (kp : Int) (w : World) (hv : Vs w w.heap.size l A cap) (hz : nbad a b c d e f h s l = 0) (hx : ¬ c < (v.size : Int)) (hy : ¬ d < (t.size : Int)) (hfit : v.size ≤ maxLen ∧ t.size ≤ maxLen) (hl0 : l.length = 0) :
    Calls Try.prog 31 #[.agg #[.int .i64 a, .int .i64 b, .int .i64 c, .int .i64 d, .int .i64 e, .int .i64 f, .int .i64 h], .agg #[.string s, .slice A l.length cap], .string v, .string t, .int .i64 kp] w (AddAns w ⟨0, s, l.drop ((l.length : Int) + 1 - kp).toNat ++ [⟨noOf l, v, t⟩], l.take ((l.length : Int) + 1 - kp).toNat⟩) := by
  have hC := Cx.new w a b c d e f h s (.slice A l.length cap)
  have hc := named_any a b c d e f h s l A cap _ ((hv.below hC.1.below).more hC.1.below.size)
  obtain ⟨_, hlen, _⟩ := nbad_zero hz
  rw [hz] at hc
  clear hz
  have d1 : decide (c < (v.size : Int)) = false := by simpa using hx
  have d2 : decide (d < (t.size : Int)) = false := by simpa using hy
  clear hx hy
  have HK := lay hl0
  clear hl0
  go_enter Try.func31, Try.ntmps31
  go_wp2_with fail
  refine hc.mono ?_
  rintro x w1 ⟨rfl, hb1⟩
  have I1 := hC.next hb1
  clear hb1 hC
  obtain ⟨⟨⟨⟨c0, c1, c2, c3, c4, c5, c6⟩, l1, l2, b1⟩, ⟨e0, e1⟩, l3⟩, hR⟩ := id I1
  have z0 := hR.cell 0
  have z1 := hR.cell 1
  have z2 := hR.cell 2
  have z3 := hR.cell 3
  simp at z0 z1 z2 z3
  have f0 := hR.frozen 0
  have f1 := hR.frozen 1
  have f2 := hR.frozen 2
  have f3 := hR.frozen 3
  have dN : decide (0 < l.length) = false := decide_eq_false (by have := HK.out; omega)
  have hfx : (⟨1, v, t⟩ : V).fits := ⟨⟨by show (-9223372036854775808 : Int) ≤ 1; omega, by show (1 : Int) ≤ 9223372036854775807; omega⟩, hfit⟩
  have hNO : Hid (noOf l = 1) := lay (by rw [List.eq_nil_of_length_eq_zero HK.out]; rfl)
  go_wp2_with fail
  have hG : GHead w a b c d e f h s l A cap w1.heap.size ((l.length : Int) + 1 - kp).toNat (.int .i64 0) (w1.alloc (.cells #[.string s, .slice none 0 0, .slice none 0 0, .int .i64 0] 33)) :=
    ⟨0, .slice none 0 0, .slice none 0 0, Nat.zero_le _, rfl, I1.next ((Below.refl _ _).alloc (Nat.le_refl _) _), I1.size, Blk.new w1 _ _, by rw [drop_none l (Nat.zero_le _)]; exact OwnV.nil _ _, by rw [Nat.zero_min]; exact OwnV.nil _ _, (fun k hk => by cases hk), fun _ => rfl⟩
  clear z0 z1 z2 z3 f0 f1 f2 f3 hR c0 c1 c2 c3 c4 c5 c6 l1 l2 b1 e0 e1 l3
  go_loopw [60] (fun x wr => GHead w a b c d e f h s l A cap w1.heap.size ((l.length : Int) + 1 - kp).toNat x wr) (fun x _ => l.length - (intOf x).toNat)
  case atStart => exact hG
  case round =>
    clear hG
    generalize hg1 : w1.heap.size = g at *
    generalize hdr : ((l.length : Int) + 1 - kp).toNat = dr at *
    obtain ⟨j, uE, uD, hj, rfl, J1, hgl, hG, hE, hD, hdis, hnil⟩ := hrel
    have hB := J1.1.below
    have hgw := hG.lt
    obtain ⟨⟨⟨⟨c0, c1, c2, c3, c4, c5, c6⟩, l1, l2, b1⟩, ⟨e0, e1⟩, l3⟩, hR⟩ := id J1
    have g0 := hG.cell 0
    have g1 := hG.cell 1
    have g2 := hG.cell 2
    have g3 := hG.cell 3
    simp at g0 g1 g2 g3
    by_cases hlt : j < l.length
    · obtain ⟨bk, off, hA1, hbk, y0, y1, y2⟩ := (hv.below hB).at_ hlt
      first | subst hA1 | cases hA1
      have hfj := hv.2.2.2.2 _ (List.getElem_mem hlt)
      have hBW : Below wr.heap.size wr ((wr.alloc (.cells #[.int .i64 l[j].n, .string l[j].v, .string l[j].t] 39)).alloc (.cells #[.int .i64 l[j].n, .string l[j].v, .string l[j].t] 39)) := ((Below.refl _ _).alloc (Nat.le_refl _) _).alloc (by simp) _
      have hone := Vs.one (wr.alloc (.cells #[.int .i64 l[j].n, .string l[j].v, .string l[j].t] 39)) l[j] hfj
      simp only [World.size_alloc] at hone
      have hG2 := (hG.alloc (.cells #[.int .i64 l[j].n, .string l[j].v, .string l[j].t] 39)).alloc (.cells #[.int .i64 l[j].n, .string l[j].v, .string l[j].t] 39)
      by_cases hjd : j < dr
      · have dt : decide (kp < (l.length : Int) + 1 - (j : Int)) = true := decide_eq_true (by omega)
        have hlen40 : ((l.take (min j dr)).length + [l[j]].length) * 40 ≤ 140737488355328 := by simp; omega
        obtain ⟨AX, nX, cX, rfl, hnX⟩ := hD.shape
        obtain rfl := hnil (by omega)
        have hX2 := hD.below hBW
        have hrow : ∀ k, (Value.slice AX nX cX).ownBlock = some k → g + 1 ≤ k := fun k hk => (hX2.own k hk).1
        go_wp2_with (at_builtin; apply wpList_append_vs (s := .tmp 72) (x := .tmp 74) (lo := g + 1) (B := wr.heap.size + 1 + 1) (l := l.take (min j dr)) (m := [l[j]]) (A := some ⟨wr.heap.size + 1, 0, none⟩) (n := 1) (c := 1) (v := .slice AX nX cX); (case hgd => rfl); (case ho => rfl); (case hB => exact hX2); (case hs => rfl); (case hlo => (simp; omega)); (case hx => rfl); (case hn => rfl); (case hv => exact hone); (case hlen => exact hlen40); intro v' w2 hown hg2 hat; have hG3 := Blk.grown hG2 hg2 (fun e => by have := hrow g e; omega); have q0 := hG3.cell 0; have q1 := hG3.cell 1; have q2 := hG3.cell 2; have q3 := hG3.cell 3; simp at q0 q1 q2 q3; have k1 := hG3.frozen 1; have k2 := hG3.frozen 2; obtain ⟨A2, n2, cap2, rfl, hn2⟩ := hown.shape)
        have hBg : Below g wr w2 := (hBW.mono (by omega)).grown hg2 (by simp; omega) (fun k hk => by have := hrow k hk; omega)
        have hs2 := hg2.size
        simp at hs2
        refine ⟨⟨j + 1, .slice none 0 0, .slice A2 n2 cap2, hlt, by go_num, J1.far (hBg.setCell (Nat.le_refl _) _) hgl, hgl, (hG3.put 2 _), by rw [drop_none l (by omega)]; exact OwnV.nil _ _, ?_, (fun k hk => by cases hk), fun _ => rfl⟩, by simp [intOf]; omega⟩
        rw [show min (j + 1) dr = min j dr + 1 by omega, show l.take (min j dr + 1) = l.take (min j dr) ++ [l[j]] by rw [show min j dr = j by omega]; exact take_snoc l hlt]
        exact hown.setCell (by simp) _
      · have dt : decide (kp < (l.length : Int) + 1 - (j : Int)) = false := decide_eq_false (by omega)
        have hlen40 : (((l.take j).drop dr).length + [l[j]].length) * 40 ≤ 140737488355328 := by simp; omega
        obtain ⟨AX, nX, cX, rfl, hnX⟩ := hE.shape
        obtain ⟨AY, nY, cY, rfl, hnY⟩ := hD.shape
        have hX2 := hE.below hBW
        have hY2 := hD.below hBW
        have hrow : ∀ k, (Value.slice AX nX cX).ownBlock = some k → g + 1 ≤ k := fun k hk => (hX2.own k hk).1
        go_wp2_with (at_builtin; apply wpList_append_vs (s := .tmp 79) (x := .tmp 81) (lo := g + 1) (B := wr.heap.size + 1 + 1) (l := (l.take j).drop dr) (m := [l[j]]) (A := some ⟨wr.heap.size + 1, 0, none⟩) (n := 1) (c := 1) (v := .slice AX nX cX); (case hgd => rfl); (case ho => rfl); (case hB => exact hX2); (case hs => rfl); (case hlo => (simp; omega)); (case hx => rfl); (case hn => rfl); (case hv => exact hone); (case hlen => exact hlen40); intro v' w2 hown hg2 hat; have hG3 := Blk.grown hG2 hg2 (fun e => by have := hrow g e; omega); have q0 := hG3.cell 0; have q1 := hG3.cell 1; have q2 := hG3.cell 2; have q3 := hG3.cell 3; simp at q0 q1 q2 q3; have k1 := hG3.frozen 1; have k2 := hG3.frozen 2; obtain ⟨A2, n2, cap2, rfl, hn2⟩ := hown.shape)
        have hBg : Below g wr w2 := (hBW.mono (by omega)).grown hg2 (by simp; omega) (fun k hk => by have := hrow k hk; omega)
        have hs2 := hg2.size
        simp at hs2
        refine ⟨⟨j + 1, .slice A2 n2 cap2, .slice AY nY cY, hlt, by go_num, J1.far (hBg.setCell (Nat.le_refl _) _) hgl, hgl, (hG3.put 1 _), ?_, ?_, ?_, fun hh => by omega⟩, by simp [intOf]; omega⟩
        · rw [drop_snoc l hlt (by omega)]; exact hown.setCell (by simp) _
        · rw [show min (j + 1) dr = min j dr by omega]; exact (hY2.kept hg2 (fun k hk e => hdis k hk e)).setCell (by simp) _
        · intro k hk e
          have hy := hY2.own k e
          rcases hat with e2 | e2
          · exact hdis k (by rw [← e2]; exact hk) e
          · rw [hk] at e2
            have hlt2 := (hD.own k e).2
            simp at e2
            omega
    · have hlen40 : ((l.drop dr).length + [(⟨1, v, t⟩ : V)].length) * 40 ≤ 140737488355328 := by simp; omega
      rw [List.take_of_length_le (show l.length ≤ j by omega)] at hE
      rw [show l.take (min j dr) = l.take dr by
        rw [show min j dr = min l.length dr by omega]
        rcases Nat.le_total l.length dr with hh | hh
        · rw [Nat.min_eq_left hh, List.take_of_length_le (Nat.le_refl _), List.take_of_length_le hh]
        · rw [Nat.min_eq_right hh]] at hD
      obtain ⟨AX, nX, cX, rfl, hnX⟩ := hE.shape
      obtain ⟨AY, nY, cY, rfl, hnY⟩ := hD.shape
      have hBW : Below wr.heap.size wr (wr.alloc (.cells #[.int .i64 (1), .string v, .string t] 39)) := (Below.refl _ _).alloc (Nat.le_refl _) _
      have hone := Vs.one wr ⟨1, v, t⟩ hfx
      have hX2 := hE.below hBW
      have hY2 := hD.below hBW
      have hG2 := hG.alloc (.cells #[.int .i64 (1), .string v, .string t] 39)
      have hR2 := hR.alloc (.cells #[.int .i64 (1), .string v, .string t] 39)
      have hrow : ∀ k, (Value.slice AX nX cX).ownBlock = some k → g + 1 ≤ k := fun k hk => (hX2.own k hk).1
      go_wp2_with (at_builtin; apply wpList_append_vs (s := .tmp 88) (x := .tmp 93) (lo := g + 1) (B := wr.heap.size + 1) (l := l.drop dr) (m := [⟨1, v, t⟩]) (A := some ⟨wr.heap.size, 0, none⟩) (n := 1) (c := 1) (v := .slice AX nX cX); (case hgd => rfl); (case ho => rfl); (case hB => exact hX2); (case hs => rfl); (case hlo => (simp; omega)); (case hx => rfl); (case hn => rfl); (case hv => exact hone); (case hlen => exact hlen40); intro v' w2 hown hg2 hat; have hG3 := Blk.grown hG2 hg2 (fun e => by have := hrow g e; omega); have hR3 := Blk.grown hR2 hg2 (fun e => by have := hrow _ e; omega); have q0 := hG3.cell 0; have q1 := hG3.cell 1; have q2 := hG3.cell 2; have q3 := hG3.cell 3; have z0 := hR3.cell 0; have z1 := hR3.cell 1; have z2 := hR3.cell 2; have z3 := hR3.cell 3; simp at q0 q1 q2 q3 z0 z1 z2 z3; have k1 := hG3.frozen 1; have f0 := hR3.frozen 0; have f1 := hR3.frozen 1; have f2 := hR3.frozen 2; have f3 := hR3.frozen 3; obtain ⟨A2, n2, cap2, rfl, hn2⟩ := hown.shape)
      have hBg : Below w.heap.size wr w2 := (hBW.mono (by omega)).grown hg2 (by simp; omega) (fun k hk => by have := hrow k hk; omega)
      refine bodyPost_ret (v := .agg #[.string s, .slice A2 n2 cap2, .slice AY nY cY, .int .i64 0]) (by simp [results, Try.results31, go_sem, z0, z1, z2, z3]) rfl ⟨_, _, rfl, ?_, ?_, ?_⟩
      · exact four_below ((b1.trans hBg).setCell (by simp; omega) _) (by omega) _ _ _ _
      · rw [hNO.out]
        exact (((((hown.setCell (by simp) _).hv.setCell (by simp; omega) _).setCell (by simp; omega) _).setCell (by simp; omega) _).setCell (by simp; omega) _).more (by omega)
      · exact ((((((hY2.kept hg2 (fun k hk e => hdis k hk e)).setCell (by simp) _).hv.setCell (by simp; omega) _).setCell (by simp; omega) _).setCell (by simp; omega) _).setCell (by simp; omega) _).more (by omega)

set_option maxRecDepth 100000 in
set_option maxHeartbeats 1000000 in
theorem add_more (a b c d e f h : Int) (s : ByteArray) (l : List V) (A : Option Addr) (cap : Nat) (v t : ByteArray) (kp : Int) (w : World) (hv : Vs w w.heap.size l A cap) (hz : nbad a b c d e f h s l = 0) (hx : ¬ c < (v.size : Int)) (hy : ¬ d < (t.size : Int)) (hfit : v.size ≤ maxLen ∧ t.size ≤ maxLen) (k : Nat) (hk : l.length = k + 1) (hk' : k < l.length) (hn : l[k].n + 1 ≤ (1073741824 : Int)) (hn' : (0 : Int) ≤ l[k].n) :
    Calls Try.prog 31 #[.agg #[.int .i64 a, .int .i64 b, .int .i64 c, .int .i64 d, .int .i64 e, .int .i64 f, .int .i64 h], .agg #[.string s, .slice A l.length cap], .string v, .string t, .int .i64 kp] w (AddAns w ⟨0, s, l.drop ((l.length : Int) + 1 - kp).toNat ++ [⟨noOf l, v, t⟩], l.take ((l.length : Int) + 1 - kp).toNat⟩) := by
  have hC := Cx.new w a b c d e f h s (.slice A l.length cap)
  have hc := named_any a b c d e f h s l A cap _ ((hv.below hC.1.below).more hC.1.below.size)
  obtain ⟨_, hlen, _⟩ := nbad_zero hz
  rw [hz] at hc
  clear hz
  have d1 : decide (c < (v.size : Int)) = false := by simpa using hx
  have d2 : decide (d < (t.size : Int)) = false := by simpa using hy
  clear hx hy
  have HK := lay hk
  clear hk
  go_enter Try.func31, Try.ntmps31
  go_wp2_with fail
  refine hc.mono ?_
  rintro x w1 ⟨rfl, hb1⟩
  have I1 := hC.next hb1
  clear hb1 hC
  obtain ⟨⟨⟨⟨c0, c1, c2, c3, c4, c5, c6⟩, l1, l2, b1⟩, ⟨e0, e1⟩, l3⟩, hR⟩ := id I1
  have z0 := hR.cell 0
  have z1 := hR.cell 1
  have z2 := hR.cell 2
  have z3 := hR.cell 3
  simp at z0 z1 z2 z3
  have f0 := hR.frozen 0
  have f1 := hR.frozen 1
  have f2 := hR.frozen 2
  have f3 := hR.frozen 3
  have dN : decide (0 < l.length) = true := decide_eq_true (by have := HK.out; omega)
  obtain ⟨bk0, off0, hA0, hbk0, x0, x1, x2⟩ := (hv.below b1).at_ hk'
  subst hA0
  have dm : decide ((1073741824 : Int) < l[k].n + 1) = false := decide_eq_false (by omega)
  have ix : ((l.length : Int) - 1) = (k : Int) := by have := HK.out; omega
  have hfx : (⟨l[k].n + 1, v, t⟩ : V).fits := ⟨⟨by show (-9223372036854775808 : Int) ≤ l[k].n + 1; omega, by show l[k].n + 1 ≤ (9223372036854775807 : Int); omega⟩, hfit⟩
  have hNO : Hid (noOf l = l[k].n + 1) := lay (by unfold noOf; rw [List.getLast?_eq_getElem?, show l.length - 1 = k by have := HK.out; omega, List.getElem?_eq_getElem hk'])
  go_wp2_with fail
  have hG : GHead w a b c d e f h s l (some ⟨bk0, off0, none⟩) cap w1.heap.size ((l.length : Int) + 1 - kp).toNat (.int .i64 0) (w1.alloc (.cells #[.string s, .slice none 0 0, .slice none 0 0, .int .i64 0] 33)) :=
    ⟨0, .slice none 0 0, .slice none 0 0, Nat.zero_le _, rfl, I1.next ((Below.refl _ _).alloc (Nat.le_refl _) _), I1.size, Blk.new w1 _ _, by rw [drop_none l (Nat.zero_le _)]; exact OwnV.nil _ _, by rw [Nat.zero_min]; exact OwnV.nil _ _, (fun k hk => by cases hk), fun _ => rfl⟩
  clear z0 z1 z2 z3 f0 f1 f2 f3 hR c0 c1 c2 c3 c4 c5 c6 l1 l2 b1 e0 e1 l3
  go_loopw [60] (fun x wr => GHead w a b c d e f h s l (some ⟨bk0, off0, none⟩) cap w1.heap.size ((l.length : Int) + 1 - kp).toNat x wr) (fun x _ => l.length - (intOf x).toNat)
  case atStart => exact hG
  case round =>
    clear hG
    generalize hg1 : w1.heap.size = g at *
    generalize hdr : ((l.length : Int) + 1 - kp).toNat = dr at *
    obtain ⟨j, uE, uD, hj, rfl, J1, hgl, hG, hE, hD, hdis, hnil⟩ := hrel
    have hB := J1.1.below
    have hgw := hG.lt
    obtain ⟨⟨⟨⟨c0, c1, c2, c3, c4, c5, c6⟩, l1, l2, b1⟩, ⟨e0, e1⟩, l3⟩, hR⟩ := id J1
    have g0 := hG.cell 0
    have g1 := hG.cell 1
    have g2 := hG.cell 2
    have g3 := hG.cell 3
    simp at g0 g1 g2 g3
    by_cases hlt : j < l.length
    · obtain ⟨bk, off, hA1, hbk, y0, y1, y2⟩ := (hv.below hB).at_ hlt
      first | subst hA1 | cases hA1
      have hfj := hv.2.2.2.2 _ (List.getElem_mem hlt)
      have hBW : Below wr.heap.size wr ((wr.alloc (.cells #[.int .i64 l[j].n, .string l[j].v, .string l[j].t] 39)).alloc (.cells #[.int .i64 l[j].n, .string l[j].v, .string l[j].t] 39)) := ((Below.refl _ _).alloc (Nat.le_refl _) _).alloc (by simp) _
      have hone := Vs.one (wr.alloc (.cells #[.int .i64 l[j].n, .string l[j].v, .string l[j].t] 39)) l[j] hfj
      simp only [World.size_alloc] at hone
      have hG2 := (hG.alloc (.cells #[.int .i64 l[j].n, .string l[j].v, .string l[j].t] 39)).alloc (.cells #[.int .i64 l[j].n, .string l[j].v, .string l[j].t] 39)
      by_cases hjd : j < dr
      · have dt : decide (kp < (l.length : Int) + 1 - (j : Int)) = true := decide_eq_true (by omega)
        have hlen40 : ((l.take (min j dr)).length + [l[j]].length) * 40 ≤ 140737488355328 := by simp; omega
        obtain ⟨AX, nX, cX, rfl, hnX⟩ := hD.shape
        obtain rfl := hnil (by omega)
        have hX2 := hD.below hBW
        have hrow : ∀ k, (Value.slice AX nX cX).ownBlock = some k → g + 1 ≤ k := fun k hk => (hX2.own k hk).1
        go_wp2_with (at_builtin; apply wpList_append_vs (s := .tmp 72) (x := .tmp 74) (lo := g + 1) (B := wr.heap.size + 1 + 1) (l := l.take (min j dr)) (m := [l[j]]) (A := some ⟨wr.heap.size + 1, 0, none⟩) (n := 1) (c := 1) (v := .slice AX nX cX); (case hgd => rfl); (case ho => rfl); (case hB => exact hX2); (case hs => rfl); (case hlo => (simp; omega)); (case hx => rfl); (case hn => rfl); (case hv => exact hone); (case hlen => exact hlen40); intro v' w2 hown hg2 hat; have hG3 := Blk.grown hG2 hg2 (fun e => by have := hrow g e; omega); have q0 := hG3.cell 0; have q1 := hG3.cell 1; have q2 := hG3.cell 2; have q3 := hG3.cell 3; simp at q0 q1 q2 q3; have k1 := hG3.frozen 1; have k2 := hG3.frozen 2; obtain ⟨A2, n2, cap2, rfl, hn2⟩ := hown.shape)
        have hBg : Below g wr w2 := (hBW.mono (by omega)).grown hg2 (by simp; omega) (fun k hk => by have := hrow k hk; omega)
        have hs2 := hg2.size
        simp at hs2
        refine ⟨⟨j + 1, .slice none 0 0, .slice A2 n2 cap2, hlt, by go_num, J1.far (hBg.setCell (Nat.le_refl _) _) hgl, hgl, (hG3.put 2 _), by rw [drop_none l (by omega)]; exact OwnV.nil _ _, ?_, (fun k hk => by cases hk), fun _ => rfl⟩, by simp [intOf]; omega⟩
        rw [show min (j + 1) dr = min j dr + 1 by omega, show l.take (min j dr + 1) = l.take (min j dr) ++ [l[j]] by rw [show min j dr = j by omega]; exact take_snoc l hlt]
        exact hown.setCell (by simp) _
      · have dt : decide (kp < (l.length : Int) + 1 - (j : Int)) = false := decide_eq_false (by omega)
        have hlen40 : (((l.take j).drop dr).length + [l[j]].length) * 40 ≤ 140737488355328 := by simp; omega
        obtain ⟨AX, nX, cX, rfl, hnX⟩ := hE.shape
        obtain ⟨AY, nY, cY, rfl, hnY⟩ := hD.shape
        have hX2 := hE.below hBW
        have hY2 := hD.below hBW
        have hrow : ∀ k, (Value.slice AX nX cX).ownBlock = some k → g + 1 ≤ k := fun k hk => (hX2.own k hk).1
        go_wp2_with (at_builtin; apply wpList_append_vs (s := .tmp 79) (x := .tmp 81) (lo := g + 1) (B := wr.heap.size + 1 + 1) (l := (l.take j).drop dr) (m := [l[j]]) (A := some ⟨wr.heap.size + 1, 0, none⟩) (n := 1) (c := 1) (v := .slice AX nX cX); (case hgd => rfl); (case ho => rfl); (case hB => exact hX2); (case hs => rfl); (case hlo => (simp; omega)); (case hx => rfl); (case hn => rfl); (case hv => exact hone); (case hlen => exact hlen40); intro v' w2 hown hg2 hat; have hG3 := Blk.grown hG2 hg2 (fun e => by have := hrow g e; omega); have q0 := hG3.cell 0; have q1 := hG3.cell 1; have q2 := hG3.cell 2; have q3 := hG3.cell 3; simp at q0 q1 q2 q3; have k1 := hG3.frozen 1; have k2 := hG3.frozen 2; obtain ⟨A2, n2, cap2, rfl, hn2⟩ := hown.shape)
        have hBg : Below g wr w2 := (hBW.mono (by omega)).grown hg2 (by simp; omega) (fun k hk => by have := hrow k hk; omega)
        have hs2 := hg2.size
        simp at hs2
        refine ⟨⟨j + 1, .slice A2 n2 cap2, .slice AY nY cY, hlt, by go_num, J1.far (hBg.setCell (Nat.le_refl _) _) hgl, hgl, (hG3.put 1 _), ?_, ?_, ?_, fun hh => by omega⟩, by simp [intOf]; omega⟩
        · rw [drop_snoc l hlt (by omega)]; exact hown.setCell (by simp) _
        · rw [show min (j + 1) dr = min j dr by omega]; exact (hY2.kept hg2 (fun k hk e => hdis k hk e)).setCell (by simp) _
        · intro k hk e
          have hy := hY2.own k e
          rcases hat with e2 | e2
          · exact hdis k (by rw [← e2]; exact hk) e
          · rw [hk] at e2
            have hlt2 := (hD.own k e).2
            simp at e2
            omega
    · have hlen40 : ((l.drop dr).length + [(⟨l[k].n + 1, v, t⟩ : V)].length) * 40 ≤ 140737488355328 := by simp; omega
      rw [List.take_of_length_le (show l.length ≤ j by omega)] at hE
      rw [show l.take (min j dr) = l.take dr by
        rw [show min j dr = min l.length dr by omega]
        rcases Nat.le_total l.length dr with hh | hh
        · rw [Nat.min_eq_left hh, List.take_of_length_le (Nat.le_refl _), List.take_of_length_le hh]
        · rw [Nat.min_eq_right hh]] at hD
      obtain ⟨AX, nX, cX, rfl, hnX⟩ := hE.shape
      obtain ⟨AY, nY, cY, rfl, hnY⟩ := hD.shape
      have hBW : Below wr.heap.size wr (wr.alloc (.cells #[.int .i64 (l[k].n + 1), .string v, .string t] 39)) := (Below.refl _ _).alloc (Nat.le_refl _) _
      have hone := Vs.one wr ⟨l[k].n + 1, v, t⟩ hfx
      have hX2 := hE.below hBW
      have hY2 := hD.below hBW
      have hG2 := hG.alloc (.cells #[.int .i64 (l[k].n + 1), .string v, .string t] 39)
      have hR2 := hR.alloc (.cells #[.int .i64 (l[k].n + 1), .string v, .string t] 39)
      have hrow : ∀ k, (Value.slice AX nX cX).ownBlock = some k → g + 1 ≤ k := fun k hk => (hX2.own k hk).1
      go_wp2_with (at_builtin; apply wpList_append_vs (s := .tmp 88) (x := .tmp 93) (lo := g + 1) (B := wr.heap.size + 1) (l := l.drop dr) (m := [⟨l[k].n + 1, v, t⟩]) (A := some ⟨wr.heap.size, 0, none⟩) (n := 1) (c := 1) (v := .slice AX nX cX); (case hgd => rfl); (case ho => rfl); (case hB => exact hX2); (case hs => rfl); (case hlo => (simp; omega)); (case hx => rfl); (case hn => rfl); (case hv => exact hone); (case hlen => exact hlen40); intro v' w2 hown hg2 hat; have hG3 := Blk.grown hG2 hg2 (fun e => by have := hrow g e; omega); have hR3 := Blk.grown hR2 hg2 (fun e => by have := hrow _ e; omega); have q0 := hG3.cell 0; have q1 := hG3.cell 1; have q2 := hG3.cell 2; have q3 := hG3.cell 3; have z0 := hR3.cell 0; have z1 := hR3.cell 1; have z2 := hR3.cell 2; have z3 := hR3.cell 3; simp at q0 q1 q2 q3 z0 z1 z2 z3; have k1 := hG3.frozen 1; have f0 := hR3.frozen 0; have f1 := hR3.frozen 1; have f2 := hR3.frozen 2; have f3 := hR3.frozen 3; obtain ⟨A2, n2, cap2, rfl, hn2⟩ := hown.shape)
      have hBg : Below w.heap.size wr w2 := (hBW.mono (by omega)).grown hg2 (by simp; omega) (fun k hk => by have := hrow k hk; omega)
      refine bodyPost_ret (v := .agg #[.string s, .slice A2 n2 cap2, .slice AY nY cY, .int .i64 0]) (by simp [results, Try.results31, go_sem, z0, z1, z2, z3]) rfl ⟨_, _, rfl, ?_, ?_, ?_⟩
      · exact four_below ((b1.trans hBg).setCell (by simp; omega) _) (by omega) _ _ _ _
      · rw [hNO.out]
        exact (((((hown.setCell (by simp) _).hv.setCell (by simp; omega) _).setCell (by simp; omega) _).setCell (by simp; omega) _).setCell (by simp; omega) _).more (by omega)
      · exact ((((((hY2.kept hg2 (fun k hk e => hdis k hk e)).setCell (by simp) _).hv.setCell (by simp; omega) _).setCell (by simp; omega) _).setCell (by simp; omega) _).setCell (by simp; omega) _).more (by omega)

end Go.Proofs.Ytolngibmfffjcaa.vers
