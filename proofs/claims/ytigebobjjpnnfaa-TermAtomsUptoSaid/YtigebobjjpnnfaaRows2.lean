/- The walk of the law TermRows: it answers true and writes nothing that was there. -/
import Derived.Test.YtigebobjjpnnfaaMakes
import Derived.Test.YtigebobjjpnnfaaBytesLaw
namespace Go.Proofs.Ytigebobjjpnnfaa.rowsLaw
open Go.RowKit Go.Proofs.Ytigebobjjpnnfaa.base Go.Proofs.Ytigebobjjpnnfaa.tm Go.Proofs.Ytigebobjjpnnfaa.lies Go.Proofs.Ytigebobjjpnnfaa.rights Go.Proofs.Ytigebobjjpnnfaa.copies Go.Proofs.Ytigebobjjpnnfaa.makes Go.Proofs.Ytigebobjjpnnfaa.encs Go.Proofs.Ytigebobjjpnnfaa.refEncs

/-- a row of terms; a box with it -/
def rowT (l : List T) : T := .mk 5 0 ⟨#[]⟩ l
def boxT (k : Int) (t : T) : T := .mk 4 k ⟨#[]⟩ [t]

theorem str5 : (⟨#[5]⟩ : ByteArray).size = 1 := rfl
theorem row_lies {w : World} {lo : Nat} {l : List T} {A : Option Addr} {c : Nat} (h : Held w lo w.heap.size l (.slice A l.length c)) : Lies w w.heap.size (rowT l) (.slice A l.length c) :=
  Held.lies (t := rowT l) h (by show (-9223372036854775808 : Int) ≤ 5 ∧ (5 : Int) ≤ 9223372036854775807; omega) (by show (0 : Int) ≤ 0 ∧ (0 : Int) < 18446744073709551616; omega) (Nat.zero_le _) (Nat.le_refl _)

theorem box_lies {w : World} {m : List T} {A : Option Addr} {c : Nat} (key : Nat) (o : Obj) (hk : key < 18446744073709551616) (h : Lies w w.heap.size (rowT m) (.slice A m.length c)) :
    Lies ((w.alloc (.cells #[.int .i64 5, .int .u64 0, .string ⟨#[]⟩, .slice A m.length c] 30)).alloc o) ((w.alloc (.cells #[.int .i64 5, .int .u64 0, .string ⟨#[]⟩, .slice A m.length c] 30)).alloc o).heap.size (boxT key (rowT m)) (.slice (some ⟨w.heap.size, 0, none⟩) 1 1) := by
  have hbk := (Blk.new w 30 #[.int .i64 5, .int .u64 0, .string ⟨#[]⟩, .slice A m.length c]).alloc o
  have hr := Blk.rd (xs := [.int .i64 5, .int .u64 0, .string ⟨#[]⟩, .slice A m.length c]) (B := ((w.alloc (.cells #[.int .i64 5, .int .u64 0, .string ⟨#[]⟩, .slice A m.length c] 30)).alloc o).heap.size) hbk (by simp; omega)
  exact Lies.mk (t := boxT key (rowT m)) (by show (-9223372036854775808 : Int) ≤ 4 ∧ (4 : Int) ≤ 9223372036854775807; omega) (by show (0 : Int) ≤ (key : Int) ∧ (key : Int) < 18446744073709551616; omega) (Nat.zero_le _) (Nat.le_refl _) (by show 1 * 56 ≤ 140737488355328; omega) hr
    ⟨_, [], rfl, (h.later (Nat.le_refl _) _).later (Nat.le_refl _) o, rfl⟩

theorem take_lies {w : World} {B : Nat} (n : Nat) : ∀ {l : List T} {xs : List Value}, LiesL w B l xs → LiesL w B (l.take n) (xs.take (4 * n)) := by
  induction n with
  | zero => intro l xs _; simp [LiesL]
  | succ n ih =>
    intro l xs h
    cases l with
    | nil => rw [show xs = [] from h]; simp [LiesL]
    | cons t l =>
      obtain ⟨v, ys, rfl, h1, h2⟩ := h
      exact ⟨v, ys.take (4 * n), by rw [show 4 * (n + 1) = 4 * n + 1 + 1 + 1 + 1 by omega]; rfl, h1, ih h2⟩
theorem row_len {m : List T} (h : (rowT m).right = 0) (hw : wordL m) : (rowT m).enc.length ≤ 16044000 := by
  obtain ⟨h1, h2, h3⟩ := right_ok h
  have h4 : m.length < 18446744073709551616 := by
    have k4 : ∀ l : List T, l.length ≤ sizeL l := fun l => by
      induction l with
      | nil => simp
      | cons t l ih => have := size_pos t; simp only [List.length_cons, sizeL]; omega
    have k5 := k4 m
    have : (rowT m).size = sizeL m + 1 := rfl
    omega
  have := enc_len (rowT m) h3 ⟨⟨⟨Int.le_refl 0, by omega⟩, h4⟩, hw⟩
  omega

theorem box_str (key : Nat) (t : T) : (!(boxT (key : Int) t).enc == ((⟨#[4]⟩ : ByteArray) ++ ⟨(putL key).toArray⟩ ++ ⟨t.enc.toArray⟩).toList) = false := by
  have e : (boxT (key : Int) t).enc = ((⟨#[4]⟩ : ByteArray) ++ ⟨(putL key).toArray⟩ ++ ⟨t.enc.toArray⟩).toList := by
    rw [tm.toList_eq, enc_eq]
    have h1 : (boxT (key : Int) t).head = key := by rw [head_eq, if_neg (show ¬ (boxT (key : Int) t).k = 2 from (by show ¬ (4 : Int) = 2; omega)), if_neg (show ¬ (boxT (key : Int) t).k = 5 from (by show ¬ (4 : Int) = 5; omega))]; rfl
    rw [h1]
    show UInt8.ofNat (Int.toNat 4) :: (putL key ++ ([] ++ (t.enc ++ []))) = _
    simp
  rw [e]
  simp
theorem row_str {m : List T} {x : ByteArray} (h : x.data.toList = 5 :: (putL m.length ++ encL m)) : ((rowT m).enc == x.toList) = true := by
  rw [tm.toList_eq, h, enc_eq]
  have h1 : (rowT m).head = m.length := by rw [head_eq, if_neg (show ¬ (rowT m).k = 2 from (by show ¬ (5 : Int) = 2; omega)), if_pos (show (rowT m).k = 5 from rfl)]; rfl
  rw [h1]
  show ((UInt8.ofNat (Int.toNat 5) :: (putL m.length ++ ([] ++ encL m))) == _) = true
  simp

/-- at the loop's head -/
def WHead (W : World) (m : List T) (u i : Value) (wr : World) : Prop :=
  ∃ (j : Nat) (x : ByteArray), j ≤ m.length ∧ i = .int .i64 j ∧ u = .string x ∧ Hid (x.data.toList = 5 :: (putL m.length ++ encL (m.take j))) ∧ x.size ≤ 32088000 ∧ Below W.heap.size W wr

theorem right_row {m : List T} (h : (rowT m).right = 0) : sizeL m + 1 ≤ 4000 ∧ deepL m + 1 ≤ 12 ∧ shapedL m = true := by
  obtain ⟨h1, h2, h3⟩ := right_ok h
  refine ⟨h1, h2, ?_⟩
  rw [shaped_eq, Bool.and_eq_true] at h3
  exact h3.2
theorem part_right {m : List T} (h : (rowT m).right = 0) {j : Nat} (hj : j < m.length) : m[j].right = 0 := by
  obtain ⟨h1, h2, h3⟩ := right_row h
  have a := size_get m j hj
  have b := deep_get m j hj
  exact ok_right (by omega) (by omega) (shapedL_at m j hj h3)
theorem part_len {m : List T} (h : (rowT m).right = 0) {j : Nat} (hj : j < m.length) (hw : m[j].word) : m[j].enc.length ≤ 16044000 := by
  obtain ⟨h1, h2, h3⟩ := right_row h
  have a := size_get m j hj
  have := enc_len m[j] (shapedL_at m j hj h3) hw
  omega
theorem whead_next {W wr : World} {m : List T} {j : Nat} {x : ByteArray} (hj : j < m.length) (hR : (rowT m).right = 0) (hw : wordL m) (hx : x.data.toList = 5 :: (putL m.length ++ encL (m.take j))) (hb : Below W.heap.size W wr) : WHead W m (.string (x ++ ⟨m[j].enc.toArray⟩)) (.int .i64 ((j : Int) + 1)) wr := by
  obtain ⟨h1, h2, h3⟩ := right_row hR
  have e : (x ++ ⟨m[j].enc.toArray⟩).data.toList = 5 :: (putL m.length ++ encL (m.take (j + 1))) := by
    rw [encL_take _ _ hj, ← List.append_assoc, ← List.cons_append, ← hx]; simp
  refine ⟨j + 1, _, hj, by go_num, rfl, lay e, ?_, hb⟩
  have k1 := congrArg List.length e
  have k2 := encL_len _ (shapedL_tk m (j + 1) h3) (wordL_tk m (j + 1) hw)
  have k3 := sizeL_le m (j + 1)
  have k4 : ∀ l : List T, l.length ≤ sizeL l := fun l => by
    induction l with
    | nil => simp
    | cons t l ih => have := size_pos t; simp only [List.length_cons, sizeL]; omega
  have k5 := k4 m
  have k6 := putL_ten (n := m.length) (by omega)
  have k7 : (x ++ ⟨m[j].enc.toArray⟩).data.toList.length = (x ++ ⟨m[j].enc.toArray⟩).size := Array.length_toList
  rw [k7] at k1
  simp only [List.length_append, List.length_cons] at k1
  omega

set_option maxRecDepth 100000 in
set_option maxHeartbeats 1000000 in
theorem rows_short (m : List T) (A : Option Addr) (c : Nat) (key : Nat) (w : World) (h : LiesS w w.heap.size m A c) (hk : key < 18446744073709551616) (hm : m.length ≤ 100) :
    Calls Try.prog 13 #[.slice A m.length c, .int .u64 key] w fun e w' => e = .returned (.bool true) ∧ Below w.heap.size w w' := by
  have hof := of_any m A c w.heap.size w h (Nat.le_refl _)
  obtain ⟨xs, g1, g2, g3, g4⟩ := h
  by_cases hR : (rowT m).right = 0
  · go_enter Try.func13, Try.ntmps13
    have h1 := fun wx (u : Value) (hx : Lies wx wx.heap.size (rowT m) u) => encode_ok (rowT m) u wx hx hR
    have h2 := fun wx (u : Value) (hx : Lies wx wx.heap.size (rowT m) u) => refRight_any (rowT m) u wx hx
    rw [hR] at h2
    have HR := Lib.hid hR
    clear hR
    go_wp2_with (go_at_call 27; refine hof.mono ?_; rintro e w1 ⟨A1, c1, rfl, hh, hb1⟩)
    have hL1 := (row_lies (hh.move (Nat.zero_le _) (Nat.le_refl _) fun _ _ _ => rfl)).later (Nat.le_refl _) (.cells #[.int .i64 5, .int .u64 0, .string ⟨#[]⟩, .slice A1 m.length c1] 30)
    refine (h1 _ _ hL1).mono ?_
    rintro e w2 ⟨rfl, hb2⟩
    obtain ⟨hc2, hf2⟩ := bcell hb2
    go_wp2_with fail
    have hL2 := (hL1.below hb2).now hb2.size
    refine (h2 _ _ hL2).mono ?_
    rintro e w3 ⟨rfl, hb3⟩
    have hB13 := hb2.trans (hb3.mono hb2.size)
    clear hc2 hf2
    have hpt := putL_ten (n := m.length) (by omega)
    go_wp2_with (go_at_call 16; refine (put.putNum_any m.length _ (by omega)).mono ?_; rintro e w4 ⟨rfl, hb4⟩)
    have hB14 := hB13.trans (hb4.mono hB13.size)
    have hBw := below_call hb1 hB14
    have hq := (right_ok HR.out)
    clear hb2 hb3 hb4 hB13 hL2
    go_loopw [8, 45] (fun u i wr => WHead w4 m u i wr) (fun _ i _ => m.length - (intOf i).toNat)
    case atStart => exact ⟨0, _, Nat.zero_le _, rfl, rfl, lay (by simp [encL]), by rw [ByteArray.size_append]; show 1 + (putL m.length).length ≤ _; omega, Below.refl _ _⟩
    case round =>
      obtain ⟨j, x, hj, rfl, rfl, HX, hxs, hb⟩ := hrel
      have hbw := hBw.trans (hb.mono hBw.size)
      by_cases hlt : j < m.length
      · obtain ⟨b0, off, A', c', rfl, hbl, hv, c0, c1', c2, c3⟩ := at_cells (g3.below hbw) (g4.below hbw) hlt
        have hjr := part_right HR.out hlt
        have h5 := fun wx (hx : Lies wx wx.heap.size m[j] (.slice A' m[j].l.length c')) => encode_ok m[j] _ wx hx hjr
        have hel := part_len HR.out hlt (Lies.word _ _ hv)
        clear hjr hq
        go_wp2_with (go_at_call 18; refine (h5 _ (hv.later hbw.size _)).mono ?_; rintro e w5 ⟨rfl, hb5⟩)
        exact ⟨whead_next hlt HR.out (LiesL.word _ _ g4) HX.out (below_call hb hb5), by simp [intOf]; omega⟩
      · have hjl : m.take j = m := List.take_of_length_le (by omega)
        rw [hjl] at HX
        have hB1r := hB14.trans (hb.mono hB14.size)
        have hbk := (Blk.new w1 30 #[.int .i64 5, .int .u64 0, .string ⟨#[]⟩, .slice A1 m.length c1]).below hB1r (by simp)
        have z0 := hbk.cell 0
        have z1 := hbk.cell 1
        have z2 := hbk.cell 2
        have z3 := hbk.cell 3
        simp at z0 z1 z2 z3
        have hLr := (hL1.below hB1r).now hB1r.size
        have hLb := box_lies key (.cells #[.int .i64 4, .int .u64 (key : Int), .string ⟨#[]⟩, .slice (some ⟨wr.heap.size, 0, none⟩) 1 1] 30) hk hLr
        have h6 := fun wx (u : Value) (hx : Lies wx wx.heap.size (boxT key (rowT m)) u) => refRight_any (boxT key (rowT m)) u wx hx
        have h8 := fun wx (u : Value) (hx : Lies wx wx.heap.size (rowT m) u) => size_ok (rowT m) u wx hx HR.out
        have hrl := row_len HR.out (LiesL.word _ _ g4)
        by_cases hR2 : (boxT key (rowT m)).right = 0
        · have h7 := fun wx (u : Value) (hx : Lies wx wx.heap.size (boxT key (rowT m)) u) => encode_ok (boxT key (rowT m)) u wx hx hR2
          rw [hR2] at h6
          clear hR2
          have hpk := putL_ten hk
          have hq1 := box_str key (rowT m)
          have hq2 := row_str HX.out
          go_wp2_with fail
          refine (h7 _ _ hLb).mono ?_
          rintro e w5 ⟨rfl, hb5⟩
          obtain ⟨hc5, hf5⟩ := bcell hb5
          have hz5 : wr.heap.size + 1 < w5.heap.size := by have := hb5.size; simp at this; omega
          go_wp2_with fail
          refine (h6 _ _ ((hLb.below hb5).now hb5.size)).mono ?_
          rintro e w6 ⟨rfl, hb6⟩
          obtain ⟨hc6, hf6⟩ := bcell hb6
          have hz6 := hb6.size
          have hB6 := ((((hB1r.alloc hB1r.size (.cells #[.int .i64 5, .int .u64 0, .string ⟨#[]⟩, .slice A1 m.length c1] 30)).alloc (by have := hB1r.size; simp at this ⊢; omega) (.cells #[.int .i64 4, .int .u64 (key : Int), .string ⟨#[]⟩, .slice (some ⟨wr.heap.size, 0, none⟩) 1 1] 30))).trans (hb5.mono (by have := hB1r.size; simp at this ⊢; omega))).trans (hb6.mono (by have := hB1r.size; simp at this ⊢; omega))
          go_wp2_with (go_at_call 16; refine (put.putNum_any key _ hk).mono ?_; rintro e w7 ⟨rfl, hb7⟩; have hB7 := hB6.trans (hb7.mono hB6.size); have hbk7 := (Blk.new w1 30 #[.int .i64 5, .int .u64 0, .string ⟨#[]⟩, .slice A1 m.length c1]).below hB7 (by simp); have y0 := hbk7.cell 0; have y1 := hbk7.cell 1; have y2 := hbk7.cell 2; have y3 := hbk7.cell 3; simp at y0 y1 y2 y3)
          refine (h8 _ _ ((hL1.below hB7).now hB7.size)).mono ?_
          rintro e w8 ⟨rfl, hb8⟩
          go_wp2_with fail
          go_ret
          exact ⟨rfl, below_call hb1 (hB7.trans (hb8.mono hB7.size))⟩
        · have h7 := fun wx (u : Value) (hx : Lies wx wx.heap.size (boxT key (rowT m)) u) => encode_bad (boxT key (rowT m)) u wx hx hR2
          have d1 : ((boxT (key : Int) (rowT m)).right == 0) = false := by simpa using hR2
          clear hR2
          have hq2 := row_str HX.out
          go_wp2_with fail
          refine (h7 _ _ hLb).mono ?_
          rintro e w5 ⟨rfl, hb5⟩
          obtain ⟨hc5, hf5⟩ := bcell hb5
          have hz5 : wr.heap.size + 1 < w5.heap.size := by have := hb5.size; simp at this; omega
          go_wp2_with fail
          refine (h6 _ _ ((hLb.below hb5).now hb5.size)).mono ?_
          rintro e w6 ⟨rfl, hb6⟩
          have hB6 := ((((hB1r.alloc hB1r.size (.cells #[.int .i64 5, .int .u64 0, .string ⟨#[]⟩, .slice A1 m.length c1] 30)).alloc (by have := hB1r.size; simp at this ⊢; omega) (.cells #[.int .i64 4, .int .u64 (key : Int), .string ⟨#[]⟩, .slice (some ⟨wr.heap.size, 0, none⟩) 1 1] 30))).trans (hb5.mono (by have := hB1r.size; simp at this ⊢; omega))).trans (hb6.mono (by have := hB1r.size; simp at this ⊢; omega))
          have hbk7 := (Blk.new w1 30 #[.int .i64 5, .int .u64 0, .string ⟨#[]⟩, .slice A1 m.length c1]).below hB6 (by simp)
          have y0 := hbk7.cell 0
          have y1 := hbk7.cell 1
          have y2 := hbk7.cell 2
          have y3 := hbk7.cell 3
          simp at y0 y1 y2 y3
          go_wp2_with fail
          refine (h8 _ _ ((hL1.below hB6).now hB6.size)).mono ?_
          rintro e w8 ⟨rfl, hb8⟩
          go_wp2_with fail
          go_ret
          exact ⟨rfl, below_call hb1 (hB6.trans (hb8.mono hB6.size))⟩
  · have h1 := fun wx (u : Value) (hx : Lies wx wx.heap.size (rowT m) u) => encode_bad (rowT m) u wx hx hR
    have h2 := fun wx (u : Value) (hx : Lies wx wx.heap.size (rowT m) u) => refRight_any (rowT m) u wx hx
    have d1 : ((rowT m).right != 0) = true := by simpa using hR
    clear hR
    go_enter Try.func13, Try.ntmps13
    go_wp2_with (go_at_call 27; refine hof.mono ?_; rintro e w1 ⟨A1, c1, rfl, hh, hb1⟩)
    have hL1 := (row_lies (hh.move (Nat.zero_le _) (Nat.le_refl _) fun _ _ _ => rfl)).later (Nat.le_refl _) (.cells #[.int .i64 5, .int .u64 0, .string ⟨#[]⟩, .slice A1 m.length c1] 30)
    refine (h1 _ _ hL1).mono ?_
    rintro e w2 ⟨rfl, hb2⟩
    obtain ⟨hc2, hf2⟩ := bcell hb2
    go_wp2_with fail
    refine (h2 _ _ ((hL1.below hb2).now hb2.size)).mono ?_
    rintro e w3 ⟨rfl, hb3⟩
    go_wp2_with fail
    go_ret
    exact ⟨rfl, below_call hb1 (hb2.trans (hb3.mono hb2.size))⟩
set_option maxRecDepth 100000 in
set_option maxHeartbeats 1000000 in
theorem rows_long (l m : List T) (A : Option Addr) (c : Nat) (key : Nat) (w : World) (h : LiesS w w.heap.size m A c) (hk : key < 18446744073709551616) (HM : Hid (m.length = 100)) (hl : 100 < l.length) (hlc : l.length ≤ c) (hc56 : l.length * 56 ≤ 140737488355328) :
    Calls Try.prog 13 #[.slice A l.length c, .int .u64 key] w fun e w' => e = .returned (.bool true) ∧ Below w.heap.size w w' := by
  have hm : m.length ≤ 100 := by have := HM.out; omega
  have hof := of_any m A c w.heap.size w h (Nat.le_refl _)
  obtain ⟨xs, g1, g2, g3, g4⟩ := h
  by_cases hR : (rowT m).right = 0
  · go_enter Try.func13, Try.ntmps13
    have h1 := fun wx (u : Value) (hx : Lies wx wx.heap.size (rowT m) u) => encode_ok (rowT m) u wx hx hR
    have h2 := fun wx (u : Value) (hx : Lies wx wx.heap.size (rowT m) u) => refRight_any (rowT m) u wx hx
    rw [hR] at h2
    have HR := Lib.hid hR
    clear hR
    go_wp2_with fail
    rw [show Value.slice A 100 c = Value.slice A m.length c by rw [HM.out]]
    refine hof.mono ?_
    rintro e w1 ⟨A1, c1, rfl, hh, hb1⟩
    go_wp2_with fail
    have hL1 := (row_lies (hh.move (Nat.zero_le _) (Nat.le_refl _) fun _ _ _ => rfl)).later (Nat.le_refl _) (.cells #[.int .i64 5, .int .u64 0, .string ⟨#[]⟩, .slice A1 m.length c1] 30)
    refine (h1 _ _ hL1).mono ?_
    rintro e w2 ⟨rfl, hb2⟩
    obtain ⟨hc2, hf2⟩ := bcell hb2
    go_wp2_with fail
    have hL2 := (hL1.below hb2).now hb2.size
    refine (h2 _ _ hL2).mono ?_
    rintro e w3 ⟨rfl, hb3⟩
    have hB13 := hb2.trans (hb3.mono hb2.size)
    clear hc2 hf2
    have hpt := putL_ten (n := m.length) (by omega)
    go_wp2_with (go_at_call 16; refine (put.putNum_any m.length _ (by omega)).mono ?_; rintro e w4 ⟨rfl, hb4⟩)
    have hB14 := hB13.trans (hb4.mono hB13.size)
    have hBw := below_call hb1 hB14
    have hq := (right_ok HR.out)
    clear hb2 hb3 hb4 hB13 hL2
    go_loopw [8, 45] (fun u i wr => WHead w4 m u i wr) (fun _ i _ => m.length - (intOf i).toNat)
    case atStart => exact ⟨0, _, Nat.zero_le _, rfl, rfl, lay (by simp [encL]), by rw [ByteArray.size_append]; show 1 + (putL m.length).length ≤ _; omega, Below.refl _ _⟩
    case round =>
      obtain ⟨j, x, hj, rfl, rfl, HX, hxs, hb⟩ := hrel
      have hbw := hBw.trans (hb.mono hBw.size)
      by_cases hlt : j < m.length
      · obtain ⟨b0, off, A', c', rfl, hbl, hv, c0, c1', c2, c3⟩ := at_cells (g3.below hbw) (g4.below hbw) hlt
        have hjr := part_right HR.out hlt
        have h5 := fun wx (hx : Lies wx wx.heap.size m[j] (.slice A' m[j].l.length c')) => encode_ok m[j] _ wx hx hjr
        have hel := part_len HR.out hlt (Lies.word _ _ hv)
        clear hjr hq
        go_wp2_with (go_at_call 18; refine (h5 _ (hv.later hbw.size _)).mono ?_; rintro e w5 ⟨rfl, hb5⟩)
        exact ⟨whead_next hlt HR.out (LiesL.word _ _ g4) HX.out (below_call hb hb5), by simp [intOf]; omega⟩
      · have hjl : m.take j = m := List.take_of_length_le (by omega)
        rw [hjl] at HX
        have hB1r := hB14.trans (hb.mono hB14.size)
        have hbk := (Blk.new w1 30 #[.int .i64 5, .int .u64 0, .string ⟨#[]⟩, .slice A1 m.length c1]).below hB1r (by simp)
        have z0 := hbk.cell 0
        have z1 := hbk.cell 1
        have z2 := hbk.cell 2
        have z3 := hbk.cell 3
        simp at z0 z1 z2 z3
        have hLr := (hL1.below hB1r).now hB1r.size
        have hLb := box_lies key (.cells #[.int .i64 4, .int .u64 (key : Int), .string ⟨#[]⟩, .slice (some ⟨wr.heap.size, 0, none⟩) 1 1] 30) hk hLr
        have h6 := fun wx (u : Value) (hx : Lies wx wx.heap.size (boxT key (rowT m)) u) => refRight_any (boxT key (rowT m)) u wx hx
        have h8 := fun wx (u : Value) (hx : Lies wx wx.heap.size (rowT m) u) => size_ok (rowT m) u wx hx HR.out
        have hrl := row_len HR.out (LiesL.word _ _ g4)
        by_cases hR2 : (boxT key (rowT m)).right = 0
        · have h7 := fun wx (u : Value) (hx : Lies wx wx.heap.size (boxT key (rowT m)) u) => encode_ok (boxT key (rowT m)) u wx hx hR2
          rw [hR2] at h6
          clear hR2
          have hpk := putL_ten hk
          have hq1 := box_str key (rowT m)
          have hq2 := row_str HX.out
          go_wp2_with fail
          refine (h7 _ _ hLb).mono ?_
          rintro e w5 ⟨rfl, hb5⟩
          obtain ⟨hc5, hf5⟩ := bcell hb5
          have hz5 : wr.heap.size + 1 < w5.heap.size := by have := hb5.size; simp at this; omega
          go_wp2_with fail
          refine (h6 _ _ ((hLb.below hb5).now hb5.size)).mono ?_
          rintro e w6 ⟨rfl, hb6⟩
          obtain ⟨hc6, hf6⟩ := bcell hb6
          have hz6 := hb6.size
          have hB6 := ((((hB1r.alloc hB1r.size (.cells #[.int .i64 5, .int .u64 0, .string ⟨#[]⟩, .slice A1 m.length c1] 30)).alloc (by have := hB1r.size; simp at this ⊢; omega) (.cells #[.int .i64 4, .int .u64 (key : Int), .string ⟨#[]⟩, .slice (some ⟨wr.heap.size, 0, none⟩) 1 1] 30))).trans (hb5.mono (by have := hB1r.size; simp at this ⊢; omega))).trans (hb6.mono (by have := hB1r.size; simp at this ⊢; omega))
          go_wp2_with (go_at_call 16; refine (put.putNum_any key _ hk).mono ?_; rintro e w7 ⟨rfl, hb7⟩; have hB7 := hB6.trans (hb7.mono hB6.size); have hbk7 := (Blk.new w1 30 #[.int .i64 5, .int .u64 0, .string ⟨#[]⟩, .slice A1 m.length c1]).below hB7 (by simp); have y0 := hbk7.cell 0; have y1 := hbk7.cell 1; have y2 := hbk7.cell 2; have y3 := hbk7.cell 3; simp at y0 y1 y2 y3)
          refine (h8 _ _ ((hL1.below hB7).now hB7.size)).mono ?_
          rintro e w8 ⟨rfl, hb8⟩
          go_wp2_with fail
          go_ret
          exact ⟨rfl, below_call hb1 (hB7.trans (hb8.mono hB7.size))⟩
        · have h7 := fun wx (u : Value) (hx : Lies wx wx.heap.size (boxT key (rowT m)) u) => encode_bad (boxT key (rowT m)) u wx hx hR2
          have d1 : ((boxT (key : Int) (rowT m)).right == 0) = false := by simpa using hR2
          clear hR2
          have hq2 := row_str HX.out
          go_wp2_with fail
          refine (h7 _ _ hLb).mono ?_
          rintro e w5 ⟨rfl, hb5⟩
          obtain ⟨hc5, hf5⟩ := bcell hb5
          have hz5 : wr.heap.size + 1 < w5.heap.size := by have := hb5.size; simp at this; omega
          go_wp2_with fail
          refine (h6 _ _ ((hLb.below hb5).now hb5.size)).mono ?_
          rintro e w6 ⟨rfl, hb6⟩
          have hB6 := ((((hB1r.alloc hB1r.size (.cells #[.int .i64 5, .int .u64 0, .string ⟨#[]⟩, .slice A1 m.length c1] 30)).alloc (by have := hB1r.size; simp at this ⊢; omega) (.cells #[.int .i64 4, .int .u64 (key : Int), .string ⟨#[]⟩, .slice (some ⟨wr.heap.size, 0, none⟩) 1 1] 30))).trans (hb5.mono (by have := hB1r.size; simp at this ⊢; omega))).trans (hb6.mono (by have := hB1r.size; simp at this ⊢; omega))
          have hbk7 := (Blk.new w1 30 #[.int .i64 5, .int .u64 0, .string ⟨#[]⟩, .slice A1 m.length c1]).below hB6 (by simp)
          have y0 := hbk7.cell 0
          have y1 := hbk7.cell 1
          have y2 := hbk7.cell 2
          have y3 := hbk7.cell 3
          simp at y0 y1 y2 y3
          go_wp2_with fail
          refine (h8 _ _ ((hL1.below hB6).now hB6.size)).mono ?_
          rintro e w8 ⟨rfl, hb8⟩
          go_wp2_with fail
          go_ret
          exact ⟨rfl, below_call hb1 (hB6.trans (hb8.mono hB6.size))⟩
  · have h1 := fun wx (u : Value) (hx : Lies wx wx.heap.size (rowT m) u) => encode_bad (rowT m) u wx hx hR
    have h2 := fun wx (u : Value) (hx : Lies wx wx.heap.size (rowT m) u) => refRight_any (rowT m) u wx hx
    have d1 : ((rowT m).right != 0) = true := by simpa using hR
    clear hR
    go_enter Try.func13, Try.ntmps13
    go_wp2_with fail
    rw [show Value.slice A 100 c = Value.slice A m.length c by rw [HM.out]]
    refine hof.mono ?_
    rintro e w1 ⟨A1, c1, rfl, hh, hb1⟩
    go_wp2_with fail
    have hL1 := (row_lies (hh.move (Nat.zero_le _) (Nat.le_refl _) fun _ _ _ => rfl)).later (Nat.le_refl _) (.cells #[.int .i64 5, .int .u64 0, .string ⟨#[]⟩, .slice A1 m.length c1] 30)
    refine (h1 _ _ hL1).mono ?_
    rintro e w2 ⟨rfl, hb2⟩
    obtain ⟨hc2, hf2⟩ := bcell hb2
    go_wp2_with fail
    refine (h2 _ _ ((hL1.below hb2).now hb2.size)).mono ?_
    rintro e w3 ⟨rfl, hb3⟩
    go_wp2_with fail
    go_ret
    exact ⟨rfl, below_call hb1 (hb2.trans (hb3.mono hb2.size))⟩

theorem law_rows (l : List T) (A : Option Addr) (c : Nat) (key : Nat) (w : World) (h : LiesS w w.heap.size l A c) (hk : key < 18446744073709551616) :
    Calls Try.prog 13 #[.slice A l.length c, .int .u64 key] w fun e w' => e = .returned (.bool true) ∧ Below w.heap.size w w' := by
  by_cases hl : l.length ≤ 100
  · exact rows_short l A c key w h hk hl
  · obtain ⟨xs, g1, g2, g3, g4⟩ := h
    refine rows_long l (l.take 100) A c key w ⟨xs.take 400, by rw [List.length_take]; omega, by rw [List.length_take]; omega, g3.take 400, take_lies 100 g4⟩ hk (lay (by rw [List.length_take]; omega)) (by omega) g1 g2
end Go.Proofs.Ytigebobjjpnnfaa.rowsLaw
