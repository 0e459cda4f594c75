/- The walk of the law TermGathers, both terms right. -/
import Derived.Test.YtigebobjjpnnfaaGather
import Derived.Laws.Cover1
import Derived.Sort.Walk0
namespace Go.Proofs.Ytigebobjjpnnfaa.gathers
open Go.RowKit Go.Proofs.Ytigebobjjpnnfaa.base Go.Proofs.Ytigebobjjpnnfaa.tm Go.Proofs.Ytigebobjjpnnfaa.lies Go.Proofs.Ytigebobjjpnnfaa.rights Go.Proofs.Ytigebobjjpnnfaa.copies Go.Proofs.Ytigebobjjpnnfaa.makes Go.Proofs.Ytigebobjjpnnfaa.encs Go.Proofs.Ytigebobjjpnnfaa.texts Go.Proofs.Ytigebobjjpnnfaa.rowsLaw

theorem txt_cells {w : World} {lo : Nat} {A : Option Addr} {n c : Nat} {ts : List (List UInt8)} (h : Txt w lo (.slice A n c) ts) : ts.length ≤ 140737488355328 ∧ ∀ j (h : j < ts.length), ∃ g, A = some ⟨g, 0, none⟩ ∧ w.cell? ⟨g, j, none⟩ = some (.string ⟨ts[j].toArray⟩) := by
  obtain ⟨A', c', e, hl, h⟩ := h
  injection e with e1 e2 e3
  subst e1
  refine ⟨hl, fun j hj => ?_⟩
  obtain ⟨g, h1, _, _, h2⟩ := h j hj
  exact ⟨g, h1, h2⟩
theorem enc_list (x : List UInt8) : (⟨x.toArray⟩ : ByteArray).toList = x := by rw [tm.toList_eq]
theorem in_yes {w : World} {lo : Nat} {v : Value} {ts : List (List UInt8)} (hT : Txt w lo v ts) {x : List UInt8} (hx : x ∈ ts) :
    Calls Try.prog 34 #[v, .string ⟨x.toArray⟩] w fun e w' => e = .returned (.bool true) ∧ w = w' := by
  have := in_any v lo ts ⟨x.toArray⟩ w hT
  rw [enc_list, decide_eq_true hx] at this
  exact this
theorem in_no {w : World} {lo : Nat} {v : Value} {ts : List (List UInt8)} (hT : Txt w lo v ts) {x : List UInt8} (hx : x ∉ ts) :
    Calls Try.prog 34 #[v, .string ⟨x.toArray⟩] w fun e w' => e = .returned (.bool false) ∧ w = w' := by
  have := in_any v lo ts ⟨x.toArray⟩ w hT
  rw [enc_list, decide_eq_false hx] at this
  exact this

theorem box_lies' {w : World} {t : T} {v : Value} (key : Nat) (o : Obj) (hk : key < 18446744073709551616) (h : Lies w w.heap.size t v) :
    Lies ((w.alloc (.cells #[.int .i64 t.k, .int .u64 t.n, .string t.s, v] 30)).alloc o) ((w.alloc (.cells #[.int .i64 t.k, .int .u64 t.n, .string t.s, v] 30)).alloc o).heap.size (boxT key t) (.slice (some ⟨w.heap.size, 0, none⟩) 1 1) := by
  have hbk := (Blk.new w 30 #[.int .i64 t.k, .int .u64 t.n, .string t.s, v]).alloc o
  have hr := Blk.rd (xs := [.int .i64 t.k, .int .u64 t.n, .string t.s, v]) (B := ((w.alloc (.cells #[.int .i64 t.k, .int .u64 t.n, .string t.s, v] 30)).alloc o).heap.size) hbk (by simp; omega)
  exact Lies.mk (t := boxT key t) (by show (-9223372036854775808 : Int) ≤ 4 ∧ (4 : Int) ≤ 9223372036854775807; omega) (by show (0 : Int) ≤ (key : Int) ∧ (key : Int) < 18446744073709551616; omega) (Nat.zero_le _) (Nat.le_refl _) (by show 1 * 56 ≤ 140737488355328; omega) hr
    ⟨_, [], rfl, (h.later (Nat.le_refl _) _).later (Nat.le_refl _) o, rfl⟩
theorem fin_one (s : ByteArray) : fin [s] = [s.data.toList] := by
  have h1 : srt (brs [s]) = [s.data.toList] := by simp [srt, brs]
  unfold fin
  rw [h1]
  simp [Lib.compact, Lib.compactUpTo, Lib.keeps]
def ownT : T := .mk 2 0 ⟨#[111, 119, 110]⟩ []
theorem own_right : ownT.right = 0 := by decide
theorem own_fin : fin (allOf [ownT]) = [[111, 119, 110]] := by
  rw [all_one own_right]
  show fin [⟨#[111, 119, 110]⟩] = _
  rw [fin_one]

theorem own_cell {w : World} {lo g n c : Nat} {x : List UInt8} {r : List (List UInt8)} (h : Txt w lo (.slice (some ⟨g, 0, none⟩) n c) (x :: r)) : w.cell? ⟨g, 0, none⟩ = some (.string ⟨x.toArray⟩) := by
  obtain ⟨g', h1, h2⟩ := (txt_cells h).2 0 (by simp)
  injection h1 with h1
  injection h1 with h1
  subst h1
  exact h2
theorem row_fin (t u : T) (h : (rowT [t, u]).right = 0) : fin (allOf [rowT [t, u]]) = fin (atoms t ++ atoms u) := by
  rw [all_one h, row_atoms]
  simp [atomsL]
theorem box_fin (key : Nat) (t : T) (h : (boxT (key : Int) t).right = 0) : fin (allOf [boxT (key : Int) t]) = fin (atoms t) := by
  rw [all_one h, box_atoms]

set_option maxRecDepth 100000 in
set_option maxHeartbeats 2000000 in
theorem gather_ok (t u : T) (x y : Value) (key : Nat) (w : World) (hL : Lies w w.heap.size t x) (hM : Lies w w.heap.size u y) (hk : key < 18446744073709551616) (hR : t.right = 0) (hS : u.right = 0) :
    Calls Try.prog 12 #[T.val t x, T.val u y, .int .u64 key] w fun e w' => e = .returned (.bool true) ∧ Below w.heap.size w w' := by
  obtain ⟨A, c, xs, rfl, hbt⟩ := hL.open_
  obtain ⟨A', c', xs', rfl, _⟩ := hM.open_
  have hL1 := (hL.later (Nat.le_refl _) (.cells #[.int .i64 t.k, .int .u64 t.n, .string t.s, .slice A t.l.length c] 30)).later (Nat.le_refl _) (.cells #[.int .i64 u.k, .int .u64 u.n, .string u.s, .slice A' u.l.length c'] 30)
  have hM1 := (hM.later (Nat.le_refl _) (.cells #[.int .i64 t.k, .int .u64 t.n, .string t.s, .slice A t.l.length c] 30)).later (Nat.le_refl _) (.cells #[.int .i64 u.k, .int .u64 u.n, .string u.s, .slice A' u.l.length c'] 30)
  have h1 := fun wx (hx : Lies wx wx.heap.size t (.slice A t.l.length c)) => refRight_any t _ wx hx
  have h2 := fun wx (hx : Lies wx wx.heap.size u (.slice A' u.l.length c')) => refRight_any u _ wx hx
  rw [hR] at h1
  rw [hS] at h2
  obtain ⟨ta, hta⟩ : ∃ ts, fin (atoms t) = ts := ⟨_, rfl⟩
  obtain ⟨tb, htb⟩ : ∃ ts, fin (atoms u) = ts := ⟨_, rfl⟩
  obtain ⟨tc, htc⟩ : ∃ ts, fin (atoms t ++ atoms u) = ts := ⟨_, rfl⟩
  have h3 := fun wx (hx : Lies wx wx.heap.size t (.slice A t.l.length c)) => atoms_S _ _ _ _ (one_S hx) (by rw [all_one hR]; have := atoms_few hR; omega) ta (by rw [all_one hR]; exact hta)
  have h4 := fun wx (hx : Lies wx wx.heap.size u (.slice A' u.l.length c')) => atoms_S _ _ _ _ (one_S hx) (by rw [all_one hS]; have := atoms_few hS; omega) tb (by rw [all_one hS]; exact htb)
  have h5 := fun wx (hx : Lies wx wx.heap.size t (.slice A t.l.length c)) (hy : Lies wx wx.heap.size u (.slice A' u.l.length c')) => atoms_S _ _ _ _ (two_S hx hy) (by rw [all_two hR hS, List.length_append]; have := atoms_few hR; have := atoms_few hS; omega) tc (by rw [all_two hR hS]; exact htc)
  have HTA := lay hta
  have HTB := lay htb
  have HTC := lay htc
  have HR := lay hR
  have HS := lay hS
  clear hta htb htc hR hS
  go_enter Try.func12, Try.ntmps12
  go_wp2_with fail
  refine (h1 _ hL1).mono ?_
  rintro e w1 ⟨rfl, hb1⟩
  obtain ⟨hc1, hf1⟩ := bcell hb1
  have hz1 : w.heap.size + 1 < w1.heap.size := by have := hb1.size; simp at this; omega
  have hz1' : w.heap.size < w1.heap.size := by omega
  go_wp2_with fail
  refine (h2 _ ((hM1.below hb1).now hb1.size)).mono ?_
  rintro e w2 ⟨rfl, hb2⟩
  have hB2 := hb1.trans (hb2.mono hb1.size)
  have hz2 : w.heap.size + 1 < w2.heap.size := by have := hB2.size; simp at this; omega
  have hz2' : w.heap.size < w2.heap.size := by omega
  clear hc1 hf1
  obtain ⟨hc2, hf2⟩ := bcell hB2
  go_wp2_with fail
  refine (h3 _ ((hL1.below hB2).now hB2.size)).mono ?_
  rintro e w3 ⟨A3, c3, rfl, hb3, hX⟩
  have hB3 := below_call hB2 hb3
  have hz3 : w.heap.size + 1 < w3.heap.size := by have := hB3.size; simp at this; omega
  have hz3' : w.heap.size < w3.heap.size := by omega
  clear hc2 hf2
  obtain ⟨hc3, hf3⟩ := bcell hB3
  go_wp2_with fail
  refine (h4 _ ((hM1.below hB3).now hB3.size)).mono ?_
  rintro e w4 ⟨A4, c4, rfl, hb4, hY⟩
  have hB4 := below_call hB3 hb4
  have hz4 : w.heap.size + 1 < w4.heap.size := by have := hB4.size; simp at this; omega
  have hz4' : w.heap.size < w4.heap.size := by omega
  have hX4 := (hX.alloc _).below hb4
  clear hc3 hf3
  obtain ⟨hc4, hf4⟩ := bcell hB4
  go_wp2_with fail
  refine (h5 _ ((hL1.below hB4).now hB4.size) ((hM1.below hB4).now hB4.size)).mono ?_
  rintro e w5 ⟨A5, c5, rfl, hb5, hZ⟩
  have hB5 := below_call hB4 hb5
  have hz5 : w.heap.size + 1 < w5.heap.size := by have := hB5.size; simp at this; omega
  have hz5' : w.heap.size < w5.heap.size := by omega
  have hX5 := (hX4.alloc _).below hb5
  have hY5 := (hY.alloc _).below hb5
  clear hc4 hf4 hX hX4 hY hb1 hb2 hb3 hb4 hb5 hB2 hB3 hB4 hz1 hz1' hz2 hz2' hz3 hz3' hz4 hz4' h1 h2 h3 h4 h5 hL hM
  obtain ⟨hlx, hXc⟩ := txt_cells hX5
  obtain ⟨hly, hYc⟩ := txt_cells hY5
  obtain ⟨hlz, hZc⟩ := txt_cells hZ
  have HXc := lay hXc
  have HYc := lay hYc
  have HZc := lay hZc
  clear hXc hYc hZc
  go_wp2_with fail
  go_loopw [39] (fun i wr => ∃ j : Nat, j ≤ tc.length ∧ i = .int .i64 j ∧ wr = w5) (fun i _ => tc.length - (intOf i).toNat)
  case atStart => exact ⟨0, Nat.zero_le _, rfl, rfl⟩
  case round =>
    obtain ⟨j, hj, rfl, rfl⟩ := hrel
    by_cases hlt : j < tc.length
    · obtain ⟨g, rfl, hcell⟩ := HZc.out j hlt
      have hmem : tc[j] ∈ ta ∨ tc[j] ∈ tb := by
        have : tc[j] ∈ fin (atoms t ++ atoms u) := by rw [HTC.out]; exact List.getElem_mem hlt
        rw [fin_mem_append, HTA.out, HTB.out] at this
        exact this
      by_cases hj0 : j = 0
      · subst hj0
        by_cases hx : tc[0] ∈ ta
        · have hin := in_yes hX5 hx
          clear hx hmem
          go_wp2_with fail
          refine hin.mono ?_
          rintro e w6 ⟨rfl, rfl⟩
          go_wp2_with fail
          exact ⟨⟨1, hlt, by simp⟩, by simp [intOf]; omega⟩
        · have hin := in_no hX5 hx
          have hin2 := in_yes hY5 (hmem.resolve_left hx)
          clear hx hmem
          go_wp2_with fail
          refine hin.mono ?_
          rintro e w6 ⟨rfl, rfl⟩
          go_wp2_with fail
          refine hin2.mono ?_
          rintro e w6 ⟨rfl, rfl⟩
          go_wp2_with fail
          exact ⟨⟨1, hlt, by simp⟩, by simp [intOf]; omega⟩
      · obtain ⟨k, rfl⟩ : ∃ k, j = k + 1 := ⟨j - 1, by omega⟩
        obtain ⟨g', hg', hcell'⟩ := HZc.out k (by omega)
        injection hg' with hg'
        injection hg' with hg'
        subst hg'
        have hlt2 : tc[k] < tc[k + 1] := by
          have := fin_lt (atoms t ++ atoms u) k (by rw [HTC.out]; exact hlt)
          simp only [HTC.out] at this
          exact this
        have hbl : Op.bytesLess tc[k] tc[k + 1] = true := by rw [bytesLess_eq]; exact decide_eq_true hlt2
        have hk1 : (k : Int) + 1 - 1 = (k : Int) := by omega
        clear hj0 hlt2
        by_cases hx : tc[k + 1] ∈ ta
        · have hin := in_yes hX5 hx
          clear hx hmem
          go_wp2_with fail
          refine hin.mono ?_
          rintro e w6 ⟨rfl, rfl⟩
          go_wp2_with fail
          exact ⟨⟨k + 2, hlt, by first | (simp; done) | go_num⟩, by first | (simp [intOf]; done) | (simp [intOf]; omega)⟩
        · have hin := in_no hX5 hx
          have hin2 := in_yes hY5 (hmem.resolve_left hx)
          clear hx hmem
          go_wp2_with fail
          refine hin.mono ?_
          rintro e w6 ⟨rfl, rfl⟩
          go_wp2_with fail
          refine hin2.mono ?_
          rintro e w6 ⟨rfl, rfl⟩
          go_wp2_with fail
          exact ⟨⟨k + 2, hlt, by first | (simp; done) | go_num⟩, by first | (simp [intOf]; done) | (simp [intOf]; omega)⟩
    · clear hj
      have hmz : ∀ j (h : j < ta.length), ta[j] ∈ tc := fun j h => by
        have : ta[j] ∈ fin (atoms t ++ atoms u) := by rw [fin_mem_append, HTA.out]; exact .inl (List.getElem_mem h)
        rw [HTC.out] at this
        exact this
      have hmz2 : ∀ j (h : j < tb.length), tb[j] ∈ tc := fun j h => by
        have : tb[j] ∈ fin (atoms t ++ atoms u) := by rw [fin_mem_append, HTB.out]; exact .inr (List.getElem_mem h)
        rw [HTC.out] at this
        exact this
      have HMZ := lay hmz
      have HMZ2 := lay hmz2
      clear hmz hmz2
      go_wp2_with fail
      go_loopw [70] (fun i wx => ∃ j : Nat, j ≤ ta.length ∧ i = .int .i64 j ∧ wx = wr) (fun i _ => ta.length - (intOf i).toNat)
      case atStart => exact ⟨0, Nat.zero_le _, rfl, rfl⟩
      case round =>
        obtain ⟨j2, hj2, rfl, rfl⟩ := hrel
        by_cases hlt2 : j2 < ta.length
        · obtain ⟨g2, rfl, hcell⟩ := HXc.out j2 hlt2
          have hin := in_yes hZ (HMZ.out j2 hlt2)
          go_wp2_with fail
          refine hin.mono ?_
          rintro e w6 ⟨rfl, rfl⟩
          go_wp2_with fail
          exact ⟨⟨j2 + 1, hlt2, by first | (simp; done) | go_num⟩, by first | (simp [intOf]; done) | (simp [intOf]; omega)⟩
        · clear hj2
          go_wp2_with fail
          go_loopw [81] (fun i wx => ∃ j : Nat, j ≤ tb.length ∧ i = .int .i64 j ∧ wx = wr) (fun i _ => tb.length - (intOf i).toNat)
          case atStart => exact ⟨0, Nat.zero_le _, rfl, rfl⟩
          case round =>
            obtain ⟨j3, hj3, rfl, rfl⟩ := hrel
            by_cases hlt3 : j3 < tb.length
            · obtain ⟨g3, rfl, hcell⟩ := HYc.out j3 hlt3
              have hin := in_yes hZ (HMZ2.out j3 hlt3)
              go_wp2_with fail
              refine hin.mono ?_
              rintro e w6 ⟨rfl, rfl⟩
              go_wp2_with fail
              exact ⟨⟨j3 + 1, hlt3, by first | (simp; done) | go_num⟩, by first | (simp [intOf]; done) | (simp [intOf]; omega)⟩
            · clear hj3
              obtain ⟨hc5, hf5⟩ := bcell hB5
              have hcopy := copyT.copy_any t.size t _ _ (Nat.le_refl _) ((hL1.below hB5).now hB5.size)
              go_wp2_with fail
              refine hcopy.mono ?_
              rintro e w6 ⟨hb6, A6, c6, rfl, hH6⟩
              have hl6 := hH6.lies hbt.1 hbt.2.1 hbt.2.2.1 (Nat.le_refl _)
              have hB6 := hB5.trans (hb6.mono hB5.size)
              have hz6 : w.heap.size + 1 < w6.heap.size := by have := hb6.size; omega
              have hz6' : w.heap.size < w6.heap.size := by omega
              have hbl := box_lies' key (.cells #[.int .i64 4, .int .u64 (key : Int), .string ⟨#[]⟩, .slice (some ⟨w6.heap.size, 0, none⟩) 1 1] 30) hk hl6
              have hX6 := (((hX5.below hb6).alloc (.cells #[.int .i64 t.k, .int .u64 t.n, .string t.s, .slice A6 t.l.length c6] 30)).alloc (.cells #[.int .i64 4, .int .u64 (key : Int), .string ⟨#[]⟩, .slice (some ⟨w6.heap.size, 0, none⟩) 1 1] 30))
              have hZ6 := (((hZ.below hb6).alloc (.cells #[.int .i64 t.k, .int .u64 t.n, .string t.s, .slice A6 t.l.length c6] 30)).alloc (.cells #[.int .i64 4, .int .u64 (key : Int), .string ⟨#[]⟩, .slice (some ⟨w6.heap.size, 0, none⟩) 1 1] 30))
              have hBb := (hB6.alloc hB6.size (.cells #[.int .i64 t.k, .int .u64 t.n, .string t.s, .slice A6 t.l.length c6] 30)).alloc (by have := hB6.size; simp at this ⊢; omega) (.cells #[.int .i64 4, .int .u64 (key : Int), .string ⟨#[]⟩, .slice (some ⟨w6.heap.size, 0, none⟩) 1 1] 30)
              have hright := refRight_any (boxT key t) _ _ hbl
              clear hc5 hf5 hcopy
              obtain ⟨hc6, hf6⟩ := bcell hB6
              by_cases hbx : (boxT (key : Int) t).right = 0
              · rw [hbx] at hright
                have HBX := lay hbx
                clear hbx
                go_wp2_with fail
                refine hright.mono ?_
                rintro e w7 ⟨rfl, hb7⟩
                have hB7 := hBb.trans (hb7.mono hBb.size)
                have hkb0 := (Blk.new (w6.alloc (.cells #[.int .i64 t.k, .int .u64 t.n, .string t.s, .slice A6 t.l.length c6] 30)) 30 #[.int .i64 4, .int .u64 (key : Int), .string ⟨#[]⟩, .slice (some ⟨w6.heap.size, 0, none⟩) 1 1]).below hb7 (by simp)
                simp only [World.size_alloc] at hkb0
                have p0 := hkb0.cell 0
                have p1 := hkb0.cell 1
                have p2 := hkb0.cell 2
                have p3 := hkb0.cell 3
                simp at p0 p1 p2 p3
                have hl7 := (hbl.below hb7).now hb7.size
                have hat7 := atoms_S [boxT (key : Int) t] _ _ _ (one_S hl7) (by rw [all_one HBX.out]; have := atoms_few HBX.out; omega) ta (by rw [box_fin key t HBX.out]; exact HTA.out)
                go_wp2_with fail
                refine hat7.mono ?_
                rintro e w8 ⟨A8, c8, rfl, hb8, hT8⟩
                have hB8 := below_call hB7 hb8
                have hX8 := ((hX6.below hb7).alloc (.cells #[.int .i64 4, .int .u64 (key : Int), .string ⟨#[]⟩, .slice (some ⟨w6.heap.size, 0, none⟩) 1 1] 30)).below hb8
                have hZ8 := ((hZ6.below hb7).alloc (.cells #[.int .i64 4, .int .u64 (key : Int), .string ⟨#[]⟩, .slice (some ⟨w6.heap.size, 0, none⟩) 1 1] 30)).below hb8
                have hsame := sameTexts_any _ _ _ _ ta _ hT8 hX8
                clear hat7 hc6 hf6
                go_wp2_with fail
                refine hsame.mono ?_
                rintro e w9 ⟨rfl, hb9⟩
                have hB9 := hB8.trans (hb9.mono hB8.size)
                have hZ9 := hZ8.below hb9
                have hz9 : w.heap.size + 1 < w9.heap.size := by have := hB9.size; simp at this; omega
                have hz9' : w.heap.size < w9.heap.size := by omega
                obtain ⟨hc9, hf9⟩ := bcell hB9
                clear hsame
                have hof := of_any [t, u] _ _ _ _ (two_S ((hL1.below hB9).now hB9.size) ((hM1.below hB9).now hB9.size)) (Nat.le_refl _)
                go_wp2_with fail
                refine hof.mono ?_
                rintro e wa ⟨Aa, ca, rfl, hHa, hba⟩
                have hla := row_lies hHa
                have hBa := below_call hB9 hba
                have hZa := (hZ9.alloc _).below hba
                clear hof hc9 hf9
                go_wp2_with fail
                refine (atom_any ⟨#[111, 119, 110]⟩ _).mono ?_
                rintro e wb ⟨rfl, hbb⟩
                have hBb2 := below_call hBa hbb
                have hZb := (hZa.alloc _).below hbb
                have hlb := ((hla.later (Nat.le_refl _) (.cells #[.int .i64 5, .int .u64 0, .string ⟨#[]⟩, .slice Aa 2 ca] 30)).below hbb).now hbb.size
                have hkb := (Blk.new wa 30 #[.int .i64 5, .int .u64 0, .string ⟨#[]⟩, .slice Aa 2 ca]).below hbb (by simp)
                have hzb : wa.heap.size < wb.heap.size := by have := hbb.size; simp at this; omega
                have hown := atoms_S [ownT] _ _ _ (one_S (lies_bare wb wb.heap.size 2 0 ⟨#[111, 119, 110]⟩ (by omega) (by omega) (by decide))) (by rw [all_one own_right]; decide) [[111, 119, 110]] own_fin
                go_wp2_with fail
                refine hown.mono ?_
                rintro e wc ⟨Ac, cc, rfl, hbc, hTc⟩
                obtain ⟨go, rfl, _⟩ := (txt_cells hTc).2 0 (by simp)
                have hBc := below_call hBb2 hbc
                have hZc2 := (hZb.alloc _).below hbc
                have hlc := ((hlb.later (Nat.le_refl _) (.cells #[.int .i64 2, .int .u64 0, .string ⟨#[111, 119, 110]⟩, .slice none 0 0] 30)).below hbc).now hbc.size
                have hkc := (hkb.alloc (.cells #[.int .i64 2, .int .u64 0, .string ⟨#[111, 119, 110]⟩, .slice none 0 0] 30)).below hbc (by simp; omega)
                have hco := own_cell hTc
                have s0 := hkc.cell 0
                have s1 := hkc.cell 1
                have s2 := hkc.cell 2
                have s3 := hkc.cell 3
                simp at s0 s1 s2 s3
                have hri := refRight_any (rowT [t, u]) _ _ hlc
                clear hown
                by_cases hro : (rowT [t, u]).right = 0
                · rw [hro] at hri
                  have HRO := lay hro
                  clear hro
                  go_wp2_with fail
                  refine hri.mono ?_
                  rintro e wd ⟨rfl, hbd⟩
                  have hkd := hkc.below hbd hkc.lt
                  have r0 := hkd.cell 0
                  have r1 := hkd.cell 1
                  have r2 := hkd.cell 2
                  have r3 := hkd.cell 3
                  simp at r0 r1 r2 r3
                  have hBd := hBc.trans (hbd.mono hBc.size)
                  have hZd := hZc2.below hbd
                  have hTd := hTc.below hbd
                  have hld := (hlc.below hbd).now hbd.size
                  have hat := atoms_S [rowT [t, u]] _ _ _ (one_S hld) (by rw [all_one HRO.out]; have := atoms_few HRO.out; omega) tc (by rw [row_fin t u HRO.out]; exact HTC.out)
                  go_wp2_with fail
                  refine hat.mono ?_
                  rintro e we ⟨Ae, ce, rfl, hbe, hTe⟩
                  have hBe := below_call hBd hbe
                  have hsm := sameTexts_any _ _ _ _ tc _ hTe ((hZd.alloc _).below hbe)
                  have hTe2 := (hTd.alloc _).below hbe
                  clear hat
                  go_wp2_with fail
                  refine hsm.mono ?_
                  rintro e wf ⟨rfl, hbf⟩
                  have hco2 := own_cell (hTe2.below hbf)
                  have hBf := hBe.trans (hbf.mono hBe.size)
                  go_wp2_with fail
                  go_ret
                  exact ⟨rfl, sames.below_two' (Below.refl _ _) hBf⟩
                · have d2 : ((rowT [t, u]).right != 0) = true := by simpa using hro
                  clear hro
                  go_wp2_with fail
                  refine hri.mono ?_
                  rintro e wd ⟨rfl, hbd⟩
                  have hBd := hBc.trans (hbd.mono hBc.size)
                  have hco2 := own_cell (hTc.below hbd)
                  go_wp2_with fail
                  go_ret
                  exact ⟨rfl, sames.below_two' (Below.refl _ _) hBd⟩
              · have d1 : ((boxT (key : Int) t).right == 0) = false := by simpa using hbx
                clear hbx
                go_wp2_with fail
                refine hright.mono ?_
                rintro e w7 ⟨rfl, hb7⟩
                have hB7 := hBb.trans (hb7.mono hBb.size)
                have hz7 : w.heap.size + 1 < w7.heap.size := by have := hB7.size; simp at this; omega
                have hz7' : w.heap.size < w7.heap.size := by omega
                have hZ7 := hZ6.below hb7
                clear hc6 hf6
                obtain ⟨hc7, hf7⟩ := bcell hB7
                have hof := of_any [t, u] _ _ _ _ (two_S ((hL1.below hB7).now hB7.size) ((hM1.below hB7).now hB7.size)) (Nat.le_refl _)
                go_wp2_with fail
                refine hof.mono ?_
                rintro e wa ⟨Aa, ca, rfl, hHa, hba⟩
                have hla := row_lies hHa
                have hBa := below_call hB7 hba
                have hZa := (hZ7.alloc _).below hba
                clear hof hc7 hf7
                go_wp2_with fail
                refine (atom_any ⟨#[111, 119, 110]⟩ _).mono ?_
                rintro e wb ⟨rfl, hbb⟩
                have hBb2 := below_call hBa hbb
                have hZb := (hZa.alloc _).below hbb
                have hlb := ((hla.later (Nat.le_refl _) (.cells #[.int .i64 5, .int .u64 0, .string ⟨#[]⟩, .slice Aa 2 ca] 30)).below hbb).now hbb.size
                have hkb := (Blk.new wa 30 #[.int .i64 5, .int .u64 0, .string ⟨#[]⟩, .slice Aa 2 ca]).below hbb (by simp)
                have hzb : wa.heap.size < wb.heap.size := by have := hbb.size; simp at this; omega
                have hown := atoms_S [ownT] _ _ _ (one_S (lies_bare wb wb.heap.size 2 0 ⟨#[111, 119, 110]⟩ (by omega) (by omega) (by decide))) (by rw [all_one own_right]; decide) [[111, 119, 110]] own_fin
                go_wp2_with fail
                refine hown.mono ?_
                rintro e wc ⟨Ac, cc, rfl, hbc, hTc⟩
                obtain ⟨go, rfl, _⟩ := (txt_cells hTc).2 0 (by simp)
                have hBc := below_call hBb2 hbc
                have hZc2 := (hZb.alloc _).below hbc
                have hlc := ((hlb.later (Nat.le_refl _) (.cells #[.int .i64 2, .int .u64 0, .string ⟨#[111, 119, 110]⟩, .slice none 0 0] 30)).below hbc).now hbc.size
                have hkc := (hkb.alloc (.cells #[.int .i64 2, .int .u64 0, .string ⟨#[111, 119, 110]⟩, .slice none 0 0] 30)).below hbc (by simp; omega)
                have hco := own_cell hTc
                have s0 := hkc.cell 0
                have s1 := hkc.cell 1
                have s2 := hkc.cell 2
                have s3 := hkc.cell 3
                simp at s0 s1 s2 s3
                have hri := refRight_any (rowT [t, u]) _ _ hlc
                clear hown
                by_cases hro : (rowT [t, u]).right = 0
                · rw [hro] at hri
                  have HRO := lay hro
                  clear hro
                  go_wp2_with fail
                  refine hri.mono ?_
                  rintro e wd ⟨rfl, hbd⟩
                  have hkd := hkc.below hbd hkc.lt
                  have r0 := hkd.cell 0
                  have r1 := hkd.cell 1
                  have r2 := hkd.cell 2
                  have r3 := hkd.cell 3
                  simp at r0 r1 r2 r3
                  have hBd := hBc.trans (hbd.mono hBc.size)
                  have hZd := hZc2.below hbd
                  have hTd := hTc.below hbd
                  have hld := (hlc.below hbd).now hbd.size
                  have hat := atoms_S [rowT [t, u]] _ _ _ (one_S hld) (by rw [all_one HRO.out]; have := atoms_few HRO.out; omega) tc (by rw [row_fin t u HRO.out]; exact HTC.out)
                  go_wp2_with fail
                  refine hat.mono ?_
                  rintro e we ⟨Ae, ce, rfl, hbe, hTe⟩
                  have hBe := below_call hBd hbe
                  have hsm := sameTexts_any _ _ _ _ tc _ hTe ((hZd.alloc _).below hbe)
                  have hTe2 := (hTd.alloc _).below hbe
                  clear hat
                  go_wp2_with fail
                  refine hsm.mono ?_
                  rintro e wf ⟨rfl, hbf⟩
                  have hco2 := own_cell (hTe2.below hbf)
                  have hBf := hBe.trans (hbf.mono hBe.size)
                  go_wp2_with fail
                  go_ret
                  exact ⟨rfl, sames.below_two' (Below.refl _ _) hBf⟩
                · have d2 : ((rowT [t, u]).right != 0) = true := by simpa using hro
                  clear hro
                  go_wp2_with fail
                  refine hri.mono ?_
                  rintro e wd ⟨rfl, hbd⟩
                  have hBd := hBc.trans (hbd.mono hBc.size)
                  have hco2 := own_cell (hTc.below hbd)
                  go_wp2_with fail
                  go_ret
                  exact ⟨rfl, sames.below_two' (Below.refl _ _) hBd⟩

theorem law_gathers (t u : T) (x y : Value) (key : Nat) (w : World) (hL : Lies w w.heap.size t x) (hM : Lies w w.heap.size u y) (hk : key < 18446744073709551616) :
    Calls Try.prog 12 #[T.val t x, T.val u y, .int .u64 key] w fun e w' => e = .returned (.bool true) ∧ Below w.heap.size w w' := by
  by_cases hR : t.right = 0
  · by_cases hS : u.right = 0
    · exact gather_ok t u x y key w hL hM hk hR hS
    · exact gather_not t u x y key w hL hM (.inr hS)
  · exact gather_not t u x y key w hL hM (.inl hR)
end Go.Proofs.Ytigebobjjpnnfaa.gathers
