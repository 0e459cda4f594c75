/- ThiefChains: the walk. -/
import Derived.Test.YtjlglfjikfpboaaThW
import Derived.Test.YtjlglfjikfpboaaThV
import Derived.Deep.CutRange


namespace Go.Proofs.Ytjlglfjikfpboaa.thiefs
set_option linter.unusedVariables false
set_option linter.unusedSimpArgs false
open Go.RowKit Go.Shelf Go.Lib Go.Proofs.Ytjlglfjikfpboaa.base Go.Proofs.Ytjlglfjikfpboaa.tm Go.Proofs.Ytjlglfjikfpboaa.lies Go.Proofs.Ytjlglfjikfpboaa.copies Go.Proofs.Ytjlglfjikfpboaa.reads Go.Proofs.Ytjlglfjikfpboaa.texts Go.Proofs.Ytjlglfjikfpboaa.boxes

/-- the pieces of a chain -/
def chainL (L : List Nat) : List ByteArray := L.map fun k => encB (linkT k)
theorem rot_at {n tr j : Nat} (hj : j < n) : (rot n tr)[j]? = some ((j + tr) % n) := by
  unfold rot
  rw [List.getElem?_map, List.getElem?_range hj]; rfl
theorem chainL_next {n tr j : Nat} (ht : tr < n) (hj : j < n) : chainL ((rot n tr).take j) ++ [encB (linkT ((j + tr) % n))] = chainL ((rot n tr).take (j + 1)) := by
  unfold chainL
  rw [List.take_add_one, rot_at hj, List.map_append]; rfl
theorem atomT_word (s : ByteArray) : (atomT s).word := ⟨⟨⟨by decide, by decide⟩, by show 0 < 18446744073709551616; decide⟩, trivial⟩
theorem linkT_word {m : Nat} (h : m < 40) : (linkT m).word := by
  have hk : (keyT (101 + (m : Int))).word := keyT_word (by omega)
  have hr : (linkR m).word := ⟨⟨⟨by decide, by decide⟩, by show 2 < 18446744073709551616; decide⟩, atomT_word _, hk, trivial⟩
  exact ⟨⟨⟨by show (0 : Int) ≤ 100 + m; omega, by show (100 : Int) + m < 18446744073709551616; omega⟩, by show 1 < 18446744073709551616; decide⟩, hr, trivial⟩
theorem pack_link (m : Nat) : packT (100 + (m : Int)) (linkR m) = (encB (linkT m), 0) := by
  have h : sealT (100 + (m : Int)) (linkR m) = (linkT m, 0) := by
    unfold sealT
    rw [if_neg (by rw [linkR_right]; simp), if_neg (by show ¬ (linkT m).right ≠ 0; rw [linkT_right]; simp)]; rfl
  unfold packT
  rw [h, if_pos rfl]; rfl
theorem liesS_two (w : World) {m : Nat} (hm : m < 40) : makes.LiesS (w.alloc (.cells #[.int .i64 2, .int .u64 0, .string (chB m), .slice none 0 0, .int .i64 3, .int .u64 (101 + (m : Int)), .string ⟨#[]⟩, .slice none 0 0] 39)) (w.alloc (.cells #[.int .i64 2, .int .u64 0, .string (chB m), .slice none 0 0, .int .i64 3, .int .u64 (101 + (m : Int)), .string ⟨#[]⟩, .slice none 0 0] 39)).heap.size [atomT (chB m), keyT (101 + (m : Int))] (some ⟨w.heap.size, 0, none⟩) 2 :=
  ⟨_, Nat.le_refl _, by simp, Blk.rd (xs := [.int .i64 2, .int .u64 0, .string (chB m), .slice none 0 0, .int .i64 3, .int .u64 (101 + (m : Int)), .string ⟨#[]⟩, .slice none 0 0]) (t := 39) (Blk.new w 39 _) (by simp), _, _, rfl,
    makes.lies_bare _ _ 2 0 (chB m) (by omega) (by omega) (by show 1 ≤ maxLen; unfold maxLen; decide), .slice none 0 0, [], rfl, makes.lies_bare _ _ 3 (101 + (m : Int)) ⟨#[]⟩ (by omega) (by omega) (Nat.zero_le _), rfl⟩
theorem chainL_len (n tr : Nat) : (chainL (rot n tr)).length = n := by simp [chainL, rot]
theorem chainL_sizes {n tr : Nat} (hn : n ≤ 40) (h : tr < n) : ∀ x ∈ chainL (rot n tr), x.size ≤ maxLen := fun x hx => by
  obtain ⟨k, hk, rfl⟩ := List.mem_map.1 hx
  have := (rot_mem h k).1 hk
  exact encB_size (linkT_right k) (linkT_word (by omega))
theorem chainL_pcs {n tr : Nat} (hn : n ≤ 40) (h : tr < n) : pcs (chainL (rot n tr)) = (rot n tr).map linkT := by
  unfold chainL pcs
  rw [List.map_map]
  exact List.map_congr_left fun k hk => pieces_enc (linkT_right k) (linkT_word (by have := (rot_mem h k).1 hk; omega))
/-- at the head of the loop over the links -/
def CLHead (W : World) (n tr : Nat) (u i : Value) (wr : World) : Prop :=
  ∃ j : Nat, j ≤ n ∧ i = .int .i64 (j : Int) ∧ Hid (Srow wr (chainL ((rot n tr).take j)) u) ∧ Hid (∀ g, u.ownBlock = some g → W.heap.size ≤ g ∧ g < wr.heap.size) ∧ Below W.heap.size W wr

theorem conv_ch (m : Nat) (hm : m < 40) (w : World) : (Go.convert 55 9 (.slice (some ⟨w.heap.size, 0, none⟩) 1 1)).run Try.prog (w.alloc (.cells #[.int .u8 (48 + (m : Int))] 5)) = .ok (.string (chB m)) (w.alloc (.cells #[.int .u8 (48 + (m : Int))] 5)) := by
  have h := refEncs.conv_one w w.heap.size rfl (48 + (m : Int)) (by omega) (by omega)
  rw [h]
  have : (48 + (m : Int)).toNat = 48 + m := by omega
  rw [this]; rfl

theorem conv_ch2 (a b : Nat) (hm : a + b < 40) (w : World) : (Go.convert 55 9 (.slice (some ⟨w.heap.size, 0, none⟩) 1 1)).run Try.prog (w.alloc (.cells #[.int .u8 (48 + (a : Int) + (b : Int))] 5)) = .ok (.string (chB (a + b))) (w.alloc (.cells #[.int .u8 (48 + (a : Int) + (b : Int))] 5)) := by
  have h := conv_ch (a + b) hm w
  rwa [show (48 : Int) + ((a + b : Nat) : Int) = 48 + a + b by omega] at h
theorem chain_at {A : List (List UInt8)} {fr n k : Nat} (h : A = (List.range (n - fr)).map fun i => [UInt8.ofNat (48 + fr + i)]) (hk : k < A.length) : encStr A[k] = .string (chB (fr + k)) := by
  subst h
  simp only [List.getElem_map, List.getElem_range]
  rw [Nat.add_assoc]; rfl

set_option maxRecDepth 100000 in
set_option maxHeartbeats 4000000 in
theorem law_chains (a b c : Int) (w : World) :
    Calls Try.prog 7 #[.int .i64 a, .int .i64 b, .int .i64 c] w fun e w' => e = .returned (.bool true) ∧ Below w.heap.size w w' := by
  go_enter Try.func7, Try.ntmps7
  go_upto_region 1 with (fail)
  go_cut [23] from 18 to 22 (fun x wx => ∃ bb : Bool, x = .bool bb ∧ Hid (bb = false → 1 ≤ a ∧ a ≤ 40) ∧ w = wx)
  case first =>
    by_cases h1 : a < 1
    · have d1 : decide (a < 1) = true := decide_eq_true h1
      clear h1
      go_wp2_with fail
      go_meet
      exact ⟨true, rfl, lies.lay (fun h => by cases h), rfl⟩
    · have d1 : decide (a < 1) = false := decide_eq_false h1
      by_cases h2 : 40 < a
      · have d2 : decide (40 < a) = true := decide_eq_true h2
        clear h1 h2
        go_wp2_with fail
        go_meet
        exact ⟨true, rfl, lies.lay (fun h => by cases h), rfl⟩
      · have d2 : decide (40 < a) = false := decide_eq_false h2
        have HB := lies.lay (And.intro h1 h2)
        clear h1 h2
        go_wp2_with fail
        go_meet
        exact ⟨false, rfl, lies.lay (fun _ => by have := HB.out; omega), rfl⟩
  case rest =>
  obtain ⟨bb, rfl, HB, rfl⟩ := hcut
  go_upto_if 23 with (fail)
  go_cut [0] from 18 to 23 (fun x wx => ∃ m : Nat, (1 ≤ m ∧ m ≤ 40) ∧ x = .int .i64 (m : Int) ∧ w = wx)
  case first =>
    cases bb with
    | true =>
      go_wp2_with fail
      go_meet
      exact ⟨7, by omega, rfl, rfl⟩
    | false =>
      obtain ⟨m, rfl⟩ := Int.eq_ofNat_of_zero_le (show 0 ≤ a by have := HB.out rfl; omega)
      go_wp2_with fail
      go_meet
      exact ⟨m, by have := HB.out (by trivial); omega, rfl, rfl⟩
  case rest =>
  clear HB
  obtain ⟨n, hn, rfl, rfl⟩ := hcut
  go_upto_region 3 with (fail)
  go_cut [30] from 24 to 29 (fun x wx => ∃ bb : Bool, x = .bool bb ∧ Hid (bb = false → 0 ≤ b ∧ b < n) ∧ w = wx)
  case first =>
    by_cases h1 : b < 0
    · have d1 : decide (b < 0) = true := decide_eq_true h1
      clear h1
      go_wp2_with fail
      go_meet
      exact ⟨true, rfl, lies.lay (fun h => by cases h), rfl⟩
    · have d1 : decide (b < 0) = false := decide_eq_false h1
      by_cases h2 : (n : Int) ≤ b
      · have d2 : decide ((n : Int) ≤ b) = true := decide_eq_true h2
        clear h1 h2
        go_wp2_with fail
        go_meet
        exact ⟨true, rfl, lies.lay (fun h => by cases h), rfl⟩
      · have d2 : decide ((n : Int) ≤ b) = false := decide_eq_false h2
        have HB := lies.lay (And.intro h1 h2)
        clear h1 h2
        go_wp2_with fail
        go_meet
        exact ⟨false, rfl, lies.lay (fun _ => by have := HB.out; omega), rfl⟩
  case rest =>
  obtain ⟨bb, rfl, HB, rfl⟩ := hcut
  go_upto_if 30 with (fail)
  go_cut [1] from 24 to 30 (fun x wx => ∃ m : Nat, (m < n) ∧ x = .int .i64 (m : Int) ∧ w = wx)
  case first =>
    cases bb with
    | true =>
      go_wp2_with fail
      go_meet
      exact ⟨0, by omega, rfl, rfl⟩
    | false =>
      obtain ⟨m, rfl⟩ := Int.eq_ofNat_of_zero_le (show 0 ≤ b by have := HB.out rfl; omega)
      go_wp2_with fail
      go_meet
      exact ⟨m, by have := HB.out (by trivial); omega, rfl, rfl⟩
  case rest =>
  clear HB
  obtain ⟨tr, ht, rfl, rfl⟩ := hcut
  go_upto_region 5 with (fail)
  go_cut [37] from 31 to 36 (fun x wx => ∃ bb : Bool, x = .bool bb ∧ Hid (bb = false → 0 ≤ c ∧ c < n) ∧ w = wx)
  case first =>
    by_cases h1 : c < 0
    · have d1 : decide (c < 0) = true := decide_eq_true h1
      clear h1
      go_wp2_with fail
      go_meet
      exact ⟨true, rfl, lies.lay (fun h => by cases h), rfl⟩
    · have d1 : decide (c < 0) = false := decide_eq_false h1
      by_cases h2 : (n : Int) ≤ c
      · have d2 : decide ((n : Int) ≤ c) = true := decide_eq_true h2
        clear h1 h2
        go_wp2_with fail
        go_meet
        exact ⟨true, rfl, lies.lay (fun h => by cases h), rfl⟩
      · have d2 : decide ((n : Int) ≤ c) = false := decide_eq_false h2
        have HB := lies.lay (And.intro h1 h2)
        clear h1 h2
        go_wp2_with fail
        go_meet
        exact ⟨false, rfl, lies.lay (fun _ => by have := HB.out; omega), rfl⟩
  case rest =>
  obtain ⟨bb, rfl, HB, rfl⟩ := hcut
  go_upto_if 37 with (fail)
  go_cut [2] from 31 to 37 (fun x wx => ∃ m : Nat, (m < n) ∧ x = .int .i64 (m : Int) ∧ w = wx)
  case first =>
    cases bb with
    | true =>
      go_wp2_with fail
      go_meet
      exact ⟨0, by omega, rfl, rfl⟩
    | false =>
      obtain ⟨m, rfl⟩ := Int.eq_ofNat_of_zero_le (show 0 ≤ c by have := HB.out rfl; omega)
      go_wp2_with fail
      go_meet
      exact ⟨m, by have := HB.out (by trivial); omega, rfl, rfl⟩
  case rest =>
  clear HB
  obtain ⟨fr, hf, rfl, rfl⟩ := hcut
  go_wp2_with fail
  go_loopw [7, 39] (fun u i wr => CLHead w n tr u i wr) (fun _ i _ => n - (intOf i).toNat)
  case atStart => exact ⟨0, Nat.zero_le _, rfl, lies.lay ⟨rfl, .inl ⟨rfl, rfl⟩⟩, lies.lay (fun g hg => by cases hg), Below.refl _ _⟩
  case round =>
    obtain ⟨j, hj, rfl, HS, HO, hbw⟩ := hrel
    by_cases hlt : j < n
    · have hm0 : (j + tr) % n < n := Nat.mod_lt _ (by omega)
      have em : ((j : Int) + (tr : Int)) % (n : Int) = (((j + tr) % n : Nat) : Int) := by rw [Int.natCast_emod, Int.natCast_add]
      have HN := lies.lay (chainL_next ht hlt)
      generalize (j + tr) % n = m at *
      have e1 : wrap64 (48 + (m : Int)) = 48 + m := IntWalk.wrap64_in _ (by omega)
      have e2 : (48 + (m : Int)) % 256 = 48 + m := by omega
      have hcv := conv_ch m (by omega)
      have hsz : (chB m).size ≤ maxLen := by show 1 ≤ maxLen; unfold maxLen; decide
      have e5 : (100 + (m : Int)) % 18446744073709551616 = 100 + m := by omega
      have e6 : (101 + (m : Int)) % 18446744073709551616 = 101 + m := by omega
      have bA := (Below.refl wr.heap.size wr).alloc (Nat.le_refl _) (.cells #[.int .u8 (48 + (m : Int))] 5)
      go_wp2_with fail
      refine (makes.atom_any (chB m) _).mono ?_
      rintro e w4 ⟨rfl, hb4⟩
      have b4 := bA.trans (hb4.mono bA.size)
      go_wp2_with fail
      refine (makes.key_any _ _).mono ?_
      rintro e w5 ⟨rfl, hb5⟩
      have b5 := b4.trans (hb5.mono b4.size)
      have hLS := liesS_two w5 (show m < 40 by omega)
      have b6 := b5.alloc b5.size (.cells #[.int .i64 2, .int .u64 0, .string (chB m), .slice none 0 0, .int .i64 3, .int .u64 (101 + (m : Int)), .string ⟨#[]⟩, .slice none 0 0] 39)
      go_wp2_with fail
      refine (makes.of_any [atomT (chB m), keyT (101 + (m : Int))] _ _ _ _ hLS (Nat.le_refl _)).mono ?_
      rintro e w6 ⟨A6, c6, rfl, hH6, hb6⟩
      have b7 := b6.trans (hb6.mono b6.size)
      have hL6 : Lies w6 w6.heap.size (linkR m) (.slice A6 2 c6) := Held.lies (t := linkR m) hH6 (by show (-9223372036854775808 : Int) ≤ 5 ∧ (5 : Int) ≤ 9223372036854775807; omega) (by show (0 : Int) ≤ 0 ∧ (0 : Int) < 18446744073709551616; omega) (Nat.zero_le _) (Nat.le_refl _)
      have hpk := pack_any (100 + (m : Int)) (linkR m) _ w6 (by omega) hL6
      rw [pack_link] at hpk
      have hes := encB_size (linkT_right m) (linkT_word (show m < 40 by omega))
      generalize encB (linkT m) = eb at *
      clear hH6 hL6 hLS hcv
      go_wp2_with fail
      refine hpk.mono ?_
      rintro e w7 ⟨rfl, hb7⟩
      have hb45 := b7.trans (hb7.mono b7.size)
      have ho5 := row_below (row_below HS.out hb45) ((Below.refl w7.heap.size w7).alloc (Nat.le_refl _) (.cells #[.string eb] 9))
      have hcl : (chainL ((rot n tr).take j)).length = j := by simp [chainL, rot]; omega
      go_wp2_with (at_builtin; refine wp_texts rfl _ _ rfl (lm := chainL ((rot n tr).take (j + 1))) HN.out ho5 rfl (ts_new w7 eb hes) rfl (by rw [hcl]; simp; omega) ?_; intro v8 w8 ho8 hk8 hat8)
      have hz45 := hb45.size
      have hbz := hbw.size
      have hz8 := hk8.size
      simp only [World.size_alloc] at hz8
      have b8 : Below w.heap.size w w8 := (hbw.trans (hb45.mono hbz)).trans ((((Below.refl w7.heap.size w7).alloc (Nat.le_refl _) (.cells #[.string eb] 9)).mono (by omega)).trans (hk8.below (fun g hg => (HO.out g hg).1) (by simp; omega)))
      refine ⟨⟨j + 1, hlt, by go_num, lies.lay ho8, lies.lay (fun g hg => ?_), b8⟩, by simp [intOf]; omega⟩
      rcases hat8 g hg with h | h
      · have := HO.out g h; omega
      · simp only [World.size_alloc] at h; omega
    · obtain rfl : j = n := by omega
      rw [show (rot j tr).take j = rot j tr from List.take_of_length_le (by simp [rot])] at HS
      have hpl := chainL_len j tr
      obtain ⟨A9, c9, rfl, hTP⟩ := srow_ts HS.out (by rw [hpl]; omega) (chainL_sizes hn.2 ht)
      have hpc := chainL_pcs hn.2 ht
      have hsP := chainL_sizes hn.2 ht
      have hks := encB_size (keyT_right (100 + (fr : Int))) (keyT_word (k := 100 + (fr : Int)) (by omega))
      have henc := fun W => enc_key (k := 100 + (fr : Int)) (by omega) W
      have hpk : pieceT (encB (keyT (100 + (fr : Int)))) = keyT (100 + (fr : Int)) := pieces_enc (keyT_right _) (keyT_word (by omega))
      generalize encB (keyT (100 + (fr : Int))) = kb at *
      generalize chainL (rot j tr) = PL at *
      obtain ⟨PW, hPW⟩ : ∃ L, PL ++ [kb] = L := ⟨_, rfl⟩
      have hWl : PW.length = j + 1 := by rw [← hPW, List.length_append, hpl]; rfl
      have hWs : ∀ x ∈ PW, x.size ≤ maxLen := by
        rw [← hPW]
        exact mem_app hsP (fun x hx => by rw [List.mem_singleton.1 hx]; exact hks)
      have hWp : pcs PW = (rot j tr).map linkT ++ [keyT (100 + (fr : Int))] := by
        rw [← hPW, pcs_app, hpc]
        congr 1
        show [pieceT kb] = _
        rw [hpk]
      have HPW := lies.lay hPW
      have HPL := lies.lay (And.intro hpl hWl)
      have HWP := lies.lay hWp
      have HPC := lies.lay hpc
      clear hPW hWp hpc hpk hpl hWl
      have e2 : (100 + (fr : Int)) % 18446744073709551616 = 100 + fr := by omega
      have hnil : List.length ([] : List (List UInt8)) = 0 := rfl
      go_wp2_with fail
      refine (makes.key_any _ _).mono ?_
      rintro e w1 ⟨rfl, hb1⟩
      go_wp2_with fail
      refine (henc _).mono ?_
      rintro e w2 ⟨rfl, hb2⟩
      have b2 : Below wr.heap.size wr w2 := hb1.trans (hb2.mono hb1.size)
      clear henc
      go_wp2_with fail
      refine (atoms_ok PL A9 c9 _ (hTP.now b2) (by have := HPL.out.1; omega)).mono ?_
      rintro e w3 ⟨K3, A3, m3, v3, rfl, lo3, ⟨tx3, up3⟩, cn3, hb3⟩
      rw [HPC.out] at lo3
      obtain rfl : A3 = [] := (chain_none ht lo3).1
      obtain ⟨q1, q2, rfl, _, _⟩ := tx3
      have b3 := b2.trans (hb3.mono b2.size)
      clear lo3 up3 cn3
      simp only [List.length_nil]
      go_wp2_with fail
      refine (shut_ok PL A9 c9 _ (hTP.now b3) (by have := HPL.out.1; omega)).mono ?_
      rintro e w4 ⟨K4, A4, m4, rfl, cn4, lo4, hb4⟩
      rw [HPC.out] at lo4
      obtain rfl : m4 = j := (chain_none ht lo4).2
      have b4 := b3.trans (hb4.mono b3.size)
      clear lo4 cn4
      have bE := (Below.refl w4.heap.size w4).alloc (Nat.le_refl _) (.cells #[] 9)
      go_wp2_with (first
        | (at_builtin; refine wp_texts rfl _ _ rfl (lm := PW) HPW.out ho11 rfl (ts_new w11 kb hks) rfl (by rw [HPL.out.1]; simp; omega) ?_; intro v12 w12 ho12 hk12 hat12; obtain ⟨A12, c12, rfl, hT12⟩ := srow_ts ho12 (by have := HPL.out.2; omega) hWs; have b12 : Below w4.heap.size w4 w12 := (b11.alloc b11.size _).trans (hk12.below (fun g hg => by rcases hat11 g hg with h | h; (cases h; exact Nat.le_refl _); have := h.1; simp at this; omega) (by have := b11.size; simp; omega)))
        | (at_builtin; refine wp_texts rfl _ _ rfl (lm := PL) rfl (srow_new w4) rfl ((hTP.now b4).now bE) rfl (by have := HPL.out.1; simp only [List.length_nil]; omega) ?_; intro v11 w11 ho11a hk11 hat11; have b11 : Below w4.heap.size w4 w11 := bE.trans (hk11.below (fun g hg => by cases hg; exact Nat.le_refl _) bE.size); have ho11 := row_below ho11a ((Below.refl w11.heap.size w11).alloc (Nat.le_refl _) (.cells #[.string kb] 9))))
      go_wp2_with fail
      refine (atoms_ok PW A12 c12 _ (hT12.now (Below.refl _ _)) (by have := HPL.out.2; omega)).mono ?_
      rintro e w5 ⟨K5, A5, m5, v5, rfl, lo5, ⟨tx5, up5⟩, cn5, hb5⟩
      rw [HWP.out] at lo5
      have hA5 := chain_atoms ht hf hn.2 lo5 up5
      have hl5 : A5.length = m4 - fr := by rw [hA5]; simp
      have hat5 := lies.lay (fun (k : Nat) (h : k < A5.length) => chain_at hA5 h)
      obtain ⟨q3, q4, rfl, hq5, hc5⟩ := tx5
      have hli : (A5.length : Int) = (m4 : Int) - (fr : Int) := by omega
      have HL5 := lies.lay hl5
      have HC5 := lies.lay hc5
      clear lo5 up5 cn5 hA5 hl5 hc5
      go_wp2_with fail
      refine (shut_ok PW A12 c12 _ (hT12.now hb5) (by have := HPL.out.2; omega)).mono ?_
      rintro e w6 ⟨K6, A6, m6, rfl, cn6, lo6, hb6⟩
      rw [HWP.out] at lo6
      obtain rfl : m6 = fr := (chain_from ht hf lo6).2.2
      have b6 := hb5.trans (hb6.mono hb5.size)
      clear lo6 cn6
      go_wp2_with fail
      refine (keys_ok PW A12 c12 _ (hT12.now b6) (by have := HPL.out.2; omega)).mono ?_
      rintro e w7 ⟨K7, A7, m7, v7, rfl, lo7, ⟨ky7, up7⟩, cn7, hb7⟩
      rw [HWP.out] at lo7
      have hk7 := chain_keys ht hf lo7 up7
      have hki : (K7.length : Int) = (m4 : Int) - (m6 : Int) + 1 := by omega
      obtain ⟨q5, q6, rfl, _, _, _⟩ := ky7
      have b7 := b6.trans (hb7.mono b6.size)
      clear lo7 up7 cn7 hk7
      have hA7 : Below w.heap.size w w7 := ((hbw.trans (b4.mono hbw.size)).trans (b12.mono (by have := hbw.size; have := b4.size; omega))).trans (b7.mono (by have := hbw.size; have := b4.size; have := b12.size; omega))
      go_wp2_with fail
      trace_state
      go_loopw [127] (fun i wx => ∃ k : Nat, k ≤ A5.length ∧ i = .int .i64 (k : Int) ∧ Below w7.heap.size w7 wx) (fun i _ => A5.length - (intOf i).toNat)
      case atStart => exact ⟨0, Nat.zero_le _, rfl, Below.refl _ _⟩
      case round =>
        obtain ⟨k, hk, rfl, hbx⟩ := hrel
        by_cases hlt : k < A5.length
        · obtain ⟨g, rfl, _, hg, hcell⟩ := HC5.out k hlt
          have b67 := (hb6.trans (hb7.mono hb6.size)).trans (hbx.mono (by have := hb6.size; have := hb7.size; omega))
          have hc0 := (b67.cell (p := ⟨g, k, none⟩) (by show g < w5.heap.size; exact hg)).trans hcell
          rw [hat5.out k hlt] at hc0
          have hg7 : g < wr.heap.size := by have := b67.size; omega
          have hcv := conv_ch2 m6 k (by have := HL5.out; omega)
          have e9 : ((48 : Int) + (m6 : Int) + (k : Int)) % 256 = 48 + m6 + k := by have := HL5.out; omega
          clear hcell
          generalize chB (m6 + k) = cb at *
          go_wp2_with fail
          exact ⟨⟨k + 1, hlt, by go_num, hbx.alloc hbx.size _⟩, by simp [intOf]; omega⟩
        · obtain rfl : k = A5.length := by omega
          go_wp2_with fail
          go_ret
          exact ⟨by first | rfl | simp, hA7.trans (hbx.mono hA7.size)⟩

end Go.Proofs.Ytjlglfjikfpboaa.thiefs
