/- A cell's Slots, and the document's cell. -/
import Derived.Test.YtnndohdiiglgmaaCeC
import Derived.Laws.AppendOwn


namespace Go.Proofs.Ytnndohdiiglgmaa.cells
set_option linter.unusedVariables false
set_option linter.unusedSimpArgs false
open Go.RowKit Go.Proofs.Ytnndohdiiglgmaa.base Go.Proofs.Ytnndohdiiglgmaa.powers Go.Lib

section
variable {w : World} {p g : Nat} {c : CS} {L W : Int}
theorem cases_slot (sl : Int) : sl = 0 ∨ sl = 1 ∨ ¬ (sl = 0 ∨ sl = 1) := by omega
theorem set_any (h : Ce w p g c) (hp : Blk w p 144 (PC L W)) (hI : In L) (sl : Int) (b : ByteArray) :
    Calls Try.prog 36 #[.pointer (some ⟨g, 0, none⟩), .int .i64 sl, .string b] w (WPost p g c L W (setF c sl b) sl.toNat b w) := by
  rcases cases_slot sl with rfl | rfl | hs
  · exact set0 h hp hI b
  · exact set1 h hp hI b
  · exact set_no h hp sl b hs
theorem erase_any (h : Ce w p g c) (hp : Blk w p 144 (PC L W)) (hI : In L) (sl : Int) :
    Calls Try.prog 34 #[.pointer (some ⟨g, 0, none⟩), .int .i64 sl] w (WPost p g c L W (eraF c sl) sl.toNat ⟨#[]⟩ w) := by
  rcases cases_slot sl with rfl | rfl | hs
  · exact erase0 h hp hI
  · exact erase1 h hp hI
  · exact erase_no h hp sl hs
theorem get_any (h : Ce w p g c) (sl : Int) :
    Calls Try.prog 37 #[.pointer (some ⟨g, 0, none⟩), .int .i64 sl] w fun e w' => e = .returned (.tuple #[.string (getV c sl), .bool (getB c sl)]) ∧ St none_ w w' := by
  rcases cases_slot sl with rfl | rfl | hs
  · exact get0 h
  · exact get1 h
  · exact (get_no sl hs).mono fun e w' ⟨h1, h2⟩ => ⟨h1, h2 ▸ St.refl _ _⟩
theorem slN_no {c : CS} {j : Nat} (h : (c.at_ j).size = 0) : slN c (j + 1) = slN c j := by rw [slN, if_pos h, List.append_nil]
theorem slN_yes {c : CS} {j : Nat} (h : ¬ (c.at_ j).size = 0) : slN c (j + 1) = slN c j ++ [(j : Int)] := by rw [slN, if_neg h]
end
/-- the document's cell in block d over its power in block q -/
def Dc (w : World) (q d : Nat) (c : CS) : Prop := Blk w d 149 #[.pointer (some ⟨q, 0, none⟩), .string c.s0, .string c.s1, .int .i64 c.D] ∧ d ≠ q
/-- what a raw write of the document's leaves -/
def DPost (q d : Nat) (c : CS) (M V f : Int) (k : Nat) (b : ByteArray) (w : World) (e : Ending) (w' : World) : Prop :=
  e = .returned (.int .i64 (ansF f M)) ∧ Dc w' q d (cellF c f M k b) ∧ Blk w' q 146 (DC (bL (lF f M)) (aL (lF f M)) (wF f M V)) ∧ St (two q d) w w'
section
variable {w : World} {q d : Nat} {c : CS} {M V : Int}
theorem Dc.keep {w' : World} {S : Nat → Prop} (h : Dc w q d c) (hb : St S w w') (hd : ¬ S d) : Dc w' q d c := ⟨hb.blk h.1 hd, h.2⟩
theorem Dc.lt (h : Dc w q d c) : d < w.heap.size := h.1.lt
theorem Dc.below {w' : World} (h : Dc w q d c) {B : Nat} (hb : Below B w w') (hd : d < B) : Dc w' q d c := ⟨h.1.below hb hd, h.2⟩
theorem DPost.no (h : Dc w q d c) (hp : Blk w q 146 (DC (bL M) (aL M) V)) {f : Int} (hf : f ≠ 0) (k : Nat) (b : ByteArray) : DPost q d c M V f k b w (.returned (.int .i64 f)) w := by
  unfold DPost ansF cellF lF wF
  rw [if_neg hf, if_neg (fun h => hf h.1), if_neg hf, if_neg hf]
  exact ⟨rfl, h, hp, St.refl _ _⟩
theorem DPost.yes {e : Ending} {w' : World} {k : Nat} {b : ByteArray} (h : e = .returned (.int .i64 (eSp M)) ∧ Blk w' q 146 (DC (bL (spL M)) (aL (spL M)) (wSp M V)) ∧ Dc w' q d (if M = 0 then c else c.put k b) ∧ St (two q d) w w') : DPost q d c M V 0 k b w e w' := by
  obtain ⟨h1, h2, h3, h4⟩ := h
  unfold DPost ansF cellF lF wF
  rw [if_pos rfl, if_pos rfl, if_pos rfl]
  refine ⟨h1, ?_, h2, h4⟩
  by_cases hL : M = 0
  · rw [if_neg (fun h => h.2 hL)]
    rwa [if_pos hL] at h3
  · rw [if_pos ⟨rfl, hL⟩]
    rwa [if_neg hL] at h3
theorem isEmpty_no {s : ByteArray} (h : ¬ s.size = 0) : s.toList.isEmpty = false := by
  rw [ByteArray.toList_eq]
  cases hl : s.data.toList with
  | nil => exact absurd (by rw [size_eq, hl]; rfl) h
  | cons a l => rfl
/-- a text against none, in all spellings of the walk -/
theorem some_ne {s : ByteArray} (h : ¬ s.size = 0) : ¬ s = ⟨#[]⟩ := fun e => h (by rw [e]; rfl)

set_option maxRecDepth 100000 in
set_option maxHeartbeats 4000000 in
theorem slots_ok {p g : Nat} (h : Ce w p g c) : Calls Try.prog 35 #[.pointer (some ⟨g, 0, none⟩)] w (LiPost (slN c 2) w) := by
  obtain ⟨i0, hi0, hz0, hz1, hz2⟩ := @info_parts _ _ _ _ _ infoInt
  have lg := h.lt
  have HC := powers.lay h
  have ho0 : w.ownsRow w.heap.size 3 1 (.slice none 0 0) 0 [] := ⟨rfl, .inl ⟨rfl, rfl⟩⟩
  clear h
  go_enter Try.func35, Try.ntmps35
  go_wp2_with fail
  go_loopw [3, 5] (fun x i wr => ∃ j : Nat, i = .int .i64 (j : Int) ∧ j ≤ 2 ∧ Hid (wr.ownsRow w.heap.size 3 1 x (slN c j).length ((slN c j).map (Value.int .i64))) ∧ Below w.heap.size w wr) (fun _ i _ => 2 - (RowKit.intOf i).toNat)
  case atStart => exact ⟨0, rfl, by omega, powers.lay ho0, Below.refl _ _⟩
  case round =>
    clear ho0
    obtain ⟨j, rfl, hj, HO, hb⟩ := hrel
    have hsz := hb.size
    rcases (show j = 0 ∨ j = 1 ∨ j = 2 by omega) with rfl | rfl | rfl
    · have hi := isSet0 (HC.out.below hb lg)
      by_cases h0 : c.s0.size = 0
      · have hS := slN_no (j := 0) (show (c.at_ 0).size = 0 from h0)
        have HS := powers.lay hS
        rw [decide_eq_false (fun h => h h0)] at hi
        clear h0 hS
        go_wp2_with (go_at_call 73; refine hi.mono ?_; rintro e w' ⟨rfl, rfl⟩)
        go_roundw
        case rel => exact ⟨1, by go_num, by omega, powers.lay (by rw [HS.out]; exact HO.out), hb⟩
        case measure => simp [RowKit.intOf]
      · have hS := slN_yes (j := 0) (show ¬ (c.at_ 0).size = 0 from h0)
        have HS := powers.lay hS
        rw [decide_eq_true h0] at hi
        clear h0 hS
        have e1 : ∀ j u, [Value.int .i64 0][j]? = some u → (wr.alloc (.cells #[.int .i64 0] 3)).cell? ((⟨wr.heap.size, 0, none⟩ : Addr).add j) = some u := fun j u hj => by
          match j, hj with
          | 0, hj => simp at hj; subst hj; simp [Addr.add]
        have E1 := powers.lay e1
        have E2 := powers.lay (show ∀ u ∈ [Value.int .i64 0], u.oneCell' = true from fun u hu => by simp at hu; subst hu; rfl)
        have hlen := slN_len c 0
        have E3 : (slN c 0).length + 1 ≤ maxLen := by unfold maxLen; omega
        have E5 : w.heap.size ≤ (wr.alloc (.cells #[.int .i64 0] 3)).heap.size := by simp; omega
        clear e1
        go_wp2_with (first | (go_at_call 73; refine hi.mono ?_; rintro e wr ⟨rfl, rfl⟩) | (at_builtin; refine wpList_append_own _ rfl (.tmp 11) (.tmp 13) _ rfl w.heap.size 3 i0 _ 1 8 Try.underlying34 hi0 hz0 hz1 hz2 rfl (by decide) _ (slN c 0).length ((slN c 0).map (Value.int .i64)) rfl (HO.out.alloc _) ⟨wr.heap.size, 0, none⟩ 1 1 [.int .i64 0] rfl rfl E1.out E2.out E3 (by omega) E5 ?_))
        intro v' w3 hown3 hg3 _
        have hb3 : Below w.heap.size w w3 := (hb.alloc hb.size _).grown hg3 (by simp; omega) (fun b hb' => (HO.out.lt b hb').1)
        have HO3 : Hid (w3.ownsRow w.heap.size 3 1 v' (slN c 1).length ((slN c 1).map (Value.int .i64))) := powers.lay (by rw [HS.out, List.length_append, List.map_append]; exact hown3)
        clear hown3 hg3 HO hb
        go_wp2_with fail
        go_roundw
        case rel => exact ⟨1, by go_num, by omega, HO3, hb3⟩
        case measure => simp [RowKit.intOf]
    · have hi := isSet1 (HC.out.below hb lg)
      by_cases h0 : c.s1.size = 0
      · have hS := slN_no (j := 1) (show (c.at_ 1).size = 0 from h0)
        have HS := powers.lay hS
        rw [decide_eq_false (fun h => h h0)] at hi
        clear h0 hS
        go_wp2_with (go_at_call 73; refine hi.mono ?_; rintro e w' ⟨rfl, rfl⟩)
        go_roundw
        case rel => exact ⟨2, by go_num, by omega, powers.lay (by rw [HS.out]; exact HO.out), hb⟩
        case measure => simp [RowKit.intOf]
      · have hS := slN_yes (j := 1) (show ¬ (c.at_ 1).size = 0 from h0)
        have HS := powers.lay hS
        rw [decide_eq_true h0] at hi
        clear h0 hS
        have e1 : ∀ j u, [Value.int .i64 1][j]? = some u → (wr.alloc (.cells #[.int .i64 1] 3)).cell? ((⟨wr.heap.size, 0, none⟩ : Addr).add j) = some u := fun j u hj => by
          match j, hj with
          | 0, hj => simp at hj; subst hj; simp [Addr.add]
        have E1 := powers.lay e1
        have E2 := powers.lay (show ∀ u ∈ [Value.int .i64 1], u.oneCell' = true from fun u hu => by simp at hu; subst hu; rfl)
        have hlen := slN_len c 1
        have E3 : (slN c 1).length + 1 ≤ maxLen := by unfold maxLen; omega
        have E5 : w.heap.size ≤ (wr.alloc (.cells #[.int .i64 1] 3)).heap.size := by simp; omega
        clear e1
        go_wp2_with (first | (go_at_call 73; refine hi.mono ?_; rintro e wr ⟨rfl, rfl⟩) | (at_builtin; refine wpList_append_own _ rfl (.tmp 11) (.tmp 13) _ rfl w.heap.size 3 i0 _ 1 8 Try.underlying34 hi0 hz0 hz1 hz2 rfl (by decide) _ (slN c 1).length ((slN c 1).map (Value.int .i64)) rfl (HO.out.alloc _) ⟨wr.heap.size, 0, none⟩ 1 1 [.int .i64 1] rfl rfl E1.out E2.out E3 (by omega) E5 ?_))
        intro v' w3 hown3 hg3 _
        have hb3 : Below w.heap.size w w3 := (hb.alloc hb.size _).grown hg3 (by simp; omega) (fun b hb' => (HO.out.lt b hb').1)
        have HO3 : Hid (w3.ownsRow w.heap.size 3 1 v' (slN c 2).length ((slN c 2).map (Value.int .i64))) := powers.lay (by rw [HS.out, List.length_append, List.map_append]; exact hown3)
        clear hown3 hg3 HO hb
        go_wp2_with fail
        go_roundw
        case rel => exact ⟨2, by go_num, by omega, HO3, hb3⟩
        case measure => simp [RowKit.intOf]
    · go_wp2_with fail
      go_ret
      exact ⟨_, rfl, HO.out, hb⟩

set_option maxRecDepth 100000 in
set_option maxHeartbeats 4000000 in
theorem refSlots_ok (h : Dc w q d c) : Calls Try.prog 69 #[.pointer (some ⟨d, 0, none⟩)] w (LiPost (slN c 2) w) := by
  obtain ⟨i0, hi0, hz0, hz1, hz2⟩ := @info_parts _ _ _ _ _ infoInt
  have lg := h.lt
  have HC := powers.lay h
  have ho0 : w.ownsRow w.heap.size 3 1 (.slice none 0 0) 0 [] := ⟨rfl, .inl ⟨rfl, rfl⟩⟩
  clear h
  go_enter Try.func69, Try.ntmps69
  go_wp2_with fail
  go_loopw [3, 4] (fun x i wr => ∃ j : Nat, i = .int .i64 (j : Int) ∧ j ≤ 2 ∧ Hid (wr.ownsRow w.heap.size 3 1 x (slN c j).length ((slN c j).map (Value.int .i64))) ∧ Below w.heap.size w wr) (fun _ i _ => 2 - (RowKit.intOf i).toNat)
  case atStart => exact ⟨0, rfl, by omega, powers.lay ho0, Below.refl _ _⟩
  case round =>
    clear ho0
    obtain ⟨j, rfl, hj, HO, hb⟩ := hrel
    have hsz := hb.size
    rcases (show j = 0 ∨ j = 1 ∨ j = 2 by omega) with rfl | rfl | rfl
    · have kd := HC.out.1.below hb lg
      have x0 := kd.cell 1
      simp only [List.getElem?_toArray, List.getElem?_cons_zero, List.getElem?_cons_succ] at x0
      clear kd
      by_cases h0 : c.s0.size = 0
      · have hS := slN_no (j := 0) (show (c.at_ 0).size = 0 from h0)
        have HS := powers.lay hS
        rw [empty_of h0] at x0
        clear h0 hS
        go_wp2_with fail
        go_roundw
        case rel => exact ⟨1, by go_num, by omega, powers.lay (by rw [HS.out]; exact HO.out), hb⟩
        case measure => simp [RowKit.intOf]
      · have hS := slN_yes (j := 0) (show ¬ (c.at_ 0).size = 0 from h0)
        have HS := powers.lay hS
        have n0 := some_ne h0
        have n1 := isEmpty_no h0
        have n3 : decide (c.s0 = (⟨#[]⟩ : ByteArray)) = false := decide_eq_false n0
        have n4 : decide (c.s0 ≠ (⟨#[]⟩ : ByteArray)) = true := decide_eq_true n0
        clear h0 hS n0
        have e1 : ∀ j u, [Value.int .i64 0][j]? = some u → (wr.alloc (.cells #[.int .i64 0] 3)).cell? ((⟨wr.heap.size, 0, none⟩ : Addr).add j) = some u := fun j u hj => by
          match j, hj with
          | 0, hj => simp at hj; subst hj; simp [Addr.add]
        have E1 := powers.lay e1
        have E2 := powers.lay (show ∀ u ∈ [Value.int .i64 0], u.oneCell' = true from fun u hu => by simp at hu; subst hu; rfl)
        have hlen := slN_len c 0
        have E3 : (slN c 0).length + 1 ≤ maxLen := by unfold maxLen; omega
        have E5 : w.heap.size ≤ (wr.alloc (.cells #[.int .i64 0] 3)).heap.size := by simp; omega
        clear e1
        go_wp2_with (at_builtin; refine wpList_append_own _ rfl (.tmp 16) (.tmp 18) _ rfl w.heap.size 3 i0 _ 1 8 Try.underlying34 hi0 hz0 hz1 hz2 rfl (by decide) _ (slN c 0).length ((slN c 0).map (Value.int .i64)) rfl (HO.out.alloc _) ⟨wr.heap.size, 0, none⟩ 1 1 [.int .i64 0] rfl rfl E1.out E2.out E3 (by omega) E5 ?_)
        intro v' w3 hown3 hg3 _
        have hb3 : Below w.heap.size w w3 := (hb.alloc hb.size _).grown hg3 (by simp; omega) (fun b hb' => (HO.out.lt b hb').1)
        have HO3 : Hid (w3.ownsRow w.heap.size 3 1 v' (slN c 1).length ((slN c 1).map (Value.int .i64))) := powers.lay (by rw [HS.out, List.length_append, List.map_append]; exact hown3)
        clear hown3 hg3 HO hb
        go_wp2_with fail
        go_roundw
        case rel => exact ⟨1, by go_num, by omega, HO3, hb3⟩
        case measure => simp [RowKit.intOf]
    · have kd := HC.out.1.below hb lg
      have x0 := kd.cell 2
      simp only [List.getElem?_toArray, List.getElem?_cons_zero, List.getElem?_cons_succ] at x0
      clear kd
      by_cases h0 : c.s1.size = 0
      · have hS := slN_no (j := 1) (show (c.at_ 1).size = 0 from h0)
        have HS := powers.lay hS
        rw [empty_of h0] at x0
        clear h0 hS
        go_wp2_with fail
        go_roundw
        case rel => exact ⟨2, by go_num, by omega, powers.lay (by rw [HS.out]; exact HO.out), hb⟩
        case measure => simp [RowKit.intOf]
      · have hS := slN_yes (j := 1) (show ¬ (c.at_ 1).size = 0 from h0)
        have HS := powers.lay hS
        have n0 := some_ne h0
        have n1 := isEmpty_no h0
        have n3 : decide (c.s1 = (⟨#[]⟩ : ByteArray)) = false := decide_eq_false n0
        have n4 : decide (c.s1 ≠ (⟨#[]⟩ : ByteArray)) = true := decide_eq_true n0
        clear h0 hS n0
        have e1 : ∀ j u, [Value.int .i64 1][j]? = some u → (wr.alloc (.cells #[.int .i64 1] 3)).cell? ((⟨wr.heap.size, 0, none⟩ : Addr).add j) = some u := fun j u hj => by
          match j, hj with
          | 0, hj => simp at hj; subst hj; simp [Addr.add]
        have E1 := powers.lay e1
        have E2 := powers.lay (show ∀ u ∈ [Value.int .i64 1], u.oneCell' = true from fun u hu => by simp at hu; subst hu; rfl)
        have hlen := slN_len c 1
        have E3 : (slN c 1).length + 1 ≤ maxLen := by unfold maxLen; omega
        have E5 : w.heap.size ≤ (wr.alloc (.cells #[.int .i64 1] 3)).heap.size := by simp; omega
        clear e1
        go_wp2_with (at_builtin; refine wpList_append_own _ rfl (.tmp 16) (.tmp 18) _ rfl w.heap.size 3 i0 _ 1 8 Try.underlying34 hi0 hz0 hz1 hz2 rfl (by decide) _ (slN c 1).length ((slN c 1).map (Value.int .i64)) rfl (HO.out.alloc _) ⟨wr.heap.size, 0, none⟩ 1 1 [.int .i64 1] rfl rfl E1.out E2.out E3 (by omega) E5 ?_)
        intro v' w3 hown3 hg3 _
        have hb3 : Below w.heap.size w w3 := (hb.alloc hb.size _).grown hg3 (by simp; omega) (fun b hb' => (HO.out.lt b hb').1)
        have HO3 : Hid (w3.ownsRow w.heap.size 3 1 v' (slN c 2).length ((slN c 2).map (Value.int .i64))) := powers.lay (by rw [HS.out, List.length_append, List.map_append]; exact hown3)
        clear hown3 hg3 HO hb
        go_wp2_with fail
        go_roundw
        case rel => exact ⟨2, by go_num, by omega, HO3, hb3⟩
        case measure => simp [RowKit.intOf]
    · go_wp2_with fail
      go_ret
      exact ⟨_, rfl, HO.out, hb⟩

set_option maxRecDepth 100000 in
set_option maxHeartbeats 4000000 in
theorem refNewC_ok (w : World) (q : Nat) (hq : q < w.heap.size) :
    Calls Try.prog 30 #[.pointer (some ⟨q, 0, none⟩)] w fun e w' => e = .returned (.pointer (some ⟨w.heap.size, 0, none⟩)) ∧ Dc w' q w.heap.size ⟨⟨#[]⟩, ⟨#[]⟩, 0⟩ ∧ Below w.heap.size w w' ∧ w'.heap.size = w.heap.size + 1 := by
  have kb := Blk.new w 149 #[.pointer (some ⟨q, 0, none⟩), .string ⟨#[]⟩, .string ⟨#[]⟩, .int .i64 0]
  have bb := (Below.refl w.heap.size w).alloc (Nat.le_refl _) (.cells #[.pointer (some ⟨q, 0, none⟩), .string ⟨#[]⟩, .string ⟨#[]⟩, .int .i64 0] 149)
  have sz : (w.alloc (.cells #[.pointer (some ⟨q, 0, none⟩), .string ⟨#[]⟩, .string ⟨#[]⟩, .int .i64 0] 149)).heap.size = w.heap.size + 1 := by simp
  have hne : w.heap.size ≠ q := by omega
  go_enter Try.func30, Try.ntmps30
  go_wp2_with fail
  go_ret
  exact ⟨rfl, ⟨kb, hne⟩, bb, sz⟩

set_option maxRecDepth 100000 in
set_option maxHeartbeats 4000000 in
theorem refSet_no (h : Dc w q d c) (hp : Blk w q 146 (DC (bL M) (aL M) V)) (sl : Int) (b : ByteArray) (hs : ¬ (sl = 0 ∨ sl = 1)) :
    Calls Try.prog 64 #[.pointer (some ⟨d, 0, none⟩), .int .i64 sl, .string b] w (DPost q d c M V (setF c sl b) sl.toNat b w) := by
  have h0 : ¬ sl = 0 := fun e => hs (.inl e)
  have h1 : ¬ sl = 1 := fun e => hs (.inr e)
  have d0 : decide (sl = 0) = false := decide_eq_false h0
  have d1 : (sl != 0) = true := bne_iff_ne.2 h0
  have d2 : (sl != 1) = true := bne_iff_ne.2 h1
  have hf : setF c sl b = 130 := by unfold setF; rw [if_neg hs]
  rw [hf]
  have hP := powers.lay (DPost.no h hp (f := 130) (by omega) sl.toNat b)
  clear h hp hf hs
  go_enter Try.func64, Try.ntmps64
  go_wp2_with fail
  go_ret
  exact hP.out
theorem refErase_no (h : Dc w q d c) (hp : Blk w q 146 (DC (bL M) (aL M) V)) (sl : Int) (hs : ¬ (sl = 0 ∨ sl = 1)) :
    Calls Try.prog 65 #[.pointer (some ⟨d, 0, none⟩), .int .i64 sl] w (DPost q d c M V (eraF c sl) sl.toNat ⟨#[]⟩ w) := by
  have h0 : ¬ sl = 0 := fun e => hs (.inl e)
  have h1 : ¬ sl = 1 := fun e => hs (.inr e)
  have d0 : decide (sl = 0) = false := decide_eq_false h0
  have d1 : (sl != 0) = true := bne_iff_ne.2 h0
  have d2 : (sl != 1) = true := bne_iff_ne.2 h1
  have hf : eraF c sl = 130 := by unfold eraF; rw [if_neg hs]
  rw [hf]
  have hP := powers.lay (DPost.no h hp (f := 130) (by omega) sl.toNat ⟨#[]⟩)
  clear h hp hf hs
  go_enter Try.func65, Try.ntmps65
  go_wp2_with fail
  go_ret
  exact hP.out
theorem refGet_no (sl : Int) (hs : ¬ (sl = 0 ∨ sl = 1)) :
    Calls Try.prog 66 #[.pointer (some ⟨d, 0, none⟩), .int .i64 sl] w fun e w' => e = .returned (.tuple #[.string (getV c sl), .bool (getB c sl)]) ∧ St none_ w w' := by
  have h0 : ¬ sl = 0 := fun e => hs (.inl e)
  have h1 : ¬ sl = 1 := fun e => hs (.inr e)
  have d0 : decide (sl = 0) = false := decide_eq_false h0
  have d1 : (sl != 0) = true := bne_iff_ne.2 h0
  have d2 : (sl != 1) = true := bne_iff_ne.2 h1
  have h2 : getV c sl = ⟨#[]⟩ := by unfold getV; rw [if_neg hs]
  have h3 : getB c sl = false := decide_eq_false (fun h => hs h.1)
  rw [h2, h3]
  clear h2 h3 hs
  go_enter Try.func66, Try.ntmps66
  go_wp2_with fail
  refine bodyPost_ret (v := .tuple #[.string ⟨#[]⟩, .bool false]) (by simp [results, Try.results66, go_sem]) rfl ⟨rfl, St.refl _ _⟩

set_option maxRecDepth 100000 in
set_option maxHeartbeats 4000000 in
theorem refSet0 (h : Dc w q d c) (hp : Blk w q 146 (DC (bL M) (aL M) V)) (hI : In M) (b : ByteArray) :
    Calls Try.prog 64 #[.pointer (some ⟨d, 0, none⟩), .int .i64 0, .string b] w (DPost q d c M V (setF c 0 b) 0 b w) := by
  have kd := h.1
  have hdq := h.2
  have x0 := kd.cell 0
  have x1 := kd.cell 1
  have x2 := kd.cell 2
  have x3 := kd.cell 3
  simp only [List.getElem?_toArray, List.getElem?_cons_zero, List.getElem?_cons_succ] at x0 x1 x2 x3
  by_cases h0 : c.s0.size = 0
  · by_cases hb : b.size = 0 ∨ 200 < b.size
    · have hf : setF c 0 b = 2 := by unfold setF; rw [if_pos (by omega)]; exact (if_neg (fun h => h h0)).trans (if_pos hb)
      rw [hf]
      have hP := powers.lay (DPost.no h hp (f := 2) (by omega) 0 b)
      rw [empty_of h0] at x1
      clear h hp hf kd h0
      by_cases h0 : b.size = 0
      · obtain rfl := empty_of h0
        clear hb h0
        go_enter Try.func64, Try.ntmps64
        go_wp2_with fail
        go_ret
        exact hP.out
      · have d2 : decide ((200 : Int) < (b.size : Int)) = true := decide_eq_true (by omega)
        have d3 : decide (200 < b.size) = true := decide_eq_true (by omega)
        have n1 := isEmpty_no h0
        have n0 := some_ne h0
        have n3 : decide (b = (⟨#[]⟩ : ByteArray)) = false := decide_eq_false n0
        clear hb h0 n0
        go_enter Try.func64, Try.ntmps64
        go_wp2_with fail
        go_ret
        exact hP.out
    · have hf : setF c 0 b = 0 := by unfold setF; rw [if_pos (by omega)]; exact (if_neg (fun h => h h0)).trans (if_neg hb)
      rw [hf]
      rw [empty_of h0] at x1
      clear hf h0
      have h0 : ¬ b.size = 0 := by omega
      have d2 : decide ((200 : Int) < (b.size : Int)) = false := decide_eq_false (by omega)
      have d3 : decide (200 < b.size) = false := decide_eq_false (by omega)
      have n1 := isEmpty_no h0
      have n0 := some_ne h0
      have n3 : decide (b = (⟨#[]⟩ : ByteArray)) = false := decide_eq_false n0
      clear hb h0 n0
      have hc := refSpend_ok hp hI
      have HI := powers.lay hdq
      clear hI
      by_cases hM : M = 0
      · subst hM
        rw [show eSp 0 = 110 by decide] at hc
        have HC := powers.lay h
        clear h hp kd
        go_enter Try.func64, Try.ntmps64
        go_wp2_with fail
        refine hc.mono ?_
        rintro e w1 ⟨rfl, k1, s1⟩
        go_wp2_with fail
        go_ret
        exact DPost.yes ⟨rfl, k1, by rw [if_pos rfl]; exact HC.out.keep s1 HI.out, s1.mono fun k h => .inl h⟩
      · have e0 : eSp M = 0 := by unfold eSp; rw [if_neg hM]
        rw [e0] at hc
        have HM := powers.lay hM
        have HE := powers.lay e0
        clear h hp hM e0
        go_enter Try.func64, Try.ntmps64
        go_wp2_with fail
        refine hc.mono ?_
        rintro e w1 ⟨rfl, k1, s1⟩
        have kd1 := s1.blk kd HI.out
        clear x0 x1 x2 x3 kd hc
        have y0 := kd1.cell 0
        have y1 := kd1.cell 1
        have y2 := kd1.cell 2
        have y3 := kd1.cell 3
        simp only [List.getElem?_toArray, List.getElem?_cons_zero, List.getElem?_cons_succ] at y0 y1 y2 y3
        have f1 := kd1.frozen 1
        have f3 := kd1.frozen 3
        have ld := kd1.lt
        have kF := (kd1.put 1 (.string b)).put 3 (.int .i64 (nx c.D))
        have sF := ((St.refl (two q d) w1).set (g := d) (.inr rfl) 1 (.string b)).set (g := d) (.inr rfl) 3 (.int .i64 (nx c.D))
        have k9 := (((St.refl (one d) w1).set (g := d) rfl 1 (.string b)).set (g := d) rfl 3 (.int .i64 (nx c.D))).blk k1 (fun h => HI.out h.symm)
        simp only [List.setIfInBounds_toArray, List.set_cons_zero, List.set_cons_succ] at kF
        clear k1
        go_wp2_with fail
        go_ret
        refine DPost.yes ⟨by rw [HE.out]; rfl, k9, ?_, (s1.mono fun k h => .inl h).trans sF⟩
        rw [if_neg HM.out]
        exact ⟨kF, HI.out⟩
  · have hf : setF c 0 b = 131 := by unfold setF; rw [if_pos (by omega)]; exact if_pos h0
    rw [hf]
    have hP := powers.lay (DPost.no h hp (f := 131) (by omega) 0 b)
    have n1 := isEmpty_no h0
    have n0 := some_ne h0
    have n3 : decide (c.s0 = (⟨#[]⟩ : ByteArray)) = false := decide_eq_false n0
    clear h hp hf kd h0 n0
    go_enter Try.func64, Try.ntmps64
    go_wp2_with fail
    go_ret
    exact hP.out
theorem refErase0 (h : Dc w q d c) (hp : Blk w q 146 (DC (bL M) (aL M) V)) (hI : In M) :
    Calls Try.prog 65 #[.pointer (some ⟨d, 0, none⟩), .int .i64 0] w (DPost q d c M V (eraF c 0) 0 ⟨#[]⟩ w) := by
  have kd := h.1
  have hdq := h.2
  have x0 := kd.cell 0
  have x1 := kd.cell 1
  have x2 := kd.cell 2
  have x3 := kd.cell 3
  simp only [List.getElem?_toArray, List.getElem?_cons_zero, List.getElem?_cons_succ] at x0 x1 x2 x3
  by_cases h0 : c.s0.size = 0
  · have hf : eraF c 0 = 132 := by unfold eraF; rw [if_pos (by omega)]; exact if_pos h0
    rw [hf]
    have hP := powers.lay (DPost.no h hp (f := 132) (by omega) 0 ⟨#[]⟩)
    rw [empty_of h0] at x1
    clear h hp hf kd h0
    go_enter Try.func65, Try.ntmps65
    go_wp2_with fail
    go_ret
    exact hP.out
  · have hf : eraF c 0 = 0 := by unfold eraF; rw [if_pos (by omega)]; exact if_neg h0
    rw [hf]
    have n1 := isEmpty_no h0
    have n0 := some_ne h0
    have n3 : decide (c.s0 = (⟨#[]⟩ : ByteArray)) = false := decide_eq_false n0
    clear hf h0 n0
    have hc := refSpend_ok hp hI
    have HI := powers.lay hdq
    clear hI
    by_cases hM : M = 0
    · subst hM
      rw [show eSp 0 = 110 by decide] at hc
      have HC := powers.lay h
      clear h hp kd
      go_enter Try.func65, Try.ntmps65
      go_wp2_with fail
      refine hc.mono ?_
      rintro e w1 ⟨rfl, k1, s1⟩
      go_wp2_with fail
      go_ret
      exact DPost.yes ⟨rfl, k1, by rw [if_pos rfl]; exact HC.out.keep s1 HI.out, s1.mono fun k h => .inl h⟩
    · have e0 : eSp M = 0 := by unfold eSp; rw [if_neg hM]
      rw [e0] at hc
      have HM := powers.lay hM
      have HE := powers.lay e0
      clear h hp hM e0
      go_enter Try.func65, Try.ntmps65
      go_wp2_with fail
      refine hc.mono ?_
      rintro e w1 ⟨rfl, k1, s1⟩
      have kd1 := s1.blk kd HI.out
      clear x0 x1 x2 x3 kd hc
      have y0 := kd1.cell 0
      have y1 := kd1.cell 1
      have y2 := kd1.cell 2
      have y3 := kd1.cell 3
      simp only [List.getElem?_toArray, List.getElem?_cons_zero, List.getElem?_cons_succ] at y0 y1 y2 y3
      have f1 := kd1.frozen 1
      have f3 := kd1.frozen 3
      have ld := kd1.lt
      have kF := (kd1.put 1 (.string ⟨#[]⟩)).put 3 (.int .i64 (nx c.D))
      have sF := ((St.refl (two q d) w1).set (g := d) (.inr rfl) 1 (.string ⟨#[]⟩)).set (g := d) (.inr rfl) 3 (.int .i64 (nx c.D))
      have k9 := (((St.refl (one d) w1).set (g := d) rfl 1 (.string ⟨#[]⟩)).set (g := d) rfl 3 (.int .i64 (nx c.D))).blk k1 (fun h => HI.out h.symm)
      simp only [List.setIfInBounds_toArray, List.set_cons_zero, List.set_cons_succ] at kF
      clear k1
      go_wp2_with fail
      go_ret
      refine DPost.yes ⟨by rw [HE.out]; rfl, k9, ?_, (s1.mono fun k h => .inl h).trans sF⟩
      rw [if_neg HM.out]
      exact ⟨kF, HI.out⟩
theorem refGet0 (h : Dc w q d c) :
    Calls Try.prog 66 #[.pointer (some ⟨d, 0, none⟩), .int .i64 0] w fun e w' => e = .returned (.tuple #[.string (getV c 0), .bool (getB c 0)]) ∧ St none_ w w' := by
  have kd := h.1
  have hdq := h.2
  have x0 := kd.cell 0
  have x1 := kd.cell 1
  have x2 := kd.cell 2
  have x3 := kd.cell 3
  simp only [List.getElem?_toArray, List.getElem?_cons_zero, List.getElem?_cons_succ] at x0 x1 x2 x3
  have h1 : getV c 0 = c.s0 := by unfold getV; rw [if_pos (by omega)]; rfl
  have hI : ∃ bb, getB c 0 = bb ∧ (!c.s0.toList.isEmpty) = bb := by
    by_cases h0 : c.s0.size = 0
    · exact ⟨false, decide_eq_false (fun h => h.2 h0), by rw [empty_of h0, ByteArray.toList_eq]; rfl⟩
    · exact ⟨true, decide_eq_true ⟨by omega, h0⟩, by rw [isEmpty_no h0]; rfl⟩
  obtain ⟨bb, h2, h3⟩ := hI
  rw [h1, h2]
  generalize c.s0 = s at *
  have hS0 : Below w.heap.size w w.drew := (Below.refl _ _).drew
  have lg := kd.lt
  clear h kd h1 h2
  go_enter Try.func66, Try.ntmps66
  go_upto_region 3 with (fail)
  refine mix.region_D (fun w' => Below w.heap.size w w') (fun _ => false) (by kernel_rfl) ?_
  generalize w.drew = Wd at hS0 ⊢
  refine mix.D_take (i := 0) (v := ?_) rfl (by kernel_rfl) (by kernel_rfl) (fun _ _ _ h => h) (Or.inl ⟨by rfl, ?_⟩) hS0 ?_
  rotate_left
  · intro w' hSw
    have y0 := (hSw.cell (p := ⟨d, 1, none⟩) lg).trans x1
    try simp only [List.getElem_toArray, List.getElem_cons_zero, List.getElem_cons_succ]
    go_simp
    exact rfl
  try simp only [Act.put, List.setIfInBounds_toArray, List.set_cons_zero, List.set_cons_succ, List.getElem_toArray, List.getElem_cons_zero, List.getElem_cons_succ]
  refine mix.D_take (i := 1) (v := ?_) rfl (by kernel_rfl) (by kernel_rfl) (fun _ _ _ h => h) (Or.inl ⟨by rfl, ?_⟩) hS0 ?_
  rotate_left
  · intro w' hSw
    have y0 := (hSw.cell (p := ⟨d, 1, none⟩) lg).trans x1
    try simp only [List.getElem_toArray, List.getElem_cons_zero, List.getElem_cons_succ]
    go_simp
    exact rfl
  try simp only [Act.put, List.setIfInBounds_toArray, List.set_cons_zero, List.set_cons_succ, List.getElem_toArray, List.getElem_cons_zero, List.getElem_cons_succ]
  refine mix.D_take (i := 2) (v := ?_) rfl (by kernel_rfl) (by kernel_rfl) (fun _ _ _ h => h) (Or.inl ⟨by rfl, ?_⟩) hS0 ?_
  rotate_left
  · intro w' hSw
    have y0 := (hSw.cell (p := ⟨d, 1, none⟩) lg).trans x1
    try simp only [List.getElem_toArray, List.getElem_cons_zero, List.getElem_cons_succ]
    go_simp
    exact rfl
  try simp only [Act.put, List.setIfInBounds_toArray, List.set_cons_zero, List.set_cons_succ, List.getElem_toArray, List.getElem_cons_zero, List.getElem_cons_succ]
  refine mix.D_take (i := 3) (v := ?_) rfl (by kernel_rfl) (by kernel_rfl) (fun _ _ _ h => h) (Or.inl ⟨by rfl, ?_⟩) hS0 ?_
  rotate_left
  · intro w' hSw
    have y0 := (hSw.cell (p := ⟨d, 1, none⟩) lg).trans x1
    try simp only [List.getElem_toArray, List.getElem_cons_zero, List.getElem_cons_succ]
    go_simp
    exact rfl
  try simp only [Act.put, List.setIfInBounds_toArray, List.set_cons_zero, List.set_cons_succ, List.getElem_toArray, List.getElem_cons_zero, List.getElem_cons_succ]
  refine mix.D_take (i := 4) (v := ?_) rfl (by kernel_rfl) (by kernel_rfl) (fun _ _ _ h => h) (Or.inl ⟨by rfl, ?_⟩) hS0 ?_
  rotate_left
  · intro w' hSw
    have y0 := (hSw.cell (p := ⟨d, 1, none⟩) lg).trans x1
    try simp only [List.getElem_toArray, List.getElem_cons_zero, List.getElem_cons_succ]
    go_simp
    exact rfl
  try simp only [Act.put, List.setIfInBounds_toArray, List.set_cons_zero, List.set_cons_succ, List.getElem_toArray, List.getElem_cons_zero, List.getElem_cons_succ]
  refine mix.D_take (i := 5) (v := ?_) rfl (by kernel_rfl) (by kernel_rfl) (fun _ _ _ h => h) (Or.inl ⟨by rfl, ?_⟩) hS0 ?_
  rotate_left
  · intro w' hSw
    have y0 := (hSw.cell (p := ⟨d, 1, none⟩) lg).trans x1
    try simp only [List.getElem_toArray, List.getElem_cons_zero, List.getElem_cons_succ]
    go_simp
    exact rfl
  try simp only [Act.put, List.setIfInBounds_toArray, List.set_cons_zero, List.set_cons_succ, List.getElem_toArray, List.getElem_cons_zero, List.getElem_cons_succ]
  refine mix.D_take (i := 6) (v := ?_) rfl (by kernel_rfl) (by kernel_rfl) (fun _ _ _ h => h) (Or.inl ⟨by rfl, ?_⟩) hS0 ?_
  rotate_left
  · intro w' hSw
    have y0 := (hSw.cell (p := ⟨d, 1, none⟩) lg).trans x1
    try simp only [List.getElem_toArray, List.getElem_cons_zero, List.getElem_cons_succ]
    go_simp
    exact rfl
  try simp only [Act.put, List.setIfInBounds_toArray, List.set_cons_zero, List.set_cons_succ, List.getElem_toArray, List.getElem_cons_zero, List.getElem_cons_succ]
  refine mix.D_take (i := 7) (v := ?_) rfl (by kernel_rfl) (by kernel_rfl) (fun _ _ _ h => h) (Or.inl ⟨by rfl, ?_⟩) hS0 ?_
  rotate_left
  · intro w' hSw
    have y0 := (hSw.cell (p := ⟨d, 1, none⟩) lg).trans x1
    try simp only [List.getElem_toArray, List.getElem_cons_zero, List.getElem_cons_succ]
    go_simp
    exact rfl
  try simp only [Act.put, List.setIfInBounds_toArray, List.set_cons_zero, List.set_cons_succ, List.getElem_toArray, List.getElem_cons_zero, List.getElem_cons_succ]
  refine mix.D_take (i := 8) (v := ?_) rfl (by kernel_rfl) (by kernel_rfl) (fun _ _ _ h => h) (Or.inl ⟨by rfl, ?_⟩) hS0 ?_
  rotate_left
  · intro w' hSw
    have y0 := (hSw.cell (p := ⟨d, 1, none⟩) lg).trans x1
    try simp only [List.getElem_toArray, List.getElem_cons_zero, List.getElem_cons_succ]
    go_simp
    exact rfl
  try simp only [Act.put, List.setIfInBounds_toArray, List.set_cons_zero, List.set_cons_succ, List.getElem_toArray, List.getElem_cons_zero, List.getElem_cons_succ]
  refine mix.D_take (i := 9) (v := ?_) rfl (by kernel_rfl) (by kernel_rfl) (fun _ _ _ h => h) (Or.inl ⟨by rfl, ?_⟩) hS0 ?_
  rotate_left
  · intro w' hSw
    have y0 := (hSw.cell (p := ⟨d, 1, none⟩) lg).trans x1
    try simp only [List.getElem_toArray, List.getElem_cons_zero, List.getElem_cons_succ]
    go_simp
    exact rfl
  try simp only [Act.put, List.setIfInBounds_toArray, List.set_cons_zero, List.set_cons_succ, List.getElem_toArray, List.getElem_cons_zero, List.getElem_cons_succ]
  refine mix.D_take (i := 10) (v := ?_) rfl (by kernel_rfl) (by kernel_rfl) (fun _ _ _ h => h) (Or.inl ⟨by rfl, ?_⟩) hS0 ?_
  rotate_left
  · intro w' hSw
    have y0 := (hSw.cell (p := ⟨d, 1, none⟩) lg).trans x1
    try simp only [List.getElem_toArray, List.getElem_cons_zero, List.getElem_cons_succ]
    go_simp
    exact rfl
  try simp only [Act.put, List.setIfInBounds_toArray, List.set_cons_zero, List.set_cons_succ, List.getElem_toArray, List.getElem_cons_zero, List.getElem_cons_succ]
  refine mix.D_take (i := 11) (v := ?_) rfl (by kernel_rfl) (by kernel_rfl) (fun _ _ _ h => h) (Or.inl ⟨by rfl, ?_⟩) hS0 ?_
  rotate_left
  · intro w' hSw
    have y0 := (hSw.cell (p := ⟨d, 1, none⟩) lg).trans x1
    try simp only [List.getElem_toArray, List.getElem_cons_zero, List.getElem_cons_succ]
    go_simp
    exact rfl
  try simp only [Act.put, List.setIfInBounds_toArray, List.set_cons_zero, List.set_cons_succ, List.getElem_toArray, List.getElem_cons_zero, List.getElem_cons_succ]
  refine mix.D_take (i := 12) (v := ?_) rfl (by kernel_rfl) (by kernel_rfl) (fun _ _ _ h => h) (Or.inl ⟨by rfl, ?_⟩) hS0 ?_
  rotate_left
  · intro w' hSw
    have y0 := (hSw.cell (p := ⟨d, 1, none⟩) lg).trans x1
    try simp only [List.getElem_toArray, List.getElem_cons_zero, List.getElem_cons_succ]
    go_simp
    exact rfl
  try simp only [Act.put, List.setIfInBounds_toArray, List.set_cons_zero, List.set_cons_succ, List.getElem_toArray, List.getElem_cons_zero, List.getElem_cons_succ]
  refine mix.D_take (i := 13) (v := ?_) rfl (by kernel_rfl) (by kernel_rfl) (fun _ _ _ h => h) (Or.inl ⟨by rfl, ?_⟩) hS0 ?_
  rotate_left
  · intro w' hSw
    have y0 := (hSw.cell (p := ⟨d, 1, none⟩) lg).trans x1
    try simp only [List.getElem_toArray, List.getElem_cons_zero, List.getElem_cons_succ]
    go_simp
    exact rfl
  try simp only [Act.put, List.setIfInBounds_toArray, List.set_cons_zero, List.set_cons_succ, List.getElem_toArray, List.getElem_cons_zero, List.getElem_cons_succ]
  refine mix.D_take (i := 14) (v := ?_) rfl (by kernel_rfl) (by kernel_rfl) (fun _ _ _ h => h) (Or.inl ⟨by rfl, ?_⟩) hS0 ?_
  rotate_left
  · intro w' hSw
    have y0 := (hSw.cell (p := ⟨d, 1, none⟩) lg).trans x1
    try simp only [List.getElem_toArray, List.getElem_cons_zero, List.getElem_cons_succ]
    go_simp
    exact rfl
  try simp only [Act.put, List.setIfInBounds_toArray, List.set_cons_zero, List.set_cons_succ, List.getElem_toArray, List.getElem_cons_zero, List.getElem_cons_succ]
  refine mix.D_done (by kernel_rfl) ?_ _
  try simp only [Act.put, List.setIfInBounds_toArray, List.set_cons_zero, List.set_cons_succ]
  go_wp2_with fail
  refine bodyPost_ret (v := .tuple #[.string s, .bool bb]) (by simp [results, Try.results66, go_sem]) rfl ⟨rfl, hS0.os, hS0.tape, hS0.output, hS0.size, fun k hk _ => hS0.block k hk⟩

set_option maxRecDepth 100000 in
set_option maxHeartbeats 4000000 in
theorem refSet1 (h : Dc w q d c) (hp : Blk w q 146 (DC (bL M) (aL M) V)) (hI : In M) (b : ByteArray) :
    Calls Try.prog 64 #[.pointer (some ⟨d, 0, none⟩), .int .i64 1, .string b] w (DPost q d c M V (setF c 1 b) 1 b w) := by
  have kd := h.1
  have hdq := h.2
  have x0 := kd.cell 0
  have x1 := kd.cell 1
  have x2 := kd.cell 2
  have x3 := kd.cell 3
  simp only [List.getElem?_toArray, List.getElem?_cons_zero, List.getElem?_cons_succ] at x0 x1 x2 x3
  by_cases h0 : c.s1.size = 0
  · by_cases hb : b.size = 0 ∨ 200 < b.size
    · have hf : setF c 1 b = 2 := by unfold setF; rw [if_pos (by omega)]; exact (if_neg (fun h => h h0)).trans (if_pos hb)
      rw [hf]
      have hP := powers.lay (DPost.no h hp (f := 2) (by omega) 1 b)
      rw [empty_of h0] at x2
      clear h hp hf kd h0
      by_cases h0 : b.size = 0
      · obtain rfl := empty_of h0
        clear hb h0
        go_enter Try.func64, Try.ntmps64
        go_wp2_with fail
        go_ret
        exact hP.out
      · have d2 : decide ((200 : Int) < (b.size : Int)) = true := decide_eq_true (by omega)
        have d3 : decide (200 < b.size) = true := decide_eq_true (by omega)
        have n1 := isEmpty_no h0
        have n0 := some_ne h0
        have n3 : decide (b = (⟨#[]⟩ : ByteArray)) = false := decide_eq_false n0
        clear hb h0 n0
        go_enter Try.func64, Try.ntmps64
        go_wp2_with fail
        go_ret
        exact hP.out
    · have hf : setF c 1 b = 0 := by unfold setF; rw [if_pos (by omega)]; exact (if_neg (fun h => h h0)).trans (if_neg hb)
      rw [hf]
      rw [empty_of h0] at x2
      clear hf h0
      have h0 : ¬ b.size = 0 := by omega
      have d2 : decide ((200 : Int) < (b.size : Int)) = false := decide_eq_false (by omega)
      have d3 : decide (200 < b.size) = false := decide_eq_false (by omega)
      have n1 := isEmpty_no h0
      have n0 := some_ne h0
      have n3 : decide (b = (⟨#[]⟩ : ByteArray)) = false := decide_eq_false n0
      clear hb h0 n0
      have hc := refSpend_ok hp hI
      have HI := powers.lay hdq
      clear hI
      by_cases hM : M = 0
      · subst hM
        rw [show eSp 0 = 110 by decide] at hc
        have HC := powers.lay h
        clear h hp kd
        go_enter Try.func64, Try.ntmps64
        go_wp2_with fail
        refine hc.mono ?_
        rintro e w1 ⟨rfl, k1, s1⟩
        go_wp2_with fail
        go_ret
        exact DPost.yes ⟨rfl, k1, by rw [if_pos rfl]; exact HC.out.keep s1 HI.out, s1.mono fun k h => .inl h⟩
      · have e0 : eSp M = 0 := by unfold eSp; rw [if_neg hM]
        rw [e0] at hc
        have HM := powers.lay hM
        have HE := powers.lay e0
        clear h hp hM e0
        go_enter Try.func64, Try.ntmps64
        go_wp2_with fail
        refine hc.mono ?_
        rintro e w1 ⟨rfl, k1, s1⟩
        have kd1 := s1.blk kd HI.out
        clear x0 x1 x2 x3 kd hc
        have y0 := kd1.cell 0
        have y1 := kd1.cell 1
        have y2 := kd1.cell 2
        have y3 := kd1.cell 3
        simp only [List.getElem?_toArray, List.getElem?_cons_zero, List.getElem?_cons_succ] at y0 y1 y2 y3
        have f1 := kd1.frozen 2
        have f3 := kd1.frozen 3
        have ld := kd1.lt
        have kF := (kd1.put 2 (.string b)).put 3 (.int .i64 (nx c.D))
        have sF := ((St.refl (two q d) w1).set (g := d) (.inr rfl) 2 (.string b)).set (g := d) (.inr rfl) 3 (.int .i64 (nx c.D))
        have k9 := (((St.refl (one d) w1).set (g := d) rfl 2 (.string b)).set (g := d) rfl 3 (.int .i64 (nx c.D))).blk k1 (fun h => HI.out h.symm)
        simp only [List.setIfInBounds_toArray, List.set_cons_zero, List.set_cons_succ] at kF
        clear k1
        go_wp2_with fail
        go_ret
        refine DPost.yes ⟨by rw [HE.out]; rfl, k9, ?_, (s1.mono fun k h => .inl h).trans sF⟩
        rw [if_neg HM.out]
        exact ⟨kF, HI.out⟩
  · have hf : setF c 1 b = 131 := by unfold setF; rw [if_pos (by omega)]; exact if_pos h0
    rw [hf]
    have hP := powers.lay (DPost.no h hp (f := 131) (by omega) 1 b)
    have n1 := isEmpty_no h0
    have n0 := some_ne h0
    have n3 : decide (c.s1 = (⟨#[]⟩ : ByteArray)) = false := decide_eq_false n0
    clear h hp hf kd h0 n0
    go_enter Try.func64, Try.ntmps64
    go_wp2_with fail
    go_ret
    exact hP.out
theorem refErase1 (h : Dc w q d c) (hp : Blk w q 146 (DC (bL M) (aL M) V)) (hI : In M) :
    Calls Try.prog 65 #[.pointer (some ⟨d, 0, none⟩), .int .i64 1] w (DPost q d c M V (eraF c 1) 1 ⟨#[]⟩ w) := by
  have kd := h.1
  have hdq := h.2
  have x0 := kd.cell 0
  have x1 := kd.cell 1
  have x2 := kd.cell 2
  have x3 := kd.cell 3
  simp only [List.getElem?_toArray, List.getElem?_cons_zero, List.getElem?_cons_succ] at x0 x1 x2 x3
  by_cases h0 : c.s1.size = 0
  · have hf : eraF c 1 = 132 := by unfold eraF; rw [if_pos (by omega)]; exact if_pos h0
    rw [hf]
    have hP := powers.lay (DPost.no h hp (f := 132) (by omega) 1 ⟨#[]⟩)
    rw [empty_of h0] at x2
    clear h hp hf kd h0
    go_enter Try.func65, Try.ntmps65
    go_wp2_with fail
    go_ret
    exact hP.out
  · have hf : eraF c 1 = 0 := by unfold eraF; rw [if_pos (by omega)]; exact if_neg h0
    rw [hf]
    have n1 := isEmpty_no h0
    have n0 := some_ne h0
    have n3 : decide (c.s1 = (⟨#[]⟩ : ByteArray)) = false := decide_eq_false n0
    clear hf h0 n0
    have hc := refSpend_ok hp hI
    have HI := powers.lay hdq
    clear hI
    by_cases hM : M = 0
    · subst hM
      rw [show eSp 0 = 110 by decide] at hc
      have HC := powers.lay h
      clear h hp kd
      go_enter Try.func65, Try.ntmps65
      go_wp2_with fail
      refine hc.mono ?_
      rintro e w1 ⟨rfl, k1, s1⟩
      go_wp2_with fail
      go_ret
      exact DPost.yes ⟨rfl, k1, by rw [if_pos rfl]; exact HC.out.keep s1 HI.out, s1.mono fun k h => .inl h⟩
    · have e0 : eSp M = 0 := by unfold eSp; rw [if_neg hM]
      rw [e0] at hc
      have HM := powers.lay hM
      have HE := powers.lay e0
      clear h hp hM e0
      go_enter Try.func65, Try.ntmps65
      go_wp2_with fail
      refine hc.mono ?_
      rintro e w1 ⟨rfl, k1, s1⟩
      have kd1 := s1.blk kd HI.out
      clear x0 x1 x2 x3 kd hc
      have y0 := kd1.cell 0
      have y1 := kd1.cell 1
      have y2 := kd1.cell 2
      have y3 := kd1.cell 3
      simp only [List.getElem?_toArray, List.getElem?_cons_zero, List.getElem?_cons_succ] at y0 y1 y2 y3
      have f1 := kd1.frozen 2
      have f3 := kd1.frozen 3
      have ld := kd1.lt
      have kF := (kd1.put 2 (.string ⟨#[]⟩)).put 3 (.int .i64 (nx c.D))
      have sF := ((St.refl (two q d) w1).set (g := d) (.inr rfl) 2 (.string ⟨#[]⟩)).set (g := d) (.inr rfl) 3 (.int .i64 (nx c.D))
      have k9 := (((St.refl (one d) w1).set (g := d) rfl 2 (.string ⟨#[]⟩)).set (g := d) rfl 3 (.int .i64 (nx c.D))).blk k1 (fun h => HI.out h.symm)
      simp only [List.setIfInBounds_toArray, List.set_cons_zero, List.set_cons_succ] at kF
      clear k1
      go_wp2_with fail
      go_ret
      refine DPost.yes ⟨by rw [HE.out]; rfl, k9, ?_, (s1.mono fun k h => .inl h).trans sF⟩
      rw [if_neg HM.out]
      exact ⟨kF, HI.out⟩
theorem refGet1 (h : Dc w q d c) :
    Calls Try.prog 66 #[.pointer (some ⟨d, 0, none⟩), .int .i64 1] w fun e w' => e = .returned (.tuple #[.string (getV c 1), .bool (getB c 1)]) ∧ St none_ w w' := by
  have kd := h.1
  have hdq := h.2
  have x0 := kd.cell 0
  have x1 := kd.cell 1
  have x2 := kd.cell 2
  have x3 := kd.cell 3
  simp only [List.getElem?_toArray, List.getElem?_cons_zero, List.getElem?_cons_succ] at x0 x1 x2 x3
  have h1 : getV c 1 = c.s1 := by unfold getV; rw [if_pos (by omega)]; rfl
  have hI : ∃ bb, getB c 1 = bb ∧ (!c.s1.toList.isEmpty) = bb := by
    by_cases h0 : c.s1.size = 0
    · exact ⟨false, decide_eq_false (fun h => h.2 h0), by rw [empty_of h0, ByteArray.toList_eq]; rfl⟩
    · exact ⟨true, decide_eq_true ⟨by omega, h0⟩, by rw [isEmpty_no h0]; rfl⟩
  obtain ⟨bb, h2, h3⟩ := hI
  rw [h1, h2]
  generalize c.s1 = s at *
  have hS0 : Below w.heap.size w w.drew := (Below.refl _ _).drew
  have lg := kd.lt
  clear h kd h1 h2
  go_enter Try.func66, Try.ntmps66
  go_upto_region 3 with (fail)
  refine mix.region_D (fun w' => Below w.heap.size w w') (fun _ => false) (by kernel_rfl) ?_
  generalize w.drew = Wd at hS0 ⊢
  refine mix.D_take (i := 0) (v := ?_) rfl (by kernel_rfl) (by kernel_rfl) (fun _ _ _ h => h) (Or.inl ⟨by rfl, ?_⟩) hS0 ?_
  rotate_left
  · intro w' hSw
    have y0 := (hSw.cell (p := ⟨d, 2, none⟩) lg).trans x2
    try simp only [List.getElem_toArray, List.getElem_cons_zero, List.getElem_cons_succ]
    go_simp
    exact rfl
  try simp only [Act.put, List.setIfInBounds_toArray, List.set_cons_zero, List.set_cons_succ, List.getElem_toArray, List.getElem_cons_zero, List.getElem_cons_succ]
  refine mix.D_take (i := 1) (v := ?_) rfl (by kernel_rfl) (by kernel_rfl) (fun _ _ _ h => h) (Or.inl ⟨by rfl, ?_⟩) hS0 ?_
  rotate_left
  · intro w' hSw
    have y0 := (hSw.cell (p := ⟨d, 2, none⟩) lg).trans x2
    try simp only [List.getElem_toArray, List.getElem_cons_zero, List.getElem_cons_succ]
    go_simp
    exact rfl
  try simp only [Act.put, List.setIfInBounds_toArray, List.set_cons_zero, List.set_cons_succ, List.getElem_toArray, List.getElem_cons_zero, List.getElem_cons_succ]
  refine mix.D_take (i := 2) (v := ?_) rfl (by kernel_rfl) (by kernel_rfl) (fun _ _ _ h => h) (Or.inl ⟨by rfl, ?_⟩) hS0 ?_
  rotate_left
  · intro w' hSw
    have y0 := (hSw.cell (p := ⟨d, 2, none⟩) lg).trans x2
    try simp only [List.getElem_toArray, List.getElem_cons_zero, List.getElem_cons_succ]
    go_simp
    exact rfl
  try simp only [Act.put, List.setIfInBounds_toArray, List.set_cons_zero, List.set_cons_succ, List.getElem_toArray, List.getElem_cons_zero, List.getElem_cons_succ]
  refine mix.D_take (i := 3) (v := ?_) rfl (by kernel_rfl) (by kernel_rfl) (fun _ _ _ h => h) (Or.inl ⟨by rfl, ?_⟩) hS0 ?_
  rotate_left
  · intro w' hSw
    have y0 := (hSw.cell (p := ⟨d, 2, none⟩) lg).trans x2
    try simp only [List.getElem_toArray, List.getElem_cons_zero, List.getElem_cons_succ]
    go_simp
    exact rfl
  try simp only [Act.put, List.setIfInBounds_toArray, List.set_cons_zero, List.set_cons_succ, List.getElem_toArray, List.getElem_cons_zero, List.getElem_cons_succ]
  refine mix.D_take (i := 4) (v := ?_) rfl (by kernel_rfl) (by kernel_rfl) (fun _ _ _ h => h) (Or.inl ⟨by rfl, ?_⟩) hS0 ?_
  rotate_left
  · intro w' hSw
    have y0 := (hSw.cell (p := ⟨d, 2, none⟩) lg).trans x2
    try simp only [List.getElem_toArray, List.getElem_cons_zero, List.getElem_cons_succ]
    go_simp
    exact rfl
  try simp only [Act.put, List.setIfInBounds_toArray, List.set_cons_zero, List.set_cons_succ, List.getElem_toArray, List.getElem_cons_zero, List.getElem_cons_succ]
  refine mix.D_take (i := 5) (v := ?_) rfl (by kernel_rfl) (by kernel_rfl) (fun _ _ _ h => h) (Or.inl ⟨by rfl, ?_⟩) hS0 ?_
  rotate_left
  · intro w' hSw
    have y0 := (hSw.cell (p := ⟨d, 2, none⟩) lg).trans x2
    try simp only [List.getElem_toArray, List.getElem_cons_zero, List.getElem_cons_succ]
    go_simp
    exact rfl
  try simp only [Act.put, List.setIfInBounds_toArray, List.set_cons_zero, List.set_cons_succ, List.getElem_toArray, List.getElem_cons_zero, List.getElem_cons_succ]
  refine mix.D_take (i := 6) (v := ?_) rfl (by kernel_rfl) (by kernel_rfl) (fun _ _ _ h => h) (Or.inl ⟨by rfl, ?_⟩) hS0 ?_
  rotate_left
  · intro w' hSw
    have y0 := (hSw.cell (p := ⟨d, 2, none⟩) lg).trans x2
    try simp only [List.getElem_toArray, List.getElem_cons_zero, List.getElem_cons_succ]
    go_simp
    exact rfl
  try simp only [Act.put, List.setIfInBounds_toArray, List.set_cons_zero, List.set_cons_succ, List.getElem_toArray, List.getElem_cons_zero, List.getElem_cons_succ]
  refine mix.D_take (i := 7) (v := ?_) rfl (by kernel_rfl) (by kernel_rfl) (fun _ _ _ h => h) (Or.inl ⟨by rfl, ?_⟩) hS0 ?_
  rotate_left
  · intro w' hSw
    have y0 := (hSw.cell (p := ⟨d, 2, none⟩) lg).trans x2
    try simp only [List.getElem_toArray, List.getElem_cons_zero, List.getElem_cons_succ]
    go_simp
    exact rfl
  try simp only [Act.put, List.setIfInBounds_toArray, List.set_cons_zero, List.set_cons_succ, List.getElem_toArray, List.getElem_cons_zero, List.getElem_cons_succ]
  refine mix.D_take (i := 8) (v := ?_) rfl (by kernel_rfl) (by kernel_rfl) (fun _ _ _ h => h) (Or.inl ⟨by rfl, ?_⟩) hS0 ?_
  rotate_left
  · intro w' hSw
    have y0 := (hSw.cell (p := ⟨d, 2, none⟩) lg).trans x2
    try simp only [List.getElem_toArray, List.getElem_cons_zero, List.getElem_cons_succ]
    go_simp
    exact rfl
  try simp only [Act.put, List.setIfInBounds_toArray, List.set_cons_zero, List.set_cons_succ, List.getElem_toArray, List.getElem_cons_zero, List.getElem_cons_succ]
  refine mix.D_take (i := 9) (v := ?_) rfl (by kernel_rfl) (by kernel_rfl) (fun _ _ _ h => h) (Or.inl ⟨by rfl, ?_⟩) hS0 ?_
  rotate_left
  · intro w' hSw
    have y0 := (hSw.cell (p := ⟨d, 2, none⟩) lg).trans x2
    try simp only [List.getElem_toArray, List.getElem_cons_zero, List.getElem_cons_succ]
    go_simp
    exact rfl
  try simp only [Act.put, List.setIfInBounds_toArray, List.set_cons_zero, List.set_cons_succ, List.getElem_toArray, List.getElem_cons_zero, List.getElem_cons_succ]
  refine mix.D_take (i := 10) (v := ?_) rfl (by kernel_rfl) (by kernel_rfl) (fun _ _ _ h => h) (Or.inl ⟨by rfl, ?_⟩) hS0 ?_
  rotate_left
  · intro w' hSw
    have y0 := (hSw.cell (p := ⟨d, 2, none⟩) lg).trans x2
    try simp only [List.getElem_toArray, List.getElem_cons_zero, List.getElem_cons_succ]
    go_simp
    exact rfl
  try simp only [Act.put, List.setIfInBounds_toArray, List.set_cons_zero, List.set_cons_succ, List.getElem_toArray, List.getElem_cons_zero, List.getElem_cons_succ]
  refine mix.D_take (i := 11) (v := ?_) rfl (by kernel_rfl) (by kernel_rfl) (fun _ _ _ h => h) (Or.inl ⟨by rfl, ?_⟩) hS0 ?_
  rotate_left
  · intro w' hSw
    have y0 := (hSw.cell (p := ⟨d, 2, none⟩) lg).trans x2
    try simp only [List.getElem_toArray, List.getElem_cons_zero, List.getElem_cons_succ]
    go_simp
    exact rfl
  try simp only [Act.put, List.setIfInBounds_toArray, List.set_cons_zero, List.set_cons_succ, List.getElem_toArray, List.getElem_cons_zero, List.getElem_cons_succ]
  refine mix.D_take (i := 12) (v := ?_) rfl (by kernel_rfl) (by kernel_rfl) (fun _ _ _ h => h) (Or.inl ⟨by rfl, ?_⟩) hS0 ?_
  rotate_left
  · intro w' hSw
    have y0 := (hSw.cell (p := ⟨d, 2, none⟩) lg).trans x2
    try simp only [List.getElem_toArray, List.getElem_cons_zero, List.getElem_cons_succ]
    go_simp
    exact rfl
  try simp only [Act.put, List.setIfInBounds_toArray, List.set_cons_zero, List.set_cons_succ, List.getElem_toArray, List.getElem_cons_zero, List.getElem_cons_succ]
  refine mix.D_take (i := 13) (v := ?_) rfl (by kernel_rfl) (by kernel_rfl) (fun _ _ _ h => h) (Or.inl ⟨by rfl, ?_⟩) hS0 ?_
  rotate_left
  · intro w' hSw
    have y0 := (hSw.cell (p := ⟨d, 2, none⟩) lg).trans x2
    try simp only [List.getElem_toArray, List.getElem_cons_zero, List.getElem_cons_succ]
    go_simp
    exact rfl
  try simp only [Act.put, List.setIfInBounds_toArray, List.set_cons_zero, List.set_cons_succ, List.getElem_toArray, List.getElem_cons_zero, List.getElem_cons_succ]
  refine mix.D_take (i := 14) (v := ?_) rfl (by kernel_rfl) (by kernel_rfl) (fun _ _ _ h => h) (Or.inl ⟨by rfl, ?_⟩) hS0 ?_
  rotate_left
  · intro w' hSw
    have y0 := (hSw.cell (p := ⟨d, 2, none⟩) lg).trans x2
    try simp only [List.getElem_toArray, List.getElem_cons_zero, List.getElem_cons_succ]
    go_simp
    exact rfl
  try simp only [Act.put, List.setIfInBounds_toArray, List.set_cons_zero, List.set_cons_succ, List.getElem_toArray, List.getElem_cons_zero, List.getElem_cons_succ]
  refine mix.D_done (by kernel_rfl) ?_ _
  try simp only [Act.put, List.setIfInBounds_toArray, List.set_cons_zero, List.set_cons_succ]
  go_wp2_with fail
  refine bodyPost_ret (v := .tuple #[.string s, .bool bb]) (by simp [results, Try.results66, go_sem]) rfl ⟨rfl, hS0.os, hS0.tape, hS0.output, hS0.size, fun k hk _ => hS0.block k hk⟩

theorem refSet_any (h : Dc w q d c) (hp : Blk w q 146 (DC (bL M) (aL M) V)) (hI : In M) (sl : Int) (b : ByteArray) :
    Calls Try.prog 64 #[.pointer (some ⟨d, 0, none⟩), .int .i64 sl, .string b] w (DPost q d c M V (setF c sl b) sl.toNat b w) := by
  rcases cases_slot sl with rfl | rfl | hs
  · exact refSet0 h hp hI b
  · exact refSet1 h hp hI b
  · exact refSet_no h hp sl b hs
theorem refErase_any (h : Dc w q d c) (hp : Blk w q 146 (DC (bL M) (aL M) V)) (hI : In M) (sl : Int) :
    Calls Try.prog 65 #[.pointer (some ⟨d, 0, none⟩), .int .i64 sl] w (DPost q d c M V (eraF c sl) sl.toNat ⟨#[]⟩ w) := by
  rcases cases_slot sl with rfl | rfl | hs
  · exact refErase0 h hp hI
  · exact refErase1 h hp hI
  · exact refErase_no h hp sl hs
theorem refGetC_any (h : Dc w q d c) (sl : Int) :
    Calls Try.prog 66 #[.pointer (some ⟨d, 0, none⟩), .int .i64 sl] w fun e w' => e = .returned (.tuple #[.string (getV c sl), .bool (getB c sl)]) ∧ St none_ w w' := by
  rcases cases_slot sl with rfl | rfl | hs
  · exact refGet0 h
  · exact refGet1 h
  · exact refGet_no sl hs

end
end Go.Proofs.Ytnndohdiiglgmaa.cells
