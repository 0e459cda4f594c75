/- The program's Texts and the document's. -/
import Derived.Test.YtjlglfjikfpboaaEtA
import Derived.Test.YtjlglfjikfpboaaNdAC


namespace Go.Proofs.Ytjlglfjikfpboaa.vers
set_option linter.unusedVariables false
set_option linter.unusedSimpArgs false
open Go.RowKit Go.Proofs.Ytjlglfjikfpboaa.base Go.Proofs.Ytjlglfjikfpboaa.texts

/-- the texts of versions, of a secret, of secrets -/
def vts : List V → List ByteArray
  | [] => []
  | x :: l => x.v :: x.t :: vts l
def ets (x : E) : List ByteArray := x.s :: vts x.l
def allE : List E → List ByteArray
  | [] => []
  | x :: l => ets x ++ allE l
theorem vts_len : ∀ l : List V, (vts l).length = 2 * l.length
  | [] => rfl
  | x :: l => by simp only [vts, List.length_cons, vts_len l]; omega
theorem vts_take (l : List V) (j : Nat) (h : j < l.length) : vts (l.take (j + 1)) = vts (l.take j) ++ [l[j].v, l[j].t] := by
  induction l generalizing j with
  | nil => simp at h
  | cons x l ih =>
    cases j with
    | zero => simp [vts]
    | succ j => simp only [List.take_succ_cons, vts, List.getElem_cons_succ, List.cons_append]; rw [ih j (by simpa using h)]
theorem allE_take (l : List E) (j : Nat) (h : j < l.length) : allE (l.take (j + 1)) = allE (l.take j) ++ (l[j].s :: vts l[j].l) := by
  induction l generalizing j with
  | nil => simp at h
  | cons x l ih =>
    cases j with
    | zero => simp [allE, ets]
    | succ j => simp only [List.take_succ_cons, allE, List.getElem_cons_succ, List.append_assoc]; rw [ih j (by simpa using h)]
theorem allE_le (l : List E) (j : Nat) : (allE (l.take j)).length ≤ (allE l).length := by
  induction l generalizing j with
  | nil => simp
  | cons x l ih =>
    cases j with
    | zero => simp [allE]
    | succ j => simp only [List.take_succ_cons, allE, List.length_append]; have := ih j; omega

/-- at the outer loop's head, and at the inner one's -/
def OHead (B : Nat) (W : World) (l : List E) (u i : Value) (wr : World) : Prop :=
  ∃ j : Nat, j ≤ l.length ∧ i = .int .i64 j ∧ W.heap.size ≤ wr.heap.size ∧ ExtS B W wr u (allE (l.take j))
def IHead (B : Nat) (W : World) (ts : List ByteArray) (l : List V) (u i : Value) (wr : World) : Prop :=
  ∃ j : Nat, j ≤ l.length ∧ i = .int .i64 j ∧ W.heap.size ≤ wr.heap.size ∧ ExtS B W wr u (ts ++ vts (l.take j))

set_option maxRecDepth 100000 in
set_option maxHeartbeats 800000 in
theorem texts_any (l : List E) (A : Option Addr) (c : Nat) (w : World) (hv : Es w w.heap.size l A c) (hN : (allE l).length ≤ 4000000) :
    Calls Try.prog 117 #[.slice A l.length c] w fun e w' => ∃ v, e = .returned v ∧ Below w.heap.size w w' ∧ Txt w' w.heap.size v (fin (allE l)) := by
  have hlen : l.length ≤ 140737488355328 := by have := hv.2.1; omega
  go_enter Try.func117, Try.ntmps117
  go_wp2_with fail
  go_loopw [3, 10] (fun u i wr => OHead w.heap.size w l u i wr) (fun _ i _ => l.length - (intOf i).toNat)
  case atStart => exact ⟨0, Nat.zero_le _, rfl, Nat.le_refl _, ExtS.nil _ _⟩
  case round =>
    obtain ⟨j, hj, rfl, hsz, hEj⟩ := hrel
    by_cases hlt : j < l.length
    · obtain ⟨bk, off, rfl, hbk, e0, e1, hV⟩ := (hv.below hEj.below).at_ hlt
      have hTk := lay (allE_take l j hlt)
      have hle := allE_le l (j + 1)
      rw [hTk.out, List.length_append, List.length_cons, vts_len] at hle
      have hvl : l[j].l.length ≤ 140737488355328 := by have h2 := hV.2.1; omega
      have hW2 := hEj.alloc hsz (.cells #[.string l[j].s, .slice l[j].A l[j].l.length l[j].c] 79)
      have hbox := Blk.new wr 79 #[.string l[j].s, .slice l[j].A l[j].l.length l[j].c]
      have hV2 := hV.below ((Below.refl _ _).alloc hsz (.cells #[.string l[j].s, .slice l[j].A l[j].l.length l[j].c] 79))
      have hE2 := hW2.refl
      have HV2 := lay hV2
      clear hV hV2
      generalize hL : l[j].l = L at HV2 hvl hTk hle hW2 hbox hE2 e1 ⊢
      generalize hs : l[j].s = s at hTk hW2 hbox hE2 e0 e1 ⊢ HV2
      generalize hA : l[j].A = LA at HV2 hW2 hbox hE2 e1 ⊢
      generalize hc : l[j].c = LC at HV2 hW2 hbox hE2 e1 ⊢
      clear hL hs hA hc
      go_wp2_with (at_builtin; refine wpList_append_text rfl _ _ rfl rfl hE2 (by simp; omega) s rfl (by simp) ?c2 ?next)
      case c2 => omega
      case next =>
        intro v1 w1 hE3 hz1
        have hb3 := hE3.kept _ _ _ (by decide) hbox
        have y1 := hb3.cell 1
        simp at y1
        try simp only [World.size_alloc] at hz1
        have y2 : wr.heap.size < w1.heap.size := by omega
        go_wp2_with fail
        go_loopw [3, 22] (fun u i wx => IHead w.heap.size (wr.alloc (.cells #[.string s, .slice LA L.length LC] 79)) (allE (l.take j) ++ [s]) L u i wx) (fun _ i _ => L.length - (intOf i).toNat)
        case atStart => exact ⟨0, Nat.zero_le _, rfl, by simp; omega, by simpa [vts] using hE3⟩
        case round =>
          obtain ⟨k, hk, rfl, hsz2, hEk⟩ := hrel
          try simp only [World.size_alloc] at hsz2
          by_cases hlk : k < L.length
          · obtain ⟨b2, o2, rfl, hb2, v0, v1, v2⟩ := (HV2.out.below hEk.below).at_ hlk
            have hVk := lay (vts_take L k hlk)
            have hl2 : (vts (L.take k)).length = 2 * k := by rw [vts_len, List.length_take]; omega
            have hE4 := hEk.alloc (by omega) (.cells #[.int .i64 L[k].n, .string L[k].v, .string L[k].t] 147)
            go_wp2_with (at_builtin; refine wpList_append_two rfl _ _ rfl rfl hE4 (by simp; omega) L[k].v L[k].t rfl (by simp) (by simp only [List.length_append, List.length_singleton]; omega) ?next3)
            case next3 =>
              intro v3 w3 hE5 hz3
              try simp only [World.size_alloc] at hz3
              go_wp2_with fail
              exact ⟨⟨k + 1, hlk, by go_num, by simp; omega, by rw [hVk.out]; simpa [List.append_assoc] using hE5⟩, by simp [intOf]; omega⟩
          · rw [show L.take k = L from List.take_of_length_le (by omega)] at hEk
            have hEn := hW2.trans hEk
            go_wp2_with fail
            exact ⟨⟨j + 1, hlt, by go_num, by omega, by rw [hTk.out]; simpa [List.append_assoc] using hEn⟩, by simp [intOf]; omega⟩
    · have hjl : l.take j = l := List.take_of_length_le (by omega)
      rw [hjl] at hEj
      have h1 := sort_any hEj hsz (by omega)
      go_wp2_with fail
      refine h1.mono ?_
      rintro e w1 ⟨rfl, hb1, hz1, ho⟩
      have hlen' := brs_len (allE l)
      have hlen2 := srt_len (brs (allE l))
      have h2 := compact_any hb1 (by omega) ho (by omega)
      go_wp2_with fail
      refine h2.mono ?_
      rintro e w2 ⟨v', rfl, hb2, hz2, hT⟩
      go_wp2_with fail
      go_ret
      exact ⟨_, rfl, hb2, hT⟩

/-- likewise, of the document's -/
def OHead2 (W : World) (l : List E) (u i : Value) (wr : World) : Prop :=
  ∃ j : Nat, j ≤ l.length ∧ i = .int .i64 j ∧ Below W.heap.size W wr ∧ Txt wr 0 u (putAll [] (allE (l.take j)))
def IHead2 (W : World) (ts : List ByteArray) (l : List V) (u i : Value) (wr : World) : Prop :=
  ∃ j : Nat, j ≤ l.length ∧ i = .int .i64 j ∧ Below W.heap.size W wr ∧ Txt wr 0 u (putAll [] (ts ++ vts (l.take j)))
theorem putAll_snoc (ts : List (List UInt8)) (l : List ByteArray) (s : ByteArray) : putAll ts (l ++ [s]) = insD s.data.toList (putAll ts l) false := by rw [putAll_append]; rfl

set_option maxRecDepth 100000 in
set_option maxHeartbeats 800000 in
theorem refTexts_any (l : List E) (A : Option Addr) (c : Nat) (w : World) (hv : Es w w.heap.size l A c) (hN : (allE l).length ≤ 3000000) :
    Calls Try.prog 119 #[.slice A l.length c] w fun e w' => ∃ v, e = .returned v ∧ Below w.heap.size w w' ∧ Txt w' 0 v (putAll [] (allE l)) := by
  have hlen : l.length ≤ 140737488355328 := by have := hv.2.1; omega
  go_enter Try.func119, Try.ntmps119
  go_wp2_with fail
  go_loopw [3, 11] (fun u i wr => OHead2 w l u i wr) (fun _ i _ => l.length - (intOf i).toNat)
  case atStart => exact ⟨0, Nat.zero_le _, rfl, (Below.refl _ _).alloc (Nat.le_refl _) _, _, _, rfl, Nat.zero_le _, fun j hj => absurd hj (Nat.not_lt_zero _)⟩
  case round =>
    obtain ⟨j, hj, rfl, hbw, hTj⟩ := hrel
    by_cases hlt : j < l.length
    · obtain ⟨bk, off, rfl, hbk, e0, e1, hV⟩ := (hv.below hbw).at_ hlt
      have hTk := lay (allE_take l j hlt)
      have hle := allE_le l (j + 1)
      rw [hTk.out, List.length_append, List.length_cons, vts_len] at hle
      have hvl : l[j].l.length ≤ 140737488355328 := by have h2 := hV.2.1; omega
      have hbs := hbw.size
      have hD : Below w.heap.size w (wr.alloc (.cells #[.string l[j].s, .slice l[j].A l[j].l.length l[j].c] 79)) := hbw.alloc hbs _
      have hbox := Blk.new wr 79 #[.string l[j].s, .slice l[j].A l[j].l.length l[j].c]
      have hV2 := (hv.2.2.2.2 _ (List.getElem_mem hlt)).1
      have hT2 := hTj.alloc (.cells #[.string l[j].s, .slice l[j].A l[j].l.length l[j].c] 79)
      have hpl := putAll_len (allE (l.take j)) []
      simp only [List.length_nil] at hpl
      have HV2 := lay hV2
      clear hV hV2
      generalize hL : l[j].l = L at HV2 hvl hTk hle hbox hD hT2 e1 ⊢
      generalize hs : l[j].s = s at hTk hbox hD hT2 e0 e1 ⊢ HV2
      generalize hA : l[j].A = LA at HV2 hbox hD hT2 e1 ⊢
      generalize hc : l[j].c = LC at HV2 hbox hD hT2 e1 ⊢
      clear hL hs hA hc
      have hin := insert_at _ 0 _ s _ hT2 (by omega)
      rw [← putAll_snoc] at hin
      go_wp2_with fail
      refine hin.mono ?_
      rintro e w1 ⟨v1, rfl, hb1, hT3⟩
      have hb3 := hbox.below hb1 hbox.lt
      have y1 := hb3.cell 1
      simp at y1
      have y2 := hb3.lt
      have hD1 := hD.trans (hb1.mono hD.size)
      go_wp2_with fail
      go_loopw [3, 22] (fun u i wx => IHead2 w (allE (l.take j) ++ [s]) L u i wx) (fun _ i _ => L.length - (intOf i).toNat)
      case atStart => exact ⟨0, Nat.zero_le _, rfl, hD1, by simpa [vts] using hT3⟩
      case round =>
        obtain ⟨k, hk, rfl, hbk2, hTk2⟩ := hrel
        by_cases hlk : k < L.length
        · obtain ⟨b2, o2, rfl, hb2, v0, v1, v2⟩ := (HV2.out.below hbk2).at_ hlk
          have hVk := lay (vts_take L k hlk)
          have hl2 : (vts (L.take k)).length = 2 * k := by rw [vts_len, List.length_take]; omega
          have hbs2 := hbk2.size
          have hT4 := hTk2.alloc (.cells #[.int .i64 L[k].n, .string L[k].v, .string L[k].t] 147)
          have hD2 : Below w.heap.size w (wr.alloc (.cells #[.int .i64 L[k].n, .string L[k].v, .string L[k].t] 147)) := hbk2.alloc hbs2 _
          have hbox2 := Blk.new wr 147 #[.int .i64 L[k].n, .string L[k].v, .string L[k].t]
          have hpk := putAll_len (allE (l.take j) ++ [s] ++ vts (L.take k)) []
          simp only [List.length_append, List.length_singleton, List.length_nil] at hpk
          have hin := insert_at _ 0 _ L[k].v _ hT4 (by omega)
          rw [← putAll_snoc] at hin
          go_wp2_with fail
          refine hin.mono ?_
          rintro e w3 ⟨v3, rfl, hb3, hT5⟩
          have hb4 := hbox2.below hb3 hbox2.lt
          have x1 := hb4.cell 2
          simp at x1
          have x2 := hb4.lt
          have hD3 := hD2.trans (hb3.mono hD2.size)
          have hpk3 := putAll_len (allE (l.take j) ++ [s] ++ vts (L.take k) ++ [L[k].v]) []
          simp only [List.length_append, List.length_singleton, List.length_nil] at hpk3
          have hin2 := insert_at v3 0 _ L[k].t _ hT5 (by omega)
          rw [← putAll_snoc] at hin2
          go_wp2_with fail
          refine hin2.mono ?_
          rintro e w4 ⟨v4, rfl, hb5, hT6⟩
          have hD4 := hD3.trans (hb5.mono hD3.size)
          go_wp2_with fail
          exact ⟨⟨k + 1, hlk, by go_num, hD4, by rw [hVk.out]; simpa [List.append_assoc] using hT6⟩, by simp [intOf]; omega⟩
        · rw [show L.take k = L from List.take_of_length_le (by omega)] at hTk2
          go_wp2_with fail
          exact ⟨⟨j + 1, hlt, by go_num, hbk2, by rw [hTk.out]; simpa [List.append_assoc] using hTk2⟩, by simp [intOf]; omega⟩
    · have hjl : l.take j = l := List.take_of_length_le (by omega)
      rw [hjl] at hTj
      go_wp2_with fail
      go_ret
      exact ⟨_, rfl, hbw, hTj⟩
end Go.Proofs.Ytjlglfjikfpboaa.vers
