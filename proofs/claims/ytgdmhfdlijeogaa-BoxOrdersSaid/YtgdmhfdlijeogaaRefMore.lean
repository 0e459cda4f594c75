/- The document's own reader of terms: more, given what read does. -/
import Derived.Test.YtgdmhfdlijeogaaRefRead
namespace Go.Proofs.Ytgdmhfdlijeogaa.refReads
set_option linter.unusedVariables false
set_option linter.unusedSimpArgs false
open Go.RowKit Go.Proofs.Ytgdmhfdlijeogaa.base Go.Proofs.Ytgdmhfdlijeogaa.tm Go.Proofs.Ytgdmhfdlijeogaa.lies Go.Proofs.Ytgdmhfdlijeogaa.rights Go.Proofs.Ytgdmhfdlijeogaa.copies Go.Proofs.Ytgdmhfdlijeogaa.built Go.Proofs.Ytgdmhfdlijeogaa.reads

/-- what read leaves -/
def GPost (W : World) (s : ByteArray) (b : Nat) (r : Res T) (e : Ending) (w' : World) : Prop :=
  Below W.heap.size W w' ∧ match r with
  | .bad err => err ≠ 0 ∧ e = .returned (got 0 0 ⟨#[]⟩ (.slice none 0 0) 0 0 err)
  | .ok t r b' => ∃ (A : Option Addr) (c a' : Nat), e = .returned (got t.k t.n t.s (.slice A t.l.length c) (a' : Nat) (b' : Nat) 0) ∧ a' ≤ s.size ∧ s.data.toList.drop a' = r ∧ b < b' ∧ b' ≤ 4000 ∧ Held w' W.heap.size w'.heap.size t.l (.slice A t.l.length c) ∧ Fits t
/-- what more leaves -/
def NPost (W : World) (s : ByteArray) (k n : Int) (b : Nat) (r : Res (List T)) (e : Ending) (w' : World) : Prop :=
  Below W.heap.size W w' ∧ match r with
  | .bad err => err ≠ 0 ∧ e = .returned (got 0 0 ⟨#[]⟩ (.slice none 0 0) 0 0 err)
  | .ok l r b' => ∃ (A : Option Addr) (c a' : Nat), e = .returned (got k n ⟨#[]⟩ (.slice A l.length c) (a' : Nat) (b' : Nat) 0) ∧ a' ≤ s.size ∧ s.data.toList.drop a' = r ∧ b ≤ b' ∧ b' ≤ 4000 ∧ Held w' W.heap.size w'.heap.size l (.slice A l.length c)

def ReadAt (d : Nat) : Prop := ∀ (s : ByteArray) (a b : Nat) (x y z : Int) (w : World), s.size ≤ maxLen → a ≤ s.size → b ≤ 4000 → x = (a : Int) → y = (b : Int) → z = 12 - (d : Int) → d ≤ 12 →
  Calls Try.prog 40 #[.string s, .int .i64 x, .int .i64 y, .int .i64 z] w (GPost w s b (readT d (s.data.toList.drop a) b))

theorem seven_cell (w : World) (g : Nat) (a b c d e f i : Value) (p : Addr) (h : p.block ≠ g) : (seven w g a b c d e f i).cell? p = w.cell? p := by
  unfold seven
  rw [World.cell?_setCell_other, World.cell?_setCell_other, World.cell?_setCell_other, World.cell?_setCell_other, World.cell?_setCell_other, World.cell?_setCell_other, World.cell?_setCell_other] <;> (rintro rfl; exact h rfl)

/-- at the loop's head -/
def RHead (W : World) (s : ByteArray) (k n : Int) (a b cnt d : Nat) (i : Value) (wr : World) : Prop :=
  ∃ (l : List T) (A : Option Addr) (c a' b' : Nat), i = .int .u64 ((cnt - l.length : Nat) : Int) ∧ l.length ≤ cnt ∧ Blk wr W.heap.size 61 #[.int .i64 k, .int .u64 n, .string ⟨#[]⟩, .slice A l.length c, .int .i64 (a' : Nat), .int .i64 (b' : Nat), .int .i64 0] ∧
    Blk wr (W.heap.size + 1) 61 #[.int .i64 0, .int .u64 0, .string ⟨#[]⟩, .slice none 0 0, .int .i64 0, .int .i64 0, .int .i64 0] ∧ Built (W.heap.size + 2) wr l (.slice A l.length c) ∧ a' ≤ s.size ∧ b + l.length ≤ b' ∧ b' ≤ 4000 ∧ Below W.heap.size W wr ∧ W.heap.size + 2 ≤ wr.heap.size ∧
    Hid (many (readT d) cnt (s.data.toList.drop a) b = prep l (many (readT d) (cnt - l.length) (s.data.toList.drop a') b'))

set_option maxRecDepth 100000 in
set_option maxHeartbeats 600000 in
theorem more_any (d : Nat) (hR : ReadAt d) (hd : d ≤ 12) (s : ByteArray) (k n : Int) (a b cnt : Nat) (x y z q : Int) (w : World) (hs : s.size ≤ maxLen) (ha : a ≤ s.size) (hb : b ≤ 4000) (hx : x = (a : Int)) (hy : y = (b : Int)) (hz : z + 1 = 12 - (d : Int)) (hq : q = (cnt : Int)) (hcnt : cnt < 18446744073709551616) :
    Calls Try.prog 50 #[.string s, got k n ⟨#[]⟩ (.slice none 0 0) x y 0, .int .u64 q, .int .i64 z] w (NPost w s k n b (many (readT d) cnt (s.data.toList.drop a) b)) := by
  subst hx hy hq
  have hb0 := Blk.new w 61 #[.int .i64 k, .int .u64 n, .string ⟨#[]⟩, .slice none 0 0, .int .i64 (a : Nat), .int .i64 (b : Nat), .int .i64 0]
  have hb1 := hb0.alloc (.cells #[.int .i64 0, .int .u64 0, .string ⟨#[]⟩, .slice none 0 0, .int .i64 0, .int .i64 0, .int .i64 0] 61)
  have hb2 := Blk.new (w.alloc (.cells #[.int .i64 k, .int .u64 n, .string ⟨#[]⟩, .slice none 0 0, .int .i64 (a : Nat), .int .i64 (b : Nat), .int .i64 0] 61)) 61 #[.int .i64 0, .int .u64 0, .string ⟨#[]⟩, .slice none 0 0, .int .i64 0, .int .i64 0, .int .i64 0]
  simp only [World.size_alloc] at hb2
  have HX := lay hz
  have HT := lay hR
  have hz0 : 0 ≤ z + 1 := by omega
  have hz12 : z + 1 ≤ 12 := by omega
  clear hz hR
  go_enter Try.func50, Try.ntmps50
  go_wp2_with fail
  go_loopw [2] (fun i wr => RHead w s k n a b cnt d i wr) (fun i _ => (intOf i).toNat)
  case atStart => exact ⟨[], none, 0, a, b, rfl, Nat.zero_le _, hb1, hb2, Built.nil _ _, ha, Nat.le_refl _, hb, ((Below.refl _ _).alloc (Nat.le_refl _) _).alloc (by simp) _, by simp, lay (by
    show many (readT d) cnt (s.data.toList.drop a) b = prep [] (many (readT d) cnt (s.data.toList.drop a) b)
    cases many (readT d) cnt (s.data.toList.drop a) b <;> rfl)⟩
  case round =>
    clear hb0 hb1 hb2
    obtain ⟨l, A, c, a', b', rfl, hln, hk0, hk1, hB, ha', hbl, hb4', hbw, hzr, HM⟩ := hrel
    have z0 := hk0.cell 0
    have z1 := hk0.cell 1
    have z2 := hk0.cell 2
    have z3 := hk0.cell 3
    have z4 := hk0.cell 4
    have z5 := hk0.cell 5
    have z6 := hk0.cell 6
    simp at z0 z1 z2 z3 z4 z5 z6
    have hw0 : w.heap.size < wr.heap.size := by omega
    have hw1 : w.heap.size + 1 < wr.heap.size := by omega
    by_cases hlt : l.length < cnt
    · obtain ⟨m, hm⟩ : ∃ m, cnt - l.length = m + 1 := ⟨cnt - l.length - 1, by omega⟩
      rw [hm] at HM ⊢
      have hm64 : m + 1 < 18446744073709551616 := by omega
      have hcall := HT.out s a' b' a' b' (z + 1) wr hs ha' hb4' rfl rfl HX.out hd
      cases hq : readT d (s.data.toList.drop a') b' with
      | bad err =>
        rw [hq] at hcall
        have HB := lay (many_bad HM.out hq)
        clear hq hm
        go_wp2_with fail
        refine hcall.mono ?_
        rintro e w2 ⟨hG, hne, rfl⟩
        have d1 : (err != 0) = true := by simpa using hne
        have HN := lay hne
        clear hne
        have hk2 := hk1.below hG hw1
        have q0 := hk2.cell 0
        have q1 := hk2.cell 1
        have q2 := hk2.cell 2
        have q3 := hk2.cell 3
        have q4 := hk2.cell 4
        have q5 := hk2.cell 5
        have q6 := hk2.cell 6
        simp at q0 q1 q2 q3 q4 q5 q6
        have f0 := hk2.frozen 0
        have f1 := hk2.frozen 1
        have f2 := hk2.frozen 2
        have f3 := hk2.frozen 3
        have f4 := hk2.frozen 4
        have f5 := hk2.frozen 5
        have f6 := hk2.frozen 6
        have hz2 : w.heap.size + 1 < w2.heap.size := by have := hG.size; omega
        have hz2' : w.heap.size < w2.heap.size := by omega
        go_wp2_with fail
        refine bodyPost_ret (v := got 0 0 ⟨#[]⟩ (.slice none 0 0) 0 0 err) (by simp [results, Try.results50, go_sem, hz2, hz2', q0, q1, q2, q3, q4, q5, q6]) rfl ?_
        rw [HB.out]
        exact ⟨(seven_below (hbw.trans (hG.mono hbw.size)) _ _ _ _ _ _ _).alloc (by have := hbw.size; have := hG.size; simp [seven]; omega) _, HN.out, rfl⟩
      | ok t r b2 =>
        rw [hq] at hcall
        have HB := lay (many_ok HM.out hq)
        have HMm := lay hm
        clear hq hm
        have hown := fun k hk => (hB.own k hk).2
        go_wp2_with fail
        refine hcall.mono ?_
        rintro e w2 ⟨hG, A2, c2, a2, rfl, ha2, hr2, hbb, hb42, hH, hF⟩
        have HR2 := lay hr2
        clear hr2
        have hz2 : w.heap.size + 1 < w2.heap.size := by have := hG.size; omega
        have hz2' : w.heap.size < w2.heap.size := by omega
        have hzw2 := hG.size
        have hk2 := hk0.below hG hw0
        have q0 := hk2.cell 0
        have q1 := hk2.cell 1
        have q2 := hk2.cell 2
        have q3 := hk2.cell 3
        have q4 := hk2.cell 4
        have q5 := hk2.cell 5
        have q6 := hk2.cell 6
        simp at q0 q1 q2 q3 q4 q5 q6
        have hB2 := (hB.below hG).below ((Below.refl _ _).alloc (Nat.le_refl _) (.cells #[.int .i64 t.k, .int .u64 t.n, .string t.s, .slice A2 t.l.length c2, .int .i64 (a2 : Nat), .int .i64 (b2 : Nat), .int .i64 0] 61))
        have hH2 := hH.move (Nat.le_refl _) (Nat.le_refl _) (fun p _ p2 => World.cell?_alloc_lt w2 (.cells #[.int .i64 t.k, .int .u64 t.n, .string t.s, .slice A2 t.l.length c2, .int .i64 (a2 : Nat), .int .i64 (b2 : Nat), .int .i64 0] 61) p p2)
        have hxk := Blk.new w2 61 #[.int .i64 t.k, .int .u64 t.n, .string t.s, .slice A2 t.l.length c2, .int .i64 (a2 : Nat), .int .i64 (b2 : Nat), .int .i64 0]
        have hk3 := hk2.alloc (.cells #[.int .i64 t.k, .int .u64 t.n, .string t.s, .slice A2 t.l.length c2, .int .i64 (a2 : Nat), .int .i64 (b2 : Nat), .int .i64 0] 61)
        have hk1' := (hk1.below hG hw1).alloc (.cells #[.int .i64 t.k, .int .u64 t.n, .string t.s, .slice A2 t.l.length c2, .int .i64 (a2 : Nat), .int .i64 (b2 : Nat), .int .i64 0] 61)
        go_wp2_with (at_builtin; refine wpList_append_term rfl _ _ rfl (t := t) rfl hB2 rfl (by simp; omega) hH2 (by simp) (by omega) hown hF.1 hF.2.1 hF.2.2 rfl (by simp) (by omega) ?next)
        case next =>
          intro v3 w3 hB3 hbe3 hz3 hkeep3
          obtain ⟨A3, c3, rfl, hc3⟩ := hB3.form
          have hxk3 := hkeep3 _ _ _ (by decide) hxk
          have hk4 := Blk.below hk3 hbe3 (by omega)
          have hk5 := Blk.below hk1' hbe3 (by omega)
          clear hkeep3 q0 q1 q2 q3 q4 q5 q6 z0 z1 z2 z3 z4 z5 z6
          have q0 := hk4.cell 0
          have q1 := hk4.cell 1
          have q2 := hk4.cell 2
          have q3 := hk4.cell 3
          have q4 := hk4.cell 4
          have q5 := hk4.cell 5
          have q6 := hk4.cell 6
          have y4 := hxk3.cell 4
          have y5 := hxk3.cell 5
          simp at q0 q1 q2 q3 q4 q5 q6 y4 y5
          have f3 := hk4.frozen 3
          have f4 := hk4.frozen 4
          have f5 := hk4.frozen 5
          have hzz := hk4.lt
          go_wp2_with fail
          have hBw3 := ((hbw.trans (hG.mono hbw.size)).alloc (Nat.le_trans hbw.size hG.size) (.cells #[.int .i64 t.k, .int .u64 t.n, .string t.s, .slice A2 t.l.length c2, .int .i64 (a2 : Nat), .int .i64 (b2 : Nat), .int .i64 0] 61)).trans (hbe3.mono (Nat.le_add_right _ 2))
          have hbox := ((hk4.put 3 (.slice A3 (l ++ [t]).length c3)).put 4 (.int .i64 (a2 : Nat))).put 5 (.int .i64 (b2 : Nat))
          have hlen1 : (l ++ [t]).length = l.length + 1 := by simp
          rw [hlen1] at hbox
          refine ⟨⟨l ++ [t], A3, c3, a2, b2, ?_, by omega, ?_, ?_, ?_, ha2, by omega, hb42, ?_, ?_, ?_⟩, by simp [intOf]⟩
          · rw [hlen1, show cnt - (l.length + 1) = m by have := HMm.out; omega]
          · rw [hlen1]
            simpa using hbox
          · exact ((hk5.far (p := ⟨w.heap.size, 3, none⟩) (by show w.heap.size + 1 ≠ w.heap.size; omega) _).far (p := ⟨w.heap.size, 4, none⟩) (by show w.heap.size + 1 ≠ w.heap.size; omega) _).far (p := ⟨w.heap.size, 5, none⟩) (by show w.heap.size + 1 ≠ w.heap.size; omega) _
          · exact ((hB3.kept (grown_set _ w.heap.size 3 _) (fun g e => by injection e with e; omega)).kept (grown_set _ w.heap.size 4 _) (fun g e => by injection e with e; omega)).kept (grown_set _ w.heap.size 5 _) (fun g e => by injection e with e; omega)
          · exact ((hBw3.setCell (p := ⟨w.heap.size, 3, none⟩) (Nat.le_refl _) _).setCell (p := ⟨w.heap.size, 4, none⟩) (Nat.le_refl _) _).setCell (p := ⟨w.heap.size, 5, none⟩) (Nat.le_refl _) _
          · have := hk5.lt; simp only [World.size_setCell]; omega
          · rw [hlen1, HB.out, HR2.out, show cnt - (l.length + 1) = m by have := HMm.out; omega]
            exact lay rfl
    · have HE := lay (show cnt - l.length = 0 by omega)
      rw [HE.out] at HM ⊢
      have hHl := hB.held (by omega)
      have q0 := hk1.cell 0
      have q1 := hk1.cell 1
      have q2 := hk1.cell 2
      have q3 := hk1.cell 3
      have q4 := hk1.cell 4
      have q5 := hk1.cell 5
      have q6 := hk1.cell 6
      simp at q0 q1 q2 q3 q4 q5 q6
      have f0 := hk1.frozen 0
      have f1 := hk1.frozen 1
      have f2 := hk1.frozen 2
      have f3 := hk1.frozen 3
      have f4 := hk1.frozen 4
      have f5 := hk1.frozen 5
      have f6 := hk1.frozen 6
      go_wp2_with fail
      refine bodyPost_ret (v := got k n ⟨#[]⟩ (.slice A l.length c) (a' : Nat) (b' : Nat) 0) (by simp [results, Try.results50, go_sem, hw0, hw1, q0, q1, q2, q3, q4, q5, q6]) rfl ?_
      rw [many_end HM.out]
      refine ⟨seven_below hbw _ _ _ _ _ _ _, A, c, a', rfl, ha', rfl, by omega, hb4', ?_⟩
      exact hHl.move (by omega) (by simp [seven]) fun p p1 p2 => seven_cell _ _ _ _ _ _ _ _ _ _ (by omega)
end Go.Proofs.Ytgdmhfdlijeogaa.refReads
