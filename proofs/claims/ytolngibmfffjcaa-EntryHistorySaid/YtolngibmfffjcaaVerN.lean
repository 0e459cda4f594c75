/- The walk of EntryHistory, out of what is asked of the program's own calls. -/
import Derived.Test.YtolngibmfffjcaaVerM


namespace Go.Proofs.Ytolngibmfffjcaa.vers
set_option linter.unusedVariables false
set_option linter.unusedSimpArgs false
open Go.RowKit Go.Proofs.Ytolngibmfffjcaa.base Go.Proofs.Ytolngibmfffjcaa.quotas

/-- an own box that holds a call -/
def CBox (w : World) (g : Nat) (x : C) : Prop := (w.cell? ⟨g, 0, none⟩ = some (.bool x.o) ∧ w.cell? ⟨g, 1, none⟩ = some (.string x.v) ∧ w.cell? ⟨g, 2, none⟩ = some (.string x.t)) ∧ g < w.heap.size
theorem CBox.new (w : World) (x : C) : CBox (w.alloc (.cells #[.bool x.o, .string x.v, .string x.t] 53)) w.heap.size x := by
  have k := Blk.new w 53 #[.bool x.o, .string x.v, .string x.t]
  exact ⟨⟨k.cell 0, k.cell 1, k.cell 2⟩, by simp⟩
theorem CBox.next {w w' : World} {g : Nat} {x : C} (h : CBox w g x) (hb : Below w.heap.size w w') : CBox w' g x := by
  obtain ⟨⟨a, b, c⟩, d⟩ := h
  have hs := hb.size
  refine ⟨⟨?_, ?_, ?_⟩, by omega⟩ <;> (rw [hb.cell (by simpa using d)]; assumption)
theorem CBox.alloc {w : World} {g : Nat} {x : C} (h : CBox w g x) (ob : Obj) : CBox (w.alloc ob) g x := h.next ((Below.refl _ _).alloc (Nat.le_refl _) _)
theorem In7.far {w0 w w' : World} {g B : Nat} {a b c d e f h : Int} (h1 : In7 w0 g a b c d e f h w) (hb : Below B w w') (hg : g < B) (hB : w0.heap.size ≤ B) : In7 w0 g a b c d e f h w' := by
  obtain ⟨⟨c0, c1, c2, c3, c4, c5, c6⟩, h2, h3, h4⟩ := h1
  have hs := hb.size
  refine ⟨⟨?_, ?_, ?_, ?_, ?_, ?_, ?_⟩, h2, by omega, h4.trans (hb.mono hB)⟩ <;> (rw [hb.cell (by simpa using hg)]; assumption)
theorem EBox.grown {w w' : World} {g : Nat} {s : ByteArray} {u : Value} {row : Option Nat} (h : EBox w g s u) (hg : w.grownBy w' row) (hr : row ≠ some g) : EBox w' g s u := by
  obtain ⟨⟨a, b⟩, d⟩ := h
  have hs := hg.size
  refine ⟨⟨?_, ?_⟩, by omega⟩ <;> (rw [World.cell?_of_block (hg.block g d (fun e => hr e.symm))]; assumption)
theorem OwnV.some {lo : Nat} {w : World} {l : List V} {v : Value} (h : OwnV lo w l v) (hl : 0 < l.length) : ∃ g n c, v = .slice (some ⟨g, 0, none⟩) n c ∧ Hid (n = l.length) ∧ l.length ≤ c := by
  rcases h.1.2 with ⟨rfl, hn⟩ | ⟨g, cap, cur, rfl, _, _, hc, _⟩
  · omega
  · exact ⟨g, _, cap, rfl, lay rfl, hc⟩
theorem OwnV.vs_at {lo : Nat} {w : World} {l : List V} {A : Option Addr} {n c : Nat} (h : OwnV lo w l (.slice A n c)) : Vs w w.heap.size l A c := by
  obtain ⟨A', c', e, hv, _⟩ := h.vs
  cases e
  exact hv
theorem cellsV_drop : ∀ (l : List V) (k : Nat), cellsV (l.drop k) = (cellsV l).drop (3 * k)
  | l, 0 => rfl
  | [], k + 1 => by simp [cellsV]
  | x :: l, k + 1 => by
    rw [List.drop_succ_cons, cellsV_drop l k, cellsV, show 3 * (k + 1) = x.cells.length + 3 * k by simp [V.cells]; omega, List.drop_append, List.drop_eq_nil_of_le (Nat.le_add_right _ _), List.nil_append, Nat.add_sub_cancel_left]
theorem Vs.drop {w : World} {B : Nat} {l : List V} {b o c : Nat} (h : Vs w B l (some ⟨b, o, none⟩) c) (k : Nat) : Vs w B (l.drop k) (some ⟨b, o + k * 3, none⟩) (c - k) := by
  obtain ⟨h1, h2, h3, h4, h5⟩ := h
  refine ⟨by rw [List.length_drop]; omega, by rw [List.length_drop]; omega, (fun e => by cases e), fun j u hj => ?_, fun x hx => h5 x (List.mem_of_mem_drop hx)⟩
  rw [cellsV_drop, List.getElem?_drop] at hj
  obtain ⟨b', o', e, hb, hc⟩ := h4 _ _ hj
  cases e
  exact ⟨b, o + k * 3, rfl, hb, by rw [show o + k * 3 + j = o + (3 * k + j) by omega]; exact hc⟩
theorem like_same {K : List V} {A A' : Option Addr} {n n' cap cap' : Nat} {w : World} (hv : Vs w w.heap.size K A cap) (hv' : Vs w w.heap.size K A' cap') (hn : n = K.length) (hn' : n' = K.length) :
    Calls Try.prog 18 #[.slice A n cap, .slice A' n' cap'] w fun x w' => x = .returned (.bool true) ∧ Below w.heap.size w w' := by
  subst hn hn'
  have h := likeVs_any K K A A' cap cap' w hv hv'
  rwa [dec_true] at h
theorem max_low (x : Int) : 0 ≤ max 0 x := Int.le_max_left 0 x

/-- a round's head of EntryHistory -/
def THead (w : World) (a b c d e f h : Int) (s : ByteArray) (cl : List C) (x8 x9 x25 : Value) (wr : World) : Prop :=
  ∃ (j : Nat) (all : List V) (no : Int) (ue : Value), j ≤ cl.length ∧ j ≤ 60 ∧ all.length ≤ j ∧ 0 ≤ no ∧ no ≤ j ∧ x25 = .int .i64 j ∧ x9 = .int .i64 no ∧ OwnV (w.heap.size + 2) wr all x8 ∧
    In7 w w.heap.size a b c d e f h wr ∧ Blk wr (w.heap.size + 1) 26 #[.string s, ue] ∧ HV (w.heap.size + 2) wr (lastOf e all) ue ∧ Hid (Ends no c d all)

set_option maxRecDepth 100000 in
set_option maxHeartbeats 4000000 in
theorem history_ok (hp : PutIs) (hq : OverIs) (a b c d e f h : Int) (s : ByteArray) (cl : List C) (A : Option Addr) (cap : Nat) (w : World) (hc : Cs w w.heap.size cl A cap) (hk : ok a b c d e f h) (hs : s.size ≠ 0) (hsb : (s.size : Int) ≤ b) :
    Calls Try.prog 10 #[.agg #[.int .i64 a, .int .i64 b, .int .i64 c, .int .i64 d, .int .i64 e, .int .i64 f, .int .i64 h], .string s, .slice A cl.length cap] w fun x w' => x = .returned (.bool true) ∧ Below w.heap.size w w' := by
  have hn0 : nbad a b c d e f h s [] = 0 := by
    rw [nbad_yes hk, if_neg hs, if_neg (by omega), if_neg (by have := hk.2.2.2.2.1.1; simp; omega)]; rfl
  have he1 := hk.2.2.2.2.1.1
  have he2 := hk.2.2.2.2.1.2
  have hI0 := (In7.new w a b c d e f h).alloc (.cells #[.string s, .slice none 0 0] 26)
  have hG0 := Blk.new (w.alloc (.cells #[.int .i64 a, .int .i64 b, .int .i64 c, .int .i64 d, .int .i64 e, .int .i64 f, .int .i64 h] 23)) 26 #[.string s, .slice none 0 0]
  have hcall := named_any a b c d e f h s [] none 0 ((w.alloc (.cells #[.int .i64 a, .int .i64 b, .int .i64 c, .int .i64 d, .int .i64 e, .int .i64 f, .int .i64 h] 23)).alloc (.cells #[.string s, .slice none 0 0] 26)) ⟨Nat.le_refl _, by simp, (fun _ => rfl), Rd.nil _ _ _, (fun x hx => by cases hx)⟩
  rw [hn0] at hcall
  simp only [List.length_nil] at hcall
  simp only [World.size_alloc] at hG0
  clear hn0
  go_enter Try.func10, Try.ntmps10
  go_wp2_with fail
  refine hcall.mono ?_
  rintro z w1 ⟨rfl, hb1⟩
  have L1 : THead w a b c d e f h s cl (.slice none 0 0) (.int .i64 0) (.int .i64 0) w1 :=
    ⟨0, [], 0, .slice none 0 0, Nat.zero_le _, by omega, Nat.le_refl _, Int.le_refl _, Int.le_refl _, rfl, rfl, OwnV.nil _ _, hI0.next hb1, hG0.below hb1 (by simp), by rw [show lastOf e [] = [] by unfold lastOf; simp]; exact HV.nil _ _, lay (Ends.nil _ _)⟩
  clear hI0 hG0 hb1 hcall
  go_wp2_with fail
  go_loopw [8, 9, 25] (fun x8 x9 x25 wr => THead w a b c d e f h s cl x8 x9 x25 wr) (fun _ _ x _ => cl.length - (intOf x).toNat)
  case atStart => exact L1
  case round =>
    clear L1
    obtain ⟨j, all, no, ue, hj, hj60, hlen, hno0, hno, rfl, rfl, hO, hI, hG, hH, hE⟩ := hrel
    obtain ⟨⟨c0, c1, c2, c3, c4, c5, c6⟩, l1, l2, b1⟩ := id hI
    have hgl := hG.lt
    have g0 := hG.cell 0
    have g1 := hG.cell 1
    simp at g0 g1
    have k0 := hG.frozen 0
    have k1 := hG.frozen 1
    obtain ⟨AE, nE, cE, rfl, hnE⟩ := hH.shape
    obtain ⟨AO, nO, cO, rfl, hnO⟩ := hO.shape
    by_cases hlt : j < cl.length
    · obtain ⟨bk, off, hA, hbk, v0, v1, v2⟩ := (hc.below b1).at_ hlt
      first | subst hA | cases hA
      by_cases h60 : j = 60
      · have d60 : decide ((60 : Int) ≤ (j : Int)) = true := decide_eq_true (by omega)
        clear h60
        go_wp2_with fail
        go_ret
        exact ⟨rfl, b1.alloc b1.size _⟩
      · have d60 : decide ((60 : Int) ≤ (j : Int)) = false := decide_eq_false (by omega)
        have hfj := hc.2.2.2.2 _ (List.getElem_mem hlt)
        have hj59 : j < 60 := by omega
        clear h60
        by_cases hb1' : c < (cl[j].v.size : Int)
        · cases ho : cl[j].o with
          | false =>
            have hV := (hH.alloc (.cells #[.bool false, .string cl[j].v, .string cl[j].t] 53)).vs
            have hP := hp a b c d e f h s (lastOf e all) AE cE cl[j].v cl[j].t (wr.alloc (.cells #[.bool false, .string cl[j].v, .string cl[j].t] 53)) hV hfj
            rw [← hnE.out, add_ends hk hs hsb hE.out ⟨hno0, by omega⟩] at hP
            have I1 := hI.alloc (.cells #[.bool false, .string cl[j].v, .string cl[j].t] 53)
            have G1 := hG.alloc (.cells #[.bool false, .string cl[j].v, .string cl[j].t] 53)
            have H1 := hH.alloc (.cells #[.bool false, .string cl[j].v, .string cl[j].t] 53)
            have O1 := hO.below ((Below.refl _ _).alloc (Nat.le_refl _) (.cells #[.bool false, .string cl[j].v, .string cl[j].t] 53))
            have C1 := CBox.new wr ⟨false, cl[j].v, cl[j].t⟩
            have hOo := hO.own
            rw [ho] at v0
            have g1' : decide (c < (cl[j].v.size : Int)) = true := decide_eq_true hb1'
            rw [if_pos (Or.inl hb1')] at hP
            go_wp2_with fail
            refine hP.mono ?_
            rintro z w2 ⟨ux, ud, rfl, hb2, hux, hud⟩
            have I2 := I1.next hb2
            have G2 := G1.below hb2 (by simp; omega)
            have H2 := H1.next hb2
            have O2 := O1.below hb2
            have C2 := C1.next hb2
            clear hb2 I1 G1 H1 O1 C1 hP hV hI hG hH hO v0 v1 v2 hbk c0 c1 c2 c3 c4 c5 c6 l1 l2 b1 g0 g1 k0 k1
            obtain ⟨⟨c0, c1, c2, c3, c4, c5, c6⟩, l1, l2, b1⟩ := id I2
            obtain ⟨⟨x0, x1, x2⟩, x3⟩ := id C2
            have hgl2 := G2.lt
            have g0 := G2.cell 0
            have g1 := G2.cell 1
            simp at g0 g1
            have k0 := G2.frozen 0
            have k1 := G2.frozen 1
            simp only [badA] at hux hud ⊢
            obtain ⟨AX, nX, cX, rfl, hnX⟩ := hux.shape
            obtain ⟨AY, nY, cY, rfl, hnY⟩ := hud.shape
            go_wp2_with fail
            refine ⟨⟨j + 1, all, no, .slice AE nE cE, hlt, by omega, by omega, hno0, by omega, by go_num, rfl, O2.below ((Below.refl _ _).alloc (Nat.le_refl _) _), I2.alloc _, G2.alloc _, H2.alloc _, hE⟩, by simp [intOf]; omega⟩
          | true =>
            have hV := (hH.alloc (.cells #[.bool true, .string cl[j].v, .string cl[j].t] 53)).vs
            have hP := hq a b c d e f h s (lastOf e all) AE cE cl[j].v cl[j].t (wr.alloc (.cells #[.bool true, .string cl[j].v, .string cl[j].t] 53)) hV hfj
            rw [← hnE.out, add_ends hk hs hsb hE.out ⟨hno0, by omega⟩] at hP
            have I1 := hI.alloc (.cells #[.bool true, .string cl[j].v, .string cl[j].t] 53)
            have G1 := hG.alloc (.cells #[.bool true, .string cl[j].v, .string cl[j].t] 53)
            have H1 := hH.alloc (.cells #[.bool true, .string cl[j].v, .string cl[j].t] 53)
            have O1 := hO.below ((Below.refl _ _).alloc (Nat.le_refl _) (.cells #[.bool true, .string cl[j].v, .string cl[j].t] 53))
            have C1 := CBox.new wr ⟨true, cl[j].v, cl[j].t⟩
            have hOo := hO.own
            rw [ho] at v0
            have g1' : decide (c < (cl[j].v.size : Int)) = true := decide_eq_true hb1'
            rw [if_pos (Or.inl hb1')] at hP
            go_wp2_with fail
            refine hP.mono ?_
            rintro z w2 ⟨ux, ud, rfl, hb2, hux, hud⟩
            have I2 := I1.next hb2
            have G2 := G1.below hb2 (by simp; omega)
            have H2 := H1.next hb2
            have O2 := O1.below hb2
            have C2 := C1.next hb2
            clear hb2 I1 G1 H1 O1 C1 hP hV hI hG hH hO v0 v1 v2 hbk c0 c1 c2 c3 c4 c5 c6 l1 l2 b1 g0 g1 k0 k1
            obtain ⟨⟨c0, c1, c2, c3, c4, c5, c6⟩, l1, l2, b1⟩ := id I2
            obtain ⟨⟨x0, x1, x2⟩, x3⟩ := id C2
            have hgl2 := G2.lt
            have g0 := G2.cell 0
            have g1 := G2.cell 1
            simp at g0 g1
            have k0 := G2.frozen 0
            have k1 := G2.frozen 1
            simp only [badA] at hux hud ⊢
            obtain ⟨AX, nX, cX, rfl, hnX⟩ := hux.shape
            obtain ⟨AY, nY, cY, rfl, hnY⟩ := hud.shape
            go_wp2_with fail
            refine ⟨⟨j + 1, all, no, .slice AE nE cE, hlt, by omega, by omega, hno0, by omega, by go_num, rfl, O2.below ((Below.refl _ _).alloc (Nat.le_refl _) _), I2.alloc _, G2.alloc _, H2.alloc _, hE⟩, by simp [intOf]; omega⟩
        · by_cases hb2' : d < (cl[j].t.size : Int)
          · cases ho : cl[j].o with
            | false =>
              have hV := (hH.alloc (.cells #[.bool false, .string cl[j].v, .string cl[j].t] 53)).vs
              have hP := hp a b c d e f h s (lastOf e all) AE cE cl[j].v cl[j].t (wr.alloc (.cells #[.bool false, .string cl[j].v, .string cl[j].t] 53)) hV hfj
              rw [← hnE.out, add_ends hk hs hsb hE.out ⟨hno0, by omega⟩] at hP
              have I1 := hI.alloc (.cells #[.bool false, .string cl[j].v, .string cl[j].t] 53)
              have G1 := hG.alloc (.cells #[.bool false, .string cl[j].v, .string cl[j].t] 53)
              have H1 := hH.alloc (.cells #[.bool false, .string cl[j].v, .string cl[j].t] 53)
              have O1 := hO.below ((Below.refl _ _).alloc (Nat.le_refl _) (.cells #[.bool false, .string cl[j].v, .string cl[j].t] 53))
              have C1 := CBox.new wr ⟨false, cl[j].v, cl[j].t⟩
              have hOo := hO.own
              rw [ho] at v0
              have g1' : decide (c < (cl[j].v.size : Int)) = false := decide_eq_false hb1'
              have g2' : decide (d < (cl[j].t.size : Int)) = true := decide_eq_true hb2'
              rw [if_pos (Or.inr hb2')] at hP
              go_wp2_with fail
              refine hP.mono ?_
              rintro z w2 ⟨ux, ud, rfl, hb2, hux, hud⟩
              have I2 := I1.next hb2
              have G2 := G1.below hb2 (by simp; omega)
              have H2 := H1.next hb2
              have O2 := O1.below hb2
              have C2 := C1.next hb2
              clear hb2 I1 G1 H1 O1 C1 hP hV hI hG hH hO v0 v1 v2 hbk c0 c1 c2 c3 c4 c5 c6 l1 l2 b1 g0 g1 k0 k1
              obtain ⟨⟨c0, c1, c2, c3, c4, c5, c6⟩, l1, l2, b1⟩ := id I2
              obtain ⟨⟨x0, x1, x2⟩, x3⟩ := id C2
              have hgl2 := G2.lt
              have g0 := G2.cell 0
              have g1 := G2.cell 1
              simp at g0 g1
              have k0 := G2.frozen 0
              have k1 := G2.frozen 1
              simp only [badA] at hux hud ⊢
              obtain ⟨AX, nX, cX, rfl, hnX⟩ := hux.shape
              obtain ⟨AY, nY, cY, rfl, hnY⟩ := hud.shape
              go_wp2_with fail
              refine ⟨⟨j + 1, all, no, .slice AE nE cE, hlt, by omega, by omega, hno0, by omega, by go_num, rfl, O2.below ((Below.refl _ _).alloc (Nat.le_refl _) _), I2.alloc _, G2.alloc _, H2.alloc _, hE⟩, by simp [intOf]; omega⟩
            | true =>
              have hV := (hH.alloc (.cells #[.bool true, .string cl[j].v, .string cl[j].t] 53)).vs
              have hP := hq a b c d e f h s (lastOf e all) AE cE cl[j].v cl[j].t (wr.alloc (.cells #[.bool true, .string cl[j].v, .string cl[j].t] 53)) hV hfj
              rw [← hnE.out, add_ends hk hs hsb hE.out ⟨hno0, by omega⟩] at hP
              have I1 := hI.alloc (.cells #[.bool true, .string cl[j].v, .string cl[j].t] 53)
              have G1 := hG.alloc (.cells #[.bool true, .string cl[j].v, .string cl[j].t] 53)
              have H1 := hH.alloc (.cells #[.bool true, .string cl[j].v, .string cl[j].t] 53)
              have O1 := hO.below ((Below.refl _ _).alloc (Nat.le_refl _) (.cells #[.bool true, .string cl[j].v, .string cl[j].t] 53))
              have C1 := CBox.new wr ⟨true, cl[j].v, cl[j].t⟩
              have hOo := hO.own
              rw [ho] at v0
              have g1' : decide (c < (cl[j].v.size : Int)) = false := decide_eq_false hb1'
              have g2' : decide (d < (cl[j].t.size : Int)) = true := decide_eq_true hb2'
              rw [if_pos (Or.inr hb2')] at hP
              go_wp2_with fail
              refine hP.mono ?_
              rintro z w2 ⟨ux, ud, rfl, hb2, hux, hud⟩
              have I2 := I1.next hb2
              have G2 := G1.below hb2 (by simp; omega)
              have H2 := H1.next hb2
              have O2 := O1.below hb2
              have C2 := C1.next hb2
              clear hb2 I1 G1 H1 O1 C1 hP hV hI hG hH hO v0 v1 v2 hbk c0 c1 c2 c3 c4 c5 c6 l1 l2 b1 g0 g1 k0 k1
              obtain ⟨⟨c0, c1, c2, c3, c4, c5, c6⟩, l1, l2, b1⟩ := id I2
              obtain ⟨⟨x0, x1, x2⟩, x3⟩ := id C2
              have hgl2 := G2.lt
              have g0 := G2.cell 0
              have g1 := G2.cell 1
              simp at g0 g1
              have k0 := G2.frozen 0
              have k1 := G2.frozen 1
              simp only [badA] at hux hud ⊢
              obtain ⟨AX, nX, cX, rfl, hnX⟩ := hux.shape
              obtain ⟨AY, nY, cY, rfl, hnY⟩ := hud.shape
              go_wp2_with fail
              refine ⟨⟨j + 1, all, no, .slice AE nE cE, hlt, by omega, by omega, hno0, by omega, by go_num, rfl, O2.below ((Below.refl _ _).alloc (Nat.le_refl _) _), I2.alloc _, G2.alloc _, H2.alloc _, hE⟩, by simp [intOf]; omega⟩
          · cases ho : cl[j].o with
            | false =>
              by_cases hfr : (all.length : Int) + 1 ≤ e
              · have hV := (hH.alloc (.cells #[.bool false, .string cl[j].v, .string cl[j].t] 53)).vs
                have hP := hp a b c d e f h s (lastOf e all) AE cE cl[j].v cl[j].t (wr.alloc (.cells #[.bool false, .string cl[j].v, .string cl[j].t] 53)) hV hfj
                rw [← hnE.out, add_ends hk hs hsb hE.out ⟨hno0, by omega⟩] at hP
                have I1 := hI.alloc (.cells #[.bool false, .string cl[j].v, .string cl[j].t] 53)
                have G1 := hG.alloc (.cells #[.bool false, .string cl[j].v, .string cl[j].t] 53)
                have H1 := hH.alloc (.cells #[.bool false, .string cl[j].v, .string cl[j].t] 53)
                have O1 := hO.below ((Below.refl _ _).alloc (Nat.le_refl _) (.cells #[.bool false, .string cl[j].v, .string cl[j].t] 53))
                have C1 := CBox.new wr ⟨false, cl[j].v, cl[j].t⟩
                have hOo := hO.own
                rw [ho] at v0
                have g1' : decide (c < (cl[j].v.size : Int)) = false := decide_eq_false hb1'
                have g2' : decide (d < (cl[j].t.size : Int)) = false := decide_eq_false hb2'
                rw [if_neg (by omega)] at hP
                go_wp2_with fail
                refine hP.mono ?_
                rintro z w2 ⟨ux, ud, rfl, hb2, hux, hud⟩
                have I2 := I1.next hb2
                have G2 := G1.below hb2 (by simp; omega)
                have H2 := H1.next hb2
                have O2 := O1.below hb2
                have C2 := C1.next hb2
                clear hb2 I1 G1 H1 O1 C1 hP hV hI hG hH hO v0 v1 v2 hbk c0 c1 c2 c3 c4 c5 c6 l1 l2 b1 g0 g1 k0 k1
                obtain ⟨⟨c0, c1, c2, c3, c4, c5, c6⟩, l1, l2, b1⟩ := id I2
                obtain ⟨⟨x0, x1, x2⟩, x3⟩ := id C2
                have hgl2 := G2.lt
                have g0 := G2.cell 0
                have g1 := G2.cell 1
                simp at g0 g1
                have k0 := G2.frozen 0
                have k1 := G2.frozen 1
                simp only at hux hud ⊢
                rw [put_ends he1] at hux
                obtain ⟨AX, nX, cX, rfl, hnX⟩ := hux.shape
                obtain ⟨AY, nY, cY, rfl, hnY⟩ := hud.shape
                have hfx : (⟨no + 1, cl[j].v, cl[j].t⟩ : V).fits := ⟨⟨by show (-9223372036854775808 : Int) ≤ no + 1; omega, by show no + 1 ≤ (9223372036854775807 : Int); omega⟩, hfj⟩
                have hone := Vs.one (w2.alloc (.cells #[.string s, .slice AX nX cX] 26)) ⟨no + 1, cl[j].v, cl[j].t⟩ hfx
                simp only [World.size_alloc] at hone
                have hBW : Below w2.heap.size w2 ((w2.alloc (.cells #[.string s, .slice AX nX cX] 26)).alloc (.cells #[.int .i64 (no + 1), .string cl[j].v, .string cl[j].t] 39)) := ((Below.refl _ _).alloc (Nat.le_refl _) _).alloc (by simp) _
                have hX2 := O2.below hBW
                have hlen40 : ((all).length + [(⟨no + 1, cl[j].v, cl[j].t⟩ : V)].length) * 40 ≤ 140737488355328 := by simp; omega
                have hrow : ∀ k, (Value.slice AO nO cO).ownBlock = some k → w.heap.size + 2 ≤ k ∧ k < wr.heap.size := fun k hk => hOo k hk
                go_wp2_with (at_builtin; apply wpList_append_vs (s := .tmp 66) (x := .tmp 73) (lo := w.heap.size + 2) (B := w2.heap.size + 1 + 1) (l := all) (m := [⟨no + 1, cl[j].v, cl[j].t⟩]) (A := some ⟨w2.heap.size + 1, 0, none⟩) (n := 1) (c := 1) (v := .slice AO nO cO); (case hgd => rfl); (case ho => rfl); (case hB => exact hX2); (case hs => rfl); (case hlo => (simp; omega)); (case hx => rfl); (case hn => rfl); (case hv => exact hone); (case hlen => exact hlen40); intro v' w3 hown hg3 hat; obtain ⟨g9, n2, cap2, rfl, hn2, hc2⟩ := hown.some (by simp); obtain rfl : n2 = all.length + 1 := hn2.out.trans (by simp); have hs3 := hg3.size; simp at hs3; have hBg : Below (w.heap.size + 2) w2 w3 := (hBW.mono (by omega)).grown hg3 (by simp; omega) (fun k hk => (hrow k hk).1); have I3 := In7.far I2 hBg (by omega) (by omega); have X3 : EBox w3 w2.heap.size s (.slice AX nX cX) := ((EBox.new w2 s (.slice AX nX cX)).alloc (.cells #[.int .i64 (no + 1), .string cl[j].v, .string cl[j].t] 39)).grown hg3 (fun e => by have := hrow _ e; omega); clear c0 c1 c2 c3 c4 c5 c6 l1 l2 b1; obtain ⟨⟨c0, c1, c2, c3, c4, c5, c6⟩, l1, l2, b1⟩ := id I3)
                have H3 := hux.move (w2 := w3) (by omega) (fun p p1 p2 => by
                  have hne : some p.block ≠ (Value.slice AO nO cO).ownBlock := fun e => by have := hrow p.block e.symm; simp at p1; omega
                  rw [World.cell?_of_block (hg3.block p.block (by simp; omega) hne), hBW.cell p2])
                have G3 := G2.below hBg (by omega)
                obtain rfl := hnX.out
                obtain ⟨N, hN, hM⟩ := norms (fun w' => EBox w' w2.heap.size s (.slice AX (lastOf e (all ++ [(⟨no + 1, cl[j].v, cl[j].t⟩ : V)])).length cX) ∧ Below w3.heap.size w3 w') w3 ⟨X3, Below.refl _ _⟩
                have hne : Nonempty World := ⟨w⟩
                have q0 := fun n => (hN n).1.1.1
                have q1 := fun n => (hN n).1.1.2
                have hsl : lastOf e (all ++ [(⟨no + 1, cl[j].v, cl[j].t⟩ : V)]) = (all ++ [(⟨no + 1, cl[j].v, cl[j].t⟩ : V)]).drop 0 := by unfold lastOf; congr 1; simp; try omega
                have hVs := fun n => ((hown.below (hN n).2).vs_at.drop 0)
                rw [← hsl] at hVs
                have hKl : all.length + 1 = (lastOf e (all ++ [(⟨no + 1, cl[j].v, cl[j].t⟩ : V)])).length := by rw [hsl, List.length_drop]; simp; try omega
                simp only [Nat.zero_mul, Nat.add_zero, Nat.zero_add, Nat.sub_zero] at hVs
                have HC := lay (fun n => call_in (S := fun w' => EBox w' w2.heap.size s (.slice AX (lastOf e (all ++ [(⟨no + 1, cl[j].v, cl[j].t⟩ : V)])).length cX) ∧ Below w3.heap.size w3 w') (n := n) (fun _ _ hs hb => ⟨hs.1.next hb, seq hs.2 hb⟩) hN hM (like_same (H3.next (hN n).2).vs (hVs n) rfl hKl))
                have hck : ¬ cap2 = 0 := by simp at hc2; omega
                clear hsl hKl hVs hc2
                refine region_class N (by kernel_rfl) (by kernel_rfl) (hM _ ⟨EBox.next X3 ((Below.refl _ _).drew), (Below.refl _ _).drew⟩) ?_
                repeat (go_big_quiet_step ((go_at_call 18; exact HC.out _)))
                clear HC
                refine wpQuiet_nil ?_
                rintro _ ⟨n9, rfl⟩
                obtain ⟨X9, B9⟩ := hN n9
                generalize N n9 = w9 at X9 B9 ⊢
                clear q0 q1 hN hM N n9 hne X3 k0 k1 g0 g1 c0 c1 c2 c3 c4 c5 c6 l1 l2 b1 x0 x1 x2 x3
                have G9 := G3.below B9 (by omega)
                have k0 := G9.frozen 0
                have k1 := G9.frozen 1
                have g0 := G9.cell 0
                have g1 := G9.cell 1
                simp at g0 g1
                obtain ⟨⟨x0, x1⟩, x2⟩ := id X9
                have I9 := In7.next I3 B9
                have H9 := H3.next B9
                have O9 := hown.below B9
                have s9 := B9.size
                have hgl9 := G9.lt
                go_wp2_with fail
                refine ⟨⟨j + 1, all ++ [⟨no + 1, cl[j].v, cl[j].t⟩], no + 1, .slice AX (lastOf e (all ++ [(⟨no + 1, cl[j].v, cl[j].t⟩ : V)])).length cX, hlt, by omega, ?_, by omega, by omega, by go_num, rfl, (O9.setCell (by simp) _).setCell (by simp) _, ?_, ?_, ?_, ?_⟩, by simp [intOf]; omega⟩
                · simp; omega
                · exact In7.far I9 (B := w.heap.size + 1) (((Below.refl _ _).setCell (by simp) _).setCell (by simp) _) (by omega) (by omega)
                · simpa using (G9.put 0 (.string s)).put 1 (.slice AX (lastOf e (all ++ [(⟨no + 1, cl[j].v, cl[j].t⟩ : V)])).length cX)
                · exact ((H9.setCell (by simp; omega) _).setCell (by simp; omega) _).more (by simp; omega)
                · exact lay (Ends.snoc hE.out (by omega) (by omega) hno0)
              · have hfr1 : (0 : Int) ≤ (all.length : Int) + 1 - e := by omega
                have hfr2 : (all.length : Int) + 1 - e ≤ (all.length : Int) + 1 := by omega
                have hV := (hH.alloc (.cells #[.bool false, .string cl[j].v, .string cl[j].t] 53)).vs
                have hP := hp a b c d e f h s (lastOf e all) AE cE cl[j].v cl[j].t (wr.alloc (.cells #[.bool false, .string cl[j].v, .string cl[j].t] 53)) hV hfj
                rw [← hnE.out, add_ends hk hs hsb hE.out ⟨hno0, by omega⟩] at hP
                have I1 := hI.alloc (.cells #[.bool false, .string cl[j].v, .string cl[j].t] 53)
                have G1 := hG.alloc (.cells #[.bool false, .string cl[j].v, .string cl[j].t] 53)
                have H1 := hH.alloc (.cells #[.bool false, .string cl[j].v, .string cl[j].t] 53)
                have O1 := hO.below ((Below.refl _ _).alloc (Nat.le_refl _) (.cells #[.bool false, .string cl[j].v, .string cl[j].t] 53))
                have C1 := CBox.new wr ⟨false, cl[j].v, cl[j].t⟩
                have hOo := hO.own
                rw [ho] at v0
                have g1' : decide (c < (cl[j].v.size : Int)) = false := decide_eq_false hb1'
                have g2' : decide (d < (cl[j].t.size : Int)) = false := decide_eq_false hb2'
                rw [if_neg (by omega)] at hP
                go_wp2_with fail
                refine hP.mono ?_
                rintro z w2 ⟨ux, ud, rfl, hb2, hux, hud⟩
                have I2 := I1.next hb2
                have G2 := G1.below hb2 (by simp; omega)
                have H2 := H1.next hb2
                have O2 := O1.below hb2
                have C2 := C1.next hb2
                clear hb2 I1 G1 H1 O1 C1 hP hV hI hG hH hO v0 v1 v2 hbk c0 c1 c2 c3 c4 c5 c6 l1 l2 b1 g0 g1 k0 k1
                obtain ⟨⟨c0, c1, c2, c3, c4, c5, c6⟩, l1, l2, b1⟩ := id I2
                obtain ⟨⟨x0, x1, x2⟩, x3⟩ := id C2
                have hgl2 := G2.lt
                have g0 := G2.cell 0
                have g1 := G2.cell 1
                simp at g0 g1
                have k0 := G2.frozen 0
                have k1 := G2.frozen 1
                simp only at hux hud ⊢
                rw [put_ends he1] at hux
                obtain ⟨AX, nX, cX, rfl, hnX⟩ := hux.shape
                obtain ⟨AY, nY, cY, rfl, hnY⟩ := hud.shape
                have hfx : (⟨no + 1, cl[j].v, cl[j].t⟩ : V).fits := ⟨⟨by show (-9223372036854775808 : Int) ≤ no + 1; omega, by show no + 1 ≤ (9223372036854775807 : Int); omega⟩, hfj⟩
                have hone := Vs.one (w2.alloc (.cells #[.string s, .slice AX nX cX] 26)) ⟨no + 1, cl[j].v, cl[j].t⟩ hfx
                simp only [World.size_alloc] at hone
                have hBW : Below w2.heap.size w2 ((w2.alloc (.cells #[.string s, .slice AX nX cX] 26)).alloc (.cells #[.int .i64 (no + 1), .string cl[j].v, .string cl[j].t] 39)) := ((Below.refl _ _).alloc (Nat.le_refl _) _).alloc (by simp) _
                have hX2 := O2.below hBW
                have hlen40 : ((all).length + [(⟨no + 1, cl[j].v, cl[j].t⟩ : V)].length) * 40 ≤ 140737488355328 := by simp; omega
                have hrow : ∀ k, (Value.slice AO nO cO).ownBlock = some k → w.heap.size + 2 ≤ k ∧ k < wr.heap.size := fun k hk => hOo k hk
                go_wp2_with (at_builtin; apply wpList_append_vs (s := .tmp 66) (x := .tmp 73) (lo := w.heap.size + 2) (B := w2.heap.size + 1 + 1) (l := all) (m := [⟨no + 1, cl[j].v, cl[j].t⟩]) (A := some ⟨w2.heap.size + 1, 0, none⟩) (n := 1) (c := 1) (v := .slice AO nO cO); (case hgd => rfl); (case ho => rfl); (case hB => exact hX2); (case hs => rfl); (case hlo => (simp; omega)); (case hx => rfl); (case hn => rfl); (case hv => exact hone); (case hlen => exact hlen40); intro v' w3 hown hg3 hat; obtain ⟨g9, n2, cap2, rfl, hn2, hc2⟩ := hown.some (by simp); obtain rfl : n2 = all.length + 1 := hn2.out.trans (by simp); have hs3 := hg3.size; simp at hs3; have hBg : Below (w.heap.size + 2) w2 w3 := (hBW.mono (by omega)).grown hg3 (by simp; omega) (fun k hk => (hrow k hk).1); have I3 := In7.far I2 hBg (by omega) (by omega); have X3 : EBox w3 w2.heap.size s (.slice AX nX cX) := ((EBox.new w2 s (.slice AX nX cX)).alloc (.cells #[.int .i64 (no + 1), .string cl[j].v, .string cl[j].t] 39)).grown hg3 (fun e => by have := hrow _ e; omega); clear c0 c1 c2 c3 c4 c5 c6 l1 l2 b1; obtain ⟨⟨c0, c1, c2, c3, c4, c5, c6⟩, l1, l2, b1⟩ := id I3)
                have H3 := hux.move (w2 := w3) (by omega) (fun p p1 p2 => by
                  have hne : some p.block ≠ (Value.slice AO nO cO).ownBlock := fun e => by have := hrow p.block e.symm; simp at p1; omega
                  rw [World.cell?_of_block (hg3.block p.block (by simp; omega) hne), hBW.cell p2])
                have G3 := G2.below hBg (by omega)
                obtain rfl := hnX.out
                obtain ⟨N, hN, hM⟩ := norms (fun w' => EBox w' w2.heap.size s (.slice AX (lastOf e (all ++ [(⟨no + 1, cl[j].v, cl[j].t⟩ : V)])).length cX) ∧ Below w3.heap.size w3 w') w3 ⟨X3, Below.refl _ _⟩
                have hne : Nonempty World := ⟨w⟩
                have q0 := fun n => (hN n).1.1.1
                have q1 := fun n => (hN n).1.1.2
                have hsl : lastOf e (all ++ [(⟨no + 1, cl[j].v, cl[j].t⟩ : V)]) = (all ++ [(⟨no + 1, cl[j].v, cl[j].t⟩ : V)]).drop ((all.length : Int) + 1 - e).toNat := by unfold lastOf; congr 1; simp; try omega
                have hVs := fun n => ((hown.below (hN n).2).vs_at.drop ((all.length : Int) + 1 - e).toNat)
                rw [← hsl] at hVs
                have hKl : all.length + 1 - ((all.length : Int) + 1 - e).toNat = (lastOf e (all ++ [(⟨no + 1, cl[j].v, cl[j].t⟩ : V)])).length := by rw [hsl, List.length_drop]; simp; try omega
                simp only [Nat.zero_mul, Nat.add_zero, Nat.zero_add, Nat.sub_zero] at hVs
                have HC := lay (fun n => call_in (S := fun w' => EBox w' w2.heap.size s (.slice AX (lastOf e (all ++ [(⟨no + 1, cl[j].v, cl[j].t⟩ : V)])).length cX) ∧ Below w3.heap.size w3 w') (n := n) (fun _ _ hs hb => ⟨hs.1.next hb, seq hs.2 hb⟩) hN hM (like_same (H3.next (hN n).2).vs (hVs n) rfl hKl))
                have hck : ¬ cap2 = ((all.length : Int) + 1 - e).toNat := by simp at hc2; omega
                clear hsl hKl hVs hc2
                refine region_class N (by kernel_rfl) (by kernel_rfl) (hM _ ⟨EBox.next X3 ((Below.refl _ _).drew), (Below.refl _ _).drew⟩) ?_
                repeat (go_big_quiet_step ((go_at_call 18; exact HC.out _)))
                clear HC
                refine wpQuiet_nil ?_
                rintro _ ⟨n9, rfl⟩
                obtain ⟨X9, B9⟩ := hN n9
                generalize N n9 = w9 at X9 B9 ⊢
                clear q0 q1 hN hM N n9 hne X3 k0 k1 g0 g1 c0 c1 c2 c3 c4 c5 c6 l1 l2 b1 x0 x1 x2 x3
                have G9 := G3.below B9 (by omega)
                have k0 := G9.frozen 0
                have k1 := G9.frozen 1
                have g0 := G9.cell 0
                have g1 := G9.cell 1
                simp at g0 g1
                obtain ⟨⟨x0, x1⟩, x2⟩ := id X9
                have I9 := In7.next I3 B9
                have H9 := H3.next B9
                have O9 := hown.below B9
                have s9 := B9.size
                have hgl9 := G9.lt
                go_wp2_with fail
                refine ⟨⟨j + 1, all ++ [⟨no + 1, cl[j].v, cl[j].t⟩], no + 1, .slice AX (lastOf e (all ++ [(⟨no + 1, cl[j].v, cl[j].t⟩ : V)])).length cX, hlt, by omega, ?_, by omega, by omega, by go_num, rfl, (O9.setCell (by simp) _).setCell (by simp) _, ?_, ?_, ?_, ?_⟩, by simp [intOf]; omega⟩
                · simp; omega
                · exact In7.far I9 (B := w.heap.size + 1) (((Below.refl _ _).setCell (by simp) _).setCell (by simp) _) (by omega) (by omega)
                · simpa using (G9.put 0 (.string s)).put 1 (.slice AX (lastOf e (all ++ [(⟨no + 1, cl[j].v, cl[j].t⟩ : V)])).length cX)
                · exact ((H9.setCell (by simp; omega) _).setCell (by simp; omega) _).more (by simp; omega)
                · exact lay (Ends.snoc hE.out (by omega) (by omega) hno0)
            | true =>
              have hV := (hH.alloc (.cells #[.bool true, .string cl[j].v, .string cl[j].t] 53)).vs
              have hP := hq a b c d e f h s (lastOf e all) AE cE cl[j].v cl[j].t (wr.alloc (.cells #[.bool true, .string cl[j].v, .string cl[j].t] 53)) hV hfj
              rw [← hnE.out, add_ends hk hs hsb hE.out ⟨hno0, by omega⟩] at hP
              have I1 := hI.alloc (.cells #[.bool true, .string cl[j].v, .string cl[j].t] 53)
              have G1 := hG.alloc (.cells #[.bool true, .string cl[j].v, .string cl[j].t] 53)
              have H1 := hH.alloc (.cells #[.bool true, .string cl[j].v, .string cl[j].t] 53)
              have O1 := hO.below ((Below.refl _ _).alloc (Nat.le_refl _) (.cells #[.bool true, .string cl[j].v, .string cl[j].t] 53))
              have C1 := CBox.new wr ⟨true, cl[j].v, cl[j].t⟩
              have hOo := hO.own
              rw [ho] at v0
              have g1' : decide (c < (cl[j].v.size : Int)) = false := decide_eq_false hb1'
              have g2' : decide (d < (cl[j].t.size : Int)) = false := decide_eq_false hb2'
              rw [if_neg (by omega)] at hP
              go_wp2_with fail
              refine hP.mono ?_
              rintro z w2 ⟨ux, ud, rfl, hb2, hux, hud⟩
              have I2 := I1.next hb2
              have G2 := G1.below hb2 (by simp; omega)
              have H2 := H1.next hb2
              have O2 := O1.below hb2
              have C2 := C1.next hb2
              clear hb2 I1 G1 H1 O1 C1 hP hV hI hG hH hO v0 v1 v2 hbk c0 c1 c2 c3 c4 c5 c6 l1 l2 b1 g0 g1 k0 k1
              obtain ⟨⟨c0, c1, c2, c3, c4, c5, c6⟩, l1, l2, b1⟩ := id I2
              obtain ⟨⟨x0, x1, x2⟩, x3⟩ := id C2
              have hgl2 := G2.lt
              have g0 := G2.cell 0
              have g1 := G2.cell 1
              simp at g0 g1
              have k0 := G2.frozen 0
              have k1 := G2.frozen 1
              simp only at hux hud ⊢
              rw [over_ends he1] at hux
              obtain ⟨AX, nX, cX, rfl, hnX⟩ := hux.shape
              obtain ⟨AY, nY, cY, rfl, hnY⟩ := hud.shape
              have hfx : (⟨no + 1, cl[j].v, cl[j].t⟩ : V).fits := ⟨⟨by show (-9223372036854775808 : Int) ≤ no + 1; omega, by show no + 1 ≤ (9223372036854775807 : Int); omega⟩, hfj⟩
              have hone := Vs.one (w2.alloc (.cells #[.string s, .slice AX nX cX] 26)) ⟨no + 1, cl[j].v, cl[j].t⟩ hfx
              simp only [World.size_alloc] at hone
              have hBW : Below w2.heap.size w2 ((w2.alloc (.cells #[.string s, .slice AX nX cX] 26)).alloc (.cells #[.int .i64 (no + 1), .string cl[j].v, .string cl[j].t] 39)) := ((Below.refl _ _).alloc (Nat.le_refl _) _).alloc (by simp) _
              have hX2 := OwnV.nil (w.heap.size + 2) ((w2.alloc (.cells #[.string s, .slice AX nX cX] 26)).alloc (.cells #[.int .i64 (no + 1), .string cl[j].v, .string cl[j].t] 39))
              have hlen40 : ((([] : List V)).length + [(⟨no + 1, cl[j].v, cl[j].t⟩ : V)].length) * 40 ≤ 140737488355328 := by simp
              have hrow : ∀ k, (Value.slice none 0 0).ownBlock = some k → w.heap.size + 2 ≤ k ∧ k < wr.heap.size := fun k hk => by cases hk
              go_wp2_with (at_builtin; apply wpList_append_vs (s := .tmp 66) (x := .tmp 73) (lo := w.heap.size + 2) (B := w2.heap.size + 1 + 1) (l := ([] : List V)) (m := [⟨no + 1, cl[j].v, cl[j].t⟩]) (A := some ⟨w2.heap.size + 1, 0, none⟩) (n := 1) (c := 1) (v := .slice none 0 0); (case hgd => rfl); (case ho => rfl); (case hB => exact hX2); (case hs => rfl); (case hlo => (simp; omega)); (case hx => rfl); (case hn => rfl); (case hv => exact hone); (case hlen => exact hlen40); intro v' w3 hown hg3 hat; obtain ⟨g9, n2, cap2, rfl, hn2, hc2⟩ := hown.some (by simp); obtain rfl : n2 = 1 := hn2.out.trans (by simp); have hs3 := hg3.size; simp at hs3; have hBg : Below (w.heap.size + 2) w2 w3 := (hBW.mono (by omega)).grown hg3 (by simp; omega) (fun k hk => (hrow k hk).1); have I3 := In7.far I2 hBg (by omega) (by omega); have X3 : EBox w3 w2.heap.size s (.slice AX nX cX) := ((EBox.new w2 s (.slice AX nX cX)).alloc (.cells #[.int .i64 (no + 1), .string cl[j].v, .string cl[j].t] 39)).grown hg3 (fun e => by have := hrow _ e; omega); clear c0 c1 c2 c3 c4 c5 c6 l1 l2 b1; obtain ⟨⟨c0, c1, c2, c3, c4, c5, c6⟩, l1, l2, b1⟩ := id I3)
              have H3 := hux.move (w2 := w3) (by omega) (fun p p1 p2 => by
                  have hne : some p.block ≠ (Value.slice none 0 0).ownBlock := fun e => by have := hrow p.block e.symm; simp at p1; omega
                  rw [World.cell?_of_block (hg3.block p.block (by simp; omega) hne), hBW.cell p2])
              have G3 := G2.below hBg (by omega)
              obtain rfl := hnX.out
              obtain ⟨N, hN, hM⟩ := norms (fun w' => EBox w' w2.heap.size s (.slice AX (lastOf e (([] : List V) ++ [(⟨no + 1, cl[j].v, cl[j].t⟩ : V)])).length cX) ∧ Below w3.heap.size w3 w') w3 ⟨X3, Below.refl _ _⟩
              have hne : Nonempty World := ⟨w⟩
              have q0 := fun n => (hN n).1.1.1
              have q1 := fun n => (hN n).1.1.2
              have hsl : lastOf e (([] : List V) ++ [(⟨no + 1, cl[j].v, cl[j].t⟩ : V)]) = (([] : List V) ++ [(⟨no + 1, cl[j].v, cl[j].t⟩ : V)]).drop 0 := by unfold lastOf; congr 1; simp; try omega
              have hVs := fun n => ((hown.below (hN n).2).vs_at.drop 0)
              rw [← hsl] at hVs
              have hKl : 1 = (lastOf e (([] : List V) ++ [(⟨no + 1, cl[j].v, cl[j].t⟩ : V)])).length := by rw [hsl, List.length_drop]; simp; try omega
              simp only [Nat.zero_mul, Nat.add_zero, Nat.zero_add, Nat.sub_zero] at hVs
              have HC := lay (fun n => call_in (S := fun w' => EBox w' w2.heap.size s (.slice AX (lastOf e (([] : List V) ++ [(⟨no + 1, cl[j].v, cl[j].t⟩ : V)])).length cX) ∧ Below w3.heap.size w3 w') (n := n) (fun _ _ hs hb => ⟨hs.1.next hb, seq hs.2 hb⟩) hN hM (like_same (H3.next (hN n).2).vs (hVs n) rfl hKl))
              have hck : ¬ cap2 = 0 := by simp at hc2; omega
              clear hsl hKl hVs hc2
              refine region_class N (by kernel_rfl) (by kernel_rfl) (hM _ ⟨EBox.next X3 ((Below.refl _ _).drew), (Below.refl _ _).drew⟩) ?_
              repeat (go_big_quiet_step ((go_at_call 18; exact HC.out _)))
              clear HC
              refine wpQuiet_nil ?_
              rintro _ ⟨n9, rfl⟩
              obtain ⟨X9, B9⟩ := hN n9
              generalize N n9 = w9 at X9 B9 ⊢
              clear q0 q1 hN hM N n9 hne X3 k0 k1 g0 g1 c0 c1 c2 c3 c4 c5 c6 l1 l2 b1 x0 x1 x2 x3
              have G9 := G3.below B9 (by omega)
              have k0 := G9.frozen 0
              have k1 := G9.frozen 1
              have g0 := G9.cell 0
              have g1 := G9.cell 1
              simp at g0 g1
              obtain ⟨⟨x0, x1⟩, x2⟩ := id X9
              have I9 := In7.next I3 B9
              have H9 := H3.next B9
              have O9 := hown.below B9
              have s9 := B9.size
              have hgl9 := G9.lt
              go_wp2_with fail
              refine ⟨⟨j + 1, ([] : List V) ++ [⟨no + 1, cl[j].v, cl[j].t⟩], no + 1, .slice AX (lastOf e (([] : List V) ++ [(⟨no + 1, cl[j].v, cl[j].t⟩ : V)])).length cX, hlt, by omega, ?_, by omega, by omega, by go_num, rfl, (O9.setCell (by simp) _).setCell (by simp) _, ?_, ?_, ?_, ?_⟩, by simp [intOf]; omega⟩
              · simp
              · exact In7.far I9 (B := w.heap.size + 1) (((Below.refl _ _).setCell (by simp) _).setCell (by simp) _) (by omega) (by omega)
              · simpa using (G9.put 0 (.string s)).put 1 (.slice AX (lastOf e (([] : List V) ++ [(⟨no + 1, cl[j].v, cl[j].t⟩ : V)])).length cX)
              · exact ((H9.setCell (by simp; omega) _).setCell (by simp; omega) _).more (by simp; omega)
              · exact lay (Ends.one (by omega) (by omega) hno0)
    · go_wp2_with fail
      go_ret
      exact ⟨rfl, b1⟩

set_option maxRecDepth 100000 in
set_option maxHeartbeats 400000 in
theorem history_bad (a b c d e f h : Int) (s : ByteArray) (cl : List C) (A : Option Addr) (cap : Nat) (w : World) (hn : nbad a b c d e f h s [] ≠ 0) :
    Calls Try.prog 10 #[.agg #[.int .i64 a, .int .i64 b, .int .i64 c, .int .i64 d, .int .i64 e, .int .i64 f, .int .i64 h], .string s, .slice A cl.length cap] w fun x w' => x = .returned (.bool true) ∧ Below w.heap.size w w' := by
  have hI0 := (In7.new w a b c d e f h).alloc (.cells #[.string s, .slice none 0 0] 26)
  have hcall := named_any a b c d e f h s [] none 0 ((w.alloc (.cells #[.int .i64 a, .int .i64 b, .int .i64 c, .int .i64 d, .int .i64 e, .int .i64 f, .int .i64 h] 23)).alloc (.cells #[.string s, .slice none 0 0] 26)) ⟨Nat.le_refl _, by simp, (fun _ => rfl), Rd.nil _ _ _, (fun x hx => by cases hx)⟩
  generalize nbad a b c d e f h s [] = n at hcall hn
  have d0 : (n != 0) = true := by simpa using hn
  clear hn
  simp only [List.length_nil] at hcall
  go_enter Try.func10, Try.ntmps10
  go_wp2_with fail
  refine hcall.mono ?_
  rintro z w1 ⟨rfl, hb1⟩
  go_wp2_with fail
  go_ret
  exact ⟨rfl, (hI0.next hb1).2.2.2⟩

theorem law_history (hp : PutIs) (hq : OverIs) (a b c d e f h : Int) (s : ByteArray) (cl : List C) (A : Option Addr) (cap : Nat) (w : World) (hc : Cs w w.heap.size cl A cap) :
    Calls Try.prog 10 #[.agg #[.int .i64 a, .int .i64 b, .int .i64 c, .int .i64 d, .int .i64 e, .int .i64 f, .int .i64 h], .string s, .slice A cl.length cap] w fun x w' => x = .returned (.bool true) ∧ Below w.heap.size w w' := by
  by_cases hn : nbad a b c d e f h s [] = 0
  · have hk := (nbad_zero hn).1
    rw [nbad_yes hk] at hn
    by_cases h1 : s.size = 0
    · rw [if_pos h1] at hn; omega
    · rw [if_neg h1] at hn
      by_cases h2 : b < (s.size : Int)
      · rw [if_pos h2] at hn; omega
      · exact history_ok hp hq a b c d e f h s cl A cap w hc hk h1 (by omega)
  · exact history_bad a b c d e f h s cl A cap w hn
end Go.Proofs.Ytolngibmfffjcaa.vers
