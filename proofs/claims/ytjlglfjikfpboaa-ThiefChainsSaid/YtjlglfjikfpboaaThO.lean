/- ThiefPlain: the walk. -/
import Derived.Test.YtjlglfjikfpboaaThM
import Derived.Test.YtjlglfjikfpboaaTermE
import Derived.Test.YtjlglfjikfpboaaTermF
import Derived.Deep.CutBlock
import Derived.Deep.DeepCutAuto


namespace Go.Proofs.Ytjlglfjikfpboaa.thiefs
set_option linter.unusedVariables false
set_option linter.unusedSimpArgs false
open Go.RowKit Go.Shelf Go.Lib Go.Proofs.Ytjlglfjikfpboaa.base Go.Proofs.Ytjlglfjikfpboaa.tm Go.Proofs.Ytjlglfjikfpboaa.lies Go.Proofs.Ytjlglfjikfpboaa.rights Go.Proofs.Ytjlglfjikfpboaa.copies Go.Proofs.Ytjlglfjikfpboaa.reads Go.Proofs.Ytjlglfjikfpboaa.texts

/-- append of texts at an operation under a guard that holds -/
theorem wp_texts_g {ops : Array Oper} {rest : List Oper} {o : Oper} {a : Act} {Q : Exit → Act → World → Prop} (hgd : Region.wanted o (yielded ops a.tmps) = true) (s x : Operand) (ho : o.op = .call { callee := .builtin .append, args := #[s, x], argTypes := #[22, 22] })
    {w : World} {l m lm : List ByteArray} (hlm : l ++ m = lm) {v : Value} (hown : Srow w l v) (hs : a.eval s = v) {B : Nat} {A : Option Addr} {c : Nat} (hT : Ts w B m A c) (hx : a.eval x = .slice A m.length c) (hlen : l.length + m.length ≤ 1000)
    (h : ∀ v' w', Srow w' lm v' → Keep (fun g => v.ownBlock = some g) w w' → (∀ g, v'.ownBlock = some g → v.ownBlock = some g ∨ (w.heap.size ≤ g ∧ g < w'.heap.size)) → wpList Try.prog ops Q rest (a.put o.dst v') w') :
    wpList Try.prog ops Q (o :: rest) a w := by
  subst hlm
  obtain ⟨i0, hi0, hz0, hz1, hz2⟩ := info_parts infoS
  refine wpList_step fun K hK => ?_
  rw [if_pos hgd]
  refine wp_bulk2 Try.underlying22 hi0 hz0 hz1 hz2 rfl (by decide) s x ho hown hs (ys := sts m) (m := m.length) (by simp [sts]) hT.2.2.2.1 (fun e => ?_) hT.1 (fun u hu => ?_) hx (by omega) (by unfold maxLen; omega) fun v' w' h2 h3 h4 => hK _ _ (h v' w' ?_ h3 h4)
  · have := hT.1; have := hT.2.2.1 e; omega
  · simp only [sts, List.mem_map] at hu
    obtain ⟨y, _, rfl⟩ := hu
    rfl
  · unfold Srow
    rw [List.length_append, sts_append]
    exact h2
/- is there a box in it -/
mutual
def bxd : T → Bool
  | .mk k _ _ l => decide (k = 4) || bxdL l
def bxdL : List T → Bool
  | [] => false
  | t :: l => bxd t || bxdL l
end
theorem bxd_eq (t : T) : bxd t = (decide (t.k = 4) || bxdL t.l) := by cases t; rfl
theorem bxdL_any : ∀ l : List T, bxdL l = l.any bxd
  | [] => rfl
  | t :: l => by rw [bxdL, List.any_cons, bxdL_any l]
theorem brs_app (a b : List ByteArray) : brs (a ++ b) = brs a ++ brs b := List.map_append
mutual
theorem plain_at (C : Int → Bool) : ∀ t : T, t.shaped = true → bxd t = false → AS (got C t) = brs (texts.atoms t)
  | .mk k n s l, hs, hb => by
    rw [shaped_eq, Bool.and_eq_true] at hs
    rw [bxd_eq, Bool.or_eq_false_iff] at hb
    have h4 : k ≠ 4 := of_decide_eq_false hb.1
    obtain ⟨_, _, _, _, _, _, h7, _⟩ := one_kind hs.1
    by_cases h5 : k = 5
    · subst h5
      rw [got_row (t := .mk 5 n s l) rfl]
      show AS (gotL C l) = brs (texts.atomsL l)
      exact plainL_at C l hs.2 hb.2
    · have hl : l = [] := h7 h4 h5
      subst hl
      rw [got_plain (t := .mk k n s []) h4 h5]
      by_cases h2 : k = 2
      · subst h2; rfl
      · rw [AS_one_no (t := .mk k n s []) h2]
        show [] = brs (if k = 2 then _ else texts.atomsL [])
        rw [if_neg h2]; rfl
theorem plainL_at (C : Int → Bool) : ∀ l : List T, shapedL l = true → bxdL l = false → AS (gotL C l) = brs (texts.atomsL l)
  | [], _, _ => rfl
  | t :: l, hs, hb => by
    rw [shapedL, Bool.and_eq_true] at hs
    rw [bxdL, Bool.or_eq_false_iff] at hb
    rw [gotL, AS_app, plain_at C t hs.1 hb.1, plainL_at C l hs.2 hb.2]
    show _ = brs (texts.atoms t ++ texts.atomsL l)
    rw [brs_app]
end
theorem lies_row (w : World) {t : T} {A : Option Addr} {c B : Nat} (h : Lies w B t (.slice A t.l.length c)) (hB : B ≤ w.heap.size) :
    Rd (w.alloc (.cells #[.int .i64 t.k, .int .u64 t.n, .string t.s, .slice A t.l.length c] 39)) (w.alloc (.cells #[.int .i64 t.k, .int .u64 t.n, .string t.s, .slice A t.l.length c] 39)).heap.size (some ⟨w.heap.size, 0, none⟩) (T.cells t (.slice A t.l.length c)) ∧
    LiesL (w.alloc (.cells #[.int .i64 t.k, .int .u64 t.n, .string t.s, .slice A t.l.length c] 39)) (w.alloc (.cells #[.int .i64 t.k, .int .u64 t.n, .string t.s, .slice A t.l.length c] 39)).heap.size [t] (T.cells t (.slice A t.l.length c)) :=
  ⟨Blk.rd (xs := T.cells t (.slice A t.l.length c)) (t := 39) (Blk.new w 39 #[.int .i64 t.k, .int .u64 t.n, .string t.s, .slice A t.l.length c]) (by simp), _, [], by simp, h.later hB _, rfl⟩
theorem pieces_enc {t : T} (hR : t.right = 0) (hw : t.word) : pieceT ⟨t.enc.toArray⟩ = t := by
  have h := decode_enc hR hw []
  rw [List.append_nil, if_pos rfl] at h
  unfold pieceT
  rw [show tm.decode (bn ⟨t.enc.toArray⟩) = .ok t from by simpa using h]
theorem atoms_le {t : T} (hR : t.right = 0) : (texts.atoms t).length ≤ t.size := by
  have key : ∀ N, (∀ t : T, t.size ≤ N → (texts.atoms t).length ≤ t.size) ∧ ∀ l : List T, sizeL l ≤ N → (texts.atomsL l).length ≤ sizeL l := by
    intro N
    induction N with
    | zero =>
      refine ⟨fun t h => by have := size_pos t; omega, fun l h => ?_⟩
      cases l with
      | nil => exact Nat.le_refl _
      | cons t l => rw [sizeL] at h; have := size_pos t; omega
    | succ N ih =>
      have h1 : ∀ t : T, t.size ≤ N + 1 → (texts.atoms t).length ≤ t.size := fun t h => by
        rw [texts.atoms_eq, List.length_append, lies.size_eq]
        have := ih.2 t.l (by rw [lies.size_eq] at h; omega)
        split <;> simp <;> omega
      refine ⟨h1, fun l => ?_⟩
      induction l with
      | nil => intro _; exact Nat.le_refl _
      | cons t l ih2 =>
        intro h
        rw [sizeL] at h ⊢
        show (texts.atoms t ++ texts.atomsL l).length ≤ _
        rw [List.length_append]
        have := h1 t (by omega)
        have := ih2 (by omega)
        omega
  exact (key t.size).1 t (Nat.le_refl _)
/-- at a loop's head -/
def BxHead (W : World) (l : List T) (i : Value) (wr : World) : Prop := ∃ j : Nat, j ≤ l.length ∧ i = .int .i64 j ∧ Hid ((l.take j).any bxd = false) ∧ Below W.heap.size W wr
theorem any_take {l : List T} {j : Nat} (h : j < l.length) : (l.take (j + 1)).any bxd = ((l.take j).any bxd || bxd l[j]) := by
  rw [List.take_add_one, List.getElem?_eq_getElem h, List.any_append]; simp
theorem any_at {l : List T} {j : Nat} (h : j < l.length) (hb : bxd l[j] = true) : l.any bxd = true := List.any_eq_true.2 ⟨_, List.getElem_mem h, hb⟩

set_option maxRecDepth 100000 in
set_option maxHeartbeats 4000000 in
theorem boxed_any (N : Nat) : ∀ (t : T) (v : Value) (w : World), t.size ≤ N → Lies w w.heap.size t v →
    Calls Try.prog 27 #[T.val t v] w fun e w' => e = .returned (.bool (bxd t)) ∧ Below w.heap.size w w' := by
  induction N with
  | zero => intro t v w h; have := size_pos t; omega
  | succ N ih =>
    intro t v w hN hL
    obtain ⟨A, c, xs, rfl, hk, hn, hs, hlc, hc, hr, hl⟩ := hL.open_
    have HS := lies.lay (size_eq t)
    have HP := lies.lay (bxd_eq t)
    have b1 : Below w.heap.size w (w.alloc (.cells #[.int .i64 t.k, .int .u64 t.n, .string t.s, .slice A t.l.length c] 39)) := (Below.refl _ _).alloc (Nat.le_refl _) _
    by_cases h4 : t.k = 4
    · have d4 : (t.k == 4) = true := by simp [h4]
      have H4 := lies.lay h4
      clear h4
      go_enter Try.func27, Try.ntmps27
      go_wp2_with fail
      go_ret
      exact ⟨ret_bool (by rw [HP.out, H4.out]; rfl), b1⟩
    · have d4 : (t.k == 4) = false := by simp [h4]
      have H4 := lies.lay h4
      clear h4
      go_enter Try.func27, Try.ntmps27
      go_wp2_with fail
      go_loopw [11] (fun i wr => BxHead w t.l i wr) (fun i _ => t.l.length - (intOf i).toNat)
      case atStart => exact ⟨0, Nat.zero_le _, rfl, lies.lay rfl, b1⟩
      case round =>
        obtain ⟨j, hj, rfl, hsh, hb⟩ := hrel
        by_cases hlt : j < t.l.length
        · obtain ⟨b, off, A', c', rfl, hbl, hv, c0, c1, c2, c3⟩ := at_cells (hr.below hb) (hl.below hb) hlt
          have hg := size_get t.l j hlt
          have hcall := fun wx (hx : Lies wx wx.heap.size t.l[j] (.slice A' t.l[j].l.length c')) => ih t.l[j] (.slice A' t.l[j].l.length c') wx (by have := HS.out; omega) hx
          cases hq : bxd t.l[j] with
          | true =>
            rw [hq] at hcall
            have HQ := lies.lay (any_at hlt hq)
            clear hq
            go_wp2_with (go_at_call 27; refine (hcall _ (hv.later hb.size _)).mono ?_; rintro e w2 ⟨rfl, hb2⟩)
            go_ret
            exact ⟨ret_bool (by rw [HP.out, bxdL_any, HQ.out]; simp), below_call hb hb2⟩
          | false =>
            rw [hq] at hcall
            have HQ := lies.lay hq
            clear hq
            go_wp2_with (go_at_call 27; refine (hcall _ (hv.later hb.size _)).mono ?_; rintro e w2 ⟨rfl, hb2⟩)
            exact ⟨⟨j + 1, hlt, by go_num, lies.lay (by rw [any_take hlt, hsh.out, HQ.out]; rfl), below_call hb hb2⟩, by simp [intOf]; omega⟩
        · have hjl : t.l.take j = t.l := List.take_of_length_le (by omega)
          rw [hjl] at hsh
          go_wp2_with fail
          go_ret
          exact ⟨ret_bool (by rw [HP.out, bxdL_any, hsh.out, Bool.or_false]; exact (decide_eq_false H4.out).symm), hb⟩

/-- the pieces so far, in a row -/
def PcAt (w : World) (k : Nat) (u : Value) (wr : World) : Prop := ∃ P : List ByteArray, P.length ≤ k ∧ Srow wr P u ∧ (∀ x ∈ P, x.size ≤ maxLen) ∧ (∀ g, u.ownBlock = some g → w.heap.size ≤ g) ∧ Below w.heap.size w wr
theorem PcAt.later {w wr w2 : World} {k k' : Nat} {u : Value} (h : PcAt w k u wr) (hb : Below wr.heap.size wr w2) (hk : k ≤ k') : PcAt w k' u w2 := by
  obtain ⟨P, h1, h2, h3, h4, h5⟩ := h
  exact ⟨P, by omega, row_below h2 hb, h3, h4, h5.trans (hb.mono h5.size)⟩
theorem loot_none {K : List Int} {A : List (List UInt8)} {m : Nat} (h : Loot (pcs []) K A m) : K = [] ∧ A = [] ∧ m = 0 := by
  refine ⟨List.eq_nil_iff_forall_not_mem.2 fun n hn => ?_, List.eq_nil_iff_forall_not_mem.2 fun a ha => ?_, h.bx⟩
  · have := h.least (fun _ => false) (fun n hn => by simp [gotL, KS] at hn) n hn
    cases this
  · have := (h.at_ a).1 ha
    simp [gotL, AS] at this
/-- a plain term's atoms are got at -/
theorem plain_in {t : T} {sb : ByteArray} {K : List Int} {A : List (List UInt8)} {m : Nat} (hR : t.right = 0) (hpe : pieceT sb = t) (hb : bxd t = false) (h : Loot (pcs [sb]) K A m) : ∀ x ∈ fin (allOf [t]), x ∈ A := fun x hx => by
  have h1 := ((fin_props (allOf [t])).2 x).1 hx
  rw [allOf, if_pos hR, allOf, List.append_nil] at h1
  rw [h.at_, pcs, List.map_cons, List.map_nil, hpe, gotL_one, plain_at _ t (right_facts hR).2 hb]
  exact h1

set_option maxRecDepth 100000 in
set_option maxHeartbeats 4000000 in
theorem law_plain (l : List T) (A : Option Addr) (c : Nat) (s : ByteArray) (w : World) (hT : ∃ xs, l.length ≤ c ∧ l.length * 56 ≤ 140737488355328 ∧ Rd w w.heap.size A xs ∧ LiesL w w.heap.size l xs) (hs : s.size ≤ maxLen) :
    Calls Try.prog 6 #[.slice A l.length c, .string s] w fun e w' => e = .returned (.bool true) ∧ Below w.heap.size w w' := by
  obtain ⟨xs, hlc, hl56, hr, hl⟩ := hT
  go_enter Try.func6, Try.ntmps6
  go_upto_block 0 with (fail)
  go_cut [5] (fun u wx => PcAt w 20 u wx)
  case first =>
    go_wp2_with fail
    go_loopw [5, 14] (fun u i wr => ∃ j : Nat, j ≤ l.length ∧ j ≤ 20 ∧ i = .int .i64 (j : Int) ∧ PcAt w j u wr) (fun _ i _ => l.length - (intOf i).toNat)
    case atStart => exact ⟨0, Nat.zero_le _, by omega, rfl, [], Nat.le_refl _, ⟨rfl, .inl ⟨rfl, rfl⟩⟩, (fun x hx => by cases hx), (fun g hg => by cases hg), Below.refl _ _⟩
    case round =>
      obtain ⟨j, hj, hj20, rfl, hP⟩ := hrel
      by_cases hlt : j < l.length
      · have hbw : Below w.heap.size w wr := let ⟨_, _, _, _, _, h⟩ := hP; h
        obtain ⟨b, off, A', c', rfl, hbl, hv, c0, c1, c2, c3⟩ := at_cells (hr.below hbw) (hl.below hbw) hlt
        by_cases h20 : j = 20
        · subst h20
          generalize l[20] = t at *
          clear hr hl
          go_wp2_with fail
          go_meet
          exact hP.later ((Below.refl _ _).alloc (Nat.le_refl _) _) (Nat.le_refl _)
        · generalize l[j] = t at *
          clear hr hl
          have d20 : decide ((20 : Int) ≤ (j : Int)) = false := decide_eq_false (by omega)
          have k1 := Blk.new wr 39 #[.int .i64 t.k, .int .u64 t.n, .string t.s, .slice A' t.l.length c']
          have bA : Below wr.heap.size wr (wr.alloc (.cells #[.int .i64 t.k, .int .u64 t.n, .string t.s, .slice A' t.l.length c'] 39)) := (Below.refl _ _).alloc (Nat.le_refl _) _
          have hvA := hv.later hbw.size (.cells #[.int .i64 t.k, .int .u64 t.n, .string t.s, .slice A' t.l.length c'] 39)
          by_cases hR : t.right = 0
          · have hw := Lies.word _ _ hv
            have hes := cuts.enc_size hR hw
            have hss : (⟨t.enc.toArray⟩ : ByteArray).size ≤ maxLen := by show t.enc.toArray.size ≤ _; rw [List.size_toArray]; unfold maxLen; omega
            have henc := refEncs.refEncode_ok t _ _ hvA hR
            have hpe := pieces_enc hR hw
            generalize (⟨t.enc.toArray⟩ : ByteArray) = sb at *
            go_wp2_with fail
            refine henc.mono ?_
            rintro e w1 ⟨rfl, hb1⟩
            obtain ⟨P, hPl, ho, hPs, hPo, hPb⟩ := hP
            have hbw1 : Below wr.heap.size wr w1 := bA.trans (hb1.mono bA.size)
            have hz1 := hbw1.size
            have hwz := hbw.size
            have k2 := k1.below hb1 k1.lt
            have kA := k2.alloc (.cells #[.string sb] 9)
            have ho1 := row_below (row_below ho hbw1) ((Below.refl w1.heap.size w1).alloc (Nat.le_refl _) (.cells #[.string sb] 9))
            have HR := lies.lay hR
            clear hR henc
            go_wp2_with (at_builtin; refine wp_texts rfl _ _ rfl (lm := P ++ [sb]) rfl ho1 rfl (ts_new w1 sb hss) rfl (by simp; omega) ?_; intro v2 w2 ho2 hk2 hat2; have k3 : Blk w2 wr.heap.size 39 #[.int .i64 t.k, .int .u64 t.n, .string t.s, .slice A' t.l.length c'] := hk2.blk kA (fun e => by have := (ho.lt _ e).2; omega); have z0 := k3.cell 0; have z1 := k3.cell 1; have z2 := k3.cell 2; have z3 := k3.cell 3; simp at z0 z1 z2 z3)
            have b2 : Below w.heap.size wr w2 := ((hbw1.mono hwz).alloc (by omega) (.cells #[.string sb] 9)).trans (hk2.below (fun g hg => hPo g hg) (by simp; omega))
            have hown2 : ∀ g, v2.ownBlock = some g → w.heap.size ≤ g := fun g hg => by
              rcases hat2 g hg with h | h
              · exact hPo g h
              · have := h.1; simp at this; omega
            have hps2 := mem_app hPs (fun x hx => by rw [List.mem_singleton] at hx; subst hx; exact hss : ∀ x ∈ [sb], x.size ≤ maxLen)
            have hv2 := hv.below b2
            have hz2 := b2.size
            refine (boxed_any t.size t _ w2 (Nat.le_refl _) (hv2.now (by omega))).mono ?_
            rintro e w3 ⟨rfl, hb3⟩
            have hpc : PcAt w (j + 1) v2 w3 := ⟨P ++ [sb], by simp; omega, row_below ho2 hb3, hps2, hown2, (hbw.trans b2).trans (hb3.mono (by omega))⟩
            cases hq : bxd t with
            | true =>
              clear hq
              go_wp2_with fail
              exact ⟨⟨j + 1, hlt, by omega, by go_num, hpc⟩, by simp [intOf]; omega⟩
            | false =>
              have HQ := lies.lay hq
              clear hq
              have k4 := k3.below hb3 k3.lt
              have y0 := k4.cell 0
              have y1 := k4.cell 1
              have y2 := k4.cell 2
              have y3 := k4.cell 3
              simp at y0 y1 y2 y3
              have hz3 := hb3.size
              obtain ⟨hrr, hll⟩ := lies_row w3 (hv2.below (hb3.mono (by omega))) (by omega)
              have hat : (allOf [t]).length ≤ 4000 := by
                have h1 := atoms_le HR.out
                have h2 := (right_facts HR.out).1
                rw [allOf, if_pos HR.out, allOf, List.append_nil]; omega
              have hatoms := atoms_any [t] (some ⟨w3.heap.size, 0, none⟩) 1 _ _ (by simp) (by simp) hrr hll (by omega)
              clear hrr hll
              go_wp2_with fail
              refine hatoms.mono ?_
              rintro e w5 ⟨v5, rfl, hb5, tx5⟩
              have b3A := (Below.refl w3.heap.size w3).alloc (Nat.le_refl _) (.cells #[.int .i64 t.k, .int .u64 t.n, .string t.s, .slice A' t.l.length c'] 39)
              have b5A := (Below.refl w5.heap.size w5).alloc (Nat.le_refl _) (.cells #[.string sb] 9)
              go_wp2_with fail
              refine (atoms_ok [sb] (some ⟨w5.heap.size, 0, none⟩) 1 _ (ts_new w5 sb hss) (by simp)).mono ?_
              rintro e w6 ⟨K6, A6, m6, v6, rfl, lo6, ⟨tx6, up6⟩, cn6, hb6⟩
              have hbs6 := b5A.trans (hb6.mono b5A.size)
              have hin := inAll_any v5 v6 _ 0 _ A6 w6 (tx5.below hbs6) tx6 (plain_in HR.out hpe HQ.out lo6)
              go_wp2_with fail
              refine hin.mono ?_
              rintro e w7 ⟨rfl, rfl⟩
              have hb37 := (b3A.trans (hb5.mono b3A.size)).trans (hbs6.mono (b3A.trans (hb5.mono b3A.size)).size)
              go_wp2_with fail
              exact ⟨⟨j + 1, hlt, by omega, by go_num, hpc.later hb37 (Nat.le_refl _)⟩, by simp [intOf]; omega⟩
          · have henc := refEncs.refEncode_bad t _ _ hvA hR
            have d2 : (t.right != 0) = true := by simpa using hR
            generalize t.right = tr at *
            go_wp2_with fail
            refine henc.mono ?_
            rintro e w1 ⟨rfl, hb1⟩
            go_wp2_with fail
            exact ⟨⟨j + 1, hlt, by omega, by go_num, hP.later (bA.trans (hb1.mono bA.size)) (by omega)⟩, by simp [intOf]; omega⟩
      · go_wp2_with fail
        go_meet
        exact hP.later (Below.refl _ _) hj20
  case rest =>
    obtain ⟨P, hPl, ho, hPs, hPo, hPb⟩ := hcut
    have hdec := refDecodeF_any s
    have hend : ∀ wz, Below w.heap.size w wz → True := fun _ _ => trivial
    cases hq : tm.decode (bn s) with
    | ok t =>
      have hd2 := hdec wc hs
      rw [show tm.decode s.data.toList = .ok t from hq] at hd2
      clear hdec hq
      go_wp2_with fail
      refine hd2.mono ?_
      rintro e w1 ⟨hb1, A1, c1, rfl, hT1⟩
      have bz := hPb.trans (hb1.mono hPb.size)
      have bA := bz.alloc bz.size (.cells #[.int .i64 t.k, .int .u64 t.n, .string t.s, .slice A1 t.l.length c1] 39)
      go_wp2_with fail
      refine (atoms_ok [] none 0 _ (Ts.nil _ _) (by simp)).mono ?_
      rintro e x1 ⟨K1, A1', m1, v1, rfl, lo1, ⟨tx1, up1⟩, cn1, hc1⟩
      obtain rfl : A1' = [] := (loot_none lo1).2.1
      obtain ⟨q1, q2, rfl, _, _⟩ := tx1
      have bB := bA.trans (hc1.mono bA.size)
      go_wp2_with fail
      refine (keys_ok [] none 0 _ (Ts.nil _ _) (by simp)).mono ?_
      rintro e x2 ⟨K2, A2', m2, v2, rfl, lo2, ⟨ky2, up2⟩, cn2, hc2⟩
      obtain rfl : K2 = [] := (loot_none lo2).1
      obtain ⟨q3, q4, rfl, _, _, _⟩ := ky2
      have bC := bB.trans (hc2.mono bB.size)
      go_wp2_with fail
      refine (shut_ok [] none 0 _ (Ts.nil _ _) (by simp)).mono ?_
      rintro e x3 ⟨K3, A3', m3, rfl, cn3, lo3, hc3⟩
      obtain rfl : m3 = 0 := (loot_none lo3).2.2
      have bD := bC.trans (hc3.mono bC.size)
      have bE := bD.alloc bD.size (.cells #[.string ff] 9)
      go_wp2_with fail
      refine (has_yes ff [ff] (some ⟨x3.heap.size, 0, none⟩) 1 _ (ts_new x3 ff ff_size) (by simp) ff_size (by simp) piece_ff).mono ?_
      rintro e x4 ⟨rfl, hc4⟩
      go_wp2_with fail
      go_ret
      exact ⟨rfl, bE.trans (hc4.mono bE.size)⟩
    | bad err =>
      have hd2 := hdec wc hs
      rw [show tm.decode s.data.toList = .bad err from hq] at hd2
      have hps : pieceT s = .mk 2 0 s [] := by unfold pieceT; rw [hq]
      clear hdec hq
      go_wp2_with fail
      refine hd2.mono ?_
      rintro e w1 ⟨hb1, hne, rfl⟩
      have d2 : (err != 0) = true := by simpa using hne
      clear hne
      have bz0 := hPb.trans (hb1.mono hPb.size)
      have bz1 := bz0.alloc bz0.size (.cells #[.int .i64 0, .int .u64 0, .string ⟨#[]⟩, .slice none 0 0] 39)
      have bs1 := hb1.alloc hb1.size (.cells #[.int .i64 0, .int .u64 0, .string ⟨#[]⟩, .slice none 0 0] 39)
      have ho1 := row_below (row_below ho bs1) ((Below.refl (w1.alloc (.cells #[.int .i64 0, .int .u64 0, .string ⟨#[]⟩, .slice none 0 0] 39)).heap.size (w1.alloc (.cells #[.int .i64 0, .int .u64 0, .string ⟨#[]⟩, .slice none 0 0] 39))).alloc (Nat.le_refl _) (.cells #[.string s] 9))
      have hts := ts_new (w1.alloc (.cells #[.int .i64 0, .int .u64 0, .string ⟨#[]⟩, .slice none 0 0] 39)) s hs
      simp only [World.size_alloc] at hts
      obtain ⟨LO, hLO⟩ : ∃ X, P ++ [s] = X := ⟨_, rfl⟩
      have hlo : LO.length ≤ 21 := by rw [← hLO, List.length_append]; simp; omega
      have hsO : ∀ x ∈ LO, x.size ≤ maxLen := by rw [← hLO]; exact mem_app hPs (fun x hx => by rw [List.mem_singleton] at hx; subst hx; exact hs)
      have hmO : s ∈ LO := by rw [← hLO]; simp
      have HLO := lies.lay hLO
      clear hLO
      go_wp2_with (at_builtin; refine wp_texts_g (by first | rfl | simp [Region.wanted, yielded]) _ _ rfl (lm := LO) HLO.out ho1 rfl hts rfl (by simp; omega) ?_; intro v3 w3 ho3 hk3 hat3; obtain ⟨A3, c3, rfl, hT3⟩ := srow_ts ho3 (by omega) hsO)
      have b3 := (bz1.alloc bz1.size (.cells #[.string s] 9)).trans (hk3.below (fun g hg => hPo g hg) (bz1.alloc bz1.size (.cells #[.string s] 9)).size)
      refine (has_yes s LO A3 c3 _ hT3 (by omega) hs hmO hps).mono ?_
      rintro e w4 ⟨rfl, hb4⟩
      have bA := b3.trans (hb4.mono b3.size)
      go_wp2_with fail
      refine (atoms_ok [] none 0 _ (Ts.nil _ _) (by simp)).mono ?_
      rintro e x1 ⟨K1, A1', m1, v1, rfl, lo1, ⟨tx1, up1⟩, cn1, hc1⟩
      obtain rfl : A1' = [] := (loot_none lo1).2.1
      obtain ⟨q1, q2, rfl, _, _⟩ := tx1
      have bB := bA.trans (hc1.mono bA.size)
      go_wp2_with fail
      refine (keys_ok [] none 0 _ (Ts.nil _ _) (by simp)).mono ?_
      rintro e x2 ⟨K2, A2', m2, v2, rfl, lo2, ⟨ky2, up2⟩, cn2, hc2⟩
      obtain rfl : K2 = [] := (loot_none lo2).1
      obtain ⟨q3, q4, rfl, _, _, _⟩ := ky2
      have bC := bB.trans (hc2.mono bB.size)
      go_wp2_with fail
      refine (shut_ok [] none 0 _ (Ts.nil _ _) (by simp)).mono ?_
      rintro e x3 ⟨K3, A3', m3, rfl, cn3, lo3, hc3⟩
      obtain rfl : m3 = 0 := (loot_none lo3).2.2
      have bD := bC.trans (hc3.mono bC.size)
      have bE := bD.alloc bD.size (.cells #[.string ff] 9)
      go_wp2_with fail
      refine (has_yes ff [ff] (some ⟨x3.heap.size, 0, none⟩) 1 _ (ts_new x3 ff ff_size) (by simp) ff_size (by simp) piece_ff).mono ?_
      rintro e x4 ⟨rfl, hc4⟩
      go_wp2_with fail
      go_ret
      exact ⟨rfl, bE.trans (hc4.mono bE.size)⟩

end Go.Proofs.Ytjlglfjikfpboaa.thiefs
