/- ThiefShut: the walk. -/
import Derived.Test.YtjlglfjikfpboaaThU
import Derived.Test.YtjlglfjikfpboaaThT
import Derived.Test.YtjlglfjikfpboaaThO


namespace Go.Proofs.Ytjlglfjikfpboaa.thiefs
set_option linter.unusedVariables false
set_option linter.unusedSimpArgs false
open Go.RowKit Go.Shelf Go.Lib Go.Proofs.Ytjlglfjikfpboaa.base Go.Proofs.Ytjlglfjikfpboaa.tm Go.Proofs.Ytjlglfjikfpboaa.lies Go.Proofs.Ytjlglfjikfpboaa.copies Go.Proofs.Ytjlglfjikfpboaa.reads Go.Proofs.Ytjlglfjikfpboaa.texts Go.Proofs.Ytjlglfjikfpboaa.boxes

theorem wrapT_ok {t : T} {ks : List Int} (h : (wrapT t ks).2 = 0) : ks.length ≤ 8 ∧ t.right = 0 ∧ contW (t, 0) ks = ((wrapT t ks).1, 0) := by
  unfold wrapT begunT at h ⊢
  by_cases h8 : 8 < ks.length
  · rw [if_pos h8, contW_bad (by decide)] at h; cases h
  · rw [if_neg h8] at h ⊢
    by_cases hR : t.right ≠ 0
    · rw [if_pos hR, contW_bad hR] at h; exact absurd h hR
    · rw [if_neg hR] at h ⊢
      exact ⟨by omega, by simpa using hR, Prod.ext rfl h⟩
theorem srow_one (w : World) (s : ByteArray) : Srow (w.alloc (.cells #[.string s] 9)) [s] (.slice (some ⟨w.heap.size, 0, none⟩) 1 1) :=
  ⟨by simp [sts], .inr ⟨w.heap.size, 1, #[.string s], rfl, Nat.zero_le _, heap_alloc_new w _, Nat.le_refl _, by unfold maxLen; decide, rfl, by simp [sts]⟩⟩
/-- the bytes of a term -/
def encB (t : T) : ByteArray := ⟨t.enc.toArray⟩
theorem encB_size {t : T} (hR : t.right = 0) (hw : t.word) : (encB t).size ≤ maxLen := by
  have hes := cuts.enc_size hR hw
  show t.enc.toArray.size ≤ _
  rw [List.size_toArray]; unfold maxLen; omega
theorem lies_key (w : World) {k : Int} (hk : 0 ≤ k ∧ k < 18446744073709551616) : Lies w w.heap.size (keyT k) (.slice none 0 0) :=
  TF.lies _ _ (TF.z w (fun _ => True) (k := 3) (n := k) (s := ⟨#[]⟩) ⟨by omega, by omega⟩ hk (by unfold maxLen; decide))
/-- the pieces: the box and the keys -/
def pieceL (sb : ByteArray) (ks : List Int) : List ByteArray := sb :: ks.map fun k => encB (keyT k)
theorem pieceL_len (sb : ByteArray) (ks : List Int) : (pieceL sb ks).length = ks.length + 1 := by simp [pieceL]
theorem pieceL_pcs {b : T} (hR : b.right = 0) (hw : b.word) {ks : List Int} (hk : ∀ k ∈ ks, 0 ≤ k ∧ k < 18446744073709551616) : pcs (pieceL (encB b) ks) = b :: ks.map keyT := by
  unfold pieceL pcs
  rw [List.map_cons, List.map_map]
  rw [show pieceT (encB b) = b from pieces_enc hR hw]
  congr 1
  exact List.map_congr_left fun k hm => pieces_enc (keyT_right k) (keyT_word (hk k hm))
theorem pieceL_sizes {sb : ByteArray} (hs : sb.size ≤ maxLen) {ks : List Int} (hk : ∀ k ∈ ks, 0 ≤ k ∧ k < 18446744073709551616) : ∀ x ∈ pieceL sb ks, x.size ≤ maxLen := fun x hx => by
  rcases List.mem_cons.1 hx with rfl | hx
  · exact hs
  · obtain ⟨k, hm, rfl⟩ := List.mem_map.1 hx
    exact encB_size (keyT_right k) (keyT_word (hk k hm))
theorem enc_key {k : Int} (hk : 0 ≤ k ∧ k < 18446744073709551616) (w : World) :
    Calls Try.prog 24 #[.agg #[.int .i64 3, .int .u64 k, .string ⟨#[]⟩, .slice none 0 0]] w fun e w' => e = .returned (.tuple #[.string (encB (keyT k)), .int .i64 0]) ∧ Below w.heap.size w w' :=
  encs.encode_ok (keyT k) (.slice none 0 0) w (lies_key w hk) (keyT_right k)
theorem pieceL_next (sb : ByteArray) {ks : List Int} {j : Nat} (h : j < ks.length) : pieceL sb (ks.take j) ++ [encB (keyT ks[j])] = pieceL sb (ks.take (j + 1)) := by
  unfold pieceL
  rw [List.take_add_one, List.getElem?_eq_getElem h, List.map_append]; rfl
theorem pieceL_drop {sb : ByteArray} {ks : List Int} {j : Nat} (h : j < ks.length) : (pieceL sb ks).take (j + 1) ++ (pieceL sb ks).drop (j + 2) = pieceL sb (ks.take j ++ ks.drop (j + 1)) := by
  unfold pieceL
  rw [List.take_succ_cons, List.drop_succ_cons, List.map_append, List.map_take, List.map_drop]; rfl
theorem ks_split {ks : List Int} {j : Nat} (h : j < ks.length) : ks.take j ++ ks[j] :: ks.drop (j + 1) = ks := by
  rw [← List.drop_eq_getElem_cons h, List.take_append_drop]
theorem elemS : Try.prog.elem 22 = 9 := by kernel_rfl
theorem Ts.from_ {w : World} {B : Nat} {l : List ByteArray} {b o c : Nat} (h : Ts w B l (some ⟨b, o, none⟩) c) (k : Nat) : Ts w B (l.drop k) (some ⟨b, o + k, none⟩) (c - k) := by
  obtain ⟨h1, h2, h3, h4, h5⟩ := h
  refine ⟨by rw [List.length_drop]; omega, by rw [List.length_drop]; omega, (fun e => by cases e), fun j u hj => ?_, fun x hx => h5 x (List.mem_of_mem_drop hx)⟩
  unfold sts at hj h4
  rw [List.map_drop, List.getElem?_drop] at hj
  obtain ⟨b', o', e, hb, hc⟩ := h4 _ _ hj
  cases e
  exact ⟨b, o + k, rfl, hb, by rw [show o + k + j = o + (k + j) by omega]; exact hc⟩
/-- what s[k:] of texts is -/
theorem run_fromS {w : World} {B : Nat} {l : List ByteArray} {A : Option Addr} {cap : Nat} (hv : Ts w B l A cap) (k : Nat) (hk : k ≤ l.length) :
    ∃ A' c', (∀ u : World, (Instr.slice 22 (.slice A l.length cap) (some (.int .i64 (k : Int))) none none).run Try.prog u = .ok (.slice A' (l.drop k).length c') u) ∧ Ts w B (l.drop k) A' c' := by
  obtain ⟨i0, hi, hz0, hz1, hz2⟩ := info_parts infoS
  have hrun : ∀ u : World, (Instr.slice 22 (.slice A l.length cap) (some (.int .i64 (k : Int))) none none).run Try.prog u = .ok (sliced A k l.length cap 1) u := fun u => by
    rw [run_slice_l u 22 A l.length cap (by rw [elemS]; exact Try.underlying22) .i64 k (by omega) (by omega)]
    simp [elemS, sizeOf, typeInfo, hi, hz1, Result.andThen]
  have hlen : (l.drop k).length = l.length - k := List.length_drop
  have hnil : ∀ (A' : Option Addr) (c' : Nat), (A' = none → c' = 0) → Ts w B [] A' c' := fun A' c' h => ⟨Nat.zero_le _, by simp, h, Rd.nil _ _ _, fun x hx => by cases hx⟩
  unfold sliced at hrun
  by_cases hck : cap = k
  · have hl : l.length = k := by have := hv.1; omega
    have h0 : l.drop k = [] := List.drop_eq_nil_of_le (by omega)
    refine ⟨A, 0, fun u => ?_, by rw [h0]; exact hnil _ _ (fun _ => rfl)⟩
    rw [hrun u, h0, hck, hl]
    simp
  · by_cases h0 : l = []
    · subst h0
      simp only [List.length_nil, Nat.le_zero] at hk
      subst hk
      refine ⟨_, cap - 0, fun u => hrun u, hnil _ _ ?_⟩
      intro e
      cases A with
      | none => exact hv.2.2.1 rfl
      | some ad => simp [hck] at e
    · obtain ⟨b, off, e, hb, _⟩ := hv.at_ (j := 0) (by cases l with | nil => exact absurd rfl h0 | cons _ _ => simp)
      subst e
      refine ⟨some ⟨b, off + k, none⟩, cap - k, fun u => ?_, hv.from_ k⟩
      rw [hrun u, hlen]
      simp [hck, add_plain]
/-- what s[:k] of texts is -/
theorem run_uptoS {w : World} {B : Nat} {l : List ByteArray} {A : Option Addr} {cap : Nat} (hv : Ts w B l A cap) (k : Nat) (hk : k ≤ l.length) :
    ∃ A' c', (∀ u : World, (Instr.slice 22 (.slice A l.length cap) none (some (.int .i64 (k : Int))) none).run Try.prog u = .ok (.slice A' (l.take k).length c') u) ∧ Ts w B (l.take k) A' c' := by
  obtain ⟨i0, hi, hz0, hz1, hz2⟩ := info_parts infoS
  have h1 := hv.1
  have hrun : ∀ u : World, (Instr.slice 22 (.slice A l.length cap) none (some (.int .i64 (k : Int))) none).run Try.prog u = .ok (sliced A 0 k cap 1) u := fun u => by
    rw [run_slice_h u 22 A l.length cap (by rw [elemS]; exact Try.underlying22) .i64 k (by omega) (by omega)]
    simp [elemS, sizeOf, typeInfo, hi, hz1, Result.andThen]
  have hlen : (l.take k).length = k := by rw [List.length_take]; omega
  unfold sliced at hrun
  refine ⟨A, cap, fun u => ?_, ?_⟩
  · rw [hrun u, hlen]
    cases A with
    | none => simp
    | some ad => simp [Addr.add]
  · obtain ⟨h1, h2, h3, h4, h5⟩ := hv
    refine ⟨by omega, by omega, h3, ?_, fun x hx => h5 x (List.mem_of_mem_take hx)⟩
    have := h4.take k
    unfold sts at this ⊢
    rwa [List.map_take]
/-- at the head of the loop over the keys -/
def LpHead (W : World) (sb : ByteArray) (ks : List Int) (u i : Value) (wr : World) : Prop :=
  ∃ j : Nat, j ≤ ks.length ∧ i = .int .i64 (j : Int) ∧ Hid (Srow wr (pieceL sb (ks.take j)) u) ∧ Hid (∀ g, u.ownBlock = some g → W.heap.size ≤ g ∧ g < wr.heap.size) ∧ Below W.heap.size W wr

set_option maxRecDepth 100000 in
set_option maxHeartbeats 4000000 in
theorem law_shut (t : T) (v : Value) (K : Option Addr) (kc : Nat) (ks : List Int) (a : Int) (w : World) (hL : Lies w w.heap.size t v) (hK : Keys w K kc ks) :
    Calls Try.prog 5 #[T.val t v, .slice K ks.length kc, .int .i64 a] w fun e w' => e = .returned (.bool true) ∧ Below w.heap.size w w' := by
  obtain ⟨A, c, xs, rfl, hk, hn, hs, hlc, hc, hr, hl⟩ := hL.open_
  have hL1 := hL.later (Nat.le_refl _) (.cells #[.int .i64 t.k, .int .u64 t.n, .string t.s, .slice A t.l.length c] 39)
  have hK1 := hK.alloc (.cells #[.int .i64 t.k, .int .u64 t.n, .string t.s, .slice A t.l.length c] 39)
  have h1 := fun wx (hx : Lies wx wx.heap.size t (.slice A t.l.length c)) (hy : Keys wx K kc ks) => refWrap_any t _ K kc ks wx hx hy
  have h2 := fun wx (hx : Lies wx wx.heap.size t (.slice A t.l.length c)) (hy : Keys wx K kc ks) => wrap_any t _ K kc ks wx hx hy
  have hok := @wrapT_ok t ks
  generalize wrapT t ks = r at h1 h2 hok
  have k0 := Blk.new w 39 #[.int .i64 t.k, .int .u64 t.n, .string t.s, .slice A t.l.length c]
  have hks56 : ks.length ≤ maxLen := hK.2.2.1
  by_cases hE : r.2 = 0
  · obtain ⟨b, hr⟩ : ∃ b, r = (b, 0) := ⟨r.1, Prod.ext rfl hE⟩
    subst hr
    have hok := hok rfl
    replace h1 : ∀ wx : World, Lies wx wx.heap.size t (.slice A t.l.length c) → Keys wx K kc ks → Calls Try.prog 22 #[T.val t (.slice A t.l.length c), .slice K ks.length kc] wx (fun e w' => Below wx.heap.size wx w' ∧ ∃ A1 c1, e = .returned (.tuple #[T.val b (.slice A1 b.l.length c1), .int .i64 0]) ∧ Lies w' w'.heap.size b (.slice A1 b.l.length c1)) := h1
    replace h2 : ∀ wx : World, Lies wx wx.heap.size t (.slice A t.l.length c) → Keys wx K kc ks → Calls Try.prog 23 #[T.val t (.slice A t.l.length c), .slice K ks.length kc] wx (fun e w' => Below wx.heap.size wx w' ∧ ∃ A1 c1, e = .returned (.tuple #[T.val b (.slice A1 b.l.length c1), .int .i64 0]) ∧ Held w' wx.heap.size w'.heap.size b.l (.slice A1 b.l.length c1) ∧ Fits b) := h2
    by_cases h0 : ks.length = 0
    · obtain rfl := List.length_eq_zero_iff.1 h0
      clear hok h0 hE
      go_enter Try.func5, Try.ntmps5
      go_wp2_with fail
      refine (h1 _ hL1 hK1).mono ?_
      rintro e w1 ⟨hb1, A1, c1, rfl, a1⟩
      have K1 := (hK1.below hb1).alloc (.cells #[.int .i64 b.k, .int .u64 b.n, .string b.s, .slice A1 b.l.length c1] 39)
      have hz1 := hb1.size
      simp only [World.size_alloc] at hb1 hz1
      have g1 : w.heap.size < w1.heap.size := by omega
      have hB1 := one_step (Below.refl _ _) _ hb1
      have L1 := (hL1.below (hb1.mono (by simp))).now (by simp; omega)
      have k1 := k0.below hb1 (by omega)
      have y0 := k1.cell 0
      have y1 := k1.cell 1
      have y2 := k1.cell 2
      have y3 := k1.cell 3
      simp at y0 y1 y2 y3
      go_wp2_with fail
      refine (h2 _ (L1.later (Nat.le_refl _) (.cells #[.int .i64 b.k, .int .u64 b.n, .string b.s, .slice A1 b.l.length c1] 39)) K1).mono ?_
      rintro e w2 ⟨hb2, A2, c2, rfl, hH2, hF2⟩
      have K2 := (K1.below hb2).alloc (.cells #[.int .i64 b.k, .int .u64 b.n, .string b.s, .slice A2 b.l.length c2] 39)
      have hz2 := hb2.size
      simp only [World.size_alloc] at hb2 hz2
      have g2 : w.heap.size < w2.heap.size := by omega
      have g3 : w1.heap.size < w2.heap.size := by omega
      have hB2 := one_step hB1 _ hb2
      have a2 := (hH2.lies hF2.1 hF2.2.1 hF2.2.2 (Nat.le_refl _)).later (Nat.le_refl _) (.cells #[.int .i64 b.k, .int .u64 b.n, .string b.s, .slice A2 b.l.length c2] 39)
      have hF20 := hF2.1
      have hF21 := hF2.2.1
      have hF22 := hF2.2.2
      have k2 := (k1.alloc (.cells #[.int .i64 b.k, .int .u64 b.n, .string b.s, .slice A1 b.l.length c1] 39)).below hb2 (by omega)
      have L2 := (((L1.later (Nat.le_refl _) (.cells #[.int .i64 b.k, .int .u64 b.n, .string b.s, .slice A1 b.l.length c1] 39)).below (hb2.mono (by simp))).now (by simp; omega)).later (Nat.le_refl _) (.cells #[.int .i64 b.k, .int .u64 b.n, .string b.s, .slice A2 b.l.length c2] 39)
      have hBW := hB2.alloc hB2.size (.cells #[.int .i64 b.k, .int .u64 b.n, .string b.s, .slice A2 b.l.length c2] 39)
      go_wp2_with fail
      go_ret
      exact ⟨by first | rfl | simp, hBW⟩
    · obtain ⟨h8, hR, hcw⟩ := hok
      have hcw : contW (t, 0) ks = (b, 0) := hcw
      have hbR : b.right = 0 := wrap_right ks t b hR hcw
      have HP := lies.lay (And.intro hR (And.intro hcw (And.intro hbR h0)))
      have hpos : 0 < ks.length := Nat.pos_of_ne_zero h0
      have d2 : ((ks.length : Int) == 0) = false := by rw [beq_eq_false_iff_ne]; omega
      clear hR hcw hbR h0 hE
      go_enter Try.func5, Try.ntmps5
      go_wp2_with fail
      refine (h1 _ hL1 hK1).mono ?_
      rintro e w1 ⟨hb1, A1, c1, rfl, a1⟩
      have K1 := (hK1.below hb1).alloc (.cells #[.int .i64 b.k, .int .u64 b.n, .string b.s, .slice A1 b.l.length c1] 39)
      have hz1 := hb1.size
      simp only [World.size_alloc] at hb1 hz1
      have g1 : w.heap.size < w1.heap.size := by omega
      have hB1 := one_step (Below.refl _ _) _ hb1
      have L1 := (hL1.below (hb1.mono (by simp))).now (by simp; omega)
      have k1 := k0.below hb1 (by omega)
      have y0 := k1.cell 0
      have y1 := k1.cell 1
      have y2 := k1.cell 2
      have y3 := k1.cell 3
      simp at y0 y1 y2 y3
      go_wp2_with fail
      refine (h2 _ (L1.later (Nat.le_refl _) (.cells #[.int .i64 b.k, .int .u64 b.n, .string b.s, .slice A1 b.l.length c1] 39)) K1).mono ?_
      rintro e w2 ⟨hb2, A2, c2, rfl, hH2, hF2⟩
      have K2 := (K1.below hb2).alloc (.cells #[.int .i64 b.k, .int .u64 b.n, .string b.s, .slice A2 b.l.length c2] 39)
      have hz2 := hb2.size
      simp only [World.size_alloc] at hb2 hz2
      have g2 : w.heap.size < w2.heap.size := by omega
      have g3 : w1.heap.size < w2.heap.size := by omega
      have hB2 := one_step hB1 _ hb2
      have a2 := (hH2.lies hF2.1 hF2.2.1 hF2.2.2 (Nat.le_refl _)).later (Nat.le_refl _) (.cells #[.int .i64 b.k, .int .u64 b.n, .string b.s, .slice A2 b.l.length c2] 39)
      have hF20 := hF2.1
      have hF21 := hF2.2.1
      have hF22 := hF2.2.2
      have k2 := (k1.alloc (.cells #[.int .i64 b.k, .int .u64 b.n, .string b.s, .slice A1 b.l.length c1] 39)).below hb2 (by omega)
      have L2 := (((L1.later (Nat.le_refl _) (.cells #[.int .i64 b.k, .int .u64 b.n, .string b.s, .slice A1 b.l.length c1] 39)).below (hb2.mono (by simp))).now (by simp; omega)).later (Nat.le_refl _) (.cells #[.int .i64 b.k, .int .u64 b.n, .string b.s, .slice A2 b.l.length c2] 39)
      have hBW := hB2.alloc hB2.size (.cells #[.int .i64 b.k, .int .u64 b.n, .string b.s, .slice A2 b.l.length c2] 39)
      have hbR := HP.out.2.2.1
      have hbw := Lies.word _ _ a2
      have htw := Lies.word _ _ hL1
      have henc : Calls Try.prog 24 #[T.val b (.slice A2 b.l.length c2)] (w2.alloc (.cells #[.int .i64 b.k, .int .u64 b.n, .string b.s, .slice A2 b.l.length c2] 39)) fun e w' => e = .returned (.tuple #[.string (encB b), .int .i64 0]) ∧ Below (w2.alloc (.cells #[.int .i64 b.k, .int .u64 b.n, .string b.s, .slice A2 b.l.length c2] 39)).heap.size (w2.alloc (.cells #[.int .i64 b.k, .int .u64 b.n, .string b.s, .slice A2 b.l.length c2] 39)) w' := encs.encode_ok b _ _ a2 hbR
      have hss := encB_size hbR hbw
      have hkk := hK.2.2.2
      have HPC := lies.lay (fun ks' hk' => pieceL_pcs hbR hbw (ks := ks') hk')
      have HSZ := lies.lay (fun ks' hk' => pieceL_sizes hss (ks := ks') hk')
      generalize encB b = sb at *
      go_wp2_with fail
      refine henc.mono ?_
      rintro e w3 ⟨rfl, hb3⟩
      have K3 := K2.below hb3
      have L3 := (L2.below hb3).now hb3.size
      have hz3 := hb3.size
      simp only [World.size_alloc] at hb3 hz3
      have g4 : w.heap.size < w3.heap.size := by omega
      have hB3 := one_step hB2 _ hb3
      have k3 := (k2.alloc (.cells #[.int .i64 b.k, .int .u64 b.n, .string b.s, .slice A2 b.l.length c2] 39)).below hb3 (by omega)
      clear a1 a2 henc h1 h2 hF2 hF20 hF21 hF22 L1 L2 hL1 K1 K2 hK1 hH2 y0 y1 y2 y3 k1 k2 k0 hr hl hbR hbw hL hB1 hB2 hBW
      have b30 : Below w3.heap.size w3 (w3.alloc (.cells #[.string sb] 9)) := (Below.refl _ _).alloc (Nat.le_refl _) _
      go_wp2_with fail
      go_loopw [13, 61] (fun u i wr => LpHead w3 sb ks u i wr) (fun _ i _ => ks.length - (intOf i).toNat)
      case atStart => exact ⟨0, Nat.zero_le _, rfl, lies.lay (srow_one w3 sb), lies.lay (fun g hg => by cases hg; simp), b30⟩
      case round =>
        obtain ⟨j, hj, rfl, HS, HO, hbw⟩ := hrel
        by_cases hlt : j < ks.length
        · obtain ⟨kb, off, rfl, hkb, e0, hkr⟩ := K3.at_ hbw hlt
          have HN := lies.lay (pieceL_next sb hlt)
          have hes := encB_size (keyT_right ks[j]) (keyT_word hkr)
          have hkey := fun W => enc_key hkr W
          generalize encB (keyT ks[j]) = eb at *
          generalize ks[j] = kj at *
          go_wp2_with fail
          refine (makes.key_any kj _).mono ?_
          rintro e w4 ⟨rfl, hb4⟩
          go_wp2_with fail
          refine (hkey _).mono ?_
          rintro e w5 ⟨rfl, hb5⟩
          have hb45 : Below wr.heap.size wr w5 := hb4.trans (hb5.mono hb4.size)
          have ho5 := row_below (row_below HS.out hb45) ((Below.refl w5.heap.size w5).alloc (Nat.le_refl _) (.cells #[.string eb] 9))
          go_wp2_with (at_builtin; refine wp_texts rfl _ _ rfl (lm := pieceL sb (ks.take (j + 1))) HN.out ho5 rfl (ts_new w5 eb hes) rfl (by rw [pieceL_len, List.length_take]; simp; omega) ?_; intro v6 w6 ho6 hk6 hat6)
          have hz45 := hb45.size
          have hbz := hbw.size
          have hz6 := hk6.size
          simp only [World.size_alloc] at hz6
          have b6 : Below w3.heap.size w3 w6 := (hbw.trans (hb45.mono hbz)).trans ((((Below.refl w5.heap.size w5).alloc (Nat.le_refl _) (.cells #[.string eb] 9)).mono (by omega)).trans (hk6.below (fun g hg => (HO.out g hg).1) (by simp; omega)))
          refine ⟨⟨j + 1, hlt, by go_num, lies.lay ho6, lies.lay (fun g hg => ?_), b6⟩, by simp [intOf]; omega⟩
          rcases hat6 g hg with h | h
          · have := HO.out g h; omega
          · simp only [World.size_alloc] at h; omega
        · have hje : j = ks.length := by omega
          subst hje
          rw [List.take_length] at HS
          have HPL := HPC.out ks hkk
          have hsz := HSZ.out ks hkk
          have hpl := pieceL_len sb ks
          obtain ⟨A9, c9, rfl, hTP⟩ := srow_ts HS.out (by omega) hsz
          have hPD := fun (L : Nat) (h : L < ks.length) => pieceL_drop (sb := sb) h
          generalize pieceL sb ks = PL at *
          have kT := k3.below hbw (by omega)
          have y0 := kT.cell 0
          have y1 := kT.cell 1
          have y2 := kT.cell 2
          have y3 := kT.cell 3
          simp at y0 y1 y2 y3
          have L4 := (L3.below hbw).now hbw.size
          have hR := HP.out.1
          have hts := encB_size hR htw
          have hpt : pieceT (encB t) = t := pieces_enc hR htw
          have henc : Calls Try.prog 24 #[T.val t (.slice A t.l.length c)] wr fun e w' => e = .returned (.tuple #[.string (encB t), .int .i64 0]) ∧ Below wr.heap.size wr w' := encs.encode_ok t _ _ L4 hR
          generalize encB t = tb at *
          have hwz := hbw.size
          have g5 : w.heap.size < wr.heap.size := by omega
          have HQ := lies.lay (And.intro hpl (And.intro HPL (And.intro hPD hpt)))
          have HR := lies.lay hR
          clear hpl HPL hPD hpt hR
          go_wp2_with fail
          refine henc.mono ?_
          rintro e w7 ⟨rfl, hb7⟩
          have b7a := (Below.refl w7.heap.size w7).alloc (Nat.le_refl _) (.cells #[.string tb] 9)
          have bs8 := hb7.trans (b7a.mono hb7.size)
          go_wp2_with fail
          refine (atoms_ok [tb] (some ⟨w7.heap.size, 0, none⟩) 1 _ (ts_new w7 tb hts) (by simp)).mono ?_
          rintro e w8 ⟨K8, A8, m8, v8, rfl, lo8, ⟨tx8, up8⟩, cn8, hb8⟩
          have bs9 := bs8.trans (hb8.mono bs8.size)
          go_wp2_with fail
          refine (atoms_ok PL A9 c9 _ (hTP.now bs9) (by have := HQ.out.1; omega)).mono ?_
          rintro e w9 ⟨K9, B9, m9, v9, rfl, lo9, ⟨tx9, up9⟩, cn9, hb9⟩
          have bs10 := bs9.trans (hb9.mono bs9.size)
          rw [show pcs [tb] = [t] from by rw [pcs, List.map_cons, HQ.out.2.2.2]; rfl] at lo8
          rw [HQ.out.2.1] at lo9
          go_wp2_with fail
          refine (inAll_any v8 v9 0 0 A8 B9 _ (tx8.below hb9) tx9 (shut_all HP.out.2.1 lo8 lo9)).mono ?_
          rintro e w10 ⟨rfl, rfl⟩
          have hBall : Below w.heap.size w w10 := hB3.trans ((hbw.trans (bs10.mono hbw.size)).mono (by omega))
          by_cases hn : a < 0
          · have d3 : decide (a < 0) = true := decide_eq_true hn
            go_wp2_with fail
            go_ret
            exact ⟨rfl, hBall⟩
          · by_cases hge : (ks.length : Int) ≤ a
            · have d3 : decide (a < 0) = false := decide_eq_false hn
              have d4 : decide ((ks.length : Int) ≤ a) = true := decide_eq_true hge
              go_wp2_with fail
              go_ret
              exact ⟨rfl, hBall⟩
            · have d3 : decide (a < 0) = false := decide_eq_false hn
              have d4 : decide ((ks.length : Int) ≤ a) = false := decide_eq_false hge
              obtain ⟨L, rfl⟩ := Int.eq_ofNat_of_zero_le (show 0 ≤ a by omega)
              have hL : L < ks.length := by omega
              obtain ⟨kL, hkL⟩ : ∃ x, ks[L] = x := ⟨_, rfl⟩
              have HKL := lies.lay hkL
              have hb310 : Below w3.heap.size w3 w10 := hbw.trans (bs10.mono hbw.size)
              clear lo8 lo9 tx8 tx9 up8 up9 y0 y1 y2 y3 kT L4
              go_wp2_with fail
              go_loopw [104] (fun i wx => ∃ j : Nat, j ≤ ks.length ∧ i = .int .i64 (j : Int) ∧ Hid (∀ (j' : Nat) (h : j' < ks.length), j' < j → j' ≠ L → ks[j'] ≠ kL) ∧ wx = w10) (fun i _ => ks.length - (intOf i).toNat)
              case atStart => exact ⟨0, Nat.zero_le _, rfl, lies.lay (fun j' _ h => by omega), rfl⟩
              case round =>
                obtain ⟨j, hj, rfl, HU, rfl⟩ := hrel
                obtain ⟨kb, off, rfl, hkb, eL, hkrL⟩ := K3.at_ hb310 hL
                rw [hkL] at eL
                clear hkL
                by_cases hlt : j < ks.length
                · obtain ⟨kb', off', eK, _, e0, _⟩ := K3.at_ hb310 hlt
                  cases eK
                  by_cases hjL : j = L
                  · subst hjL
                    have HN : Hid (∀ (j' : Nat) (h : j' < ks.length), j' < j + 1 → j' ≠ j → ks[j'] ≠ kL) := lies.lay (fun j' h h1 h2 => HU.out j' h (by omega) h2)
                    clear HU
                    have d5 : ((j : Int) != (j : Int)) = false := by simp
                    go_wp2_with fail
                    exact ⟨⟨j + 1, hlt, by go_num, HN, by first | rfl | trivial⟩, by simp [intOf]; omega⟩
                  · have d5 : ((j : Int) != (L : Int)) = true := by rw [bne_iff_ne]; omega
                    by_cases heq : ks[j] = kL
                    · rw [heq] at e0
                      clear heq HU
                      go_wp2_with fail
                      go_ret
                      exact ⟨by first | rfl | simp, hBall⟩
                    · have HN : Hid (∀ (j' : Nat) (h : j' < ks.length), j' < j + 1 → j' ≠ L → ks[j'] ≠ kL) := lies.lay (fun j' h h1 h2 => by
                        by_cases hj' : j' = j
                        · subst hj'; exact heq
                        · exact HU.out j' h (by omega) h2)
                      have d6 : (ks[j] == kL) = false := by simpa using heq
                      clear HU heq
                      generalize ks[j] = kj at e0 d6
                      go_wp2_with fail
                      exact ⟨⟨j + 1, hlt, by go_num, HN, by first | rfl | trivial⟩, by simp [intOf]; omega⟩
                · have hje : j = ks.length := by omega
                  subst hje
                  have hnot : kL ∉ ks.take L ++ ks.drop (L + 1) := fun h => by
                    rcases List.mem_append.1 h with h | h
                    · obtain ⟨i, hi, e⟩ := List.getElem_of_mem h
                      rw [List.getElem_take] at e
                      rw [List.length_take] at hi
                      exact HU.out i (by omega) (by omega) (by omega) e
                    · obtain ⟨i, hi, e⟩ := List.getElem_of_mem h
                      rw [List.getElem_drop] at e
                      rw [List.length_drop] at hi
                      exact HU.out (L + 1 + i) (by omega) (by omega) (by omega) e
                  have hxk : ∀ k ∈ ks.take L ++ ks.drop (L + 1), 0 ≤ k ∧ k < 18446744073709551616 := fun k hk => by
                    rcases List.mem_append.1 hk with h | h
                    · exact hkk k (List.mem_of_mem_take h)
                    · exact hkk k (List.mem_of_mem_drop h)
                  have hPX := HPC.out _ hxk
                  have hsX := HSZ.out _ hxk
                  have hlX := pieceL_len sb (ks.take L ++ ks.drop (L + 1))
                  have hlk : (ks.take L ++ ks.drop (L + 1)).length = ks.length - 1 := by rw [List.length_append, List.length_take, List.length_drop]; omega
                  have hcat := HQ.out.2.2.1 L hL
                  have hlP := HQ.out.1
                  have hcw := HP.out.2.1
                  rw [← ks_split hL, HKL.out] at hcw
                  have hlacks := fun (K : List Int) (A : List (List UInt8)) (m : Nat) h => shut_lacks (K := K) (A := A) (m := m) hcw hnot h
                  generalize pieceL sb (ks.take L ++ ks.drop (L + 1)) = PX at *
                  generalize ks.take L ++ ks.drop (L + 1) = kx at *
                  have hT10 := hTP.now bs10
                  obtain ⟨AU, cU, hsU, hTU⟩ := run_uptoS hT10 (L + 1) (by omega)
                  obtain ⟨AF, cF, hsF, hTF⟩ := run_fromS hT10 (L + 2) (by omega)
                  simp only [show ((L + 1 : Nat) : Int) = (L : Int) + 1 from rfl, show ((L + 2 : Nat) : Int) = (L : Int) + 2 from rfl] at hsU hsF
                  have hlU : (PL.take (L + 1)).length ≤ 9 := by rw [List.length_take]; omega
                  have hlF : (PL.drop (L + 2)).length ≤ 9 := by rw [List.length_drop]; omega
                  generalize PL.take (L + 1) = PU at *
                  generalize PL.drop (L + 2) = PF at *
                  have HX := lies.lay (And.intro hcat (And.intro hPX (And.intro hlX (And.intro hlk hnot))))
                  have HLK := lies.lay hlacks
                  clear hcat hPX hlX hnot hcw hlacks HU HPC HSZ hlP
                  have hpx9 : PX.length ≤ 9 := by have := HX.out.2.2.1; have := HX.out.2.2.2.1; omega
                  have e7 : IntKind.i64.wrap ((L : Int) + 1) = (L : Int) + 1 := IntWalk.i64_in _ (by omega)
                  have e8 : IntKind.i64.wrap ((L : Int) + 2) = (L : Int) + 2 := IntWalk.i64_in _ (by omega)
                  have e9 : IntKind.i64.wrap ((ks.length : Int) - 1) = (ks.length : Int) - 1 := IntWalk.i64_in _ (by omega)
                  have bE := (Below.refl wr.heap.size wr).alloc (Nat.le_refl _) (.cells #[] 9)
                  clear hlk
                  go_wp2_with (first
                    | (at_builtin; refine wp_texts rfl _ _ rfl (lm := PX) HX.out.1 ho11 rfl (hTF.now b11) rfl (by omega) ?_; intro v12 w12 ho12 hk12 hat12; obtain ⟨A12, c12, rfl, hT12⟩ := srow_ts ho12 (by omega) hsX; have b12 : Below wr.heap.size wr w12 := b11.trans (hk12.below (fun g hg => by rcases hat11 g hg with h | h; (cases h; exact Nat.le_refl _); have := h.1; simp at this; omega) b11.size))
                    | (at_builtin; refine wp_texts rfl _ _ rfl (lm := PU) rfl (srow_new wr) rfl (hTU.now bE) rfl (by simp only [List.length_nil]; omega) ?_; intro v11 w11 ho11 hk11 hat11; have b11 : Below wr.heap.size wr w11 := bE.trans (hk11.below (fun g hg => by cases hg; exact Nat.le_refl _) bE.size)))
                  have hz310 := hb310.size
                  have eL12 : w12.cell? ⟨kb, off + L, none⟩ = some (.int .u64 kL) := (b12.cell (p := ⟨kb, off + L, none⟩) (by show kb < wr.heap.size; omega)).trans eL
                  have hkb12 : kb < w12.heap.size := by have := b12.size; omega
                  have hS0 : Below w12.heap.size w12 w12.drew := (Below.refl _ _).drew
                  refine mix.region_D (fun w' => Below w12.heap.size w12 w') (fun _ => false) (by kernel_rfl) ?_
                  generalize w12.drew = Wd at hS0 ⊢
                  refine mix.D_take (i := 0) (v := ?_) rfl (by kernel_rfl) (by kernel_rfl) (fun _ _ _ h => h) (Or.inl ⟨by first | rfl | simp [Region.wanted, yielded], ?_⟩) hS0 ?_
                  rotate_left
                  · intro w' hSw
                    have y0 := (hSw.cell (p := ⟨kb, off + L, none⟩) hkb12).trans eL12
                    try simp only [List.getElem_toArray, List.getElem_cons_zero, List.getElem_cons_succ]
                    go_simp
                    exact rfl
                  try simp only [Act.put, List.setIfInBounds_toArray, List.set_cons_zero, List.set_cons_succ, List.getElem_toArray, List.getElem_cons_zero, List.getElem_cons_succ]
                  refine mix.D_op (k := 1) rfl rfl (by kernel_rfl) (fun K' hK => ?_)
                  simp only [List.getElem_toArray, List.getElem_cons_zero, List.getElem_cons_succ]
                  go_wp2_with fail
                  refine (atoms_ok PX A12 c12 _ (hT12.now hS0) (by omega)).mono ?_
                  rintro e x1 ⟨K3', A3', m3, v3, rfl, lo3, ⟨tx3, up3⟩, cn3, hc1⟩
                  have hd1 : Below w12.heap.size w12 x1 := hS0.trans (hc1.mono hS0.size)
                  rw [HX.out.2.1] at lo3
                  obtain rfl : A3' = [] := (HLK.out _ _ _ lo3).1
                  obtain ⟨q1, q2, rfl, _, _⟩ := tx3
                  refine hK.out _ _ (fun _ => hd1) ?_
                  clear hK K'
                  try simp only [Act.put, List.setIfInBounds_toArray, List.set_cons_zero, List.set_cons_succ]
                  refine mix.D_take (i := 2) (v := ?_) rfl (by kernel_rfl) (by kernel_rfl) (fun _ _ _ h => h) (Or.inl ⟨by first | rfl | simp [Region.wanted, yielded], ?_⟩) hd1 ?_
                  rotate_left
                  · intro w' hSw
                    have y0 := (hSw.cell (p := ⟨kb, off + L, none⟩) hkb12).trans eL12
                    try simp only [List.getElem_toArray, List.getElem_cons_zero, List.getElem_cons_succ]
                    go_simp
                    exact rfl
                  try simp only [Act.put, List.setIfInBounds_toArray, List.set_cons_zero, List.set_cons_succ, List.getElem_toArray, List.getElem_cons_zero, List.getElem_cons_succ]
                  try simp only [List.length_nil]
                  refine mix.D_take (i := 3) (v := ?_) rfl (by kernel_rfl) (by kernel_rfl) (fun _ _ _ h => h) (Or.inl ⟨by first | rfl | simp [Region.wanted, yielded], ?_⟩) hd1 ?_
                  rotate_left
                  · intro w' hSw
                    have y0 := (hSw.cell (p := ⟨kb, off + L, none⟩) hkb12).trans eL12
                    try simp only [List.getElem_toArray, List.getElem_cons_zero, List.getElem_cons_succ]
                    go_simp
                    exact rfl
                  try simp only [Act.put, List.setIfInBounds_toArray, List.set_cons_zero, List.set_cons_succ, List.getElem_toArray, List.getElem_cons_zero, List.getElem_cons_succ]
                  try simp only [List.length_nil]
                  refine mix.D_take (i := 4) (v := ?_) rfl (by kernel_rfl) (by kernel_rfl) (fun _ _ _ h => h) (Or.inl ⟨by first | rfl | simp [Region.wanted, yielded], ?_⟩) hd1 ?_
                  rotate_left
                  · intro w' hSw
                    have y0 := (hSw.cell (p := ⟨kb, off + L, none⟩) hkb12).trans eL12
                    try simp only [List.getElem_toArray, List.getElem_cons_zero, List.getElem_cons_succ]
                    go_simp
                    exact rfl
                  try simp only [Act.put, List.setIfInBounds_toArray, List.set_cons_zero, List.set_cons_succ, List.getElem_toArray, List.getElem_cons_zero, List.getElem_cons_succ]
                  try simp only [List.length_nil]
                  refine mix.D_take (i := 5) (v := ?_) rfl (by kernel_rfl) (by kernel_rfl) (fun _ _ _ h => h) (Or.inl ⟨by first | rfl | simp [Region.wanted, yielded], ?_⟩) hd1 ?_
                  rotate_left
                  · intro w' hSw
                    have y0 := (hSw.cell (p := ⟨kb, off + L, none⟩) hkb12).trans eL12
                    try simp only [List.getElem_toArray, List.getElem_cons_zero, List.getElem_cons_succ]
                    go_simp
                    exact rfl
                  try simp only [Act.put, List.setIfInBounds_toArray, List.set_cons_zero, List.set_cons_succ, List.getElem_toArray, List.getElem_cons_zero, List.getElem_cons_succ]
                  try simp only [List.length_nil]
                  refine mix.D_take (i := 8) (v := ?_) rfl (by kernel_rfl) (by kernel_rfl) (fun _ _ _ h => h) (Or.inl ⟨by first | rfl | simp [Region.wanted, yielded], ?_⟩) hd1 ?_
                  rotate_left
                  · intro w' hSw
                    have y0 := (hSw.cell (p := ⟨kb, off + L, none⟩) hkb12).trans eL12
                    try simp only [List.getElem_toArray, List.getElem_cons_zero, List.getElem_cons_succ]
                    go_simp
                    exact rfl
                  try simp only [Act.put, List.setIfInBounds_toArray, List.set_cons_zero, List.set_cons_succ, List.getElem_toArray, List.getElem_cons_zero, List.getElem_cons_succ]
                  try simp only [List.length_nil]
                  refine mix.D_take (i := 9) (v := ?_) rfl (by kernel_rfl) (by kernel_rfl) (fun _ _ _ h => h) (Or.inl ⟨by first | rfl | simp [Region.wanted, yielded], ?_⟩) hd1 ?_
                  rotate_left
                  · intro w' hSw
                    have y0 := (hSw.cell (p := ⟨kb, off + L, none⟩) hkb12).trans eL12
                    try simp only [List.getElem_toArray, List.getElem_cons_zero, List.getElem_cons_succ]
                    go_simp
                    exact rfl
                  try simp only [Act.put, List.setIfInBounds_toArray, List.set_cons_zero, List.set_cons_succ, List.getElem_toArray, List.getElem_cons_zero, List.getElem_cons_succ]
                  try simp only [List.length_nil]
                  refine mix.D_take (i := 10) (v := ?_) rfl (by kernel_rfl) (by kernel_rfl) (fun _ _ _ h => h) (Or.inl ⟨by first | rfl | simp [Region.wanted, yielded], ?_⟩) hd1 ?_
                  rotate_left
                  · intro w' hSw
                    have y0 := (hSw.cell (p := ⟨kb, off + L, none⟩) hkb12).trans eL12
                    try simp only [List.getElem_toArray, List.getElem_cons_zero, List.getElem_cons_succ]
                    go_simp
                    exact rfl
                  try simp only [Act.put, List.setIfInBounds_toArray, List.set_cons_zero, List.set_cons_succ, List.getElem_toArray, List.getElem_cons_zero, List.getElem_cons_succ]
                  try simp only [List.length_nil]
                  refine mix.D_opG (k := 6) rfl (by kernel_rfl) (by first | rfl | simp [Region.wanted, yielded]) (fun K' hK => ?_)
                  simp only [List.getElem_toArray, List.getElem_cons_zero, List.getElem_cons_succ]
                  go_wp2_with fail
                  refine (keys_ok PX A12 c12 _ (hT12.now hd1) (by omega)).mono ?_
                  rintro e x2 ⟨K4, A4, m4, v4, rfl, lo4, ⟨ky4, up4⟩, cn4, hc2⟩
                  have hd2 : Below w12.heap.size w12 x2 := hd1.trans (hc2.mono hd1.size)
                  rw [HX.out.2.1] at lo4
                  have hle := up_len up4 (HLK.out _ _ _ lo4).2.2.2
                  have d9 : decide ((K4.length : Int) ≤ (ks.length : Int) - 1) = true := decide_eq_true (by have := HX.out.2.2.2.1; omega)
                  obtain ⟨q3, q4, rfl, _, _, _⟩ := ky4
                  refine hK.out _ _ (fun _ => hd2) ?_
                  clear hK K'
                  try simp only [Act.put, List.setIfInBounds_toArray, List.set_cons_zero, List.set_cons_succ]
                  refine mix.D_take (i := 7) (v := ?_) rfl (by kernel_rfl) (by kernel_rfl) (fun _ _ _ h => h) (Or.inl ⟨by first | rfl | simp [Region.wanted, yielded], ?_⟩) hd2 ?_
                  rotate_left
                  · intro w' hSw
                    have y0 := (hSw.cell (p := ⟨kb, off + L, none⟩) hkb12).trans eL12
                    try simp only [List.getElem_toArray, List.getElem_cons_zero, List.getElem_cons_succ]
                    go_simp
                    exact rfl
                  try simp only [Act.put, List.setIfInBounds_toArray, List.set_cons_zero, List.set_cons_succ, List.getElem_toArray, List.getElem_cons_zero, List.getElem_cons_succ]
                  try simp only [d9, e9]
                  refine mix.D_take (i := 11) (v := ?_) rfl (by kernel_rfl) (by kernel_rfl) (fun _ _ _ h => h) (Or.inl ⟨by first | rfl | simp [Region.wanted, yielded], ?_⟩) hd2 ?_
                  rotate_left
                  · intro w' hSw
                    have y0 := (hSw.cell (p := ⟨kb, off + L, none⟩) hkb12).trans eL12
                    try simp only [List.getElem_toArray, List.getElem_cons_zero, List.getElem_cons_succ]
                    go_simp
                    exact rfl
                  try simp only [Act.put, List.setIfInBounds_toArray, List.set_cons_zero, List.set_cons_succ, List.getElem_toArray, List.getElem_cons_zero, List.getElem_cons_succ]
                  try simp only [d9, e9]
                  refine mix.D_take (i := 12) (v := ?_) rfl (by kernel_rfl) (by kernel_rfl) (fun _ _ _ h => h) (Or.inl ⟨by first | rfl | simp [Region.wanted, yielded], ?_⟩) hd2 ?_
                  rotate_left
                  · intro w' hSw
                    have y0 := (hSw.cell (p := ⟨kb, off + L, none⟩) hkb12).trans eL12
                    try simp only [List.getElem_toArray, List.getElem_cons_zero, List.getElem_cons_succ]
                    go_simp
                    exact rfl
                  try simp only [Act.put, List.setIfInBounds_toArray, List.set_cons_zero, List.set_cons_succ, List.getElem_toArray, List.getElem_cons_zero, List.getElem_cons_succ]
                  try simp only [d9, e9]
                  refine mix.D_take (i := 13) (v := ?_) rfl (by kernel_rfl) (by kernel_rfl) (fun _ _ _ h => h) (Or.inl ⟨by first | rfl | simp [Region.wanted, yielded], ?_⟩) hd2 ?_
                  rotate_left
                  · intro w' hSw
                    have y0 := (hSw.cell (p := ⟨kb, off + L, none⟩) hkb12).trans eL12
                    try simp only [List.getElem_toArray, List.getElem_cons_zero, List.getElem_cons_succ]
                    go_simp
                    exact rfl
                  try simp only [Act.put, List.setIfInBounds_toArray, List.set_cons_zero, List.set_cons_succ, List.getElem_toArray, List.getElem_cons_zero, List.getElem_cons_succ]
                  try simp only [d9, e9]
                  refine mix.D_take (i := 14) (v := ?_) rfl (by kernel_rfl) (by kernel_rfl) (fun _ _ _ h => h) (Or.inl ⟨by first | rfl | simp [Region.wanted, yielded], ?_⟩) hd2 ?_
                  rotate_left
                  · intro w' hSw
                    have y0 := (hSw.cell (p := ⟨kb, off + L, none⟩) hkb12).trans eL12
                    try simp only [List.getElem_toArray, List.getElem_cons_zero, List.getElem_cons_succ]
                    go_simp
                    exact rfl
                  try simp only [Act.put, List.setIfInBounds_toArray, List.set_cons_zero, List.set_cons_succ, List.getElem_toArray, List.getElem_cons_zero, List.getElem_cons_succ]
                  try simp only [d9, e9]
                  refine mix.D_opG (k := 15) rfl (by kernel_rfl) (by first | rfl | simp [Region.wanted, yielded]) (fun K' hK => ?_)
                  simp only [List.getElem_toArray, List.getElem_cons_zero, List.getElem_cons_succ]
                  go_wp2_with fail
                  refine (shut_ok PX A12 c12 _ (hT12.now hd2) (by omega)).mono ?_
                  rintro e x3 ⟨K5, A5, m5, rfl, cn5, lo5, hc3⟩
                  have hd3 : Below w12.heap.size w12 x3 := hd2.trans (hc3.mono hd2.size)
                  rw [HX.out.2.1] at lo5
                  obtain rfl : m5 = 1 := (HLK.out _ _ _ lo5).2.1
                  refine hK.out _ _ (fun _ => hd3) ?_
                  clear hK K'
                  try simp only [Act.put, List.setIfInBounds_toArray, List.set_cons_zero, List.set_cons_succ]
                  refine mix.D_take (i := 16) (v := ?_) rfl (by kernel_rfl) (by kernel_rfl) (fun _ _ _ h => h) (Or.inl ⟨by first | rfl | simp [Region.wanted, yielded], ?_⟩) hd3 ?_
                  rotate_left
                  · intro w' hSw
                    have y0 := (hSw.cell (p := ⟨kb, off + L, none⟩) hkb12).trans eL12
                    try simp only [List.getElem_toArray, List.getElem_cons_zero, List.getElem_cons_succ]
                    go_simp
                    exact rfl
                  try simp only [Act.put, List.setIfInBounds_toArray, List.set_cons_zero, List.set_cons_succ, List.getElem_toArray, List.getElem_cons_zero, List.getElem_cons_succ]
                  refine mix.D_take (i := 17) (v := ?_) rfl (by kernel_rfl) (by kernel_rfl) (fun _ _ _ h => h) (Or.inl ⟨by first | rfl | simp [Region.wanted, yielded], ?_⟩) hd3 ?_
                  rotate_left
                  · intro w' hSw
                    have y0 := (hSw.cell (p := ⟨kb, off + L, none⟩) hkb12).trans eL12
                    try simp only [List.getElem_toArray, List.getElem_cons_zero, List.getElem_cons_succ]
                    go_simp
                    exact rfl
                  try simp only [Act.put, List.setIfInBounds_toArray, List.set_cons_zero, List.set_cons_succ, List.getElem_toArray, List.getElem_cons_zero, List.getElem_cons_succ]
                  refine mix.D_take (i := 18) (v := ?_) rfl (by kernel_rfl) (by kernel_rfl) (fun _ _ _ h => h) (Or.inl ⟨by first | rfl | simp [Region.wanted, yielded], ?_⟩) hd3 ?_
                  rotate_left
                  · intro w' hSw
                    have y0 := (hSw.cell (p := ⟨kb, off + L, none⟩) hkb12).trans eL12
                    try simp only [List.getElem_toArray, List.getElem_cons_zero, List.getElem_cons_succ]
                    go_simp
                    exact rfl
                  try simp only [Act.put, List.setIfInBounds_toArray, List.set_cons_zero, List.set_cons_succ, List.getElem_toArray, List.getElem_cons_zero, List.getElem_cons_succ]
                  refine mix.D_take (i := 19) (v := ?_) rfl (by kernel_rfl) (by kernel_rfl) (fun _ _ _ h => h) (Or.inl ⟨by first | rfl | simp [Region.wanted, yielded], ?_⟩) hd3 ?_
                  rotate_left
                  · intro w' hSw
                    have y0 := (hSw.cell (p := ⟨kb, off + L, none⟩) hkb12).trans eL12
                    try simp only [List.getElem_toArray, List.getElem_cons_zero, List.getElem_cons_succ]
                    go_simp
                    exact rfl
                  try simp only [Act.put, List.setIfInBounds_toArray, List.set_cons_zero, List.set_cons_succ, List.getElem_toArray, List.getElem_cons_zero, List.getElem_cons_succ]
                  refine mix.D_take (i := 21) (v := ?_) rfl (by kernel_rfl) (by kernel_rfl) (fun _ _ _ h => h) (Or.inl ⟨by first | rfl | simp [Region.wanted, yielded], ?_⟩) hd3 ?_
                  rotate_left
                  · intro w' hSw
                    have y0 := (hSw.cell (p := ⟨kb, off + L, none⟩) hkb12).trans eL12
                    try simp only [List.getElem_toArray, List.getElem_cons_zero, List.getElem_cons_succ]
                    go_simp
                    exact rfl
                  try simp only [Act.put, List.setIfInBounds_toArray, List.set_cons_zero, List.set_cons_succ, List.getElem_toArray, List.getElem_cons_zero, List.getElem_cons_succ]
                  refine mix.D_take (i := 22) (v := ?_) rfl (by kernel_rfl) (by kernel_rfl) (fun _ _ _ h => h) (Or.inl ⟨by first | rfl | simp [Region.wanted, yielded], ?_⟩) hd3 ?_
                  rotate_left
                  · intro w' hSw
                    have y0 := (hSw.cell (p := ⟨kb, off + L, none⟩) hkb12).trans eL12
                    try simp only [List.getElem_toArray, List.getElem_cons_zero, List.getElem_cons_succ]
                    go_simp
                    exact rfl
                  try simp only [Act.put, List.setIfInBounds_toArray, List.set_cons_zero, List.set_cons_succ, List.getElem_toArray, List.getElem_cons_zero, List.getElem_cons_succ]
                  refine mix.D_take (i := 23) (v := ?_) rfl (by kernel_rfl) (by kernel_rfl) (fun _ _ _ h => h) (Or.inl ⟨by first | rfl | simp [Region.wanted, yielded], ?_⟩) hd3 ?_
                  rotate_left
                  · intro w' hSw
                    have y0 := (hSw.cell (p := ⟨kb, off + L, none⟩) hkb12).trans eL12
                    try simp only [List.getElem_toArray, List.getElem_cons_zero, List.getElem_cons_succ]
                    go_simp
                    exact rfl
                  try simp only [Act.put, List.setIfInBounds_toArray, List.set_cons_zero, List.set_cons_succ, List.getElem_toArray, List.getElem_cons_zero, List.getElem_cons_succ]
                  refine mix.D_take (i := 24) (v := ?_) rfl (by kernel_rfl) (by kernel_rfl) (fun _ _ _ h => h) (Or.inl ⟨by first | rfl | simp [Region.wanted, yielded], ?_⟩) hd3 ?_
                  rotate_left
                  · intro w' hSw
                    have y0 := (hSw.cell (p := ⟨kb, off + L, none⟩) hkb12).trans eL12
                    try simp only [List.getElem_toArray, List.getElem_cons_zero, List.getElem_cons_succ]
                    go_simp
                    exact rfl
                  try simp only [Act.put, List.setIfInBounds_toArray, List.set_cons_zero, List.set_cons_succ, List.getElem_toArray, List.getElem_cons_zero, List.getElem_cons_succ]
                  refine mix.D_opG (k := 20) rfl (by kernel_rfl) (by first | rfl | simp [Region.wanted, yielded]) (fun K' hK => ?_)
                  simp only [List.getElem_toArray, List.getElem_cons_zero, List.getElem_cons_succ]
                  go_wp2_with fail
                  refine (keys_ok PX A12 c12 _ (hT12.now hd3) (by omega)).mono ?_
                  rintro e x4 ⟨K6, A6, m6, v6, rfl, lo6, ⟨ky6, up6⟩, cn6, hc4⟩
                  have hd4 : Below w12.heap.size w12 x4 := hd3.trans (hc4.mono hd3.size)
                  rw [HX.out.2.1] at lo6
                  have hkn : decide (kL ∈ K6) = false := decide_eq_false (HLK.out _ _ _ lo6).2.2.1
                  refine hK.out _ _ (fun _ => hd4) ?_
                  clear hK K'
                  try simp only [Act.put, List.setIfInBounds_toArray, List.set_cons_zero, List.set_cons_succ]
                  refine mix.D_opG (k := 25) rfl (by kernel_rfl) (by first | rfl | simp [Region.wanted, yielded]) (fun K' hK => ?_)
                  simp only [List.getElem_toArray, List.getElem_cons_zero, List.getElem_cons_succ]
                  go_wp2_with fail
                  refine (hasKey_any v6 K6 kL _ ky6).mono ?_
                  rintro e x5 ⟨rfl, hww⟩
                  have hd5 : Below w12.heap.size w12 x5 := hww ▸ hd4
                  rw [hkn]
                  refine hK.out _ _ (fun _ => hd5) ?_
                  clear hK K'
                  try simp only [Act.put, List.setIfInBounds_toArray, List.set_cons_zero, List.set_cons_succ]
                  refine mix.D_take (i := 26) (v := ?_) rfl (by kernel_rfl) (by kernel_rfl) (fun _ _ _ h => h) (Or.inl ⟨by first | rfl | simp [Region.wanted, yielded], ?_⟩) hd5 ?_
                  rotate_left
                  · intro w' hSw
                    have y0 := (hSw.cell (p := ⟨kb, off + L, none⟩) hkb12).trans eL12
                    try simp only [List.getElem_toArray, List.getElem_cons_zero, List.getElem_cons_succ]
                    go_simp
                    exact rfl
                  try simp only [Act.put, List.setIfInBounds_toArray, List.set_cons_zero, List.set_cons_succ, List.getElem_toArray, List.getElem_cons_zero, List.getElem_cons_succ]
                  refine mix.D_take (i := 27) (v := ?_) rfl (by kernel_rfl) (by kernel_rfl) (fun _ _ _ h => h) (Or.inl ⟨by first | rfl | simp [Region.wanted, yielded], ?_⟩) hd5 ?_
                  rotate_left
                  · intro w' hSw
                    have y0 := (hSw.cell (p := ⟨kb, off + L, none⟩) hkb12).trans eL12
                    try simp only [List.getElem_toArray, List.getElem_cons_zero, List.getElem_cons_succ]
                    go_simp
                    exact rfl
                  try simp only [Act.put, List.setIfInBounds_toArray, List.set_cons_zero, List.set_cons_succ, List.getElem_toArray, List.getElem_cons_zero, List.getElem_cons_succ]
                  refine mix.D_take (i := 28) (v := ?_) rfl (by kernel_rfl) (by kernel_rfl) (fun _ _ _ h => h) (Or.inl ⟨by first | rfl | simp [Region.wanted, yielded], ?_⟩) hd5 ?_
                  rotate_left
                  · intro w' hSw
                    have y0 := (hSw.cell (p := ⟨kb, off + L, none⟩) hkb12).trans eL12
                    try simp only [List.getElem_toArray, List.getElem_cons_zero, List.getElem_cons_succ]
                    go_simp
                    exact rfl
                  try simp only [Act.put, List.setIfInBounds_toArray, List.set_cons_zero, List.set_cons_succ, List.getElem_toArray, List.getElem_cons_zero, List.getElem_cons_succ]
                  refine mix.D_done (by kernel_rfl) ?_ _
                  go_wp2_with fail
                  go_ret
                  exact ⟨by first | rfl | simp, hBall.trans ((b12.trans (hd5.mono b12.size)).mono hBall.size)⟩
  · have d1 : (r.2 != 0) = true := by simp [hE]
    clear hok hE
    go_enter Try.func5, Try.ntmps5
    go_wp2_with fail
    refine (h1 _ hL1 hK1).mono ?_
    rintro e w1 ⟨hb1, A1, c1, rfl, a1⟩
    have K1 := (hK1.below hb1).alloc (.cells #[.int .i64 r.1.k, .int .u64 r.1.n, .string r.1.s, .slice A1 r.1.l.length c1] 39)
    have hz1 := hb1.size
    simp only [World.size_alloc] at hb1 hz1
    have g1 : w.heap.size < w1.heap.size := by omega
    have hB1 := one_step (Below.refl _ _) _ hb1
    have L1 := (hL1.below (hb1.mono (by simp))).now (by simp; omega)
    have k1 := k0.below hb1 (by omega)
    have y0 := k1.cell 0
    have y1 := k1.cell 1
    have y2 := k1.cell 2
    have y3 := k1.cell 3
    simp at y0 y1 y2 y3
    go_wp2_with fail
    refine (h2 _ (L1.later (Nat.le_refl _) (.cells #[.int .i64 r.1.k, .int .u64 r.1.n, .string r.1.s, .slice A1 r.1.l.length c1] 39)) K1).mono ?_
    rintro e w2 ⟨hb2, A2, c2, rfl, hH2, hF2⟩
    have K2 := (K1.below hb2).alloc (.cells #[.int .i64 r.1.k, .int .u64 r.1.n, .string r.1.s, .slice A2 r.1.l.length c2] 39)
    have hz2 := hb2.size
    simp only [World.size_alloc] at hb2 hz2
    have g2 : w.heap.size < w2.heap.size := by omega
    have g3 : w1.heap.size < w2.heap.size := by omega
    have hB2 := one_step hB1 _ hb2
    have a2 := (hH2.lies hF2.1 hF2.2.1 hF2.2.2 (Nat.le_refl _)).later (Nat.le_refl _) (.cells #[.int .i64 r.1.k, .int .u64 r.1.n, .string r.1.s, .slice A2 r.1.l.length c2] 39)
    have hF20 := hF2.1
    have hF21 := hF2.2.1
    have hF22 := hF2.2.2
    have k2 := (k1.alloc (.cells #[.int .i64 r.1.k, .int .u64 r.1.n, .string r.1.s, .slice A1 r.1.l.length c1] 39)).below hb2 (by omega)
    have L2 := (((L1.later (Nat.le_refl _) (.cells #[.int .i64 r.1.k, .int .u64 r.1.n, .string r.1.s, .slice A1 r.1.l.length c1] 39)).below (hb2.mono (by simp))).now (by simp; omega)).later (Nat.le_refl _) (.cells #[.int .i64 r.1.k, .int .u64 r.1.n, .string r.1.s, .slice A2 r.1.l.length c2] 39)
    have hBW := hB2.alloc hB2.size (.cells #[.int .i64 r.1.k, .int .u64 r.1.n, .string r.1.s, .slice A2 r.1.l.length c2] 39)
    go_wp2_with fail
    go_ret
    exact ⟨by first | rfl | simp, hBW⟩

end Go.Proofs.Ytjlglfjikfpboaa.thiefs
