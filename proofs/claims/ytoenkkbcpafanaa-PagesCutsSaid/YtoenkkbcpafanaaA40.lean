/- letheref06's Seal. -/
import Derived.Test.YtoenkkbcpafanaaA38
import Derived.Test.YtoenkkbcpafanaaA39
import Derived.Test.YtoenkkbcpafanaaA37
import Derived.Test.YtoenkkbcpafanaaA25
import Derived.Test.YtoenkkbcpafanaaA06


namespace Go.Proofs.Ytoenkkbcpafanaa.nodes
set_option linter.unusedVariables false
set_option linter.unusedSimpArgs false
open Go.RowKit Go.Proofs.Ytoenkkbcpafanaa.base Go.Proofs.Ytoenkkbcpafanaa.quotas Go.Proofs.Ytoenkkbcpafanaa.vers Go.Proofs.Ytoenkkbcpafanaa.tm Go.Proofs.Ytoenkkbcpafanaa.lies Go.Proofs.Ytoenkkbcpafanaa.copies

/-- a node's sealed bytes, or why there are none -/
def sealP (key : Int) (r : T × Int) : ByteArray × Int := if r.2 ≠ 0 then (⟨#[]⟩, r.2) else boxes.packT key r.1

end Go.Proofs.Ytoenkkbcpafanaa.nodes

/- What package node's own Seal answers. -/

namespace Go.Proofs.Ytoenkkbcpafanaa.nodes
set_option linter.unusedVariables false
set_option linter.unusedSimpArgs false
open Go.RowKit Go.Proofs.Ytoenkkbcpafanaa.base Go.Proofs.Ytoenkkbcpafanaa.quotas Go.Proofs.Ytoenkkbcpafanaa.vers Go.Proofs.Ytoenkkbcpafanaa.tm Go.Proofs.Ytoenkkbcpafanaa.lies Go.Proofs.Ytoenkkbcpafanaa.copies Go.Proofs.Ytoenkkbcpafanaa.makes

set_option maxRecDepth 100000 in
set_option maxHeartbeats 1000000 in
theorem ownSeal_any (a b c d e f h : Int) (key : Int) (lf : Bool) (es : List E) (ks : List K) (A : Option Addr) (cap : Nat) (A' : Option Addr) (cap' : Nat) (w : World) (hk : 0 ≤ key ∧ key < 18446744073709551616) (hv : Es w w.heap.size es A cap) (hks : Ks w w.heap.size ks A' cap') :
    Calls Try.prog 127 #[.agg #[.int .i64 a, .int .i64 b, .int .i64 c, .int .i64 d, .int .i64 e, .int .i64 f, .int .i64 h], .int .u64 key, .agg #[.bool lf, .slice A es.length cap, .slice A' ks.length cap']] w fun x w' => x = .returned (.tuple #[.string (sealP key (termP a b c d e f h lf es ks)).1, .int .i64 (sealP key (termP a b c d e f h lf es ks)).2]) ∧ Below w.heap.size w w' := by
  have B0 := Bn.new w a b c d e f h lf (.slice A es.length cap) (.slice A' ks.length cap')
  have h2 := fun wr (hb : Below w.heap.size w wr) => termIs a b c d e f h lf es ks A cap A' cap' wr (hv.at_world hb) (hks.at_world hb)
  generalize termP a b c d e f h lf es ks = r at h2 ⊢
  clear hv hks
  generalize es.length = ne at B0 h2 ⊢
  generalize ks.length = nk at B0 h2 ⊢
  obtain ⟨⟨tk, tn, ts, tl⟩, te⟩ := r
  by_cases hz : te = 0
  · subst hz
    have hs : sealP key (T.mk tk tn ts tl, 0) = boxes.packT key (T.mk tk tn ts tl) := by unfold sealP; rw [if_neg (by simp)]
    rw [hs]
    clear hs
    go_enter Try.func127, Try.ntmps127
    go_wp2_with fail
    refine (h2 _ B0.below).mono ?_
    rintro x w1 ⟨hb1, A1, m1, rfl, hH1, hF1⟩
    simp only [T.val, T.k, T.n, T.s, T.l] at hH1 ⊢
    have G1 := B0.next hb1
    have b1 := G1.below
    have D1 : Below w1.heap.size w1 (w1.alloc (.cells #[.int .i64 tk, .int .u64 tn, .string ts, .slice A1 tl.length m1] 273)) := (Below.refl _ _).alloc (Nat.le_refl _) _
    have b2 := b1.trans (D1.mono b1.size)
    have L1 := Held.lies (t := .mk tk tn ts tl) (w := w1.alloc (.cells #[.int .i64 tk, .int .u64 tn, .string ts, .slice A1 tl.length m1] 273)) (hH1.move (Nat.le_refl _) (Nat.le_refl _) (fun p _ p2 => D1.cell p2)) hF1.1 hF1.2.1 hF1.2.2 (by simp)
    have hl := boxes.pack_any key (.mk tk tn ts tl) _ _ hk L1
    generalize hr : boxes.packT key (.mk tk tn ts tl) = r at hl ⊢
    have HR := vers.lay hr
    clear hr
    clear L1 hH1 hF1 D1 hb1 B0 G1 h2
    go_wp2_with fail
    refine hl.mono ?_
    rintro x w3 ⟨rfl, hb3⟩
    go_wp2_with fail
    go_ret2
    exact ⟨by rw [HR.out]; rfl, b2.trans (hb3.mono b2.size)⟩
  · have hs : sealP key (T.mk tk tn ts tl, te) = (⟨#[]⟩, te) := by unfold sealP; rw [if_pos hz]
    rw [hs]
    have d1 : (te != 0) = true := by simpa using hz
    clear hs hz
    go_enter Try.func127, Try.ntmps127
    go_wp2_with fail
    refine (h2 _ B0.below).mono ?_
    rintro x w1 ⟨hb1, A1, m1, rfl, hH1, hF1⟩
    simp only [T.val, T.k, T.n, T.s, T.l] at hH1 ⊢
    have G1 := B0.next hb1
    have b1 := G1.below
    have D1 : Below w1.heap.size w1 (w1.alloc (.cells #[.int .i64 tk, .int .u64 tn, .string ts, .slice A1 tl.length m1] 273)) := (Below.refl _ _).alloc (Nat.le_refl _) _
    clear hH1 hF1
    go_wp2_with fail
    go_ret2
    exact ⟨rfl, b1.trans (D1.mono b1.size)⟩
end Go.Proofs.Ytoenkkbcpafanaa.nodes

/- How long a node's sealed bytes are, and that it can be sealed: pure words. -/

namespace Go.Proofs.Ytoenkkbcpafanaa.nodes
set_option linter.unusedVariables false
set_option linter.unusedSimpArgs false
open Go.RowKit Go.Proofs.Ytoenkkbcpafanaa.base Go.Proofs.Ytoenkkbcpafanaa.quotas Go.Proofs.Ytoenkkbcpafanaa.vers Go.Proofs.Ytoenkkbcpafanaa.tm Go.Proofs.Ytoenkkbcpafanaa.lies Go.Proofs.Ytoenkkbcpafanaa.copies Go.Proofs.Ytoenkkbcpafanaa.makes

/-- what a right secret keeps to -/
def Ein (b c d e : Int) (x : E) : Prop := (x.s.size : Int) ≤ b ∧ (x.l.length : Int) ≤ e ∧ ∀ y ∈ x.l, 0 ≤ y.n ∧ y.n ≤ 1073741824 ∧ (y.v.size : Int) ≤ c ∧ (y.t.size : Int) ≤ d
theorem vbad_in (c d : Int) : ∀ (l : List V) (p : Int), vbad c d p l = 0 → 0 ≤ p → ∀ y ∈ l, 0 ≤ y.n ∧ y.n ≤ 1073741824 ∧ (y.v.size : Int) ≤ c ∧ (y.t.size : Int) ≤ d
  | [], _, _, _, y, hy => by cases hy
  | x :: l, p, h, hp, y, hy => by
    unfold vbad at h
    split at h
    · omega
    · rename_i h1
      split at h
      · omega
      · rename_i h2
        rcases List.mem_cons.1 hy with rfl | hy
        · omega
        · exact vbad_in c d l x.n h (by omega) y hy
theorem nbad_in {a b c d e f h : Int} {x : E} (hz : rb (nbad a b c d e f h x.s x.l) x.l = 0) : Ein b c d e x := by
  have hz := rb_zero hz
  by_cases hk : ok a b c d e f h
  · rw [nbad_yes hk] at hz
    split at hz
    · omega
    · split at hz
      · omega
      · split at hz
        · omega
        · exact ⟨by omega, by omega, vbad_in c d x.l 0 hz (Int.le_refl _)⟩
  · rw [nbad_no hk] at hz; omega
theorem ebad_in (a b c d e f h : Int) : ∀ (l : List E) (p : Option ByteArray), ebad a b c d e f h p l = 0 → ∀ x ∈ l, Ein b c d e x
  | [], _, _, x, hx => by cases hx
  | z :: l, p, hb, x, hx => by
    have hb' : (if rb (nbad a b c d e f h z.s z.l) z.l ≠ 0 then rb (nbad a b c d e f h z.s z.l) z.l else if behind z.s p = true then 60 else ebad a b c d e f h (some z.s) l) = 0 := by
      cases p <;> exact hb
    split at hb'
    · rename_i h1; exact absurd hb' h1
    · rename_i h1
      split at hb'
      · omega
      · rcases List.mem_cons.1 hx with rfl | hx
        · exact nbad_in (Classical.not_not.1 h1)
        · exact ebad_in a b c d e f h l _ hb' x hx
theorem kbad_in (b : Int) : ∀ (l : List K) (p : Option ByteArray), kbad b p l = 0 → ∀ x ∈ l, (x.s.size : Int) ≤ b ∧ refOk x.g x.o x.n
  | [], _, _, x, hx => by cases hx
  | z :: l, p, hb, x, hx => by
    have hb' : (if z.s.size = 0 then 4 else if b < z.s.size then 5 else if ¬ refOk z.g z.o z.n then 61 else if behind z.s p = true then 60 else kbad b (some z.s) l) = 0 := by
      cases p <;> exact hb
    split at hb'
    · omega
    · split at hb'
      · omega
      · rename_i h0
        split at hb'
        · omega
        · rename_i h1
          split at hb'
          · omega
          · rcases List.mem_cons.1 hx with rfl | hx
            · exact ⟨by omega, Classical.not_not.1 h1⟩
            · exact kbad_in b l _ hb' x hx
/-- what a right node keeps to -/
theorem ndbad_in {a b c d e f h : Int} {lf : Bool} {es : List E} {ks : List K} (hz : ndbad a b c d e f h lf es ks = 0) : ok a b c d e f h ∧ (lf = true → es.length ≤ 4 ∧ ∀ x ∈ es, Ein b c d e x) ∧ (lf = false → ks.length ≤ 4 ∧ ∀ x ∈ ks, (x.s.size : Int) ≤ b ∧ refOk x.g x.o x.n) := by
  unfold ndbad at hz
  split at hz
  · rename_i hk
    refine ⟨hk, fun hl => ?_, fun hl => ?_⟩
    · rw [if_pos hl] at hz
      split at hz
      · omega
      · exact ⟨by omega, ebad_in a b c d e f h es none hz⟩
    · rw [if_neg (by simp [hl])] at hz
      split at hz
      · omega
      · exact ⟨by omega, kbad_in b ks none hz⟩
  · omega

/-! ### how long -/
theorem len_num {n : Int} {j : Nat} (h : n.toNat < 128 ^ j) (hj : 0 < j) : (numT n).enc.length ≤ 1 + j := by
  rw [enc_eq, head_eq]
  have := (putL_len j n.toNat h hj).2
  simp [numT, T.k, T.n, T.s, T.l, encL]
  omega
theorem len_key {n : Int} (h : n.toNat < 18446744073709551616) : (keyT n).enc.length ≤ 11 := by
  rw [enc_eq, head_eq]
  have := (putL_ten h).2
  simp [keyT, T.k, T.n, T.s, T.l, encL]
  omega
theorem len_atom {s : ByteArray} (h : s.size < 128) : (atomT s).enc.length = 2 + s.size := by
  rw [enc_eq, head_eq]
  have e : s.data.toList.length = s.size := by simp
  have hl : (putL s.data.toList.length).length = 1 := by rw [putL_lo (by omega)]; rfl
  have h2 : (if (atomT s).k = 2 then (atomT s).s.data.toList.length else if (atomT s).k = 5 then (atomT s).l.length else (atomT s).n.toNat) = s.data.toList.length := if_pos rfl
  have h3 : (encL (atomT s).l).length = 0 := by show (encL []).length = 0; simp [encL]
  have h4 : (atomT s).s.data.toList.length = s.size := e
  rw [h2, List.length_cons, List.length_append, List.length_append, hl, h3, h4]
  omega
theorem len_row {l : List T} (h : l.length < 128) : (rowT l).enc.length = 2 + (encL l).length := by
  rw [enc_eq, head_eq]
  have := putL_lo h
  have h52 : ¬ ((5 : Int) = 2) := by decide
  simp only [rowT, T.k, T.n, T.s, T.l, if_neg h52, if_pos, List.length_cons, List.length_append, List.length_nil, this]
  simp
  omega
theorem encL_cons (t : T) (l : List T) : (encL (t :: l)).length = t.enc.length + (encL l).length := by simp [encL]
theorem encL_nil : (encL ([] : List T)).length = 0 := by simp [encL]
theorem encL_map {α : Type} (f : α → T) (m : Nat) : ∀ (l : List α), (∀ x ∈ l, (f x).enc.length ≤ m) → (encL (l.map f)).length ≤ l.length * m
  | [], _ => by simp [encL]
  | x :: l, h => by
    rw [List.map_cons, encL_cons, List.length_cons]
    have h1 := h x (List.mem_cons_self ..)
    have h2 := encL_map f m l (fun y hy => h y (List.mem_cons_of_mem _ hy))
    rw [Nat.succ_mul]
    omega
theorem len_ver {c d : Int} {y : V} (hc : c ≤ 32) (hd : d ≤ 16) (h : 0 ≤ y.n ∧ y.n ≤ 1073741824 ∧ (y.v.size : Int) ≤ c ∧ (y.t.size : Int) ≤ d) : ((verT y).enc.length : Int) ≤ 17 + c + d := by
  have h1 := len_num (n := y.n) (j := 5) (by have : y.n.toNat ≤ 1073741824 := by omega
                                             exact Nat.lt_of_le_of_lt this (by decide)) (by decide)
  have h2 := len_atom (s := y.v) (by omega)
  have h3 := len_atom (s := y.t) (by omega)
  unfold verT
  rw [len_row (by simp), encL_cons, encL_cons, encL_cons, encL_nil]
  omega
theorem len_ent {b c d e : Int} {x : E} (hb : b ≤ 16) (hc : 0 ≤ c ∧ c ≤ 32) (hd : 0 ≤ d ∧ d ≤ 16) (he : e ≤ 4) (h : Ein b c d e x) : ((entT x).enc.length : Int) ≤ 4 + b + e * (17 + c + d) := by
  obtain ⟨h1, h2, h3⟩ := h
  have ha := len_atom (s := x.s) (by omega)
  have hl := encL_map verT (17 + c + d).toNat x.l (fun y hy => by have := len_ver hc.2 hd.2 (h3 y hy); omega)
  unfold entT
  rw [len_row (by simp; omega), encL_cons]
  have hm : ((x.l.length * (17 + c + d).toNat : Nat) : Int) ≤ e * (17 + c + d) := by
    rw [Int.natCast_mul, Int.toNat_of_nonneg (by omega)]
    exact Int.mul_le_mul_of_nonneg_right h2 (by omega)
  omega
theorem len_kid {b : Int} {x : K} (hb : b ≤ 16) (hk : x.k < 18446744073709551616) (h : (x.s.size : Int) ≤ b ∧ refOk x.g x.o x.n) : ((kidT x).enc.length : Int) ≤ 28 + b := by
  obtain ⟨h1, ⟨g1, g2⟩, ⟨g3, g4⟩, g5, g6⟩ := h
  have ha := len_atom (s := x.s) (by omega)
  have h2 := len_key (n := (x.k : Int)) (by omega)
  have h3 := len_num (n := x.g) (j := 3) (Nat.lt_of_le_of_lt (show x.g.toNat ≤ 1048576 by omega) (by decide)) (by decide)
  have h4 := len_num (n := x.o) (j := 4) (Nat.lt_of_le_of_lt (show x.o.toNat ≤ 134217728 by omega) (by decide)) (by decide)
  have h5 := len_num (n := x.n) (j := 3) (Nat.lt_of_le_of_lt (show x.n.toNat ≤ 1048576 by omega) (by decide)) (by decide)
  unfold kidT
  rw [len_row (by simp), encL_cons, encL_cons, encL_cons, encL_cons, encL_cons, encL_nil]
  omega
end Go.Proofs.Ytoenkkbcpafanaa.nodes

/- A right node: its term may be sealed: pure words. -/

namespace Go.Proofs.Ytoenkkbcpafanaa.nodes
set_option linter.unusedVariables false
set_option linter.unusedSimpArgs false
open Go.RowKit Go.Proofs.Ytoenkkbcpafanaa.base Go.Proofs.Ytoenkkbcpafanaa.quotas Go.Proofs.Ytoenkkbcpafanaa.vers Go.Proofs.Ytoenkkbcpafanaa.tm Go.Proofs.Ytoenkkbcpafanaa.lies Go.Proofs.Ytoenkkbcpafanaa.copies Go.Proofs.Ytoenkkbcpafanaa.makes

theorem len_node {a b c d e f h : Int} {lf : Bool} {es : List E} {ks : List K} (hz : ndbad a b c d e f h lf es ks = 0) (hfit : ∀ x ∈ ks, x.fits) {M : Int} (m1 : 4 + b + e * (17 + c + d) ≤ M) (m2 : 28 + b ≤ M) : ((nodeT lf es ks).enc.length : Int) ≤ 4 + 4 * M := by
  obtain ⟨⟨_, hb, hc, hd, he, _⟩, hE, hK⟩ := ndbad_in hz
  have h1 := len_num (n := 1) (j := 1) (by decide) (by decide)
  have h2 := len_num (n := 2) (j := 1) (by decide) (by decide)
  cases lf with
  | true =>
    obtain ⟨h4, hx⟩ := hE rfl
    have hl := encL_map entT M.toNat es (fun x hx' => by have := len_ent hb.2 hc hd he.2 (hx x hx'); omega)
    show ((rowT (numT 1 :: es.map entT)).enc.length : Int) ≤ _
    rw [len_row (by simp; omega), encL_cons]
    have : es.length * M.toNat ≤ 4 * M.toNat := Nat.mul_le_mul_right _ h4
    omega
  | false =>
    obtain ⟨h4, hx⟩ := hK rfl
    have hl := encL_map kidT M.toNat ks (fun x hx' => by have := len_kid hb.2 (hfit x hx').2.1 (hx x hx'); omega)
    show ((rowT (numT 2 :: ks.map kidT)).enc.length : Int) ≤ _
    rw [len_row (by simp; omega), encL_cons]
    have : ks.length * M.toNat ≤ 4 * M.toNat := Nat.mul_le_mul_right _ h4
    omega
theorem len_box {k : Int} (hk : 0 ≤ k ∧ k < 18446744073709551616) (t : T) : 2 + t.enc.length ≤ (boxes.boxT k t).enc.length ∧ (boxes.boxT k t).enc.length ≤ 11 + t.enc.length := by
  rw [enc_eq (boxes.boxT k t), head_eq (boxes.boxT k t)]
  have h1 := putL_ten (n := k.toNat) (by omega)
  have h2 : (if (boxes.boxT k t).k = 2 then (boxes.boxT k t).s.data.toList.length else if (boxes.boxT k t).k = 5 then (boxes.boxT k t).l.length else (boxes.boxT k t).n.toNat) = k.toNat := rfl
  have h3 : (encL (boxes.boxT k t).l).length = t.enc.length := by show (encL [t]).length = _; simp [encL]
  have h4 : (boxes.boxT k t).s.data.toList.length = 0 := rfl
  rw [h2, List.length_cons, List.length_append, List.length_append, h3, h4]
  omega
theorem len_two (lf : Bool) (es : List E) (ks : List K) : 2 ≤ (nodeT lf es ks).enc.length := by
  rw [enc_eq, head_eq]
  have h1 : 1 ≤ (putL (nodeT lf es ks).l.length).length := by
    have := putL_len ((nodeT lf es ks).l.length + 1) (nodeT lf es ks).l.length (Nat.lt_of_lt_of_le (Nat.lt_pow_self (by decide)) (Nat.pow_le_pow_right (by decide) (Nat.le_succ _))) (Nat.succ_pos _)
    exact this.1
  have h2 : (if (nodeT lf es ks).k = 2 then (nodeT lf es ks).s.data.toList.length else if (nodeT lf es ks).k = 5 then (nodeT lf es ks).l.length else (nodeT lf es ks).n.toNat) = (nodeT lf es ks).l.length := by cases lf <;> rfl
  rw [h2, List.length_cons, List.length_append]
  omega

/-! ### it may be -/
theorem shaped_num (n : Int) : (numT n).shaped = true := by simp [numT, T.shaped, T.one, shapedL]
theorem shaped_key (n : Int) : (keyT n).shaped = true := by simp [keyT, T.shaped, T.one, shapedL]
theorem shaped_atom {s : ByteArray} (h : s.size ≤ 4000) : (atomT s).shaped = true := by simp [atomT, T.shaped, T.one, shapedL, h]
theorem shaped_row {l : List T} (h : shapedL l = true) : (rowT l).shaped = true := by simp [rowT, T.shaped, T.one, h]
theorem shapedL_map {α : Type} (f : α → T) : ∀ (l : List α), (∀ x ∈ l, (f x).shaped = true) → shapedL (l.map f) = true
  | [], _ => rfl
  | x :: l, h => by
    show ((f x).shaped && shapedL (l.map f)) = true
    rw [h x (List.mem_cons_self ..), shapedL_map f l (fun y hy => h y (List.mem_cons_of_mem _ hy))]
    rfl
theorem shapedL_cons {t : T} {l : List T} (h1 : t.shaped = true) (h2 : shapedL l = true) : shapedL (t :: l) = true := by show (t.shaped && shapedL l) = true; rw [h1, h2]; rfl
theorem shaped_ver {y : V} (h1 : y.v.size ≤ 4000) (h2 : y.t.size ≤ 4000) : (verT y).shaped = true := shaped_row (shapedL_cons (shaped_num _) (shapedL_cons (shaped_atom h1) (shapedL_cons (shaped_atom h2) rfl)))
theorem size_map {α : Type} (f : α → T) (m : Nat) : ∀ (l : List α), (∀ x ∈ l, (f x).size ≤ m) → sizeL (l.map f) ≤ l.length * m
  | [], _ => by simp [sizeL]
  | x :: l, h => by
    have h1 := h x (List.mem_cons_self ..)
    have h2 := size_map f m l (fun y hy => h y (List.mem_cons_of_mem _ hy))
    show (f x).size + sizeL (l.map f) ≤ _
    rw [List.length_cons, Nat.succ_mul]
    omega
theorem deep_map {α : Type} (f : α → T) (m : Nat) : ∀ (l : List α), (∀ x ∈ l, (f x).deep ≤ m) → deepL (l.map f) ≤ m
  | [], _ => by simp [deepL]
  | x :: l, h => by
    have h1 := h x (List.mem_cons_self ..)
    have h2 := deep_map f m l (fun y hy => h y (List.mem_cons_of_mem _ hy))
    show max (f x).deep (deepL (l.map f)) ≤ m
    omega
theorem node_small {a b c d e f h : Int} {lf : Bool} {es : List E} {ks : List K} (hz : ndbad a b c d e f h lf es ks = 0) : (nodeT lf es ks).size ≤ 80 ∧ (nodeT lf es ks).deep ≤ 4 ∧ (nodeT lf es ks).shaped = true := by
  obtain ⟨⟨_, hb, hc, hd, he, _⟩, hE, hK⟩ := ndbad_in hz
  cases lf with
  | true =>
    obtain ⟨h4, hx⟩ := hE rfl
    have s1 := size_map entT 18 es (fun x hx' => by
      obtain ⟨_, hl, _⟩ := hx x hx'
      have := size_map verT 4 x.l (fun y _ => by simp [verT, rowT, numT, atomT, T.size, sizeL])
      show sizeL (atomT x.s :: x.l.map verT) + 1 ≤ 18
      show ((atomT x.s).size + sizeL (x.l.map verT)) + 1 ≤ 18
      have : (atomT x.s).size = 1 := rfl
      omega)
    have d1 := deep_map entT 3 es (fun x hx' => by
      have := deep_map verT 2 x.l (fun y _ => by simp [verT, rowT, numT, atomT, T.deep, deepL])
      show max (atomT x.s).deep (deepL (x.l.map verT)) + 1 ≤ 3
      have : (atomT x.s).deep = 1 := rfl
      omega)
    have sh := shapedL_map entT es (fun x hx' => by
      obtain ⟨h1, _, h3⟩ := hx x hx'
      exact shaped_row (shapedL_cons (shaped_atom (by omega)) (shapedL_map verT x.l (fun y hy => by have := h3 y hy; exact shaped_ver (by omega) (by omega)))))
    refine ⟨?_, ?_, shaped_row (shapedL_cons (shaped_num _) sh)⟩
    · show ((numT 1).size + sizeL (es.map entT)) + 1 ≤ 80
      have : (numT 1).size = 1 := rfl
      omega
    · show max (numT 1).deep (deepL (es.map entT)) + 1 ≤ 4
      have : (numT 1).deep = 1 := rfl
      omega
  | false =>
    obtain ⟨h4, hx⟩ := hK rfl
    have s1 := size_map kidT 6 ks (fun x hx' => by simp [kidT, rowT, numT, atomT, keyT, T.size, sizeL])
    have d1 := deep_map kidT 2 ks (fun x hx' => by simp [kidT, rowT, numT, atomT, keyT, T.deep, deepL])
    have sh := shapedL_map kidT ks (fun x hx' => shaped_row (shapedL_cons (shaped_atom (by have := (hx x hx').1; omega)) (shapedL_cons (shaped_key _) (shapedL_cons (shaped_num _) (shapedL_cons (shaped_num _) (shapedL_cons (shaped_num _) rfl))))))
    refine ⟨?_, ?_, shaped_row (shapedL_cons (shaped_num _) sh)⟩
    · show ((numT 2).size + sizeL (ks.map kidT)) + 1 ≤ 80
      have : (numT 2).size = 1 := rfl
      omega
    · show max (numT 2).deep (deepL (ks.map kidT)) + 1 ≤ 4
      have : (numT 2).deep = 1 := rfl
      omega
theorem node_seals {a b c d e f h : Int} {lf : Bool} {es : List E} {ks : List K} (hz : ndbad a b c d e f h lf es ks = 0) (k : Int) : (nodeT lf es ks).right = 0 ∧ (boxes.boxT k (nodeT lf es ks)).right = 0 := by
  obtain ⟨h1, h2, h3⟩ := node_small hz
  constructor
  · unfold T.right
    rw [if_neg (by omega), if_neg (by omega), if_pos h3]
  · have s1 : (boxes.boxT k (nodeT lf es ks)).size = (nodeT lf es ks).size + 1 := by show ((nodeT lf es ks).size + sizeL []) + 1 = _; simp [sizeL]
    have s2 : (boxes.boxT k (nodeT lf es ks)).deep = (nodeT lf es ks).deep + 1 := by show max (nodeT lf es ks).deep (deepL []) + 1 = _; simp [deepL]
    have s3 : (boxes.boxT k (nodeT lf es ks)).shaped = true := by
      rw [shaped_eq, show (boxes.boxT k (nodeT lf es ks)).one = true from one_box k rfl]
      show (true && ((nodeT lf es ks).shaped && shapedL [])) = true
      rw [h3]; rfl
    unfold T.right
    rw [if_neg (by omega), if_neg (by omega), if_pos s3]

/-! ### read back -/
end Go.Proofs.Ytoenkkbcpafanaa.nodes

/- The numbers of a quota: those that call few others. -/

namespace Go.Proofs.Ytoenkkbcpafanaa.quotas
set_option linter.unusedVariables false
set_option linter.unusedSimpArgs false
open Go.RowKit Go.Proofs.Ytoenkkbcpafanaa.base

/-- how often n (1 to 63) can be halved till it is 1 -/
def lg (n : Int) : Int := if n < 2 then 0 else if n < 4 then 1 else if n < 8 then 2 else if n < 16 then 3 else if n < 32 then 4 else 5
def leaves (a : Int) : Int := if a < 2 then 1 else a / 2

theorem leaves_in {a : Int} (h : 1 ≤ a ∧ a ≤ 64) : 1 ≤ leaves a ∧ leaves a ≤ 32 := by unfold leaves; split <;> omega
theorem lg_in (n : Int) : 0 ≤ lg n ∧ lg n ≤ 5 := by
  unfold lg
  repeat' split
  all_goals omega
theorem lg_low {n : Int} {i : Nat} (h : (i : Int) ≤ lg n) (h1 : 1 ≤ n ∧ n ≤ 32) (hi : i ≤ 5) : (2 : Int) ^ i ≤ n := by
  have h5 : i = 0 ∨ i = 1 ∨ i = 2 ∨ i = 3 ∨ i = 4 ∨ i = 5 := by omega
  unfold lg at h
  rcases h5 with rfl | rfl | rfl | rfl | rfl | rfl <;> (repeat' split at h) <;> simp at h ⊢ <;> omega
theorem lg_high {n : Int} {i : Nat} (h : lg n = i) (h1 : 1 ≤ n ∧ n ≤ 32) : n < 2 ^ (i + 1) := by
  have h5 : i = 0 ∨ i = 1 ∨ i = 2 ∨ i = 3 ∨ i = 4 ∨ i = 5 := by have := lg_in n; omega
  unfold lg at h
  rcases h5 with rfl | rfl | rfl | rfl | rfl | rfl <;> (repeat' split at h) <;> simp at h ⊢ <;> omega
theorem lg_half {n : Int} (h : 1 < n ∧ n ≤ 32) : lg (n / 2) = lg n - 1 := by
  unfold lg
  repeat' split
  all_goals omega
theorem lg_one {n : Int} (h : 1 ≤ n ∧ n ≤ 32) (h1 : ¬ 1 < n) : lg n = 0 := by
  unfold lg
  repeat' split
  all_goals omega

/-- a number of this quota, whatever the world -/
def Num (F : FuncId) (a b c d e f h v : Int) : Prop := ∀ w : World, Calls Try.prog F #[.agg #[.int .i64 a, .int .i64 b, .int .i64 c, .int .i64 d, .int .i64 e, .int .i64 f, .int .i64 h]] w fun x w' => x = .returned (.int .i64 v) ∧ Below w.heap.size w w'

theorem ret_eq {n m : Int} {w w' : World} (h : n = m) (hb : Below w.heap.size w w') : Ending.returned (.int .i64 n) = .returned (.int .i64 m) ∧ Below w.heap.size w w' := ⟨by rw [h], hb⟩
theorem ret_new {n m : Int} {w : World} (h : n = m) (ob : Obj) : Ending.returned (.int .i64 n) = .returned (.int .i64 m) ∧ Below w.heap.size w (w.alloc ob) := ⟨by rw [h], (Below.refl _ _).alloc (Nat.le_refl _) _⟩
theorem ret_same {n m : Int} {w : World} (h : n = m) : Ending.returned (.int .i64 n) = .returned (.int .i64 m) ∧ Below w.heap.size w w := ⟨by rw [h], Below.refl _ _⟩

/-- the halvings' count at a round's head -/
def HHead (n : Int) (x : Value) (w0 w : World) : Prop := ∃ i : Nat, (i : Int) ≤ lg n ∧ x = .int .i64 i ∧ Below w0.heap.size w0 w

end Go.Proofs.Ytoenkkbcpafanaa.quotas

/- The numbers of a quota: levels, bytes, pages, segments; the program's and the document's. -/

namespace Go.Proofs.Ytoenkkbcpafanaa.quotas
set_option linter.unusedVariables false
set_option linter.unusedSimpArgs false
open Go.RowKit Go.Proofs.Ytoenkkbcpafanaa.base

def lv (a : Int) : Int := 1 + lg (leaves a)
def most (b c d e : Int) : Int := if 4 + b + e * (17 + c + d) < 28 + b then 28 + b else 4 + b + e * (17 + c + d)
def pg (b c d e : Int) : Int := 15 + 4 * most b c d e
def lp (a : Int) : Int := 2 * leaves a - 1
theorem lay {p : Prop} (h : p) : Hid p := h
theorem seq {w w1 w2 : World} (h : Below w.heap.size w w1) (k : Below w1.heap.size w1 w2) : Below w.heap.size w w2 := h.trans (k.mono h.size)
theorem prod_in {c d e : Int} (h3 : 0 ≤ c ∧ c ≤ 32) (h4 : 0 ≤ d ∧ d ≤ 16) (h5 : 1 ≤ e ∧ e ≤ 4) : 0 ≤ e * (17 + c + d) ∧ e * (17 + c + d) ≤ 1000 := by
  have : e = 1 ∨ e = 2 ∨ e = 3 ∨ e = 4 := by omega
  rcases this with rfl | rfl | rfl | rfl <;> omega

set_option maxRecDepth 100000 in
set_option maxHeartbeats 400000 in
theorem refPage_no (a b c d e f h : Int) (hk : ¬ ok a b c d e f h) : Num 174 a b c d e f h 0 := by
  intro w
  go_enter Try.func174, Try.ntmps174
  go_wp2_with (go_at_call 58; refine (refRight_no _ _ _ _ _ _ _ _ hk).mono ?_; rintro x w1 ⟨rfl, hb1⟩; have I1 := (In7.new w a b c d e f h).next hb1; obtain ⟨⟨c0, c1, c2, c3, c4, c5, c6⟩, l1, l2, b1⟩ := I1)
  go_ret
  exact ret_eq rfl b1

/-- the document's count of levels at a round's head -/
def LHead (a : Int) (n l : Value) (w0 w : World) : Prop := ∃ x y : Int, n = .int .i64 x ∧ l = .int .i64 y ∧ 1 ≤ y ∧ y ≤ 32 ∧ 1 ≤ x ∧ x ≤ 6 ∧ Hid (x + lg y = lv a) ∧ Below w0.heap.size w0 w

set_option maxRecDepth 100000 in
set_option maxHeartbeats 400000 in
theorem refPage_ok (a b c d e f h : Int) (hk : ok a b c d e f h) : Num 174 a b c d e f h (pg b c d e) := by
  intro w
  obtain ⟨k1, k2⟩ := prod_in hk.2.2.1 hk.2.2.2.1 hk.2.2.2.2.1
  obtain ⟨k3, k4⟩ := hk.2.1
  obtain ⟨k5, k6⟩ := hk.2.2.1
  obtain ⟨k7, k8⟩ := hk.2.2.2.1
  obtain ⟨k9, k10⟩ := hk.2.2.2.2.1
  by_cases hm : 4 + b + e * (17 + c + d) < 28 + b
  · go_enter Try.func174, Try.ntmps174
    go_wp2_with (go_at_call 58; refine (refRight_ok _ _ _ _ _ _ _ _ hk).mono ?_; rintro x w1 ⟨rfl, hb1⟩; have I1 := (In7.new w a b c d e f h).next hb1; obtain ⟨⟨c0, c1, c2, c3, c4, c5, c6⟩, l1, l2, b1⟩ := I1)
    go_ret
    exact ret_eq (by unfold pg most; split <;> omega) b1
  · go_enter Try.func174, Try.ntmps174
    go_wp2_with (go_at_call 58; refine (refRight_ok _ _ _ _ _ _ _ _ hk).mono ?_; rintro x w1 ⟨rfl, hb1⟩; have I1 := (In7.new w a b c d e f h).next hb1; obtain ⟨⟨c0, c1, c2, c3, c4, c5, c6⟩, l1, l2, b1⟩ := I1)
    go_ret
    exact ret_eq (by unfold pg most; split <;> omega) b1

set_option maxRecDepth 100000 in
set_option maxHeartbeats 400000 in
theorem refSegBytes_of (a b c d e f h : Int) (p : Int) (hp : 0 ≤ p ∧ p ≤ 100000) (hc : Num 174 a b c d e f h p) : Num 124 a b c d e f h (4 * p) := by
  intro w
  obtain ⟨p1, p2⟩ := hp
  go_enter Try.func124, Try.ntmps124
  go_wp2_with (go_at_call 174; refine (hc _).mono ?_; rintro x w1 ⟨rfl, hb1⟩; have I1 := (In7.new w a b c d e f h).next hb1; obtain ⟨⟨c0, c1, c2, c3, c4, c5, c6⟩, l1, l2, b1⟩ := I1)
  go_ret
  exact ret_eq rfl b1

end Go.Proofs.Ytoenkkbcpafanaa.quotas

/- A right node's sealed bytes, and how many: pure words. -/

namespace Go.Proofs.Ytoenkkbcpafanaa.nodes
set_option linter.unusedVariables false
set_option linter.unusedSimpArgs false
open Go.RowKit Go.Proofs.Ytoenkkbcpafanaa.base Go.Proofs.Ytoenkkbcpafanaa.quotas Go.Proofs.Ytoenkkbcpafanaa.vers Go.Proofs.Ytoenkkbcpafanaa.tm Go.Proofs.Ytoenkkbcpafanaa.lies Go.Proofs.Ytoenkkbcpafanaa.copies Go.Proofs.Ytoenkkbcpafanaa.makes

theorem word_num {n : Int} (h : 0 ≤ n ∧ n < 18446744073709551616) : (numT n).word := ⟨⟨h, by decide⟩, trivial⟩
theorem word_key {n : Int} (h : 0 ≤ n ∧ n < 18446744073709551616) : (keyT n).word := ⟨⟨h, by decide⟩, trivial⟩
theorem word_atom (s : ByteArray) : (atomT s).word := ⟨⟨⟨by decide, by decide⟩, by decide⟩, trivial⟩
theorem word_row {l : List T} (hl : l.length < 18446744073709551616) (h : wordL l) : (rowT l).word := ⟨⟨⟨by decide, by decide⟩, hl⟩, h⟩
theorem wordL_map {α : Type} (f : α → T) : ∀ (l : List α), (∀ x ∈ l, (f x).word) → wordL (l.map f)
  | [], _ => trivial
  | x :: l, h => ⟨h x (List.mem_cons_self ..), wordL_map f l (fun y hy => h y (List.mem_cons_of_mem _ hy))⟩
theorem word_node {a b c d e f h : Int} {lf : Bool} {es : List E} {ks : List K} (hz : ndbad a b c d e f h lf es ks = 0) (hfit : ∀ x ∈ ks, x.fits) : (nodeT lf es ks).word := by
  obtain ⟨⟨_, hb, hc, hd, he, _⟩, hE, hK⟩ := ndbad_in hz
  cases lf with
  | true =>
    obtain ⟨h4, hx⟩ := hE rfl
    refine word_row (by simp; omega) ⟨word_num (by decide), wordL_map entT es (fun x hx' => ?_)⟩
    obtain ⟨_, hl, h3⟩ := hx x hx'
    refine word_row (by simp; omega) ⟨word_atom _, wordL_map verT x.l (fun y hy => ?_)⟩
    have := h3 y hy
    exact word_row (by simp) ⟨word_num (by omega), word_atom _, word_atom _, trivial⟩
  | false =>
    obtain ⟨h4, hx⟩ := hK rfl
    refine word_row (by simp; omega) ⟨word_num (by decide), wordL_map kidT ks (fun x hx' => ?_)⟩
    obtain ⟨_, ⟨_, _⟩, ⟨_, _⟩, _, _⟩ := hx x hx'
    have hf := (hfit x hx').2.1
    exact word_row (by simp) ⟨word_atom _, word_key (by omega), word_num (by omega), word_num (by omega), word_num (by omega), trivial⟩
/-- what a right node's sealed bytes are -/
theorem sealP_ok {a b c d e f h : Int} {lf : Bool} {es : List E} {ks : List K} (hz : ndbad a b c d e f h lf es ks = 0) (key : Int) : sealP key (termP a b c d e f h lf es ks) = (⟨(boxes.boxT key (nodeT lf es ks)).enc.toArray⟩, 0) := by
  obtain ⟨r1, r2⟩ := node_seals hz key
  have ht : termP a b c d e f h lf es ks = (nodeT lf es ks, 0) := by unfold termP; rw [if_neg (by simpa using hz)]
  have hs : boxes.sealT key (nodeT lf es ks) = (boxes.boxT key (nodeT lf es ks), 0) := by unfold boxes.sealT; rw [if_neg (by simpa using r1), if_neg (by simpa using r2)]
  rw [ht]
  unfold sealP
  rw [if_neg (by simp)]
  unfold boxes.packT
  rw [hs, if_pos rfl]
theorem sealP_no {a b c d e f h : Int} {lf : Bool} {es : List E} {ks : List K} (hz : ndbad a b c d e f h lf es ks ≠ 0) (key : Int) : sealP key (termP a b c d e f h lf es ks) = (⟨#[]⟩, ndbad a b c d e f h lf es ks) := by
  have ht : termP a b c d e f h lf es ks = (boxes.zT, ndbad a b c d e f h lf es ks) := by unfold termP; rw [if_pos hz]
  rw [ht]
  unfold sealP
  rw [if_pos hz]
theorem size_ok {a b c d e f h : Int} {lf : Bool} {es : List E} {ks : List K} (hz : ndbad a b c d e f h lf es ks = 0) (hfit : ∀ x ∈ ks, x.fits) {key : Int} (hk : 0 ≤ key ∧ key < 18446744073709551616) :
    4 ≤ (⟨(boxes.boxT key (nodeT lf es ks)).enc.toArray⟩ : ByteArray).size ∧ ((⟨(boxes.boxT key (nodeT lf es ks)).enc.toArray⟩ : ByteArray).size : Int) ≤ quotas.pg b c d e ∧ (⟨(boxes.boxT key (nodeT lf es ks)).enc.toArray⟩ : ByteArray).size ≤ maxLen := by
  have e1 : (⟨(boxes.boxT key (nodeT lf es ks)).enc.toArray⟩ : ByteArray).size = (boxes.boxT key (nodeT lf es ks)).enc.length := by simp [ByteArray.size]
  rw [e1]
  have h1 := len_box hk (nodeT lf es ks)
  have h2 := len_two lf es ks
  obtain ⟨⟨_, hb, hc, hd, he, _⟩, _⟩ := ndbad_in hz
  have hp := quotas.prod_in hc hd he
  have hm : 4 + b + e * (17 + c + d) ≤ quotas.most b c d e ∧ 28 + b ≤ quotas.most b c d e ∧ quotas.most b c d e ≤ 2000 := by
    unfold quotas.most
    split <;> omega
  have h3 := len_node hz hfit hm.1 hm.2.1
  refine ⟨by omega, by unfold quotas.pg; omega, by unfold maxLen; omega⟩
end Go.Proofs.Ytoenkkbcpafanaa.nodes
