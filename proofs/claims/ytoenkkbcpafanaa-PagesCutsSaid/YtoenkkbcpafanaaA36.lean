/- Encode and Size; the document's own Bytes and Encode. -/
import Derived.Test.YtoenkkbcpafanaaA48
import Derived.Deep.RegionHeld3
import Derived.Test.YtoenkkbcpafanaaA34
import Derived.Test.YtoenkkbcpafanaaA31
import Derived.Test.YtoenkkbcpafanaaA05


namespace Go.Proofs.Ytoenkkbcpafanaa.encs
set_option linter.unusedVariables false
set_option linter.unusedSimpArgs false
open Go.RowKit Go.Proofs.Ytoenkkbcpafanaa.base Go.Proofs.Ytoenkkbcpafanaa.tm Go.Proofs.Ytoenkkbcpafanaa.bytes Go.Proofs.Ytoenkkbcpafanaa.lies Go.Proofs.Ytoenkkbcpafanaa.rights

theorem right_ok {t : T} (h : t.right = 0) : t.size ≤ 4000 ∧ t.deep ≤ 12 ∧ t.shaped = true := by
  unfold T.right at h
  split at h
  · cases h
  · split at h
    · cases h
    · split at h
      · refine ⟨by omega, by omega, by assumption⟩
      · cases h
theorem ok_right {t : T} (h1 : t.size ≤ 4000) (h2 : t.deep ≤ 12) (h3 : t.shaped = true) : t.right = 0 := by
  unfold T.right
  rw [if_neg (by omega), if_neg (by omega), if_pos h3]

set_option maxRecDepth 100000 in
theorem encode_ok (t : T) (v : Value) (w : World) (hL : Lies w w.heap.size t v) (hR : t.right = 0) :
    Calls Try.prog 218 #[T.val t v] w fun e w' => e = .returned (.tuple #[.string ⟨t.enc.toArray⟩, .int .i64 0]) ∧ Below w.heap.size w w' := by
  obtain ⟨A, c, xs, rfl, hk, hn, hs, hlc, hc, hr, hl⟩ := hL.open_
  obtain ⟨r1, r2, r3⟩ := right_ok hR
  have h1 := fun wx (hx : Lies wx wx.heap.size t (.slice A t.l.length c)) => adds.right_any t _ wx hx
  rw [hR] at h1
  have hL1 := hL.later (Nat.le_refl _) (.cells #[.int .i64 t.k, .int .u64 t.n, .string t.s, .slice A t.l.length c] 273)
  have h2 := fun wx (hx : Lies wx w.heap.size t (.slice A t.l.length c)) (hB : w.heap.size ≤ wx.heap.size) => append_any t.size t _ _ [] w.heap.size wx wx (Nat.le_refl _) r3 hx hB (Ext.nil wx _) (by simp; omega)
  have hLa := hL.alloc (Nat.le_refl _) (.cells #[.int .i64 t.k, .int .u64 t.n, .string t.s, .slice A t.l.length c] 273)
  clear hR
  go_enter Try.func218, Try.ntmps218
  go_wp2_with (first
    | (go_at_call 255; refine (h1 _ hL1).mono ?_; rintro e w1 ⟨rfl, hb1⟩; obtain ⟨hc1, hf1⟩ := bcell hb1; have hz1 : w.heap.size < w1.heap.size := by have := hb1.size; simp at this; omega)
    | (go_at_call 256; refine (h2 _ (hLa.below (hb1.mono (by simp))) (by omega)).mono ?_; rintro e w2 ⟨v2, rfl, hE, hz2⟩; have hcv := hE.string))
  go_ret2
  exact ⟨rfl, (below_call (Below.refl _ _) hb1).trans hE.below⟩

set_option maxRecDepth 100000 in
theorem encode_bad (t : T) (v : Value) (w : World) (hL : Lies w w.heap.size t v) (hR : t.right ≠ 0) :
    Calls Try.prog 218 #[T.val t v] w fun e w' => e = .returned (.tuple #[.string ⟨#[]⟩, .int .i64 t.right]) ∧ Below w.heap.size w w' := by
  obtain ⟨A, c, xs, rfl, hk, hn, hs, hlc, hc, hr, hl⟩ := hL.open_
  have h1 := fun wx (hx : Lies wx wx.heap.size t (.slice A t.l.length c)) => adds.right_any t _ wx hx
  have hL1 := hL.later (Nat.le_refl _) (.cells #[.int .i64 t.k, .int .u64 t.n, .string t.s, .slice A t.l.length c] 273)
  have d1 : (t.right != 0) = true := by simpa using hR
  clear hR
  go_enter Try.func218, Try.ntmps218
  go_wp2_with (go_at_call 255; refine (h1 _ hL1).mono ?_; rintro e w1 ⟨rfl, hb1⟩)
  go_ret2
  exact ⟨rfl, below_call (Below.refl _ _) hb1⟩

/-- what Encode answers -/
def encVal (t : T) : Value := if t.right = 0 then .tuple #[.string ⟨t.enc.toArray⟩, .int .i64 0] else .tuple #[.string ⟨#[]⟩, .int .i64 t.right]

end Go.Proofs.Ytoenkkbcpafanaa.encs

/- A term's bytes, the document's own: Bytes, Encode. -/

namespace Go.Proofs.Ytoenkkbcpafanaa.refEncs
set_option linter.unusedVariables false
set_option linter.unusedSimpArgs false
open Go.RowKit Go.Proofs.Ytoenkkbcpafanaa.base Go.Proofs.Ytoenkkbcpafanaa.tm Go.Proofs.Ytoenkkbcpafanaa.bytes Go.Proofs.Ytoenkkbcpafanaa.lies Go.Proofs.Ytoenkkbcpafanaa.rights Go.Proofs.Ytoenkkbcpafanaa.encs

/-- at the loop's head -/
def BHead (W : World) (t : T) (l : List UInt8) (u i : Value) (wr : World) : Prop :=
  ∃ (j : Nat) (x : ByteArray), j ≤ t.l.length ∧ i = .int .i64 j ∧ u = .string x ∧ Hid (x.data.toList = l ++ encL (t.l.take j)) ∧ x.size ≤ 16044000 ∧ Below W.heap.size W wr

theorem bhead_next {W wr : World} {t : T} {b : UInt8} {l : List UInt8} {x : ByteArray} {j : Nat} (hj : j < t.l.length) (hz : t.size = sizeL t.l + 1) (hsh : shapedL t.l = true) (hw : wordL t.l) (hl : l.length ≤ 10) (hs : t.s.size ≤ 4000) (h4 : t.size ≤ 4000)
    (hx : x.data.toList = (b :: (l ++ t.s.data.toList)) ++ encL (t.l.take j)) (hb : Below W.heap.size W wr) : BHead W t (b :: (l ++ t.s.data.toList)) (.string (x ++ ⟨t.l[j].enc.toArray⟩)) (.int .i64 ((j : Int) + 1)) wr := by
  have e : (x ++ ⟨t.l[j].enc.toArray⟩).data.toList = (b :: (l ++ t.s.data.toList)) ++ encL (t.l.take (j + 1)) := by
    rw [encL_take _ _ hj, ← List.append_assoc, ← hx]; simp
  refine ⟨j + 1, _, hj, by go_num, rfl, lay e, ?_, hb⟩
  have h1 := congrArg List.length e
  have h2 := encL_len _ (shapedL_tk t.l (j + 1) hsh) (wordL_tk t.l (j + 1) hw)
  have h3 := sizeL_le t.l (j + 1)
  have h5 : t.s.data.toList.length = t.s.size := by simp
  have h6 : (x ++ ⟨t.l[j].enc.toArray⟩).data.toList.length = (x ++ ⟨t.l[j].enc.toArray⟩).size := Array.length_toList
  rw [h6] at h1
  simp only [List.length_append, List.length_cons, h5] at h1
  omega
theorem ret_str {l : List UInt8} {x : ByteArray} (h : x.data.toList = l) : Ending.returned (.string x) = .returned (.string ⟨l.toArray⟩) := by
  subst h; rfl
theorem add1 (b : UInt8) (l : List UInt8) (h : l.length ≤ 10) (w : World) : (Op.stringOp .add ⟨#[b]⟩ ⟨l.toArray⟩).run Try.prog w = .ok (.string (⟨#[b]⟩ ++ ⟨l.toArray⟩)) w :=
  run_string_add_sum w _ _ (by show 1 + l.length ≤ _; omega)
theorem add2 (b : UInt8) (l : List UInt8) (s : ByteArray) (h : l.length ≤ 10) (hs : s.size ≤ 4000) (w : World) : (Op.stringOp .add (⟨#[b]⟩ ++ ⟨l.toArray⟩) s).run Try.prog w = .ok (.string (⟨#[b]⟩ ++ ⟨l.toArray⟩ ++ s)) w :=
  run_string_add_sum w _ _ (by rw [ByteArray.size_append]; show 1 + l.length + s.size ≤ _; omega)
theorem start_three (b : UInt8) (l : List UInt8) (s : ByteArray) : ((⟨#[b]⟩ : ByteArray) ++ ⟨l.toArray⟩ ++ s).data.toList = b :: (l ++ s.data.toList) := by simp
theorem size_three (b : UInt8) (l : List UInt8) (s : ByteArray) (h : l.length ≤ 10) (hs : s.size ≤ 4000) : ((⟨#[b]⟩ : ByteArray) ++ ⟨l.toArray⟩ ++ s).size ≤ 16044000 := by
  rw [ByteArray.size_append, ByteArray.size_append]; show 1 + l.length + s.size ≤ _; omega
theorem start_two (b : UInt8) (l : List UInt8) (s : ByteArray) (hs : s.data.toList = []) : ((⟨#[b]⟩ : ByteArray) ++ ⟨l.toArray⟩).data.toList = b :: (l ++ s.data.toList) := by simp [hs]
theorem size_two (b : UInt8) (l : List UInt8) (h : l.length ≤ 10) : ((⟨#[b]⟩ : ByteArray) ++ ⟨l.toArray⟩).size ≤ 16044000 := by
  rw [ByteArray.size_append]; show 1 + l.length ≤ _; omega
theorem conv_one (w : World) (g : Nat) (hg : g = w.heap.size) (x : Int) (h1 : 0 ≤ x) (h2 : x < 256) :
    (Go.convert 260 9 (.slice (some ⟨g, 0, none⟩) 1 1)).run Try.prog (w.alloc (.cells #[.int .u8 x] 5)) = .ok (.string ⟨#[UInt8.ofNat x.toNat]⟩) (w.alloc (.cells #[.int .u8 x] 5)) := by
  subst hg
  have h := run_convert_bytes_back (P := Try.prog) (w.alloc (.cells #[.int .u8 x] 5)) 260 9 5 ⟨w.heap.size, 0, none⟩ 1 [UInt8.ofNat x.toNat] Try.underlying260 Try.underlying5 Try.underlying9 (fun j hj => by
    obtain rfl : j = 0 := by simpa using hj
    have hx : ((UInt8.ofNat x.toNat).toNat : Int) = x := by rw [ofNat_to (by omega)]; omega
    simp only [List.getElem_cons_zero, hx]
    have := (Blk.new w 5 #[.int .u8 x]).cell 0
    rw [show (⟨w.heap.size, 0, none⟩ : Addr).add 0 = ⟨w.heap.size, 0, none⟩ from rfl]; exact this)
  exact h

theorem below_own {w w2 : World} {o o' : Obj} (hb : Below ((w.alloc o).alloc o').heap.size ((w.alloc o).alloc o') w2) : Below w.heap.size w w2 :=
  (((Below.refl _ _).alloc (Nat.le_refl _) o).alloc (by simp) o').trans (hb.mono (by simp; omega))
theorem below_own' {w w2 : World} {o o' : Obj} (hb : Below ((w.alloc o).alloc o').drew.heap.size ((w.alloc o).alloc o').drew w2) : Below w.heap.size w w2 :=
  (((Below.refl _ _).alloc (Nat.le_refl _) o).alloc (by simp) o').drew.trans (hb.mono (by simp; omega))

end Go.Proofs.Ytoenkkbcpafanaa.refEncs

/- Boxes as plain data; a held list's terms; box.copied. -/

namespace Go.Proofs.Ytoenkkbcpafanaa.boxes
set_option linter.unusedVariables false
set_option linter.unusedSimpArgs false
open Go.RowKit Go.Proofs.Ytoenkkbcpafanaa.base Go.Proofs.Ytoenkkbcpafanaa.tm Go.Proofs.Ytoenkkbcpafanaa.lies Go.Proofs.Ytoenkkbcpafanaa.rights Go.Proofs.Ytoenkkbcpafanaa.copies Go.Proofs.Ytoenkkbcpafanaa.makes Go.Proofs.Ytoenkkbcpafanaa.reads

def zT : T := .mk 0 0 ⟨#[]⟩ []
/-- the box under a key that holds a term -/
def boxT (k : Int) (t : T) : T := .mk 4 k ⟨#[]⟩ [t]
def sealT (k : Int) (t : T) : T × Int := if t.right ≠ 0 then (zT, t.right) else if (boxT k t).right ≠ 0 then (zT, (boxT k t).right) else (boxT k t, 0)
def openT (k : Int) (t : T) : T × Int := if t.right ≠ 0 then (zT, t.right) else if t.k ≠ 4 then (zT, 30) else if t.n ≠ k then (zT, 31) else (t.l.headD zT, 0)

/-- what a call leaves that answers a term and an error's number -/
def Ans (W : World) (r : T × Int) (e : Ending) (w' : World) : Prop :=
  Below W.heap.size W w' ∧ ∃ (A : Option Addr) (c : Nat), e = .returned (.tuple #[T.val r.1 (.slice A r.1.l.length c), .int .i64 r.2]) ∧ Held w' W.heap.size w'.heap.size r.1.l (.slice A r.1.l.length c) ∧ Fits r.1

theorem fits_z : Fits zT := by unfold Fits zT T.k T.n T.s; decide
theorem _root_.Go.Proofs.Ytoenkkbcpafanaa.lies.Lies.fits {w : World} {B : Nat} {t : T} {v : Value} (h : Lies w B t v) : Fits t := by
  obtain ⟨A, c, xs, _, h1, h2, h3, _⟩ := h.open_
  exact ⟨h1, h2, h3⟩

/-- a held list's slice lies within its blocks -/
theorem Held.at_ {w : World} {lo hi : Nat} {l : List T} {A : Option Addr} {n c : Nat} (h : Held w lo hi l (.slice A n c)) {j : Nat} (hj : j < l.length) :
    ∃ b off A' c', A = some ⟨b, off, none⟩ ∧ lo ≤ b ∧ b < hi ∧ w.cell? ⟨b, off + j * 4, none⟩ = some (.int .i64 l[j].k) ∧ w.cell? ⟨b, off + j * 4 + 1, none⟩ = some (.int .u64 l[j].n) ∧
      w.cell? ⟨b, off + j * 4 + 2, none⟩ = some (.string l[j].s) ∧ w.cell? ⟨b, off + j * 4 + 3, none⟩ = some (.slice A' l[j].l.length c') ∧ Held w lo hi l[j].l (.slice A' l[j].l.length c') ∧ Fits l[j] := by
  obtain ⟨A0, c0, e, hlc, h56, hh⟩ := h
  injection e with e1 e2 e3
  subst e1 e2 e3
  obtain ⟨xs, hr, hl⟩ := hh w hi (Nat.le_refl _) (fun _ _ _ => rfl)
  obtain ⟨b, off, A', c', rfl, hb, hv, q0, q1, q2, q3⟩ := at_cells hr hl hj
  have hlo : lo ≤ b := by
    rcases Nat.lt_or_ge b lo with hlt | hge
    · exfalso
      obtain ⟨ys, hr2, hl2⟩ := hh (w.setCell ⟨b, off + j * 4, none⟩ (.bool false)) hi (Nat.le_refl _) (fun p p1 _ => World.cell?_setCell_other _ _ _ _ (by rintro rfl; exact absurd p1 (by simp; omega)))
      obtain ⟨b2, off2, _, _, e2, _, _, z0, _⟩ := at_cells hr2 hl2 hj
      injection e2 with e2
      injection e2 with e3 e4 _
      subst e3 e4
      rw [World.cell?_setCell_same _ _ _ q0] at z0
      cases z0
    · exact hge
  refine ⟨b, off, A', c', rfl, hlo, hb, q0, q1, q2, q3, ?_, hv.fits⟩
  obtain ⟨A1, c1, xs1, e1, _, _, _, l1, m1, _⟩ := hv.open_
  injection e1 with e1 _ e3
  subst e1 e3
  refine ⟨_, _, rfl, l1, m1, fun w2 B2 hB ha => ?_⟩
  obtain ⟨ys, hr2, hl2⟩ := hh w2 B2 hB ha
  obtain ⟨b2, off2, A2, c2, e2, _, hv2, _, _, _, z3⟩ := at_cells hr2 hl2 hj
  injection e2 with e2
  injection e2 with e3 e4 _
  subst e3 e4
  rw [ha ⟨b, off + j * 4 + 3, none⟩ hlo hb, q3] at z3
  injection z3 with z3
  injection z3 with z3 _ z4
  subst z3 z4
  obtain ⟨A3, c3, xs3, e3, _, _, _, _, _, r3, l3⟩ := hv2.open_
  injection e3 with e3 _ e4
  subst e3 e4
  exact ⟨xs3, r3, l3⟩
/-- one term's cells in a new block: a list of one -/
theorem held_one {w : World} {t : T} {A : Option Addr} {c lo : Nat} (h : Held w lo w.heap.size t.l (.slice A t.l.length c)) (hF : Fits t) (hlo : lo ≤ w.heap.size) :
    Held (w.alloc (.cells #[.int .i64 t.k, .int .u64 t.n, .string t.s, .slice A t.l.length c] 273)) lo (w.alloc (.cells #[.int .i64 t.k, .int .u64 t.n, .string t.s, .slice A t.l.length c] 273)).heap.size [t] (.slice (some ⟨w.heap.size, 0, none⟩) 1 1) := by
  have hbk := Blk.new w 273 #[.int .i64 t.k, .int .u64 t.n, .string t.s, .slice A t.l.length c]
  refine ⟨_, _, rfl, Nat.le_refl _, by simp, fun w2 B2 hB ha => ?_⟩
  simp only [World.size_alloc] at hB ha
  obtain ⟨A1, c1, e, hl, h56, hh⟩ := h
  injection e with e1 _ e2
  subst e1 e2
  obtain ⟨xs, hr, hL⟩ := hh w2 B2 (by omega) fun p p1 p2 => by rw [ha p p1 (by omega), World.cell?_alloc_lt _ _ _ p2]
  refine ⟨[.int .i64 t.k, .int .u64 t.n, .string t.s, .slice A t.l.length c], fun j u hj => ⟨w.heap.size, 0, rfl, by omega, ?_⟩, _, [], rfl, Lies.mk hF.1 hF.2.1 hF.2.2 hl h56 hr hL, rfl⟩
  rw [ha ⟨w.heap.size, 0 + j, none⟩ hlo (by show w.heap.size < w.heap.size + 1; omega), Nat.zero_add, hbk.cell]
  simpa using hj
/-- a term's cells in a new block, as a slice of one -/
theorem liesS_one {w : World} {t : T} {A : Option Addr} {c B : Nat} (h : Lies w B t (.slice A t.l.length c)) (hB : B ≤ w.heap.size) :
    LiesS (w.alloc (.cells #[.int .i64 t.k, .int .u64 t.n, .string t.s, .slice A t.l.length c] 273)) (w.alloc (.cells #[.int .i64 t.k, .int .u64 t.n, .string t.s, .slice A t.l.length c] 273)).heap.size [t] (some ⟨w.heap.size, 0, none⟩) 1 :=
  ⟨[.int .i64 t.k, .int .u64 t.n, .string t.s, .slice A t.l.length c], Nat.le_refl _, by simp, (Blk.new w 273 #[.int .i64 t.k, .int .u64 t.n, .string t.s, .slice A t.l.length c]).rd (by simp), _, [], rfl, h.later hB _, rfl⟩

theorem below2 {w w2 : World} {o o' : Obj} (hb : Below (w.heap.size + 1 + 1) ((w.alloc o).alloc o') w2) : Below w.heap.size w w2 :=
  (((Below.refl _ _).alloc (Nat.le_refl _) o).alloc (by simp) o').trans (hb.mono (by omega))
theorem below3 {w w2 : World} {o o' o'' : Obj} (hb : Below (w.heap.size + 1 + 1 + 1) (((w.alloc o).alloc o').alloc o'') w2) : Below w.heap.size w w2 :=
  ((((Below.refl _ _).alloc (Nat.le_refl _) o).alloc (by simp) o').alloc (by simp; omega) o'').trans (hb.mono (by omega))
/-- the list of a row that Of made -/
theorem field_list (k n : Int) (s : ByteArray) (v : Value) (u : World) : (Instr.field 273 (.agg #[.int .i64 k, .int .u64 n, .string s, v]) 3).run Try.prog u = .ok v u := by kernel_rfl

set_option maxRecDepth 100000 in
set_option maxHeartbeats 400000 in
theorem copied_one (t : T) (v : Value) (w : World) (hL : Lies w w.heap.size t v) :
    Calls Try.prog 314 #[T.val t v] w fun e w' => Below w.heap.size w w' ∧ ∃ (A : Option Addr) (c : Nat), e = .returned (T.val t (.slice A t.l.length c)) ∧ Held w' w.heap.size w'.heap.size t.l (.slice A t.l.length c) := by
  obtain ⟨A, c, xs, rfl, hk, hn, hs, hlc, hc, hr, hl⟩ := hL.open_
  have hL2 := (hL.later (Nat.le_refl _) (.cells #[.int .i64 t.k, .int .u64 t.n, .string t.s, .slice A t.l.length c] 273)).later (Nat.le_refl _) (.cells #[.int .i64 0, .int .u64 0, .string ⟨#[]⟩, .slice none 0 0] 273)
  have hbk := (Blk.new (w.alloc (.cells #[.int .i64 t.k, .int .u64 t.n, .string t.s, .slice A t.l.length c] 273)) 273 #[.int .i64 0, .int .u64 0, .string ⟨#[]⟩, .slice none 0 0]).alloc (.cells #[.int .i64 t.k, .int .u64 t.n, .string t.s, .slice A t.l.length c] 273)
  simp only [World.size_alloc] at hbk
  have hcall := of_any [t] _ _ _ _ (liesS_one hL2 (Nat.le_refl _)) (Nat.le_refl _)
  simp only [List.length_singleton, World.size_alloc] at hcall
  go_enter Try.func314, Try.ntmps314
  go_wp2_with fail
  refine hcall.mono ?_
  rintro e w1 ⟨A1, c1, rfl, hh, hb⟩
  obtain ⟨b, off, A2, c2, rfl, hlo, hhi, q0, q1, q2, q3, hH, hF⟩ := Held.at_ hh (j := 0) (by simp)
  simp at q0 q1 q2 q3 hH
  have hB2 := hbk.below hb (by simp)
  have z0 := hB2.cell 0
  have z1 := hB2.cell 1
  have z2 := hB2.cell 2
  have z3 := hB2.cell 3
  simp at z0 z1 z2 z3
  have f0 := hB2.frozen 0
  have f1 := hB2.frozen 1
  have f2 := hB2.frozen 2
  have f3 := hB2.frozen 3
  have hfd := fun v u => field_list 5 0 ⟨#[]⟩ v u
  go_wp2_with fail
  refine bodyPost_ret (v := T.val t (.slice A2 t.l.length c2)) (by simp [results, Try.results314, go_sem, z0, z1, z2, z3]) rfl ⟨?_, A2, c2, rfl, ?_⟩
  · exact four_below (o := 0) (below3 hb) (by omega) _ _ _ _
  · exact hH.move (by omega) (by simp) fun p p1 p2 => four_cell w1 (w.heap.size + 1) 0 _ _ _ _ p (by omega)

set_option maxRecDepth 100000 in
set_option maxHeartbeats 400000 in
theorem seal_bad (k : Int) (t : T) (v : Value) (w : World) (hL : Lies w w.heap.size t v) (hR : t.right ≠ 0) :
    Calls Try.prog 217 #[.int .u64 k, T.val t v] w (Ans w (zT, t.right)) := by
  obtain ⟨A, c, xs, rfl, hk, hn, hs, hlc, hc, hr, hl⟩ := hL.open_
  have hL2 := (hL.later (Nat.le_refl _) (.cells #[.int .i64 t.k, .int .u64 t.n, .string t.s, .slice A t.l.length c] 273)).later (Nat.le_refl _) (.cells #[.int .i64 0, .int .u64 0, .string ⟨#[]⟩, .slice none 0 0] 273)
  have d1 : (t.right != 0) = true := by simpa using hR
  have h1 := adds.right_any t _ _ hL2
  simp only [World.size_alloc] at h1
  clear hR
  go_enter Try.func217, Try.ntmps217
  go_wp2_with fail
  refine h1.mono ?_
  rintro e w1 ⟨rfl, hb1⟩
  have hB := (Blk.new (w.alloc (.cells #[.int .i64 t.k, .int .u64 t.n, .string t.s, .slice A t.l.length c] 273)) 273 #[.int .i64 0, .int .u64 0, .string ⟨#[]⟩, .slice none 0 0]).below hb1 (by simp)
  simp only [World.size_alloc] at hB
  have z0 := hB.cell 0
  have z1 := hB.cell 1
  have z2 := hB.cell 2
  have z3 := hB.cell 3
  simp at z0 z1 z2 z3
  have f0 := hB.frozen 0
  have f1 := hB.frozen 1
  have f2 := hB.frozen 2
  have f3 := hB.frozen 3
  go_wp2_with fail
  refine bodyPost_ret (v := .tuple #[T.val zT (.slice none 0 0), .int .i64 t.right]) (by simp [results, Try.results217, go_sem, z0, z1, z2, z3, zT, T.k, T.n, T.s]) rfl ⟨?_, none, 0, rfl, Held.nil _ _ _, fits_z⟩
  exact four_below (o := 0) (below2 hb1) (by omega) _ _ _ _
end Go.Proofs.Ytoenkkbcpafanaa.boxes

/- letheref06's Term: a node's term, or why it has none. -/

namespace Go.Proofs.Ytoenkkbcpafanaa.nodes
set_option linter.unusedVariables false
set_option linter.unusedSimpArgs false
open Go.RowKit Go.Proofs.Ytoenkkbcpafanaa.base Go.Proofs.Ytoenkkbcpafanaa.quotas Go.Proofs.Ytoenkkbcpafanaa.vers Go.Proofs.Ytoenkkbcpafanaa.tm Go.Proofs.Ytoenkkbcpafanaa.lies Go.Proofs.Ytoenkkbcpafanaa.copies Go.Proofs.Ytoenkkbcpafanaa.makes Go.Proofs.Ytoenkkbcpafanaa.built

theorem vbad_pos (c d : Int) : ∀ (l : List V) (p : Int), vbad c d p l = 0 → 0 ≤ p → ∀ y ∈ l, 0 ≤ y.n
  | [], _, _, _, y, hy => by cases hy
  | x :: l, p, h, hp, y, hy => by
    unfold vbad at h
    split at h
    · omega
    · rename_i h1
      split at h
      · omega
      · rcases List.mem_cons.1 hy with rfl | hy
        · omega
        · exact vbad_pos c d l x.n h (by omega) y hy
theorem rb_zero {n : Int} {l : List V} (h : rb n l = 0) : n = 0 := by
  unfold rb at h
  split at h
  · omega
  · exact h
theorem nbad_all {a b c d e f h : Int} {s : ByteArray} {l : List V} (hz : nbad a b c d e f h s l = 0) : l.length ≤ 4 ∧ ∀ y ∈ l, 0 ≤ y.n := by
  by_cases hk : ok a b c d e f h
  · have h5 := hk.2.2.2.2.1
    rw [nbad_yes hk] at hz
    split at hz
    · omega
    · split at hz
      · omega
      · split at hz
        · omega
        · exact ⟨by omega, vbad_pos c d l 0 hz (Int.le_refl _)⟩
  · rw [nbad_no hk] at hz; omega
theorem ebad_all (a b c d e f h : Int) : ∀ (l : List E) (p : Option ByteArray), ebad a b c d e f h p l = 0 → ∀ x ∈ l, x.l.length ≤ 4 ∧ ∀ y ∈ x.l, 0 ≤ y.n
  | [], _, _, x, hx => by cases hx
  | z :: l, p, hb, x, hx => by
    have hb' : (if rb (nbad a b c d e f h z.s z.l) z.l ≠ 0 then rb (nbad a b c d e f h z.s z.l) z.l else if behind z.s p = true then 60 else ebad a b c d e f h (some z.s) l) = 0 := by
      cases p <;> exact hb
    split at hb'
    · rename_i h1; exact absurd hb' h1
    · rename_i h1
      split at hb'
      · omega
      · rcases List.mem_cons.1 hx with rfl | hx
        · exact nbad_all (rb_zero (Classical.not_not.1 h1))
        · exact ebad_all a b c d e f h l _ hb' x hx
theorem kbad_all (b : Int) : ∀ (l : List K) (p : Option ByteArray), kbad b p l = 0 → ∀ x ∈ l, refOk x.g x.o x.n
  | [], _, _, x, hx => by cases hx
  | z :: l, p, hb, x, hx => by
    have hb' : (if z.s.size = 0 then 4 else if b < z.s.size then 5 else if ¬ refOk z.g z.o z.n then 61 else if behind z.s p = true then 60 else kbad b (some z.s) l) = 0 := by
      cases p <;> exact hb
    split at hb'
    · omega
    · split at hb'
      · omega
      · split at hb'
        · omega
        · rename_i h1
          split at hb'
          · omega
          · rcases List.mem_cons.1 hx with rfl | hx
            · exact Classical.not_not.1 h1
            · exact kbad_all b l _ hb' x hx
theorem ndbad_leaf {a b c d e f h : Int} {es : List E} {ks : List K} (hz : ndbad a b c d e f h true es ks = 0) : es.length ≤ 4 ∧ ∀ x ∈ es, x.l.length ≤ 4 ∧ ∀ y ∈ x.l, 0 ≤ y.n := by
  unfold ndbad at hz
  split at hz
  · rw [if_pos rfl] at hz
    split at hz
    · omega
    · exact ⟨by omega, ebad_all a b c d e f h es none hz⟩
  · omega
theorem ndbad_inner {a b c d e f h : Int} {es : List E} {ks : List K} (hz : ndbad a b c d e f h false es ks = 0) : ks.length ≤ 4 ∧ ∀ x ∈ ks, refOk x.g x.o x.n := by
  unfold ndbad at hz
  split at hz
  · rw [if_neg (by simp)] at hz
    split at hz
    · omega
    · exact ⟨by omega, kbad_all b ks none hz⟩
  · omega

/-- a node's term, or what is wrong -/
def termP (a b c d e f h : Int) (lf : Bool) (es : List E) (ks : List K) : T × Int := if ndbad a b c d e f h lf es ks ≠ 0 then (boxes.zT, ndbad a b c d e f h lf es ks) else (nodeT lf es ks, 0)
theorem nodeT_kns (lf : Bool) (es : List E) (ks : List K) : (nodeT lf es ks).k = 5 ∧ (nodeT lf es ks).n = 0 ∧ (nodeT lf es ks).s = ⟨#[]⟩ := by
  cases lf <;> exact ⟨rfl, rfl, rfl⟩

/-- behind Term's beginning: the quota's, the node's and the answer's boxes -/
def Tx (w : World) (a b c d e f h : Int) (lf : Bool) (u u' : Value) (wr : World) : Prop := Bn w a b c d e f h lf u u' wr ∧ Blk wr (w.heap.size + 2) 273 #[.int .i64 0, .int .u64 0, .string ⟨#[]⟩, .slice none 0 0]
theorem Tx.new (w : World) (a b c d e f h : Int) (lf : Bool) (u u' : Value) : Tx w a b c d e f h lf u u' (((w.alloc (.cells #[.int .i64 a, .int .i64 b, .int .i64 c, .int .i64 d, .int .i64 e, .int .i64 f, .int .i64 h] 113)).alloc (.cells #[.bool lf, u, u'] 87)).alloc (.cells #[.int .i64 0, .int .u64 0, .string ⟨#[]⟩, .slice none 0 0] 273)) := by
  have k := Blk.new ((w.alloc (.cells #[.int .i64 a, .int .i64 b, .int .i64 c, .int .i64 d, .int .i64 e, .int .i64 f, .int .i64 h] 113)).alloc (.cells #[.bool lf, u, u'] 87)) 273 #[.int .i64 0, .int .u64 0, .string ⟨#[]⟩, .slice none 0 0]
  simp only [World.size_alloc] at k
  exact ⟨(Bn.new w a b c d e f h lf u u').alloc _, k⟩
theorem Tx.next {w wr w' : World} {a b c d e f h : Int} {lf : Bool} {u u' : Value} (h1 : Tx w a b c d e f h lf u u' wr) (hb : Below wr.heap.size wr w') : Tx w a b c d e f h lf u u' w' := ⟨h1.1.next hb, h1.2.below hb h1.2.lt⟩
theorem four_same (w : World) (g : Nat) (x y z u : Value) : (((w.setCell ⟨g, 0, none⟩ x).setCell ⟨g, 1, none⟩ y).setCell ⟨g, 2, none⟩ z).setCell ⟨g, 3, none⟩ u = four w g 0 x y z u := rfl

end Go.Proofs.Ytoenkkbcpafanaa.nodes

/- box.Seal, box.Open: what they answer. -/

namespace Go.Proofs.Ytoenkkbcpafanaa.boxes
set_option linter.unusedVariables false
set_option linter.unusedSimpArgs false
open Go.RowKit Go.Proofs.Ytoenkkbcpafanaa.base Go.Proofs.Ytoenkkbcpafanaa.tm Go.Proofs.Ytoenkkbcpafanaa.lies Go.Proofs.Ytoenkkbcpafanaa.rights Go.Proofs.Ytoenkkbcpafanaa.copies Go.Proofs.Ytoenkkbcpafanaa.makes Go.Proofs.Ytoenkkbcpafanaa.reads

theorem fits_box {k : Int} {t : T} (hk : 0 ≤ k ∧ k < 18446744073709551616) : Fits (boxT k t) := by
  refine ⟨?_, hk, ?_⟩
  · show (-9223372036854775808 : Int) ≤ 4 ∧ (4 : Int) ≤ 9223372036854775807; omega
  · exact Nat.zero_le _
/-- a held list of one in a new block of a box's cells -/
theorem held_box {w : World} {k : Int} {t : T} {A : Option Addr} {c lo : Nat} (hk : 0 ≤ k ∧ k < 18446744073709551616) (h : Held w lo w.heap.size [t] (.slice A 1 c)) :
    Lies (w.alloc (.cells #[.int .i64 4, .int .u64 k, .string ⟨#[]⟩, .slice A 1 c] 273)) (w.alloc (.cells #[.int .i64 4, .int .u64 k, .string ⟨#[]⟩, .slice A 1 c] 273)).heap.size (boxT k t) (.slice A 1 c) := by
  have h2 : Held w lo w.heap.size (boxT k t).l (.slice A 1 c) := h
  have hF := fits_box (t := t) hk
  exact (h2.lies hF.1 hF.2.1 hF.2.2 (Nat.le_refl _)).later (Nat.le_refl _) _

theorem right_box (k : Int) (t : T) (v : Value) (w : World) (hL : Lies w w.heap.size (boxT k t) v) :
    Calls Try.prog 255 #[.agg #[.int .i64 4, .int .u64 k, .string ⟨#[]⟩, v]] w fun e w' => e = .returned (.int .i64 (boxT k t).right) ∧ Below w.heap.size w w' := adds.right_any _ _ _ hL

set_option maxRecDepth 100000 in
set_option maxHeartbeats 400000 in
theorem seal_more (k : Int) (t : T) (v : Value) (w : World) (hkk : 0 ≤ k ∧ k < 18446744073709551616) (hL : Lies w w.heap.size t v) (hR : t.right = 0) (hS : (boxT k t).right ≠ 0) :
    Calls Try.prog 217 #[.int .u64 k, T.val t v] w (Ans w (zT, (boxT k t).right)) := by
  obtain ⟨A, c, xs, rfl, hk, hn, hs, hlc, hc, hr, hl⟩ := hL.open_
  have hL2 := (hL.later (Nat.le_refl _) (.cells #[.int .i64 t.k, .int .u64 t.n, .string t.s, .slice A t.l.length c] 273)).later (Nat.le_refl _) (.cells #[.int .i64 0, .int .u64 0, .string ⟨#[]⟩, .slice none 0 0] 273)
  have d1 : ((boxT k t).right != 0) = true := by simpa using hS
  have h1 := adds.right_any t _ _ hL2
  rw [hR] at h1
  simp only [World.size_alloc] at h1
  clear hR hS
  go_enter Try.func217, Try.ntmps217
  go_wp2_with fail
  refine h1.mono ?_
  rintro e w1 ⟨rfl, hb1⟩
  have hz1 := hb1.size
  simp only [World.size_alloc] at hz1
  have hL3 := Lies.now (hL2.below (hb1.mono (by simp))) (by simp; omega)
  have hB := (Blk.new (w.alloc (.cells #[.int .i64 t.k, .int .u64 t.n, .string t.s, .slice A t.l.length c] 273)) 273 #[.int .i64 0, .int .u64 0, .string ⟨#[]⟩, .slice none 0 0]).below hb1 (by simp)
  have hC := ((Blk.new w 273 #[.int .i64 t.k, .int .u64 t.n, .string t.s, .slice A t.l.length c]).alloc (.cells #[.int .i64 0, .int .u64 0, .string ⟨#[]⟩, .slice none 0 0] 273)).below hb1 (by omega)
  simp only [World.size_alloc] at hB
  have y0 := hC.cell 0
  have y1 := hC.cell 1
  have y2 := hC.cell 2
  have y3 := hC.cell 3
  simp at y0 y1 y2 y3
  have h2 := of_any [t] _ _ _ _ (liesS_one hL3 (Nat.le_refl _)) (Nat.le_refl _)
  simp only [List.length_singleton, World.size_alloc] at h2
  go_wp2_with fail
  refine h2.mono ?_
  rintro e w2 ⟨A1, c1, rfl, hh, hb2⟩
  have hz2 := hb2.size
  simp only [World.size_alloc] at hz2
  have hfd := fun v u => field_list 5 0 ⟨#[]⟩ v u
  have h3 := right_box k t _ _ (held_box hkk hh)
  simp only [World.size_alloc] at h3
  go_wp2_with fail
  refine h3.mono ?_
  rintro e w3 ⟨rfl, hb3⟩
  have hz3 := hb3.size
  simp only [World.size_alloc] at hz3
  have hB3 := (((hB.alloc (.cells #[.int .i64 t.k, .int .u64 t.n, .string t.s, .slice A t.l.length c] 273)).below hb2 (by omega)).alloc (.cells #[.int .i64 4, .int .u64 k, .string ⟨#[]⟩, .slice A1 1 c1] 273)).below hb3 (by omega)
  have z0 := hB3.cell 0
  have z1 := hB3.cell 1
  have z2 := hB3.cell 2
  have z3 := hB3.cell 3
  simp at z0 z1 z2 z3
  have f0 := hB3.frozen 0
  have f1 := hB3.frozen 1
  have f2 := hB3.frozen 2
  have f3 := hB3.frozen 3
  have hw3 : w.heap.size + 1 < w3.heap.size := by omega
  have hBel : Below w.heap.size w w3 := (below2 hb1).trans ((((Below.refl _ _).alloc (by omega) _).trans (hb2.mono (by omega))).trans (((Below.refl _ _).alloc (by omega) _).trans (hb3.mono (by omega))))
  go_wp2_with fail
  refine bodyPost_ret (v := .tuple #[T.val zT (.slice none 0 0), .int .i64 (boxT k t).right]) (by simp [results, Try.results217, go_sem, z0, z1, z2, z3, hw3, show zT.k = 0 from rfl, show zT.n = 0 from rfl, show zT.s = ⟨#[]⟩ from rfl]) rfl ⟨?_, none, 0, rfl, Held.nil _ _ _, fits_z⟩
  exact four_below (o := 0) hBel (by omega) _ _ _ _

set_option maxRecDepth 100000 in
set_option maxHeartbeats 400000 in
theorem seal_ok (k : Int) (t : T) (v : Value) (w : World) (hkk : 0 ≤ k ∧ k < 18446744073709551616) (hL : Lies w w.heap.size t v) (hR : t.right = 0) (hS : (boxT k t).right = 0) :
    Calls Try.prog 217 #[.int .u64 k, T.val t v] w (Ans w (boxT k t, 0)) := by
  obtain ⟨A, c, xs, rfl, hk, hn, hs, hlc, hc, hr, hl⟩ := hL.open_
  have hL2 := (hL.later (Nat.le_refl _) (.cells #[.int .i64 t.k, .int .u64 t.n, .string t.s, .slice A t.l.length c] 273)).later (Nat.le_refl _) (.cells #[.int .i64 0, .int .u64 0, .string ⟨#[]⟩, .slice none 0 0] 273)
  have h1 := adds.right_any t _ _ hL2
  rw [hR] at h1
  simp only [World.size_alloc] at h1
  clear hR
  go_enter Try.func217, Try.ntmps217
  go_wp2_with fail
  refine h1.mono ?_
  rintro e w1 ⟨rfl, hb1⟩
  have hz1 := hb1.size
  simp only [World.size_alloc] at hz1
  have hL3 := Lies.now (hL2.below (hb1.mono (by simp))) (by simp; omega)
  have hB := (Blk.new (w.alloc (.cells #[.int .i64 t.k, .int .u64 t.n, .string t.s, .slice A t.l.length c] 273)) 273 #[.int .i64 0, .int .u64 0, .string ⟨#[]⟩, .slice none 0 0]).below hb1 (by simp)
  have hC := ((Blk.new w 273 #[.int .i64 t.k, .int .u64 t.n, .string t.s, .slice A t.l.length c]).alloc (.cells #[.int .i64 0, .int .u64 0, .string ⟨#[]⟩, .slice none 0 0] 273)).below hb1 (by omega)
  simp only [World.size_alloc] at hB
  have y0 := hC.cell 0
  have y1 := hC.cell 1
  have y2 := hC.cell 2
  have y3 := hC.cell 3
  simp at y0 y1 y2 y3
  have h2 := of_any [t] _ _ _ _ (liesS_one hL3 (Nat.le_refl _)) (Nat.le_refl _)
  simp only [List.length_singleton, World.size_alloc] at h2
  go_wp2_with fail
  refine h2.mono ?_
  rintro e w2 ⟨A1, c1, rfl, hh, hb2⟩
  have hz2 := hb2.size
  simp only [World.size_alloc] at hz2
  have hfd := fun v u => field_list 5 0 ⟨#[]⟩ v u
  have h3 := right_box k t _ _ (held_box hkk hh)
  rw [hS] at h3
  simp only [World.size_alloc] at h3
  clear hS
  go_wp2_with fail
  refine h3.mono ?_
  rintro e w3 ⟨rfl, hb3⟩
  have hz3 := hb3.size
  simp only [World.size_alloc] at hz3
  have hB3 := (((hB.alloc (.cells #[.int .i64 t.k, .int .u64 t.n, .string t.s, .slice A t.l.length c] 273)).below hb2 (by omega)).alloc (.cells #[.int .i64 4, .int .u64 k, .string ⟨#[]⟩, .slice A1 1 c1] 273)).below hb3 (by omega)
  have hX3 := (Blk.new w2 273 #[.int .i64 4, .int .u64 k, .string ⟨#[]⟩, .slice A1 1 c1]).below hb3 (by omega)
  have z0 := hB3.cell 0
  have z1 := hB3.cell 1
  have z2 := hB3.cell 2
  have z3 := hB3.cell 3
  have x0 := hX3.cell 0
  have x1 := hX3.cell 1
  have x2 := hX3.cell 2
  have x3 := hX3.cell 3
  simp at z0 z1 z2 z3 x0 x1 x2 x3
  have f0 := hB3.frozen 0
  have f1 := hB3.frozen 1
  have f2 := hB3.frozen 2
  have f3 := hB3.frozen 3
  have hw3 : w.heap.size + 1 < w3.heap.size := by omega
  have hBel : Below w.heap.size w w3 := (below2 hb1).trans ((((Below.refl _ _).alloc (by omega) _).trans (hb2.mono (by omega))).trans (((Below.refl _ _).alloc (by omega) _).trans (hb3.mono (by omega))))
  have hH3 : Held w3 (w1.heap.size + 1) w2.heap.size [t] (.slice A1 1 c1) := hh.move (Nat.le_refl _) (Nat.le_refl _) fun p _ p2 => by rw [hb3.cell (by omega), World.cell?_alloc_lt _ _ _ p2]
  go_wp2_with fail
  refine bodyPost_ret (v := .tuple #[T.val (boxT k t) (.slice A1 1 c1), .int .i64 0]) (by simp [results, Try.results217, go_sem, z0, z1, z2, z3, hw3, show (boxT k t).k = 4 from rfl, show (boxT k t).n = k from rfl, show (boxT k t).s = ⟨#[]⟩ from rfl]) rfl ⟨?_, A1, c1, rfl, ?_, fits_box hkk⟩
  · exact four_below (o := 0) hBel (by omega) _ _ _ _
  · exact Held.move (l := [t]) hH3 (by omega) (by simp; omega) fun p p1 p2 => four_cell w3 (w.heap.size + 1) 0 _ _ _ _ p (by omega)

theorem seal_any (k : Int) (t : T) (v : Value) (w : World) (hkk : 0 ≤ k ∧ k < 18446744073709551616) (hL : Lies w w.heap.size t v) :
    Calls Try.prog 217 #[.int .u64 k, T.val t v] w (Ans w (sealT k t)) := by
  unfold sealT
  by_cases h1 : t.right = 0
  · rw [if_neg (by simpa using h1)]
    by_cases h2 : (boxT k t).right = 0
    · rw [if_neg (by simpa using h2)]; exact seal_ok k t v w hkk hL h1 h2
    · rw [if_pos h2]; exact seal_more k t v w hkk hL h1 h2
  · rw [if_pos h1]; exact seal_bad k t v w hL h1
end Go.Proofs.Ytoenkkbcpafanaa.boxes
