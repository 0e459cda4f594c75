/- MediumReplays: what is written is what comes of the past. -/
import Derived.Test.YtmbhfibldklecaaMdF
import Derived.Test.YtmbhfibldklecaaMdG
import Derived.WalkSpells


namespace Go.Proofs.Ytmbhfibldklecaa.mediums
set_option linter.unusedVariables false
set_option linter.unusedSimpArgs false
open Go.RowKit Go.Proofs.Ytmbhfibldklecaa.base Go.Proofs.Ytmbhfibldklecaa.trees Go.Proofs.Ytmbhfibldklecaa.powers Go.Lib

/-! ### raw writes done one behind the other -/
def stepP (ss : List ByteArray) (x : RW) : List ByteArray := ss.set x.g.toNat ((ss[x.g.toNat]?.getD ⟨#[]⟩).extract 0 x.o.toNat ++ x.b)
def playR (n : Nat) (l : List RW) : List ByteArray := l.foldl stepP (List.replicate n ⟨#[]⟩)
theorem playR_snoc (n : Nat) (l : List RW) (x : RW) : playR n (l ++ [x]) = stepP (playR n l) x := by simp [playR, List.foldl_append]
theorem playR_len (n : Nat) (l : List RW) : (playR n l).length = n := by
  have h : ∀ (l : List RW) (ss : List ByteArray), (l.foldl stepP ss).length = ss.length := fun l => by
    induction l with
    | nil => intro ss; rfl
    | cons x l ih => intro ss; rw [List.foldl_cons, ih]; simp [stepP]
  rw [playR, h, List.length_replicate]
/-- x may be done where ss is written -/
def MayR (n size : Nat) (ss : List ByteArray) (x : RW) : Prop := (0 ≤ x.g ∧ x.g < (n : Int)) ∧ (0 ≤ x.o ∧ x.o ≤ ((ss[x.g.toNat]?.getD ⟨#[]⟩).size : Int)) ∧ x.o + (x.b.size : Int) ≤ (size : Int)
/-- what is written is what comes of the past, each of which might be done -/
def Good (n size : Nat) (m : MS) : Prop := m.size = size ∧ m.segs = playR n m.past ∧ ∀ k (h : k < m.past.length), MayR n size (playR n (m.past.take k)) m.past[k]
theorem Good.new (n size : Nat) : Good n size (newM n size) := ⟨rfl, rfl, fun k h => by simp [newM] at h⟩
theorem ref_zero {m : MS} {g o : Int} {b : ByteArray} (h : refE m g o b = 0) : (0 ≤ g ∧ g < (m.segs.length : Int)) ∧ (0 ≤ o ∧ o ≤ ((m.at_ g.toNat).size : Int)) ∧ o + (b.size : Int) ≤ (m.size : Int) := by
  unfold refE at h
  split at h
  · split at h
    · cases h
    · split at h
      · cases h
      · refine ⟨by assumption, ?_, ?_⟩ <;> omega
  · cases h
theorem putM_eq {m : MS} {g o : Int} {b : ByteArray} (h : refE m g o b = 0) : (putM m g.toNat o.toNat b).past = m.past ++ [⟨g, o, b⟩] := by
  obtain ⟨h1, h2, h3⟩ := ref_zero h
  have e1 : ((g.toNat : Nat) : Int) = g := by omega
  have e2 : ((o.toNat : Nat) : Int) = o := by omega
  simp only [putM, e1, e2]
theorem Good.put {n size : Nat} {m : MS} {g o : Int} {b : ByteArray} (hg : Good n size m) (h : refE m g o b = 0) : Good n size (putM m g.toNat o.toNat b) := by
  obtain ⟨h1, h2, h3⟩ := ref_zero h
  have hp := putM_eq h
  obtain ⟨g1, g2, g3⟩ := hg
  refine ⟨g1, ?_, fun k hk => ?_⟩
  · rw [hp, playR_snoc, ← g2]
    simp only [putM, stepP, MS.at_]
  · have hlen : (putM m g.toNat o.toNat b).past.length = m.past.length + 1 := by rw [hp]; simp
    rcases Nat.lt_or_ge k m.past.length with hlt | hge
    · have e1 : (putM m g.toNat o.toNat b).past.take k = m.past.take k := by rw [hp, List.take_append_of_le_length (by omega)]
      have e2 : (putM m g.toNat o.toNat b).past[k] = m.past[k] := by simp only [hp]; rw [List.getElem_append_left hlt]
      rw [e1, e2]
      exact g3 k hlt
    · obtain rfl : k = m.past.length := by omega
      have e1 : (putM m g.toNat o.toNat b).past.take m.past.length = m.past := by rw [hp, List.take_append_of_le_length (by omega), List.take_length]
      have e2 : (putM m g.toNat o.toNat b).past[m.past.length] = ⟨g, o, b⟩ := by simp only [hp]; rw [List.getElem_append_right (by omega)]; simp
      rw [e1, e2, ← g2]
      refine ⟨⟨h1.1, ?_⟩, h2, by rw [← g1]; exact h3⟩
      have := h1.2
      rw [g2, playR_len] at this
      exact this
theorem Good.len {n size : Nat} {m : MS} (h : Good n size m) : m.segs.length = n := by rw [h.2.1, playR_len]

/-! ### what holds between two calls -/
structure SeenAt (B n size : Nat) (w0 w : World) (S : Nat → Prop) (p g : Nat) (m : MS) (L W : Int) (v : Value) : Prop where
  md : Md w S p g m
  pw : Blk w p 139 (PC L W)
  inL : In L
  seen : w.ownsRow 0 83 3 v m.past.length (cellsR m.past)
  sown : ∀ k, v.ownBlock = some k → B ≤ k ∧ ¬ S k ∧ k ≠ p
  lo : ∀ k, S k ∨ k = p → B ≤ k
  hb : Below B w0 w
  le : B ≤ w0.heap.size
  good : Good n size m
section
variable {B n size : Nat} {w0 w w' : World} {S : Nat → Prop} {p g : Nat} {m : MS} {L W : Int} {v : Value}
theorem SeenAt.below (h : SeenAt B n size w0 w S p g m L W v) (hb : Below w.heap.size w w') : SeenAt B n size w0 w' S p g m L W v :=
  ⟨h.md.below hb, h.pw.below hb h.pw.lt, h.inL, row_below h.seen hb, h.sown, h.lo, h.hb.trans (hb.mono (Nat.le_trans h.le h.hb.size)), h.le, h.good⟩
theorem SeenAt.power (h : SeenAt B n size w0 w S p g m L W v) {L' W' : Int} (hs : St (one p) w w') (hp : Blk w' p 139 (PC L' W')) (hL : In L') : SeenAt B n size w0 w' S p g m L' W' v :=
  ⟨h.md.keep hs.keep (fun k h1 h2 => h.md.notp (h2 ▸ h1)), hp, hL, ownsRow_agree h.seen (fun k hk => hs.block k (h.seen.lt k hk).2 (fun e => (h.sown k hk).2.2 e)), h.sown, h.lo, h.hb.trans (hs.below (fun k hk => h.lo k (.inr hk)) (Nat.le_trans h.le h.hb.size)), h.le, h.good⟩
theorem WrPost.keepB {sg o : Int} {b : ByteArray} {e : Ending} (hw : WrPost S p g m L W sg o b w e w') {k : Nat} {t : TypeId} {cs : Array Value} (hk : Blk w k t cs) (h1 : ¬ S k) (h2 : k ≠ p) : Blk w' k t cs := by
  obtain ⟨_, _, _, _, _, hkk⟩ := hw
  exact hkk.blk hk (fun hx => hx.elim h1 h2)
/-- a raw write that is refused -/
theorem SeenAt.refused (h : SeenAt B n size w0 w S p g m L W v) {sg o : Int} {b : ByteArray} {e : Ending} (hw : WrPost S p g m L W sg o b w e w') (hr : wrE m L sg o b ≠ 0) :
    ∃ S' L' W', SeenAt B n size w0 w' S' p g m L' W' v := by
  obtain ⟨he, S', hs, hm, hp, hk⟩ := hw
  have hno : ¬ (refE m sg o b = 0 ∧ L ≠ 0) := fun hx => hr (by unfold wrE eSp; rw [if_pos hx.1, if_neg hx.2])
  rw [if_neg hno] at hm
  have hrow : w'.ownsRow 0 83 3 v m.past.length (cellsR m.past) := ownsRow_agree h.seen fun k hk' => hk.block k (h.seen.lt k hk').2 (fun hx => hx.elim (h.sown k hk').2.1 (h.sown k hk').2.2)
  have hso : ∀ k, v.ownBlock = some k → B ≤ k ∧ ¬ S' k ∧ k ≠ p := fun k hk' => ⟨(h.sown k hk').1, fun hx => (hs k hx).elim (h.sown k hk').2.1 (fun h2 => by have := (h.seen.lt k hk').2; omega), (h.sown k hk').2.2⟩
  have hlo : ∀ k, S' k ∨ k = p → B ≤ k := fun k hx => by
    have := h.le; have := h.hb.size
    rcases hx with hx | hx
    · rcases hs k hx with h3 | h3
      · exact h.lo k (.inl h3)
      · omega
    · exact h.lo k (.inr hx)
  have hbb := h.hb.trans (hk.below (fun k hx => h.lo k hx) (Nat.le_trans h.le h.hb.size))
  by_cases h0 : refE m sg o b = 0
  · rw [if_pos h0] at hp
    exact ⟨S', _, _, hm, hp, in_sp h.inL, hrow, hso, hlo, hbb, h.le, h.good⟩
  · rw [if_neg h0] at hp
    exact ⟨S', _, _, hm, hp, h.inL, hrow, hso, hlo, hbb, h.le, h.good⟩
/-- a raw write that is done, before it is noted down -/
structure Done (B n size : Nat) (w0 w : World) (S : Nat → Prop) (p g : Nat) (m m' : MS) (L W : Int) (v : Value) : Prop where
  md : Md w S p g m'
  pw : Blk w p 139 (PC L W)
  inL : In L
  seen : w.ownsRow 0 83 3 v m.past.length (cellsR m.past)
  sown : ∀ k, v.ownBlock = some k → B ≤ k ∧ ¬ S k ∧ k ≠ p
  lo : ∀ k, S k ∨ k = p → B ≤ k
  hb : Below B w0 w
  le : B ≤ w0.heap.size
  good : Good n size m'
theorem SeenAt.done (h : SeenAt B n size w0 w S p g m L W v) {sg o : Int} {b : ByteArray} {e : Ending} (hw : WrPost S p g m L W sg o b w e w') (hr : wrE m L sg o b = 0) :
    refE m sg o b = 0 ∧ ∃ S' L' W', Done B n size w0 w' S' p g m (putM m sg.toNat o.toNat b) L' W' v := by
  obtain ⟨he, S', hs, hm, hp, hk⟩ := hw
  have hyes : refE m sg o b = 0 ∧ L ≠ 0 := by
    unfold wrE eSp at hr
    split at hr
    · rename_i h0
      refine ⟨h0, fun hL => ?_⟩
      rw [if_pos hL] at hr
      cases hr
    · rename_i h0; exact absurd hr h0
  rw [if_pos hyes] at hm
  rw [if_pos hyes.1] at hp
  refine ⟨hyes.1, S', _, _, hm, hp, in_sp h.inL, ownsRow_agree h.seen fun k hk' => hk.block k (h.seen.lt k hk').2 (fun hx => hx.elim (h.sown k hk').2.1 (h.sown k hk').2.2), fun k hk' => ⟨(h.sown k hk').1, fun hx => (hs k hx).elim (h.sown k hk').2.1 (fun h2 => by have := (h.seen.lt k hk').2; omega), (h.sown k hk').2.2⟩, fun k hx => ?_, h.hb.trans (hk.below (fun k hx => h.lo k hx) (Nat.le_trans h.le h.hb.size)), h.le, h.good.put hyes.1⟩
  have := h.le; have := h.hb.size
  rcases hx with hx | hx
  · rcases hs k hx with h3 | h3
    · exact h.lo k (.inl h3)
    · omega
  · exact h.lo k (.inr hx)
/-- noted down -/
theorem Done.noted {m' : MS} {x : RW} (h : Done B n size w0 w S p g m m' L W v) (hm : m'.past = m.past ++ [x]) {v' : Value} (ho : w'.ownsRow 0 83 3 v' (m.past.length + 1) (cellsR m.past ++ x.cells)) (hK : Keep (fun k => v.ownBlock = some k) w w') (hv : ∀ k, v'.ownBlock = some k → v.ownBlock = some k ∨ (w.heap.size ≤ k ∧ k < w'.heap.size)) :
    SeenAt B n size w0 w' S p g m' L W v' := by
  have hle := h.le
  have hsz := h.hb.size
  have hplt := h.pw.lt
  refine ⟨h.md.keep hK (fun k h1 h2 => (h.sown k h2).2.1 h1), hK.blk h.pw (fun e => (h.sown p e).2.2 rfl), h.inL, ?_, fun k hk => ?_, h.lo, h.hb.trans (hK.below (fun k hk => (h.sown k hk).1) (Nat.le_trans h.le h.hb.size)), h.le, h.good⟩
  · rw [hm, List.length_append, List.length_singleton, cellsR_app, show cellsR [x] = x.cells by simp [cellsR]]
    exact ho
  · rcases hv k hk with e | e
    · exact h.sown k e
    · exact ⟨by omega, fun hx => by have := h.md.lt k hx; omega, by omega⟩
end
section
variable {B n size : Nat} {w0 w w' : World} {S : Nat → Prop} {p g : Nat} {m : MS} {L W : Int} {v : Value}
theorem SeenAt.other (h : SeenAt B n size w0 w S p g m L W v) {nb : Nat} (hk : Keep (fun k => k = nb) w w') (h1 : ¬ S nb) (h2 : nb ≠ p) (h3 : v.ownBlock ≠ some nb) (h4 : B ≤ nb) : SeenAt B n size w0 w' S p g m L W v :=
  ⟨h.md.keep hk (fun k a b => h1 (b ▸ a)), hk.blk h.pw (fun e => h2 e.symm), h.inL, ownsRow_agree h.seen (fun k hk' => hk.block k (h.seen.lt k hk').2 (fun e => h3 (e ▸ hk'))), h.sown, h.lo, h.hb.trans (hk.below (fun k e => by omega) (Nat.le_trans h.le h.hb.size)), h.le, h.good⟩
end
theorem keep_set (w : World) (nb i : Nat) (u : Value) : Keep (fun k => k = nb) w (w.setCell ⟨nb, i, none⟩ u) := ⟨rfl, rfl, rfl, by simp, fun k _ hn => Below.heap_setCell _ _ _ _ (fun e => hn (by rw [e]))⟩
theorem infoStr : (Try.prog.info? 9).map (fun i => (i.zero, i.size, i.bytes)) = some (some (.string ⟨#[]⟩), 1, 16) := by kernel_rfl
def cellsStr (ss : List ByteArray) : Array Value := (ss.map Value.string).toArray
theorem cellsStr_at (ss : List ByteArray) {j : Nat} (hj : j < ss.length) : (cellsStr ss)[j]? = some (.string (ss[j]?.getD ⟨#[]⟩)) := by
  simp [cellsStr, List.getElem?_eq_getElem hj]
theorem cellsStr_step (ss : List ByteArray) (x : RW) : (cellsStr ss).setIfInBounds x.g.toNat (.string ((ss[x.g.toNat]?.getD ⟨#[]⟩).extract 0 x.o.toNat ++ x.b)) = cellsStr (stepP ss x) := by
  simp [cellsStr, stepP, List.map_set]
theorem wp_raw {ops : Array Oper} {rest : List Oper} {o : Oper} {a : Act} {Q : Exit → Act → World → Prop} (hgd : o.guard = none) (s x : Operand) (ho : o.op = .call { callee := .builtin .append, args := #[s, x], argTypes := #[77, 77] })
    {w : World} {v : Value} {l : List RW} {e : RW} {n : Nat} (hn : n = l.length) (hown : w.ownsRow 0 83 3 v n (cellsR l)) (hs : a.eval s = v) {q : Nat} (hx : a.eval x = .slice (some ⟨q, 0, none⟩) 1 1) (hqz : q = w.heap.size) (hlen : (n + 1) * 32 ≤ 140737488355328)
    (h : ∀ v' w', w'.ownsRow 0 83 3 v' (n + 1) (cellsR l ++ e.cells) → Keep (fun g => v.ownBlock = some g) w w' → (∀ g, v'.ownBlock = some g → v.ownBlock = some g ∨ (w.heap.size ≤ g ∧ g < w'.heap.size)) → w.heap.size + 1 ≤ w'.heap.size → wpList Try.prog ops Q rest (a.put o.dst v') w') :
    wpList Try.prog ops Q (o :: rest) a (w.alloc (.cells #[.int .i64 e.g, .int .i64 e.o, .string e.b] 83)) := by
  subst hn
  obtain ⟨i0, hi0, hz0, hz1, hz2⟩ := info_parts infoRw
  exact wpList_put1 Try.underlying77 hi0 hz0 hz1 hz2 rfl (by decide) hgd s x ho hown hs rfl (by intro u hu; simp at hu; rcases hu with rfl | rfl | rfl <;> rfl) hx hqz (by omega) (by unfold maxLen; omega) h

set_option maxRecDepth 100000 in
set_option maxHeartbeats 8000000 in
theorem law_replays (a0 b0 : Int) (l : List MO) (A : Option Addr) (c : Nat) (w : World) (hX : Os w w.heap.size l A c) :
    Calls Try.prog 8 #[.int .i64 a0, .int .i64 b0, .slice A l.length c] w fun e w' => e = .returned (.bool true) ∧ Below w.heap.size w w' := by
  have hlen : l.length * 56 ≤ 140737488355328 := hX.2.1
  have hs1 := pkM_lt a0 8 (by omega)
  have hs2 := pkM_lt b0 64 (by omega)
  have hp1 := fun wx => pickM_ok a0 8 (by omega) (by omega) wx
  have hp2 := fun wx => pickM_ok b0 64 (by omega) (by omega) wx
  generalize pkM a0 8 = sgm at hs1 hp1
  generalize pkM b0 64 = szm at hs2 hp2
  rw [show ((8 : Nat) : Int) = 8 from rfl] at hp1
  rw [show ((64 : Nat) : Int) = 64 from rfl] at hp2
  have e1 : IntKind.i64.wrap (1 + (sgm : Int)) = 1 + (sgm : Int) := IntWalk.i64_in _ (by omega)
  have e2 : IntKind.i64.wrap (1 + (szm : Int)) = 1 + (szm : Int) := IntWalk.i64_in _ (by omega)
  have h0 := awakeM_ok w
  go_enter Try.func8, Try.ntmps8
  go_wp2_with fail
  refine h0.mono ?_
  rintro e wb ⟨rfl, b1⟩
  clear h0
  go_wp2_with fail
  refine (hp1 _).mono ?_
  rintro e wa ⟨rfl, rfl⟩
  go_wp2_with fail
  refine (hp2 _).mono ?_
  rintro e wb ⟨rfl, rfl⟩
  clear hp1 hp2
  have c1 := powers.new_ok wb
  go_wp2_with fail
  refine c1.mono ?_
  rintro e w2 ⟨rfl, ka2, b2, z2⟩
  have cN1 := mnew_ok wb.heap.size (1 + sgm) (1 + szm) (by omega) (by omega) w2 (by omega)
  rw [show ((1 + sgm : Nat) : Int) = 1 + (sgm : Int) by omega, show ((1 + szm : Nat) : Int) = 1 + (szm : Int) by omega] at cN1
  clear c1
  go_wp2_with fail
  refine cN1.mono ?_
  rintro e w3 ⟨ga, rfl, ma3, b3⟩
  have s2 := b2.size
  have s3 := b3.size
  have hbs := b1.size
  have T0 : SeenAt w.heap.size (1 + sgm) (1 + szm) w w3 (fun k => w2.heap.size ≤ k ∧ k < w3.heap.size) wb.heap.size ga (newM (1 + sgm) (1 + szm)) (-1) 0 (.slice none 0 0) :=
    ⟨ma3, ka2.below b3 ka2.lt, by unfold In; omega, World.ownsRow_nil _ _ _ _, (fun k hk => by cases hk), fun k hk => by rcases hk with h | h <;> omega, b1.trans ((b2.trans (b3.mono b2.size)).mono hbs), Nat.le_refl _, Good.new _ _⟩
  obtain ⟨S0, hS0⟩ : ∃ S0 : Nat → Prop, (fun k => w2.heap.size ≤ k ∧ k < w3.heap.size) = S0 := ⟨_, rfl⟩
  rw [hS0] at T0
  generalize wb.heap.size = pa at *
  clear cN1 ka2 ma3 b1 b2 b3 z2 s2 s3 hbs hS0 e1 e2
  go_wp2_with fail
  go_loopw [11, 10] (fun i v wr => ∃ (j : Nat) (S : Nat → Prop) (m : MS) (L W : Int), j ≤ l.length ∧ i = .int .i64 (j : Int) ∧ m.past.length ≤ j ∧ Hid (SeenAt w.heap.size (1 + sgm) (1 + szm) w wr S pa ga m L W v)) (fun i _ _ => l.length - (RowKit.intOf i).toNat)
  case atStart => exact ⟨0, S0, _, _, _, Nat.zero_le _, rfl, by simp [newM], powers.lay T0⟩
  case round =>
    clear T0
    obtain ⟨j, S, m, L, W, hj, rfl, hpj, HT⟩ := hrel
    have T := HT.out
    obtain ⟨VA, vc, rfl, _, _, _⟩ := row_rdF T.seen
    by_cases hlt : j < l.length
    · obtain ⟨bk, off, rfl, hbk, x0, x1, x2, x3, x4, x5⟩ := (hX.below T.hb).at_ hlt
      have hH := powers.lay hX
      have hwr := T.hb.size
      have e1 : IntKind.i64.wrap ((j : Int) + 1) = (j : Int) + 1 := IntWalk.i64_in _ (by omega)
      have hpast : (m.past.length + 1) * 32 ≤ 140737488355328 := by omega
      clear hX
      generalize l[j] = x at x0 x1 x2 x3 x4 x5
      obtain ⟨xk, xon, xg, xo, xn, xb⟩ := x
      simp only [] at x0 x1 x2 x3 x4 x5
      have bZ : Below wr.heap.size wr (wr.alloc (.cells #[.int .i64 xk, .bool xon, .int .i64 xg, .int .i64 xo, .int .i64 xn, .string xb] 79)) := (Below.refl _ _).alloc (Nat.le_refl _) _
      have kZ := Blk.new wr 79 #[.int .i64 xk, .bool xon, .int .i64 xg, .int .i64 xo, .int .i64 xn, .string xb]
      have lZ2 : wr.heap.size < (wr.alloc (.cells #[.int .i64 xk, .bool xon, .int .i64 xg, .int .i64 xo, .int .i64 xn, .string xb] 79)).heap.size := by simp
      have TY := T.below bZ
      have naZ : ¬ S wr.heap.size := fun h => absurd (T.md.lt _ h) (by omega)
      have npa : wr.heap.size ≠ pa := fun h => absurd T.pw.lt (by omega)
      have hrest : ∀ (w9 : World) (S' : Nat → Prop) (m' : MS) (L' W' : Int) (v' : Value), SeenAt w.heap.size (1 + sgm) (1 + szm) w w9 S' pa ga m' L' W' v' → m'.past.length ≤ j + 1 → ∃ (j1 : Nat) (S : Nat → Prop) (m : MS) (L W : Int), j1 ≤ l.length ∧ Value.int .i64 ((j : Int) + 1) = .int .i64 (j1 : Int) ∧ m.past.length ≤ j1 ∧ Hid (SeenAt w.heap.size (1 + sgm) (1 + szm) w w9 S pa ga m L W v') := fun w9 S' m' L' W' v' h1 h2 => ⟨j + 1, S', m', L', W', hlt, by go_num, h2, powers.lay h1⟩
      generalize hWZ2 : wr.alloc (.cells #[.int .i64 xk, .bool xon, .int .i64 xg, .int .i64 xo, .int .i64 xn, .string xb] 79) = WY at *
      have y0 := kZ.cell 0
      have y2 := kZ.cell 2
      have y3 := kZ.cell 3
      have y4 := kZ.cell 4
      have y5 := kZ.cell 5
      simp only [List.getElem?_toArray, List.getElem?_cons_zero, List.getElem?_cons_succ] at y0 y2 y3 y4 y5
      clear bZ T
      have z0 := TY.md.ptr
      have lgz := TY.md.lt _ TY.md.inS
      by_cases h1 : xk = 1
      · subst h1
        have cW := write_any TY.md TY.pw TY.inL xg xo xb hpast
        go_wp2_with fail
        refine cW.mono ?_
        rintro e w7 hw7
        have kZ7 := hw7.keepB kZ naZ npa
        have he := hw7.1
        subst he
        clear cW y0 y2 y3 y4 y5 z0 lgz
        have y2 := kZ7.cell 2
        have y5 := kZ7.cell 5
        simp only [List.getElem?_toArray, List.getElem?_cons_zero, List.getElem?_cons_succ] at y2 y5
        by_cases hr : wrE m L xg xo xb = 0
        · obtain ⟨hr0, S', L', W', D7⟩ := TY.done hw7 hr
          rw [hr]
          clear hw7 TY kZ hr
          go_wp2_with (at_builtin; refine wp_raw (e := ⟨xg, xo, xb⟩) rfl _ _ rfl rfl D7.seen rfl rfl rfl (by omega) ?_; intro v9 w9 ho9 hk9 hv9 hz9)
          have T9 := D7.noted (putM_eq hr0) ho9 hk9 hv9
          exact ⟨hrest _ _ _ _ _ _ T9 (by rw [putM_past]; omega), by first | (simp [RowKit.intOf]; done) | (simp [RowKit.intOf]; omega) | omega⟩
        · obtain ⟨S', L', W', T9⟩ := TY.refused hw7 hr
          have dr : decide (wrE m L xg xo xb = 0) = false := decide_eq_false hr
          have dr2 : (wrE m L xg xo xb == 0) = false := by simp [hr]
          generalize wrE m L xg xo xb = rr at *
          clear hw7 TY kZ hr kZ7 y2 y5
          go_wp2_with fail
          exact ⟨hrest _ _ _ _ _ _ T9 (by omega), by first | (simp [RowKit.intOf]; done) | (simp [RowKit.intOf]; omega) | omega⟩
      · by_cases h2 : xk = 2
        · subst h2
          have cU := used_any TY.md xg
          obtain ⟨at_, hat⟩ : ∃ at_, usedI m xg = at_ := ⟨_, rfl⟩
          rw [hat] at cU
          clear hat h1
          have cW := write_any TY.md TY.pw TY.inL xg at_ xb hpast
          go_wp2_with fail
          refine cU.mono ?_
          rintro e wa ⟨rfl, rfl⟩
          clear cU
          go_wp2_with fail
          refine cW.mono ?_
          rintro e w7 hw7
          have kZ7 := hw7.keepB kZ naZ npa
          have he := hw7.1
          subst he
          clear cW y0 y2 y3 y4 y5 z0 lgz
          have y2 := kZ7.cell 2
          have y5 := kZ7.cell 5
          simp only [List.getElem?_toArray, List.getElem?_cons_zero, List.getElem?_cons_succ] at y2 y5
          by_cases hr : wrE m L xg at_ xb = 0
          · obtain ⟨hr0, S', L', W', D7⟩ := TY.done hw7 hr
            rw [hr]
            clear hw7 TY kZ hr
            go_wp2_with (at_builtin; refine wp_raw (e := ⟨xg, at_, xb⟩) rfl _ _ rfl rfl D7.seen rfl rfl rfl (by omega) ?_; intro v9 w9 ho9 hk9 hv9 hz9)
            have T9 := D7.noted (putM_eq hr0) ho9 hk9 hv9
            exact ⟨hrest _ _ _ _ _ _ T9 (by rw [putM_past]; omega), by first | (simp [RowKit.intOf]; done) | (simp [RowKit.intOf]; omega) | omega⟩
          · obtain ⟨S', L', W', T9⟩ := TY.refused hw7 hr
            have dr : decide (wrE m L xg at_ xb = 0) = false := decide_eq_false hr
            have dr2 : (wrE m L xg at_ xb == 0) = false := by simp [hr]
            generalize wrE m L xg at_ xb = rr at *
            clear hw7 TY kZ hr kZ7 y2 y5
            go_wp2_with fail
            exact ⟨hrest _ _ _ _ _ _ T9 (by omega), by first | (simp [RowKit.intOf]; done) | (simp [RowKit.intOf]; omega) | omega⟩
        · by_cases h6 : xk = 6
          · subst h6
            clear h1 h2
            go_wp2_with fail
            have hS0 : Below WY.heap.size WY WY.drew := (Below.refl _ _).drew
            refine mix.region_D (fun w' => Below WY.heap.size WY w') (fun j => j == 6) (by kernel_rfl) ?_
            refine mix.D_takeT (i := 0) (v := ?_) rfl (by kernel_rfl) (by kernel_rfl) (fun _ _ _ h => h) (Or.inl ⟨by rfl, ?_⟩) hS0 ?_
            rotate_left
            · intro w' hSw
              have y0 := (hSw.cell (p := ⟨ga, 0, none⟩) lgz).trans z0
              have y1 := (hSw.cell (p := ⟨wr.heap.size, 4, none⟩) lZ2).trans y4
              try simp only [List.getElem_toArray, List.getElem_cons_zero, List.getElem_cons_succ]
              go_simp
              exact rfl
            try simp only [Act.put, List.setIfInBounds_toArray, List.set_cons_zero, List.set_cons_succ, List.getElem_toArray, List.getElem_cons_zero, List.getElem_cons_succ]
            refine mix.D_takeT (i := 1) (v := ?_) rfl (by kernel_rfl) (by kernel_rfl) (fun _ _ _ h => h) (Or.inl ⟨by rfl, ?_⟩) hS0 ?_
            rotate_left
            · intro w' hSw
              have y0 := (hSw.cell (p := ⟨ga, 0, none⟩) lgz).trans z0
              have y1 := (hSw.cell (p := ⟨wr.heap.size, 4, none⟩) lZ2).trans y4
              try simp only [List.getElem_toArray, List.getElem_cons_zero, List.getElem_cons_succ]
              go_simp
              exact rfl
            try simp only [Act.put, List.setIfInBounds_toArray, List.set_cons_zero, List.set_cons_succ, List.getElem_toArray, List.getElem_cons_zero, List.getElem_cons_succ]
            refine mix.D_takeT (i := 2) (v := ?_) rfl (by kernel_rfl) (by kernel_rfl) (fun _ _ _ h => h) (Or.inl ⟨by rfl, ?_⟩) hS0 ?_
            rotate_left
            · intro w' hSw
              have y0 := (hSw.cell (p := ⟨ga, 0, none⟩) lgz).trans z0
              have y1 := (hSw.cell (p := ⟨wr.heap.size, 4, none⟩) lZ2).trans y4
              try simp only [List.getElem_toArray, List.getElem_cons_zero, List.getElem_cons_succ]
              go_simp
              exact rfl
            try simp only [Act.put, List.setIfInBounds_toArray, List.set_cons_zero, List.set_cons_succ, List.getElem_toArray, List.getElem_cons_zero, List.getElem_cons_succ]
            refine mix.D_takeT (i := 3) (v := ?_) rfl (by kernel_rfl) (by kernel_rfl) (fun _ _ _ h => h) (Or.inl ⟨by rfl, ?_⟩) hS0 ?_
            rotate_left
            · intro w' hSw
              have y0 := (hSw.cell (p := ⟨ga, 0, none⟩) lgz).trans z0
              have y1 := (hSw.cell (p := ⟨wr.heap.size, 4, none⟩) lZ2).trans y4
              try simp only [List.getElem_toArray, List.getElem_cons_zero, List.getElem_cons_succ]
              go_simp
              exact rfl
            try simp only [Act.put, List.setIfInBounds_toArray, List.set_cons_zero, List.set_cons_succ, List.getElem_toArray, List.getElem_cons_zero, List.getElem_cons_succ]
            refine mix.D_takeT (i := 4) (v := ?_) rfl (by kernel_rfl) (by kernel_rfl) (fun _ _ _ h => h) (Or.inl ⟨by rfl, ?_⟩) hS0 ?_
            rotate_left
            · intro w' hSw
              have y0 := (hSw.cell (p := ⟨ga, 0, none⟩) lgz).trans z0
              have y1 := (hSw.cell (p := ⟨wr.heap.size, 4, none⟩) lZ2).trans y4
              try simp only [List.getElem_toArray, List.getElem_cons_zero, List.getElem_cons_succ]
              go_simp
              exact rfl
            try simp only [Act.put, List.setIfInBounds_toArray, List.set_cons_zero, List.set_cons_succ, List.getElem_toArray, List.getElem_cons_zero, List.getElem_cons_succ]
            refine mix.D_takeT (i := 5) (v := ?_) rfl (by kernel_rfl) (by kernel_rfl) (fun _ _ _ h => h) (Or.inl ⟨by rfl, ?_⟩) hS0 ?_
            rotate_left
            · intro w' hSw
              have y0 := (hSw.cell (p := ⟨ga, 0, none⟩) lgz).trans z0
              have y1 := (hSw.cell (p := ⟨wr.heap.size, 4, none⟩) lZ2).trans y4
              try simp only [List.getElem_toArray, List.getElem_cons_zero, List.getElem_cons_succ]
              go_simp
              exact rfl
            try simp only [Act.put, List.setIfInBounds_toArray, List.set_cons_zero, List.set_cons_succ, List.getElem_toArray, List.getElem_cons_zero, List.getElem_cons_succ]
            refine mix.D_op (k := 6) rfl rfl (by kernel_rfl) (fun K' hK => ?_)
            simp only [List.getElem_toArray, List.getElem_cons_zero, List.getElem_cons_succ]
            have TD := TY.below hS0
            have cC := cut_ok xn TD.pw TD.inL
            go_wp2_with fail
            refine cC.mono ?_
            rintro e w7 ⟨rfl, k7, s7⟩
            have T9 := TD.power s7 k7 (in_cut _ _)
            clear cC TY TD
            refine hK.out _ _ (fun h => by simp at h) ?_
            clear hK K'
            refine mix.D_done (by kernel_rfl) ?_ _
            go_wp2_with fail
            exact ⟨hrest _ _ _ _ _ _ T9 (by omega), by first | (simp [RowKit.intOf]; done) | (simp [RowKit.intOf]; omega) | omega⟩
          · by_cases h7 : xk = 7
            · subst h7
              clear h1 h2 h6
              have cR := restore_ok TY.pw
              go_wp2_with fail
              refine cR.mono ?_
              rintro e w7 ⟨rfl, k7, s7⟩
              have T9 := TY.power s7 k7 (by unfold In; omega)
              clear TY kZ cR
              go_wp2_with fail
              exact ⟨hrest _ _ _ _ _ _ T9 (by omega), by first | (simp [RowKit.intOf]; done) | (simp [RowKit.intOf]; omega) | omega⟩
            · have d1 : (xk == 1) = false := by simp [h1]
              have d2 : (xk == 2) = false := by simp [h2]
              have d6 : (xk == 6) = false := by simp [h6]
              have d7 : (xk == 7) = false := by simp [h7]
              have e3 : decide (xk = 1) = false := by simp [h1]
              have e4 : decide (xk = 2) = false := by simp [h2]
              have e5 : decide (xk = 6) = false := by simp [h6]
              have e6 : decide (xk = 7) = false := by simp [h7]
              clear h1 h2 h6 h7
              go_wp2_with fail
              exact ⟨hrest _ _ _ _ _ _ TY (by omega), by first | (simp [RowKit.intOf]; done) | (simp [RowKit.intOf]; omega) | omega⟩
    · obtain rfl : j = l.length := by omega
      clear hX hlt hj
      obtain ⟨VA', vc', ev, hR⟩ := rsF_of_row T.seen (by omega)
      obtain ⟨rfl, rfl⟩ : VA = VA' ∧ vc = vc' := by injection ev with e1 _ e2; exact ⟨e1, e2⟩
      have cG := goes_ok T.md VA vc _ (fun k hk => (T.seen.lt k hk).2) hR
      have cC := fun (w4 : World) (hb : Below wr.heap.size wr w4) => count_any (T.below hb).md
      clear ev hR T
      go_wp2_with fail
      refine cG.mono ?_
      rintro e w4 ⟨rfl, b4⟩
      have cC4 := cC w4 b4
      have T4 := HT.out.below b4
      clear cG cC
      go_wp2_with fail
      refine cC4.mono ?_
      rintro e wa ⟨rfl, rfl⟩
      obtain ⟨i0, hi, hz0, hz1, hz2⟩ := info_parts infoStr
      obtain ⟨M, hM⟩ : ∃ M, madeCells (Value.string ⟨#[]⟩).cells ((1 + (sgm : Int)).toNat * i0.size) = M := ⟨_, rfl⟩
      have hmk : ∀ u : World, (Instr.makeSlice 89 (.int .i64 (1 + (sgm : Int))) (.int .i64 (1 + (sgm : Int)))).run Try.prog u = .ok (.slice (some ⟨u.heap.size, 0, none⟩) (1 + sgm) (1 + sgm)) (u.alloc (.cells M 9)) := fun u => by
        have h := run_make (P := Try.prog) u 89 9 i0 _ Try.underlying89 hi hz0 .i64 .i64 (1 + (sgm : Int)) (1 + (sgm : Int)) (by omega) (Int.le_refl _) (by rw [hz2]; omega) (by omega)
        rw [hM, show (1 + (sgm : Int)).toNat = 1 + sgm by omega] at h
        exact h
      have HMM := powers.lay (show M = cellsStr (playR (1 + sgm) []) by
        rw [← hM, hz1, Nat.mul_one, show (1 + (sgm : Int)).toNat = 1 + sgm by omega, show (Value.string ⟨#[]⟩).cells = #[.string ⟨#[]⟩] from rfl, made_one]
        simp [cellsStr, playR])
      clear hM
      have bN := (Below.refl wa.heap.size wa).alloc (Nat.le_refl _) (.cells M 9)
      have kN := Blk.new wa 9 M
      have TN := T4.below bN
      have nbS : ¬ S wa.heap.size := fun h => absurd (T4.md.lt _ h) (by omega)
      have nbp : wa.heap.size ≠ pa := fun h => absurd T4.pw.lt (by omega)
      have nbv : (Value.slice VA m.past.length vc).ownBlock ≠ some wa.heap.size := fun h => absurd (T4.seen.lt _ h).2 (by omega)
      have nbB : w.heap.size ≤ wa.heap.size := T4.hb.size
      clear cC4 T4
      go_wp2_with fail
      generalize wa.alloc (.cells M 9) = WN at *
      generalize wa.heap.size = nb at *
      rw [HMM.out] at kN
      go_wp2_with fail
      go_loopw [16] (fun i wx => ∃ (k : Nat), k ≤ m.past.length ∧ i = .int .i64 (k : Int) ∧ Hid (SeenAt w.heap.size (1 + sgm) (1 + szm) w wx S pa ga m L W (.slice VA m.past.length vc)) ∧ Blk wx nb 9 (cellsStr (playR (1 + sgm) (m.past.take k)))) (fun i _ => m.past.length - (RowKit.intOf i).toNat)
      case atStart => exact ⟨0, Nat.zero_le _, rfl, powers.lay TN, by rw [List.take_zero]; exact kN⟩
      case round =>
        clear kN TN
        obtain ⟨k, hk, rfl, HX, kX⟩ := hrel
        by_cases hlt : k < m.past.length
        · have hmay := HX.out.good.2.2 k hlt
          obtain ⟨VA', vc', ev, hR⟩ := rsF_of_row HX.out.seen (by omega)
          obtain ⟨rfl, rfl⟩ : VA = VA' ∧ vc = vc' := by injection ev with e1 _ e2; exact ⟨e1, e2⟩
          obtain ⟨bk, off, rfl, hbk, q0, q1, q2⟩ := hR.at_ hlt
          have hsn : m.past.take (k + 1) = m.past.take k ++ [m.past[k]] := (take_snoc hlt).symm
          have hpn : playR (1 + sgm) (m.past.take (k + 1)) = stepP (playR (1 + sgm) (m.past.take k)) m.past[k] := by rw [hsn, playR_snoc]
          have hssl : (playR (1 + sgm) (m.past.take k)).length = 1 + sgm := playR_len _ _
          have HPN := powers.lay hpn
          clear ev hR hsn hpn
          generalize playR (1 + sgm) (m.past.take k) = ss at *
          obtain ⟨x, hx⟩ : ∃ x, m.past[k] = x := ⟨_, rfl⟩
          rw [hx] at hmay q0 q1 q2
          have HPN2 := powers.lay (show playR (1 + sgm) (m.past.take (k + 1)) = stepP ss x by rw [HPN.out, hx])
          clear HPN hx
          obtain ⟨xg, xo, xb⟩ := x
          obtain ⟨⟨g1, g2⟩, ⟨o1, o2⟩, sz⟩ := hmay
          simp only [] at g1 g2 o1 o2 sz q0 q1 q2
          obtain ⟨gn, rfl⟩ := Int.eq_ofNat_of_zero_le g1
          obtain ⟨on, rfl⟩ := Int.eq_ofNat_of_zero_le o1
          have hstep := cellsStr_step ss ⟨(gn : Int), (on : Int), xb⟩
          simp only [Int.toNat_natCast] at o2 hstep
          have hat := cellsStr_at ss (j := gn) (by omega)
          obtain ⟨s, hs⟩ : ∃ s, ss[gn]?.getD ⟨#[]⟩ = s := ⟨_, rfl⟩
          rw [hs] at hat o2 hstep
          have hcn := kX.cell gn
          rw [hat] at hcn
          have HST := powers.lay hstep
          have lnb := kX.lt
          have lbk : bk < wr.heap.size := (HX.out.seen.lt _ hbk).2
          clear hs hat hstep
          have bZ : Below wr.heap.size wr (wr.alloc (.cells #[.int .i64 (gn : Int), .int .i64 (on : Int), .string xb] 83)) := (Below.refl _ _).alloc (Nat.le_refl _) _
          have kZ := Blk.new wr 83 #[.int .i64 (gn : Int), .int .i64 (on : Int), .string xb]
          have lZ2 : wr.heap.size < (wr.alloc (.cells #[.int .i64 (gn : Int), .int .i64 (on : Int), .string xb] 83)).heap.size := by simp
          have TY := HX.out.below bZ
          have kXY := kX.below bZ lnb
          have hcnY := (bZ.cell (p := ⟨nb, gn, none⟩) lnb).trans hcn
          have hne2 : wr.heap.size ≠ nb := by omega
          have e1 : IntKind.i64.wrap ((k : Int) + 1) = (k : Int) + 1 := IntWalk.i64_in _ (by omega)
          generalize hWZ2 : wr.alloc (.cells #[.int .i64 (gn : Int), .int .i64 (on : Int), .string xb] 83) = WY at *
          have y0 := kZ.cell 0
          have y1 := kZ.cell 1
          have y2 := kZ.cell 2
          simp only [List.getElem?_toArray, List.getElem?_cons_zero, List.getElem?_cons_succ] at y0 y1 y2
          have lY : nb < WY.heap.size := by have := bZ.size; omega
          clear bZ kX hcn
          obtain ⟨N, hN, hM'⟩ := quotas.norms (fun wx => Below WY.heap.size WY wx) WY (Below.refl _ _)
          have hne : Nonempty World := ⟨WY⟩
          have u0 := fun n => ((hN n).cell (p := ⟨wr.heap.size, 0, none⟩) lZ2).trans y0
          have u1 := fun n => ((hN n).cell (p := ⟨wr.heap.size, 1, none⟩) lZ2).trans y1
          have u2 := fun n => ((hN n).cell (p := ⟨nb, gn, none⟩) lY).trans hcnY
          have d1 : decide ((gn : Int) < 0) = false := decide_eq_false (by omega)
          have d2 : decide (1 + (sgm : Int) ≤ (gn : Int)) = false := decide_eq_false (by omega)
          have d3 : decide ((on : Int) < 0) = false := decide_eq_false (by omega)
          have d4 : decide ((s.size : Int) < (on : Int)) = false := decide_eq_false (by omega)
          have d4n : decide (s.size < on) = false := decide_eq_false (by omega)
          have g3 : gn < 1 + sgm := by omega
          have g4 : (gn : Int) < 1 + (sgm : Int) := by omega
          have o3 : on ≤ s.size := by omega
          go_wp2_with fail
          refine quotas.region_class N (by kernel_rfl) (by kernel_rfl) (hM' _ (Below.refl _ WY).drew) ?_
          repeat (go_big_quiet_step (fail))
          refine wpQuiet_nil ?_
          rintro _ ⟨nn, rfl⟩
          have I9 := hN nn
          generalize N nn = W3 at I9 ⊢
          have T3 := TY.below I9
          have k3 := kXY.below I9 lY
          have kB3 := kZ.below I9 lZ2
          have s3 := I9.size
          have c4 := (I9.cell (p := ⟨nb, gn, none⟩) lY).trans hcnY
          clear u0 u1 u2 hN hM' N hne y0 y1 y2 TY kXY hcnY kZ d1 d2 d3 d4 d4n
          have y0 := kB3.cell 0
          have y1 := kB3.cell 1
          have y2 := kB3.cell 2
          simp only [List.getElem?_toArray, List.getElem?_cons_zero, List.getElem?_cons_succ] at y0 y1 y2
          have l3 := kB3.lt
          have l4 := k3.lt
          have hof : ¬ (9223372036854775807 < on + xb.size) := by omega
          have f4 := k3.frozen gn
          go_wp2_with fail
          have hS0 : Below W3.heap.size W3 W3.drew := (Below.refl _ _).drew
          refine mix.region_D (fun w' => Below W3.heap.size W3 w') (fun j => j == 15) (by kernel_rfl) ?_
          refine mix.D_take (i := 0) (v := ?_) rfl (by kernel_rfl) (by kernel_rfl) (fun _ _ _ h => h) (Or.inl ⟨by rfl, ?_⟩) hS0 ?_
          rotate_left
          · intro w' hSw
            have y0 := (hSw.cell (p := ⟨wr.heap.size, 0, none⟩) l3).trans y0
            have y1 := (hSw.cell (p := ⟨wr.heap.size, 1, none⟩) l3).trans y1
            have y2 := (hSw.cell (p := ⟨wr.heap.size, 2, none⟩) l3).trans y2
            have y3 := (hSw.cell (p := ⟨nb, gn, none⟩) l4).trans c4
            try simp only [List.getElem_toArray, List.getElem_cons_zero, List.getElem_cons_succ]
            go_simp
            exact rfl
          try simp only [Act.put, List.setIfInBounds_toArray, List.set_cons_zero, List.set_cons_succ, List.getElem_toArray, List.getElem_cons_zero, List.getElem_cons_succ]
          refine mix.D_take (i := 1) (v := ?_) rfl (by kernel_rfl) (by kernel_rfl) (fun _ _ _ h => h) (Or.inl ⟨by rfl, ?_⟩) hS0 ?_
          rotate_left
          · intro w' hSw
            have y0 := (hSw.cell (p := ⟨wr.heap.size, 0, none⟩) l3).trans y0
            have y1 := (hSw.cell (p := ⟨wr.heap.size, 1, none⟩) l3).trans y1
            have y2 := (hSw.cell (p := ⟨wr.heap.size, 2, none⟩) l3).trans y2
            have y3 := (hSw.cell (p := ⟨nb, gn, none⟩) l4).trans c4
            try simp only [List.getElem_toArray, List.getElem_cons_zero, List.getElem_cons_succ]
            go_simp
            exact rfl
          try simp only [Act.put, List.setIfInBounds_toArray, List.set_cons_zero, List.set_cons_succ, List.getElem_toArray, List.getElem_cons_zero, List.getElem_cons_succ]
          refine mix.D_take (i := 2) (v := ?_) rfl (by kernel_rfl) (by kernel_rfl) (fun _ _ _ h => h) (Or.inl ⟨by rfl, ?_⟩) hS0 ?_
          rotate_left
          · intro w' hSw
            have y0 := (hSw.cell (p := ⟨wr.heap.size, 0, none⟩) l3).trans y0
            have y1 := (hSw.cell (p := ⟨wr.heap.size, 1, none⟩) l3).trans y1
            have y2 := (hSw.cell (p := ⟨wr.heap.size, 2, none⟩) l3).trans y2
            have y3 := (hSw.cell (p := ⟨nb, gn, none⟩) l4).trans c4
            try simp only [List.getElem_toArray, List.getElem_cons_zero, List.getElem_cons_succ]
            go_simp
            exact rfl
          try simp only [Act.put, List.setIfInBounds_toArray, List.set_cons_zero, List.set_cons_succ, List.getElem_toArray, List.getElem_cons_zero, List.getElem_cons_succ]
          refine mix.D_take (i := 3) (v := ?_) rfl (by kernel_rfl) (by kernel_rfl) (fun _ _ _ h => h) (Or.inl ⟨by rfl, ?_⟩) hS0 ?_
          rotate_left
          · intro w' hSw
            have y0 := (hSw.cell (p := ⟨wr.heap.size, 0, none⟩) l3).trans y0
            have y1 := (hSw.cell (p := ⟨wr.heap.size, 1, none⟩) l3).trans y1
            have y2 := (hSw.cell (p := ⟨wr.heap.size, 2, none⟩) l3).trans y2
            have y3 := (hSw.cell (p := ⟨nb, gn, none⟩) l4).trans c4
            try simp only [List.getElem_toArray, List.getElem_cons_zero, List.getElem_cons_succ]
            go_simp
            exact rfl
          try simp only [Act.put, List.setIfInBounds_toArray, List.set_cons_zero, List.set_cons_succ, List.getElem_toArray, List.getElem_cons_zero, List.getElem_cons_succ]
          refine mix.D_take (i := 4) (v := ?_) rfl (by kernel_rfl) (by kernel_rfl) (fun _ _ _ h => h) (Or.inl ⟨by rfl, ?_⟩) hS0 ?_
          rotate_left
          · intro w' hSw
            have y0 := (hSw.cell (p := ⟨wr.heap.size, 0, none⟩) l3).trans y0
            have y1 := (hSw.cell (p := ⟨wr.heap.size, 1, none⟩) l3).trans y1
            have y2 := (hSw.cell (p := ⟨wr.heap.size, 2, none⟩) l3).trans y2
            have y3 := (hSw.cell (p := ⟨nb, gn, none⟩) l4).trans c4
            try simp only [List.getElem_toArray, List.getElem_cons_zero, List.getElem_cons_succ]
            go_simp
            exact rfl
          try simp only [Act.put, List.setIfInBounds_toArray, List.set_cons_zero, List.set_cons_succ, List.getElem_toArray, List.getElem_cons_zero, List.getElem_cons_succ]
          refine mix.D_take (i := 5) (v := ?_) rfl (by kernel_rfl) (by kernel_rfl) (fun _ _ _ h => h) (Or.inl ⟨by rfl, ?_⟩) hS0 ?_
          rotate_left
          · intro w' hSw
            have y0 := (hSw.cell (p := ⟨wr.heap.size, 0, none⟩) l3).trans y0
            have y1 := (hSw.cell (p := ⟨wr.heap.size, 1, none⟩) l3).trans y1
            have y2 := (hSw.cell (p := ⟨wr.heap.size, 2, none⟩) l3).trans y2
            have y3 := (hSw.cell (p := ⟨nb, gn, none⟩) l4).trans c4
            try simp only [List.getElem_toArray, List.getElem_cons_zero, List.getElem_cons_succ]
            go_simp
            exact rfl
          try simp only [Act.put, List.setIfInBounds_toArray, List.set_cons_zero, List.set_cons_succ, List.getElem_toArray, List.getElem_cons_zero, List.getElem_cons_succ]
          refine mix.D_take (i := 6) (v := ?_) rfl (by kernel_rfl) (by kernel_rfl) (fun _ _ _ h => h) (Or.inl ⟨by rfl, ?_⟩) hS0 ?_
          rotate_left
          · intro w' hSw
            have y0 := (hSw.cell (p := ⟨wr.heap.size, 0, none⟩) l3).trans y0
            have y1 := (hSw.cell (p := ⟨wr.heap.size, 1, none⟩) l3).trans y1
            have y2 := (hSw.cell (p := ⟨wr.heap.size, 2, none⟩) l3).trans y2
            have y3 := (hSw.cell (p := ⟨nb, gn, none⟩) l4).trans c4
            try simp only [List.getElem_toArray, List.getElem_cons_zero, List.getElem_cons_succ]
            go_simp
            exact rfl
          try simp only [Act.put, List.setIfInBounds_toArray, List.set_cons_zero, List.set_cons_succ, List.getElem_toArray, List.getElem_cons_zero, List.getElem_cons_succ]
          refine mix.D_take (i := 7) (v := ?_) rfl (by kernel_rfl) (by kernel_rfl) (fun _ _ _ h => h) (Or.inl ⟨by rfl, ?_⟩) hS0 ?_
          rotate_left
          · intro w' hSw
            have y0 := (hSw.cell (p := ⟨wr.heap.size, 0, none⟩) l3).trans y0
            have y1 := (hSw.cell (p := ⟨wr.heap.size, 1, none⟩) l3).trans y1
            have y2 := (hSw.cell (p := ⟨wr.heap.size, 2, none⟩) l3).trans y2
            have y3 := (hSw.cell (p := ⟨nb, gn, none⟩) l4).trans c4
            try simp only [List.getElem_toArray, List.getElem_cons_zero, List.getElem_cons_succ]
            go_simp
            exact rfl
          try simp only [Act.put, List.setIfInBounds_toArray, List.set_cons_zero, List.set_cons_succ, List.getElem_toArray, List.getElem_cons_zero, List.getElem_cons_succ]
          refine mix.D_take (i := 8) (v := ?_) rfl (by kernel_rfl) (by kernel_rfl) (fun _ _ _ h => h) (Or.inl ⟨by rfl, ?_⟩) hS0 ?_
          rotate_left
          · intro w' hSw
            have y0 := (hSw.cell (p := ⟨wr.heap.size, 0, none⟩) l3).trans y0
            have y1 := (hSw.cell (p := ⟨wr.heap.size, 1, none⟩) l3).trans y1
            have y2 := (hSw.cell (p := ⟨wr.heap.size, 2, none⟩) l3).trans y2
            have y3 := (hSw.cell (p := ⟨nb, gn, none⟩) l4).trans c4
            try simp only [List.getElem_toArray, List.getElem_cons_zero, List.getElem_cons_succ]
            go_simp
            exact rfl
          try simp only [Act.put, List.setIfInBounds_toArray, List.set_cons_zero, List.set_cons_succ, List.getElem_toArray, List.getElem_cons_zero, List.getElem_cons_succ]
          refine mix.D_take (i := 9) (v := ?_) rfl (by kernel_rfl) (by kernel_rfl) (fun _ _ _ h => h) (Or.inl ⟨by rfl, ?_⟩) hS0 ?_
          rotate_left
          · intro w' hSw
            have y0 := (hSw.cell (p := ⟨wr.heap.size, 0, none⟩) l3).trans y0
            have y1 := (hSw.cell (p := ⟨wr.heap.size, 1, none⟩) l3).trans y1
            have y2 := (hSw.cell (p := ⟨wr.heap.size, 2, none⟩) l3).trans y2
            have y3 := (hSw.cell (p := ⟨nb, gn, none⟩) l4).trans c4
            try simp only [List.getElem_toArray, List.getElem_cons_zero, List.getElem_cons_succ]
            go_simp
            exact rfl
          try simp only [Act.put, List.setIfInBounds_toArray, List.set_cons_zero, List.set_cons_succ, List.getElem_toArray, List.getElem_cons_zero, List.getElem_cons_succ]
          refine mix.D_take (i := 10) (v := ?_) rfl (by kernel_rfl) (by kernel_rfl) (fun _ _ _ h => h) (Or.inl ⟨by rfl, ?_⟩) hS0 ?_
          rotate_left
          · intro w' hSw
            have y0 := (hSw.cell (p := ⟨wr.heap.size, 0, none⟩) l3).trans y0
            have y1 := (hSw.cell (p := ⟨wr.heap.size, 1, none⟩) l3).trans y1
            have y2 := (hSw.cell (p := ⟨wr.heap.size, 2, none⟩) l3).trans y2
            have y3 := (hSw.cell (p := ⟨nb, gn, none⟩) l4).trans c4
            try simp only [List.getElem_toArray, List.getElem_cons_zero, List.getElem_cons_succ]
            go_simp
            exact rfl
          try simp only [Act.put, List.setIfInBounds_toArray, List.set_cons_zero, List.set_cons_succ, List.getElem_toArray, List.getElem_cons_zero, List.getElem_cons_succ]
          refine mix.D_take (i := 11) (v := ?_) rfl (by kernel_rfl) (by kernel_rfl) (fun _ _ _ h => h) (Or.inl ⟨by rfl, ?_⟩) hS0 ?_
          rotate_left
          · intro w' hSw
            have y0 := (hSw.cell (p := ⟨wr.heap.size, 0, none⟩) l3).trans y0
            have y1 := (hSw.cell (p := ⟨wr.heap.size, 1, none⟩) l3).trans y1
            have y2 := (hSw.cell (p := ⟨wr.heap.size, 2, none⟩) l3).trans y2
            have y3 := (hSw.cell (p := ⟨nb, gn, none⟩) l4).trans c4
            try simp only [List.getElem_toArray, List.getElem_cons_zero, List.getElem_cons_succ]
            go_simp
            exact rfl
          try simp only [Act.put, List.setIfInBounds_toArray, List.set_cons_zero, List.set_cons_succ, List.getElem_toArray, List.getElem_cons_zero, List.getElem_cons_succ]
          refine mix.D_take (i := 12) (v := ?_) rfl (by kernel_rfl) (by kernel_rfl) (fun _ _ _ h => h) (Or.inl ⟨by rfl, ?_⟩) hS0 ?_
          rotate_left
          · intro w' hSw
            have y0 := (hSw.cell (p := ⟨wr.heap.size, 0, none⟩) l3).trans y0
            have y1 := (hSw.cell (p := ⟨wr.heap.size, 1, none⟩) l3).trans y1
            have y2 := (hSw.cell (p := ⟨wr.heap.size, 2, none⟩) l3).trans y2
            have y3 := (hSw.cell (p := ⟨nb, gn, none⟩) l4).trans c4
            try simp only [List.getElem_toArray, List.getElem_cons_zero, List.getElem_cons_succ]
            go_simp
            exact rfl
          try simp only [Act.put, List.setIfInBounds_toArray, List.set_cons_zero, List.set_cons_succ, List.getElem_toArray, List.getElem_cons_zero, List.getElem_cons_succ]
          refine mix.D_take (i := 13) (v := ?_) rfl (by kernel_rfl) (by kernel_rfl) (fun _ _ _ h => h) (Or.inl ⟨by rfl, ?_⟩) hS0 ?_
          rotate_left
          · intro w' hSw
            have y0 := (hSw.cell (p := ⟨wr.heap.size, 0, none⟩) l3).trans y0
            have y1 := (hSw.cell (p := ⟨wr.heap.size, 1, none⟩) l3).trans y1
            have y2 := (hSw.cell (p := ⟨wr.heap.size, 2, none⟩) l3).trans y2
            have y3 := (hSw.cell (p := ⟨nb, gn, none⟩) l4).trans c4
            try simp only [List.getElem_toArray, List.getElem_cons_zero, List.getElem_cons_succ]
            go_simp
            exact rfl
          try simp only [Act.put, List.setIfInBounds_toArray, List.set_cons_zero, List.set_cons_succ, List.getElem_toArray, List.getElem_cons_zero, List.getElem_cons_succ]
          refine mix.D_take (i := 14) (v := ?_) rfl (by kernel_rfl) (by kernel_rfl) (fun _ _ _ h => h) (Or.inl ⟨by rfl, ?_⟩) hS0 ?_
          rotate_left
          · intro w' hSw
            have y0 := (hSw.cell (p := ⟨wr.heap.size, 0, none⟩) l3).trans y0
            have y1 := (hSw.cell (p := ⟨wr.heap.size, 1, none⟩) l3).trans y1
            have y2 := (hSw.cell (p := ⟨wr.heap.size, 2, none⟩) l3).trans y2
            have y3 := (hSw.cell (p := ⟨nb, gn, none⟩) l4).trans c4
            try simp only [List.getElem_toArray, List.getElem_cons_zero, List.getElem_cons_succ]
            go_simp
            exact rfl
          try simp only [Act.put, List.setIfInBounds_toArray, List.set_cons_zero, List.set_cons_succ, List.getElem_toArray, List.getElem_cons_zero, List.getElem_cons_succ]
          refine mix.D_op (k := 15) rfl rfl (by kernel_rfl) (fun K' hK => ?_)
          simp only [List.getElem_toArray, List.getElem_cons_zero, List.getElem_cons_succ]
          clear y0 y1 y2
          go_wp2_with fail
          refine hK.out _ _ (fun h => by simp at h) ?_
          clear hK K'
          refine mix.D_done (by kernel_rfl) ?_ _
          have kf := Blk.drew (k3.put gn (.string (s.extract 0 on ++ xb)))
          rw [HST.out, ← HPN2.out] at kf
          have Tf := (T3.other (keep_set W3 nb gn (.string (s.extract 0 on ++ xb))) nbS nbp nbv nbB).below (Below.refl _ _).drew
          generalize (W3.setCell ⟨nb, gn, none⟩ (.string (s.extract 0 on ++ xb))).drew = Wz at *
          clear T3 k3 hS0 kB3 f4 c4 hof
          go_wp2_with fail
          exact ⟨⟨k + 1, hlt, by go_num, powers.lay Tf, kf⟩, by first | (simp [RowKit.intOf]; done) | (simp [RowKit.intOf]; omega) | omega⟩
        · obtain rfl : k = m.past.length := by omega
          have kF := kX
          rw [List.take_length, ← HX.out.good.2.1] at kF
          clear kX hk hlt
          go_wp2_with fail
          go_loopw [18] (fun i wx => ∃ (q : Nat), q ≤ 1 + sgm ∧ i = .int .i64 (q : Int) ∧ wx = wr) (fun i _ => 1 + sgm - (RowKit.intOf i).toNat)
          case atStart => exact ⟨0, Nat.zero_le _, rfl, rfl⟩
          case round =>
            obtain ⟨q, hq, rfl, rfl⟩ := hrel
            by_cases hlt : q < 1 + sgm
            · have hqs : q < m.segs.length := by have := HX.out.good.len; omega
              have cU := used_nat HX.out.md q hqs
              have cR := read_all HX.out.md q hqs
              have e1 : IntKind.i64.wrap ((q : Int) + 1) = (q : Int) + 1 := IntWalk.i64_in _ (by omega)
              have hat : (cellsStr m.segs)[q]? = some (.string (m.at_ q)) := cellsStr_at m.segs hqs
              have cN := kF.cell q
              rw [hat] at cN
              have hle := HX.out.md.at_le q
              rw [HX.out.good.1] at hle
              have d1 : decide (1 + (szm : Int) < ((m.at_ q).size : Int)) = false := decide_eq_false (by omega)
              generalize m.at_ q = s at *
              clear hat hqs hle
              go_wp2_with fail
              refine cU.mono ?_
              rintro e wa ⟨rfl, rfl⟩
              go_wp2_with fail
              refine cR.mono ?_
              rintro e wa ⟨rfl, rfl⟩
              clear cU cR
              go_wp2_with fail
              exact ⟨⟨q + 1, hlt, by go_num, by first | trivial | rfl⟩, by first | (simp [RowKit.intOf]; done) | (simp [RowKit.intOf]; omega) | omega⟩
            · obtain rfl : q = 1 + sgm := by omega
              have hfin := HX.out.hb
              clear HX HT kF
              go_wp2_with fail
              go_ret
              exact ⟨rfl, hfin⟩
end Go.Proofs.Ytmbhfibldklecaa.mediums
