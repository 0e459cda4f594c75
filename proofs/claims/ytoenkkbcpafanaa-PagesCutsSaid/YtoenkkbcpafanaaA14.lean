/- A log over its medium, and Append. -/
import Derived.Test.YtoenkkbcpafanaaA13


namespace Go.Proofs.Ytoenkkbcpafanaa.segs
set_option linter.unusedVariables false
set_option linter.unusedSimpArgs false
open Go.RowKit Go.Proofs.Ytoenkkbcpafanaa.base Go.Proofs.Ytoenkkbcpafanaa.trees Go.Proofs.Ytoenkkbcpafanaa.powers Go.Proofs.Ytoenkkbcpafanaa.mediums Go.Lib

/-- a log over its medium and its power -/
structure Sg (B : Nat) (w0 w : World) (S : Nat → Prop) (p g lg ab c : Nat) (m : MS) (s : LS) (L W : Int) : Prop where
  md : Md w S p g m
  pw : Blk w p 219 (PC L W)
  inL : In L
  log : LgAt w g lg ab c s
  far : (¬ S lg ∧ lg ≠ p) ∧ (¬ S ab ∧ ab ≠ p)
  lo : ∀ k, S k ∨ k = p ∨ k = lg ∨ k = ab → B ≤ k
  hb : Below B w0 w
  le : B ≤ w0.heap.size
  len : s.ac.length = m.segs.length
/-- all blocks of a log's -/
def SB4 (S : Nat → Prop) (p lg ab : Nat) (k : Nat) : Prop := S k ∨ k = p ∨ k = lg ∨ k = ab
section
variable {B : Nat} {w0 w w' : World} {S S' : Nat → Prop} {p g lg ab c ab' c' : Nat} {m m' : MS} {s s' : LS} {L W L' W' : Int}
theorem Sg.below (h : Sg B w0 w S p g lg ab c m s L W) (hb : Below w.heap.size w w') : Sg B w0 w' S p g lg ab c m s L W :=
  ⟨h.md.below hb, h.pw.below hb h.pw.lt, h.inL, h.log.below hb, h.far, h.lo, h.hb.trans (hb.mono (Nat.le_trans h.le h.hb.size)), h.le, h.len⟩
theorem Sg.lt (h : Sg B w0 w S p g lg ab c m s L W) : ∀ k, SB4 S p lg ab k → k < w.heap.size := fun k hk => by
  rcases hk with hk | hk | hk | hk
  · exact h.md.lt k hk
  · rw [hk]; exact h.pw.lt
  · rw [hk]; exact h.log.lt.1
  · rw [hk]; exact h.log.lt.2
/-- what lies elsewhere is written -/
theorem Sg.keep {T : Nat → Prop} (h : Sg B w0 w S p g lg ab c m s L W) (hk : Keep T w w') (hT : ∀ k, SB4 S p lg ab k → ¬ T k) (hB : ∀ k, T k → B ≤ k) : Sg B w0 w' S p g lg ab c m s L W :=
  ⟨h.md.keep hk fun k hS => hT k (.inl hS), hk.blk h.pw (hT p (.inr (.inl rfl))), h.inL, h.log.keep hk (hT _ (.inr (.inr (.inl rfl)))) (hT _ (.inr (.inr (.inr rfl)))), h.far, h.lo, h.hb.trans (hk.below hB (Nat.le_trans h.le h.hb.size)), h.le, h.len⟩
theorem mW_len (m : MS) (L sg o : Int) (b : ByteArray) : (mW m L sg o b).segs.length = m.segs.length := by
  unfold mW
  split
  · rw [putM_len]
  · rfl
/-- a raw write of the medium's -/
theorem Sg.write (h : Sg B w0 w S p g lg ab c m s L W) {sg o : Int} {b : ByteArray} {e : Ending} (hw : WrPost S p g m L W sg o b w e w') :
    e = .returned (.int .i64 (wrE m L sg o b)) ∧ ∃ S', Sg B w0 w' S' p g lg ab c (mW m L sg o b) s (lW m L sg o b) (wW m L W sg o b) ∧ (∀ k, S' k → S k ∨ w.heap.size ≤ k) ∧ Keep (fun k => S k ∨ k = p) w w' := by
  obtain ⟨he, S', hs, hm, hp, hk⟩ := hw
  have hle := h.le
  have hsz := h.hb.size
  have e1 : PC (lW m L sg o b) (wW m L W sg o b) = if refE m sg o b = 0 then PC (spL L) (wSp L W) else PC L W := by unfold lW wW; split <;> rfl
  refine ⟨he, S', ⟨hm, by rw [e1]; exact hp, ?_, h.log.keep hk (fun hx => hx.elim h.far.1.1 h.far.1.2) (fun hx => hx.elim h.far.2.1 h.far.2.2), ⟨⟨fun hx => ?_, h.far.1.2⟩, fun hx => ?_, h.far.2.2⟩, fun k hx => ?_, h.hb.trans (hk.below (fun k hx => h.lo k (by rcases hx with hx | hx; exact .inl hx; exact .inr (.inl hx))) (by omega)), h.le, by rw [mW_len]; exact h.len⟩, hs, hk⟩
  · unfold lW; split
    · exact in_sp h.inL
    · exact h.inL
  · rcases hs _ hx with hx | hx
    · exact h.far.1.1 hx
    · have := h.log.lt.1; omega
  · rcases hs _ hx with hx | hx
    · exact h.far.2.1 hx
    · have := h.log.lt.2; omega
  · rcases hx with hx | hx
    · rcases hs _ hx with hx | hx
      · exact h.lo k (.inl hx)
      · omega
    · exact h.lo k (.inr hx)
/-- the log's own turning -/
theorem Sg.turn (h : Sg B w0 w S p g lg ab c m s L W) (hl : LgAt w' g lg ab' c' s') (hk : Keep (LB lg ab) w w') (hab : ab' = ab ∨ w.heap.size ≤ ab') (hlen : s'.ac.length = s.ac.length) : Sg B w0 w' S p g lg ab' c' m s' L W := by
  have hle := h.le
  have hsz := h.hb.size
  have n1 : ∀ k, S k → ¬ LB lg ab k := fun k hS hx => by
    rcases hx with hx | hx
    · exact h.far.1.1 (hx ▸ hS)
    · exact h.far.2.1 (hx ▸ hS)
  refine ⟨h.md.keep hk n1, hk.blk h.pw (fun hx => hx.elim (fun e => h.far.1.2 e.symm) (fun e => h.far.2.2 e.symm)), h.inL, hl, ⟨h.far.1, ?_⟩, fun k hx => ?_, h.hb.trans (hk.below (fun k hx => h.lo k (.inr (.inr hx))) (by omega)), h.le, hlen.trans h.len⟩
  · rcases hab with e | e
    · rw [e]; exact h.far.2
    · refine ⟨fun hx => ?_, fun hx => ?_⟩
      · have := h.md.lt _ hx; omega
      · have := h.pw.lt; omega
  · rcases hx with hx | hx | hx | hx
    · exact h.lo k (.inl hx)
    · exact h.lo k (.inr (.inl hx))
    · exact h.lo k (.inr (.inr (.inl hx)))
    · rcases hab with e | e
      · exact h.lo k (.inr (.inr (.inr (hx.trans e))))
      · omega

/-- what Append answers and makes -/
def apJ (m : MS) (s : LS) (b : ByteArray) : Nat := roomJ m.size s b.size
def apU (m : MS) (s : LS) (b : ByteArray) : Int := (at3 s.ac (apJ m s b)).b
def apE (m : MS) (s : LS) (L : Int) (b : ByteArray) : Int := if roomE m.size s b.size = 0 then wrE m L (apJ m s b) (apU m s b) b else roomE m.size s b.size
def rollU (s : LS) (j : Nat) (n : Nat) : LS := ⟨j, setB (rollP s j).ac j ((at3 s.ac j).b + (n : Int))⟩
def apS (m : MS) (s : LS) (L : Int) (b : ByteArray) : LS := if apE m s L b = 0 then rollU s (apJ m s b) b.size else s
def apM (m : MS) (s : LS) (L : Int) (b : ByteArray) : MS := if roomE m.size s b.size = 0 then mW m L (apJ m s b) (apU m s b) b else m
def apL (m : MS) (s : LS) (L : Int) (b : ByteArray) : Int := if roomE m.size s b.size = 0 then lW m L (apJ m s b) (apU m s b) b else L
def apW (m : MS) (s : LS) (L W : Int) (b : ByteArray) : Int := if roomE m.size s b.size = 0 then wW m L W (apJ m s b) (apU m s b) b else W
def apV (m : MS) (s : LS) (L : Int) (b : ByteArray) : T3 := if apE m s L b = 0 then ⟨(apJ m s b : Int), apU m s b, (b.size : Int)⟩ else zT
def ApPost (B : Nat) (w0 : World) (S : Nat → Prop) (p g lg ab c : Nat) (m : MS) (s : LS) (L W : Int) (b : ByteArray) (w : World) (e : Ending) (w' : World) : Prop :=
  e = .returned (.tuple #[(apV m s L b).v, .int .i64 (apE m s L b)]) ∧ ∃ S', Sg B w0 w' S' p g lg ab c (apM m s L b) (apS m s L b) (apL m s L b) (apW m s L W b) ∧ (∀ k, S' k → S k ∨ w.heap.size ≤ k) ∧ Keep (SB4 S p lg ab) w w'
theorem ap_yes {m : MS} {s : LS} {L W : Int} {b : ByteArray} (hE : roomE m.size s b.size = 0) (he : wrE m L (apJ m s b) (apU m s b) b = 0) :
    apE m s L b = 0 ∧ apV m s L b = ⟨(apJ m s b : Int), apU m s b, (b.size : Int)⟩ ∧ apM m s L b = mW m L (apJ m s b) (apU m s b) b ∧ apS m s L b = rollU s (apJ m s b) b.size ∧ apL m s L b = lW m L (apJ m s b) (apU m s b) b ∧ apW m s L W b = wW m L W (apJ m s b) (apU m s b) b := by
  have h0 : apE m s L b = 0 := by unfold apE; rw [if_pos hE, he]
  refine ⟨h0, ?_, ?_, ?_, ?_, ?_⟩
  · unfold apV; rw [if_pos h0]
  · unfold apM; rw [if_pos hE]
  · unfold apS; rw [if_pos h0]
  · unfold apL; rw [if_pos hE]
  · unfold apW; rw [if_pos hE]
theorem ap_bad {m : MS} {s : LS} {L W : Int} {b : ByteArray} (hE : roomE m.size s b.size = 0) (he : wrE m L (apJ m s b) (apU m s b) b ≠ 0) :
    apE m s L b = wrE m L (apJ m s b) (apU m s b) b ∧ apV m s L b = zT ∧ apM m s L b = mW m L (apJ m s b) (apU m s b) b ∧ apS m s L b = s ∧ apL m s L b = lW m L (apJ m s b) (apU m s b) b ∧ apW m s L W b = wW m L W (apJ m s b) (apU m s b) b := by
  have h0 : apE m s L b = wrE m L (apJ m s b) (apU m s b) b := by unfold apE; rw [if_pos hE]
  refine ⟨h0, ?_, ?_, ?_, ?_, ?_⟩
  · unfold apV; rw [h0, if_neg he]
  · unfold apM; rw [if_pos hE]
  · unfold apS; rw [h0, if_neg he]
  · unfold apL; rw [if_pos hE]
  · unfold apW; rw [if_pos hE]
theorem ap_no {m : MS} {s : LS} {L W : Int} {b : ByteArray} (hE : roomE m.size s b.size ≠ 0) :
    apE m s L b = roomE m.size s b.size ∧ apV m s L b = zT ∧ apM m s L b = m ∧ apS m s L b = s ∧ apL m s L b = L ∧ apW m s L W b = W := by
  have h0 : apE m s L b = roomE m.size s b.size := by unfold apE; rw [if_neg hE]
  refine ⟨h0, ?_, ?_, ?_, ?_, ?_⟩
  · unfold apV; rw [h0, if_neg hE]
  · unfold apM; rw [if_neg hE]
  · unfold apS; rw [h0, if_neg hE]
  · unfold apL; rw [if_neg hE]
  · unfold apW; rw [if_neg hE]
theorem rollU_at {s : LS} (h : OkL s) {j : Nat} (hj : j < s.ac.length) (n i : Nat) : at3 (rollU s j n).ac i = ⟨if j = i then 3 else if s.o = i then 2 else (at3 s.ac i).a, if j = i then (at3 s.ac i).b + (n : Int) else (at3 s.ac i).b, (at3 s.ac i).c⟩ := by
  have hl : (rollP s j).ac.length = s.ac.length := by unfold rollP; rw [setA_len, setA_len]
  unfold rollU
  rw [setB_at _ _ _ _ (by rw [hl]; exact hj), rollP_at h hj]
  by_cases h1 : j = i
  · subst h1; rw [if_pos rfl, if_pos rfl, if_pos rfl]
  · rw [if_neg h1, if_neg h1, if_neg h1]
theorem rollU_len (s : LS) (j n : Nat) : (rollU s j n).ac.length = s.ac.length := by unfold rollU rollP; rw [setB_len, setA_len, setA_len]
theorem rollU_ok {s : LS} (h : OkL s) {j : Nat} (hj : j < s.ac.length) {n : Nat} (hn : (at3 s.ac j).b + (n : Int) ≤ 1048576) : OkL (rollU s j n) := by
  refine ⟨by rw [rollU_len]; exact h.len, by rw [rollU_len]; exact hj, fun i hi => ?_, fun i hi => ?_, fun i hi => ?_, fun i hi => ?_⟩ <;> rw [rollU_len] at hi <;> rw [rollU_at h hj]
  · have hk := h.kind i hi
    show (_ ∨ _ ∨ _) ∧ (_ ↔ i = j)
    dsimp only
    by_cases h1 : j = i
    · rw [if_pos h1]; exact ⟨.inr (.inr rfl), fun _ => h1.symm, fun _ => rfl⟩
    · rw [if_neg h1]
      by_cases h2 : s.o = i
      · rw [if_pos h2]; exact ⟨.inr (.inl rfl), fun e => by omega, fun e => absurd e.symm h1⟩
      · rw [if_neg h2]; exact ⟨hk.1, fun e => absurd (hk.2.1 e).symm h2, fun e => absurd e.symm h1⟩
  · have hu := h.used i hi
    dsimp only
    by_cases h1 : j = i
    · rw [if_pos h1]; subst h1; omega
    · rw [if_neg h1]; exact hu
  · exact h.live i hi
  · intro e
    dsimp only at e ⊢
    by_cases h1 : j = i
    · rw [if_pos h1] at e; omega
    · rw [if_neg h1] at e ⊢
      split at e
      · omega
      · exact h.free i hi e

set_option maxRecDepth 100000 in
set_option maxHeartbeats 4000000 in
theorem append_no (T : Sg B w0 w S p g lg ab c m s L W) (b : ByteArray) (hbs : b.size ≤ 9223372036854775807) (hE : roomE m.size s b.size ≠ 0) :
    Calls Try.prog 87 #[.pointer (some ⟨lg, 0, none⟩), .string b] w fun e w' => e = .returned (.tuple #[.agg #[.int .i64 0, .int .i64 0, .int .i64 0], .int .i64 (roomE m.size s b.size)]) ∧ Below w.heap.size w w' := by
  have bA : Below w.heap.size w (w.alloc (.cells #[.int .i64 0, .int .i64 0, .int .i64 0] 189)) := (Below.refl _ _).alloc (Nat.le_refl _) _
  have kA := Blk.new w 189 #[.int .i64 0, .int .i64 0, .int .i64 0]
  have TA := T.below bA
  have hq : w.heap.size < (w.alloc (.cells #[.int .i64 0, .int .i64 0, .int .i64 0] 189)).heap.size := by simp
  have hfq : ∀ k, SB4 S p lg ab k → k ≠ w.heap.size := fun k hk e => by have := T.lt k hk; omega
  obtain ⟨q, hqd⟩ : ∃ q, w.heap.size = q := ⟨_, rfl⟩
  obtain ⟨W1, hW⟩ : ∃ W1, w.alloc (.cells #[.int .i64 0, .int .i64 0, .int .i64 0] 189) = W1 := ⟨_, rfl⟩
  rw [hW] at bA kA TA hq
  have HQ := powers.lay hqd
  rw [hqd] at kA hq bA hfq
  have cR := room_any TA.log TA.md b.size hbs
  replace cR := cR.mono (R' := fun e w' => Below W1.heap.size W1 w' ∧ e = .returned (.tuple #[.agg #[.int .i64 0, .int .i64 0, .int .i64 0], .int .i64 (roomE m.size s b.size)])) fun e w' ⟨h1, h2⟩ => ⟨h1, by
    rcases h2 with ⟨_, h2⟩ | ⟨h3, _⟩
    · exact h2
    · exact absurd h3 hE⟩
  generalize hEE : roomE m.size s b.size = E at *
  have HE := powers.lay hEE
  have dE1 : decide (E = 0) = false := decide_eq_false hE
  have dE2 : (E == 0) = false := by simp [hE]
  clear hEE T
  go_enter Try.func87, Try.ntmps87
  go_wp2_with fail
  refine cR.mono ?_
  rintro e W2 ⟨b2, rfl⟩
  clear cR
  have T2 := TA.below b2
  have kA2 := kA.below b2 kA.lt
  have bA2 : Below q w W2 := bA.trans (b2.mono (by omega))
  clear kA bA TA b2
  have b3 : Below W2.heap.size W2 (W2.alloc (.cells #[.int .i64 0, .int .i64 0, .int .i64 0] 189)) := (Below.refl _ _).alloc (Nat.le_refl _) _
  have kB := Blk.new W2 189 #[.int .i64 0, .int .i64 0, .int .i64 0]
  have T3' := T2.below b3
  have kA3 := kA2.below b3 kA2.lt
  have bA3 : Below q w (W2.alloc (.cells #[.int .i64 0, .int .i64 0, .int .i64 0] 189)) := bA2.trans (b3.mono (by have := bA2.size; have := HQ.out; omega))
  have hr := vers.lay kA2.lt
  obtain ⟨r, hrd⟩ : ∃ r, W2.heap.size = r := ⟨_, rfl⟩
  obtain ⟨W3, hW3⟩ : ∃ W3, W2.alloc (.cells #[.int .i64 0, .int .i64 0, .int .i64 0] 189) = W3 := ⟨_, rfl⟩
  have hfr : ∀ k, SB4 S p lg ab k → k ≠ r := fun k hk e => by have := T2.lt k hk; omega
  rw [hW3] at b3 kB T3' kA3 bA3
  rw [hrd] at kB b3
  have hqr : q < r := by have := hr.out; omega
  have hrB : B ≤ r := by have := T2.hb.size; have := T2.le; omega
  have hqn : q ≠ r := by omega
  have hrn : r ≠ q := by omega
  clear hr T2 kA2 b3
  have f0 := kB.frozen 0
  have f1 := kB.frozen 1
  have f2 := kB.frozen 2
  obtain ⟨g0, g1, g2⟩ := kB.c3
  have fq0 := kA3.frozen 0
  have fq1 := kA3.frozen 1
  have fq2 := kA3.frozen 2
  obtain ⟨gq0, gq1, gq2⟩ := kA3.c3
  have HBB := powers.lay kB
  have HAA := powers.lay kA3
  have HTT := powers.lay T3'
  have HBA := powers.lay bA3
  clear T3' kA3 bA3 bA2 kB
  go_wp2_with fail
  obtain ⟨kB4, bB4, kp4⟩ := three HBB.out HBA.out (by omega) (.int .i64 0) (.int .i64 0) (.int .i64 0)
  have kA4 := kp4.blk HAA.out hqn
  generalize (((W3.setCell ⟨r, 0, none⟩ (.int .i64 0)).setCell ⟨r, 1, none⟩ (.int .i64 0)).setCell ⟨r, 2, none⟩ (.int .i64 0)) = W4 at *
  obtain ⟨kA5, bA5, _⟩ := three kA4 bB4 (Nat.le_refl _) (.int .i64 0) (.int .i64 0) (.int .i64 0)
  generalize (((W4.setCell ⟨q, 0, none⟩ (.int .i64 0)).setCell ⟨q, 1, none⟩ (.int .i64 0)).setCell ⟨q, 2, none⟩ (.int .i64 0)) = W5 at *
  obtain ⟨z0, z1, z2⟩ := kA5.c3
  refine bodyPost_ret (v := .tuple #[.agg #[.int .i64 0, .int .i64 0, .int .i64 0], .int .i64 E]) (by simp [results, Try.results87, go_sem, z0, z1, z2]) rfl ⟨by first | rfl | (rw [HE.out]; done), below_q bA5 HQ.out⟩

set_option maxRecDepth 100000 in
set_option maxHeartbeats 4000000 in
theorem append_yes (T : Sg B w0 w S p g lg ab c m s L W) (b : ByteArray) (hbs : b.size ≤ 9223372036854775807) (hl : (m.past.length + 1) * 32 ≤ 140737488355328) (hE : roomE m.size s b.size = 0) (he : wrE m L (apJ m s b) (apU m s b) b = 0) :
    Calls Try.prog 87 #[.pointer (some ⟨lg, 0, none⟩), .string b] w (ApPost B w0 S p g lg ab c m s L W b w) := by
  have bA : Below w.heap.size w (w.alloc (.cells #[.int .i64 0, .int .i64 0, .int .i64 0] 189)) := (Below.refl _ _).alloc (Nat.le_refl _) _
  have kA := Blk.new w 189 #[.int .i64 0, .int .i64 0, .int .i64 0]
  have TA := T.below bA
  have hq : w.heap.size < (w.alloc (.cells #[.int .i64 0, .int .i64 0, .int .i64 0] 189)).heap.size := by simp
  have hfq : ∀ k, SB4 S p lg ab k → k ≠ w.heap.size := fun k hk e => by have := T.lt k hk; omega
  obtain ⟨q, hqd⟩ : ∃ q, w.heap.size = q := ⟨_, rfl⟩
  obtain ⟨W1, hW⟩ : ∃ W1, w.alloc (.cells #[.int .i64 0, .int .i64 0, .int .i64 0] 189) = W1 := ⟨_, rfl⟩
  rw [hW] at bA kA TA hq
  have HQ := powers.lay hqd
  rw [hqd] at kA hq bA hfq
  have cR := room_any TA.log TA.md b.size hbs
  replace cR := cR.mono (R' := fun e w' => Below W1.heap.size W1 w' ∧ e = .returned (.tuple #[placeV (apJ m s b) (apU m s b) b.size, .int .i64 0])) fun e w' ⟨h1, h2⟩ => ⟨h1, by
    rcases h2 with ⟨h3, _⟩ | ⟨_, h2⟩
    · exact absurd hE h3
    · exact h2⟩
  have HP := powers.lay (ap_yes (W := W) hE he)
  obtain ⟨n1, n2, hj, hfit, hwh⟩ := room_facts T.log.ok hE
  have hfit2 : apU m s b + (b.size : Int) ≤ 1048576 := by
    obtain ⟨sb, vs, vp, hM'⟩ := id T.md
    have := hM'.bnd.1.2
    have e : apU m s b = (at3 s.ac (roomJ m.size s b.size)).b := rfl
    omega
  have hu0 := T.log.ok.used _ hj
  change roomJ m.size s b.size < s.ac.length at hj
  generalize hJJ : apJ m s b = j at *
  have hj : j < s.ac.length := hJJ ▸ hj
  have hu : (0 ≤ apU m s b ∧ apU m s b ≤ 1048576) ∧ apU m s b = (at3 s.ac j).b := by
    unfold apU
    rw [hJJ]
    exact ⟨hJJ ▸ hu0, rfl⟩
  generalize hUU : apU m s b = u at *
  have HJ := powers.lay hJJ
  have HU := powers.lay hUU
  have HF := powers.lay hu.2
  have hu1 := hu.1
  have hn1 := n1
  clear hJJ hUU hu0 hfit hwh hu n1 n2
  unfold placeV at cR
  go_enter Try.func87, Try.ntmps87
  go_wp2_with fail
  refine cR.mono ?_
  rintro e W2 ⟨b2, rfl⟩
  clear cR
  have T2 := TA.below b2
  have kA2 := kA.below b2 kA.lt
  have bA2 : Below q w W2 := bA.trans (b2.mono (by omega))
  clear kA bA TA b2
  have b3 : Below W2.heap.size W2 (W2.alloc (.cells #[.int .i64 0, .int .i64 0, .int .i64 0] 189)) := (Below.refl _ _).alloc (Nat.le_refl _) _
  have kB := Blk.new W2 189 #[.int .i64 0, .int .i64 0, .int .i64 0]
  have T3' := T2.below b3
  have kA3 := kA2.below b3 kA2.lt
  have bA3 : Below q w (W2.alloc (.cells #[.int .i64 0, .int .i64 0, .int .i64 0] 189)) := bA2.trans (b3.mono (by have := bA2.size; have := HQ.out; omega))
  have hr := vers.lay kA2.lt
  obtain ⟨r, hrd⟩ : ∃ r, W2.heap.size = r := ⟨_, rfl⟩
  obtain ⟨W3, hW3⟩ : ∃ W3, W2.alloc (.cells #[.int .i64 0, .int .i64 0, .int .i64 0] 189) = W3 := ⟨_, rfl⟩
  have hfr : ∀ k, SB4 S p lg ab k → k ≠ r := fun k hk e => by have := T2.lt k hk; omega
  rw [hW3] at b3 kB T3' kA3 bA3
  rw [hrd] at kB b3
  have hqr : q < r := by have := hr.out; omega
  have hrB : B ≤ r := by have := T2.hb.size; have := T2.le; omega
  have hqn : q ≠ r := by omega
  have hrn : r ≠ q := by omega
  clear hr T2 kA2 b3
  have f0 := kB.frozen 0
  have f1 := kB.frozen 1
  have f2 := kB.frozen 2
  obtain ⟨g0, g1, g2⟩ := kB.c3
  have fq0 := kA3.frozen 0
  have fq1 := kA3.frozen 1
  have fq2 := kA3.frozen 2
  obtain ⟨gq0, gq1, gq2⟩ := kA3.c3
  have HBB := powers.lay kB
  have HAA := powers.lay kA3
  have HTT := powers.lay T3'
  have HBA := powers.lay bA3
  clear T3' kA3 bA3 bA2 kB
  go_upto_region 4 with (fail)
  obtain ⟨kB4, bB4, kp4⟩ := three HBB.out HBA.out (by omega) (.int .i64 (j : Int)) (.int .i64 u) (.int .i64 (b.size : Int))
  have kA4 := kp4.blk HAA.out hqn
  have T4 : Sg B w0 (((W3.setCell ⟨r, 0, none⟩ (.int .i64 (j : Int))).setCell ⟨r, 1, none⟩ (.int .i64 u)).setCell ⟨r, 2, none⟩ (.int .i64 (b.size : Int))) S p g lg ab c m s L W := HTT.out.keep kp4 (fun k hk hx => hfr k hk hx) (fun k hk => by rw [hk]; exact hrB)
  generalize (((W3.setCell ⟨r, 0, none⟩ (.int .i64 (j : Int))).setCell ⟨r, 1, none⟩ (.int .i64 u)).setCell ⟨r, 2, none⟩ (.int .i64 (b.size : Int))) = W4 at *
  have K4 : Keep (SB4 S p lg ab) w W4 := Keep.of_below (below_q bB4 HQ.out)
  obtain ⟨x0, x1, x2⟩ := T4.log.x
  obtain ⟨l1, l2⟩ := T4.log.lt
  obtain ⟨y0, y1, y2⟩ := kB4.c3
  have lr := kB4.lt
  have hS0 : Below W4.heap.size W4 W4.drew := (Below.refl _ _).drew
  refine mix.region_D (fun w' => Below W4.heap.size W4 w') (fun j => decide (9 ≤ j)) (by kernel_rfl) ?_
  generalize W4.drew = wd at hS0 ⊢
  refine mix.D_takeT (i := 0) (v := ?_) rfl (by kernel_rfl) (by kernel_rfl) (fun _ _ _ h => h) (Or.inl ⟨by first | rfl | simp [Region.wanted, yielded], ?_⟩) hS0 ?_
  rotate_left
  · intro w' hSw
    have z0 := (hSw.cell (p := ⟨lg, 0, none⟩) l1).trans x0
    have z1 := (hSw.cell (p := ⟨r, 0, none⟩) lr).trans y0
    have z2 := (hSw.cell (p := ⟨r, 1, none⟩) lr).trans y1
    try simp only [List.getElem_toArray, List.getElem_cons_zero, List.getElem_cons_succ]
    go_simp
    exact rfl
  try simp only [Act.put, List.setIfInBounds_toArray, List.set_cons_zero, List.set_cons_succ, List.getElem_toArray, List.getElem_cons_zero, List.getElem_cons_succ]
  refine mix.D_takeT (i := 1) (v := ?_) rfl (by kernel_rfl) (by kernel_rfl) (fun _ _ _ h => h) (Or.inl ⟨by first | rfl | simp [Region.wanted, yielded], ?_⟩) hS0 ?_
  rotate_left
  · intro w' hSw
    have z0 := (hSw.cell (p := ⟨lg, 0, none⟩) l1).trans x0
    have z1 := (hSw.cell (p := ⟨r, 0, none⟩) lr).trans y0
    have z2 := (hSw.cell (p := ⟨r, 1, none⟩) lr).trans y1
    try simp only [List.getElem_toArray, List.getElem_cons_zero, List.getElem_cons_succ]
    go_simp
    exact rfl
  try simp only [Act.put, List.setIfInBounds_toArray, List.set_cons_zero, List.set_cons_succ, List.getElem_toArray, List.getElem_cons_zero, List.getElem_cons_succ]
  refine mix.D_takeT (i := 2) (v := ?_) rfl (by kernel_rfl) (by kernel_rfl) (fun _ _ _ h => h) (Or.inl ⟨by first | rfl | simp [Region.wanted, yielded], ?_⟩) hS0 ?_
  rotate_left
  · intro w' hSw
    have z0 := (hSw.cell (p := ⟨lg, 0, none⟩) l1).trans x0
    have z1 := (hSw.cell (p := ⟨r, 0, none⟩) lr).trans y0
    have z2 := (hSw.cell (p := ⟨r, 1, none⟩) lr).trans y1
    try simp only [List.getElem_toArray, List.getElem_cons_zero, List.getElem_cons_succ]
    go_simp
    exact rfl
  try simp only [Act.put, List.setIfInBounds_toArray, List.set_cons_zero, List.set_cons_succ, List.getElem_toArray, List.getElem_cons_zero, List.getElem_cons_succ]
  refine mix.D_takeT (i := 3) (v := ?_) rfl (by kernel_rfl) (by kernel_rfl) (fun _ _ _ h => h) (Or.inl ⟨by first | rfl | simp [Region.wanted, yielded], ?_⟩) hS0 ?_
  rotate_left
  · intro w' hSw
    have z0 := (hSw.cell (p := ⟨lg, 0, none⟩) l1).trans x0
    have z1 := (hSw.cell (p := ⟨r, 0, none⟩) lr).trans y0
    have z2 := (hSw.cell (p := ⟨r, 1, none⟩) lr).trans y1
    try simp only [List.getElem_toArray, List.getElem_cons_zero, List.getElem_cons_succ]
    go_simp
    exact rfl
  try simp only [Act.put, List.setIfInBounds_toArray, List.set_cons_zero, List.set_cons_succ, List.getElem_toArray, List.getElem_cons_zero, List.getElem_cons_succ]
  refine mix.D_takeT (i := 4) (v := ?_) rfl (by kernel_rfl) (by kernel_rfl) (fun _ _ _ h => h) (Or.inl ⟨by first | rfl | simp [Region.wanted, yielded], ?_⟩) hS0 ?_
  rotate_left
  · intro w' hSw
    have z0 := (hSw.cell (p := ⟨lg, 0, none⟩) l1).trans x0
    have z1 := (hSw.cell (p := ⟨r, 0, none⟩) lr).trans y0
    have z2 := (hSw.cell (p := ⟨r, 1, none⟩) lr).trans y1
    try simp only [List.getElem_toArray, List.getElem_cons_zero, List.getElem_cons_succ]
    go_simp
    exact rfl
  try simp only [Act.put, List.setIfInBounds_toArray, List.set_cons_zero, List.set_cons_succ, List.getElem_toArray, List.getElem_cons_zero, List.getElem_cons_succ]
  refine mix.D_takeT (i := 5) (v := ?_) rfl (by kernel_rfl) (by kernel_rfl) (fun _ _ _ h => h) (Or.inl ⟨by first | rfl | simp [Region.wanted, yielded], ?_⟩) hS0 ?_
  rotate_left
  · intro w' hSw
    have z0 := (hSw.cell (p := ⟨lg, 0, none⟩) l1).trans x0
    have z1 := (hSw.cell (p := ⟨r, 0, none⟩) lr).trans y0
    have z2 := (hSw.cell (p := ⟨r, 1, none⟩) lr).trans y1
    try simp only [List.getElem_toArray, List.getElem_cons_zero, List.getElem_cons_succ]
    go_simp
    exact rfl
  try simp only [Act.put, List.setIfInBounds_toArray, List.set_cons_zero, List.set_cons_succ, List.getElem_toArray, List.getElem_cons_zero, List.getElem_cons_succ]
  refine mix.D_takeT (i := 6) (v := ?_) rfl (by kernel_rfl) (by kernel_rfl) (fun _ _ _ h => h) (Or.inl ⟨by first | rfl | simp [Region.wanted, yielded], ?_⟩) hS0 ?_
  rotate_left
  · intro w' hSw
    have z0 := (hSw.cell (p := ⟨lg, 0, none⟩) l1).trans x0
    have z1 := (hSw.cell (p := ⟨r, 0, none⟩) lr).trans y0
    have z2 := (hSw.cell (p := ⟨r, 1, none⟩) lr).trans y1
    try simp only [List.getElem_toArray, List.getElem_cons_zero, List.getElem_cons_succ]
    go_simp
    exact rfl
  try simp only [Act.put, List.setIfInBounds_toArray, List.set_cons_zero, List.set_cons_succ, List.getElem_toArray, List.getElem_cons_zero, List.getElem_cons_succ]
  refine mix.D_takeT (i := 7) (v := ?_) rfl (by kernel_rfl) (by kernel_rfl) (fun _ _ _ h => h) (Or.inl ⟨by first | rfl | simp [Region.wanted, yielded], ?_⟩) hS0 ?_
  rotate_left
  · intro w' hSw
    have z0 := (hSw.cell (p := ⟨lg, 0, none⟩) l1).trans x0
    have z1 := (hSw.cell (p := ⟨r, 0, none⟩) lr).trans y0
    have z2 := (hSw.cell (p := ⟨r, 1, none⟩) lr).trans y1
    try simp only [List.getElem_toArray, List.getElem_cons_zero, List.getElem_cons_succ]
    go_simp
    exact rfl
  try simp only [Act.put, List.setIfInBounds_toArray, List.set_cons_zero, List.set_cons_succ, List.getElem_toArray, List.getElem_cons_zero, List.getElem_cons_succ]
  refine mix.D_takeT (i := 8) (v := ?_) rfl (by kernel_rfl) (by kernel_rfl) (fun _ _ _ h => h) (Or.inl ⟨by first | rfl | simp [Region.wanted, yielded], ?_⟩) hS0 ?_
  rotate_left
  · intro w' hSw
    have z0 := (hSw.cell (p := ⟨lg, 0, none⟩) l1).trans x0
    have z1 := (hSw.cell (p := ⟨r, 0, none⟩) lr).trans y0
    have z2 := (hSw.cell (p := ⟨r, 1, none⟩) lr).trans y1
    try simp only [List.getElem_toArray, List.getElem_cons_zero, List.getElem_cons_succ]
    go_simp
    exact rfl
  try simp only [Act.put, List.setIfInBounds_toArray, List.set_cons_zero, List.set_cons_succ, List.getElem_toArray, List.getElem_cons_zero, List.getElem_cons_succ]
  refine mix.D_op (k := 9) rfl rfl (by kernel_rfl) (fun K' hK => ?_)
  simp only [List.getElem_toArray, List.getElem_cons_zero, List.getElem_cons_succ]
  have Td := T4.below hS0
  have cW := write_any Td.md Td.pw Td.inL (j : Int) u b hl
  go_wp2_with fail
  refine cW.mono ?_
  rintro e W5 hW5
  obtain ⟨rfl, S', T5, hS', k5⟩ := Td.write hW5
  rw [he]
  refine hK.out _ _ (fun h => by simp at h) ?_
  clear hK K'
  try simp only [Act.put, List.setIfInBounds_toArray, List.set_cons_zero, List.set_cons_succ]
  refine mix.D_op (k := 10) rfl rfl (by kernel_rfl) (fun K' hK => ?_)
  simp only [List.getElem_toArray, List.getElem_cons_zero, List.getElem_cons_succ]
  go_wp2_with fail
  refine hK.out _ _ (fun h => by simp at h) ?_
  clear hK K'
  try simp only [Act.put, List.setIfInBounds_toArray, List.set_cons_zero, List.set_cons_succ]
  refine mix.D_done (by kernel_rfl) ?_ _
  try simp only [Act.put, List.setIfInBounds_toArray, List.set_cons_zero, List.set_cons_succ, List.getElem_toArray, List.getElem_cons_zero, List.getElem_cons_succ]
  have hSr : ¬ (S r ∨ r = p) := fun hx => hx.elim (fun h => hfr r (.inl h) rfl) (fun h => hfr r (.inr (.inl h)) rfl)
  have hSq : ¬ (S q ∨ q = p) := fun hx => hx.elim (fun h => hfq q (.inl h) rfl) (fun h => hfq q (.inr (.inl h)) rfl)
  have kB5 := k5.blk (kB4.below hS0 lr) hSr
  have kA5 := k5.blk (kA4.below hS0 kA4.lt) hSq
  have K5 : Keep (SB4 S p lg ab) w W5 := (K4.seq hS0).trans k5 fun k hk _ => by
    rcases hk with h | h
    · exact .inl h
    · exact .inr (.inl h)
  have hS5 : ∀ k, S' k → S k ∨ w.heap.size ≤ k := fun k hk => by
    rcases hS' k hk with h | h
    · exact .inl h
    · have := K4.size; have := hS0.size; exact .inr (by omega)
  have hqS' : ¬ S' q := fun hx => by
    rcases hS' q hx with h | h
    · exact hSq (.inl h)
    · have := kA4.lt; have := hS0.size; omega
  clear cW hW5 Td T4 K4 hS' k5 kB4 kA4 hS0 x0 x1 x2 y0 y1 y2 l1 l2 lr
  obtain ⟨y0, y1, y2⟩ := kB5.c3
  have cL := roll_ok T5.log j (by exact hj)
  go_wp2_with fail
  refine cL.mono ?_
  rintro e W6 ⟨rfl, l6, k6⟩
  have hlP : (rollP s j).ac.length = s.ac.length := by unfold rollP; rw [setA_len, setA_len]
  have T6 := T5.turn l6 k6 (.inl rfl) hlP
  have hLr : ¬ LB lg ab r := fun hx => hx.elim (fun h => hfr r (.inr (.inr (.inl h))) rfl) (fun h => hfr r (.inr (.inr (.inr h))) rfl)
  have hLq : ¬ LB lg ab q := fun hx => hx.elim (fun h => hfq q (.inr (.inr (.inl h))) rfl) (fun h => hfq q (.inr (.inr (.inr h))) rfl)
  have kB6 := k6.blk kB5 hLr
  have kA6 := k6.blk kA5 hLq
  have K6 : Keep (SB4 S p lg ab) w W6 := K5.trans k6 fun k hk _ => .inr (.inr hk)
  clear cL T5 l6 k6 kB5 kA5 K5 y0 y1 y2
  obtain ⟨x0, x1, x2⟩ := T6.log.x
  obtain ⟨l1, l2⟩ := T6.log.lt
  have hj6 : j < (rollP s j).ac.length := by rw [hlP]; exact hj
  have v1 := (T6.log.cells hj6).2.1
  have hvu : (at3 (rollP s j).ac j).b = u := by rw [rollP_at HTT.out.log.ok hj, HF.out]
  rw [hvu] at v1
  have fv := T6.log.row.frozenAt (j * 3 + 1)
  obtain ⟨y0, y1, y2⟩ := kB6.c3
  have lr := kB6.lt
  have ncap := T6.log.cap
  have hS6 : Below W6.heap.size W6 W6.drew := (Below.refl _ _).drew
  have fv2 : W6.drew.frozen? ⟨ab, j * 3 + 1, none⟩ = false := fv
  have ew : IntKind.i64.wrap (u + (b.size : Int)) = u + (b.size : Int) := IntWalk.i64_in _ (by omega)
  rw [hlP] at x2 ncap
  go_upto_region 8 with (fail)
  refine mix.region_D (fun w' => Below W6.heap.size W6 w') (fun j => j == 14) (by kernel_rfl) ?_
  generalize W6.drew = wd at hS6 fv2 ⊢
  refine mix.D_takeT (i := 0) (v := ?_) rfl (by kernel_rfl) (by kernel_rfl) (fun _ _ _ h => h) (Or.inl ⟨by first | rfl | simp [Region.wanted, yielded], ?_⟩) hS6 ?_
  rotate_left
  · intro w' hSw
    have z0 := (hSw.cell (p := ⟨lg, 2, none⟩) l1).trans x2
    have z1 := (hSw.cell (p := ⟨r, 0, none⟩) lr).trans y0
    have z2 := (hSw.cell (p := ⟨r, 2, none⟩) lr).trans y2
    have z3 := (hSw.cell (p := ⟨ab, j * 3 + 1, none⟩) l2).trans v1
    try simp only [List.getElem_toArray, List.getElem_cons_zero, List.getElem_cons_succ]
    go_simp
    exact rfl
  try simp only [Act.put, List.setIfInBounds_toArray, List.set_cons_zero, List.set_cons_succ, List.getElem_toArray, List.getElem_cons_zero, List.getElem_cons_succ]
  refine mix.D_takeT (i := 1) (v := ?_) rfl (by kernel_rfl) (by kernel_rfl) (fun _ _ _ h => h) (Or.inl ⟨by first | rfl | simp [Region.wanted, yielded], ?_⟩) hS6 ?_
  rotate_left
  · intro w' hSw
    have z0 := (hSw.cell (p := ⟨lg, 2, none⟩) l1).trans x2
    have z1 := (hSw.cell (p := ⟨r, 0, none⟩) lr).trans y0
    have z2 := (hSw.cell (p := ⟨r, 2, none⟩) lr).trans y2
    have z3 := (hSw.cell (p := ⟨ab, j * 3 + 1, none⟩) l2).trans v1
    try simp only [List.getElem_toArray, List.getElem_cons_zero, List.getElem_cons_succ]
    go_simp
    exact rfl
  try simp only [Act.put, List.setIfInBounds_toArray, List.set_cons_zero, List.set_cons_succ, List.getElem_toArray, List.getElem_cons_zero, List.getElem_cons_succ]
  refine mix.D_takeT (i := 2) (v := ?_) rfl (by kernel_rfl) (by kernel_rfl) (fun _ _ _ h => h) (Or.inl ⟨by first | rfl | simp [Region.wanted, yielded], ?_⟩) hS6 ?_
  rotate_left
  · intro w' hSw
    have z0 := (hSw.cell (p := ⟨lg, 2, none⟩) l1).trans x2
    have z1 := (hSw.cell (p := ⟨r, 0, none⟩) lr).trans y0
    have z2 := (hSw.cell (p := ⟨r, 2, none⟩) lr).trans y2
    have z3 := (hSw.cell (p := ⟨ab, j * 3 + 1, none⟩) l2).trans v1
    try simp only [List.getElem_toArray, List.getElem_cons_zero, List.getElem_cons_succ]
    go_simp
    exact rfl
  try simp only [Act.put, List.setIfInBounds_toArray, List.set_cons_zero, List.set_cons_succ, List.getElem_toArray, List.getElem_cons_zero, List.getElem_cons_succ]
  refine mix.D_takeT (i := 3) (v := ?_) rfl (by kernel_rfl) (by kernel_rfl) (fun _ _ _ h => h) (Or.inl ⟨by first | rfl | simp [Region.wanted, yielded], ?_⟩) hS6 ?_
  rotate_left
  · intro w' hSw
    have z0 := (hSw.cell (p := ⟨lg, 2, none⟩) l1).trans x2
    have z1 := (hSw.cell (p := ⟨r, 0, none⟩) lr).trans y0
    have z2 := (hSw.cell (p := ⟨r, 2, none⟩) lr).trans y2
    have z3 := (hSw.cell (p := ⟨ab, j * 3 + 1, none⟩) l2).trans v1
    try simp only [List.getElem_toArray, List.getElem_cons_zero, List.getElem_cons_succ]
    go_simp
    exact rfl
  try simp only [Act.put, List.setIfInBounds_toArray, List.set_cons_zero, List.set_cons_succ, List.getElem_toArray, List.getElem_cons_zero, List.getElem_cons_succ]
  refine mix.D_takeT (i := 4) (v := ?_) rfl (by kernel_rfl) (by kernel_rfl) (fun _ _ _ h => h) (Or.inl ⟨by first | rfl | simp [Region.wanted, yielded], ?_⟩) hS6 ?_
  rotate_left
  · intro w' hSw
    have z0 := (hSw.cell (p := ⟨lg, 2, none⟩) l1).trans x2
    have z1 := (hSw.cell (p := ⟨r, 0, none⟩) lr).trans y0
    have z2 := (hSw.cell (p := ⟨r, 2, none⟩) lr).trans y2
    have z3 := (hSw.cell (p := ⟨ab, j * 3 + 1, none⟩) l2).trans v1
    try simp only [List.getElem_toArray, List.getElem_cons_zero, List.getElem_cons_succ]
    go_simp
    exact rfl
  try simp only [Act.put, List.setIfInBounds_toArray, List.set_cons_zero, List.set_cons_succ, List.getElem_toArray, List.getElem_cons_zero, List.getElem_cons_succ]
  refine mix.D_takeT (i := 5) (v := ?_) rfl (by kernel_rfl) (by kernel_rfl) (fun _ _ _ h => h) (Or.inl ⟨by first | rfl | simp [Region.wanted, yielded], ?_⟩) hS6 ?_
  rotate_left
  · intro w' hSw
    have z0 := (hSw.cell (p := ⟨lg, 2, none⟩) l1).trans x2
    have z1 := (hSw.cell (p := ⟨r, 0, none⟩) lr).trans y0
    have z2 := (hSw.cell (p := ⟨r, 2, none⟩) lr).trans y2
    have z3 := (hSw.cell (p := ⟨ab, j * 3 + 1, none⟩) l2).trans v1
    try simp only [List.getElem_toArray, List.getElem_cons_zero, List.getElem_cons_succ]
    go_simp
    exact rfl
  try simp only [Act.put, List.setIfInBounds_toArray, List.set_cons_zero, List.set_cons_succ, List.getElem_toArray, List.getElem_cons_zero, List.getElem_cons_succ]
  refine mix.D_takeT (i := 6) (v := ?_) rfl (by kernel_rfl) (by kernel_rfl) (fun _ _ _ h => h) (Or.inl ⟨by first | rfl | simp [Region.wanted, yielded], ?_⟩) hS6 ?_
  rotate_left
  · intro w' hSw
    have z0 := (hSw.cell (p := ⟨lg, 2, none⟩) l1).trans x2
    have z1 := (hSw.cell (p := ⟨r, 0, none⟩) lr).trans y0
    have z2 := (hSw.cell (p := ⟨r, 2, none⟩) lr).trans y2
    have z3 := (hSw.cell (p := ⟨ab, j * 3 + 1, none⟩) l2).trans v1
    try simp only [List.getElem_toArray, List.getElem_cons_zero, List.getElem_cons_succ]
    go_simp
    exact rfl
  try simp only [Act.put, List.setIfInBounds_toArray, List.set_cons_zero, List.set_cons_succ, List.getElem_toArray, List.getElem_cons_zero, List.getElem_cons_succ]
  refine mix.D_takeT (i := 7) (v := ?_) rfl (by kernel_rfl) (by kernel_rfl) (fun _ _ _ h => h) (Or.inl ⟨by first | rfl | simp [Region.wanted, yielded], ?_⟩) hS6 ?_
  rotate_left
  · intro w' hSw
    have z0 := (hSw.cell (p := ⟨lg, 2, none⟩) l1).trans x2
    have z1 := (hSw.cell (p := ⟨r, 0, none⟩) lr).trans y0
    have z2 := (hSw.cell (p := ⟨r, 2, none⟩) lr).trans y2
    have z3 := (hSw.cell (p := ⟨ab, j * 3 + 1, none⟩) l2).trans v1
    try simp only [List.getElem_toArray, List.getElem_cons_zero, List.getElem_cons_succ]
    go_simp
    exact rfl
  try simp only [Act.put, List.setIfInBounds_toArray, List.set_cons_zero, List.set_cons_succ, List.getElem_toArray, List.getElem_cons_zero, List.getElem_cons_succ]
  refine mix.D_takeT (i := 8) (v := ?_) rfl (by kernel_rfl) (by kernel_rfl) (fun _ _ _ h => h) (Or.inl ⟨by first | rfl | simp [Region.wanted, yielded], ?_⟩) hS6 ?_
  rotate_left
  · intro w' hSw
    have z0 := (hSw.cell (p := ⟨lg, 2, none⟩) l1).trans x2
    have z1 := (hSw.cell (p := ⟨r, 0, none⟩) lr).trans y0
    have z2 := (hSw.cell (p := ⟨r, 2, none⟩) lr).trans y2
    have z3 := (hSw.cell (p := ⟨ab, j * 3 + 1, none⟩) l2).trans v1
    try simp only [List.getElem_toArray, List.getElem_cons_zero, List.getElem_cons_succ]
    go_simp
    exact rfl
  try simp only [Act.put, List.setIfInBounds_toArray, List.set_cons_zero, List.set_cons_succ, List.getElem_toArray, List.getElem_cons_zero, List.getElem_cons_succ]
  refine mix.D_takeT (i := 9) (v := ?_) rfl (by kernel_rfl) (by kernel_rfl) (fun _ _ _ h => h) (Or.inl ⟨by first | rfl | simp [Region.wanted, yielded], ?_⟩) hS6 ?_
  rotate_left
  · intro w' hSw
    have z0 := (hSw.cell (p := ⟨lg, 2, none⟩) l1).trans x2
    have z1 := (hSw.cell (p := ⟨r, 0, none⟩) lr).trans y0
    have z2 := (hSw.cell (p := ⟨r, 2, none⟩) lr).trans y2
    have z3 := (hSw.cell (p := ⟨ab, j * 3 + 1, none⟩) l2).trans v1
    try simp only [List.getElem_toArray, List.getElem_cons_zero, List.getElem_cons_succ]
    go_simp
    exact rfl
  try simp only [Act.put, List.setIfInBounds_toArray, List.set_cons_zero, List.set_cons_succ, List.getElem_toArray, List.getElem_cons_zero, List.getElem_cons_succ]
  refine mix.D_takeT (i := 10) (v := ?_) rfl (by kernel_rfl) (by kernel_rfl) (fun _ _ _ h => h) (Or.inl ⟨by first | rfl | simp [Region.wanted, yielded], ?_⟩) hS6 ?_
  rotate_left
  · intro w' hSw
    have z0 := (hSw.cell (p := ⟨lg, 2, none⟩) l1).trans x2
    have z1 := (hSw.cell (p := ⟨r, 0, none⟩) lr).trans y0
    have z2 := (hSw.cell (p := ⟨r, 2, none⟩) lr).trans y2
    have z3 := (hSw.cell (p := ⟨ab, j * 3 + 1, none⟩) l2).trans v1
    try simp only [List.getElem_toArray, List.getElem_cons_zero, List.getElem_cons_succ]
    go_simp
    exact rfl
  try simp only [Act.put, List.setIfInBounds_toArray, List.set_cons_zero, List.set_cons_succ, List.getElem_toArray, List.getElem_cons_zero, List.getElem_cons_succ]
  refine mix.D_takeT (i := 11) (v := ?_) rfl (by kernel_rfl) (by kernel_rfl) (fun _ _ _ h => h) (Or.inl ⟨by first | rfl | simp [Region.wanted, yielded], ?_⟩) hS6 ?_
  rotate_left
  · intro w' hSw
    have z0 := (hSw.cell (p := ⟨lg, 2, none⟩) l1).trans x2
    have z1 := (hSw.cell (p := ⟨r, 0, none⟩) lr).trans y0
    have z2 := (hSw.cell (p := ⟨r, 2, none⟩) lr).trans y2
    have z3 := (hSw.cell (p := ⟨ab, j * 3 + 1, none⟩) l2).trans v1
    try simp only [List.getElem_toArray, List.getElem_cons_zero, List.getElem_cons_succ]
    go_simp
    exact rfl
  try simp only [Act.put, List.setIfInBounds_toArray, List.set_cons_zero, List.set_cons_succ, List.getElem_toArray, List.getElem_cons_zero, List.getElem_cons_succ]
  refine mix.D_takeT (i := 12) (v := ?_) rfl (by kernel_rfl) (by kernel_rfl) (fun _ _ _ h => h) (Or.inl ⟨by first | rfl | simp [Region.wanted, yielded], ?_⟩) hS6 ?_
  rotate_left
  · intro w' hSw
    have z0 := (hSw.cell (p := ⟨lg, 2, none⟩) l1).trans x2
    have z1 := (hSw.cell (p := ⟨r, 0, none⟩) lr).trans y0
    have z2 := (hSw.cell (p := ⟨r, 2, none⟩) lr).trans y2
    have z3 := (hSw.cell (p := ⟨ab, j * 3 + 1, none⟩) l2).trans v1
    try simp only [List.getElem_toArray, List.getElem_cons_zero, List.getElem_cons_succ]
    go_simp
    exact rfl
  try simp only [Act.put, List.setIfInBounds_toArray, List.set_cons_zero, List.set_cons_succ, List.getElem_toArray, List.getElem_cons_zero, List.getElem_cons_succ]
  refine mix.D_takeT (i := 13) (v := ?_) rfl (by kernel_rfl) (by kernel_rfl) (fun _ _ _ h => h) (Or.inl ⟨by first | rfl | simp [Region.wanted, yielded], ?_⟩) hS6 ?_
  rotate_left
  · intro w' hSw
    have z0 := (hSw.cell (p := ⟨lg, 2, none⟩) l1).trans x2
    have z1 := (hSw.cell (p := ⟨r, 0, none⟩) lr).trans y0
    have z2 := (hSw.cell (p := ⟨r, 2, none⟩) lr).trans y2
    have z3 := (hSw.cell (p := ⟨ab, j * 3 + 1, none⟩) l2).trans v1
    try simp only [List.getElem_toArray, List.getElem_cons_zero, List.getElem_cons_succ]
    go_simp
    exact rfl
  try simp only [Act.put, List.setIfInBounds_toArray, List.set_cons_zero, List.set_cons_succ, List.getElem_toArray, List.getElem_cons_zero, List.getElem_cons_succ]
  refine mix.D_op (k := 14) rfl rfl (by kernel_rfl) (fun K' hK => ?_)
  simp only [List.getElem_toArray, List.getElem_cons_zero, List.getElem_cons_succ]
  have v2 := (hS6.cell (p := ⟨ab, j * 3 + 1, none⟩) l2).trans v1
  go_wp2_with fail
  refine hK.out _ _ (fun h => by simp at h) ?_
  clear hK K'
  try simp only [Act.put, List.setIfInBounds_toArray, List.set_cons_zero, List.set_cons_succ]
  refine mix.D_done (by kernel_rfl) ?_ _
  try simp only [Act.put, List.setIfInBounds_toArray, List.set_cons_zero, List.set_cons_succ, List.getElem_toArray, List.getElem_cons_zero, List.getElem_cons_succ]
  obtain ⟨r7, k7⟩ := LgAt.store (s := rollP s j) (row_below T6.log.row hS6) (j * 3 + 1) (.int .i64 (u + (b.size : Int))) (ac' := (rollU s j b.size).ac) (by rw [HF.out]; exact cellsJ_set1 _ hj6 _) (by rw [rollU_len, hlP])
  have hne := T6.log.ne
  have hd7 := k7.blk (T6.log.head.below hS6 l1) (fun e => hne e.symm)
  have hrab : ¬ r = ab := fun e => hLr (.inr e)
  have hqab : ¬ q = ab := fun e => hLq (.inr e)
  have kB7 := k7.blk (kB6.below hS6 lr) hrab
  have kA7 := k7.blk (kA6.below hS6 kA6.lt) hqab
  have kk7 : Keep (LB lg ab) W6 (wd.setCell ⟨ab, j * 3 + 1, none⟩ (.int .i64 (u + (b.size : Int)))) := (Keep.of_below hS6).trans k7 fun k hk _ => .inr hk
  have l7 : LgAt (wd.setCell ⟨ab, j * 3 + 1, none⟩ (.int .i64 (u + (b.size : Int)))) g lg ab c (rollU s j b.size) := ⟨by rw [rollU_len]; rw [hlP] at hd7; exact hd7, r7, hne, rollU_ok HTT.out.log.ok hj (by rw [← HF.out]; exact hfit2)⟩
  have T7 := T6.turn l7 kk7 (.inl rfl) (by rw [rollU_len, hlP])
  have K7 : Keep (SB4 S p lg ab) w (wd.setCell ⟨ab, j * 3 + 1, none⟩ (.int .i64 (u + (b.size : Int)))) := K6.trans kk7 fun k hk _ => .inr (.inr hk)
  generalize wd.setCell ⟨ab, j * 3 + 1, none⟩ (.int .i64 (u + (b.size : Int))) = W7 at *
  clear T6 K6 kk7 k7 hd7 r7 l7 x0 x1 x2 y0 y1 y2 l1 l2 v1 fv hS6 fv2 v2 hvu kB6 kA6
  obtain ⟨y0, y1, y2⟩ := kB7.c3
  obtain ⟨t0, t1, t2⟩ := kA7.c3
  have ff0 := kA7.frozen 0
  have ff1 := kA7.frozen 1
  have ff2 := kA7.frozen 2
  go_wp2_with fail
  obtain ⟨kA8, _, kp8⟩ := three kA7 (Below.refl 0 _) (Nat.zero_le _) (.int .i64 (j : Int)) (.int .i64 u) (.int .i64 (b.size : Int))
  have hqB : B ≤ q := by have := T.hb.size; have := T.le; omega
  have T8 := T7.keep kp8 (fun k hk hx => by
    rcases hk with h | h | h | h
    · rcases hS5 k h with h1 | h1
      · exact hfq k (.inl h1) hx
      · rcases hS5 k h with h2 | h2
        · exact hfq k (.inl h2) hx
        · exact hqS' (hx ▸ h)
    · exact hfq k (.inr (.inl h)) hx
    · exact hfq k (.inr (.inr (.inl h))) hx
    · exact hfq k (.inr (.inr (.inr h))) hx) (fun k hk => by rw [hk]; exact hqB)
  have K8 := K7.trans kp8 (S1 := fun k => k = q) (fun k hk hlt => by omega)
  generalize (((W7.setCell ⟨q, 0, none⟩ (.int .i64 (j : Int))).setCell ⟨q, 1, none⟩ (.int .i64 u)).setCell ⟨q, 2, none⟩ (.int .i64 (b.size : Int))) = W8 at *
  obtain ⟨z0, z1, z2⟩ := kA8.c3
  obtain ⟨p1, p2, p3, p4, p5, p6⟩ := HP.out
  refine bodyPost_ret (v := .tuple #[.agg #[.int .i64 (j : Int), .int .i64 u, .int .i64 (b.size : Int)], .int .i64 0]) (by simp [results, Try.results87, go_sem, z0, z1, z2]) rfl ⟨by rw [p1, p2], S', ?_, hS5, K8⟩
  rw [p3, p4, p5, p6]
  exact T8

set_option maxRecDepth 100000 in
set_option maxHeartbeats 4000000 in
theorem append_bad (T : Sg B w0 w S p g lg ab c m s L W) (b : ByteArray) (hbs : b.size ≤ 9223372036854775807) (hl : (m.past.length + 1) * 32 ≤ 140737488355328) (hE : roomE m.size s b.size = 0) (he : wrE m L (apJ m s b) (apU m s b) b ≠ 0) :
    Calls Try.prog 87 #[.pointer (some ⟨lg, 0, none⟩), .string b] w (ApPost B w0 S p g lg ab c m s L W b w) := by
  have bA : Below w.heap.size w (w.alloc (.cells #[.int .i64 0, .int .i64 0, .int .i64 0] 189)) := (Below.refl _ _).alloc (Nat.le_refl _) _
  have kA := Blk.new w 189 #[.int .i64 0, .int .i64 0, .int .i64 0]
  have TA := T.below bA
  have hq : w.heap.size < (w.alloc (.cells #[.int .i64 0, .int .i64 0, .int .i64 0] 189)).heap.size := by simp
  have hfq : ∀ k, SB4 S p lg ab k → k ≠ w.heap.size := fun k hk e => by have := T.lt k hk; omega
  obtain ⟨q, hqd⟩ : ∃ q, w.heap.size = q := ⟨_, rfl⟩
  obtain ⟨W1, hW⟩ : ∃ W1, w.alloc (.cells #[.int .i64 0, .int .i64 0, .int .i64 0] 189) = W1 := ⟨_, rfl⟩
  rw [hW] at bA kA TA hq
  have HQ := powers.lay hqd
  rw [hqd] at kA hq bA hfq
  have cR := room_any TA.log TA.md b.size hbs
  replace cR := cR.mono (R' := fun e w' => Below W1.heap.size W1 w' ∧ e = .returned (.tuple #[placeV (apJ m s b) (apU m s b) b.size, .int .i64 0])) fun e w' ⟨h1, h2⟩ => ⟨h1, by
    rcases h2 with ⟨h3, _⟩ | ⟨_, h2⟩
    · exact absurd hE h3
    · exact h2⟩
  have HP := powers.lay (ap_bad (W := W) hE he)
  obtain ⟨n1, n2, hj, hfit, hwh⟩ := room_facts T.log.ok hE
  have hfit2 : apU m s b + (b.size : Int) ≤ 1048576 := by
    obtain ⟨sb, vs, vp, hM'⟩ := id T.md
    have := hM'.bnd.1.2
    have e : apU m s b = (at3 s.ac (roomJ m.size s b.size)).b := rfl
    omega
  have hu0 := T.log.ok.used _ hj
  change roomJ m.size s b.size < s.ac.length at hj
  generalize hJJ : apJ m s b = j at *
  have hj : j < s.ac.length := hJJ ▸ hj
  have hu : (0 ≤ apU m s b ∧ apU m s b ≤ 1048576) ∧ apU m s b = (at3 s.ac j).b := by
    unfold apU
    rw [hJJ]
    exact ⟨hJJ ▸ hu0, rfl⟩
  generalize hUU : apU m s b = u at *
  have HJ := powers.lay hJJ
  have HU := powers.lay hUU
  have HF := powers.lay hu.2
  have hu1 := hu.1
  have hn1 := n1
  clear hJJ hUU hu0 hfit hwh hu n1 n2
  unfold placeV at cR
  go_enter Try.func87, Try.ntmps87
  go_wp2_with fail
  refine cR.mono ?_
  rintro e W2 ⟨b2, rfl⟩
  clear cR
  have T2 := TA.below b2
  have kA2 := kA.below b2 kA.lt
  have bA2 : Below q w W2 := bA.trans (b2.mono (by omega))
  clear kA bA TA b2
  have b3 : Below W2.heap.size W2 (W2.alloc (.cells #[.int .i64 0, .int .i64 0, .int .i64 0] 189)) := (Below.refl _ _).alloc (Nat.le_refl _) _
  have kB := Blk.new W2 189 #[.int .i64 0, .int .i64 0, .int .i64 0]
  have T3' := T2.below b3
  have kA3 := kA2.below b3 kA2.lt
  have bA3 : Below q w (W2.alloc (.cells #[.int .i64 0, .int .i64 0, .int .i64 0] 189)) := bA2.trans (b3.mono (by have := bA2.size; have := HQ.out; omega))
  have hr := vers.lay kA2.lt
  obtain ⟨r, hrd⟩ : ∃ r, W2.heap.size = r := ⟨_, rfl⟩
  obtain ⟨W3, hW3⟩ : ∃ W3, W2.alloc (.cells #[.int .i64 0, .int .i64 0, .int .i64 0] 189) = W3 := ⟨_, rfl⟩
  have hfr : ∀ k, SB4 S p lg ab k → k ≠ r := fun k hk e => by have := T2.lt k hk; omega
  rw [hW3] at b3 kB T3' kA3 bA3
  rw [hrd] at kB b3
  have hqr : q < r := by have := hr.out; omega
  have hrB : B ≤ r := by have := T2.hb.size; have := T2.le; omega
  have hqn : q ≠ r := by omega
  have hrn : r ≠ q := by omega
  clear hr T2 kA2 b3
  have f0 := kB.frozen 0
  have f1 := kB.frozen 1
  have f2 := kB.frozen 2
  obtain ⟨g0, g1, g2⟩ := kB.c3
  have fq0 := kA3.frozen 0
  have fq1 := kA3.frozen 1
  have fq2 := kA3.frozen 2
  obtain ⟨gq0, gq1, gq2⟩ := kA3.c3
  have HBB := powers.lay kB
  have HAA := powers.lay kA3
  have HTT := powers.lay T3'
  have HBA := powers.lay bA3
  clear T3' kA3 bA3 bA2 kB
  go_upto_region 4 with (fail)
  obtain ⟨kB4, bB4, kp4⟩ := three HBB.out HBA.out (by omega) (.int .i64 (j : Int)) (.int .i64 u) (.int .i64 (b.size : Int))
  have kA4 := kp4.blk HAA.out hqn
  have T4 : Sg B w0 (((W3.setCell ⟨r, 0, none⟩ (.int .i64 (j : Int))).setCell ⟨r, 1, none⟩ (.int .i64 u)).setCell ⟨r, 2, none⟩ (.int .i64 (b.size : Int))) S p g lg ab c m s L W := HTT.out.keep kp4 (fun k hk hx => hfr k hk hx) (fun k hk => by rw [hk]; exact hrB)
  generalize (((W3.setCell ⟨r, 0, none⟩ (.int .i64 (j : Int))).setCell ⟨r, 1, none⟩ (.int .i64 u)).setCell ⟨r, 2, none⟩ (.int .i64 (b.size : Int))) = W4 at *
  have K4 : Keep (SB4 S p lg ab) w W4 := Keep.of_below (below_q bB4 HQ.out)
  obtain ⟨x0, x1, x2⟩ := T4.log.x
  obtain ⟨l1, l2⟩ := T4.log.lt
  obtain ⟨y0, y1, y2⟩ := kB4.c3
  have lr := kB4.lt
  have hS0 : Below W4.heap.size W4 W4.drew := (Below.refl _ _).drew
  refine mix.region_D (fun w' => Below W4.heap.size W4 w') (fun j => decide (9 ≤ j)) (by kernel_rfl) ?_
  generalize W4.drew = wd at hS0 ⊢
  refine mix.D_takeT (i := 0) (v := ?_) rfl (by kernel_rfl) (by kernel_rfl) (fun _ _ _ h => h) (Or.inl ⟨by first | rfl | simp [Region.wanted, yielded], ?_⟩) hS0 ?_
  rotate_left
  · intro w' hSw
    have z0 := (hSw.cell (p := ⟨lg, 0, none⟩) l1).trans x0
    have z1 := (hSw.cell (p := ⟨r, 0, none⟩) lr).trans y0
    have z2 := (hSw.cell (p := ⟨r, 1, none⟩) lr).trans y1
    try simp only [List.getElem_toArray, List.getElem_cons_zero, List.getElem_cons_succ]
    go_simp
    exact rfl
  try simp only [Act.put, List.setIfInBounds_toArray, List.set_cons_zero, List.set_cons_succ, List.getElem_toArray, List.getElem_cons_zero, List.getElem_cons_succ]
  refine mix.D_takeT (i := 1) (v := ?_) rfl (by kernel_rfl) (by kernel_rfl) (fun _ _ _ h => h) (Or.inl ⟨by first | rfl | simp [Region.wanted, yielded], ?_⟩) hS0 ?_
  rotate_left
  · intro w' hSw
    have z0 := (hSw.cell (p := ⟨lg, 0, none⟩) l1).trans x0
    have z1 := (hSw.cell (p := ⟨r, 0, none⟩) lr).trans y0
    have z2 := (hSw.cell (p := ⟨r, 1, none⟩) lr).trans y1
    try simp only [List.getElem_toArray, List.getElem_cons_zero, List.getElem_cons_succ]
    go_simp
    exact rfl
  try simp only [Act.put, List.setIfInBounds_toArray, List.set_cons_zero, List.set_cons_succ, List.getElem_toArray, List.getElem_cons_zero, List.getElem_cons_succ]
  refine mix.D_takeT (i := 2) (v := ?_) rfl (by kernel_rfl) (by kernel_rfl) (fun _ _ _ h => h) (Or.inl ⟨by first | rfl | simp [Region.wanted, yielded], ?_⟩) hS0 ?_
  rotate_left
  · intro w' hSw
    have z0 := (hSw.cell (p := ⟨lg, 0, none⟩) l1).trans x0
    have z1 := (hSw.cell (p := ⟨r, 0, none⟩) lr).trans y0
    have z2 := (hSw.cell (p := ⟨r, 1, none⟩) lr).trans y1
    try simp only [List.getElem_toArray, List.getElem_cons_zero, List.getElem_cons_succ]
    go_simp
    exact rfl
  try simp only [Act.put, List.setIfInBounds_toArray, List.set_cons_zero, List.set_cons_succ, List.getElem_toArray, List.getElem_cons_zero, List.getElem_cons_succ]
  refine mix.D_takeT (i := 3) (v := ?_) rfl (by kernel_rfl) (by kernel_rfl) (fun _ _ _ h => h) (Or.inl ⟨by first | rfl | simp [Region.wanted, yielded], ?_⟩) hS0 ?_
  rotate_left
  · intro w' hSw
    have z0 := (hSw.cell (p := ⟨lg, 0, none⟩) l1).trans x0
    have z1 := (hSw.cell (p := ⟨r, 0, none⟩) lr).trans y0
    have z2 := (hSw.cell (p := ⟨r, 1, none⟩) lr).trans y1
    try simp only [List.getElem_toArray, List.getElem_cons_zero, List.getElem_cons_succ]
    go_simp
    exact rfl
  try simp only [Act.put, List.setIfInBounds_toArray, List.set_cons_zero, List.set_cons_succ, List.getElem_toArray, List.getElem_cons_zero, List.getElem_cons_succ]
  refine mix.D_takeT (i := 4) (v := ?_) rfl (by kernel_rfl) (by kernel_rfl) (fun _ _ _ h => h) (Or.inl ⟨by first | rfl | simp [Region.wanted, yielded], ?_⟩) hS0 ?_
  rotate_left
  · intro w' hSw
    have z0 := (hSw.cell (p := ⟨lg, 0, none⟩) l1).trans x0
    have z1 := (hSw.cell (p := ⟨r, 0, none⟩) lr).trans y0
    have z2 := (hSw.cell (p := ⟨r, 1, none⟩) lr).trans y1
    try simp only [List.getElem_toArray, List.getElem_cons_zero, List.getElem_cons_succ]
    go_simp
    exact rfl
  try simp only [Act.put, List.setIfInBounds_toArray, List.set_cons_zero, List.set_cons_succ, List.getElem_toArray, List.getElem_cons_zero, List.getElem_cons_succ]
  refine mix.D_takeT (i := 5) (v := ?_) rfl (by kernel_rfl) (by kernel_rfl) (fun _ _ _ h => h) (Or.inl ⟨by first | rfl | simp [Region.wanted, yielded], ?_⟩) hS0 ?_
  rotate_left
  · intro w' hSw
    have z0 := (hSw.cell (p := ⟨lg, 0, none⟩) l1).trans x0
    have z1 := (hSw.cell (p := ⟨r, 0, none⟩) lr).trans y0
    have z2 := (hSw.cell (p := ⟨r, 1, none⟩) lr).trans y1
    try simp only [List.getElem_toArray, List.getElem_cons_zero, List.getElem_cons_succ]
    go_simp
    exact rfl
  try simp only [Act.put, List.setIfInBounds_toArray, List.set_cons_zero, List.set_cons_succ, List.getElem_toArray, List.getElem_cons_zero, List.getElem_cons_succ]
  refine mix.D_takeT (i := 6) (v := ?_) rfl (by kernel_rfl) (by kernel_rfl) (fun _ _ _ h => h) (Or.inl ⟨by first | rfl | simp [Region.wanted, yielded], ?_⟩) hS0 ?_
  rotate_left
  · intro w' hSw
    have z0 := (hSw.cell (p := ⟨lg, 0, none⟩) l1).trans x0
    have z1 := (hSw.cell (p := ⟨r, 0, none⟩) lr).trans y0
    have z2 := (hSw.cell (p := ⟨r, 1, none⟩) lr).trans y1
    try simp only [List.getElem_toArray, List.getElem_cons_zero, List.getElem_cons_succ]
    go_simp
    exact rfl
  try simp only [Act.put, List.setIfInBounds_toArray, List.set_cons_zero, List.set_cons_succ, List.getElem_toArray, List.getElem_cons_zero, List.getElem_cons_succ]
  refine mix.D_takeT (i := 7) (v := ?_) rfl (by kernel_rfl) (by kernel_rfl) (fun _ _ _ h => h) (Or.inl ⟨by first | rfl | simp [Region.wanted, yielded], ?_⟩) hS0 ?_
  rotate_left
  · intro w' hSw
    have z0 := (hSw.cell (p := ⟨lg, 0, none⟩) l1).trans x0
    have z1 := (hSw.cell (p := ⟨r, 0, none⟩) lr).trans y0
    have z2 := (hSw.cell (p := ⟨r, 1, none⟩) lr).trans y1
    try simp only [List.getElem_toArray, List.getElem_cons_zero, List.getElem_cons_succ]
    go_simp
    exact rfl
  try simp only [Act.put, List.setIfInBounds_toArray, List.set_cons_zero, List.set_cons_succ, List.getElem_toArray, List.getElem_cons_zero, List.getElem_cons_succ]
  refine mix.D_takeT (i := 8) (v := ?_) rfl (by kernel_rfl) (by kernel_rfl) (fun _ _ _ h => h) (Or.inl ⟨by first | rfl | simp [Region.wanted, yielded], ?_⟩) hS0 ?_
  rotate_left
  · intro w' hSw
    have z0 := (hSw.cell (p := ⟨lg, 0, none⟩) l1).trans x0
    have z1 := (hSw.cell (p := ⟨r, 0, none⟩) lr).trans y0
    have z2 := (hSw.cell (p := ⟨r, 1, none⟩) lr).trans y1
    try simp only [List.getElem_toArray, List.getElem_cons_zero, List.getElem_cons_succ]
    go_simp
    exact rfl
  try simp only [Act.put, List.setIfInBounds_toArray, List.set_cons_zero, List.set_cons_succ, List.getElem_toArray, List.getElem_cons_zero, List.getElem_cons_succ]
  refine mix.D_op (k := 9) rfl rfl (by kernel_rfl) (fun K' hK => ?_)
  simp only [List.getElem_toArray, List.getElem_cons_zero, List.getElem_cons_succ]
  have Td := T4.below hS0
  have cW := write_any Td.md Td.pw Td.inL (j : Int) u b hl
  go_wp2_with fail
  refine cW.mono ?_
  rintro e W5 hW5
  obtain ⟨rfl, S', T5, hS', k5⟩ := Td.write hW5
  generalize hRR : wrE m L (j : Int) u b = rr at *
  have HR := powers.lay hRR
  have dr : decide (rr = 0) = false := decide_eq_false he
  have dr2 : (rr == 0) = false := by simp [he]
  clear hRR
  refine hK.out _ _ (fun h => by simp at h) ?_
  clear hK K'
  try simp only [Act.put, List.setIfInBounds_toArray, List.set_cons_zero, List.set_cons_succ]
  refine mix.D_op (k := 10) rfl rfl (by kernel_rfl) (fun K' hK => ?_)
  simp only [List.getElem_toArray, List.getElem_cons_zero, List.getElem_cons_succ]
  go_wp2_with fail
  refine hK.out _ _ (fun h => by simp at h) ?_
  clear hK K'
  try simp only [Act.put, List.setIfInBounds_toArray, List.set_cons_zero, List.set_cons_succ]
  refine mix.D_done (by kernel_rfl) ?_ _
  try simp only [Act.put, List.setIfInBounds_toArray, List.set_cons_zero, List.set_cons_succ, List.getElem_toArray, List.getElem_cons_zero, List.getElem_cons_succ]
  have hSr : ¬ (S r ∨ r = p) := fun hx => hx.elim (fun h => hfr r (.inl h) rfl) (fun h => hfr r (.inr (.inl h)) rfl)
  have hSq : ¬ (S q ∨ q = p) := fun hx => hx.elim (fun h => hfq q (.inl h) rfl) (fun h => hfq q (.inr (.inl h)) rfl)
  have kB5 := k5.blk (kB4.below hS0 lr) hSr
  have kA5 := k5.blk (kA4.below hS0 kA4.lt) hSq
  have K5 : Keep (SB4 S p lg ab) w W5 := (K4.seq hS0).trans k5 fun k hk _ => by
    rcases hk with h | h
    · exact .inl h
    · exact .inr (.inl h)
  have hS5 : ∀ k, S' k → S k ∨ w.heap.size ≤ k := fun k hk => by
    rcases hS' k hk with h | h
    · exact .inl h
    · have := K4.size; have := hS0.size; exact .inr (by omega)
  have hqS' : ¬ S' q := fun hx => by
    rcases hS' q hx with h | h
    · exact hSq (.inl h)
    · have := kA4.lt; have := hS0.size; omega
  clear cW hW5 Td T4 K4 hS' k5 kB4 kA4 hS0 x0 x1 x2 y0 y1 y2 l1 l2 lr
  obtain ⟨t0, t1, t2⟩ := kA5.c3
  have ff0 := kA5.frozen 0
  have ff1 := kA5.frozen 1
  have ff2 := kA5.frozen 2
  go_wp2_with fail
  obtain ⟨kA8, _, kp8⟩ := three kA5 (Below.refl 0 _) (Nat.zero_le _) (.int .i64 0) (.int .i64 0) (.int .i64 0)
  have hqB : B ≤ q := by have := T.hb.size; have := T.le; omega
  have T8 := T5.keep kp8 (fun k hk hx => by
    rcases hk with h | h | h | h
    · exact hqS' (hx ▸ h)
    · exact hfq k (.inr (.inl h)) hx
    · exact hfq k (.inr (.inr (.inl h))) hx
    · exact hfq k (.inr (.inr (.inr h))) hx) (fun k hk => by rw [hk]; exact hqB)
  have K8 := K5.trans kp8 (S1 := fun k => k = q) (fun k hk hlt => by omega)
  generalize (((W5.setCell ⟨q, 0, none⟩ (.int .i64 0)).setCell ⟨q, 1, none⟩ (.int .i64 0)).setCell ⟨q, 2, none⟩ (.int .i64 0)) = W8 at *
  obtain ⟨z0, z1, z2⟩ := kA8.c3
  obtain ⟨p1, p2, p3, p4, p5, p6⟩ := HP.out
  refine bodyPost_ret (v := .tuple #[.agg #[.int .i64 0, .int .i64 0, .int .i64 0], .int .i64 rr]) (by simp [results, Try.results87, go_sem, z0, z1, z2]) rfl ⟨by rw [p1, p2], S', ?_, hS5, K8⟩
  rw [p3, p4, p5, p6]
  exact T8
/-- Append, as a whole -/
theorem append_any (T : Sg B w0 w S p g lg ab c m s L W) (b : ByteArray) (hbs : b.size ≤ 9223372036854775807) (hl : (m.past.length + 1) * 32 ≤ 140737488355328) :
    Calls Try.prog 87 #[.pointer (some ⟨lg, 0, none⟩), .string b] w (ApPost B w0 S p g lg ab c m s L W b w) := by
  by_cases hE : roomE m.size s b.size = 0
  · by_cases he : wrE m L (apJ m s b) (apU m s b) b = 0
    · exact append_yes T b hbs hl hE he
    · exact append_bad T b hbs hl hE he
  · refine (append_no T b hbs hE).mono ?_
    rintro e w' ⟨rfl, hb⟩
    obtain ⟨p1, p2, p3, p4, p5, p6⟩ := ap_no (L := L) (W := W) hE
    refine ⟨by rw [p1, p2], S, ?_, fun k hk => .inl hk, Keep.of_below hb⟩
    rw [p3, p4, p5, p6]
    exact T.below hb

end
end Go.Proofs.Ytoenkkbcpafanaa.segs
