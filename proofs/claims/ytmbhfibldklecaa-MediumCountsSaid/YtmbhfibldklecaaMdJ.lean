/- MediumCounts. -/
import Derived.Test.YtmbhfibldklecaaMdH
import Derived.Test.YtmbhfibldklecaaMdI
import Derived.Deep.Cut
import Derived.Deep.DeepCutAuto


namespace Go.Proofs.Ytmbhfibldklecaa.mediums
set_option linter.unusedVariables false
set_option linter.unusedSimpArgs false
open Go.RowKit Go.Shelf Go.Proofs.Ytmbhfibldklecaa.base Go.Proofs.Ytmbhfibldklecaa.trees Go.Proofs.Ytmbhfibldklecaa.powers Go.Lib
attribute [local go_sem] Oper.semAt_some

/-- what holds between two raw writes of the law -/
structure CS (w W : World) (rb pa ga db : Nat) (S : Nat → Prop) (m : MS) (dn : Int) (Ds : List Nat) : Prop where
  md : Md W S pa ga m
  pw : Blk W pa 139 (PC (-1) (m.past.length : Int))
  don : Boxed W db 3 (.int .i64 dn)
  res : Boxed W rb 4 (.bool false)
  marks : ∀ D ∈ Ds, W.heap[D]? = some (.deferred (some []))
  nodup : Ds.Nodup
  lo : (∀ k, S k → rb < k) ∧ rb < pa ∧ rb < db ∧ ∀ D ∈ Ds, rb < D
  ap : ¬ S db ∧ pa ≠ db ∧ ∀ D ∈ Ds, ¬ S D
  hb : Below rb w W
  le : rb ≤ w.heap.size
section
variable {w W W' : World} {rb pa ga db : Nat} {S : Nat → Prop} {m : MS} {dn : Int} {Ds : List Nat}
theorem CS.below (h : CS w W rb pa ga db S m dn Ds) (hb : Below W.heap.size W W') : CS w W' rb pa ga db S m dn Ds :=
  ⟨h.md.below hb, h.pw.below hb h.pw.lt, (hb.block _ h.don.lt).trans h.don, (hb.block _ h.res.lt).trans h.res, fun D hD => (hb.block D (Array.getElem?_eq_some_iff.1 (h.marks D hD)).1).trans (h.marks D hD), h.nodup, h.lo, h.ap, h.hb.trans (hb.mono (Nat.le_trans h.le h.hb.size)), h.le⟩
theorem CS.mark (h : CS w W rb pa ga db S m dn Ds) {D : Nat} (hD : W.heap[D]? = some (.deferred (some []))) (hr : rb < D) (hn : D ∉ Ds) (hs : ¬ S D) : CS w W rb pa ga db S m dn (D :: Ds) :=
  ⟨h.md, h.pw, h.don, h.res, fun E hE => (List.mem_cons.1 hE).elim (fun e => e ▸ hD) (h.marks E), List.nodup_cons.2 ⟨hn, h.nodup⟩, ⟨h.lo.1, h.lo.2.1, h.lo.2.2.1, fun E hE => (List.mem_cons.1 hE).elim (fun e => e ▸ hr) (h.lo.2.2.2 E)⟩, ⟨h.ap.1, h.ap.2.1, fun E hE => (List.mem_cons.1 hE).elim (fun e => e ▸ hs) (h.ap.2.2 E)⟩, h.hb, h.le⟩
theorem CS.count (h : CS w W rb pa ga db S m dn Ds) (d' : Int) : CS w (W.setCell ⟨db, 0, none⟩ (.int .i64 d')) rb pa ga db S m d' Ds := by
  have hf : ∀ k, k ≠ db → (W.setCell ⟨db, 0, none⟩ (.int .i64 d')).heap[k]? = W.heap[k]? := fun k hk => Below.heap_setCell _ _ _ _ (by simpa using hk)
  refine ⟨h.md.agree (fun k hk => hf k (fun e => h.ap.1 (e ▸ hk))) (by simp), (hf pa h.ap.2.1).trans h.pw, h.don.set _, (hf rb (by have := h.lo.2.2.1; omega)).trans h.res, fun D hD => (hf D (fun e => ?_)).trans (h.marks D hD), h.nodup, h.lo, h.ap, h.hb.setCell (p := ⟨db, 0, none⟩) (by have := h.lo.2.2.1; simp; omega) _, h.le⟩
  have h1 := h.marks D hD
  rw [e, show W.heap[db]? = _ from h.don] at h1
  cases h1
theorem CS.wrote (h : CS w W rb pa ga db S m dn Ds) {T : Nat → Prop} {S' : Nat → Prop} {m' : MS} (hs : ∀ k, S' k → S k ∨ W.heap.size ≤ k) (hm : Md W' S' pa ga m') (hp : Blk W' pa 139 (PC (-1) (m'.past.length : Int))) (hk : Keep (fun k => S k ∨ k = pa) W W') : CS w W' rb pa ga db S' m' dn Ds := by
  have hl := h.le
  have hz := h.hb.size
  have hpl := h.pw.lt
  have hdl := h.don.lt
  have h1 := h.lo.2.1
  have hDl : ∀ D ∈ Ds, D < W.heap.size := fun D hD => (Array.getElem?_eq_some_iff.1 (h.marks D hD)).1
  refine ⟨hm, hp, (hk.block _ hdl (fun x => x.elim h.ap.1 (fun e => h.ap.2.1 e.symm))).trans h.don, (hk.block _ h.res.lt (fun x => x.elim (fun y => by have := h.lo.1 rb y; omega) (fun e => by omega))).trans h.res, fun D hD => (hk.block D (hDl D hD) (fun x => x.elim (h.ap.2.2 D hD) (fun e => ?_))).trans (h.marks D hD), h.nodup, ⟨fun k x => ?_, h1, h.lo.2.2.1, h.lo.2.2.2⟩, ⟨fun x => ?_, h.ap.2.1, fun D hD x => ?_⟩, h.hb.trans (hk.below (fun k x => ?_) (by omega)), hl⟩
  · have h2 := h.marks D hD
    rw [e, show W.heap[pa]? = _ from h.pw] at h2
    cases h2
  · rcases hs k x with y | y
    · exact h.lo.1 k y
    · omega
  · rcases hs db x with y | y
    · exact h.ap.1 y
    · omega
  · rcases hs D x with y | y
    · exact h.ap.2.2 D hD y
    · have := hDl D hD; omega
  · rcases x with y | y
    · have := h.lo.1 k y; omega
    · omega
theorem CS.refused (h : CS w W rb pa ga db S m dn Ds) {sg o : Int} {b : ByteArray} {e : Ending} (hw : WrPost S pa ga m (-1) (m.past.length : Int) sg o b W e W') (hr : refE m sg o b ≠ 0) : ∃ S', CS w W' rb pa ga db S' m dn Ds := by
  obtain ⟨he, S', hs, hm, hp, hk⟩ := hw
  rw [if_neg (fun x => hr x.1)] at hm
  rw [if_neg hr] at hp
  exact ⟨S', h.wrote (T := S) hs hm hp hk⟩
theorem CS.done (h : CS w W rb pa ga db S m dn Ds) {sg o : Int} {b : ByteArray} {e : Ending} (hw : WrPost S pa ga m (-1) (m.past.length : Int) sg o b W e W') (hr : refE m sg o b = 0) (h60 : m.past.length ≤ 60) : ∃ S', CS w W' rb pa ga db S' (putM m sg.toNat o.toNat b) dn Ds := by
  obtain ⟨he, S', hs, hm, hp, hk⟩ := hw
  rw [if_pos ⟨hr, by decide⟩] at hm
  rw [if_pos hr, show spL (-1) = -1 by decide, show wSp (-1) (m.past.length : Int) = ((m.past.length + 1 : Nat) : Int) by unfold wSp nx wrap64; rw [if_neg (by decide)]; omega, ← putM_past m sg.toNat o.toNat b] at hp
  exact ⟨S', h.wrote (T := S) hs hm hp hk⟩
end
theorem CS.keepNew {w W W' : World} {rb pa ga db : Nat} {S : Nat → Prop} {m : MS} {dn : Int} {Ds : List Nat} (h : CS w W rb pa ga db S m dn Ds) {nb : Nat} (hk : Keep (fun k => k = nb) W W') (hn : W.heap.size ≤ nb) : CS w W' rb pa ga db S m dn Ds :=
  h.below ⟨hk.os, hk.tape, hk.output, hk.size, fun k hlt => hk.block k hlt (fun e => by omega)⟩
theorem ownFrom_keep {β : Type} {B : Nat} {S : Nat → Prop} {w0 : World} (hB : w0.heap.size ≤ B) : OwnFrom B (fun (_ : β) W => Keep S w0 W) := fun s X Y row hs hg hr =>
  ⟨hg.os.trans hs.os, hg.tape.trans hs.tape, hg.output.trans hs.output, Nat.le_trans hs.size hg.size, fun k hk hn => (hg.block k (Nat.lt_of_lt_of_le hk hs.size) (fun e => by have := (hr k e.symm).1; omega)).trans (hs.block k hk hn)⟩
theorem call_same {P : Program} {f : FuncId} {args : Array Value} {v : Value} {N : World → World} {n : World}
    (hc : Calls P f args (N n) fun e w' => e = .returned v ∧ w' = N n) : Calls P f args (N n) fun e w'' => e = .returned v ∧ ∃ m, w'' = N m :=
  hc.mono fun _ _ ⟨he, hb⟩ => ⟨he, n, hb⟩
theorem call_new {P : Program} {f : FuncId} {args : Array Value} {v : Value} {w : World} {N : World → World} {n : World} (h1 : ∀ n, Below w.heap.size w (N n)) (h2 : ∀ w', Below w.heap.size w w' → ∃ n, w' = N n)
    (hc : Calls P f args (N n) fun e w' => e = .returned v ∧ Below (N n).heap.size (N n) w') : Calls P f args (N n) fun e w'' => e = .returned v ∧ ∃ m, w'' = N m :=
  hc.mono fun _ _ ⟨he, hb⟩ => ⟨he, h2 _ ((h1 n).trans (hb.mono (h1 n).size))⟩
theorem used_put {m : MS} {g o : Int} {b : ByteArray} (h : refE m g o b = 0) : usedI (putM m g.toNat o.toNat b) g = o + (b.size : Int) := by
  obtain ⟨h1, h2, h3⟩ := ref_zero h
  unfold usedI
  rw [putM_len, if_pos h1]
  have e1 : (putM m g.toNat o.toNat b).at_ g.toNat = (m.at_ g.toNat).extract 0 o.toNat ++ b := by
    simp only [putM, MS.at_]
    rw [List.getElem?_set_self (by omega)]
    rfl
  rw [e1, size_app, size_take _ _ (by omega)]
  omega
/-- all marks are taken up, one behind the other -/
theorem leaves_all {P : Program} {F : Fence} {n : Nat} {fn : Func} {tmps : Array Value} {R : Ending → World → Prop} : ∀ (Ds : List Nat) (W : World), (∀ D ∈ Ds, W.heap[D]? = some (.deferred (some []))) → Ds.Nodup →
    (∀ W', W.heap.size ≤ W'.heap.size → (∀ k, (∀ D ∈ Ds, k ≠ D) → W'.heap[k]? = W.heap[k]?) → W'.os = W.os → W'.tape = W.tape → W'.output = W.output → LeavesInM F n P fn tmps R [] .returning W') →
    LeavesInM F n P fn tmps R (Ds.map fun D => { target := .collected D, args := #[] }) .returning W
  | [], W, _, _, h => h W (Nat.le_refl _) (fun _ _ => rfl) rfl rfl rfl
  | D :: Ds, W, hm, hn, h => by
    have hD := hm D List.mem_cons_self
    have hn' := List.nodup_cons.1 hn
    refine ⟨by simp, .inl ⟨_, _, rfl, run_takeDeferred hD, ?_⟩⟩
    have hg := grownBy_putObj' W D (.deferred none)
    have hlt : D < W.heap.size := (Array.getElem?_eq_some_iff.1 hD).1
    have hb : ∀ k, k ≠ D → (W.putObj D (.deferred none)).heap[k]? = W.heap[k]? := fun k hk => by
      rcases Nat.lt_or_ge k W.heap.size with h1 | h1
      · exact hg.block k h1 (fun e => hk (by injection e))
      · rw [Array.getElem?_eq_none h1, Array.getElem?_eq_none (by simp [World.putObj]; omega)]
    refine leaves_all Ds _ (fun E hE => (hb E (fun e => hn'.1 (e ▸ hE))).trans (hm E (List.mem_cons_of_mem _ hE))) hn'.2 (fun W' h1 h2 h3 h4 h5 => h W' (Nat.le_trans hg.size h1) (fun k hk => (h2 k (fun E hE => hk E (List.mem_cons_of_mem _ hE))).trans (hb k (hk D List.mem_cons_self))) (h3.trans hg.os) (h4.trans hg.tape) (h5.trans hg.output))

/-- what came at the last place is not what was written last -/
def BadR (pl : Nat) (rr : Int) (x : RW) (pre : List RW) : Prop := ∃ (ini : List RW) (last : RW), pre = ini ++ [last] ∧ ini.length + 1 = pl ∧ rr = 0 ∧ last ≠ x
theorem BadR.no {ks : List RW} {rr : Int} {x : RW} {k : Nat} (hk : k < ks.length) (hl : rr = 0 → ks.getLast? = some x) (h : BadR ks.length rr x (ks.take (k + 1))) : False := by
  obtain ⟨ini, last, e1, e2, e3, e4⟩ := h
  rw [← take_snoc hk] at e1
  obtain ⟨rfl, e5⟩ := List.append_inj' e1 rfl
  simp only [List.cons.injEq, and_true] at e5
  subst e5
  rw [List.length_take, Nat.min_eq_left (by omega)] at e2
  have h1 := hl e3
  rw [List.getLast?_eq_getElem?, show ks.length - 1 = k by omega, List.getElem?_eq_getElem hk] at h1
  injection h1 with h1
  exact e4 h1

set_option maxRecDepth 100000 in
set_option maxHeartbeats 4000000 in
theorem counts_in (a0 b0 : Int) (l : List MR) (A : Option Addr) (c : Nat) (w : World) (hX : Qs w w.heap.size l A c) :
    CallsIn Fence.wide 12 Try.prog 10 #[.int .i64 a0, .int .i64 b0, .slice A l.length c] w fun e w' => e = .returned (.bool true) ∧ Below w.heap.size w w' := by
  have hlen : l.length * 32 ≤ 140737488355328 := hX.2.1
  refine callsIn_of_wp_marks Try.func10 rfl trivial ?_ rfl
  simp only [Try.ntmps10, List.size_toArray, List.length_cons, List.length_nil, Nat.reduceAdd, Nat.reduceSub, Array.replicate_succ, Array.replicate_zero, List.push_toArray, List.append_toArray, List.nil_append, List.cons_append]
  refine wpIn_wide.2 ?_
  go_upto_region 1 with (fail)
  have bR := Boxed.new w 4 (.bool false)
  have bZ : Below w.heap.size w (w.alloc (.cells #[.bool false] 4)) := (Below.refl _ _).alloc (Nat.le_refl _) _
  have hz : (w.alloc (.cells #[.bool false] 4)).heap.size = w.heap.size + 1 := by simp
  obtain ⟨rb, hrb⟩ : ∃ rb, w.heap.size = rb := ⟨_, rfl⟩
  generalize w.alloc (.cells #[.bool false] 4) = W1 at *
  rw [hrb] at bR bZ hz hX
  rw [hrb]
  have HRB := powers.lay hrb
  have HZ := powers.lay hz
  clear hrb hz
  go_upto_region 1 with (fail)
  go_cut [21] from 16 to 20 (fun x wx => ∃ bb : Bool, x = .bool bb ∧ Hid (bb = false → 1 ≤ a0 ∧ a0 ≤ 20) ∧ W1 = wx)
  case first =>
    by_cases h1 : a0 < 1
    · have d1 : decide (a0 < 1) = true := decide_eq_true h1
      clear h1
      go_wp2_with fail
      go_meet
      exact ⟨true, rfl, powers.lay (fun h => by cases h), rfl⟩
    · have d1 : decide (a0 < 1) = false := decide_eq_false h1
      by_cases h2 : 20 < a0
      · have d2 : decide (20 < a0) = true := decide_eq_true h2
        clear h1 h2
        go_wp2_with fail
        go_meet
        exact ⟨true, rfl, powers.lay (fun h => by cases h), rfl⟩
      · have d2 : decide (20 < a0) = false := decide_eq_false h2
        have HB := powers.lay (And.intro h1 h2)
        clear h1 h2
        go_wp2_with fail
        go_meet
        exact ⟨false, rfl, powers.lay (fun _ => by have := HB.out; omega), rfl⟩
  case rest =>
  obtain ⟨bb, rfl, HB, rfl⟩ := hcut
  go_upto_if 21 with (fail)
  go_cut [0] from 16 to 21 (fun x wx => ∃ m : Nat, Hid (1 ≤ m ∧ m ≤ 20) ∧ x = .int .i64 (m : Int) ∧ W1 = wx)
  case first =>
    cases bb with
    | true =>
      go_wp2_with fail
      go_meet
      exact ⟨3, powers.lay (by omega), rfl, rfl⟩
    | false =>
      obtain ⟨m, rfl⟩ := Int.eq_ofNat_of_zero_le (show 0 ≤ a0 by have := HB.out rfl; omega)
      go_wp2_with fail
      go_meet
      exact ⟨m, powers.lay (by have := HB.out (by trivial); omega), rfl, rfl⟩
  case rest =>
  clear HB
  obtain ⟨sg, hsg, rfl, rfl⟩ := hcut
  go_upto_region 3 with (fail)
  go_cut [27] from 22 to 26 (fun x wx => ∃ bb : Bool, x = .bool bb ∧ Hid (bb = false → 1 ≤ b0 ∧ b0 ≤ 100) ∧ W1 = wx)
  case first =>
    by_cases h1 : b0 < 1
    · have d1 : decide (b0 < 1) = true := decide_eq_true h1
      clear h1
      go_wp2_with fail
      go_meet
      exact ⟨true, rfl, powers.lay (fun h => by cases h), rfl⟩
    · have d1 : decide (b0 < 1) = false := decide_eq_false h1
      by_cases h2 : 100 < b0
      · have d2 : decide (100 < b0) = true := decide_eq_true h2
        clear h1 h2
        go_wp2_with fail
        go_meet
        exact ⟨true, rfl, powers.lay (fun h => by cases h), rfl⟩
      · have d2 : decide (100 < b0) = false := decide_eq_false h2
        have HB := powers.lay (And.intro h1 h2)
        clear h1 h2
        go_wp2_with fail
        go_meet
        exact ⟨false, rfl, powers.lay (fun _ => by have := HB.out; omega), rfl⟩
  case rest =>
  obtain ⟨bb, rfl, HB, rfl⟩ := hcut
  go_upto_if 27 with (fail)
  go_cut [1] from 22 to 27 (fun x wx => ∃ m : Nat, Hid (1 ≤ m ∧ m ≤ 100) ∧ x = .int .i64 (m : Int) ∧ W1 = wx)
  case first =>
    cases bb with
    | true =>
      go_wp2_with fail
      go_meet
      exact ⟨8, powers.lay (by omega), rfl, rfl⟩
    | false =>
      obtain ⟨m, rfl⟩ := Int.eq_ofNat_of_zero_le (show 0 ≤ b0 by have := HB.out rfl; omega)
      go_wp2_with fail
      go_meet
      exact ⟨m, powers.lay (by have := HB.out (by trivial); omega), rfl, rfl⟩
  case rest =>
  clear HB
  obtain ⟨sz, hsz, rfl, rfl⟩ := hcut
  have c1 := powers.new_ok W1
  go_wp2_with fail
  refine c1.mono ?_
  rintro e w2 ⟨rfl, ka2, b2, z2⟩
  have cN1 := mnew_ok W1.heap.size sg sz ⟨hsg.out.1, by have := hsg.out; omega⟩ ⟨hsz.out.1, by have := hsz.out; omega⟩ w2 (by omega)
  have HZ2 := powers.lay z2
  clear c1 z2
  go_wp2_with fail
  refine cN1.mono ?_
  rintro e w3 ⟨ga, rfl, ma3, b3⟩
  have s2 := b2.size
  have s3 := b3.size
  have b13 := b2.trans (b3.mono b2.size)
  have bR3 : Boxed w3 rb 4 (.bool false) := (b13.block rb (by have := HZ.out; omega)).trans bR
  have bZ3 : Below rb w w3 := bZ.trans (b13.mono (by have := HZ.out; omega))
  have bD := Boxed.new w3 3 (.int .i64 0)
  have bA := (Below.refl w3.heap.size w3).alloc (Nat.le_refl _) (.cells #[.int .i64 0] 3)
  have hsA := powers.lay (show (w3.alloc (.cells #[.int .i64 0] 3)).heap.size = w3.heap.size + 1 by simp)
  have HS2 := powers.lay (And.intro s2 s3)
  have ka4 := (ka2.below b3 ka2.lt).below bA (ka2.below b3 ka2.lt).lt
  have ma4 := ma3.below bA
  have bR4 := bR3.alloc (.cells #[.int .i64 0] 3)
  have bZ4 := bZ3.alloc (by have := HZ.out; have := HZ2.out; omega) (.cells #[.int .i64 0] 3)
  obtain ⟨S0, hS0⟩ : ∃ S0 : Nat → Prop, (fun k => w2.heap.size ≤ k ∧ k < w3.heap.size) = S0 := ⟨_, rfl⟩
  have hSlo : ∀ k, S0 k → rb < k ∧ k < w3.heap.size := fun k hk => by rw [← hS0] at hk; have := HZ.out; have := HZ2.out; omega
  rw [hS0] at ma4
  generalize W1.heap.size = pa at *
  clear cN1 ka2 ma3 b2 b3 bR3 bZ3 bA hS0 b13 s2 s3
  go_wp2_with fail
  generalize w3.alloc (.cells #[.int .i64 0] 3) = W4 at *
  have hdl := bD.lt
  have hHS := HS2.out
  have hrl : rb ≤ w.heap.size := by have := HRB.out; omega
  have hpz := HZ.out
  have C0 : CS w W4 rb pa ga w3.heap.size S0 (newM sg sz) 0 [] :=
    ⟨ma4, ka4, bD, bR4, (fun D hD => by cases hD), List.nodup_nil, ⟨fun k hk => (hSlo k hk).1, by omega, by have := HZ2.out; omega, (fun D hD => by cases hD)⟩, ⟨fun h => by have := (hSlo _ h).2; omega, by have := HZ2.out; omega, (fun D hD => by cases hD)⟩, bZ4, hrl⟩
  generalize w3.heap.size = db at *
  clear bD bR4 ka4 ma4 bZ4 hSlo hdl hHS hrl hpz HZ HZ2 HS2 hsA bZ bR
  rename_i K0 hK0
  refine (wpIn_wide (n := 12)).1 ?_
  obtain ⟨I, hI⟩ : ∃ I : Act → World → Prop, I = (fun a W => ∃ (j : Nat) (Ds : List Nat) (S : Nat → Prop) (m : MS) (e : Nat → Value), a = { tmps := #[.int .i64 (sg : Int), .int .i64 (sz : Int), .slice A l.length c, undef, undef, undef, .pointer (some ⟨rb, 0, none⟩), .pointer (some ⟨ga, 0, none⟩), .int .i64 0, .pointer (some ⟨db, 0, none⟩), .int .i64 (bytesW m.past), e 11, e 12, e 13, e 14, e 15, u16, u17, u18, u19, u20, u21, u22, u23, u24, u25, u26, u27, .tuple #[.pointer (some ⟨ga, 0, none⟩), .int .i64 0], .pointer (some ⟨pa, 0, none⟩), .int .i64 (sg : Int), .int .i64 (sz : Int), .tuple #[.pointer (some ⟨ga, 0, none⟩), .int .i64 0], .pointer (some ⟨ga, 0, none⟩), .int .i64 0, .int .i64 0, .bool false, .bool false, .pointer (some ⟨ga, 0, none⟩), .bool false, .bool false, .slice A l.length c, .int .i64 (l.length : Int), .int .i64 (j : Int), e 44, e 45, e 46, e 47, e 48, e 49, e 50, e 51, e 52, e 53, e 54, e 55, e 56, e 57, e 58, e 59, e 60, e 61, e 62, e 63, e 64, e 65, e 66, e 67, e 68, e 69, e 70, e 71, e 72, e 73, e 74, e 75, e 76, e 77, e 78, e 79, e 80, e 81, e 82, e 83, e 84, e 85, e 86, e 87, e 88, e 89, e 90, e 91, e 92, e 93, e 94, e 95, e 96, e 97, e 98, e 99, e 100, e 101, e 102, e 103, e 104, e 105, e 106, e 107, e 108, e 109, e 110, e 111, e 112, e 113, e 114, e 115, e 116, e 117, e 118, e 119], defers := Ds.map (fun D => ({ target := .collected D, args := #[] } : Deferred)) } ∧ j ≤ l.length ∧ m.past.length ≤ j ∧ Hid (CS w W rb pa ga db S m (m.past.length : Int) Ds)) := ⟨_, rfl⟩
  have mkI : ∀ (a : Act) (W : World) (j : Nat) (Ds : List Nat) (S : Nat → Prop) (m : MS), a = { tmps := #[.int .i64 (sg : Int), .int .i64 (sz : Int), .slice A l.length c, undef, undef, undef, .pointer (some ⟨rb, 0, none⟩), .pointer (some ⟨ga, 0, none⟩), .int .i64 0, .pointer (some ⟨db, 0, none⟩), .int .i64 (bytesW m.past), a.tmps.getD 11 undef, a.tmps.getD 12 undef, a.tmps.getD 13 undef, a.tmps.getD 14 undef, a.tmps.getD 15 undef, u16, u17, u18, u19, u20, u21, u22, u23, u24, u25, u26, u27, .tuple #[.pointer (some ⟨ga, 0, none⟩), .int .i64 0], .pointer (some ⟨pa, 0, none⟩), .int .i64 (sg : Int), .int .i64 (sz : Int), .tuple #[.pointer (some ⟨ga, 0, none⟩), .int .i64 0], .pointer (some ⟨ga, 0, none⟩), .int .i64 0, .int .i64 0, .bool false, .bool false, .pointer (some ⟨ga, 0, none⟩), .bool false, .bool false, .slice A l.length c, .int .i64 (l.length : Int), .int .i64 (j : Int), a.tmps.getD 44 undef, a.tmps.getD 45 undef, a.tmps.getD 46 undef, a.tmps.getD 47 undef, a.tmps.getD 48 undef, a.tmps.getD 49 undef, a.tmps.getD 50 undef, a.tmps.getD 51 undef, a.tmps.getD 52 undef, a.tmps.getD 53 undef, a.tmps.getD 54 undef, a.tmps.getD 55 undef, a.tmps.getD 56 undef, a.tmps.getD 57 undef, a.tmps.getD 58 undef, a.tmps.getD 59 undef, a.tmps.getD 60 undef, a.tmps.getD 61 undef, a.tmps.getD 62 undef, a.tmps.getD 63 undef, a.tmps.getD 64 undef, a.tmps.getD 65 undef, a.tmps.getD 66 undef, a.tmps.getD 67 undef, a.tmps.getD 68 undef, a.tmps.getD 69 undef, a.tmps.getD 70 undef, a.tmps.getD 71 undef, a.tmps.getD 72 undef, a.tmps.getD 73 undef, a.tmps.getD 74 undef, a.tmps.getD 75 undef, a.tmps.getD 76 undef, a.tmps.getD 77 undef, a.tmps.getD 78 undef, a.tmps.getD 79 undef, a.tmps.getD 80 undef, a.tmps.getD 81 undef, a.tmps.getD 82 undef, a.tmps.getD 83 undef, a.tmps.getD 84 undef, a.tmps.getD 85 undef, a.tmps.getD 86 undef, a.tmps.getD 87 undef, a.tmps.getD 88 undef, a.tmps.getD 89 undef, a.tmps.getD 90 undef, a.tmps.getD 91 undef, a.tmps.getD 92 undef, a.tmps.getD 93 undef, a.tmps.getD 94 undef, a.tmps.getD 95 undef, a.tmps.getD 96 undef, a.tmps.getD 97 undef, a.tmps.getD 98 undef, a.tmps.getD 99 undef, a.tmps.getD 100 undef, a.tmps.getD 101 undef, a.tmps.getD 102 undef, a.tmps.getD 103 undef, a.tmps.getD 104 undef, a.tmps.getD 105 undef, a.tmps.getD 106 undef, a.tmps.getD 107 undef, a.tmps.getD 108 undef, a.tmps.getD 109 undef, a.tmps.getD 110 undef, a.tmps.getD 111 undef, a.tmps.getD 112 undef, a.tmps.getD 113 undef, a.tmps.getD 114 undef, a.tmps.getD 115 undef, a.tmps.getD 116 undef, a.tmps.getD 117 undef, a.tmps.getD 118 undef, a.tmps.getD 119 undef], defers := Ds.map (fun D => ({ target := .collected D, args := #[] } : Deferred)) } → j ≤ l.length → m.past.length ≤ j → CS w W rb pa ga db S m (m.past.length : Int) Ds → I a W := fun a W j Ds S m h1 h2 h3 h4 => by rw [hI]; exact ⟨j, Ds, S, m, fun k => a.tmps.getD k undef, h1, h2, h3, powers.lay h4⟩
  refine wpIn_loop I (fun a _ => l.length - (RowKit.intOf (a.tmps.getD 43 undef)).toNat) ?start ?round
  case start => exact mkI _ _ 0 [] S0 (newM sg sz) rfl (Nat.zero_le _) (by simp [newM]) C0
  case round =>
    clear C0
    intro a0' W hI0
    rw [hI] at hI0
    obtain ⟨j, Ds, S, m, e, rfl, hj, hpj, HC⟩ := hI0
    clear hI
    refine wpIn_wide.2 ?_
    have C := HC.out
    by_cases hlt : j < l.length
    · obtain ⟨bk, off, rfl, hbk, q0, q1, q2⟩ := (hX.below C.hb).at_ hlt
      have HXX := powers.lay hX
      clear hX
      generalize l[j] = x at q0 q1 q2
      obtain ⟨xg, xo, xb⟩ := x
      simp only [] at q0 q1 q2
      have bZ : Below W.heap.size W (W.alloc (.cells #[.int .i64 xg, .int .i64 xo, .string xb] 83)) := (Below.refl _ _).alloc (Nat.le_refl _) _
      have kZ := Blk.new W 83 #[.int .i64 xg, .int .i64 xo, .string xb]
      have lZ2 : W.heap.size < (W.alloc (.cells #[.int .i64 xg, .int .i64 xo, .string xb] 83)).heap.size := by simp
      have CY := C.below bZ
      have nSz : ¬ S W.heap.size := fun h => absurd (C.md.lt _ h) (by omega)
      have npa : W.heap.size ≠ pa := fun h => absurd C.pw.lt (by omega)
      have ndb : W.heap.size ≠ db := fun h => absurd C.don.lt (by omega)
      have nrb : rb < W.heap.size := C.res.lt
      have ndl : db < W.heap.size := C.don.lt
      have e1 : IntKind.i64.wrap ((j : Int) + 1) = (j : Int) + 1 := IntWalk.i64_in _ (by omega)
      generalize hWZ : W.alloc (.cells #[.int .i64 xg, .int .i64 xo, .string xb] 83) = WY at *
      obtain ⟨bx, hbx⟩ : ∃ bx, W.heap.size = bx := ⟨_, rfl⟩
      by_cases h60 : 60 ≤ j
      · have d60 : decide ((60 : Int) ≤ (j : Int)) = true := decide_eq_true (by omega)
        have d60n : decide (60 ≤ j) = true := decide_eq_true (by omega)
        clear h60 hbx C bZ
        have cR := CY.res.cell
        have fR := CY.res.frozen
        go_wp2_with fail
        have hcr := World.cell?_setCell_same' WY ⟨rb, 0, none⟩ (.bool true) (by rw [cR]; rfl)
        have hbr := CY.hb.setCell (p := ⟨rb, 0, none⟩) (Nat.le_refl _) (.bool true)
        have hmk : ∀ D ∈ Ds, (WY.setCell ⟨rb, 0, none⟩ (.bool true)).heap[D]? = some (.deferred (some [])) := fun D hD => (Below.heap_setCell _ _ _ _ (by have := CY.lo.2.2.2 D hD; simp; omega)).trans (CY.marks D hD)
        refine leaves_all Ds _ hmk CY.nodup (fun W' h1 h2 h3 h4 h5 => ?_)
        have hrb : ∀ D ∈ Ds, rb ≠ D := fun D hD => by have := CY.lo.2.2.2 D hD; omega
        have hcr' : W'.cell? ⟨rb, 0, none⟩ = some (.bool true) := (World.cell?_of_block (h2 rb hrb)).trans hcr
        refine ⟨.bool true, by simp [results, Try.results10, go_sem, hcr'], rfl, ?_⟩
        rw [HRB.out]
        exact ⟨h3.trans hbr.os, h4.trans hbr.tape, h5.trans hbr.output, Nat.le_trans hbr.size h1, fun k hk => (h2 k (fun D hD => by have := CY.lo.2.2.2 D hD; omega)).trans (hbr.block k hk)⟩
      · have d60 : decide ((60 : Int) ≤ (j : Int)) = false := decide_eq_false (by omega)
        have d60n : decide (60 ≤ j) = false := decide_eq_false (by omega)
        have cW := write_any CY.md CY.pw (by unfold In; omega) xg xo xb (by omega)
        have y0 := kZ.cell 0
        have y1 := kZ.cell 1
        have y2 := kZ.cell 2
        simp only [List.getElem?_toArray, List.getElem?_cons_zero, List.getElem?_cons_succ] at y0 y1 y2
        clear hbx C bZ
        go_wp2_with fail
        refine cW.mono ?_
        rintro e7 w7 hw7
        have he7 := hw7.1
        subst he7
        rw [wr_on m (-1) xg xo xb (by decide)]
        have kZ7 := hw7.keepB kZ nSz npa
        have hs7 : WY.heap.size ≤ w7.heap.size := by obtain ⟨_, _, _, _, _, hk⟩ := hw7; exact hk.size
        obtain ⟨rr, hrr⟩ : ∃ rr, refE m xg xo xb = rr := ⟨_, rfl⟩
        rw [hrr]
        have HRR := powers.lay hrr
        clear hrr cW y0 y1 y2
        have bF := (Below.refl w7.heap.size w7).alloc (Nat.le_refl _) (.cells #[.int .i64 rr] 28)
        have kF := Boxed.new w7 28 (.int .i64 rr)
        have kZ8 := kZ7.below bF kZ7.lt
        have cF := kF.cell
        obtain ⟨bq, hbq⟩ : ∃ bq, decide (rr = 0) = bq := ⟨_, rfl⟩
        have hbq2 : (rr == 0) = bq := by rw [← hbq]; rfl
        obtain ⟨fb, hfb⟩ : ∃ fb, w7.heap.size = fb := ⟨_, rfl⟩
        have HFB := powers.lay hfb
        clear hfb
        go_upto_if 59 with (fail)
        generalize hW8 : w7.alloc (.cells #[.int .i64 rr] 28) = W8 at *
        have HC8 := powers.lay (show rr = 0 → ∃ S', CS w W8 rb pa ga db S' (putM m xg.toNat xo.toNat xb) (m.past.length : Int) Ds from fun h => by
          obtain ⟨S', C7⟩ := CY.done hw7 (HRR.out.trans h) (by omega)
          exact ⟨S', C7.below bF⟩)
        have HC9 := powers.lay (show rr ≠ 0 → ∃ S', CS w W8 rb pa ga db S' m (m.past.length : Int) Ds from fun h => by
          obtain ⟨S', C7⟩ := CY.refused hw7 (fun x => h (HRR.out.symm.trans x))
          exact ⟨S', C7.below bF⟩)
        have hfl : w7.heap.size < W8.heap.size := kF.lt
        clear hw7 CY kZ7 bF kZ hW8
        have HBX := powers.lay (show W.heap.size < w7.heap.size by omega)
        go_cut [10] from 60 to 77 (fun v wx => ∃ (S' : Nat → Prop) (m' : MS), v = .int .i64 (bytesW m'.past) ∧ Hid (CS w wx rb pa ga db S' m' (m'.past.length : Int) Ds) ∧ Blk wx W.heap.size 83 #[.int .i64 xg, .int .i64 xo, .string xb] ∧ Boxed wx w7.heap.size 28 (.int .i64 rr) ∧ Hid (rr = 0 → m'.past.getLast? = some ⟨xg, xo, xb⟩) ∧ Hid (m'.past.length ≤ j + 1))
        case first =>
          by_cases hr0 : rr = 0
          · obtain ⟨S', C8⟩ := HC8.out hr0
            obtain rfl : bq = true := by rw [← hbq]; exact decide_eq_true hr0
            have hup := used_put (HRR.out.trans hr0)
            have hpe := putM_eq (HRR.out.trans hr0)
            have hmr := ref_zero (HRR.out.trans hr0)
            have hmsz := C8.md
            have HBW := powers.lay (show bytesW (putM m xg.toNat xo.toNat xb).past = wrap64 (bytesW m.past + (xb.size : Int)) by rw [hpe, bytesW_snoc])
            have HLAST := powers.lay (show (putM m xg.toNat xo.toNat xb).past.getLast? = some ⟨xg, xo, xb⟩ by rw [hpe]; simp)
            have HLEN := powers.lay (putM_past m xg.toNat xo.toNat xb)
            generalize putM m xg.toNat xo.toNat xb = m' at *
            have hsz8 := C8.md.at_le xg.toNat
            have hms8 : m'.size ≤ 1048576 := by obtain ⟨_, _, _, M⟩ := C8.md; exact M.bnd.1.2
            have HSZ := powers.lay (show xo + (xb.size : Int) ≤ 1048576 ∧ 0 ≤ xo by
              unfold usedI at hup
              split at hup
              · omega
              · have := hmr.2.1.1; omega)
            have cD := C8.don.cell
            have fD := C8.don.frozen
            have eD : IntKind.i64.wrap ((m.past.length : Int) + 1) = (m.past.length : Int) + 1 := IntWalk.i64_in _ (by omega)
            have x2 := kZ8.cell 2
            simp only [List.getElem?_toArray, List.getElem?_cons_zero, List.getElem?_cons_succ] at x2
            have HUP := powers.lay hup
            clear hpe hr0 hmr hmsz hsz8 hms8 hup
            go_wp2_with fail
            have C9 := C8.count ((m.past.length : Int) + 1)
            have kZ9 := kZ8.far (p := ⟨db, 0, none⟩) (by simpa using ndb) (.int .i64 ((m.past.length : Int) + 1))
            have kF9 := kF.other (B' := db) (by omega) (.int .i64 ((m.past.length : Int) + 1))
            generalize W8.setCell ⟨db, 0, none⟩ (.int .i64 ((m.past.length : Int) + 1)) = W9 at *
            clear cD fD eD x2 C8 HC8 HC9 kZ8 kF
            obtain ⟨N, hN, hM'⟩ := quotas.norms (fun wx => Below W9.heap.size W9 wx) W9 (Below.refl _ _)
            have hne : Nonempty World := ⟨W9⟩
            have lX := kZ9.lt
            have x0 := kZ9.cell 0
            have x1 := kZ9.cell 1
            have x2 := kZ9.cell 2
            simp only [List.getElem?_toArray, List.getElem?_cons_zero, List.getElem?_cons_succ] at x0 x1 x2
            have v0 := fun n => ((hN n).cell (p := ⟨W.heap.size, 0, none⟩) lX).trans x0
            have v1 := fun n => ((hN n).cell (p := ⟨W.heap.size, 1, none⟩) lX).trans x1
            have v2 := fun n => ((hN n).cell (p := ⟨W.heap.size, 2, none⟩) lX).trans x2
            have cU := fun n => used_any (C9.below (hN n)).md xg
            rw [HUP.out] at cU
            have eS : IntKind.i64.wrap (xo + (xb.size : Int)) = xo + (xb.size : Int) := IntWalk.i64_in _ (by have := HSZ.out; omega)
            refine quotas.region_class N (by kernel_rfl) (by kernel_rfl) (hM' _ (Below.refl _ W9).drew) ?_
            repeat (go_big_quiet_step (first | (go_at_call 30; exact call_same (cU _))))
            refine wpQuiet_nil ?_
            rintro _ ⟨nn, rfl⟩
            have I9 := hN nn
            generalize N nn = W10 at I9 ⊢
            have C10 := C9.below I9
            have kZ10 := kZ9.below I9 lX
            have kF10 : Boxed W10 w7.heap.size 28 (.int .i64 rr) := (I9.block _ kF9.lt).trans kF9
            clear v0 v1 v2 cU hN hM' N hne x0 x1 x2 eS C9 kZ9 kF9 I9
            go_wp2_with fail
            go_meet
            refine ⟨S', m', ?_, powers.lay ?_, kZ10, kF10, powers.lay (fun _ => HLAST.out), powers.lay (by have := HLEN.out; omega)⟩
            · rw [HBW.out]
            · rw [show (m'.past.length : Int) = (m.past.length : Int) + 1 by have := HLEN.out; omega]; exact C10
          · obtain ⟨S', C8⟩ := HC9.out hr0
            obtain rfl : bq = false := by rw [← hbq]; exact decide_eq_false hr0
            clear HC8 HC9
            have HR0 := powers.lay hr0
            clear hr0
            go_wp2_with fail
            go_meet
            exact ⟨S', m, rfl, powers.lay C8, kZ8, kF, powers.lay (fun h => absurd h HR0.out), powers.lay (by omega)⟩
        case rest =>
        obtain ⟨S8, m8, rfl, HC8, kX, kF, HL, HLN⟩ := hcut
        have hlw : w7.heap.size < wc.heap.size := kF.lt
        have hbw := HBX.out
        have HLT := powers.lay hlt
        clear hlt h60 d60 d60n HRR HFB hs7 hfl lZ2 kZ8 HBX
        have bN := (Below.refl wc.heap.size wc).alloc (Nat.le_refl _) (.cells #[.int .i64 0] 3)
        have CN := HC8.out.below bN
        have hMd := CN.md
        obtain ⟨sb, vs, vp, MM⟩ := hMd
        obtain ⟨PA, pc, rfl, hP⟩ := rsF_of_row MM.past MM.bnd.2.2.2
        have hPl : ∀ k, (Value.slice PA m8.past.length pc).ownBlock = some k → k < (wc.alloc (.cells #[.int .i64 0] 3)).heap.size := fun k hk => MM.lt k (MM.pastS k hk).1
        have hPn : ∀ k, (Value.slice PA m8.past.length pc).ownBlock = some k → k < wc.heap.size := fun k hk => HC8.out.md.lt k (MM.pastS k hk).1
        have cP := (callsIn_wide (n := 12)).1 (past_in Fence.wide 12 trivial trivial rfl (by omega) MM)
        clear MM CN
        go_wp2_with fail
        refine cP.mono ?_
        rintro e9 w9 ⟨rfl, rfl⟩
        clear cP
        go_wp2_with fail
        refine (wpIn_wide (n := 12)).1 ?_
        have b02 : Below wc.heap.size wc ((wc.alloc (.cells #[.int .i64 0] 3)).alloc (.cells #[.slice PA m8.past.length pc] 77)) := bN.alloc (by simp) _
        have bNb := (Boxed.new wc 3 (.int .i64 0)).alloc (.cells #[.slice PA m8.past.length pc] 77)
        have bPb := Boxed.new (wc.alloc (.cells #[.int .i64 0] 3)) 77 (.slice PA m8.past.length pc)
        have hP2 := hP.agree (Agree.of_below ((Below.refl _ _).alloc (Nat.le_refl _) (.cells #[.slice PA m8.past.length pc] 77)) hPl)
        simp only [World.size_alloc] at bPb
        have hzz : ((wc.alloc (.cells #[.int .i64 0] 3)).alloc (.cells #[.slice PA m8.past.length pc] 77)).heap.size = wc.heap.size + 2 := by simp
        obtain ⟨W0, hW0⟩ : ∃ W0, ((wc.alloc (.cells #[.int .i64 0] 3)).alloc (.cells #[.slice PA m8.past.length pc] 77)) = W0 := ⟨_, rfl⟩
        rw [hW0] at b02 bNb bPb hP2 hzz
        rw [hW0]
        have kX0 := kX.below b02 kX.lt
        have kF0 : Boxed W0 w7.heap.size 28 (.int .i64 rr) := (b02.block _ kF.lt).trans kF
        have HS8 := powers.lay (show (∀ k, S8 k → k < wc.heap.size) ∧ (∀ D ∈ Ds, D < wc.heap.size) from ⟨HC8.out.md.lt, fun D hD => (Array.getElem?_eq_some_iff.1 (HC8.out.marks D hD)).1⟩)
        have HRN := powers.lay (show rb < wc.heap.size ∧ db < wc.heap.size from ⟨HC8.out.res.lt, HC8.out.don.lt⟩)
        obtain ⟨nb, hnb⟩ : ∃ nb, wc.heap.size = nb := ⟨_, rfl⟩
        obtain ⟨bx, hbx⟩ : ∃ bx, W.heap.size = bx := ⟨_, rfl⟩
        obtain ⟨fb, hfb⟩ : ∃ fb, w7.heap.size = fb := ⟨_, rfl⟩
        rw [hnb] at b02 bNb bPb hzz HS8 HRN hlw hPn
        rw [hfb] at kF0 hlw hbw
        rw [hbx] at kX0 hbw npa ndb nrb ndl nSz
        rw [hnb, hbx, hfb]
        have HNB := powers.lay hnb
        clear hW0 hnb hbx hfb kX kF bN hP hPl
        obtain ⟨G, hGd⟩ : ∃ G : Nat → Prop, G = fun k => k = nb + 1 ∨ (Value.slice PA m8.past.length pc).ownBlock = some k := ⟨_, rfl⟩
        have hGl : ∀ k, G k → k < W0.heap.size := fun k hk => by
          rw [hGd] at hk
          rcases hk with h | h
          · omega
          · have := hPn k h; omega
        have hGn : ∀ k, G k → k ≠ nb := fun k hk => by
          rw [hGd] at hk
          rcases hk with h | h
          · omega
          · have := hPn k h; omega
        have hGP : G (nb + 1) := by rw [hGd]; exact .inl rfl
        have hP0 : RsF W0 G m8.past PA pc := hP2.mono fun k hk => by rw [hGd]; exact .inr hk
        have HZZ := powers.lay hzz
        clear hzz hGd
        refine wpIn_rangeFunc_ownH rfl (by omega) (gf := 88) (lb := #[.pointer (some ⟨nb + 1, 0, none⟩)]) rfl trivial (enters_of Try.func88 (by kernel_rfl) rfl)
          (vals_stops Fence.wide 11 trivial rfl (by omega) (nb + 1) G m8.past PA pc W0 hGP hGl bPb.cell hP0) agree_t (agree_b hGl) (Below.refl _ _) (fun _ => rfl)
          (fun pre W => Boxed W nb 3 (.int .i64 (pre.length : Int)) ∧ Keep (fun k => k = nb) W0 W)
          (fun cc pre W => BadR m8.past.length rr ⟨xg, xo, xb⟩ pre)
          (OwnFrom.and (Own.from (boxed_own nb 3 (fun pre : List RW => Value.int .i64 (pre.length : Int))) _) (ownFrom_keep (Nat.le_refl _)))
          (fun cc => fun s' X Y row hs hg hr => hs)
          ⟨bNb, Keep.refl _ _⟩
          (fun y a' W => ∃ By, nb < By ∧ Blk W By 83 #[.int .i64 y.g, .int .i64 y.o, .string y.b] ∧ a' = { tmps := #[.int .i64 (sg : Int), .int .i64 (sz : Int), .slice (some ⟨bk, off, none⟩) l.length c, undef, undef, undef, .pointer (some ⟨rb, 0, none⟩), .pointer (some ⟨ga, 0, none⟩), .int .i64 0, .pointer (some ⟨db, 0, none⟩), .int .i64 (bytesW m8.past), .int .i64 (j : Int), .pointer (some ⟨bx, 0, none⟩), .pointer (some ⟨fb, 0, none⟩), .pointer (some ⟨nb, 0, none⟩), .pointer (some ⟨By, 0, none⟩), u16, u17, u18, u19, u20, u21, u22, u23, u24, u25, u26, u27, .tuple #[.pointer (some ⟨ga, 0, none⟩), .int .i64 0], .pointer (some ⟨pa, 0, none⟩), .int .i64 (sg : Int), .int .i64 (sz : Int), .tuple #[.pointer (some ⟨ga, 0, none⟩), .int .i64 0], .pointer (some ⟨ga, 0, none⟩), .int .i64 0, .int .i64 0, .bool false, .bool false, .pointer (some ⟨ga, 0, none⟩), .bool false, .bool false, .slice (some ⟨bk, off, none⟩) l.length c, .int .i64 (l.length : Int), .int .i64 (j : Int), .bool true, .int .i64 (j : Int), .pointer (some ⟨bk, off + j * 3, none⟩), .agg #[.int .i64 xg, .int .i64 xo, .string xb], .int .i64 (j : Int), .bool false, .pointer (some ⟨ga, 0, none⟩), .pointer (some ⟨bx, 0, none⟩), .int .i64 xg, .pointer (some ⟨bx, 1, none⟩), .int .i64 xo, .pointer (some ⟨bx, 2, none⟩), .string xb, .int .i64 rr, .int .i64 rr, .bool bq, u60, u61, u62, u63, u64, u65, u66, u67, u68, u69, u70, u71, u72, u73, u74, u75, u76, u77, .pointer (some ⟨ga, 0, none⟩), .func (.func 88) #[] #[.pointer (some ⟨nb + 1, 0, none⟩)], y.v, e 81, e 82, e 83, e 84, e 85, e 86, e 87, e 88, e 89, e 90, e 91, e 92, e 93, e 94, e 95, e 96, e 97, e 98, e 99, e 100, e 101, e 102, e 103, e 104, e 105, e 106, e 107, e 108, e 109, e 110, e 111, e 112, e 113, e 114, e 115, e 116, e 117, e 118, e 119], defers := [] })
          (fun y a' _ X Y row hs hg hr => by obtain ⟨By, q1, q2, q3⟩ := hs; exact ⟨By, q1, blk_own By 83 (fun (_ : Unit) => _) () X Y row q2 hg (fun r e => (hr r e).2), q3⟩)
          ?assign ?body ?done ?stop
        case assign =>
          rintro lp pre y W3 K ⟨hN, hKp⟩ hK
          have hlt := hN.lt
          have hs3 := hKp.size
          gi_wp2
          exact hK _ _ ((KeepsOthers.alloc _ _).from _) (fun g hg => Below.heap_alloc W3 _ g (by have := hGl g hg; omega)) ⟨hN.alloc _, hKp.seq ((Below.refl _ _).alloc (Nat.le_refl _) _)⟩ ⟨W3.heap.size, hlt, Blk.new _ _ _, rfl⟩
        case body =>
          rintro lp pre y a' W3 hl ⟨r, hr⟩ ⟨hN, hKp⟩ ⟨By, hBy, bY, rfl⟩ hltp
          have CW := HC8.out.below (W' := W0) (by rw [HNB.out]; exact b02)
          have hN0 := HRN.out
          have hz0 := HZZ.out
          have cN := hN.cell
          have fN := hN.frozen
          have cD := (hKp.cell (p := ⟨db, 0, none⟩) (by simp; omega) (by simp; omega)).trans CW.don.cell
          have kR : Boxed W3 rb 4 (.bool false) := (hKp.block rb (by omega) (by omega)).trans CW.res
          have cF := (hKp.cell (p := ⟨fb, 0, none⟩) (by simp; omega) (by simp; omega)).trans kF0.cell
          have kX3 := hKp.blk kX0 (by omega)
          have x0 := kX3.cell 0
          have x1 := kX3.cell 1
          have x2 := kX3.cell 2
          have y0 := bY.cell 0
          have y1 := bY.cell 1
          have y2 := bY.cell 2
          simp only [List.getElem?_toArray, List.getElem?_cons_zero, List.getElem?_cons_succ] at x0 x1 x2 y0 y1 y2
          have eP : IntKind.i64.wrap ((pre.length : Int) + 1) = (pre.length : Int) + 1 := IntWalk.i64_in _ (by have := HLN.out; omega)
          have hgo : KeepsFrom W0.heap.size W3 (W3.setCell ⟨nb, 0, none⟩ (.int .i64 ((pre.length : Int) + 1))) ∧ Agree W3 (W3.setCell ⟨nb, 0, none⟩ (.int .i64 ((pre.length : Int) + 1))) G ∧ (Boxed (W3.setCell ⟨nb, 0, none⟩ (.int .i64 ((pre.length : Int) + 1))) nb 3 (.int .i64 ((pre ++ [y]).length : Int)) ∧ Keep (fun k => k = nb) W0 (W3.setCell ⟨nb, 0, none⟩ (.int .i64 ((pre.length : Int) + 1)))) := by
            refine ⟨(KeepsOthers.setCell _ _ _).from _, (fun g hg => Below.heap_setCell _ _ _ _ (by have := hGn g hg; simpa using this)), ?_, ?_⟩
            · rw [show ((pre ++ [y]).length : Int) = (pre.length : Int) + 1 by simp]
              exact hN.set _
            · exact hKp.trans (keep_set W3 nb 0 _) (fun k h _ => h)
          obtain ⟨pl, hpl⟩ : ∃ pl, m8.past.length = pl := ⟨_, rfl⟩
          rw [hpl] at cD hltp ⊢
          have kRs := kR.other (B' := nb) (by omega) (.int .i64 ((pre.length : Int) + 1))
          have cRs := kRs.cell
          have fRs := kRs.frozen
          clear CW kR kX3 hpl kRs hz0
          by_cases g1 : pre.length + 1 = pl
          · subst g1
            have d1 : ((pre.length : Int) + 1 == ((pre.length + 1 : Nat) : Int)) = true := by simp
            by_cases g2 : rr = 0
            · obtain rfl : bq = true := by rw [← hbq]; exact decide_eq_true g2
              subst g2
              by_cases g3 : y = ⟨xg, xo, xb⟩
              · subst g3
                have hq := raw_neq ⟨xg, xo, xb⟩ ⟨xg, xo, xb⟩
                rw [decide_eq_true rfl] at hq
                change ∀ u, (binOp .neq 83 (.agg #[.int .i64 xg, .int .i64 xo, .string xb]) (.agg #[.int .i64 xg, .int .i64 xo, .string xb])).run Try.prog u = .ok (.bool false) u at hq
                gi_wp2
                exact hgo
              · have hq := raw_neq y ⟨xg, xo, xb⟩
                rw [decide_eq_false g3] at hq
                change ∀ u, (binOp .neq 83 y.v (.agg #[.int .i64 xg, .int .i64 xo, .string xb])).run Try.prog u = .ok (.bool true) u at hq
                have HG3 := powers.lay g3
                clear g3
                gi_wp2
                exact ⟨((KeepsOthers.setCell _ _ _).from _).trans ((KeepsOthers.setCell _ _ _).from _), ⟨pre, y, rfl, rfl, rfl, HG3.out⟩⟩
            · obtain rfl : bq = false := by rw [← hbq]; exact decide_eq_false g2
              clear g2
              gi_wp2
              exact hgo
          · have d1 : ((pre.length : Int) + 1 == (pl : Int)) = false := by simp; omega
            have d2 : decide ((pre.length : Int) + 1 = (pl : Int)) = false := decide_eq_false (by omega)
            clear g1
            gi_wp2
            exact hgo
        case done =>
          rintro D ys W3 hD rfl ⟨hN, hKp⟩ hK
          gi_wp2
          have hk0 : Keep (fun k => k = nb) wc W3 := (Keep.of_below (by rw [HNB.out]; exact b02)).trans hKp (fun k h _ => h)
          have hs8 := HS8.out
          have hrn := HRN.out
          have hzz := HZZ.out
          have CD := (HC8.out.keepNew hk0 (by have := HNB.out; omega)).mark hK (by omega) (fun h => by have := hs8.2 D h; omega) (fun h => by have := hs8.1 D h; omega)
          clear hk0 hs8 hrn hzz hK hKp
          obtain ⟨N, hN', hM'⟩ := quotas.norms (fun wx => Below W3.heap.size W3 wx) W3 (Below.refl _ _)
          have hne : Nonempty World := ⟨W3⟩
          have z0 := CD.md.ptr
          have lz := CD.md.lt _ CD.md.inS
          have v0 := fun n => ((hN' n).cell (p := ⟨nb, 0, none⟩) hN.lt).trans hN.cell
          have v1 := fun n => ((hN' n).cell (p := ⟨db, 0, none⟩) CD.don.lt).trans CD.don.cell
          have v2 := fun n => ((hN' n).cell (p := ⟨ga, 0, none⟩) lz).trans z0
          have cC := fun n => count_any (CD.below (hN' n)).md
          have cB := fun n => bytes_any (CD.below (hN' n)).md
          have cW := fun n => writes_ok (CD.below (hN' n)).pw (by unfold In; omega)
          clear z0 lz
          go_wp2_with fail
          refine quotas.region_class N (by kernel_rfl) (by kernel_rfl) (hM' _ (Below.refl _ W3).drew) ?_
          repeat (go_big_quiet_step (first | (go_at_call 35; exact call_same (cC _)) | (go_at_call 39; exact call_new hN' hM' (cB _)) | (go_at_call 40; exact call_same (cW _))))
          refine wpQuiet_nil ?_
          rintro _ ⟨nn, rfl⟩
          have I9 := hN' nn
          generalize N nn = W4' at I9 ⊢
          have CE := CD.below I9
          clear v0 v1 v2 cC cB cW hN' hM' N hne CD I9
          go_wp2_with fail
          refine ⟨mkI _ _ (j + 1) (D :: Ds) S8 m8 ?_ (by have := HLT.out; omega) (by have := HLN.out; omega) CE, ?_⟩
          · rfl
          · have := HLT.out; simp [RowKit.intOf]; omega
        case stop =>
          rintro D cc pre W3 hD ⟨k, hk, rfl⟩ h hK
          exact (h.no hk HL.out).elim
    · obtain rfl : j = l.length := by omega
      clear hlt hj
      have cR := C.res.cell
      have fR := C.res.frozen
      go_wp2_with fail
      have hcr := World.cell?_setCell_same' W ⟨rb, 0, none⟩ (.bool true) (by rw [cR]; rfl)
      have hbr := C.hb.setCell (p := ⟨rb, 0, none⟩) (Nat.le_refl _) (.bool true)
      have hmk : ∀ D ∈ Ds, (W.setCell ⟨rb, 0, none⟩ (.bool true)).heap[D]? = some (.deferred (some [])) := fun D hD => (Below.heap_setCell _ _ _ _ (by have := C.lo.2.2.2 D hD; simp; omega)).trans (C.marks D hD)
      refine leaves_all Ds _ hmk C.nodup (fun W' h1 h2 h3 h4 h5 => ?_)
      have hrb : ∀ D ∈ Ds, rb ≠ D := fun D hD => by have := C.lo.2.2.2 D hD; omega
      have hcr' : W'.cell? ⟨rb, 0, none⟩ = some (.bool true) := (World.cell?_of_block (h2 rb hrb)).trans hcr
      refine ⟨.bool true, by simp [results, Try.results10, go_sem, hcr'], rfl, ?_⟩
      rw [HRB.out]
      exact ⟨h3.trans hbr.os, h4.trans hbr.tape, h5.trans hbr.output, Nat.le_trans hbr.size h1, fun k hk => (h2 k (fun D hD => by have := C.lo.2.2.2 D hD; omega)).trans (hbr.block k hk)⟩

theorem law_counts (a0 b0 : Int) (l : List MR) (A : Option Addr) (c : Nat) (w : World) (hX : Qs w w.heap.size l A c) :
    Calls Try.prog 10 #[.int .i64 a0, .int .i64 b0, .slice A l.length c] w fun e w' => e = .returned (.bool true) ∧ Below w.heap.size w w' :=
  (callsIn_wide (n := 12)).1 (counts_in a0 b0 l A c w hX)

end Go.Proofs.Ytmbhfibldklecaa.mediums
