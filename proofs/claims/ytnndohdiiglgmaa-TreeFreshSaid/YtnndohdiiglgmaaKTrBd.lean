/- climber.all over a tree that may be. -/
import Derived.Test.YtnndohdiiglgmaaKTrP
import Derived.Test.YtnndohdiiglgmaaKTrN
import Derived.Test.YtnndohdiiglgmaaKTrBa
import Derived.Test.YtnndohdiiglgmaaKTrY


namespace Go.Proofs.Ytnndohdiiglgmaa.trees
set_option linter.unusedVariables false
set_option linter.unusedSimpArgs false
open Go.RowKit Go.Shelf Go.Proofs.Ytnndohdiiglgmaa.base Go.Proofs.Ytnndohdiiglgmaa.vers Go.Proofs.Ytnndohdiiglgmaa.nodes Go.Proofs.Ytnndohdiiglgmaa.quotas

/-! ### what All answers -/
abbrev SN := Nat × R × N
abbrev SP := Nat × R × P3
def snc (x : SN) : List Value := [.int .i64 (x.1 : Int), .int .u64 (x.2.1.k : Int), .int .i64 x.2.1.g, .int .i64 x.2.1.o, .int .i64 x.2.1.n, .bool x.2.2.lf, .slice x.2.2.A x.2.2.es.length x.2.2.c, .slice x.2.2.Q x.2.2.ks.length x.2.2.m]
def cellsSn : List SN → List Value
  | [] => []
  | x :: l => snc x ++ cellsSn l
theorem cellsSn_app : ∀ l m : List SN, cellsSn (l ++ m) = cellsSn l ++ cellsSn m
  | [], m => rfl
  | x :: l, m => by rw [List.cons_append, cellsSn, cellsSn_app l m, cellsSn, List.append_assoc]
theorem cellsSn_one (l : List SN) : ∀ u ∈ cellsSn l, u.oneCell' = true := by
  induction l with
  | nil => intro u h; cases h
  | cons x l ih =>
    intro u h
    rcases List.mem_append.1 h with h | h
    · simp [snc] at h
      rcases h with rfl | rfl | rfl | rfl | rfl | rfl | rfl | rfl <;> rfl
    · exact ih u h
theorem infoSn : (Try.prog.info? 62).map (fun i => (i.zero, i.size, i.bytes)) = some (some (.agg #[.int .i64 0, .int .u64 0, .int .i64 0, .int .i64 0, .int .i64 0, .bool false, .slice none 0 0, .slice none 0 0]), 8, 96) := by kernel_rfl
/-- pages in a row of their own, their lists in blocks F apart from it -/
def SeenF (wr : World) (F : Nat → Prop) (v : Value) (l : List SN) : Prop := wr.ownsRow 0 62 8 v l.length (cellsSn l) ∧ (∀ g, v.ownBlock = some g → F g) ∧ ∀ x ∈ l, OwnNF wr (fun g => F g ∧ some g ≠ v.ownBlock) x.2.2
theorem SeenF.agree {w w' : World} {F : Nat → Prop} {v : Value} {l : List SN} (h : SeenF w F v l) (hk : Agree w w' F) : SeenF w' F v l :=
  ⟨ownsRow_agree h.1 (fun g hg => hk g (h.2.1 g hg)), h.2.1, fun x hx => (h.2.2 x hx).agree (hk.mono fun g hg => hg.1)⟩
theorem SeenF.mono {w : World} {F F' : Nat → Prop} {v : Value} {l : List SN} (h : SeenF w F v l) (hF : ∀ g, F g → F' g) : SeenF w F' v l :=
  ⟨h.1, fun g hg => hF g (h.2.1 g hg), fun x hx => (h.2.2 x hx).mono fun g hg => ⟨hF g hg.1, hg.2⟩⟩
abbrev psn (x : SN) : SP := (x.1, x.2.1, x.2.2.p)
def belowP (x : P3) : List K := if x.1 then [] else x.2.2
def APost (w : World) (ps : List SP) (e : Ending) (w' : World) : Prop := Below w.heap.size w w' ∧ ∃ (l : List SN) (v : Value), e = .returned (.tuple #[v, .int .i64 0]) ∧ l.map psn = ps ∧ SeenF w' (fun g => w.heap.size ≤ g ∧ g < w'.heap.size) v l
/-- where the loop stands -/
def AI (w w2 : World) (B : Nat) (ps : List SP) (v : Value) (wr : World) : Prop :=
  Below B w2 wr ∧ (∀ g, v.ownBlock = some g → B ≤ g) ∧ ∃ l : List SN, l.map psn = ps ∧ SeenF wr (fun g => w.heap.size ≤ g ∧ g < wr.heap.size) v l
theorem AI_next {w w2 wr w' w3 w4 : World} {B : Nat} {ps qs : List SP} {v v2 v9 : Value} {l l2 : List SN} (hB : w.heap.size ≤ B) (hBw : B ≤ wr.heap.size) (h1 : Below B w2 wr) (h2 : ∀ g, v.ownBlock = some g → B ≤ g) (h3 : l.map psn = ps) (h4 : SeenF wr (fun g => w.heap.size ≤ g ∧ g < wr.heap.size) v l)
    (b1 : Below wr.heap.size wr w') (b2 : Below w'.heap.size w' w3) (k3 : l2.map psn = qs) (k4 : SeenF w3 (fun g => w'.heap.size ≤ g ∧ g < w3.heap.size) v2 l2)
    (ho : w4.ownsRow 0 62 8 v9 (l.length + l2.length) (cellsSn l ++ cellsSn l2)) (hK : Keep (fun g => v.ownBlock = some g) w3 w4) (hv : ∀ g, v9.ownBlock = some g → v.ownBlock = some g ∨ (w3.heap.size ≤ g ∧ g < w4.heap.size)) : AI w w2 B (ps ++ qs) v9 w4 := by
  have z1 := b1.size
  have z2 := b2.size
  have z3 := hK.size
  have hvl := fun g (hg : v.ownBlock = some g) => (h4.2.1 g hg).2
  have b3 : Below wr.heap.size wr w3 := b1.trans (b2.mono b1.size)
  refine ⟨(h1.trans (b3.mono (by omega))).trans (hK.below (fun g e => h2 g e) (by omega)), fun g hg => ?_, l ++ l2, by rw [List.map_append, h3, k3], by rw [List.length_append, cellsSn_app]; exact ho, fun g hg => ?_, fun x hx => ?_⟩
  · rcases hv g hg with h | h
    · exact h2 g h
    · omega
  · rcases hv g hg with h | h
    · have := h2 g h; have := hvl g h; omega
    · omega
  · rcases List.mem_append.1 hx with hx | hx
    · refine ((h4.2.2 x hx).agree (w' := w4) fun g hg => (hK.block g (by omega) fun e => hg.2 e.symm).trans (b3.block g hg.1.2)).mono fun g hg => ⟨by omega, fun e => ?_⟩
      rcases hv g e.symm with h | h
      · exact hg.2 h.symm
      · omega
    · refine ((k4.2.2 x hx).agree (w' := w4) fun g hg => hK.block g (by omega) fun e => by have := hvl g e; omega).mono fun g hg => ⟨by omega, fun e => ?_⟩
      rcases hv g e.symm with h | h
      · have := hvl g h; omega
      · omega
theorem flat_next {α β : Type} (f : α → List β) (l : List α) {j : Nat} (hj : j < l.length) : (l.take (j + 1)).flatMap f = (l.take j).flatMap f ++ f l[j] := by
  rw [List.take_succ_eq_append_getElem hj, List.flatMap_append]; simp
theorem flat_len {α β : Type} (f : α → List β) (l : List α) (j : Nat) : ((l.take j).flatMap f).length ≤ (l.flatMap f).length := by
  conv => rhs; rw [← List.take_append_drop j l, List.flatMap_append, List.length_append]
  omega
theorem below_ks (lf : Bool) (ks : List K) (Q : Option Addr) (m : Nat) (w : World) (F : Nat → Prop) (h : KsF w F ks Q m) : ∃ Q' m' ks', ks' = (if lf then [] else ks) ∧ (if lf then Value.slice none 0 0 else .slice Q ks.length m) = .slice Q' ks'.length m' ∧ KsF w F ks' Q' m' := by
  cases lf with
  | true => exact ⟨none, 0, [], rfl, rfl, KsF.nil _ _⟩
  | false => exact ⟨Q, m, ks, rfl, rfl, h⟩

set_option maxRecDepth 100000 in
set_option maxHeartbeats 4000000 in
theorem all_step (h : Nat) (S : Nat → Prop) (ns : List P3) (f : K → List SP) (r : R) (x : P3) (d : Nat) (w : World) (hh : Hp w h S ns) (hr : r.fits) (hE : pageE ns r d = .ok x) (hlen : ((d, r, x) :: (belowP x).flatMap f).length ≤ 1000000) (hkl : (belowP x).length ≤ 1000)
    (ih : ∀ k ∈ belowP x, k.fits → ∀ w', Hp w' h S ns → Calls Try.prog 53 #[clim h, k.r.val, .int .i64 ((d + 1 : Nat) : Int)] w' (APost w' (f k))) :
    Calls Try.prog 53 #[clim h, r.val, .int .i64 (d : Int)] w (APost w ((d, r, x) :: (belowP x).flatMap f)) := by
  have hd8 := pageE_le hE
  have hp := fun w' (hb : Below w.heap.size w w') => page_any r d h S ns w' (hh.agree (fun g hg => hb.block g (hh.lt g hg)) hb.size) hr (by omega)
  rw [hE] at hp
  obtain ⟨rk, rg, ro, rn⟩ := r
  have b2 : Below w.heap.size w ((w.alloc (.cells #[.iface 23 (.pointer (some ⟨h, 0, none⟩))] 111)).alloc (.cells #[.int .u64 (rk : Int), .int .i64 rg, .int .i64 ro, .int .i64 rn] 27)) := ((Below.refl _ _).alloc (Nat.le_refl _) _).alloc (by simp) _
  obtain ⟨i0, hi0, hz0, hz1, hz2⟩ := info_parts infoSn
  go_enter Try.func53, Try.ntmps53
  go_wp2_with fail
  refine (hp _ b2).mono ?_
  rintro e w1 ⟨hb1, ⟨ylf, yes, yks, yA, yc, yQ, ym⟩, rfl, rfl, hyO⟩
  have b1 := b2.trans (hb1.mono b2.size)
  have s1 := hb1.size
  simp only [World.size_alloc] at s1
  have yk := hyO.2.1.ks
  obtain ⟨_, _, e1, yk⟩ := yk
  injection e1 with e1 _ e2
  subst e1 e2
  have k0 := (((Blk.new w 111 #[.iface 23 (.pointer (some ⟨h, 0, none⟩))]).alloc (.cells #[.int .u64 (rk : Int), .int .i64 rg, .int .i64 ro, .int .i64 rn] 27)).below hb1 (by simp; omega))
  have k1 := (Blk.new (w.alloc (.cells #[.iface 23 (.pointer (some ⟨h, 0, none⟩))] 111)) 27 #[.int .u64 (rk : Int), .int .i64 rg, .int .i64 ro, .int .i64 rn]).below hb1 (by simp)
  simp only [World.size_alloc] at k1
  have c0 := k0.cell 0
  have r0 := k1.cell 0
  have r1 := k1.cell 1
  have r2 := k1.cell 2
  have r3 := k1.cell 3
  simp at c0 r0 r1 r2 r3
  have l0 := k0.lt
  have l1 := k1.lt
  clear b2 hp hE
  have b3 : Below w1.heap.size w1 ((w1.alloc (.cells #[.bool ylf, .slice yA yes.length yc, .slice yQ yks.length ym] 60)).alloc (.cells #[.int .i64 (d : Int), .int .u64 (rk : Int), .int .i64 rg, .int .i64 ro, .int .i64 rn, .bool ylf, .slice yA yes.length yc, .slice yQ yks.length ym] 62)) := ((Below.refl _ _).alloc (Nat.le_refl _) _).alloc (by simp) _
  have kS := Blk.new (w1.alloc (.cells #[.bool ylf, .slice yA yes.length yc, .slice yQ yks.length ym] 60)) 62 #[.int .i64 (d : Int), .int .u64 (rk : Int), .int .i64 rg, .int .i64 ro, .int .i64 rn, .bool ylf, .slice yA yes.length yc, .slice yQ yks.length ym]
  rw [World.size_alloc] at kS
  obtain ⟨Q', m', ks', hks', hbe, hKS⟩ := below_ks ylf yks yQ ym w1 _ yk
  have hbl : belowP (N.p ⟨ylf, yes, yks, yA, yc, yQ, ym⟩) = ks' := by rw [hks']; rfl
  rw [hbl] at hlen hkl ih ⊢
  have HBE := vers.lay hbe
  have HBL := vers.lay hbl
  clear hbe hks' hbl
  go_wp2_with fail
  refine (below_any ylf yes yks yA yc yQ ym _).mono ?_
  rw [HBE.out]
  rintro e w2 ⟨rfl, hb2⟩
  have b12 : Below w1.heap.size w1 w2 := b3.trans (hb2.mono b3.size)
  have bw2 := b1.trans (b12.mono b1.size)
  have c0 := (b12.cell (p := ⟨w.heap.size, 0, none⟩) l0).trans c0
  have kS2 := kS.below hb2 kS.lt
  have z2 := b3.size
  have z3 := hb2.size
  simp only [World.size_alloc] at z2 z3
  have hrow : w2.ownsRow 0 62 8 (.slice (some ⟨w1.heap.size + 1, 0, none⟩) 1 1) 1 (snc (d, ⟨rk, rg, ro, rn⟩, ⟨ylf, yes, yks, yA, yc, yQ, ym⟩)) := ⟨rfl, .inr ⟨w1.heap.size + 1, 1, _, rfl, Nat.zero_le _, kS2, Nat.le_refl _, by unfold maxLen; omega, rfl, rfl⟩⟩
  have hKS2 := hKS.agree (w' := w2) fun g hg => b12.block g hg.2
  have hAI : AI w w2 (w1.heap.size + 1) [(d, ⟨rk, rg, ro, rn⟩, N.p ⟨ylf, yes, yks, yA, yc, yQ, ym⟩)] (.slice (some ⟨w1.heap.size + 1, 0, none⟩) 1 1) w2 := by
    refine ⟨Below.refl _ _, fun g hg => ?_, [(d, ⟨rk, rg, ro, rn⟩, ⟨ylf, yes, yks, yA, yc, yQ, ym⟩)], rfl, ?_, fun g hg => ?_, fun x hx => ?_⟩
    · injection hg with hg; simp only at hg; omega
    · simpa [cellsSn] using hrow
    · injection hg with hg; simp only at hg; omega
    · rw [List.mem_singleton.1 hx]
      refine (hyO.agree (w' := w2) fun g hg => b12.block g hg.2).mono fun g hg => ⟨by simp only [World.size_alloc] at hg; omega, fun e => ?_⟩
      injection e with e
      simp only at e
      omega
  clear b3 hb2 r0 r1 r2 r3 k0 k1 hb1 yk hyO kS kS2 hrow hKS HBE
  have hh2 := hh.agree (fun g hg => bw2.block g (hh.lt g hg)) bw2.size
  have hSl := hh.lt
  have l2 : w.heap.size < w2.heap.size := Nat.lt_of_lt_of_le l0 b12.size
  generalize (N.p ⟨ylf, yes, yks, yA, yc, yQ, ym⟩ : P3) = x at *
  have hk5 : ks'.length ≤ 140737488355328 := by omega
  go_wp2_with fail
  go_loopw [33, 10] (fun i v wr => ∃ j : Nat, j ≤ ks'.length ∧ i = .int .i64 (j : Int) ∧ AI w w2 (w1.heap.size + 1) ((d, ⟨rk, rg, ro, rn⟩, x) :: (ks'.take j).flatMap f) v wr) (fun i _ _ => ks'.length - (intOf i).toNat)
  case atStart => exact ⟨0, Nat.zero_le _, rfl, by simpa using hAI⟩
  case round =>
    clear hAI
    obtain ⟨j, hj, rfl, hAI⟩ := hrel
    by_cases hlt : j < ks'.length
    · obtain ⟨q1, q2, l, q3, q4⟩ := hAI
      have q1s := q1.size
      have k1 : (0 : Int) ≤ (j : Int) := by omega
      have k2 : (j : Int) < (ks'.length : Int) := by omega
      have c1 := (q1.cell (p := ⟨w.heap.size, 0, none⟩) (by simp; omega)).trans c0
      have hKr := hKS2.agree (w' := wr) fun g hg => q1.block g (by omega)
      obtain ⟨bk, off, rfl, hbk, e0, e1, e2, e3, e4⟩ := hKr.ks.at_ hlt
      have xf := hKr.2.2.2.2 _ (List.getElem_mem hlt)
      have b4 : Below wr.heap.size wr (wr.alloc (.cells #[.string ks'[j].s, .int .u64 (ks'[j].k : Int), .int .i64 ks'[j].g, .int .i64 ks'[j].o, .int .i64 ks'[j].n] 66)) := (Below.refl _ _).alloc (Nat.le_refl _) _
      have bwr := bw2.trans (q1.mono (by omega))
      have hih := ih _ (List.getElem_mem hlt) xf _ ((hh2.agree (w' := wr) (fun g hg => q1.block g (by have := hSl g hg; omega)) q1s).below b4)
      rw [show ((d + 1 : Nat) : Int) = (d : Int) + 1 from rfl] at hih
      have ed : IntKind.i64.wrap ((d : Int) + 1) = (d : Int) + 1 := IntWalk.i64_in _ (by omega)
      have lw : w.heap.size < wr.heap.size := by omega
      have HNX := vers.lay (flat_next f ks' hlt)
      have hfl := flat_len f ks' (j + 1)
      rw [HNX.out, List.length_append] at hfl
      have hll : l.length = ((ks'.take j).flatMap f).length + 1 := by rw [← List.length_map (f := psn), q3]; rfl
      have hle : l.length + (f ks'[j]).length ≤ 1000000 := by rw [List.length_cons] at hlen; omega
      have H3 := vers.lay q3
      clear hfl hll q3 hlen hKr
      go_wp2_with fail
      refine hih.mono ?_
      rintro e w3 ⟨hb3, lB, v2, rfl, k3, k4⟩
      have hm : lB.length = (f ks'[j]).length := by rw [← k3, List.length_map]
      have hmle : l.length + lB.length ≤ 1000000 := by omega
      have K3 := vers.lay k3
      clear hm hle k3 hih
      obtain ⟨A2, c2, rfl, hc2, hn2, hr2⟩ := row_rdF k4.1
      have hown : w3.ownsRow 0 62 8 u10 l.length (cellsSn l) := row_below (row_below q4.1 b4) hb3
      have b34 := b4.trans (hb3.mono b4.size)
      have c3 := (b34.cell (p := ⟨w.heap.size, 0, none⟩) lw).trans c1
      clear e0 e1 e2 e3 e4
      go_wp2_with (at_builtin; refine wpList_bulk Try.underlying54 hi0 hz0 hz1 hz2 rfl (by decide) rfl (.tmp 49) (.tmp 50) rfl hown rfl (m := lB.length) k4.1.1 hr2.rd hn2 hc2 (cellsSn_one lB) rfl (by omega) (by unfold maxLen; omega) ?_; intro v9 w4 ho9 hK9 hv9)
      refine ⟨⟨j + 1, hlt, by go_num, ?_⟩, by simp [intOf]; omega⟩
      rw [HNX.out]
      exact AI_next (ps := (d, ⟨rk, rg, ro, rn⟩, x) :: (ks'.take j).flatMap f) (by omega) (by omega) q1 q2 H3.out q4 b4 hb3 K3.out k4 ho9 hK9 hv9
    · obtain rfl : j = ks'.length := by omega
      obtain ⟨q1, q2, l, q3, q4⟩ := hAI
      rw [List.take_length] at q3
      have Q3 := vers.lay q3
      clear q3
      go_wp2_with fail
      refine bodyPost_ret (v := .tuple #[u10, .int .i64 0]) (by simp [results, Try.results53, go_sem]) rfl ⟨bw2.trans (q1.mono (by omega)), l, u10, rfl, by rw [HBL.out]; exact Q3.out, q4⟩
end Go.Proofs.Ytnndohdiiglgmaa.trees

/- tree.All over a tree that may be. -/

namespace Go.Proofs.Ytnndohdiiglgmaa.trees
set_option linter.unusedVariables false
set_option linter.unusedSimpArgs false
open Go.RowKit Go.Proofs.Ytnndohdiiglgmaa.base Go.Proofs.Ytnndohdiiglgmaa.vers Go.Proofs.Ytnndohdiiglgmaa.nodes Go.Proofs.Ytnndohdiiglgmaa.quotas

/-- what All answers of a tree of so many levels -/
def seenP (ns : List P3) : Nat → R → Nat → P3 → List SP
  | 0, r, d, x => [(d, r, x)]
  | h + 1, r, d, x => (d, r, x) :: (belowP x).flatMap fun k => match pageAt ns k.r with
    | none => []
    | some y => seenP ns h k.r (d + 1) y
theorem KidsOf.mem {ns : List P3} {P : P3 → List PE → Prop} : ∀ {ks : List K} {L : List PE}, KidsOf ns P ks L → ∀ k ∈ ks, ∃ y L1, pageAt ns k.r = some y ∧ P y L1 ∧ 2 ≤ partsP y ∧ partsP y ≤ 4
  | [], _, _, k, h => by cases h
  | _ :: ks, _, ⟨L1, L2, y, e, h1, h2, h3, h4, h5⟩, k, h => by
    rcases List.mem_cons.1 h with rfl | h
    · exact ⟨y, L1, h1, h2, h4⟩
    · exact h5.mem k h
theorem flat_le {α β : Type} (f : α → List β) (c : Nat) : ∀ (l : List α), (∀ x ∈ l, (f x).length ≤ c) → (l.flatMap f).length ≤ l.length * c
  | [], _ => by simp
  | a :: l, h => by
    have h1 := h a List.mem_cons_self
    have h2 := flat_le f c l fun x hx => h x (List.mem_cons_of_mem _ hx)
    rw [List.flatMap_cons, List.length_append, List.length_cons, Nat.add_mul]
    omega
theorem seenP_len {ns : List P3} : ∀ (h : Nat) (r : R) (d : Nat) (x : P3) (L : List PE), Tree ns h x L → partsP x ≤ 4 → (seenP ns h r d x).length ≤ 5 ^ h
  | 0, _, _, _, _, _, _ => Nat.le_refl _
  | h + 1, r, d, x, L, ⟨a, b, c, t⟩, hp => by
    have e : belowP x = x.2.2 := by unfold belowP; rw [if_neg (by simp [a])]
    have hl : x.2.2.length ≤ 4 := by simpa [partsP, a] using hp
    have h1 := flat_le (fun k : K => match pageAt ns k.r with | none => [] | some y => seenP ns h k.r (d + 1) y) (5 ^ h) x.2.2 (fun k hk => by
      obtain ⟨y, L1, h1, h2, h3, h4⟩ := t.mem k hk
      simp only [h1]
      exact seenP_len h k.r (d + 1) y L1 h2 h4)
    have h2 : x.2.2.length * 5 ^ h ≤ 4 * 5 ^ h := Nat.mul_le_mul_right _ hl
    have h3 : 0 < 5 ^ h := Nat.pow_pos (by omega)
    rw [seenP, List.length_cons, e, Nat.pow_succ]
    omega
/-- the secrets of pages, in order -/
def secretsP (l : List SP) : List PE := l.flatMap fun s => if s.2.2.1 then s.2.2.2.1 else []
theorem secrets_kids {ns : List P3} {h : Nat} (d : Nat) (ih : ∀ (r : R) (x : P3) (L : List PE), Tree ns h x L → secretsP (seenP ns h r d x) = L) :
    ∀ (ks : List K) (L : List PE), KidsOf ns (Tree ns h) ks L → secretsP (ks.flatMap fun k => match pageAt ns k.r with | none => [] | some y => seenP ns h k.r d y) = L
  | [], L, t => by cases (show L = [] from t); rfl
  | k :: ks, _, ⟨L1, L2, y, e, h1, h2, h3, h4, h5⟩ => by
    have i1 := secrets_kids d ih ks L2 h5
    have i2 := ih k.r y L1 h2
    rw [List.flatMap_cons]
    unfold secretsP at i1 i2 ⊢
    rw [List.flatMap_append, i1, h1, i2, e]
theorem secrets_tree {ns : List P3} : ∀ (h : Nat) (r : R) (d : Nat) (x : P3) (L : List PE), Tree ns h x L → secretsP (seenP ns h r d x) = L
  | 0, _, _, x, L, t => by
    cases (show x = (true, L, []) from t)
    simp [seenP, secretsP]
  | h + 1, r, d, x, L, ⟨a, b, c, t⟩ => by
    have e : belowP x = x.2.2 := by unfold belowP; rw [if_neg (by simp [a])]
    have i := secrets_kids (d + 1) (fun r x L t => secrets_tree h r (d + 1) x L t) x.2.2 L t
    rw [seenP, e]
    unfold secretsP at i ⊢
    rw [List.flatMap_cons, i]
    simp [a]

theorem all_tree (h : Nat) (S : Nat → Prop) (ns : List P3) : ∀ (ht : Nat) (r : R) (x : P3) (L : List PE) (d : Nat) (w : World), Hp w h S ns → r.fits → pageAt ns r = some x → Tree ns ht x L → partsP x ≤ 4 → d + ht ≤ 8 →
    Calls Try.prog 53 #[clim h, r.val, .int .i64 (d : Int)] w (APost w (seenP ns ht r d x))
  | 0, r, x, L, d, w, hh, hr, hx, t, hp, hd => by
    cases (show x = (true, L, []) from t)
    have hE : pageE ns r d = .ok (true, L, []) := by unfold pageE; rw [if_neg (by omega), hx]; rfl
    exact all_step h S ns (fun _ => []) r _ d w hh hr hE (by simp [belowP]) (by simp [belowP]) (fun k hk => by cases hk)
  | ht + 1, r, x, L, d, w, hh, hr, hx, t, hp, hd => by
    have hlen := seenP_len (ht + 1) r d x L t hp
    have h5 : 5 ^ (ht + 1) ≤ 5 ^ 8 := Nat.pow_le_pow_right (by omega) (by omega)
    obtain ⟨a, b, c, t⟩ := t
    have e : belowP x = x.2.2 := by unfold belowP; rw [if_neg (by simp [a])]
    have hE : pageE ns r d = .ok x := by unfold pageE; rw [if_neg (by omega), hx]; exact if_neg fun hc => c hc.2
    refine all_step h S ns _ r x d w hh hr hE (Nat.le_trans hlen (Nat.le_trans h5 (by decide))) ?_ ?_
    · have : x.2.2.length ≤ 4 := by simpa [partsP, a] using hp
      rw [e]; omega
    · intro k hk hf w' hh'
      rw [e] at hk
      obtain ⟨y, L1, h1, h2, h3, h4⟩ := t.mem k hk
      have := all_tree h S ns ht k.r y L1 (d + 1) w' hh' ⟨hf.2.1, hf.2.2.1, hf.2.2.2.1, hf.2.2.2.2⟩ h1 h2 h4 (by omega)
      simpa only [h1] using this
set_option maxRecDepth 100000 in
set_option maxHeartbeats 2000000 in
theorem allT_ok (h : Nat) (S : Nat → Prop) (ns : List P3) (ht : Nat) (r : R) (x : P3) (L : List PE) (w : World) (hh : Hp w h S ns) (hr : r.fits) (hx : pageAt ns r = some x) (t : Tree ns ht x L) (hp : partsP x ≤ 4) (hd : ht ≤ 7) :
    Calls Try.prog 23 #[pv h, r.val] w (APost w (seenP ns ht r 1 x)) := by
  have ha := fun w' (hb : Below w.heap.size w w') => all_tree h S ns ht r x L 1 w' (hh.below hb) hr hx t hp (by omega)
  rw [show ((1 : Nat) : Int) = 1 from rfl] at ha
  obtain ⟨rk, rg, ro, rn⟩ := r
  have b0 : Below w.heap.size w (w.alloc (.cells #[.int .u64 (rk : Int), .int .i64 rg, .int .i64 ro, .int .i64 rn] 27)) := (Below.refl _ _).alloc (Nat.le_refl _) _
  generalize seenP ns ht ⟨rk, rg, ro, rn⟩ 1 x = ps at ha ⊢
  go_enter Try.func23, Try.ntmps23
  go_wp2_with fail
  refine (ha _ b0).mono ?_
  rintro e w1 ⟨hb1, l, v, rfl, hl, hS⟩
  have HL := vers.lay hl
  clear hl
  have z := b0.size
  go_wp2_with fail
  refine bodyPost_ret (v := .tuple #[v, .int .i64 0]) (by simp [results, Try.results23, go_sem]) rfl ⟨b0.trans (hb1.mono b0.size), l, v, rfl, HL.out, hS.mono fun g hg => ⟨by omega, hg.2⟩⟩
end Go.Proofs.Ytnndohdiiglgmaa.trees
