/- Begin. -/
import Derived.Test.YtblfacodfmbodaaSgI


namespace Go.Proofs.Ytblfacodfmbodaa.segs
set_option linter.unusedVariables false
set_option linter.unusedSimpArgs false
open Go.RowKit Go.Shelf Go.Proofs.Ytblfacodfmbodaa.base Go.Proofs.Ytblfacodfmbodaa.trees Go.Proofs.Ytblfacodfmbodaa.powers Go.Proofs.Ytblfacodfmbodaa.mediums Go.Lib

/-- the accounts that Begin settles: all sealed, but for the open one -/
def sealedT (m : MS) (i : Nat) : T3 := ⟨2, ((m.at_ i).size : Int), 0⟩
def foundP (m : MS) (o : Nat) (u : Int) : List T3 := ((List.range m.segs.length).map (sealedT m)).set o ⟨3, u, 0⟩
theorem foundP_len (m : MS) (o : Nat) (u : Int) : (foundP m o u).length = m.segs.length := by unfold foundP; simp
theorem foundP_at (m : MS) {o : Nat} (u : Int) {i : Nat} (ho : o < m.segs.length) (hi : i < m.segs.length) : at3 (foundP m o u) i = if i = o then ⟨3, u, 0⟩ else sealedT m i := by
  unfold foundP
  by_cases h : i = o
  · subst h; rw [at3_set _ (by simp; omega), if_pos rfl]
  · rw [at3_ne _ (fun e => h e.symm), range_at _ hi, if_neg h]
theorem foundP_ok {m : MS} {o : Nat} {u : Int} (hn : 1 ≤ m.segs.length ∧ m.segs.length ≤ 4096) (ho : o < m.segs.length) (hu : 0 ≤ u ∧ u ≤ 1048576) (hs : ∀ i, (m.at_ i).size ≤ 1048576) : OkP o (foundP m o u) := by
  refine ⟨by rw [foundP_len]; exact hn, by rw [foundP_len]; exact ho, fun i hi => ?_, fun i hi => ?_, fun i hi => ?_⟩ <;> rw [foundP_len] at hi <;> rw [foundP_at m u ho hi]
  · by_cases h : i = o
    · rw [if_pos h]; exact ⟨.inr (.inr rfl), fun _ => h, fun _ => rfl⟩
    · rw [if_neg h]; exact ⟨.inr (.inl rfl), fun e => by unfold sealedT at e; simp at e, fun e => absurd e h⟩
  · by_cases h : i = o
    · rw [if_pos h]; exact hu
    · rw [if_neg h]; have := hs i; unfold sealedT; dsimp only; omega
  · by_cases h : i = o
    · rw [if_pos h]; intro e; simp at e
    · rw [if_neg h]; intro e; unfold sealedT at e; simp at e
section
variable {w w' : World} {S : Nat → Prop} {p g lg ab c : Nat} {m : MS} {s : LS} {L W : Int}

set_option maxRecDepth 100000 in
set_option maxHeartbeats 4000000 in
theorem begin_ok (hM : Md w S p g m) (h : LgAt w g lg ab c s) (hsl : s.ac.length = m.segs.length) (q : Nat) (hq : q < m.segs.length) (u : Int) (hu : 0 ≤ u ∧ u ≤ ((m.at_ q).size : Int)) (ps : List T3) (A : Option Addr) (cp : Nat) (F : Nat → Prop) (hF : ∀ k, F k → k < w.heap.size) (hP : PsF w F ps A cp) :
    Calls Try.prog 46 #[.pointer (some ⟨lg, 0, none⟩), .int .i64 (q : Int), .int .i64 u, .slice A ps.length cp] w (SePost g lg ab c ⟨q, foundP m q u⟩ ps w) := by
  have hms := hM.seglen
  have hsz : ∀ i, (m.at_ i).size ≤ 1048576 := fun i => by
    have h1 := hM.at_le i
    obtain ⟨sb, vs, vp, hm⟩ := hM
    have := hm.bnd.1.2
    omega
  have hfo := foundP_ok hms hq (u := u) (by have := hsz q; omega) hsz
  have cH := has_ok h (q : Int)
  rw [decide_eq_true (show 0 ≤ (q : Int) ∧ (q : Int) < (s.ac.length : Int) by omega)] at cH
  have cU := used_nat hM q hq
  have hps := hP.2.1
  obtain ⟨x0, x1, x2⟩ := h.x
  obtain ⟨l1, l2⟩ := h.lt
  have HSL := powers.lay hsl
  rw [hsl] at x2
  obtain ⟨n, hn⟩ : ∃ n, m.segs.length = n := ⟨_, rfl⟩
  rw [hn] at hms hq x2
  have HN := powers.lay hn
  have hcap : n ≤ c := by rw [← hn, ← hsl]; exact h.cap
  have hsq := hsz q
  have d1 : decide (u < 0) = false := decide_eq_false (by omega)
  have d2 : decide (((m.at_ q).size : Int) < u) = false := decide_eq_false (by omega)
  have HSQ := powers.lay (show ∀ i, (m.at_ i).size ≤ 1048576 from hsz)
  clear hsz hn hsl
  generalize (m.at_ q).size = sq at *
  obtain ⟨M, hmk, hrow⟩ := mk_ac hms
  have h0 := hrow w w.heap.size (Nat.le_refl _)
  have b0 : Below w.heap.size w (w.alloc (.cells M 156)) := (Below.refl _ _).alloc (Nat.le_refl _) _
  obtain ⟨W1, hW1⟩ : ∃ W1, w.alloc (.cells M 156) = W1 := ⟨_, rfl⟩
  rw [hW1] at h0 b0
  obtain ⟨pn, hpn⟩ : ∃ pn, ps.length = pn := ⟨_, rfl⟩
  have HPN := powers.lay hpn
  have HP := powers.lay hP
  have HH := powers.lay h
  have HM := powers.lay hM
  have HFO := powers.lay hfo
  rw [hpn] at hps ⊢
  clear hP hpn h hM hrow hfo
  go_enter Try.func46, Try.ntmps46
  go_wp2_with fail
  refine cH.mono ?_
  rintro e w ⟨rfl, rfl⟩
  clear cH
  go_wp2_with fail
  refine cU.mono ?_
  rintro e w ⟨rfl, rfl⟩
  clear cU
  go_wp2_with fail
  have hA0 : Ac W1 w.heap.size w.heap.size n (filled (sealedT m) n 0) := by rw [filled_zero]; unfold Ac; rw [List.length_replicate]; exact h0
  obtain ⟨a1, ha1⟩ : ∃ a1, w.heap.size = a1 := ⟨_, rfl⟩
  have HA1 := powers.lay ha1
  rw [ha1] at hA0 b0 l1 ⊢
  have HS : Hid (Ac W1 a1 a1 n (filled (sealedT m) n 0) ∧ Below a1 w W1) := powers.lay ⟨hA0, b0⟩
  clear hmk hA0 b0 h0 ha1
  go_loopw [39] (fun i wr => ∃ j : Nat, i = .int .i64 (j : Int) ∧ j ≤ n ∧ Hid (Ac wr a1 a1 n (filled (sealedT m) n j) ∧ Below a1 w wr)) (fun i _ => n - (RowKit.intOf i).toNat)
  case atStart => exact ⟨0, rfl, Nat.zero_le _, HS⟩
  case round =>
    clear HS
    obtain ⟨j, rfl, hj, HR⟩ := hrel
    have e1 : IntKind.i64.wrap ((j : Int) + 1) = (j : Int) + 1 := IntWalk.i64_in _ (by omega)
    have y0 := (HR.out.2.cell (p := ⟨lg, 0, none⟩) l1).trans x0
    by_cases hlt : j < n
    · have hjm : j < (filled (sealedT m) n j).length := by rw [filled_len _ hj]; exact hlt
      obtain ⟨v0, v1, v2⟩ := HR.out.1.cells hjm
      have f0 := World.ownsRow.frozenAt HR.out.1 (j * 3)
      have f1 := World.ownsRow.frozenAt HR.out.1 (j * 3 + 1)
      have f2 := World.ownsRow.frozenAt HR.out.1 (j * 3 + 2)
      have cU := used_nat (HM.out.below (w' := wr) (by rw [HA1.out]; exact HR.out.2)) j (by rw [HN.out]; exact hlt)
      generalize at3 (filled (sealedT m) n j) j = tv at v0 v1 v2
      obtain ⟨sz, hsz⟩ : ∃ sz : Int, ((m.at_ j).size : Int) = sz := ⟨_, rfl⟩
      rw [hsz] at cU
      have HSZ := powers.lay hsz
      clear hsz
      go_wp2_with fail
      refine cU.mono ?_
      rintro e wr ⟨rfl, rfl⟩
      clear cU
      go_wp2_with fail
      obtain ⟨h2, k2⟩ := HR.out.1.store3 hjm ⟨2, sz, 0⟩
      have hst : (filled (sealedT m) n j).set j ⟨2, sz, 0⟩ = filled (sealedT m) n (j + 1) := by rw [← filled_set _ hlt]; unfold sealedT; rw [HSZ.out]
      rw [hst] at h2
      have b2 := HR.out.2.trans (k2.below (B := a1) (fun k hk => by omega) (by have := HR.out.2.size; have := HA1.out; omega))
      go_roundw
      case rel => exact ⟨j + 1, by go_num, hlt, powers.lay ⟨h2, b2⟩⟩
      case measure => first | (simp [RowKit.intOf]; done) | (simp [RowKit.intOf]; omega) | omega
    · obtain rfl : n = j := by omega
      have hA := HR.out.1
      rw [filled_all] at hA
      have hln : ((List.range n).map (sealedT m)).length = n := by simp
      have hqm : q < ((List.range n).map (sealedT m)).length := by rw [hln]; exact hq
      obtain ⟨v0, v1, v2⟩ := hA.cells hqm
      have f0 := World.ownsRow.frozenAt hA (q * 3)
      have f1 := World.ownsRow.frozenAt hA (q * 3 + 1)
      have f2 := World.ownsRow.frozenAt hA (q * 3 + 2)
      generalize at3 ((List.range n).map (sealedT m)) q = tv at v0 v1 v2
      obtain ⟨h2, k2⟩ := hA.store3 hqm ⟨3, u, 0⟩
      have b2 := HR.out.2.trans (k2.below (B := a1) (fun k hk => by omega) (by have := HR.out.2.size; have := HA1.out; omega))
      rw [show ((List.range n).map (sealedT m)).set q ⟨3, u, 0⟩ = foundP m q u by unfold foundP; rw [HN.out]] at h2
      have q0 : (0 : Int) ≤ (q : Int) := by omega
      have q1 : (q : Int) < (n : Int) := by omega
      have hd0 := HH.out.head
      generalize hwd : ((wr.setCell ⟨a1, q * 3, none⟩ (.int .i64 3)).setCell ⟨a1, q * 3 + 1, none⟩ (.int .i64 u)).setCell ⟨a1, q * 3 + 2, none⟩ (.int .i64 0) = wd at h2 k2 b2
      have hPd : PsF wd F ps A cp := HP.out.agree (Agree.of_below b2 fun k hk => by have := hF k hk; have := HA1.out; omega)
      have cS := settled_ok h2 (by rw [foundP_len, HN.out]; exact hms) HFO.out.used ps A cp F (fun k hk => by have := hF k hk; have := b2.size; omega) hPd
      rw [HPN.out, foundP_len, HN.out] at cS
      have hbd : Below w.heap.size w wd := by rw [HA1.out]; exact b2
      clear hPd k2 b2 h2 hA
      go_wp2_with fail
      refine cS.mono ?_
      rintro e w2 ⟨b3, ⟨hn, rfl⟩ | ⟨ac', a2, k1, hs, hl, rfl, hr⟩⟩
      · have HNN := powers.lay hn
        have hfin := hbd.trans (b3.mono hbd.size)
        clear cS hn
        go_wp2_with fail
        go_ret
        exact .inl ⟨HNN.out, rfl, hfin⟩
      · have hfin := hbd.trans (b3.mono hbd.size)
        have l1' : lg < w.heap.size := HH.out.lt.1
        have hd := HH.out.head.below hfin l1'
        have f5 := hd.frozen 1
        have f6 := hd.frozen 2
        have y1 := hd.cell 1
        have y2 := hd.cell 2
        simp only [List.getElem?_toArray, List.getElem?_cons_zero, List.getElem?_cons_succ] at y1 y2
        have HS := powers.lay hs
        have HR2 := powers.lay hr
        have HL := powers.lay hl
        have hlo := hr.low
        have hsz2 := hbd.size
        clear cS hs hr hl x0 x1 x2 v0 v1 v2 f0 f1 f2 y0
        have hd2 := (hd.put 1 (.int .i64 (q : Int))).put 2 (.slice (some ⟨a2, 0, none⟩) ac'.length k1)
        simp only [List.setIfInBounds_toArray, List.set_cons_zero, List.set_cons_succ] at hd2
        have kk := (grown_keep (grown_set w2 lg 1 (.int .i64 (q : Int)))).trans (grown_keep (grown_set (w2.setCell ⟨lg, 1, none⟩ (.int .i64 (q : Int))) lg 2 (.slice (some ⟨a2, 0, none⟩) ac'.length k1))) fun k hk _ => hk
        have hne : a2 ≠ lg := by omega
        go_wp2_with fail
        have hr2 : Ac ((w2.setCell ⟨lg, 1, none⟩ (.int .i64 (q : Int))).setCell ⟨lg, 2, none⟩ (.slice (some ⟨a2, 0, none⟩) ac'.length k1)) 0 a2 k1 ac' := ownsRow_base (HR2.out.keep kk hne) fun g _ => Nat.zero_le _
        have kw : Keep (fun k => k = lg) w ((w2.setCell ⟨lg, 1, none⟩ (.int .i64 (q : Int))).setCell ⟨lg, 2, none⟩ (.slice (some ⟨a2, 0, none⟩) ac'.length k1)) := (Keep.of_below hfin).trans kk fun k hk _ => hk
        go_ret
        exact .inr ⟨ac', a2, k1, HS.out, rfl, ⟨hd2, hr2, hne, HFO.out.settled (by rw [HPN.out]; exact hps) HS.out⟩, kw, by omega⟩
end

end Go.Proofs.Ytblfacodfmbodaa.segs
