/- climber.up with tree.join over a list of steps; what neighbours found, as the steps of up. -/
import Derived.Test.YtnndohdiiglgmaaKDlM
import Derived.Test.YtnndohdiiglgmaaKDlF


namespace Go.Proofs.Ytnndohdiiglgmaa.trees
set_option linter.unusedVariables false
set_option linter.unusedSimpArgs false
open Go.RowKit Go.Shelf Go.Proofs.Ytnndohdiiglgmaa.base Go.Proofs.Ytnndohdiiglgmaa.vers Go.Proofs.Ytnndohdiiglgmaa.nodes Go.Proofs.Ytnndohdiiglgmaa.quotas

theorem up_steps (xs : List SJ) (A : Option Addr) (c : Nat) (x0 : N) (h : Nat) (S : Nat → Prop) (ns : List P3) (F : Nat → Prop) (w : World) (hh : Hp w h S ns) (hS : StF w F (xs.map SJ.st) A c) (hx : NsF w F x0) (hF : ∀ g, F g → g < w.heap.size ∧ ¬ S g)
    (hst : ∀ x ∈ xs, SnOk w F x) (hx0 : small x0.p) (hn : ns.length + 2 * xs.length ≤ 20000) (hxQ : ∀ a, x0.Q = some a → a.block < w.heap.size) :
    Calls Try.prog 51 #[clim h, .slice A xs.length c, x0.val, (.func (.func 52) #[] #[])] w (UpPost w h S (upJ (ns, x0.p) xs.reverse)) := by
  cases xs with
  | nil =>
    have h0 := up_join (α := Unit) (fun _ => ⟨x0, 0, [], none, 0, [], none, 0⟩) [] () A c x0 h S ns F w hh hS hx hF (fun e => by simp at e) hx0 hn hxQ
    exact h0
  | cons s0 l =>
    obtain ⟨L, hL⟩ : ∃ L, L = (s0 :: l).attachWith (fun x : SJ => SnOk w F x) hst := ⟨_, rfl⟩
    have e : L.map (fun a => a.1) = s0 :: l := by rw [hL]; exact List.attachWith_map_subtype_val _
    have e2 : L.length = (s0 :: l).length := by rw [hL, List.length_attachWith]
    have e3 : L.map (fun a => a.1.st) = (s0 :: l).map SJ.st := by rw [← e, List.map_map]; rfl
    have h0 := up_join (fun a : { x : SJ // SnOk w F x } => a.1) L ⟨s0, hst s0 List.mem_cons_self⟩ A c x0 h S ns F w hh (by rw [e3]; exact hS) hx hF (fun _ a => a.2) hx0 (by rw [e2]; exact hn) hxQ
    have e4 : ((back L ⟨s0, hst s0 List.mem_cons_self⟩ L.length).map fun p : Nat × { x : SJ // SnOk w F x } => p.2.1) = (s0 :: l).reverse := by
      rw [← e, ← List.map_reverse, ← back_rev L ⟨s0, hst s0 List.mem_cons_self⟩, List.map_map]
      rfl
    rw [e4, e2] at h0
    exact h0
theorem sd_list {way : List PS} {abs : List AB} (xs : List SJ) (hw : xs.map (fun x => pst x.w) = way) (ha : xs.map SJ.ab = abs) : xs.reverse.map (fun x => ((x.n.p, x.at_, x.la.map N.p, x.lb.map N.p) : SD)) = (desc way.length way.length).map (sdAt way abs) := by
  subst hw; subst ha
  refine List.ext_getElem (by simp [desc]) fun i h1 h2 => ?_
  simp only [List.length_map, List.length_reverse] at h1
  simp only [List.getElem_map, List.getElem_reverse, desc, List.getElem_range, sdAt, List.getElem?_map, List.length_map]
  rw [List.getElem?_eq_getElem (show xs.length - 1 - i < xs.length by omega)]
  rfl
theorem KidsOf.has {ns : List P3} {T : P3 → List PE → Prop} : ∀ {ks : List K} {L : List PE}, KidsOf ns T ks L → ∀ k ∈ ks, ∃ y L', pageAt ns k.r = some y ∧ T y L' ∧ partsP y ≤ 4
  | [], _, _, k, hk => by cases hk
  | k0 :: ks, L, h, k, hk => by
    obtain ⟨L1, L2, y, e, hy, ty, hl, hp, hn⟩ := h
    rcases List.mem_cons.1 hk with rfl | hk
    · exact ⟨y, L1, hy, ty, hp.2⟩
    · exact KidsOf.has hn k hk
theorem Tree.small {ns : List P3} {h : Nat} {y : P3} {L : List PE} (t : Tree ns h y L) (hp : partsP y ≤ 4) : small y := by
  cases h with
  | zero =>
    cases (show y = (true, L, []) from t)
    have : L.length ≤ 4 := hp
    exact ⟨by show L.length ≤ 1000; omega, Nat.zero_le _⟩
  | succ h =>
    obtain ⟨a, b, c, d⟩ := t
    have : y.2.2.length ≤ 4 := by simpa [partsP, a] using hp
    exact ⟨by rw [b]; exact Nat.zero_le _, by omega⟩
/-- the nodes on the way down: no leaves, small, with small neighbours -/
theorem way_tree {ns : List P3} (s : ByteArray) : ∀ (h : Nat) (x : P3) (L : List PE) (f d : Nat), Tree ns h x L → Inc (nm L) → partsP x ≤ 4 → h ≤ f → d + h ≤ 8 →
    ∀ way leaf, afterE ns s f x d = .ok (way, leaf) → WayOk ns way ∧ (∀ p ∈ way, p.1.1 = false) ∧ leaf.2.2 = []
  | 0, x, L, f, d, t, hI, hp, hf, hd, way, leaf, he => by
    cases (show x = (true, L, []) from t)
    rw [afterE, if_pos rfl] at he
    cases he
    exact ⟨fun p hp => (by cases hp), fun p hp => (by cases hp), rfl⟩
  | h + 1, x, L, f, d, t, hI, hp, hf, hd, way, leaf, he => by
    obtain ⟨a, b, c, t⟩ := t
    obtain ⟨f, rfl⟩ : ∃ f', f = f' + 1 := ⟨f - 1, by omega⟩
    obtain ⟨hlt, k, La, Lk, Lb, y, hk, ek, eL, ka, kb, hy, ty, hpy, hla, hlb⟩ := t.at_ s c hI
    have hIk : Inc (nm Lk) := by
      rw [eL] at hI
      simp only [nm, List.map_append] at hI
      exact (inc_app.1 (inc_app.1 hI).1).2.1
    have hkr : (x.2.2[belP x.2.2 s]?.getD zK).r = k.r := by rw [hk]; rfl
    have hpage : pageE ns k.r (d + 1) = .ok y := Tree.page hy ty (by omega)
    rw [afterE, if_neg (by simp [a]), hkr, downE_ok hpage] at he
    cases h1 : afterE ns s f y (d + 1) with
    | error e => rw [h1] at he; cases he
    | ok v =>
      obtain ⟨way', leaf'⟩ := v
      rw [h1] at he
      cases he
      obtain ⟨i1, i2, i3⟩ := way_tree s h y Lk f (d + 1) ty hIk hpy.2 (by omega) (by omega) way' leaf h1
      have hl4 : x.2.2.length ≤ 4 := by simpa [partsP, a] using hp
      refine ⟨fun p hp' => ?_, fun p hp' => ?_, i3⟩
      · rcases List.mem_cons.1 hp' with rfl | hp'
        · refine ⟨hlt, by show x.2.2.length ≤ 900; omega, by show x.2.1.length ≤ 1000; rw [b]; exact Nat.zero_le _, fun d' lf r hr n hn => ?_⟩
          have one : ∀ k' : K, k' ∈ x.2.2 → ∀ z, pageE ns k'.r d' = .ok z → small z := fun k' hk' z hz => by
            obtain ⟨y', L', q1, q2, q3⟩ := t.has k' hk'
            unfold pageE at hz
            split at hz
            · cases hz
            · rw [q1] at hz
              simp only at hz
              split at hz
              · cases hz
              · cases hz
                exact q2.small q3
          have hz0 : ∀ j, j < x.2.2.length → x.2.2[j]?.getD zK ∈ x.2.2 := fun j hj => by
            rw [List.getElem?_eq_getElem hj]
            exact List.getElem_mem hj
          simp only [besideP] at hr
          split at hr
          · cases hr
          · rename_i z hz
            have hj : (if belP x.2.2 s + 1 < x.2.2.length then belP x.2.2 s + 1 else belP x.2.2 s - 1) < x.2.2.length := by split <;> omega
            have hsz := one _ (hz0 _ hj) z hz
            split at hr
            · cases hr; cases hn
            · split at hr
              · cases hr
                simp at hn
                rw [hn]; exact hsz
              · cases hr
                simp at hn
                rw [hn]; exact hsz
        · exact i1 p hp'
      · rcases List.mem_cons.1 hp' with rfl | hp'
        · exact a
        · exact i2 p hp'
end Go.Proofs.Ytnndohdiiglgmaa.trees
