/- Lists that are a call's own, as they are answered. -/
import Derived.Test.YtnkfboplafckoaaNdU
import Derived.Test.YtnkfboplafckoaaTrG


namespace Go.Proofs.Ytnkfboplafckoaa.nodes
set_option linter.unusedVariables false
set_option linter.unusedSimpArgs false
open Go.RowKit Go.Proofs.Ytnkfboplafckoaa.base Go.Proofs.Ytnkfboplafckoaa.quotas Go.Proofs.Ytnkfboplafckoaa.vers Go.Proofs.Ytnkfboplafckoaa.tm Go.Proofs.Ytnkfboplafckoaa.lies Go.Proofs.Ytnkfboplafckoaa.copies Go.Proofs.Ytnkfboplafckoaa.makes Go.Proofs.Ytnkfboplafckoaa.trees

def FrameO (w w2 : World) (lo hi : Nat) : Prop := ∀ k, lo ≤ k → k < hi → w2.heap[k]? = w.heap[k]?
abbrev Bt (lo hi : Nat) (g : Nat) : Prop := lo ≤ g ∧ g < hi
def HVo (w : World) (lo hi : Nat) (l : List V) (A : Option Addr) (c : Nat) : Prop := ∀ s, OwnVF w (Bt lo hi) ⟨s, l, A, c⟩
def HEo (w : World) (lo hi : Nat) (l : List E) (A : Option Addr) (c : Nat) : Prop := OwnEF w (Bt lo hi) l (.slice A l.length c)
def HKo (w : World) (lo hi : Nat) (l : List K) (A : Option Addr) (c : Nat) : Prop := OwnKF w (Bt lo hi) l (.slice A l.length c)
theorem FrameO.of_below {w w' : World} {lo hi : Nat} (hb : Below hi w w') : FrameO w w' lo hi := fun k _ k2 => hb.block k k2
section
variable {w w' w2 : World} {lo hi lo' hi' B2 : Nat} {A : Option Addr} {c : Nat}
theorem HVo.move {l : List V} (h : HVo w lo hi l A c) (h1 : lo' ≤ lo) (h2 : hi ≤ hi') (hk : FrameO w w' lo hi) : HVo w' lo' hi' l A c := fun s => ((h s).agree fun g hg => hk g hg.1 hg.2).mono fun g hg => ⟨by have := hg.1; omega, by have := hg.2; omega⟩
theorem HEo.move {l : List E} (h : HEo w lo hi l A c) (h1 : lo' ≤ lo) (h2 : hi ≤ hi') (hk : FrameO w w' lo hi) : HEo w' lo' hi' l A c := OwnEF.mono (OwnEF.agree h fun g hg => hk g hg.1 hg.2) fun g hg => ⟨by have := hg.1; omega, by have := hg.2; omega⟩
theorem HKo.move {l : List K} (h : HKo w lo hi l A c) (h1 : lo' ≤ lo) (h2 : hi ≤ hi') (hk : FrameO w w' lo hi) : HKo w' lo' hi' l A c := OwnKF.mono (OwnKF.agree h fun g hg => hk g hg.1 hg.2) fun g hg => ⟨by have := hg.1; omega, by have := hg.2; omega⟩
theorem HVo.nil (w : World) (lo hi : Nat) : HVo w lo hi [] none 0 := fun _ => ⟨⟨rfl, .inl ⟨rfl, rfl⟩⟩, by simp, (fun y h => by cases h), fun g h => by cases h⟩
theorem HEo.nil (w : World) (lo hi : Nat) : HEo w lo hi [] none 0 := ⟨⟨rfl, .inl ⟨rfl, rfl⟩⟩, by simp, (fun g h => by cases h), fun x h => by cases h⟩
theorem HKo.nil (w : World) (lo hi : Nat) : HKo w lo hi [] none 0 := ⟨⟨rfl, .inl ⟨rfl, rfl⟩⟩, by simp, (fun g h => by cases h), fun x h => by cases h⟩
theorem HEo.es {l : List E} (h : HEo w lo hi l A c) (hB : hi ≤ B2) (hf : FrameO w w2 lo hi) : Es w2 B2 l A c := by
  obtain ⟨A', c', e, h'⟩ := OwnEF.es h
  injection e with e1 _ e2
  subst e1 e2
  exact (h'.agree fun g hg => hf g hg.1 hg.2).mono fun g hg => by have := hg.2; omega
theorem HKo.ks {l : List K} (h : HKo w lo hi l A c) (hB : hi ≤ B2) (hf : FrameO w w2 lo hi) : Ks w2 B2 l A c := by
  obtain ⟨A', c', e, h'⟩ := OwnKF.ks h
  injection e with e1 _ e2
  subst e1 e2
  exact (h'.agree fun g hg => hf g hg.1 hg.2).mono fun g hg => by have := hg.2; omega
end
theorem OwnV.hvo {lo : Nat} {w : World} {l : List V} {v : Value} (h : OwnV lo w l v) : ∃ A c, v = .slice A l.length c ∧ HVo w lo w.heap.size l A c := by
  obtain ⟨h1, h2, h3⟩ := h
  obtain ⟨A, c, rfl, _⟩ := row_held h1
  exact ⟨A, c, rfl, fun s => ⟨ownsRow_base h1 (fun g hg => Nat.zero_le _), h2, h3, fun g hg => h1.lt g hg⟩⟩
theorem OwnK.hko {lo : Nat} {w : World} {l : List K} {v : Value} (h : OwnK lo w l v) : ∃ A c, v = .slice A l.length c ∧ HKo w lo w.heap.size l A c := by
  obtain ⟨h1, h2, h3⟩ := h
  obtain ⟨A, c, rfl, _⟩ := row_held h1
  exact ⟨A, c, rfl, ownsRow_base h1 (fun g hg => Nat.zero_le _), h2, fun g hg => h1.lt g hg, h3⟩
def OwnEo (lo : Nat) (w : World) (l : List E) (v : Value) : Prop := w.ownsRow lo 53 2 v l.length (cellsE l) ∧ l.length * 40 ≤ 140737488355328 ∧ ∀ x ∈ l, OwnVF w (fun g => Bt lo w.heap.size g ∧ some g ≠ v.ownBlock) x ∧ x.s.size ≤ maxLen
theorem OwnEo.nil (lo : Nat) (w : World) : OwnEo lo w [] (.slice none 0 0) := ⟨⟨rfl, .inl ⟨rfl, rfl⟩⟩, by simp, fun x h => by cases h⟩
theorem OwnEo.own {lo : Nat} {w : World} {l : List E} {v : Value} (h : OwnEo lo w l v) : ∀ k, v.ownBlock = some k → lo ≤ k ∧ k < w.heap.size := h.1.lt
theorem OwnEo.below {lo : Nat} {w w' : World} {l : List E} {v : Value} (h : OwnEo lo w l v) (hb : Below w.heap.size w w') : OwnEo lo w' l v :=
  ⟨ownsRow_agree h.1 (fun g hg => hb.block g (h.own g hg).2), h.2.1, fun x hx => ⟨((h.2.2 x hx).1.agree fun g hg => hb.block g hg.1.2).mono fun g hg => ⟨⟨hg.1.1, Nat.lt_of_lt_of_le hg.1.2 hb.size⟩, hg.2⟩, (h.2.2 x hx).2⟩⟩
theorem OwnEo.heo {lo : Nat} {w : World} {l : List E} {v : Value} (h : OwnEo lo w l v) : ∃ A c, v = .slice A l.length c ∧ HEo w lo w.heap.size l A c := by
  obtain ⟨h1, h2, h3⟩ := h
  obtain ⟨A, c, rfl, _⟩ := row_held h1
  exact ⟨A, c, rfl, ownsRow_base h1 (fun g hg => Nat.zero_le _), h2, (fun g hg => h1.lt g hg), h3⟩
theorem append_Eo {ops : Array Oper} {rest : List Oper} {o : Oper} {a : Act} {Q : Exit → Act → World → Prop} (hgd : o.guard = none) (s x : Operand)
    (ho : o.op = .call { callee := .builtin .append, args := #[s, x], argTypes := #[24, 24] })
    {lo lo' hi : Nat} {w : World} {v : Value} {l : List E} {y : E} (hown : OwnEo lo w l v) (hs : a.eval s = v) (hlo : lo ≤ w.heap.size) (hy : HVo w lo' hi y.l y.A y.c) (hys : y.s.size ≤ maxLen) (hhi : hi ≤ w.heap.size) (hlo' : lo ≤ lo') (hle : ∀ k, v.ownBlock = some k → k < lo') {cs : Array Value} (hcs : cs.toList = y.cells)
    {q : Nat} (hx : a.eval x = .slice (some ⟨q, 0, none⟩) 1 1) (hqz : q = w.heap.size) (hlen : (l.length + 1) * 40 ≤ 140737488355328)
    (h : ∀ v' w', OwnEo lo w' (l ++ [y]) v' → Below lo w w' → w.heap.size ≤ w'.heap.size → (∀ g T c, T ≠ 53 → Blk w g T c → Blk w' g T c) → wpList Try.prog ops Q rest (a.put o.dst v') w') :
    wpList Try.prog ops Q (o :: rest) a (w.alloc (.cells cs 53)) := by
  obtain ⟨i0, hi0, hz0, hz1, hz2⟩ := info_parts infoE
  refine wpList_put1 Try.underlying24 hi0 hz0 hz1 hz2 rfl (by decide) hgd s x ho (ownsRow_base hown.1 (fun g hg => Nat.zero_le _)) hs (by rw [hcs]; rfl) ?_ hx hqz hlen (by unfold maxLen; omega) ?_
  · intro u hu; rw [hcs] at hu; simp [E.cells] at hu; rcases hu with rfl | rfl <;> rfl
  · intro v' w' h1 hK hv hsz
    have hlo2 : ∀ k, v'.ownBlock = some k → lo ≤ k := fun k hk => by
      rcases hv k hk with e | e
      · exact (hown.own k e).1
      · omega
    refine h v' w' ⟨ownsRow_base (lo := 0) ?_ hlo2, by rw [List.length_append]; exact hlen, fun z hz => ?_⟩ (hK.below (fun g hg => (hown.own g hg).1) hlo) (by omega) ?_
    · rw [hcs] at h1
      rw [List.length_append, cellsE_app]
      simpa [cellsE] using h1
    · rcases List.mem_append.1 hz with hz | hz
      · refine ⟨((hown.2.2 z hz).1.agree fun g hg => hK.block g hg.1.2 (fun e => hg.2 e.symm)).mono fun g hg => ⟨⟨hg.1.1, by have := hg.1.2; omega⟩, fun e => ?_⟩, (hown.2.2 z hz).2⟩
        rcases hv g e.symm with e1 | e1
        · exact hg.2 e1.symm
        · have := hg.1.2; omega
      · rw [List.mem_singleton.1 hz]
        refine ⟨((hy y.s).agree fun g hg => hK.block g (by have := hg.2; omega) (fun e => by have := hle g e; have := hg.1; omega)).mono fun g hg => ⟨⟨by have := hg.1; omega, by have := hg.2; omega⟩, fun e => ?_⟩, hys⟩
        rcases hv g e.symm with e1 | e1
        · have := hle g e1; have := hg.1; omega
        · have := hg.2; omega
    · intro g T c hT hb
      refine (hK.block g hb.lt fun e1 => ?_).trans hb
      rcases hown.1.2 with ⟨rfl, _⟩ | ⟨g', cap, cur, rfl, _, hh, _⟩
      · simp [Value.ownBlock] at e1
      · simp [Value.ownBlock] at e1
        subst e1
        unfold Blk at hb
        rw [hh] at hb
        injection hb with hb
        injection hb with _ hb
        exact hT hb.symm
end Go.Proofs.Ytnkfboplafckoaa.nodes
