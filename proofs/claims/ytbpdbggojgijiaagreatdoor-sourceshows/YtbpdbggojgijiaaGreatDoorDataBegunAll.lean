/- What the statements ask of data in any case: dataBegun answers true. -/
import Derived.Test.YtbpdbggojgijiaaGreatDoorOffAAll
import Derived.Test.YtbpdbggojgijiaaGreatDoorDataOAll
namespace Go.Proofs.YtbpdbggojgijiaaGreatDoor
open Go Go.RowKit Go.Maps
set_option linter.unusedVariables false

theorem eu_fits (r b : Nat) (x : Int) (t : ByteArray) (ht : t.size ≤ 10) : (eu r b x t).fits := by
  have hm : ∀ n, n ≤ 10 → n ≤ maxLen := fun n hn => by unfold maxLen; omega
  refine ⟨hm _ (by simp [eu]), hm _ (by simp [eu]), hm _ (by simp [eu]), fun j _ => hm _ ?_, fun j _ => hm _ (by simp [eu]), fun j _ i _ => hm _ ?_, fun j _ => hm _ ?_, fun j _ => hm _ ?_, fun j _ i _ => hm _ ?_, fun j _ => hm _ ?_, fun j _ => hm _ ?_⟩
  · show ByteArray.size ⟨#[101, 117]⟩ ≤ 10; decide
  · show (spr i).s.size ≤ 10
    unfold spr; split <;> decide
  · show ((if j = 0 then _ else _ : Zn).nm).size ≤ 10
    split <;> (simp [ByteArray.size])
  · show (if j = 0 then _ else _ : Zn).n ≤ 10
    split <;> simp
  · show (((if j = 0 then _ else _ : Zn).es i).fm).size ≤ 10
    split
    · show (eu1 i).fm.size ≤ 10; unfold eu1; split <;> (simp [ByteArray.size])
    · show (eu2 x i).fm.size ≤ 10; simp [eu2, ByteArray.size]
  · show ((if j = 0 then _ else _ : Lk).nm).size ≤ 10
    split <;> (simp [ByteArray.size])
  · show ((if j = 0 then _ else _ : Lk).tgt).size ≤ 10
    split
    · exact ht
    · simp [ByteArray.size]

/-- data that lie in other blocks are not touched by a store -/
theorem cell_set_other {w : World} {p : Addr} {v : Value} {b o : Nat} (h : b ≠ p.block) : (w.setCell p v).cell? ⟨b, o, none⟩ = w.cell? ⟨b, o, none⟩ := World.cell?_of_block (Below.heap_setCell _ _ _ _ h)
theorem DAt_eu {w w' : World} {r b : Nat} {x y : Int} {t u : ByteArray} (h : DAt w (eu r b x t))
    (h0 : ∀ o, w'.cell? ⟨r, o, none⟩ = w.cell? ⟨r, o, none⟩) (h1 : ∀ o, w'.cell? ⟨b, o, none⟩ = w.cell? ⟨b, o, none⟩) (h2 : ∀ o, w'.cell? ⟨b + 1, o, none⟩ = w.cell? ⟨b + 1, o, none⟩) (h3 : ∀ o, w'.cell? ⟨b + 3, o, none⟩ = w.cell? ⟨b + 3, o, none⟩)
    (he : EAt w' (b + 2) 0 (eu2 y 0))
    (hl : ∀ j, j < 2 → w'.cell? ⟨b + 4, 0 + j * 2, none⟩ = some (.string ((eu r b y u).ls j).nm) ∧ w'.cell? ⟨b + 4, 0 + j * 2 + 1, none⟩ = some (.string ((eu r b y u).ls j).tgt)) : DAt w' (eu r b y u) := by
  obtain ⟨a1, a2, a3, a4, a5⟩ := h
  refine ⟨?_, ?_, ?_, ?_, .inr ⟨b + 4, 0, rfl, hl⟩⟩
  · rcases a1 with a | ⟨b', off, e, a⟩
    · exact .inl a
    · obtain ⟨rfl, rfl⟩ : b = b' ∧ 0 = off := by simpa [eu] using e
      exact .inr ⟨b, 0, rfl, fun j hj => by rw [h1, h1]; exact a j hj⟩
  · intro j hj
    rcases a2 j hj with a | ⟨b', off, e, a⟩
    · exact .inl a
    · obtain ⟨rfl, rfl⟩ : r = b' ∧ 0 = off := by simpa [eu] using e
      refine .inr ⟨r, 0, rfl, fun i hi => ?_⟩
      have h9 := a i hi
      unfold RAt at h9 ⊢
      simp only [h0]
      exact h9
  · rcases a3 with a | ⟨b', off, e, a⟩
    · exact .inl a
    · obtain ⟨rfl, rfl⟩ : b + 3 = b' ∧ 0 = off := by simpa [eu] using e
      refine .inr ⟨b + 3, 0, rfl, fun j hj => ?_⟩
      rw [h3, h3]
      have q := a j hj
      have hj' : j = 0 ∨ j = 1 := by simp [eu] at hj; omega
      rcases hj' with rfl | rfl <;> exact q
  · intro j hj
    have hj' : j = 0 ∨ j = 1 := by simp [eu] at hj; omega
    rcases hj' with rfl | rfl
    · rcases a4 0 hj with a | ⟨b', off, e, a⟩
      · exact .inl a
      · obtain ⟨rfl, rfl⟩ : b + 1 = b' ∧ 0 = off := by simpa [eu] using e
        refine .inr ⟨b + 1, 0, rfl, fun i hi => ?_⟩
        have h9 := a i hi
        unfold EAt at h9 ⊢
        simp only [h2]
        exact h9
    · refine .inr ⟨b + 2, 0, rfl, fun i hi => ?_⟩
      have hi' : i = 0 := by simp [eu] at hi; omega
      subst hi'
      exact he
theorem eu_kept {w w' : World} {r b : Nat} {x : Int} {t : ByteArray} (h : DAt w (eu r b x t)) (hr : r < b) (hk : ∀ k, k ≤ b + 4 → ∀ o, w'.cell? ⟨k, o, none⟩ = w.cell? ⟨k, o, none⟩) : DAt w' (eu r b x t) := by
  refine DAt_eu h (hk r (by omega)) (hk b (by omega)) (hk (b + 1) (by omega)) (hk (b + 3) (by omega)) ?_ ?_
  · rcases h.eras 1 (by simp [eu]) with h0 | ⟨b', off, e, a⟩
    · simp [eu] at h0
    · obtain ⟨rfl, rfl⟩ : b + 2 = b' ∧ 0 = off := by simpa [eu] using e
      have h9 := a 0 (by simp [eu])
      unfold EAt at h9 ⊢
      simp only [hk (b + 2) (by omega)]
      exact h9
  · rcases h.links with h0 | ⟨b', off, e, a⟩
    · simp [eu] at h0
    · obtain ⟨rfl, rfl⟩ : b + 4 = b' ∧ 0 = off := by simpa [eu] using e
      intro j hj
      rw [hk (b + 4) (by omega), hk (b + 4) (by omega)]
      exact a j hj
theorem eu_link {w : World} {r b : Nat} (h : DAt w (eu r b (-1) old)) (hr : r < b)
    (h2 : w.heap[b + 2]? = some (.cells #[.int .i64 (-18000), .int .i64 (-1), .int .i64 3600, .string ⟨#[88, 84]⟩, .int .i64 1893456000] 67))
    (h4 : w.heap[b + 4]? = some (.cells #[.string ⟨#[84, 111, 119, 110]⟩, .string old, .string ⟨#[84]⟩, .string ⟨#[84, 111, 119, 110]⟩] 54)) : DAt (w.setCell ⟨b + 4, 1, none⟩ (.string ⟨#[84]⟩)) (eu r b (-1) ⟨#[84]⟩) := by
  have hlt := (Array.getElem?_eq_some_iff.1 h4).1
  refine DAt_eu h (fun o => cell_set_other (by show r ≠ b + 4; omega)) (fun o => cell_set_other (by show b ≠ b + 4; omega)) (fun o => cell_set_other (by show b + 1 ≠ b + 4; omega)) (fun o => cell_set_other (by show b + 3 ≠ b + 4; omega)) ?_ ?_
  · have hc : ∀ o, (w.setCell ⟨b + 4, 1, none⟩ (.string ⟨#[84]⟩)).cell? ⟨b + 2, o, none⟩ = w.cell? ⟨b + 2, o, none⟩ := fun o => cell_set_other (by show b + 2 ≠ b + 4; omega)
    unfold EAt
    simp only [hc]
    refine ⟨?_, ?_, ?_, ?_, ?_⟩ <;> simp [World.cell?, h2, eu2]
  · have hk : (w.setCell ⟨b + 4, 1, none⟩ (.string ⟨#[84]⟩)).heap[b + 4]? = some (.cells #[.string ⟨#[84, 111, 119, 110]⟩, .string ⟨#[84]⟩, .string ⟨#[84]⟩, .string ⟨#[84, 111, 119, 110]⟩] 54) := by
      have h4' := (Array.getElem?_eq_some_iff.1 h4).2
      simp [World.setCell, hlt, Array.getElem_modify, h4']
    intro j hj
    have h : j = 0 ∨ j = 1 := by omega
    rcases h with rfl | rfl <;> constructor <;> simp [World.cell?, hk, eu]
theorem eu_era {w : World} {r b : Nat} (h : DAt w (eu r b (-1) old)) (hr : r < b)
    (h2 : w.heap[b + 2]? = some (.cells #[.int .i64 (-18000), .int .i64 (-1), .int .i64 3600, .string ⟨#[88, 84]⟩, .int .i64 1893456000] 67))
    (h4 : w.heap[b + 4]? = some (.cells #[.string ⟨#[84, 111, 119, 110]⟩, .string old, .string ⟨#[84]⟩, .string ⟨#[84, 111, 119, 110]⟩] 54)) : DAt (w.setCell ⟨b + 2, 1, none⟩ (.int .i64 0)) (eu r b 0 old) := by
  have hlt := (Array.getElem?_eq_some_iff.1 h2).1
  refine DAt_eu h (fun o => cell_set_other (by show r ≠ b + 2; omega)) (fun o => cell_set_other (by show b ≠ b + 2; omega)) (fun o => cell_set_other (by show b + 1 ≠ b + 2; omega)) (fun o => cell_set_other (by show b + 3 ≠ b + 2; omega)) ?_ ?_
  · have hk : (w.setCell ⟨b + 2, 1, none⟩ (.int .i64 0)).heap[b + 2]? = some (.cells #[.int .i64 (-18000), .int .i64 0, .int .i64 3600, .string ⟨#[88, 84]⟩, .int .i64 1893456000] 67) := by
      have h2' := (Array.getElem?_eq_some_iff.1 h2).2
      simp [World.setCell, hlt, Array.getElem_modify, h2']
    refine ⟨?_, ?_, ?_, ?_, ?_⟩ <;> simp [World.cell?, hk, eu2]
  · intro j hj
    have hc : ∀ o, (w.setCell ⟨b + 2, 1, none⟩ (.int .i64 0)).cell? ⟨b + 4, o, none⟩ = w.cell? ⟨b + 4, o, none⟩ := fun o => cell_set_other (by show b + 4 ≠ b + 2; omega)
    rw [hc, hc]
    have h : j = 0 ∨ j = 1 := by omega
    rcases h with rfl | rfl <;> constructor <;> simp [World.cell?, h4, eu]
end Go.Proofs.YtbpdbggojgijiaaGreatDoor

/- What the statements ask of data in any case: dataBegun answers true. -/
namespace Go.Proofs.YtbpdbggojgijiaaGreatDoor
open Go Go.RowKit Go.Maps
set_option linter.unusedVariables false

/-- europe, its slices written out -/
theorem europe_x (w : World) : Calls Tryz.prog 28 #[] w fun e w' => ∃ r b, e = .returned (.agg #[.slice (some ⟨b, 0, none⟩) 1 1, .slice (some ⟨b + 3, 0, none⟩) 2 2, .slice (some ⟨b + 4, 0, none⟩) 2 2]) ∧ DAt w' (eu r b (-1) old) ∧ r < b ∧ w.heap.size ≤ b ∧ Below w.heap.size w w'
    ∧ w'.heap[b + 2]? = some (.cells #[.int .i64 (-18000), .int .i64 (-1), .int .i64 3600, .string ⟨#[88, 84]⟩, .int .i64 1893456000] 67)
    ∧ w'.heap[b + 4]? = some (.cells #[.string ⟨#[84, 111, 119, 110]⟩, .string old, .string ⟨#[84]⟩, .string ⟨#[84, 111, 119, 110]⟩] 54) := europe_c w
theorem eu_small (s : ByteArray) (h : s.size ≤ 10) : s.size ≤ maxLen := by unfold maxLen; omega
theorem old10 : old.size ≤ 10 := by decide
theorem check_eu (r b : Nat) (x : Int) (t : ByteArray) (e : Int) (w : World) (hE : Env w (eu r b x t)) (ht : t.size ≤ 10) (he : chkE (eu r b x t) = e) :
    Calls Tryz.prog 12 #[.agg #[.slice (some ⟨b, 0, none⟩) 1 1, .slice (some ⟨b + 3, 0, none⟩) 2 2, .slice (some ⟨b + 4, 0, none⟩) 2 2]] w fun e' w' => e' = .returned (.int .i64 e) ∧ Below w.heap.size w w' := by
  subst he
  exact DCheck_c (eu r b x t) w hE (eu_fits r b x t ht)
theorem name_eu (s : ByteArray) (v : Bool) (w : World) (hs : s.size ≤ 10) (hv : nameB s = v) : Calls Tryz.prog 59 #[.string s] w fun e w' => e = .returned (.bool v) ∧ w' = w := by
  subst hv
  exact Name_c s w (eu_small s hs)
theorem X0 (r b : Nat) : zonR (eu r b (-1) old) ⟨#[88]⟩ = 0 := by
  unfold zonR
  have h : (leadK (eu r b (-1) old) ((eu r b (-1) old).nl + 1) ⟨#[88]⟩).2 = 4 := by have := eu_X r b; unfold zonE at this; rwa [if_pos (eu_ok r b)] at this
  rw [if_pos (eu_ok r b), h]; rfl

end Go.Proofs.YtbpdbggojgijiaaGreatDoor
