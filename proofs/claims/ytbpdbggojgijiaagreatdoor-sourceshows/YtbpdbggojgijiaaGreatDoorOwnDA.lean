/- Rows of structs, to be copied: their cells, one behind the other; what is kept where a row of one type grows. -/
import Derived.Test.YtbpdbggojgijiaaGreatDoorSameD
import Derived.Test.YtbpdbggojgijiaaGreatDoorAppRow
import Derived.Test.YtbpdbggojgijiaaGreatDoorRefApAll
namespace Go.Proofs.YtbpdbggojgijiaaGreatDoor
open Go Go.RowKit Go.Maps
set_option linter.unusedVariables false

/-- n structs of S cells each -/
def rowC (f : Nat → List Value) (n : Nat) : List Value := (List.range n).flatMap f
theorem rowC_succ (f : Nat → List Value) (n : Nat) : rowC f (n + 1) = rowC f n ++ f n := by
  unfold rowC
  rw [List.range_succ, List.flatMap_append]
  simp
theorem rowC_len {f : Nat → List Value} {S : Nat} (h : ∀ j, (f j).length = S) : ∀ n, (rowC f n).length = n * S
  | 0 => by simp [rowC]
  | n + 1 => by rw [rowC_succ, List.length_append, rowC_len h n, h, Nat.succ_mul]
theorem rowC_at {f : Nat → List Value} {S : Nat} (h : ∀ j, (f j).length = S) : ∀ {n j o : Nat}, j < n → o < S → (rowC f n)[j * S + o]? = (f j)[o]?
  | 0, j, o, hj, _ => absurd hj (Nat.not_lt_zero _)
  | n + 1, j, o, hj, ho => by
    rw [rowC_succ]
    have hl := rowC_len h n
    by_cases e : j < n
    · have : j * S + o < n * S := by
        have : (j + 1) * S ≤ n * S := Nat.mul_le_mul_right _ e
        rw [Nat.succ_mul] at this
        omega
      rw [List.getElem?_append_left (by omega)]
      exact rowC_at h e ho
    · obtain rfl : j = n := by omega
      rw [List.getElem?_append_right (by omega), hl]
      congr 1
      omega
theorem rowC_inv {f : Nat → List Value} {S : Nat} (h : ∀ j, (f j).length = S) {n i : Nat} {u : Value} (hu : (rowC f n)[i]? = some u) : i / S < n ∧ i % S < S ∧ i = (i / S) * S + i % S ∧ (f (i / S))[i % S]? = some u := by
  have hl := rowC_len h n
  have hi := (List.getElem?_eq_some_iff.1 hu).1
  have hS : 0 < S := by
    rcases Nat.eq_zero_or_pos S with e | e
    · subst e; omega
    · exact e
  have h1 : i / S < n := (Nat.div_lt_iff_lt_mul hS).2 (by omega)
  have h2 := Nat.mod_lt i hS
  have h3 : i = (i / S) * S + i % S := by rw [Nat.mul_comm]; exact (Nat.div_add_mod i S).symm
  refine ⟨h1, h2, h3, ?_⟩
  rw [← rowC_at h h1 h2, ← h3]
  exact hu
theorem rowC_one {f : Nat → List Value} {n : Nat} (h : ∀ j, ∀ u ∈ f j, u.oneCell' = true) : ∀ u ∈ rowC f n, u.oneCell' = true := by
  intro u hu
  obtain ⟨j, _, hj⟩ := List.mem_flatMap.1 hu
  exact h j u hj
theorem rowC_congr {f g : Nat → List Value} : ∀ {n : Nat}, (∀ j, j < n → f j = g j) → rowC f n = rowC g n
  | 0, _ => rfl
  | n + 1, h => by rw [rowC_succ, rowC_succ, rowC_congr (fun j hj => h j (by omega)), h n (by omega)]
/-- a row that lies in memory, as an append reads it -/
theorem rowC_news {w : World} {f : Nat → List Value} {S : Nat} (h : ∀ j, (f j).length = S) {n b off : Nat} (hc : ∀ j, j < n → ∀ o u, (f j)[o]? = some u → w.cell? ⟨b, off + j * S + o, none⟩ = some u) : ∀ i u, (rowC f n)[i]? = some u → w.cell? ((⟨b, off, none⟩ : Addr).add i) = some u := fun i u hu => by
  have hadd : (⟨b, off, none⟩ : Addr).add i = ⟨b, off + i, none⟩ := by unfold Addr.add; split <;> simp_all
  obtain ⟨h1, h2, h3, h4⟩ := rowC_inv h hu
  rw [hadd]
  have := hc _ h1 _ _ h4
  rw [← this]
  congr 2
  omega
theorem own_cells {w : World} {base S n : Nat} {e : TypeId} {v : Value} {f : Nat → List Value} (hf : ∀ j, (f j).length = S) (h : w.ownsRow base e S v n (rowC f n)) : ∃ a c, v = .slice a n c ∧ n ≤ c ∧ c ≤ maxLen ∧ (n = 0 ∨ ∃ g, a = some ⟨g, 0, none⟩ ∧ base ≤ g ∧ ∀ j, j < n → ∀ o u, (f j)[o]? = some u → w.cell? ⟨g, 0 + j * S + o, none⟩ = some u) := by
  rcases h.2 with ⟨rfl, rfl⟩ | ⟨g, cap, cur, rfl, hb, hg, hn, hm, hs, ht⟩
  · exact ⟨none, 0, rfl, Nat.le_refl _, by unfold maxLen; omega, .inl rfl⟩
  · refine ⟨_, cap, rfl, hn, hm, .inr ⟨g, rfl, hb, fun j hj o u hu => ?_⟩⟩
    have ho : o < S := by rw [← hf j]; exact (List.getElem?_eq_some_iff.1 hu).1
    have : j * S + o < n * S := by
      have : (j + 1) * S ≤ n * S := Nat.mul_le_mul_right _ hj
      rw [Nat.succ_mul] at this
      omega
    rw [Nat.zero_add, h.cellAt _ this, rowC_at hf hj ho]
    exact hu
/-- the cells of rules, eras, links -/
def ruC (rs : Nat → Rl) (j : Nat) : List Value := (rs j).cs.toList
def erC (es : Nat → Er) (j : Nat) : List Value := (es j).cs.toList
def liC (l1 l2 : Nat → ByteArray) (j : Nat) : List Value := [.string (l1 j), .string (l2 j)]
/-- the cells of sets and zones -/
def seC (nm : Nat → ByteArray) (vs : Nat → Value) (j : Nat) : List Value := [.string (nm j), vs j]
theorem ruC_len (rs : Nat → Rl) : ∀ j, (ruC rs j).length = 9 := fun _ => rfl
theorem erC_len (es : Nat → Er) : ∀ j, (erC es j).length = 5 := fun _ => rfl
theorem liC_len (l1 l2 : Nat → ByteArray) : ∀ j, (liC l1 l2 j).length = 2 := fun _ => rfl
theorem seC_len (nm : Nat → ByteArray) (vs : Nat → Value) : ∀ j, (seC nm vs j).length = 2 := fun _ => rfl
theorem ruC_one (rs : Nat → Rl) (j : Nat) : ∀ u ∈ ruC rs j, u.oneCell' = true := by
  intro u hu
  simp only [ruC] at hu
  simp at hu
  rcases hu with rfl | rfl | rfl | rfl | rfl | rfl | rfl | rfl | rfl <;> rfl
theorem erC_one (es : Nat → Er) (j : Nat) : ∀ u ∈ erC es j, u.oneCell' = true := by
  intro u hu
  simp only [erC] at hu
  simp at hu
  rcases hu with rfl | rfl | rfl | rfl | rfl <;> rfl
theorem liC_one (l1 l2 : Nat → ByteArray) (j : Nat) : ∀ u ∈ liC l1 l2 j, u.oneCell' = true := by
  intro u hu
  simp [liC] at hu
  rcases hu with rfl | rfl <;> rfl
theorem ru_news {w : World} {a : Option Addr} {n c : Nat} {rs : Nat → Rl} (h : ARow w a n c rs) : n = 0 ∨ ∃ ad, a = some ad ∧ ∀ i u, (rowC (ruC rs) n)[i]? = some u → w.cell? (ad.add i) = some u := by
  rcases h with h | ⟨b, off, h1, h2⟩
  · exact .inl h
  · refine .inr ⟨_, h1, rowC_news (ruC_len rs) fun j hj o u hu => ?_⟩
    obtain ⟨f0, f1, f2, f3, f4, f5, f6, f7, f8⟩ := h2 j hj
    simp only [ruC] at hu
    match o, hu with
    | 0, hu => simp at hu; rw [← hu]; exact f0
    | 1, hu => simp at hu; rw [← hu]; exact f1
    | 2, hu => simp at hu; rw [← hu]; exact f2
    | 3, hu => simp at hu; rw [← hu]; exact f3
    | 4, hu => simp at hu; rw [← hu]; exact f4
    | 5, hu => simp at hu; rw [← hu]; exact f5
    | 6, hu => simp at hu; rw [← hu]; exact f6
    | 7, hu => simp at hu; rw [← hu]; exact f7
    | 8, hu => simp at hu; rw [← hu]; exact f8
    | o + 9, hu => simp at hu
theorem er_news {w : World} {a : Option Addr} {n : Nat} {es : Nat → Er} (h : ERow w a n es) : n = 0 ∨ ∃ ad, a = some ad ∧ ∀ i u, (rowC (erC es) n)[i]? = some u → w.cell? (ad.add i) = some u := by
  rcases h with h | ⟨b, off, h1, h2⟩
  · exact .inl h
  · refine .inr ⟨_, h1, rowC_news (erC_len es) fun j hj o u hu => ?_⟩
    obtain ⟨f0, f1, f2, f3, f4⟩ := h2 j hj
    simp only [erC] at hu
    match o, hu with
    | 0, hu => simp at hu; rw [← hu]; exact f0
    | 1, hu => simp at hu; rw [← hu]; exact f1
    | 2, hu => simp at hu; rw [← hu]; exact f2
    | 3, hu => simp at hu; rw [← hu]; exact f3
    | 4, hu => simp at hu; rw [← hu]; exact f4
    | o + 5, hu => simp at hu
theorem li_news {w : World} {a : Option Addr} {n : Nat} {l1 l2 : Nat → ByteArray} (h : P2 w a n (fun j => .string (l1 j)) (fun j => .string (l2 j))) : n = 0 ∨ ∃ ad, a = some ad ∧ ∀ i u, (rowC (liC l1 l2) n)[i]? = some u → w.cell? (ad.add i) = some u := by
  rcases h with h | ⟨b, off, h1, h2⟩
  · exact .inl h
  · refine .inr ⟨_, h1, rowC_news (liC_len l1 l2) fun j hj o u hu => ?_⟩
    obtain ⟨f0, f1⟩ := h2 j hj
    simp only [liC] at hu
    match o, hu with
    | 0, hu => simp at hu; rw [← hu]; exact f0
    | 1, hu => simp at hu; rw [← hu]; exact f1
    | o + 2, hu => simp at hu
theorem ru_row {w : World} {base n : Nat} {v : Value} {rs : Nat → Rl} {e : TypeId} (h : w.ownsRow base e 9 v n (rowC (ruC rs) n)) : ∃ a c, v = .slice a n c ∧ ARow w a n c rs := by
  obtain ⟨a, c, rfl, _, _, h2⟩ := own_cells (ruC_len rs) h
  refine ⟨a, c, rfl, h2.imp id fun ⟨g, h3, _, h4⟩ => ⟨g, 0, h3, fun j hj => ?_⟩⟩
  have k := h4 j hj
  exact ⟨k 0 _ rfl, k 1 _ rfl, k 2 _ rfl, k 3 _ rfl, k 4 _ rfl, k 5 _ rfl, k 6 _ rfl, k 7 _ rfl, k 8 _ rfl⟩
theorem er_row {w : World} {base n : Nat} {v : Value} {es : Nat → Er} {e : TypeId} (h : w.ownsRow base e 5 v n (rowC (erC es) n)) : ∃ a c, v = .slice a n c ∧ ERow w a n es := by
  obtain ⟨a, c, rfl, _, _, h2⟩ := own_cells (erC_len es) h
  refine ⟨a, c, rfl, h2.imp id fun ⟨g, h3, _, h4⟩ => ⟨g, 0, h3, fun j hj => ?_⟩⟩
  have k := h4 j hj
  exact ⟨k 0 _ rfl, k 1 _ rfl, k 2 _ rfl, k 3 _ rfl, k 4 _ rfl⟩
theorem li_row {w : World} {base n : Nat} {v : Value} {l1 l2 : Nat → ByteArray} {e : TypeId} (h : w.ownsRow base e 2 v n (rowC (liC l1 l2) n)) : ∃ a c, v = .slice a n c ∧ P2 w a n (fun j => .string (l1 j)) (fun j => .string (l2 j)) := by
  obtain ⟨a, c, rfl, _, _, h2⟩ := own_cells (liC_len l1 l2) h
  refine ⟨a, c, rfl, h2.imp id fun ⟨g, h3, _, h4⟩ => ⟨g, 0, h3, fun j hj => ?_⟩⟩
  have k := h4 j hj
  exact ⟨k 0 _ rfl, k 1 _ rfl⟩
theorem se_row {w : World} {base n : Nat} {v : Value} {nm : Nat → ByteArray} {vs : Nat → Value} {e : TypeId} (h : w.ownsRow base e 2 v n (rowC (seC nm vs) n)) : ∃ a c, v = .slice a n c ∧ P2 w a n (fun j => .string (nm j)) vs := by
  obtain ⟨a, c, rfl, _, _, h2⟩ := own_cells (seC_len nm vs) h
  refine ⟨a, c, rfl, h2.imp id fun ⟨g, h3, _, h4⟩ => ⟨g, 0, h3, fun j hj => ?_⟩⟩
  have k := h4 j hj
  exact ⟨k 0 _ rfl, k 1 _ rfl⟩
/-- all but what is of type t is as it was -/
def KeptB (t : TypeId) (w w' : World) : Prop := ∀ (b : Nat) (cs : Array Value) (ty : TypeId) (fr : Nat × Nat), w.heap[b]? = some (.cells cs ty fr) → ty ≠ t → w'.heap[b]? = some (.cells cs ty fr)
theorem KeptB.trans {t : TypeId} {a b c : World} (h : KeptB t a b) (k : KeptB t b c) : KeptB t a c := fun x cs ty fr hx h1 => k x cs ty fr (h x cs ty fr hx h1) h1
theorem KeptB.refl (t : TypeId) (a : World) : KeptB t a a := fun x cs ty fr hx h1 => hx
theorem keptB_on {t : TypeId} {w w' : World} (h : Below w.heap.size w w') : KeptB t w w' := fun b cs ty fr hb _ => heap_on hb h
theorem keptB_own {t e : TypeId} {w w' : World} {base S n : Nat} {v : Value} {xs : List Value} (hk : KeptB t w w') (h : w.ownsRow base e S v n xs) (he : e ≠ t) : w'.ownsRow base e S v n xs :=
  ⟨h.1, h.2.imp id fun ⟨g, cap, cur, h1, h2, h3, h4⟩ => ⟨g, cap, cur, h1, h2, hk _ _ _ _ h3 he, h4⟩⟩
theorem keptB_grown {e : TypeId} {w w' : World} {v : Value} {base S n : Nat} {xs : List Value} (h : w.ownsRow base e S v n xs) (hg : w.grownBy w' v.ownBlock) : KeptB e w w' := fun b cs ty fr hb h1 => by
  refine (hg.block b (Array.getElem?_eq_some_iff.1 hb).1 fun e => ?_).trans hb
  rcases h.2 with ⟨rfl, h0⟩ | ⟨g, cap, cur, rfl, _, hg2, _⟩
  · cases e
  · obtain rfl : b = g := by simpa [Value.ownBlock] using e
    rw [hb] at hg2
    simp at hg2
    exact h1 hg2.2.1
theorem wp_append_rowO {P : Program} (w : World) {o : Oper} {a : Act} {K : Act → World → Prop} {Q : Exit → Act → World → Prop} (s x : Operand) (t : TypeId)
    (ho : o.op = .call { callee := .builtin .append, args := #[s, x], argTypes := #[t, t] })
    (base : Nat) (e : TypeId) (i : TypeInfo) (z : Value) (size bytes : Nat) (ht : P.underlying t = some (.slice e)) (hi : P.info? e = some i) (hz : i.zero = some z)
    (hsize : i.size = size) (hby : i.bytes = bytes) (hzs : z.cells.size = size) (hsz : 0 < size)
    (v : Value) (n : Nat) (xs : List Value) (hs : a.eval s = v) (hown : w.ownsRow base e size v n xs)
    (ao : Option Addr) (m c : Nat) (news : List Value) (hx : a.eval x = .slice ao m c) (hl : news.length = m * size) (hnews : m = 0 ∨ ∃ ad, ao = some ad ∧ ∀ j u, news[j]? = some u → w.cell? (ad.add j) = some u) (h1 : ∀ u ∈ news, u.oneCell' = true)
    (h63 : n + m ≤ maxLen) (hbytes : (n + m) * bytes ≤ 140737488355328) (hbase : base ≤ w.heap.size)
    (h : ∀ v' w', w'.ownsRow base e size v' (n + m) (xs ++ news) → w.grownBy w' v.ownBlock → (v'.ownBlock = v.ownBlock ∨ v'.ownBlock = some w.heap.size) → K (a.put o.dst v') w') :
    Oper.wp P o a w K Q := by
  have key : ∃ v' w', (Builtin.append_ #[t, t] o.type #[v, .slice ao m c]).run P w = .ok v' w' ∧ w'.ownsRow base e size v' (n + m) (xs ++ news) ∧ w.grownBy w' v.ownBlock ∧ (v'.ownBlock = v.ownBlock ∨ v'.ownBlock = some w.heap.size) := by
    have hnil : m = 0 → news = [] := fun h => by
      subst h
      cases news with
      | nil => rfl
      | cons => simp at hl
    cases ao with
    | none =>
      rcases hnews with rfl | ⟨ad, h0, _⟩
      · rw [hnil rfl]
        exact ⟨v, w, run_append_void base t o.type e i size c ht hi v n xs hown, by simpa using hown, ⟨rfl, rfl, rfl, Nat.le_refl _, fun _ _ _ => rfl⟩, .inl rfl⟩
      · cases h0
    | some ad =>
      have hn : ∀ j u, news[j]? = some u → w.cell? (ad.add j) = some u := by
        rcases hnews with rfl | ⟨ad', h0, h⟩
        · intro j u hj
          rw [hnil rfl] at hj
          simp at hj
        · cases h0; exact h
      obtain ⟨v', w', hr, h2, h3, _, h5⟩ := run_append_own_at (P := P) w base t o.type e i z size bytes ht hi hz hsize hby hzs hsz v n xs hown ad m c news hl hn h1 h63 hbytes hbase
      exact ⟨v', w', hr, h2, h3, h5⟩
  obtain ⟨v', w', hr, h2, h3, h4⟩ := key
  unfold Oper.wp execOp
  simp only [ho, resolve, invoke, builtin, Sem.run_bind, Sem.run_pure, Result.andThen_ok, List.map_toArray, List.map_cons, List.map_nil, hs, hx, hr]
  exact h v' w' h2 h3 h4
theorem wpList_append_rowO {P : Program} (w : World) {ops : Array Oper} {rest : List Oper} {o : Oper} {a : Act} {Q : Exit → Act → World → Prop} (hgd : o.guard = none) (s x : Operand) (t : TypeId)
    (ho : o.op = .call { callee := .builtin .append, args := #[s, x], argTypes := #[t, t] })
    (base : Nat) (e : TypeId) (i : TypeInfo) (z : Value) (size bytes : Nat) (ht : P.underlying t = some (.slice e)) (hi : P.info? e = some i) (hz : i.zero = some z)
    (hsize : i.size = size) (hby : i.bytes = bytes) (hzs : z.cells.size = size) (hsz : 0 < size)
    (v : Value) (n : Nat) (xs : List Value) (hs : a.eval s = v) (hown : w.ownsRow base e size v n xs)
    (ao : Option Addr) (m c : Nat) (news : List Value) (hx : a.eval x = .slice ao m c) (hl : news.length = m * size) (hnews : m = 0 ∨ ∃ ad, ao = some ad ∧ ∀ j u, news[j]? = some u → w.cell? (ad.add j) = some u) (h1 : ∀ u ∈ news, u.oneCell' = true)
    (h63 : n + m ≤ maxLen) (hbytes : (n + m) * bytes ≤ 140737488355328) (hbase : base ≤ w.heap.size)
    (h : ∀ v' w', w'.ownsRow base e size v' (n + m) (xs ++ news) → w.grownBy w' v.ownBlock → (v'.ownBlock = v.ownBlock ∨ v'.ownBlock = some w.heap.size) → wpList P ops Q rest (a.put o.dst v') w') : wpList P ops Q (o :: rest) a w :=
  wpList_plain hgd fun _ hK => wp_append_rowO w s x t ho base e i z size bytes ht hi hz hsize hby hzs hsz v n xs hs hown ao m c news hx hl hnews h1 h63 hbytes hbase fun v' w' h2 h3 h4 => hK _ _ (h v' w' h2 h3 h4)
end Go.Proofs.YtbpdbggojgijiaaGreatDoor
