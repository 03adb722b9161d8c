/- An append of a row that may be empty; edges come to their place; an edge more, stored. -/
import Derived.Test.YthkdjklpegmnnaaTrieS
import Derived.Deep.QuietTactic
import Derived.BigQuiet
import Derived.Deep.RegionHeld3
import Derived.Deep.AppendLies
import Derived.Laws.OwnMore
namespace Go.Proofs.Ythkdjklpegmnnaa.Tri
open Go Go.RowKit Go.Maps
set_option linter.unusedVariables false

theorem run_append_none {P : Program} {w : World} (base : Nat) (t ty e : TypeId) (i : TypeInfo) (size c : Nat) (ht : P.underlying t = some (.slice e)) (hi : P.info? e = some i)
    (v : Value) (n : Nat) (xs : List Value) (hown : w.ownsRow base e size v n xs) : (Builtin.append_ #[t, t] ty #[v, .slice none 0 c]).run P w = .ok v w := by
  rcases hown.2 with ⟨rfl, rfl⟩ | ⟨g, cap, cur, rfl, _, _, hnc, _⟩
  · simp [Builtin.append_, run_underlying ht, sizeOf, typeInfo, hi, Builtin.lenOf, Builtin.firstCells]
  · simp [Builtin.append_, run_underlying ht, sizeOf, typeInfo, hi, Builtin.lenOf, Builtin.firstCells, hnc, storeCells]
theorem wp_append_row {P : Program} (w : World) {o : Oper} {a : Act} {K : Act → World → Prop} {Q : Exit → Act → World → Prop} (s x : Operand) (t : TypeId)
    (ho : o.op = .call { callee := .builtin .append, args := #[s, x], argTypes := #[t, t] })
    (base : Nat) (e : TypeId) (i : TypeInfo) (z : Value) (size bytes : Nat) (ht : P.underlying t = some (.slice e)) (hi : P.info? e = some i) (hz : i.zero = some z)
    (hsize : i.size = size) (hby : i.bytes = bytes) (hzs : z.cells.size = size) (hsz : 0 < size)
    (v : Value) (n : Nat) (xs : List Value) (hs : a.eval s = v) (hown : w.ownsRow base e size v n xs)
    (ao : Option Addr) (m c : Nat) (news : List Value) (hx : a.eval x = .slice ao m c) (hl : news.length = m * size) (hnews : m = 0 ∨ ∃ ad, ao = some ad ∧ ∀ j u, news[j]? = some u → w.cell? (ad.add j) = some u) (h1 : ∀ u ∈ news, u.oneCell' = true)
    (h63 : n + m ≤ maxLen) (hbytes : (n + m) * bytes ≤ 140737488355328) (hbase : base ≤ w.heap.size)
    (h : ∀ v' w', w'.ownsRow base e size v' (n + m) (xs ++ news) → w.grownBy w' v.ownBlock → (v'.ownBlock = v.ownBlock ∨ v'.ownBlock = some w.heap.size) → K (a.put o.dst v') w') :
    Oper.wp P o a w K Q := by
  have key : ∃ v' w', (Builtin.append_ #[t, t] o.type #[v, .slice ao m c]).run P w = .ok v' w' ∧ w'.ownsRow base e size v' (n + m) (xs ++ news) ∧ w.grownBy w' v.ownBlock ∧ (v'.ownBlock = v.ownBlock ∨ v'.ownBlock = some w.heap.size) := by
    have hnil : m = 0 → news = [] := fun h => by
      subst h
      cases news with
      | nil => rfl
      | cons => simp at hl
    cases ao with
    | none =>
      rcases hnews with rfl | ⟨ad, h0, _⟩
      · rw [hnil rfl]
        exact ⟨v, w, run_append_none base t o.type e i size c ht hi v n xs hown, by simpa using hown, ⟨rfl, rfl, rfl, Nat.le_refl _, fun _ _ _ => rfl⟩, .inl rfl⟩
      · cases h0
    | some ad =>
      have hn : ∀ j u, news[j]? = some u → w.cell? (ad.add j) = some u := by
        rcases hnews with rfl | ⟨ad', h0, h⟩
        · intro j u hj
          rw [hnil rfl] at hj
          simp at hj
        · cases h0; exact h
      obtain ⟨v', w', hr, h2, h3, _, h5⟩ := run_append_own_at (P := P) w base t o.type e i z size bytes ht hi hz hsize hby hzs hsz v n xs hown ad m c news hl hn h1 h63 hbytes hbase
      exact ⟨v', w', hr, h2, h3, h5⟩
  obtain ⟨v', w', hr, h2, h3, h4⟩ := key
  unfold Oper.wp execOp
  simp only [ho, resolve, invoke, builtin, Sem.run_bind, Sem.run_pure, Result.andThen_ok, List.map_toArray, List.map_cons, List.map_nil, hs, hx, hr]
  exact h v' w' h2 h3 h4
theorem wpList_append_row {P : Program} (w : World) {ops : Array Oper} {rest : List Oper} {o : Oper} {a : Act} {Q : Exit → Act → World → Prop} (hgd : o.guard = none) (s x : Operand) (t : TypeId)
    (ho : o.op = .call { callee := .builtin .append, args := #[s, x], argTypes := #[t, t] })
    (base : Nat) (e : TypeId) (i : TypeInfo) (z : Value) (size bytes : Nat) (ht : P.underlying t = some (.slice e)) (hi : P.info? e = some i) (hz : i.zero = some z)
    (hsize : i.size = size) (hby : i.bytes = bytes) (hzs : z.cells.size = size) (hsz : 0 < size)
    (v : Value) (n : Nat) (xs : List Value) (hs : a.eval s = v) (hown : w.ownsRow base e size v n xs)
    (ao : Option Addr) (m c : Nat) (news : List Value) (hx : a.eval x = .slice ao m c) (hl : news.length = m * size) (hnews : m = 0 ∨ ∃ ad, ao = some ad ∧ ∀ j u, news[j]? = some u → w.cell? (ad.add j) = some u) (h1 : ∀ u ∈ news, u.oneCell' = true)
    (h63 : n + m ≤ maxLen) (hbytes : (n + m) * bytes ≤ 140737488355328) (hbase : base ≤ w.heap.size)
    (h : ∀ v' w', w'.ownsRow base e size v' (n + m) (xs ++ news) → w.grownBy w' v.ownBlock → (v'.ownBlock = v.ownBlock ∨ v'.ownBlock = some w.heap.size) → wpList P ops Q rest (a.put o.dst v') w') : wpList P ops Q (o :: rest) a w :=
  wpList_plain hgd fun _ hK => wp_append_row w s x t ho base e i z size bytes ht hi hz hsize hby hzs hsz v n xs hs hown ao m c news hx hl hnews h1 h63 hbytes hbase fun v' w' h2 h3 h4 => hK _ _ (h v' w' h2 h3 h4)
theorem own_void {w : World} {base g : Nat} {e : TypeId} {size : Nat} (h : w.heap[g]? = some (.cells #[] e)) (hg : base ≤ g) : w.ownsRow base e size (.slice (some ⟨g, 0, none⟩) 0 0) 0 [] :=
  ⟨by simp, .inr ⟨g, 0, #[], rfl, hg, h, Nat.le_refl _, by unfold maxLen; omega, by simp, by simp⟩⟩
theorem ecells_at (es : List (UInt8 × Int)) {j : Nat} (h : j < es.length) : (ecells es)[j * 2]? = some (.int .u8 ((eC es j).toNat : Int)) ∧ (ecells es)[j * 2 + 1]? = some (.int .i64 (eT es j)) := by
  have hd := ecells_drop es j
  have hx : es.drop j = es[j] :: es.drop (j + 1) := List.drop_eq_getElem_cons h
  rw [hx, ecells_cons, eC_at h] at hd
  constructor
  · have := congrArg (fun l => l[0]?) hd
    simpa [List.getElem?_drop] using this
  · have := congrArg (fun l => l[1]?) hd
    simpa [List.getElem?_drop] using this
theorem edl_news {w : World} {ea : Option Addr} {es : List (UInt8 × Int)} (h : EdL w ea es) : es.length = 0 ∨ ∃ ad, ea = some ad ∧ ∀ j u, (ecells es)[j]? = some u → w.cell? (ad.add j) = some u := by
  rcases h with h | ⟨b, off, rfl, h⟩
  · exact .inl h
  · refine .inr ⟨_, rfl, fun j u hj => ?_⟩
    have hjl : j < es.length * 2 := by
      have := (List.getElem?_eq_some_iff.1 hj).1
      rwa [ecells_len] at this
    have hadd : (⟨b, off, none⟩ : Addr).add j = ⟨b, off + j, none⟩ := by unfold Addr.add; split <;> simp_all
    rw [hadd]
    obtain ⟨c0, c1⟩ := h (j / 2) (by omega)
    obtain ⟨e0, e1⟩ := ecells_at es (j := j / 2) (by omega)
    by_cases hp : j % 2 = 0
    · rw [show j / 2 * 2 = j by omega] at e0 c0
      rw [c0, ← e0, hj]
    · rw [show j / 2 * 2 + 1 = j by omega] at e1
      rw [show off + j / 2 * 2 + 1 = off + j by omega] at c1
      rw [c1, ← e1, hj]
/-- an edge goes one place to the front -/
theorem put_back (es : List (UInt8 × Int)) {p : Nat} (hp : p < es.length) (c : UInt8) (k : Int) :
    (((((ecells (put1 es (p + 1) c k)).set (p * 2) (.int .u8 (c.toNat : Int))).set (p * 2 + 1) (.int .i64 k)).set ((p + 1) * 2) (.int .u8 ((eC es p).toNat : Int))).set ((p + 1) * 2 + 1) (.int .i64 (eT es p))) = ecells (put1 es p c k) := by
  have h1 : put1 es (p + 1) c k = es.take p ++ ((eC es p, eT es p) :: (c, k) :: es.drop (p + 1)) := by
    unfold put1
    rw [List.take_add_one, List.getElem?_eq_getElem hp, eC_at hp]
    simp
  have h2 : put1 es p c k = es.take p ++ ((c, k) :: (eC es p, eT es p) :: es.drop (p + 1)) := by
    unfold put1
    rw [List.drop_eq_getElem_cons hp, eC_at hp]
  have hl : (ecells (es.take p)).length = p * 2 := by rw [ecells_len, List.length_take]; omega
  rw [h1, h2, ecells_append, ecells_append, ecells_cons, ecells_cons, ecells_cons, ecells_cons]
  generalize ecells (es.take p) = A at *
  generalize ecells (es.drop (p + 1)) = B at *
  rw [← hl, List.set_append_right _ _ (Nat.le_refl _), Nat.sub_self, List.set_append_right _ _ (by omega), show A.length + 1 - A.length = 1 by omega, show (p + 1) * 2 = A.length + 2 by omega, List.set_append_right _ _ (by omega), show A.length + 2 - A.length = 2 by omega, List.set_append_right _ _ (by omega), show A.length + 2 + 1 - A.length = 3 by omega]
  rfl
theorem put_here (es : List (UInt8 × Int)) {p : Nat} (hp : p ≤ es.length) (c : UInt8) (k : Int) : (ecells (put1 es p c k))[p * 2]? = some (.int .u8 (c.toNat : Int)) ∧ (ecells (put1 es p c k))[p * 2 + 1]? = some (.int .i64 k) := by
  rw [put1_cells]
  have hl : ((ecells es).take (p * 2)).length = p * 2 := by rw [List.length_take, ecells_len]; omega
  rw [List.append_assoc]
  constructor
  · rw [List.getElem?_append_right (by omega), hl, Nat.sub_self]; rfl
  · rw [List.getElem?_append_right (by omega), hl, show p * 2 + 1 - p * 2 = 1 by omega]; rfl
theorem put_ahead (es : List (UInt8 × Int)) {p : Nat} (hp : p < es.length) (c : UInt8) (k : Int) : (ecells (put1 es (p + 1) c k))[p * 2]? = some (.int .u8 ((eC es p).toNat : Int)) ∧ (ecells (put1 es (p + 1) c k))[p * 2 + 1]? = some (.int .i64 (eT es p)) := by
  rw [put1_cells]
  have hl : ((ecells es).take ((p + 1) * 2)).length = (p + 1) * 2 := by rw [List.length_take, ecells_len]; omega
  rw [List.append_assoc, List.getElem?_append_left (by omega), List.getElem?_append_left (by omega), List.getElem?_take, List.getElem?_take, if_pos (by omega), if_pos (by omega)]
  exact ecells_at es hp
theorem put_end (es : List (UInt8 × Int)) (c : UInt8) (k : Int) : ecells es ++ [.int .u8 (c.toNat : Int), .int .i64 k] = ecells (put1 es es.length c k) := by
  rw [put1_cells, List.take_of_length_le (by rw [ecells_len]; omega), List.drop_of_length_le (by rw [ecells_len]; omega), List.append_nil]
theorem owns_mono {w : World} {base base' : Nat} {e : TypeId} {size : Nat} {v : Value} {n : Nat} {xs : List Value} (h : w.ownsRow base e size v n xs) (hb : base' ≤ base) : w.ownsRow base' e size v n xs :=
  ⟨h.1, h.2.imp id fun ⟨g, cap, cur, h1, h2, h3⟩ => ⟨g, cap, cur, h1, Nat.le_trans hb h2, h3⟩⟩
/-- an edge more, in a row that was made behind the trie, stored -/
theorem OwT.edge2 {w w1 : World} {base g cap gu n c : Nat} {vs : Nat → Value} {t : List Nd} {a : Nat} {es' : List (UInt8 × Int)} (h0 : OwT w base (.slice (some ⟨g, 0, none⟩) t.length cap) vs t) (ha : a < t.length) (hB : Below w.heap.size w w1)
    (hu : w1.ownsRow base 52 2 (.slice (some ⟨gu, 0, none⟩) n c) es'.length (ecells es')) (hx : w.heap.size ≤ gu) :
    OwT (w1.setCell ⟨g, a * 2, none⟩ (.slice (some ⟨gu, 0, none⟩) n c)) base (.slice (some ⟨g, 0, none⟩) t.length cap) (fun j => if j = a then (.slice (some ⟨gu, 0, none⟩) n c) else vs j) (t.set a ⟨es', (nod t a).wd⟩) := by
  have h := h0.on hB
  obtain ⟨s1, s2⟩ := h.row.stored (a * 2) (.slice (some ⟨gu, 0, none⟩) n c)
  have hlen : (t.set a ⟨es', (nod t a).wd⟩).length = t.length := by simp
  have hwd : ∀ j, j < t.length → (nod t j).wd = (nod (t.set a ⟨es', (nod t a).wd⟩) j).wd := fun j hj => by
    by_cases e : j = a
    · subst e; rw [nod_set_same _ ha]
    · rw [nod_set_other _ e]
  have hau : ap (.slice (some ⟨gu, 0, none⟩) n c) (.slice (some ⟨g, 0, none⟩) t.length cap) := fun k hk hx2 => by
    have := (own_lt h0.row hx2).2
    have h1 : gu = k := by simpa [Value.ownBlock] using hk
    omega
  have hav : ∀ j, j < t.length → j ≠ a → ap (.slice (some ⟨gu, 0, none⟩) n c) (vs j) := fun j hj hne k hk hx2 => by
    have := (own_lt (h0.es j hj) hx2).2
    have h1 : gu = k := by simpa [Value.ownBlock] using hk
    omega
  refine ⟨?_, fun j hj => ?_, fun j hj => ?_, fun i j hi hj hne => ?_⟩
  · rw [hlen, ← ncells_set0 vs t _ _ ha hwd]
    exact s1
  · rw [hlen] at hj
    by_cases e : j = a
    · subst e
      rw [nod_set_same _ ha]
      simp only [if_true]
      exact own_far (v := .slice (some ⟨g, 0, none⟩) t.length cap) hu s2 hau
    · rw [nod_set_other _ e]
      simp only [if_neg e]
      exact own_far (v := .slice (some ⟨g, 0, none⟩) t.length cap) (h.es j hj) s2 (h.av j hj)
  · rw [hlen] at hj
    by_cases e : j = a
    · simp only [if_pos e]; exact hau
    · simp only [if_neg e]; exact h.av j hj
  · rw [hlen] at hi hj
    by_cases e : i = a
    · simp only [if_pos e]
      rw [if_neg (fun h => hne (by rw [e, h]))]
      exact hav j hj (fun h => hne (by rw [e, h]))
    · simp only [if_neg e]
      by_cases e2 : j = a
      · simp only [if_pos e2]; exact ap_symm (hav i hi e)
      · simp only [if_neg e2]; exact h.aa i j hi hj hne
/-- an edge, stored -/
def set2 (w : World) (g o : Nat) (c : UInt8) (k : Int) : World := (w.setCell ⟨g, o, none⟩ (.int .u8 (c.toNat : Int))).setCell ⟨g, o + 1, none⟩ (.int .i64 k)
theorem set2_below {B : Nat} {w v : World} {g : Nat} (h : Below B w v) (hg : B ≤ g) (o : Nat) (c : UInt8) (k : Int) : Below B w (set2 v g o c k) := (h.setCell (p := ⟨g, o, none⟩) hg _).setCell (p := ⟨g, o + 1, none⟩) hg _
theorem set2_other {w : World} {g k : Nat} (h : k ≠ g) (o : Nat) (c : UInt8) (x : Int) : (set2 w g o c x).heap[k]? = w.heap[k]? := by
  unfold set2
  simp [World.setCell, Array.getElem?_modify, Ne.symm h]
theorem two_boxes (w : World) (o1 o2 : Obj) : Below w.heap.size w ((w.alloc o1).alloc o2) ∧ ((w.alloc o1).alloc o2).heap[w.heap.size]? = some o1 ∧ ((w.alloc o1).alloc o2).heap[w.heap.size + 1]? = some o2 := by
  refine ⟨((Below.refl _ w).alloc (Nat.le_refl _) _).alloc (by simp) _, ?_, ?_⟩
  · rw [Below.heap_alloc _ _ _ (by simp)]; exact World.alloc_heap_new _ _
  · have := World.alloc_heap_new (w.alloc o1) o2
    rwa [World.size_alloc] at this
theorem set2_own {w : World} {base n g c : Nat} {xs : List Value} (h : w.ownsRow base 52 2 (.slice (some ⟨g, 0, none⟩) n c) n xs) (o : Nat) (x : UInt8) (y : Int) : (set2 w g o x y).ownsRow base 52 2 (.slice (some ⟨g, 0, none⟩) n c) n ((xs.set o (.int .u8 (x.toNat : Int))).set (o + 1) (.int .i64 y)) :=
  ((h.stored o _).1.stored (o + 1) _).1
/-- where BuildOf stands in a word -/
def bJ (base : Nat) (w : World) (t : List Nd) (s : ByteArray) (T : List Nd) (v : Value) (n a : Nat) (W : World) : Prop :=
  ∃ vs pre p, OwT W base v vs T ∧ Ok T pre ∧ pre[a]? = some p ∧ lay t 0 s.data.toList = lay T a (s.data.toList.drop n) ∧ T.length ≤ t.length + n ∧ (∀ i, -1 ≤ (nod T i).wd) ∧ Below base w W
theorem bJ_next {base : Nat} {w : World} {t : List Nd} {s : ByteArray} {T : List Nd} {n a : Nat} {W : World} {v : Value} {vs : Nat → Value} {pre : List (List UInt8)} {p : List UInt8} (hlt : n < s.size) (hO : OwT W base v vs (grow T a s[n])) (hk : Ok T pre) (hp : pre[a]? = some p)
    (hlay : lay t 0 s.data.toList = lay T a (s.data.toList.drop n)) (hed : edg (nod T a).es s[n] = none) (hT : T.length ≤ t.length + n) (hwd : ∀ i, -1 ≤ (nod T i).wd) (hb : Below base w W) : bJ base w t s (grow T a s[n]) v (n + 1) T.length W := by
  have hal : a < T.length := by rw [hk.len]; exact (List.getElem?_eq_some_iff.1 hp).1
  refine ⟨vs, pre ++ [p ++ [s[n]]], p ++ [s[n]], hO, ok_grow hk hp hed, ?_, ?_, by rw [grow_len]; omega, fun i => by rw [wd_grow _ hal]; exact hwd i, hb⟩
  · rw [List.getElem?_append_right (by rw [hk.len]; exact Nat.le_refl _), hk.len]; simp
  · rw [hlay, drop_cons s n hlt, lay, hed]
theorem bJ_on {base : Nat} {w : World} {t : List Nd} {s : ByteArray} {T : List Nd} {n a : Nat} {W W' : World} {v : Value} (hlt : n < s.size) {k : Int} (hed : edg (nod T a).es s[n] = some k) (hb : base ≤ w.heap.size) (h : bJ base w t s T v n a W) (hW : Below W.heap.size W W') : bJ base w t s T v (n + 1) k.toNat W' ∧ ((k.toNat : Nat) : Int) = k := by
  obtain ⟨vs, pre, p, hO, hk, hp, hlay, hT, hwd, hbel⟩ := h
  obtain ⟨h0, h1⟩ := (hk.ed a p hp _ _).1 ((edg_mem (hk.so a) _ _).1 hed)
  refine ⟨⟨vs, pre, p ++ [s[n]], hO.on hW, hk, h1, ?_, by omega, hwd, hbel.trans (hW.mono (by have := hbel.size; omega))⟩, by omega⟩
  rw [hlay, drop_cons s n hlt, lay, hed]
theorem cnt_stop {es : List (UInt8 × Int)} (hr : Rises es) {c : UInt8} (hn : edg es c = none) {p : Nat} (hp : p ≤ es.length) (h1 : p = 0 ∨ ¬ c < eC es (p - 1)) (h2 : ∀ i, p ≤ i → i < es.length → c < eC es i) : cnt es c = p := by
  have hne : ∀ i, i < es.length → eC es i ≠ c := fun i hi e => edg_none.1 hn (eC es i, eT es i) (by rw [← eC_at hi]; exact List.getElem_mem hi) e
  refine cnt_at hp (fun t ht => ?_) (fun t h3 h4 => fun h5 => UInt8.lt_irrefl _ (UInt8.lt_trans h5 (h2 t h3 h4)))
  rcases h1 with h | h
  · omega
  · have hpl : p - 1 < es.length := by omega
    have h6 : eC es (p - 1) < c := by
      rcases UInt8.lt_or_lt_of_ne (hne (p - 1) hpl) with h7 | h7
      · exact h7
      · exact absurd h7 h
    by_cases e : t = p - 1
    · rw [e]; exact h6
    · exact UInt8.lt_trans (rises_at hr (i := t) (j := p - 1) (by omega) hpl) h6
end Go.Proofs.Ythkdjklpegmnnaa.Tri
