import PyProof.Rows.All
import Wide.All
import OpenK.AllK
import Wide.FinOn
import HandS.ForMost
import HandS.Wide
import HandS.StrMore
import HandS.IsInst
import HandS.Style
import HandS.EndBits
import HandS.Codes
import KE.LtData
import HandS.Replace
import HandS.Set
import HandS.SetTxt0
import HandS.SetFor
import KE.SortData
import HandS.Strs
import HandS.Property
import HandS.Defaults
import PySem.Challenge.RW_surespan_k00_set_algebra
set_option Elab.async false
set_option linter.all false
set_option maxRecDepth 100000
namespace My
open PySem L2
/-! ### normal forms of readings -/
theorem ex_some {α : Type} {a : α} {p : α → Prop} : (∃ v, (some (some a) : Option (Option α)) = some (some v) ∧ p v) ↔ p a :=
  ⟨fun ⟨_, e, h⟩ => by cases e; exact h, fun h => ⟨a, rfl, h⟩⟩
theorem ex_int {a : Int} {p : Int → Prop} : (∃ v, V.int a = V.int v ∧ p v) ↔ p a :=
  ⟨fun ⟨_, e, h⟩ => by cases e; exact h, fun h => ⟨a, rfl, h⟩⟩
/-- all that is tracked but at d stands -/
def But (d : Addr) (H H' : Hp) : Prop := ∀ b o, b ≠ d → H b = some o → H' b = some o
theorem But.refl (d : Addr) (H : Hp) : But d H H := fun _ _ _ h => h
theorem But.trans {d : Addr} {H H1 H2 : Hp} (a : But d H H1) (b : But d H1 H2) : But d H H2 := fun c o n h => b c o n (a c o n h)
theorem But.of {d : Addr} {H H' : Hp} (a : Same H H') : But d H H' := fun c o _ h => a c o h
theorem same_upd {H : Hp} {p : Addr} {o : HO} (h : H p = none) : Same H (upd H p o) := fun b x e => by
  rw [upd_ne (ne_of_none e h)]; exact e
theorem But.put {d : Addr} {H : Hp} {o : HO} : But d H (upd H d o) := fun c u n h => by rw [upd_ne n]; exact h
theorem But.new {d : Addr} {H H1 : Hp} {p : Addr} {o : HO} (a : But d H H1) (h : H1 p = none) : But d H (upd H1 p o) := a.trans (.of (same_upd h))
/-- the draw list at d, its digits at l -/
def Drw (H : Hp) (d l : Addr) : Prop := ∃ (a b c : Int) (ds : List Int), d ≠ l ∧ H d = some (.lst [.int a, .int b, .int c, .ref l, .int 3]) ∧ H l = some (.lst (ds.map V.int)) ∧ 0 ≤ a
theorem Drw.same {H H' : Hp} {d l : Addr} (h : Drw H d l) (s : Same H H') : Drw H' d l := by
  obtain ⟨a, b, c, ds, n, h1, h2, h3⟩ := h
  exact ⟨a, b, c, ds, n, s _ _ h1, s _ _ h2, h3⟩
theorem Drw.new {H : Hp} {d l p : Addr} {o : HO} (h : Drw H d l) (n : H p = none) : Drw (upd H p o) d l := h.same (same_upd n)
theorem Drw.ne {H : Hp} {d l p : Addr} (h : Drw H d l) (n : H p = none) : p ≠ d := by
  obtain ⟨a, b, c, ds, n', h1, h2, h3⟩ := h
  exact fun q => by rw [q, h1] at n; cases n
theorem Drw.nel {H : Hp} {d l p : Addr} (h : Drw H d l) (n : H p = none) : p ≠ l := by
  obtain ⟨a, b, c, ds, n', h1, h2, h3⟩ := h
  exact fun q => by rw [q, h2] at n; cases n
/-- another object than the draw's is written -/
theorem Drw.put {H : Hp} {d l p : Addr} {o : HO} (h : Drw H d l) (n1 : p ≠ d) (n2 : p ≠ l) : Drw (upd H p o) d l := by
  obtain ⟨a, b, c, ds, n', h1, h2, h3⟩ := h
  exact ⟨a, b, c, ds, n', (upd_ne n1.symm).trans h1, (upd_ne n2.symm).trans h2, h3⟩
/-! ### texts by their signs -/
def tx (cs : List Nat) : Str := ⟨cs.toArray⟩
theorem tx_cps (cs : List Nat) : (tx cs).cps.toList = cs := rfl
theorem tx_len (cs : List Nat) : (tx cs).length = cs.length := by simp [tx, Str.length]
theorem tx_of (s : Str) : tx s.cps.toList = s := by cases s; simp [tx]
theorem tx_eq {a b : List Nat} : (tx a = tx b) = (a = b) := by
  apply propext
  constructor
  · intro h
    have := congrArg (fun s : Str => s.cps.toList) h
    simpa [tx] using this
  · intro h; rw [h]
theorem sg_tx (c : Nat) : (⟨#[c]⟩ : Str) = tx [c] := rfl
theorem tx_app (a b : List Nat) : tx a ++ tx b = tx (a ++ b) := by
  show (⟨(tx a).cps ++ (tx b).cps⟩ : Str) = tx (a ++ b)
  simp [tx]
theorem tx_cut (cs : List Nat) (lo hi : Option Int) : cutS (tx cs) lo hi = tx ((cs.drop (HT.sIx cs.length 0 lo)).take (HT.sIx cs.length cs.length hi - HT.sIx cs.length 0 lo)) := by
  unfold cutS
  rw [tx_len, tx_cps]
  rfl
theorem join_tx (ps : List (List Nat)) : Txt.join (tx []) (ps.map tx) = tx ps.flatten := by
  rw [TL.join_eq]
  have h : ∀ ps : List (List Nat), Str.join (tx []) (ps.map tx) = tx ps.flatten := by
    intro ps
    induction ps with
    | nil => rfl
    | cons p r ih =>
      cases r with
      | nil => simp [Str.join]
      | cons q r =>
        show tx p ++ tx [] ++ Str.join (tx []) ((q :: r).map tx) = _
        rw [ih, tx_app, tx_app]
        simp
  exact h ps
theorem join_signs (cs : List Nat) : Txt.join (tx []) (cs.map fun c => tx [c]) = tx cs := by
  have h := join_tx (cs.map fun c => [c])
  rw [List.map_map] at h
  have e : (cs.map fun c => [c]).flatten = cs := by
    clear h
    induction cs with
    | nil => rfl
    | cons c r ih => rw [List.map_cons, List.flatten_cons, ih]; rfl
  rw [e] at h
  exact h
/-- a statement and the rest, with a word between -/
abbrev tCut (t u : TS) : TS := C8.tCut t u
theorem pss_cut {X : Cx} {st : Stmt} {rest : List Stmt} {t u : TS} (h1 : PS X st t) (h2 : PSs X rest u) : PSs X (st :: rest) (tCut t u) := C8.pss_cut h1 h2
/-! ### loops and comprehensions -/
def ForJ (J : It) (g : TG) (tb : TS) (D : Ends) (σ : St) (H1 : Hp) : Prop := ∃ W : Nat → Nat → St → Hp → Prop, (∃ m, W 0 m σ H1) ∧ ∀ i m σ H, W i m σ H →
  (J.stop i H ∧ D.nx σ H) ∨ (J.go i H ∧ ∃ N : St → Hp → Prop, (∀ σ' H', N σ' H' → ∃ m', m' < m ∧ W (i + 1) m' σ' H') ∧ ∀ x H', J.yld i H x H' → g x σ H' fun σ2 H2 => tb { D with nx := N, ct := N, bk := D.nx } σ2 H2)
theorem tFor_eq (wi : TI) (g : TG) (tb : TS) (D : Ends) (σ : St) (H : Hp) : tFor wi g tb D σ H = wi σ H fun J H1 => ForJ J g tb D σ H1 := rfl
def LcJ (J : It) (g : TG) (tt : TT) (te : TE) (vs : List Nat) (σ : St) (H1 : Hp) (Q : VK) : Prop := ∀ D, H1 D = none → ∃ W : Nat → Nat → Hp → Prop, (∃ m, W 0 m (upd H1 D (.lst []))) ∧ ∀ i m H, W i m H →
  (J.stop i H ∧ Q (.ref D) H) ∨ (J.go i H ∧ ∃ Nx : Hp → Prop, (∀ H', Nx H' → ∃ m', m' < m ∧ W (i + 1) m' H') ∧ ∀ x H', J.yld i H x H' → g x (wipe σ vs) H' fun σ2 H2 => wipe σ2 vs = wipe σ vs ∧ tt σ2 H2 fun b H3 =>
    if b = true then te σ2 H3 fun y H4 => ∃ acc, H4 D = some (.lst acc) ∧ acc.length < sizeLine ∧ Nx (upd H4 D (.lst (acc ++ [y]))) else Nx H3)
theorem tLc_eq (wi : TI) (g : TG) (tt : TT) (te : TE) (vs : List Nat) (σ : St) (H : Hp) (Q : VK) : tLc wi g tt te vs σ H Q = wi σ H fun J H1 => LcJ J g tt te vs σ H1 Q := rfl
/-- an iterator that goes through a fixed list -/
structure Reg {α : Type} (J : It) (its : List α) (item : α → V) (G : Hp → Prop) : Prop where
  go : ∀ i H, i < its.length → G H → J.go i H
  stop : ∀ i H, its.length ≤ i → G H → J.stop i H
  yld : ∀ i a H x H', its[i]? = some a → G H → J.yld i H x H' → H' = H ∧ x = item a
theorem reg_text (cs : List Nat) : Reg (Its (tx cs)) cs (fun c => .str (tx [c])) (fun _ => True) := by
  have hs : (tx cs).cps.size = cs.length := by simp [tx]
  refine ⟨fun i H h _ => ?_, fun i H h _ => ?_, fun i a H x H' h _ hy => ?_⟩
  · show i < (tx cs).cps.size; rw [hs]; exact h
  · show (tx cs).cps.size ≤ i; rw [hs]; exact h
  · obtain ⟨rfl, c, hc, rfl⟩ := hy
    refine ⟨rfl, ?_⟩
    have : (tx cs).cps[i]? = cs[i]? := by simp [tx]
    rw [this, h] at hc
    cases hc
    rfl
theorem reg_range (lo : Int) (n : Nat) : Reg (Itr lo n) (List.range n) (fun i => .int (lo + (i : Nat))) (fun _ => True) := by
  refine ⟨fun i H h _ => ?_, fun i H h _ => ?_, fun i a H x H' h _ hy => ?_⟩
  · rw [List.length_range] at h; exact h
  · rw [List.length_range] at h; exact h
  · obtain ⟨rfl, rfl⟩ := hy
    refine ⟨rfl, ?_⟩
    have : i < n := by
      have := (List.getElem?_eq_some_iff.mp h).1
      rw [List.length_range] at this; exact this
    rw [List.getElem?_range this] at h
    cases h
    rfl
theorem reg_list (K : PySem.W.Frag) (a : Addr) (xs : List V) : Reg (Itl K a) xs id (fun H => SqL K H a xs) := by
  refine ⟨fun i H h hq => ⟨xs, xs[i], hq, by simp [h]⟩, fun i H h hq => ⟨xs, hq, h⟩, fun i v H x H' h hq hy => ?_⟩
  obtain ⟨rfl, f⟩ := hy
  have := f xs hq
  rw [h] at this
  cases this
  exact ⟨rfl, rfl⟩
theorem forJ_by {α : Type} {J : It} {its : List α} {item : α → V} {G : Hp → Prop} (R : Reg J its item G) {g : TG} {tb : TS} {D : Ends} {σ : St} {H : Hp} (Pv : Nat → St → Hp → Prop) (hG : ∀ i σ H, Pv i σ H → G H) (h0 : Pv 0 σ H)
    (hs : ∀ i a σ H, its[i]? = some a → Pv i σ H → g (item a) σ H fun σ2 H2 => tb { D with nx := Pv (i + 1), ct := Pv (i + 1), bk := D.nx } σ2 H2) (hd : ∀ σ H, Pv its.length σ H → D.nx σ H) : ForJ J g tb D σ H := by
  refine ⟨fun i m σ H => m = its.length - i ∧ i ≤ its.length ∧ Pv i σ H, ⟨its.length, by simp, Nat.zero_le _, h0⟩, ?_⟩
  rintro i m σ H ⟨rfl, hi, p⟩
  by_cases hlt : i < its.length
  · refine .inr ⟨R.go i H hlt (hG _ _ _ p), Pv (i + 1), fun σ' H' p' => ⟨its.length - (i + 1), by omega, rfl, hlt, p'⟩, fun x H' y => ?_⟩
    obtain ⟨rfl, rfl⟩ := R.yld i its[i] H x H' (List.getElem?_eq_getElem hlt) (hG _ _ _ p) y
    exact hs i _ σ _ (List.getElem?_eq_getElem hlt) p
  · have e : i = its.length := by omega
    subst e
    exact .inl ⟨R.stop _ H (Nat.le_refl _) (hG _ _ _ p), hd σ H p⟩
theorem lcJ_by {α : Type} {J : It} {its : List α} {item : α → V} {G : Hp → Prop} (R : Reg J its item G) {k : Nat} {tt : TT} {te : TE} {σ : St} {H1 : Hp} {Q : VK} (Pv : Addr → Nat → Hp → Prop) (hG : ∀ D i H, H1 D = none → Pv D i H → G H) (h0 : ∀ D, H1 D = none → Pv D 0 (upd H1 D (.lst [])))
    (hs : ∀ D i a H, H1 D = none → its[i]? = some a → Pv D i H → tt ((σ.set k none).set k (some (item a))) H fun b H3 =>
      if b = true then te ((σ.set k none).set k (some (item a))) H3 fun y H4 => ∃ acc, H4 D = some (.lst acc) ∧ acc.length < sizeLine ∧ Pv D (i + 1) (upd H4 D (.lst (acc ++ [y]))) else Pv D (i + 1) H3)
    (hd : ∀ D H, H1 D = none → Pv D its.length H → Q (.ref D) H) : LcJ J (gName k) tt te [k] σ H1 Q := by
  intro D hD
  refine ⟨fun i m H => m = its.length - i ∧ i ≤ its.length ∧ Pv D i H, ⟨its.length, by simp, Nat.zero_le _, h0 D hD⟩, ?_⟩
  rintro i m H ⟨rfl, hi, p⟩
  by_cases hlt : i < its.length
  · refine .inr ⟨R.go i H hlt (hG _ _ _ hD p), Pv D (i + 1), fun H' p' => ⟨its.length - (i + 1), by omega, rfl, hlt, p'⟩, fun x H' y => ?_⟩
    obtain ⟨rfl, rfl⟩ := R.yld i its[i] H x H' (List.getElem?_eq_getElem hlt) (hG _ _ _ hD p) y
    refine ⟨?_, hs D i _ _ hD (List.getElem?_eq_getElem hlt) p⟩
    show ((σ.set k none).set k _).set k none = σ.set k none
    rw [List.set_set, List.set_set]
  · have e : i = its.length := by omega
    subst e
    exact .inl ⟨R.stop _ H (Nat.le_refl _) (hG _ _ _ hD p), hd D H hD p⟩
/-- a comprehension that reads and makes values alone -/
theorem lcJ_pure {α : Type} {J : It} {its : List α} {item : α → V} {G : Hp → Prop} (R : Reg J its item G) {k : Nat} {tt : TT} {te : TE} {σ : St} {H1 : Hp} {Q : VK} (p : α → Bool) (f : α → V) (hn : its.length ≤ sizeLine)
    (hG : ∀ D acc, H1 D = none → G (upd H1 D (.lst acc)))
    (hT : ∀ a D acc Q, a ∈ its → H1 D = none → Q (p a) (upd H1 D (.lst acc)) → tt ((σ.set k none).set k (some (item a))) (upd H1 D (.lst acc)) Q)
    (hE : ∀ a D acc Q, a ∈ its → p a = true → H1 D = none → Q (f a) (upd H1 D (.lst acc)) → te ((σ.set k none).set k (some (item a))) (upd H1 D (.lst acc)) Q)
    (h : ∀ D, H1 D = none → Q (.ref D) (upd H1 D (.lst ((its.filter p).map f)))) : LcJ J (gName k) tt te [k] σ H1 Q := by
  refine lcJ_by R (fun D i H => H = upd H1 D (.lst (((its.take i).filter p).map f))) ?_ ?_ ?_ ?_
  · rintro D i H hD rfl; exact hG D _ hD
  · intro D hD; simp
  · rintro D i a H hD hi rfl
    have hlt : i < its.length := (List.getElem?_eq_some_iff.mp hi).1
    have hm : a ∈ its := List.mem_of_getElem? hi
    have ht : its.take (i + 1) = its.take i ++ [a] := by rw [List.take_add_one, hi]; rfl
    refine hT a D _ _ hm hD ?_
    by_cases hp : p a = true
    · rw [hp, if_pos rfl]
      refine hE a D _ _ hm hp hD ⟨_, upd_same, ?_, ?_⟩
      · rw [List.length_map]
        refine Nat.lt_of_le_of_lt (List.length_filter_le _ _) ?_
        rw [List.length_take]
        omega
      · rw [upd_upd, ht, List.filter_append, List.map_append]
        simp [hp]
    · rw [if_neg hp, ht, List.filter_append]
      simp [hp]
  · rintro D H hD rfl
    rw [List.take_length]
    exact h D hD
theorem sq_upd {K : PySem.W.Frag} {H : Hp} {D : Addr} {xs : List V} : SqL K (upd H D (.lst xs)) D xs := .inl (.inl upd_same)
end My
namespace My
open PySem L2
/-! ### one sign in a text -/
/-- the first place of a sign -/
def fi (c : Nat) : List Nat → Nat
  | [] => 0
  | a :: r => if a = c then 0 else fi c r + 1
theorem fi_lt {c : Nat} : ∀ {cs : List Nat}, c ∈ cs → fi c cs < cs.length
  | [], h => by cases h
  | a :: r, h => by
    unfold fi
    by_cases e : a = c
    · rw [if_pos e]; simp
    · rw [if_neg e]
      have : c ∈ r := by
        rcases List.mem_cons.mp h with q | q
        · exact absurd q.symm e
        · exact q
      have := fi_lt this
      simp; exact this
theorem fi_get {c : Nat} : ∀ {cs : List Nat}, c ∈ cs → cs[fi c cs]? = some c
  | [], h => by cases h
  | a :: r, h => by
    unfold fi
    by_cases e : a = c
    · rw [if_pos e, e]; rfl
    · rw [if_neg e]
      have : c ∈ r := by
        rcases List.mem_cons.mp h with q | q
        · exact absurd q.symm e
        · exact q
      rw [List.getElem?_cons_succ]
      exact fi_get this
theorem fi_before {c : Nat} : ∀ {cs : List Nat} {i : Nat}, i < fi c cs → cs[i]? ≠ some c
  | [], i, h => by simp [fi] at h
  | a :: r, i, h => by
    unfold fi at h
    by_cases e : a = c
    · rw [if_pos e] at h; omega
    · rw [if_neg e] at h
      cases i with
      | zero => simpa using e
      | succ i => rw [List.getElem?_cons_succ]; exact fi_before (by omega)
theorem occ_full (s sub : Str) (hi : Nat) : ∀ (l : List Nat) (st : Array Nat × Nat), st.fst.size = 1 → (forIn l st (StrLaws.occBody s sub hi 1)).run.fst = st.fst
  | [], st, h => rfl
  | a :: l, st, h => by
    rw [List.forIn_cons]
    unfold StrLaws.occBody
    have hn : ¬ (((st.fst.size < 1 ∧ st.snd ≤ a) ∧ a + sub.length ≤ hi) ∧ Builtin.Str.subAt s sub a = true) := fun q => by omega
    rw [if_neg hn]
    exact occ_full s sub hi l _ h
theorem occ_first (cs : List Nat) (c : Nat) : ∀ (m a free : Nat), free ≤ a → (∀ i, a ≤ i → i < a + m → cs[i]? ≠ some c) ∧ (forIn (List.range' a m) ((#[] : Array Nat), free) (StrLaws.occBody (tx cs) (tx [c]) (tx cs).length 1)).run.fst = #[] ∨
    ∃ k, a ≤ k ∧ k < a + m ∧ cs[k]? = some c ∧ (∀ i, a ≤ i → i < k → cs[i]? ≠ some c) ∧ (forIn (List.range' a m) ((#[] : Array Nat), free) (StrLaws.occBody (tx cs) (tx [c]) (tx cs).length 1)).run.fst = #[k]
  | 0, a, free, hf => .inl ⟨fun i h1 h2 => by omega, rfl⟩
  | m + 1, a, free, hf => by
    have one := StrLaws.subAt_one (tx cs) c a
    rw [List.range'_succ, List.forIn_cons]
    unfold StrLaws.occBody
    by_cases hc : cs[a]? = some c
    · have q := one.mpr hc
      have c1 : ((((#[] : Array Nat), free).fst.size < 1 ∧ ((#[] : Array Nat), free).snd ≤ a) ∧ a + (tx [c]).length ≤ (tx cs).length) ∧ Builtin.Str.subAt (tx cs) (tx [c]) a = true := ⟨⟨⟨by simp, hf⟩, q.1⟩, q.2⟩
      rw [if_pos c1]
      refine .inr ⟨a, Nat.le_refl _, by omega, hc, fun i h1 h2 => by omega, ?_⟩
      exact occ_full _ _ _ _ _ rfl
    · have c2 : ¬ (((((#[] : Array Nat), free).fst.size < 1 ∧ ((#[] : Array Nat), free).snd ≤ a) ∧ a + (tx [c]).length ≤ (tx cs).length) ∧ Builtin.Str.subAt (tx cs) (tx [c]) a = true) := fun h => hc (one.mp ⟨h.1.2, h.2⟩)
      rw [if_neg c2]
      rcases occ_first cs c m (a + 1) free (by omega) with ⟨h1, h2⟩ | ⟨k, k1, k2, k3, k4, k5⟩
      · refine .inl ⟨fun i i1 i2 => ?_, h2⟩
        by_cases e : i = a
        · rw [e]; exact hc
        · exact h1 i (by omega) (by omega)
      · refine .inr ⟨k, by omega, by omega, k3, fun i i1 i2 => ?_, k5⟩
        by_cases e : i = a
        · rw [e]; exact hc
        · exact k4 i (by omega) i2
theorem occ_sign (cs : List Nat) (c : Nat) : Builtin.Str.occurrences (tx cs) (tx [c]) 0 (tx cs).length 1 = if c ∈ cs then [fi c cs] else [] := by
  rw [StrLaws.occ_eq]
  have hl : (tx cs).length = cs.length := tx_len cs
  rcases occ_first cs c ((tx cs).length + 1 - 0) 0 0 (Nat.le_refl _) with ⟨h1, h2⟩ | ⟨k, k1, k2, k3, k4, k5⟩
  · rw [h2]
    have hn : c ∉ cs := fun hm => by
      have := fi_lt hm
      exact h1 (fi c cs) (Nat.zero_le _) (by omega) (fi_get hm)
    rw [if_neg hn]
  · rw [k5]
    have hm : c ∈ cs := List.mem_of_getElem? k3
    rw [if_pos hm]
    have e : k = fi c cs := by
      rcases Nat.lt_trichotomy k (fi c cs) with q | q | q
      · exact absurd k3 (fi_before q)
      · exact q
      · exact absurd (fi_get hm) (k4 _ (Nat.zero_le _) q)
    rw [e]
theorem find_sign (cs : List Nat) (c : Nat) : Txt.find (tx cs) (tx [c]) = if c ∈ cs then (fi c cs : Int) else -1 := by
  unfold Txt.find
  rw [occ_sign]
  by_cases h : c ∈ cs
  · rw [if_pos h, if_pos h]
  · rw [if_neg h, if_neg h]
/-! ### rstrip by one sign -/
def rs (c : Nat) (cs : List Nat) : List Nat := (cs.reverse.dropWhile (fun a => a == c)).reverse
theorem rs_take (c : Nat) (cs : List Nat) : cs.take (cs.length - (cs.reverse.takeWhile (fun a => a == c)).length) = rs c cs := by
  unfold rs
  have h : cs.reverse.takeWhile (fun a => a == c) ++ cs.reverse.dropWhile (fun a => a == c) = cs.reverse := List.takeWhile_append_dropWhile
  have h2 : cs = (cs.reverse.dropWhile (fun a => a == c)).reverse ++ (cs.reverse.takeWhile (fun a => a == c)).reverse := by
    rw [← List.reverse_append, h, List.reverse_reverse]
  have hl : cs.length = ((cs.reverse.dropWhile (fun a => a == c)).reverse).length + (cs.reverse.takeWhile (fun a => a == c)).length := by
    have := congrArg List.length h2
    rw [List.length_append, List.length_reverse (as := List.takeWhile _ _)] at this
    exact this
  have e : cs.length - (cs.reverse.takeWhile (fun a => a == c)).length = ((cs.reverse.dropWhile (fun a => a == c)).reverse).length := by omega
  rw [e]
  generalize (cs.reverse.dropWhile (fun a => a == c)).reverse = A at h2 ⊢
  generalize (cs.reverse.takeWhile (fun a => a == c)).reverse = B at h2
  rw [h2, List.take_left]
theorem rstrip_sign (cs : List Nat) (c : Nat) : Txt.rstripChars (tx cs) (tx [c]) = tx (rs c cs) := by
  unfold Txt.rstripChars
  rw [PyProof.Rows.stripBy_eq]
  refine TL.ext_tl ?_
  rw [TL.tl_strSub]
  show List.take ((tx cs).length - (((tx cs).cps.toList.drop 0).reverse.takeWhile (tx [c]).cps.contains).length - 0) (List.drop 0 (tx cs).cps.toList) = rs c cs
  rw [Nat.sub_zero, List.drop_zero]
  have hg : (tx [c]).cps.contains = fun a => a == c := by
    funext a
    show (#[c] : Array Nat).contains a = (a == c)
    simp [Array.contains, BEq.comm]
  rw [hg, tx_cps, tx_len]
  exact rs_take c cs
end My
namespace My
open PySem PySem.Spec PyProof.Rows L2
section
variable {X : Cx}
/-- a short text times an int -/
def rMulS : R2 := fun x y H Q => ∃ (cs : List Nat) (n : Nat), x = .str (tx cs) ∧ y = .int (n : Int) ∧ n ≤ 1000000 ∧ cs.length ≤ 16 ∧ Q (.str (tx (List.replicate n cs).flatten)) H
theorem rep_fold (cs : List Nat) (n : Nat) (a : Array Nat) : ((List.replicate n cs.toArray).foldl (· ++ ·) a) = a ++ (List.replicate n cs).flatten.toArray := by
  induction n generalizing a with
  | zero => simp
  | succ n ih =>
    rw [List.replicate_succ, List.foldl_cons, ih, List.replicate_succ, List.flatten_cons]
    simp [Array.append_assoc]
theorem line_of {n : Nat} (h : n ≤ 16777216) : n ≤ sizeLine := Nat.le_trans h (by decide)
theorem op_mul_str : OpR X (binaryOp .Mult) rMulS := by
  intro pins s σ H x y v u Q I rx ry h
  obtain ⟨cs, n, rfl, rfl, h0, hz, q⟩ := h
  obtain ⟨t, rfl⟩ := rx
  obtain ⟨t', rfl⟩ := ry
  have hL : (tx cs).length = cs.length := tx_len cs
  have hp : cs.length * n ≤ 16000000 := Nat.mul_le_mul hz h0
  have hp2 : (cs.length : Int) * (n : Int) ≤ 16000000 := by
    rw [← Int.natCast_mul]
    exact Int.ofNat_le.mpr hp
  refine PySem.P.mul_str ?_ ?_ ?_ ?_
  · rw [decide_eq_false (by omega), decide_eq_false (by omega)]; rfl
  · intro hn _ hb
    have h3 : ((cs.length : Nat) : Int) ≤ (2 ^ 63 - 1) / (n : Int) := by
      refine (Int.le_ediv_iff_mul_le (by omega)).mpr ?_
      omega
    rw [hL] at hb
    omega
  · intro _ _
    show decide (_ > sizeLine) = false
    rw [hL, Int.toNat_natCast]
    exact decide_eq_false (Nat.not_lt.mpr (line_of (by omega)))
  · by_cases hn : (n : Int) < 1
    · rw [if_pos hn]
      have e0 : n = 0 := by omega
      subst e0
      have e : tx (List.replicate 0 cs).flatten = Str.empty := rfl
      rw [e] at q
      exact ⟨line_of (by decide), ⟨.str Str.empty, H, I.tok _, ⟨_, rfl⟩, q⟩⟩
    · rw [if_neg hn]
      by_cases h2 : ((n : Int) == 1 || (tx cs).length == 0) = true
      · rw [if_pos h2]
        have e : tx (List.replicate n cs).flatten = tx cs := by
          rw [tx_eq]
          rcases Bool.or_eq_true _ _ ▸ h2 with q1 | q1
          · have : n = 1 := by
              have := eq_of_beq q1
              omega
            subst this
            simp
          · have : cs = [] := by
              have q2 := eq_of_beq q1
              rw [hL] at q2
              exact List.length_eq_zero_iff.mp q2
            subst this
            simp
        rw [e] at q
        exact ⟨.str (tx cs), H, I, ⟨_, rfl⟩, q⟩
      · rw [if_neg h2]
        have e : (⟨(List.replicate (n : Int).toNat (tx cs).cps).foldl (· ++ ·) #[]⟩ : Str) = tx (List.replicate n cs).flatten := by
          show (⟨(List.replicate (n : Int).toNat cs.toArray).foldl (· ++ ·) #[]⟩ : Str) = _
          rw [rep_fold, Int.toNat_natCast]
          simp [tx]
        rw [e]
        have hlen : (tx (List.replicate n cs).flatten).length ≤ sizeLine := by
          rw [tx_len]
          refine line_of ?_
          simp
          rw [Nat.mul_comm]
          omega
        exact ⟨hlen, ⟨.str (tx (List.replicate n cs).flatten), H, I.tok _, ⟨_, rfl⟩, q⟩⟩
/-- < of data at any depth, alike -/
def rLtD (K : PySem.W.Frag) : R2 := fun x y H Q => ∃ d e, Dp K H x d ∧ Dp K H y e ∧ PySem.W.alike d e = true ∧ d ≠ .none ∧ min d.depth e.depth ≤ 60 ∧ Q (.bl (PySem.W.dataLt d e)) H
theorem op_ltD (hu : X.A.units + 64 < cLine) : OpR X (compareOp .Lt) (rLtD X.K) := by
  intro pins s σ H x y v u Q I rx ry h
  obtain ⟨d, e, hd, he, al, hn, hdp, q⟩ := h
  obtain ⟨as, r1⟩ := Dp.reads I d x v hd rx
  obtain ⟨bs, r2⟩ := Dp.reads I e y u he ry
  exact PySem.W.rcLt_alike d e X.A s v u as bs r1 r2 al hn (by omega) _ _ _ _ ⟨.bl (PySem.W.dataLt d e), H, I, rfl, q⟩
/-- text[::-1] -/
def tRevS (te : TE) : TE := fun σ H Q => te σ H fun x H1 => ∃ cs : List Nat, x = .str (tx cs) ∧ cs.length ≤ sizeLine ∧ Q (.str (tx cs.reverse)) H1
theorem rev_pick (cs : List Nat) : ((Builtin.Str.strSliceIndices none none (-1) cs.length).filterMap (cs.toArray[·]?)) = cs.reverse := by
  have e : Builtin.Str.strSliceIndices none none (-1) cs.length = (List.range cs.length).map fun k => cs.length - 1 - k := by
    show sliceRange ((cs.length : Int) - 1) (-1) (-1) = _
    exact PySem.W.krv_sliceRange cs.length
  rw [e]
  apply List.ext_getElem?
  intro i
  rw [List.filterMap_map]
  have h2 : (List.range cs.length).filterMap (((fun x => cs.toArray[x]?) ∘ fun k => cs.length - 1 - k)) = (List.range cs.length).map (fun k => cs.getD (cs.length - 1 - k) 0) := by
    have h3 : ∀ l : List Nat, (∀ k ∈ l, k < cs.length) → l.filterMap (((fun x => cs.toArray[x]?) ∘ fun k => cs.length - 1 - k)) = l.map (fun k => cs.getD (cs.length - 1 - k) 0) := by
      intro l
      induction l with
      | nil => intro _; rfl
      | cons k r ih =>
        intro hk
        have hlt : cs.length - 1 - k < cs.length := by
          have := hk k (List.mem_cons_self ..)
          omega
        have e1 : (((fun x => cs.toArray[x]?) ∘ fun k => cs.length - 1 - k)) k = some (cs.getD (cs.length - 1 - k) 0) := by
          show cs.toArray[cs.length - 1 - k]? = _
          simp [List.getD, hlt]
        rw [List.filterMap_cons_some e1, List.map_cons, ih fun j hj => hk j (List.mem_cons_of_mem _ hj)]
    exact h3 _ fun k hk => List.mem_range.mp hk
  rw [h2, List.getElem?_map]
  by_cases hi : i < cs.length
  · rw [List.getElem?_range hi, List.getElem?_reverse hi]
    have hlt : cs.length - 1 - i < cs.length := by omega
    simp [List.getD, hlt]
  · rw [List.getElem?_eq_none (by simp; omega), List.getElem?_eq_none (by simp; omega)]
    rfl
theorem pe_revS {e : Expr} {te : TE} {k : Nat} {p1 p2 p3 pos : Pos} (he : PE X e te) : PE X (.Subscript e (.Slice none none (some (.UnaryOp .USub (.Constant (.int 1) k p1) p2)) p3) pos) (tRevS te) := by
  refine ⟨fun pins s σ H Q I h => ?_⟩
  refine Subscript_ (thn (he.run pins s σ H _ I h) fun v s1 ⟨x, H1, I1, r1, q1⟩ => ?_)
  obtain ⟨cs, ex, hx, q⟩ := q1
  subst ex
  obtain ⟨t, rfl⟩ := r1
  have hst : PO X (some (.UnaryOp .USub (.Constant (.int 1) k p1) p2)) (tPart (tUn (rU fun i => .int (-i)) (tC (.int 1)))) := po_some (pe_un un_neg pe_int)
  refine wpAny_Slice (thn (po_none.run pins s1 σ H1 (fun o H2 => o = none ∧ H2 = H1) I1 ⟨rfl, rfl⟩) fun vl s2 ⟨l, H2, I2, pl, el, e2⟩ => ?_)
  subst el e2
  refine thn (po_none.run pins s2 σ H2 (fun o H3 => o = none ∧ H3 = H2) I2 ⟨rfl, rfl⟩) fun vu s3 ⟨u, H3, I3, pu, eu, e3⟩ => ?_
  subst eu e3
  refine thn (hst.run pins s3 σ H3 (fun o H4 => o = some (-1) ∧ H4 = H3) I3 ⟨1, rfl, -1, rfl, rfl, rfl⟩) fun vs s4 ⟨o, H4, I4, ps, eo, e4⟩ => ?_
  subst eo e4
  have I5 : Inv X pins σ H4 { s4 with heap := s4.heap.push { cls := .type "slice", data := .fields #[vl, vu, vs] } } := I4.kept (t' := s4.toks) fun b ob q => Heap.get?_push_of_some _ q
  obtain ⟨l', rfl, hl⟩ := IsPart.raw pl
  obtain ⟨u', rfl, hu⟩ := IsPart.raw pu
  obtain ⟨st', rfl, hst'⟩ := IsPart.raw ps
  show wpAny (model X.prog X.w) X.A (subscriptTail e (.Slice none none (some (.UnaryOp .USub (.Constant (.int 1) k p1) p2)) p3) (.str (tx cs) t) (.ref s4.heap.objs.size)) (EP X pins σ Q) X.xe { s4 with heap := s4.heap.push { cls := .type "slice", data := .fields #[partValue l', partValue u', partValue st'] } }
  refine tail_any (T := "str") (ops := [.str (tx cs) t, .ref s4.heap.objs.size]) (typeIs_str _ _ _) (PySem.F.slot_str_getitem.lookup) ?_ (by with_unfolding_all rfl)
  refine wpAny_getItem_str_slice (l := l') (u := u') (st := st') ⟨_, Heap.get?_push_size _ rfl, rfl, rfl⟩ (by rw [hst']; rfl) ?_
  unfold sliceMade
  rw [hst']
  rw [if_neg (by simp)]
  have e9 : slicePicked (tx cs) l' u' st' = Builtin.Str.strSliceIndices none none (-1) cs.length := by
    unfold slicePicked
    rw [hl, hu, hst', tx_len]
    rfl
  rw [e9]
  have e10 : (⟨((Builtin.Str.strSliceIndices none none (-1) cs.length).filterMap ((tx cs).cps[·]?)).toArray⟩ : Str) = tx cs.reverse := by
    show (⟨((Builtin.Str.strSliceIndices none none (-1) cs.length).filterMap (cs.toArray[·]?)).toArray⟩ : Str) = _
    rw [rev_pick]
    rfl
  rw [e10]
  refine ⟨by rw [tx_len, List.length_reverse]; exact hx, ⟨.str (tx cs.reverse), H4, I5.tok _, ⟨_, rfl⟩, q⟩⟩
/-- text.index(sign), a sign that stands there -/
theorem mt_indexS : MtR X "str.index" (fun x xs H Q => ∃ (cs : List Nat) (c : Nat), x = .str (tx cs) ∧ xs = [.str (tx [c])] ∧ c ∈ cs ∧ Q (.int (fi c cs : Nat)) H) := by
  intro pins s σ H x xs v us Q I rx rs h
  obtain ⟨cs, c, rfl, rfl, hm, q⟩ := h
  refine mt_sindex pins s σ H _ _ v us Q I rx rs ⟨tx cs, tx [c], fi c cs, [], rfl, rfl, ?_, q⟩
  rw [occ_sign, if_pos hm]
end
end My
namespace My
open PySem L2
/-! ### text order -/
def prec (a b : List Nat) : Bool := decide (a.length < b.length) || (decide (a.length = b.length) && decide (a < b))
theorem lt_pair (i j : Int) (x y : Str) : PySem.W.dataLt (.tuple [.int i, .str x]) (.tuple [.int j, .str y]) = (decide (i < j) || (decide (i = j) && decide (x.cps.toList < y.cps.toList))) := by
  rw [PySem.W.dataLt_tuple]
  by_cases e : i = j
  · subst e
    have h1 : PyData.eqv (.int i) (.int i) = true := by simp [PyData.eqv]
    rw [PySem.W.dataLt_all_yes (by simp [PySem.W.alike]) h1]
    have n1 : decide (i < i) = false := decide_eq_false (by omega)
    rw [n1, Bool.false_or, decide_eq_true rfl, Bool.true_and]
    by_cases e2 : x = y
    · subst e2
      have h2 : PyData.eqv (.str x) (.str x) = true := by simp [PyData.eqv]
      rw [PySem.W.dataLt_all_yes (by simp [PySem.W.alike]) h2, decide_eq_false (List.lt_irrefl _)]
      exact PyProof.Rows.lex_irrefl _
    · have h2 : PyData.eqv (.str x) (.str y) = false := by simp [PyData.eqv, e2]
      rw [PySem.W.dataLt_all_no (by simp [PySem.W.alike]) h2, PySem.W.dataLt_str]
  · have h1 : PyData.eqv (.int i) (.int j) = false := by simp [PyData.eqv, e]
    rw [PySem.W.dataLt_all_no (by simp [PySem.W.alike]) h1, PySem.W.dataLt_int, decide_eq_false e, Bool.false_and, Bool.or_false]
theorem atI_neg1 {α : Type} {s : List α} (h : s ≠ []) : atI s (-1) = some (s.getLast h) := by
  have := atI_last s.dropLast (s.getLast h)
  rw [List.dropLast_concat_getLast h] at this
  exact this
theorem atI_zero {α : Type} {s : List α} {c : α} {r : List α} (h : s = c :: r) : atI s 0 = some c := by
  subst h
  exact atI_nat (j := 0) rfl
theorem sIx_neg1 (n d : Nat) : HT.sIx n d (some (-1)) = n - 1 := by
  show (if (-1 : Int) < 0 then ((-1 : Int) + (n : Int)).toNat else min (-1 : Int).toNat n) = n - 1
  rw [if_pos (by decide)]
  omega
theorem cut_last (cs : List Nat) : cutS (tx cs) none (some (-1)) = tx cs.dropLast := by
  rw [tx_cut, sIx_neg1, HT.sIx_none, List.drop_zero, Nat.sub_zero, List.dropLast_eq_take]
theorem cut_to (cs : List Nat) (k : Nat) : cutS (tx cs) none (some (k : Int)) = tx (cs.take k) := by
  rw [tx_cut, HT.sIx_nat, HT.sIx_none, List.drop_zero, Nat.sub_zero]
  by_cases h : k ≤ cs.length
  · rw [Nat.min_eq_left h]
  · rw [Nat.min_eq_right (by omega), List.take_of_length_le (by omega), List.take_of_length_le (by omega)]
theorem cut_from (cs : List Nat) (k : Nat) : cutS (tx cs) (some (k : Int)) none = tx (cs.drop k) := by
  rw [tx_cut, HT.sIx_nat, HT.sIx_none]
  by_cases h : k ≤ cs.length
  · rw [Nat.min_eq_left h, List.take_of_length_le (by simp)]
  · rw [Nat.min_eq_right (by omega), List.drop_of_length_le (by omega), List.drop_of_length_le (by omega)]
    simp
theorem cut_mid (cs : List Nat) (i j : Nat) : cutS (tx cs) (some (i : Int)) (some (j : Int)) = tx ((cs.drop i).take (j - i)) := by
  rw [tx_cut, HT.sIx_nat, HT.sIx_nat, tx_eq]
  apply List.ext_getElem?
  intro k
  by_cases hi : i ≤ cs.length
  · rw [Nat.min_eq_left hi, List.getElem?_take, List.getElem?_take]
    by_cases hj : j ≤ cs.length
    · rw [Nat.min_eq_left hj]
    · rw [Nat.min_eq_right (by omega)]
      by_cases h1 : k < cs.length - i
      · rw [if_pos h1, if_pos (by omega)]
      · rw [if_neg h1]
        by_cases h2 : k < j - i
        · rw [if_pos h2, List.getElem?_eq_none (by simp; omega)]
        · rw [if_neg h2]
  · have e1 : cs.drop i = [] := List.drop_of_length_le (by omega)
    have e2 : cs.drop (min i cs.length) = [] := List.drop_of_length_le (by omega)
    rw [e1, e2]
    simp
theorem c_empty : Str.ofString "" = tx [] := by decide +kernel
theorem flat_rep (k c : Nat) : (List.replicate k [c]).flatten = List.replicate k c := by
  induction k with
  | zero => rfl
  | succ k ih => rw [List.replicate_succ, List.flatten_cons, ih, List.replicate_succ]; rfl
theorem cut_to_lit (cs : List Nat) (n : Nat) : cutS (tx cs) none (some (@OfNat.ofNat Int n instOfNat)) = tx (cs.take n) := cut_to cs n
theorem cut_from_lit (cs : List Nat) (n : Nat) : cutS (tx cs) (some (@OfNat.ofNat Int n instOfNat)) none = tx (cs.drop n) := cut_from cs n
/-! ### the following text -/
def nxt (t s : List Nat) : List Nat :=
  let kept := rs (s.getLastD 0) t
  let tail := List.replicate (t.length - kept.length) (s.headD 0)
  if kept = [] then s.headD 0 :: tail else kept.dropLast ++ [s.getD (fi (kept.getLastD 0) s + 1) 0] ++ tail
theorem rs_le (c : Nat) (t : List Nat) : (rs c t).length ≤ t.length := by
  rw [← rs_take, List.length_take]
  omega
theorem rs_sub {c a : Nat} {t : List Nat} (h : a ∈ rs c t) : a ∈ t := by
  rw [← rs_take] at h
  exact List.mem_of_mem_take h
theorem rs_last {c : Nat} {t : List Nat} (h : rs c t ≠ []) : (rs c t).getLast h ≠ c := by
  unfold rs at h ⊢
  rw [List.getLast_reverse]
  have h2 : t.reverse.dropWhile (fun a => a == c) ≠ [] := fun q => h (by rw [q]; rfl)
  have := List.head_dropWhile_not (fun a => a == c) h2
  intro q
  rw [q] at this
  simp at this
theorem fi_next {c : Nat} {s : List Nat} (hm : c ∈ s) (hs : s ≠ []) (hl : c ≠ s.getLast hs) : fi c s + 1 < s.length := by
  have h1 := fi_lt hm
  have h2 := fi_get hm
  rcases Nat.lt_or_ge (fi c s + 1) s.length with h | h
  · exact h
  · have e : fi c s = s.length - 1 := by omega
    rw [e] at h2
    have : s.getLast hs = c := by
      rw [List.getLast_eq_getElem]
      rw [List.getElem?_eq_getElem (by omega)] at h2
      exact Option.some.inj h2
    exact absurd this.symm hl
end My
namespace My
open PySem L2
/-! ### the 96 signs -/
def SG : List Nat := [9, 10, 32, 33, 34, 35, 36, 38, 39, 40, 41, 42, 43, 44, 45, 46, 47, 48, 49, 50, 51, 52, 53, 54, 55, 56, 57, 58, 59, 60, 61, 62, 63, 64, 65, 66, 67, 68, 69, 70, 71, 72, 73, 74, 75, 76, 77, 78, 79, 80, 81, 82, 83, 84, 85, 86, 87, 88, 89, 90, 91, 92, 93, 94, 95, 96, 97, 98, 99, 100, 101, 102, 103, 104, 105, 106, 107, 108, 109, 110, 111, 112, 113, 114, 115, 116, 117, 118, 119, 120, 121, 122, 123, 124, 125, 126]
theorem SG_len : SG.length = 96 := by decide +kernel
theorem SG_asc : SG.Pairwise (· < ·) := by decide +kernel
theorem sgs_tx : (("\t\n !\"#$&'()*+,-./0123456789:;<=>?@ABCDEFGHIJKLMNOPQRSTUVWXYZ[\\]^_`" : Str) ++ ("abcdefghijklmnopqrstuvwxyz{|}~" : Str)) = tx SG := by decide +kernel
theorem sgs_tx2 : ("\t\n !\"#$&'()*+,-./0123456789:;<=>?@ABCDEFGHIJKLMNOPQRSTUVWXYZ[\\]^_`abcdefghijklmnopqrstuvwxyz{|}~" : Str) = tx SG := by decide +kernel
theorem sub_len {cs : List Nat} (h : cs.Sublist SG) : cs.length ≤ 96 := by
  have := h.length_le
  rw [SG_len] at this
  exact this
theorem sub_asc {cs : List Nat} (h : cs.Sublist SG) : cs.Pairwise (· < ·) := SG_asc.sublist h
theorem line20 {n : Nat} (h : n ≤ 20000) : n ≤ sizeLine := Nat.le_trans h (by decide)
theorem toLine {n : Nat} (h : n ≤ 20000) : n < sizeLine := Nat.lt_of_le_of_lt h (by decide)
/-- the text of a list of sign texts -/
theorem sum_one (cs : List Nat) : ((cs.map fun c => tx [c]).map (·.length)).sum = cs.length := by
  induction cs with
  | nil => rfl
  | cons c r ih => rw [List.map_cons, List.map_cons, List.sum_cons, ih, tx_len, List.length_cons]; simp; omega
theorem map_signs (cs : List Nat) : cs.map (fun c => V.str (tx [c])) = (cs.map fun c => tx [c]).map V.str := by rw [List.map_map]; rfl
theorem join_room (cs : List Nat) (h : cs.length ≤ 10000) : ((cs.map fun c => tx [c]).map (·.length)).sum + (cs.map fun c => tx [c]).length * 0 ≤ 16777216 := by
  rw [sum_one]
  simp
  omega
/-- the reading of ''.join at a list of sign texts -/
theorem join_go {K : PySem.W.Frag} {H : Hp} {D : Addr} {cs : List Nat} {Q : VK} (hD : SqL K H D (cs.map fun c => V.str (tx [c]))) (h : cs.length ≤ 10000) (q : Q (.str (tx cs)) H) :
    ∃ ys : List Str, (SqL K H D (ys.map V.str) ∨ SqT K H D (ys.map V.str)) ∧ (ys.map (·.length)).sum + ys.length * 0 ≤ 16777216 ∧ Q (.str (Txt.join (tx []) ys)) H := by
  refine ⟨cs.map fun c => tx [c], .inl ?_, join_room cs h, ?_⟩
  · rw [← map_signs]; exact hD
  · rw [join_signs]; exact q
theorem join_w {K : PySem.W.Frag} {H : Hp} {D : Addr} {cs : List Nat} (hD : SqL K H D (cs.map fun c => V.str (tx [c]))) (h : cs.length ≤ 10000) :
    ∃ ys : List Str, (SqL K H D (ys.map V.str) ∨ SqT K H D (ys.map V.str)) ∧ (ys.map (·.length)).sum + ys.length * 0 ≤ 16777216 ∧ Txt.join (tx []) ys = tx cs :=
  ⟨cs.map fun c => tx [c], .inl (by rw [← map_signs]; exact hD), join_room cs h, join_signs cs⟩
theorem join_go2 {α : Type} {K : PySem.W.Frag} {H : Hp} {D : Addr} {ks : List α} {g : α → Nat} {Q : VK} (hD : SqL K H D (ks.map fun k => V.str (tx [g k]))) (h : ks.length ≤ 10000) (q : Q (.str (tx (ks.map g))) H) :
    ∃ ys : List Str, (SqL K H D (ys.map V.str) ∨ SqT K H D (ys.map V.str)) ∧ (ys.map (·.length)).sum + ys.length * 0 ≤ 16777216 ∧ Q (.str (Txt.join (tx []) ys)) H := by
  refine join_go (cs := ks.map g) ?_ (by rw [List.length_map]; exact h) q
  rw [List.map_map]
  exact hD
theorem range_map_getD (cs : List Nat) : (List.range cs.length).map (fun k => cs.getD k 0) = cs := by
  apply List.ext_getElem?
  intro i
  rw [List.getElem?_map]
  by_cases h : i < cs.length
  · rw [List.getElem?_range h, List.getElem?_eq_getElem h]
    simp [List.getD, h]
  · rw [List.getElem?_eq_none (by simp; omega), List.getElem?_eq_none (by omega)]
    rfl
theorem atI_pos {α : Type} {s : List α} {i : Int} (h0 : 0 ≤ i) (h1 : i < s.length) : ∃ j : Nat, i = (j : Int) ∧ ∃ h : j < s.length, atI s i = some s[j] := by
  obtain ⟨j, rfl⟩ := Int.eq_ofNat_of_zero_le h0
  have hj : j < s.length := by omega
  exact ⟨j, rfl, hj, atI_nat (List.getElem?_eq_getElem hj)⟩
theorem fi_asc : ∀ {s : List Nat}, s.Pairwise (· < ·) → ∀ {a b : Nat}, a ∈ s → b ∈ s → (fi a s < fi b s ↔ a < b)
  | [], _, _, _, h, _ => by cases h
  | x :: r, hp, a, b, ha, hb => by
    obtain ⟨h1, h2⟩ := List.pairwise_cons.mp hp
    unfold fi
    by_cases ea : x = a
    · rw [if_pos ea]
      by_cases eb : x = b
      · rw [if_pos eb]; omega
      · rw [if_neg eb]
        have : b ∈ r := by
          rcases List.mem_cons.mp hb with q | q
          · exact absurd q.symm eb
          · exact q
        have := h1 b this
        omega
    · rw [if_neg ea]
      have har : a ∈ r := by
        rcases List.mem_cons.mp ha with q | q
        · exact absurd q.symm ea
        · exact q
      by_cases eb : x = b
      · rw [if_pos eb]
        have := h1 a har
        omega
      · rw [if_neg eb]
        have hbr : b ∈ r := by
          rcases List.mem_cons.mp hb with q | q
          · exact absurd q.symm eb
          · exact q
        have := fi_asc h2 har hbr
        omega
/-! ### isinstance against built-in classes -/
section
variable {K : PySem.W.Frag} {H : Hp} {Q : VK}
theorem isi_bl_bool {a : Bool} (q : Q (.bl true) H) : rIsi K [.bl a, .ty "bool"] H Q := ⟨.bl a, .ty "bool", .type "bool", .type "bool", true, rfl, .ty _, .base (.bl a), kit_ty (by decide +kernel), q⟩
theorem isi_int_int {a : Int} (q : Q (.bl true) H) : rIsi K [.int a, .ty "int"] H Q := ⟨.int a, .ty "int", .type "int", .type "int", true, rfl, .ty _, .base (.int a), kit_ty (by decide +kernel), q⟩
theorem isi_int_bool {a : Int} (q : Q (.bl false) H) : rIsi K [.int a, .ty "bool"] H Q := ⟨.int a, .ty "bool", .type "int", .type "bool", false, rfl, .ty _, .base (.int a), kit_ty (by decide +kernel), q⟩
theorem isi_str_str {a : Str} (q : Q (.bl true) H) : rIsi K [.str a, .ty "str"] H Q := ⟨.str a, .ty "str", .type "str", .type "str", true, rfl, .ty _, .base (.str a), kit_ty (by decide +kernel), q⟩
end
/-! ### rules with the written part named -/
section
variable {X : Cx}
def rLenQ (K : PySem.W.Frag) : List V → Hp → VK → Prop := fun xs H Q => ∃ p ys, xs = [.ref p] ∧ (SqL K H p ys ∨ SqT K H p ys) ∧ Q (.int ys.length) H
theorem call_lenQ : CallR X (.builtin "len") (rLenQ X.K) := call_len_seq
def rListOf (K : PySem.W.Frag) : List V → Hp → VK → Prop := fun xs H Q => ∃ p ys, xs = [.ref p] ∧ (SqL K H p ys ∨ SqT K H p ys) ∧ ∀ l, H l = none → Q (.ref l) (upd H l (.lst ys))
theorem call_listOf : CallR X (.type "list") (rListOf X.K) := call_list_of
def rJoin (K : PySem.W.Frag) : V → List V → Hp → VK → Prop := fun x xs H Q => ∃ a, x = .str a ∧ ∃ p, xs = [.ref p] ∧ ∃ ys : List Str, (SqL K H p (ys.map V.str) ∨ SqT K H p (ys.map V.str)) ∧ (ys.map (·.length)).sum + ys.length * a.length ≤ 16777216 ∧ Q (.str (Txt.join a ys)) H
theorem mt_joinQ : MtR X "str.join" (rJoin X.K) := by
  intro pins s σ H x xs v us Q I rx rs h
  obtain ⟨a, e1, p, e2, ys, h1, h2, q⟩ := h
  exact mt_join pins s σ H x xs v us Q I rx rs ⟨a, p, ys, e1, e2, h1, h2, q⟩
end
end My
namespace My
open PySem L2
theorem atI_six {a0 a1 a2 a3 a4 a5 : V} {r : Int} (h0 : 0 ≤ r) (h1 : r < 6) : ∃ v, atI [a0, a1, a2, a3, a4, a5] r = some v ∧ (v = a0 ∨ v = a1 ∨ v = a2 ∨ v = a3 ∨ v = a4 ∨ v = a5) := by
  have : r = 0 ∨ r = 1 ∨ r = 2 ∨ r = 3 ∨ r = 4 ∨ r = 5 := by omega
  rcases this with rfl | rfl | rfl | rfl | rfl | rfl
  · exact ⟨a0, rfl, .inl rfl⟩
  · exact ⟨a1, rfl, .inr (.inl rfl)⟩
  · exact ⟨a2, rfl, .inr (.inr (.inl rfl))⟩
  · exact ⟨a3, rfl, .inr (.inr (.inr (.inl rfl)))⟩
  · exact ⟨a4, rfl, .inr (.inr (.inr (.inr (.inl rfl))))⟩
  · exact ⟨a5, rfl, .inr (.inr (.inr (.inr (.inr rfl))))⟩
/-- signs of a text, each by its own draw -/
theorem lc_draws {cs : List Nat} {d l : Addr} {k : Nat} {tt : TT} {te : TE} {σ : St} {H1 : Hp} {Q : VK} (hn : cs.length ≤ 20000) (hD : Drw H1 d l)
    (hT : ∀ c H (Q : Bool → Hp → Prop), c ∈ cs → Drw H d l → (∀ b H', Drw H' d l → But d H H' → Q b H') → tt ((σ.set k none).set k (some (.str (tx [c])))) H Q)
    (hE : ∀ c H (Q : VK), c ∈ cs → Q (.str (tx [c])) H → te ((σ.set k none).set k (some (.str (tx [c])))) H Q)
    (h : ∀ D H (es : List Nat), H1 D = none → es.Sublist cs → Drw H d l → But d H1 H → H D = some (.lst (es.map fun c => V.str (tx [c]))) → Q (.ref D) H) :
    LcJ (Its (tx cs)) (gName k) tt te [k] σ H1 Q := by
  obtain ⟨Pv, hP⟩ : ∃ Pv : Addr → Nat → Hp → Prop, ∀ D i H, Pv D i H ↔ ∃ es : List Nat, es.Sublist (cs.take i) ∧ Drw H d l ∧ But d H1 H ∧ H D = some (.lst (es.map fun c => V.str (tx [c]))) := ⟨_, fun _ _ _ => Iff.rfl⟩
  refine lcJ_by (reg_text cs) Pv (fun _ _ _ _ _ => trivial) (fun D hD1 => ?_) (fun D i c H hD1 hi hp => ?_) (fun D H hD1 hp => ?_)
  · exact (hP _ _ _).mpr ⟨[], List.nil_sublist _, hD.new hD1, (But.refl d H1).new hD1, upd_same⟩
  · obtain ⟨es, e1, e2, e3, e4⟩ := (hP _ _ _).mp hp
    have hm : c ∈ cs := List.mem_of_getElem? hi
    have ht : cs.take (i + 1) = cs.take i ++ [c] := by rw [List.take_add_one, hi]; rfl
    have hDd : D ≠ d := hD.ne hD1
    refine hT c H _ hm e2 fun b H' d' b' => ?_
    have hl : H' D = some (.lst (es.map fun c => V.str (tx [c]))) := b' _ _ hDd e4
    cases b with
    | false =>
      rw [if_neg Bool.false_ne_true]
      refine (hP _ _ _).mpr ⟨es, ?_, d', e3.trans b', hl⟩
      rw [ht]
      exact e1.trans (List.sublist_append_left _ _)
    | true =>
      rw [if_pos rfl]
      refine hE c H' _ hm ⟨_, hl, ?_, ?_⟩
      · rw [List.length_map]
        have h1 := e1.length_le
        have h2 : (cs.take i).length ≤ cs.length := by rw [List.length_take]; omega
        exact toLine (by omega)
      · refine (hP _ _ _).mpr ⟨es ++ [c], ?_, ?_, ?_, ?_⟩
        · rw [ht]; exact e1.append (List.Sublist.refl _)
        · exact d'.put hDd (hD.nel hD1)
        · intro b o nb e
          rw [upd_ne (ne_of_none e hD1)]
          exact b' _ _ nb (e3 _ _ nb e)
        · rw [upd_same, List.map_append]; rfl
  · obtain ⟨es, e1, e2, e3, e4⟩ := (hP _ _ _).mp hp
    rw [List.take_length] at e1
    exact h D H es hD1 e1 e2 e3 e4
/-- texts of one sign, each by its own draw -/
theorem lc_any {α : Type} {J : It} {its : List α} {item : α → V} (R : Reg J its item (fun _ => True)) {d l : Addr} {k : Nat} {te : TE} {σ : St} {H1 : Hp} {Q : VK} (S : Nat → Prop) (hn : its.length ≤ 20000) (hD : Drw H1 d l)
    (hE : ∀ a H (Q : VK), a ∈ its → Drw H d l → (∀ c H', S c → Drw H' d l → But d H H' → Q (.str (tx [c])) H') → te ((σ.set k none).set k (some (item a))) H Q)
    (h : ∀ D H (es : List Nat), H1 D = none → (∀ c ∈ es, S c) → es.length = its.length → Drw H d l → But d H1 H → H D = some (.lst (es.map fun c => V.str (tx [c]))) → Q (.ref D) H) :
    LcJ J (gName k) tYes te [k] σ H1 Q := by
  obtain ⟨Pv, hP⟩ : ∃ Pv : Addr → Nat → Hp → Prop, ∀ D i H, Pv D i H ↔ ∃ es : List Nat, (∀ c ∈ es, S c) ∧ es.length = i ∧ Drw H d l ∧ But d H1 H ∧ H D = some (.lst (es.map fun c => V.str (tx [c]))) := ⟨_, fun _ _ _ => Iff.rfl⟩
  refine lcJ_by R Pv (fun _ _ _ _ _ => trivial) (fun D hD1 => ?_) (fun D i c H hD1 hi hp => ?_) (fun D H hD1 hp => ?_)
  · exact (hP _ _ _).mpr ⟨[], by simp, rfl, hD.new hD1, (But.refl d H1).new hD1, upd_same⟩
  · obtain ⟨es, e1, e2, e3, e4, e5⟩ := (hP _ _ _).mp hp
    have hm : c ∈ its := List.mem_of_getElem? hi
    have hlt := (List.getElem?_eq_some_iff.mp hi).1
    have hDd : D ≠ d := hD.ne hD1
    simp only [tYes, ↓reduceIte]
    refine hE c H _ hm e3 fun c' H' hc d' b' => ?_
    have hl : H' D = some (.lst (es.map fun c => V.str (tx [c]))) := b' _ _ hDd e5
    refine ⟨_, hl, ?_, ?_⟩
    · rw [List.length_map]
      exact toLine (by omega)
    · refine (hP _ _ _).mpr ⟨es ++ [c'], ?_, ?_, d'.put hDd (hD.nel hD1), ?_, ?_⟩
      · intro x hx
        rcases List.mem_append.mp hx with q | q
        · exact e1 x q
        · rw [List.mem_singleton.mp q]; exact hc
      · rw [List.length_append, e2]; rfl
      · intro b o nb e
        rw [upd_ne (ne_of_none e hD1)]
        exact b' _ _ nb (e4 _ _ nb e)
      · rw [upd_same, List.map_append]; rfl
  · obtain ⟨es, e1, e2, e3, e4, e5⟩ := (hP _ _ _).mp hp
    exact h D H es hD1 e1 e2 e3 e4 e5
theorem inV_signs (c : Nat) (es : List Nat) : inV (V.str (tx [c])) (es.map fun c => V.str (tx [c])) = decide (c ∈ es) := by
  unfold inV
  rw [List.any_map]
  have h : ∀ a, ((fun y => eqV y (V.str (tx [c]))) ∘ fun c => V.str (tx [c])) a = (a == c) := by
    intro a
    show eqV (V.str (tx [a])) (V.str (tx [c])) = (a == c)
    unfold eqV
    by_cases e : a = c
    · subst e; simp
    · have e2 : ¬ tx [a] = tx [c] := fun q => e (by rw [tx_eq] at q; exact (List.cons.inj q).1)
      have e3 : (a == c) = false := beq_eq_false_iff_ne.mpr e
      rw [e3]
      simp [e2]
  induction es with
  | nil => rfl
  | cons x r ih =>
    rw [List.any_cons, h, ih, Bool.eq_iff_iff]
    simp only [Bool.or_eq_true, beq_iff_eq, decide_eq_true_eq, List.mem_cons]
    constructor
    · rintro (q | q)
      · exact .inl q.symm
      · exact .inr q
    · rintro (q | q)
      · exact .inl q.symm
      · exact .inr q
theorem flat_signs (es : List Nat) : (es.map fun c => V.str (tx [c])).all flatV = true := by
  induction es with
  | nil => rfl
  | cons x r ih => rw [List.map_cons, List.all_cons, ih]; rfl
end My
namespace My
open PySem L2
/-! ### the place of a text among all texts over a set text -/
def pl (s : List Nat) (p : Int) (t : List Nat) : Int := t.foldl (fun p c => p * (s.length : Int) + (fi c s : Int) + 1) p
def place (t s : List Nat) : Int := pl s 0 t
theorem pl_cons (s : List Nat) (p : Int) (c : Nat) (t : List Nat) : pl s p (c :: t) = pl s (p * (s.length : Int) + (fi c s : Int) + 1) t := rfl
theorem pl_app (s : List Nat) (p : Int) (a b : List Nat) : pl s p (a ++ b) = pl s (pl s p a) b := List.foldl_append ..
theorem pl_lt {s : List Nat} : ∀ {a b : List Nat} {p q : Int}, (∀ c ∈ a, c ∈ s) → a.length = b.length → p < q → pl s p a < pl s q b
  | [], [], p, q, _, _, h => h
  | [], _ :: _, _, _, _, h, _ => by simp at h
  | _ :: _, [], _, _, _, h, _ => by simp at h
  | x :: a, y :: b, p, q, ha, hl, h => by
    rw [pl_cons, pl_cons]
    refine pl_lt (fun c hc => ha c (List.mem_cons_of_mem _ hc)) (by simpa using hl) ?_
    have h1 := fi_lt (ha x (List.mem_cons_self ..))
    have h2 : (p + 1) * (s.length : Int) ≤ q * (s.length : Int) := Int.mul_le_mul_of_nonneg_right (by omega) (by omega)
    rw [Int.add_mul, Int.one_mul] at h2
    omega
theorem pl_lex {s : List Nat} (hs : s.Pairwise (· < ·)) : ∀ {a b : List Nat} (p : Int), (∀ c ∈ a, c ∈ s) → (∀ c ∈ b, c ∈ s) → a.length = b.length → a < b → pl s p a < pl s p b
  | [], [], _, _, _, _, h => absurd h (List.lt_irrefl _)
  | [], _ :: _, _, _, _, h, _ => by simp at h
  | _ :: _, [], _, _, _, h, _ => by simp at h
  | x :: a, y :: b, p, ha, hb, hl, h => by
    rw [pl_cons, pl_cons]
    have ha' : ∀ c ∈ a, c ∈ s := fun c hc => ha c (List.mem_cons_of_mem _ hc)
    have hb' : ∀ c ∈ b, c ∈ s := fun c hc => hb c (List.mem_cons_of_mem _ hc)
    have hl' : a.length = b.length := by simpa using hl
    rcases List.cons_lt_cons_iff.mp h with q | ⟨q, r⟩
    · have := (fi_asc hs (ha x (List.mem_cons_self ..)) (hb y (List.mem_cons_self ..))).mpr q
      exact pl_lt ha' hl' (by omega)
    · subst q
      exact pl_lex hs _ ha' hb' hl' r
theorem pl_pos {s : List Nat} : ∀ {a : List Nat} {p : Int}, 0 ≤ p → 0 ≤ pl s p a ∧ (a ≠ [] → 0 < pl s p a)
  | [], p, h => ⟨h, fun q => absurd rfl q⟩
  | x :: a, p, h => by
    rw [pl_cons]
    have h2 : 0 ≤ p * (s.length : Int) := Int.mul_nonneg h (by omega)
    have h3 : 0 < p * (s.length : Int) + (fi x s : Int) + 1 := by omega
    obtain ⟨i1, i2⟩ := pl_pos (s := s) (a := a) (Int.le_of_lt h3)
    refine ⟨i1, fun _ => ?_⟩
    cases a with
    | nil => exact h3
    | cons y r => exact i2 (by simp)
theorem place_shorter {s a b : List Nat} (ha : ∀ c ∈ a, c ∈ s) (h : a.length < b.length) : place a s < place b s := by
  unfold place
  have e : b = b.take (b.length - a.length) ++ b.drop (b.length - a.length) := (List.take_append_drop ..).symm
  rw [e, pl_app]
  refine pl_lt ha (by rw [List.length_drop]; omega) ?_
  refine (pl_pos (Int.le_refl 0)).2 ?_
  intro q
  have := congrArg List.length q
  rw [List.length_take] at this
  simp at this
  omega
theorem lt_tri (a b : List Nat) : a < b ∨ a = b ∨ b < a := by
  induction a generalizing b with
  | nil =>
    cases b with
    | nil => exact .inr (.inl rfl)
    | cons y r => exact .inl (List.nil_lt_cons ..)
  | cons x a ih =>
    cases b with
    | nil => exact .inr (.inr (List.nil_lt_cons ..))
    | cons y b =>
      rcases Nat.lt_trichotomy x y with h | h | h
      · exact .inl (List.cons_lt_cons_iff.mpr (.inl h))
      · subst h
        rcases ih b with q | q | q
        · exact .inl (List.cons_lt_cons_iff.mpr (.inr ⟨rfl, q⟩))
        · exact .inr (.inl (by rw [q]))
        · exact .inr (.inr (List.cons_lt_cons_iff.mpr (.inr ⟨rfl, q⟩)))
      · exact .inr (.inr (List.cons_lt_cons_iff.mpr (.inl h)))
theorem prec_iff {s a b : List Nat} (hs : s.Pairwise (· < ·)) (ha : ∀ c ∈ a, c ∈ s) (hb : ∀ c ∈ b, c ∈ s) : prec a b = true ↔ place a s < place b s := by
  have fwd : ∀ {a b : List Nat}, (∀ c ∈ a, c ∈ s) → (∀ c ∈ b, c ∈ s) → prec a b = true → place a s < place b s := by
    intro a b ha hb h
    unfold prec at h
    rw [Bool.or_eq_true, Bool.and_eq_true, decide_eq_true_eq, decide_eq_true_eq, decide_eq_true_eq] at h
    rcases h with h | ⟨h1, h2⟩
    · exact place_shorter ha h
    · exact pl_lex hs 0 ha hb h1 h2
  refine ⟨fwd ha hb, fun h => ?_⟩
  have tri : prec a b = true ∨ a = b ∨ prec b a = true := by
    unfold prec
    simp only [Bool.or_eq_true, Bool.and_eq_true, decide_eq_true_eq]
    rcases Nat.lt_trichotomy a.length b.length with q | q | q
    · exact .inl (.inl q)
    · rcases lt_tri a b with r | r | r
      · exact .inl (.inr ⟨q, r⟩)
      · exact .inr (.inl r)
      · exact .inr (.inr (.inr ⟨q.symm, r⟩))
    · exact .inr (.inr (.inl q))
  rcases tri with q | q | q
  · exact q
  · subst q; omega
  · have := fwd hb ha q
    omega
/-! ### the following text is the next in place -/
theorem fi_getD : ∀ {s : List Nat} {k : Nat}, s.Pairwise (· < ·) → (h : k < s.length) → fi s[k] s = k
  | [], _, _, h => by cases h
  | x :: r, 0, _, _ => by show (if x = x then 0 else _) = 0; rw [if_pos rfl]
  | x :: r, k + 1, hp, h => by
    obtain ⟨h1, h2⟩ := List.pairwise_cons.mp hp
    have hk : k < r.length := by simpa using h
    have hm := List.getElem_mem hk
    have hlt := h1 _ hm
    show (if x = r[k] then 0 else fi r[k] r + 1) = k + 1
    rw [if_neg (by omega), fi_getD h2 hk]
theorem pl_rep {s : List Nat} {x y : Nat} (hx : (fi x s : Int) + 1 = s.length) (hy : fi y s = 0) : ∀ (k : Nat) (p : Int), pl s (p + 1) (List.replicate k y) = pl s p (List.replicate k x) + 1
  | 0, p => rfl
  | k + 1, p => by
    rw [List.replicate_succ, List.replicate_succ, pl_cons, pl_cons]
    have e : (p + 1) * (s.length : Int) + (fi y s : Int) + 1 = (p * (s.length : Int) + (fi x s : Int) + 1) + 1 := by
      rw [hy, Int.add_mul, Int.one_mul]
      omega
    rw [e]
    exact pl_rep hx hy k _
theorem rs_split (c : Nat) (t : List Nat) : t = rs c t ++ List.replicate (t.length - (rs c t).length) c := by
  have h : t.reverse.takeWhile (fun a => a == c) ++ t.reverse.dropWhile (fun a => a == c) = t.reverse := List.takeWhile_append_dropWhile
  have h2 : t = (t.reverse.dropWhile (fun a => a == c)).reverse ++ (t.reverse.takeWhile (fun a => a == c)).reverse := by
    rw [← List.reverse_append, h, List.reverse_reverse]
  have h3 : ∀ l : List Nat, l.takeWhile (fun a => a == c) = List.replicate (l.takeWhile (fun a => a == c)).length c := by
    intro l
    induction l with
    | nil => rfl
    | cons a r ih =>
      rw [List.takeWhile_cons]
      by_cases e : (a == c) = true
      · rw [if_pos e, List.length_cons, List.replicate_succ, ← ih]
        rw [eq_of_beq e]
      · rw [if_neg e]; rfl
  have h4 := congrArg List.length h2
  rw [List.length_append, List.length_reverse (as := List.takeWhile _ _)] at h4
  have e5 : t.length - (rs c t).length = (t.reverse.takeWhile (fun a => a == c)).length := by
    unfold rs
    omega
  rw [e5]
  have h6 : (t.reverse.takeWhile (fun a => a == c)).reverse = List.replicate (t.reverse.takeWhile (fun a => a == c)).length c := by
    rw [h3 t.reverse, List.reverse_replicate, List.length_replicate]
  rw [← h6]
  exact h2
structure NxtOk (N t s : List Nat) : Prop where
  sub : ∀ c ∈ N, c ∈ s
  len : N.length ≤ t.length + 1
  place : place N s = place t s + 1
theorem nxt_ok {t s : List Nat} (hs : s ≠ []) (asc : s.Pairwise (· < ·)) (ht : ∀ c ∈ t, c ∈ s) : NxtOk (nxt t s) t s := by
  have eL : s.getLastD 0 = s.getLast hs := List.getLastD_eq_getLast? .. ▸ by rw [List.getLast?_eq_some_getLast hs]; rfl
  obtain ⟨c0, r0, es⟩ : ∃ c r, s = c :: r := by
    cases s with
    | nil => exact absurd rfl hs
    | cons c r => exact ⟨c, r, rfl⟩
  have eH : s.headD 0 = c0 := by rw [es]; rfl
  have m0 : c0 ∈ s := by rw [es]; exact List.mem_cons_self ..
  have y0 : fi c0 s = 0 := by rw [es]; show (if c0 = c0 then 0 else _) = 0; rw [if_pos rfl]
  have hpos : 0 < s.length := List.length_pos_iff.mpr hs
  have xL : (fi (s.getLast hs) s : Int) + 1 = s.length := by
    have h1 : s.getLast hs = s[s.length - 1] := List.getLast_eq_getElem ..
    rw [h1, fi_getD asc (by omega)]
    omega
  have sp := rs_split (s.getLast hs) t
  have hk := rs_le (s.getLast hs) t
  unfold nxt
  rw [eL, eH]
  generalize hkd : t.length - (rs (s.getLast hs) t).length = k at *
  by_cases h0 : rs (s.getLast hs) t = []
  · simp only [h0, ↓reduceIte]
    rw [h0, List.nil_append] at sp
    have hk0 : k = t.length := by rw [← hkd, h0]; simp
    subst hk0
    refine ⟨fun c hc => ?_, ?_, ?_⟩
    · rcases List.mem_cons.mp hc with q | q
      · rw [q]; exact m0
      · rw [List.eq_of_mem_replicate q]; exact m0
    · simp
    · unfold My.place
      rw [pl_cons, y0]
      have := pl_rep xL y0 t.length 0
      rw [← sp] at this
      simpa using this
  · have hm : (rs (s.getLast hs) t).getLast h0 ∈ s := ht _ (rs_sub (List.getLast_mem h0))
    have hf := fi_next hm hs (rs_last h0)
    have eK : (rs (s.getLast hs) t).getLastD 0 = (rs (s.getLast hs) t).getLast h0 := List.getLastD_eq_getLast? .. ▸ by rw [List.getLast?_eq_some_getLast h0]; rfl
    have eG : s.getD (fi ((rs (s.getLast hs) t).getLast h0) s + 1) 0 = s[fi ((rs (s.getLast hs) t).getLast h0) s + 1] := by
      rw [List.getD_eq_getElem?_getD, List.getElem?_eq_getElem hf]; rfl
    simp only [h0, ↓reduceIte, eK, eG, hkd]
    have dk : rs (s.getLast hs) t = (rs (s.getLast hs) t).dropLast ++ [(rs (s.getLast hs) t).getLast h0] := (List.dropLast_concat_getLast h0).symm
    refine ⟨fun c hc => ?_, ?_, ?_⟩
    · rcases List.mem_append.mp hc with q | q
      · rcases List.mem_append.mp q with q | q
        · exact ht _ (rs_sub (List.dropLast_subset _ q))
        · rw [List.mem_singleton.mp q]; exact List.getElem_mem hf
      · rw [List.eq_of_mem_replicate q]; exact m0
    · rw [List.length_append, List.length_append, List.length_dropLast, List.length_replicate]
      simp
      omega
    · unfold My.place
      have key : pl s 0 t = pl s (pl s (pl s 0 (rs (s.getLast hs) t).dropLast) [(rs (s.getLast hs) t).getLast h0]) (List.replicate k (s.getLast hs)) := by
        rw [← pl_app, ← pl_app, ← List.append_assoc, ← dk, ← sp]
      rw [key, pl_app, pl_app]
      have e1 : ∀ P : Int, pl s P [s[fi ((rs (s.getLast hs) t).getLast h0) s + 1]] = pl s P [(rs (s.getLast hs) t).getLast h0] + 1 := by
        intro P
        show P * (s.length : Int) + (fi s[fi ((rs (s.getLast hs) t).getLast h0) s + 1] s : Int) + 1 = P * (s.length : Int) + (fi ((rs (s.getLast hs) t).getLast h0) s : Int) + 1 + 1
        rw [fi_getD asc hf]
        omega
      rw [e1]
      exact pl_rep xL y0 k _
end My
namespace My
open PySem PySem.Spec PyProof.Rows PySem.Froz L2
/-! ### a set of texts: its payload, with all that a walk asks -/
def kt (e : Int × Value) : Str := match e.2 with | .str x _ => x | _ => Str.empty
structure SOk (w : World) (D : SD) (l : List Str) : Prop where
  good : ∀ e ∈ D.1.toList, ∃ x u, e = (hashStr w x, Value.str x u)
  keys : (D.1.toList.map kt).Perm l
  fit : D.2.2.fits D.1.size = true
  ris : Ris D.2.2.place.toList
  led : w.params.followText "set-order" = true ∨ D.2.2.led = true
section
variable {P : Program} {w : World} {D : SD} {l : List Str}
theorem SOk.size (F : SOk w D l) : D.1.size = l.length := by
  have := F.keys.length_eq
  rw [List.length_map, Array.length_toList] at this
  exact this
theorem SOk.tx (F : SOk w D l) : TxOk P w D l where
  el := fun e he => by
    obtain ⟨x, u, rfl⟩ := F.good e he
    exact ⟨⟨x, is_str x u, rfl⟩, rfl⟩
  mem := fun k => by
    rw [← F.keys.mem_iff, List.mem_map]
    constructor
    · rintro ⟨e, he, rfl⟩
      obtain ⟨x, u, rfl⟩ := F.good e he
      exact ⟨_, he, is_str x u⟩
    · rintro ⟨e, he, q⟩
      obtain ⟨x, u, rfl⟩ := F.good e he
      refine ⟨_, he, ?_⟩
      show x = k
      have q2 : Value.isStrOf k (.str x u) = true := q
      simpa [Value.isStrOf] using q2
  sz := F.size
  fit := F.fit
theorem SOk.nil {t : SetTable} {ep : Nat} (hf : t.fits 0 = true) (hr : Ris t.place.toList) (hl : w.params.followText "set-order" = true ∨ t.led = true) : SOk w (#[], ep, t) [] :=
  ⟨fun e he => by simp at he, List.Perm.refl _, hf, hr, hl⟩
/-- the payload behind one more text -/
theorem SOk.add (F : SOk w D l) (k : Str) (u : Tok) : SOk w (addTx (hashStr w k) (.str k u) D) (k :: l) := by
  obtain ⟨es, ep, t⟩ := D
  have pm := layNew_perm t es (hashStr w k) (.str k u)
  have f1 := layNew_fits t es (hashStr w k) (.str k u)
  have r1 := layNew_ris t es (hashStr w k) (.str k u) F.ris
  have l1 := layNew_led t es (hashStr w k) (.str k u)
  show SOk w (tailTx ep (layNew t es (hashStr w k) (.str k u)).1 (if (layNew t es (hashStr w k) (.str k u)).2.1.plain = true then { (layNew t es (hashStr w k) (.str k u)).2.1 with plain := false } else (layNew t es (hashStr w k) (.str k u)).2.1) (layNew t es (hashStr w k) (.str k u)).2.2.1) (k :: l)
  generalize layNew t es (hashStr w k) (.str k u) = Z at pm f1 r1 l1
  obtain ⟨es1, t1, wd, gv⟩ := Z
  dsimp only at pm f1 r1 l1 ⊢
  rw [Array.toList_push] at pm
  have pc : es1.toList.Perm ((hashStr w k, Value.str k u) :: es.toList) := pm.trans (List.perm_append_singleton _ _)
  have base : ∀ (es2 : Array (Int × Value)) (t2 : SetTable) (ep2 : Nat), es2.toList.Perm es1.toList → t2.fits es2.size = true → Ris t2.place.toList → (w.params.followText "set-order" = true ∨ t2.led = true) → SOk w (es2, ep2, t2) (k :: l) := by
    intro es2 t2 ep2 p2 hf2 hr2 hl2
    have p3 := p2.trans pc
    refine ⟨fun e he => ?_, ?_, hf2, hr2, hl2⟩
    · rcases List.mem_cons.mp (p3.mem_iff.mp he) with z | z
      · exact ⟨k, u, z⟩
      · exact F.good e z
    · exact (p3.map kt).trans (List.Perm.cons k F.keys)
  have ledD : w.params.followText "set-order" = true ∨ t.led = true := F.led
  have led1 : w.params.followText "set-order" = true ∨ t1.led = true := by
    rw [l1]; exact ledD
  generalize ht : (if t1.plain = true then { t1 with plain := false } else t1) = t2
  have fT : t2.fits es1.size = true := by
    rw [← ht]; split
    · exact SetTable.fits_plain_off f1
    · exact f1
  have rT : Ris t2.place.toList := by
    rw [← ht]; split <;> exact r1
  have lT : w.params.followText "set-order" = true ∨ t2.led = true := by
    rw [← ht]; split <;> exact led1
  unfold tailTx
  split
  · refine base _ _ _ (relayAll_perm _ _ _) (relayAll_fits _ _ _) (relayAll_ris _ _ _) ?_
    rw [relayAll_led]; exact lT
  · exact base _ _ _ (List.Perm.refl _) fT rT lT
end
section
variable {P : Program} {w : World} {A : Around} {E : Value → Shared → Prop} {s : Shared} {a : Addr} {D : SD} {l : List Str} {k : Str} {u : Tok}
/-- a text that is in already -/
theorem add_there {Q : Bool → Shared → Prop} (ho : s.heap.get? a = some (sObj "set" D)) (F : SOk w D l) (hk : k ∈ l) (hb : l.length < scanBound) (q : Q false s) :
    wpAny (model P w) A (setAddHashed a (.str k u) (hashStr w k)) Q E s := by
  have T : TxOk P w D l := F.tx
  have hsz := F.size
  obtain ⟨es, ep, t⟩ := D
  obtain ⟨e0, he0, z0⟩ := (T.mem k).mp hk
  unfold setAddHashed setAddHashedIn
  refine wpAny_holding (wpAny_bind (wpAny_setState_of ho rfl T.fit ?_))
  dsimp only
  rw [byScan_of (knd := strKind P w) (x := .str k u) rfl (by show es.size < scanBound; rw [show es.size = l.length from hsz]; exact hb) T.el]
  simp only [↓reduceIte]
  unfold setAddByScan
  refine wpAny_bind (wpAny_bind (wpAny_rule (wpAny_bind (wpAny_setScan_of (knd := strKind P w) (k := k) (is_str k u) ho rfl T.fit T.el ?_))))
  cases hfi : List.findIdx? (fun e => (strKind P w).is k e.2) es.toList with
  | none => exact absurd z0 (by rw [List.findIdx?_eq_none_iff.mp hfi e0 he0]; exact Bool.false_ne_true)
  | some j => exact wpAny_pure (wpAny_pure q)
/-- the set at a holds the signs of cs -/
def SX (w : World) (h : Heap) (a : Addr) (cs : List Nat) : Prop :=
  ∃ D l, h.get? a = some (sObj "set" D) ∧ SOk w D l ∧ l.Nodup ∧ (∀ x, x ∈ l ↔ ∃ c ∈ cs, x = tx [c]) ∧ l.length < scanBound
end
end My
namespace My
open PySem PySem.Spec PyProof.Rows PySem.Froz L2
section
variable {P : Program} {w : World} {A : Around} {E : Value → Shared → Prop} {s : Shared}
theorem SX.at {h h' : Heap} {a : Addr} {cs : List Nat} (R : SX w h a cs) (k : ∀ o, h.get? a = some o → h'.get? a = some o) : SX w h' a cs := by
  obtain ⟨D, l, ho, r⟩ := R
  exact ⟨D, l, k _ ho, r⟩
/-- one more sign -/
theorem SX.add {a : Addr} {cs : List Nat} {c : Nat} {u : Tok} {Q : Bool → Shared → Prop} (R : SX w s.heap a cs) (hb : cs.length + 1 < scanBound)
    (q : ∀ b h', Heap.SameBut a s.heap h' → SX w h' a (cs ++ [c]) → Q b { s with heap := h' }) : wpAny (model P w) A (setAddHashed a (.str (tx [c]) u) (hashStr w (tx [c]))) Q E s := by
  obtain ⟨D, l, ho, F, nd, hm, hl⟩ := R
  have lle : l.length ≤ cs.length := by
    have h1 : ∀ (cs : List Nat) (l : List Str), l.Nodup → (∀ x ∈ l, ∃ c ∈ cs, x = tx [c]) → l.length ≤ cs.length := by
      intro cs
      induction cs with
      | nil =>
        intro l _ h
        cases l with
        | nil => exact Nat.le_refl _
        | cons x r => obtain ⟨c, hc, _⟩ := h x (List.mem_cons_self ..); cases hc
      | cons c r ih =>
        intro l nd h
        have h2 := ih (l.erase (tx [c])) (nd.erase _) fun x hx => by
          obtain ⟨hx1, hx2⟩ := (nd.mem_erase_iff).mp hx
          obtain ⟨d, hd, e⟩ := h x hx2
          rcases List.mem_cons.mp hd with z | z
          · exact absurd (by rw [e, z]) hx1
          · exact ⟨d, z, e⟩
        have h3 := List.length_erase (a := tx [c]) (l := l)
        rw [List.length_cons]
        split at h3 <;> omega
    exact h1 cs l nd fun x hx => (hm x).mp hx
  by_cases hk : tx [c] ∈ l
  · refine add_there ho F hk hl (q _ _ (Heap.SameBut.refl a s.heap) ⟨D, l, ho, F, nd, fun x => ?_, hl⟩)
    rw [hm x]
    constructor
    · rintro ⟨d, hd, e⟩; exact ⟨d, List.mem_append_left _ hd, e⟩
    · rintro ⟨d, hd, e⟩
      rcases List.mem_append.mp hd with z | z
      · exact ⟨d, z, e⟩
      · rw [List.mem_singleton.mp z] at e
        rw [e]
        exact (hm _).mp hk
  · have room : l.length + 1 < scanBound := by omega
    refine add_x ho F.tx hk room (q _ _ ?_ ⟨_, tx [c] :: l, get_upd _ ho rfl, F.add _ _, List.nodup_cons.mpr ⟨hk, nd⟩, fun x => ?_, by rw [List.length_cons]; exact room⟩)
    · exact Heap.SameBut.update _ _ _
    · rw [List.mem_cons, hm x]
      constructor
      · rintro (z | ⟨d, hd, e⟩)
        · exact ⟨c, List.mem_append_right _ (List.mem_singleton.mpr rfl), z⟩
        · exact ⟨d, List.mem_append_left _ hd, e⟩
      · rintro ⟨d, hd, e⟩
        rcases List.mem_append.mp hd with z | z
        · exact .inr ⟨d, z, e⟩
        · rw [List.mem_singleton.mp z] at e
          exact .inl e
end
end My
namespace My
open PySem PySem.Spec PyProof.Rows PySem.Froz L2
section
variable {P : Program} {w : World} {A : Around} {E : Value → Shared → Prop} {s : Shared}
/-- the loop that takes the rest of a text's signs into the set at S -/
theorem update_text {I : Addr} {fp wr : List Addr} {G : Array GenState → Array GenState → Prop} {cs : List Nat} {St : Nat → Shared → Prop} {R : Result → Shared → Prop}
    (W : WalksS P w A.in1 I fp wr G cs.length (SignAt (tx cs)) St) (S : Addr) (hS : S ∉ fp) (hb : cs.length + 1 < scanBound) :
    ∀ (m i : Nat) (s : Shared), i + m = cs.length → St i s → SX w s.heap S (cs.take i) →
      (∀ s', Moved (S :: wr) G s s' → SX w s'.heap S cs → R (.ok (.ret .none)) s') →
      codeAny (model P w) A (.builtin "set.update.loop" ⟨[.ref S, .ref I], []⟩) R s
  | 0, i, s, hm, hst, hx, hR => by
    have hi : i = cs.length := by omega
    subst hi
    have hw : S ∉ wr := fun h => hS (W.sub _ h)
    refine codeAny_builtin PyProof.Rows.F.entry_set_update_loop ?_
    rw [Around.under_plainId PyProof.Rows.F.plain_set_update_loop _]
    refine wpAny_bind (m := pyNext (.ref I)) (W.done s _ _ hst fun s' mv => wpAny_pure (hR s' (mv.mono fun b hb => List.mem_cons_of_mem _ hb) ?_))
    rw [List.take_length] at hx
    exact hx.at fun o e => mv.heap S o hw e
  | m + 1, i, s, hm, hst, hx, hR => by
    have hi : i < cs.length := by omega
    have hw : S ∉ wr := fun h => hS (W.sub _ h)
    refine codeAny_builtin PyProof.Rows.F.entry_set_update_loop ?_
    rw [Around.under_plainId PyProof.Rows.F.plain_set_update_loop _]
    refine wpAny_bind (m := pyNext (.ref I)) (W.item i s _ _ hi hst fun v s' hv hst' mv => ?_)
    obtain ⟨c, u, hc, rfl⟩ := hv
    have hc2 : cs[i]? = some c := by
      have : (tx cs).cps[i]? = cs[i]? := by simp [tx]
      rw [← this]; exact hc
    have hx' : SX w s'.heap S (cs.take i) := hx.at fun o e => mv.heap S o hw e
    have et : cs.take (i + 1) = cs.take i ++ [c] := by rw [List.take_add_one, hc2]; rfl
    show wpAny _ A.in1 (holding [Value.str (tx [c]) u] (setAdd S (.str (tx [c]) u)) >>= _) _ _ s'
    refine wpAny_bind (wpAny_holding ?_)
    unfold setAdd
    refine wpAny_holding (wpAny_bind ((strKind P w).pyHash (k := tx [c]) (is_str _ _) ?_))
    have hlen : (cs.take i).length + 1 < scanBound := by rw [List.length_take]; omega
    refine SX.add (s := { s' with toks := s'.toks + 1 }) hx' hlen fun b h' sb hx2 => ?_
    rw [← et] at hx2
    have hst2 : St (i + 1) { s' with heap := h', toks := s'.toks + 1 } := W.frame _ s' _ _ hst' (Nat.le_succ _) fun b hb o e => by
      rw [sb.2 b fun q => hS (q ▸ hb)]; exact e
    refine wpAny_pure ⟨plainId_quiet PyProof.Rows.F.plain_set_update_loop _, update_text W S hS hb m (i + 1) _ (by omega) hst2 hx2 fun s'' mv2 hx3 => hR s'' ?_ hx3⟩
    refine Moved.trans W.gtrans ((mv.mono fun b hb => List.mem_cons_of_mem _ hb).then_heap (Nat.le_succ _) fun b o hb e => ?_) mv2
    rw [sb.2 b fun q => hb (by rw [q]; exact List.mem_cons_self ..)]
    exact e
end
end My
namespace My
open PySem PySem.Spec PyProof.Rows PySem.Froz L2
section
variable {P : Program} {w : World} {A : Around} {E : Value → Shared → Prop} {s : Shared}
/-- an empty set, as it is laid -/
abbrev set0 (w : World) : Obj := { cls := .type "set", dict := none, data := .set #[] 0 (.fresh 0 0 (!w.params.followText "set-order")) }
theorem set0_ok {h : Heap} {a : Addr} (ho : h.get? a = some (set0 w)) : SX w h a [] := by
  refine ⟨(#[], 0, .fresh 0 0 (!w.params.followText "set-order")), [], ho, SOk.nil rfl List.Pairwise.nil ?_, List.nodup_nil, fun x => by simp, by decide⟩
  show _ ∨ (!w.params.followText "set-order") = true
  cases w.params.followText "set-order"
  · exact .inr rfl
  · exact .inl rfl
/-- set(text): what the update leaves -/
def Upd (w : World) (s s' : Shared) (cs : List Nat) : Prop :=
  ∃ h' tk, s' = { s with heap := h', toks := tk } ∧ SX w h' s.heap.objs.size cs ∧ ∀ b o, s.heap.get? b = some o → h'.get? b = some o
set_option maxHeartbeats 3200000 in
theorem init_text {cs : List Nat} {t : Tok} (hh : A.handled = none) (hb : cs.length + 1 < scanBound) :
    codeAny (model P w) A (.call (.builtin "set.__init__") ⟨[.ref s.heap.objs.size, .str (tx cs) t], []⟩) (wants (fun r s₂ => r = .none ∧ Upd w s s₂ cs) E) { s with heap := s.heap.push (set0 w) } := by
  have hS : (s.heap.push (set0 w)).get? s.heap.objs.size = some (set0 w) := Heap.get?_push_size _ rfl
  have hT : Shared.TypeIs { s with heap := s.heap.push (set0 w) } (.ref s.heap.objs.size) "set" := ⟨_, hS, rfl⟩
  refine codeAny_call_builtin F.called_set.init.plain F.entry_set_init (check_set_init_1 hT ?_)
  have hs1 := F.sub_str_set
  have hs2 := F.sub_str_frozenset
  have hne : (Value.type "str" == Value.type "dict") = false := by decide
  unfold Builtin.«set.__init__» noKeywords Builtin.Frozenset.updateFrom
  generalize hPI : pyIter = PI
  wp_walk
  subst hPI
  have fin : ∀ (ty : String) (A2 : Around) (R : Result → Shared → Prop), A2.in1.handled = none → (∀ A' : Around, A'.handled = none → Walks P w A' (s.heap.push (set0 w)).objs.size [(s.heap.push (set0 w)).objs.size] [(s.heap.push (set0 w)).objs.size] (tx cs).cps.size (SignAt (tx cs)) (fun i h => h.IsStrIter (s.heap.push (set0 w)).objs.size ty (tx cs) t i)) →
      (∀ s', Upd w s s' cs → R (.ok (.ret .none)) s') → codeAny (model P w) A2 (.builtin "set.update.loop" ⟨[.ref s.heap.objs.size, .ref (s.heap.push (set0 w)).objs.size], []⟩) R
        { s with heap := (s.heap.push (set0 w)).push { cls := .type ty, data := .fields #[.str (tx cs) t, .int 0 0] } } := by
    intro ty A2 R h2 W hR
    have hz : (s.heap.push (set0 w)).objs.size = s.heap.objs.size + 1 := Heap.size_push ..
    have hcs : (tx cs).cps.size = cs.length := by simp [tx]
    have W1 := (W A2.in1 h2).toS
    rw [hcs] at W1
    refine update_text W1 s.heap.objs.size (by rw [hz]; simp) hb cs.length 0 _ (by omega) ⟨_, Heap.get?_push_size _ rfl, rfl, rfl⟩ (set0_ok (Heap.get?_push_of_some _ hS)) fun s' mv hx => ?_
    obtain ⟨h', g2, d', tk', os'⟩ := s'
    have eg : g2 = s.gens := mv.gens
    have ed : d' = s.drawn := mv.drawn
    have eo : os' = s.os := mv.os
    subst eg ed eo
    refine hR _ ⟨h', tk', rfl, hx, fun b o e => ?_⟩
    have hlt := Heap.lt_size e
    refine mv.heap b o ?_ (Heap.get?_push_of_some _ (Heap.get?_push_of_some _ e))
    rw [hz]
    simp only [List.mem_cons, List.not_mem_nil, or_false, not_or]
    exact ⟨Nat.ne_of_lt hlt, Nat.ne_of_lt (Nat.lt_succ_of_lt hlt)⟩
  cases ha : (tx cs).cps.all (· < 128)
  · refine wpAny_pyIter_wide ha (wpAny_bind (wpAny_runValue (fin "str_iterator" _ _ (by simp [hh]) (fun A' h => Walks.strWide h _ _ _) fun s' hu => ?_)))
    exact wpAny_pure (wpAny_pure ⟨rfl, hu⟩)
  · refine wpAny_pyIter_ascii ha (wpAny_bind (wpAny_runValue (fin "str_ascii_iterator" _ _ (by simp [hh]) (fun A' h => Walks.strAscii h _ _ _) fun s' hu => ?_)))
    exact wpAny_pure (wpAny_pure ⟨rfl, hu⟩)
set_option maxHeartbeats 3200000 in
theorem call_set_text {cs : List Nat} {t : Tok} {Q : Value → Shared → Prop} (hh : A.handled = none) (hb : cs.length + 1 < scanBound) (q : ∀ s', Upd w s s' cs → Q (.ref s.heap.objs.size) s') :
    wpAny (model P w) A (call (.type "set") [.str (tx cs) t]) Q E s := by
  obtain ⟨c, tl, hmro⟩ := F.called_set.mro
  have hmade := F.called_set.made
  have hsub := F.called_set.sub
  have h1 := F.called_set.notType
  have h2 := F.called_set.canCreate
  have hct := F.typeCall_set_1 (.str (tx cs) t)
  refine wpAny_call (codeAny_of_tree ?_)
  show wpAny _ _ (callAny (.type "set") _) _ _ _
  refine wpAny_pure ⟨Code.quiet_builtin _ (by decide +kernel), codeAny_builtin F.entry_type_call ?_⟩
  rw [Around.under_plain (weight_type_call_type "set" [.str (tx cs) t] []) rfl]
  repeat (any_goals (first | assumption | wp_step))
  refine codeAny_mono (code_set_led1 (.str (tx cs) t) (E := E) (Q₁ := fun obj s₁ => obj = .ref s.heap.objs.size ∧ s₁ = { s with heap := s.heap.push (set0 w) }) ⟨rfl, rfl⟩) fun r s₁ hr => ?_
  match r, hr with
  | .error e, hr => exact hr
  | .ok (.ret obj), hr =>
    obtain ⟨rfl, rfl⟩ := hr
    have hT : Shared.TypeIs { s with heap := s.heap.push (set0 w) } (.ref s.heap.objs.size) "set" := ⟨_, Heap.get?_push_size _ rfl, rfl⟩
    have hli := F.called_set.init.lookup
    have hbi := F.called_set.init.bind (.ref s.heap.objs.size)
    repeat (any_goals (first | assumption | wp_step))
    refine codeAny_mono (init_text (E := E) (t := t) (by simp [hh]) hb) fun r₂ s₂ hr₂ => ?_
    match r₂, hr₂ with
    | .error e, hr₂ => exact hr₂
    | .ok (.ret r), hr₂ =>
      obtain ⟨rfl, hu⟩ := hr₂
      repeat (any_goals (first | assumption | wp_step))
      exact q _ hu
end
end My
namespace My
open PySem PySem.Spec PyProof.Rows PySem.Froz L2
theorem each_of_mem {α β : Type} {R : α → β → Prop} {f : α → β} : ∀ {l : List α}, (∀ a ∈ l, R a (f a)) → PySem.W.EachIs R l (l.map f)
  | [], _ => .nil
  | x :: l, h => .cons (h x List.mem_cons_self) (each_of_mem fun a ha => h a (List.mem_cons_of_mem _ ha))
theorem lex_single (a b : Nat) : (([a] : List Nat) ≤ [b]) ↔ a ≤ b := by
  rw [← List.not_lt, List.cons_lt_cons_iff]
  constructor
  · intro h
    have : ¬ b < a := fun z => h (.inl z)
    omega
  · rintro h (z | ⟨_, z⟩)
    · omega
    · exact absurd z (List.not_lt_nil _)
def hd0 (x : Str) : Nat := x.cps.toList.headD 0
theorem hd0_tx (c : Nat) : hd0 (tx [c]) = c := rfl
theorem strs_of : ∀ {vs : List Value} {ks : List Str}, PySem.W.EachIs (fun v k => ∃ u, v = Value.str k u) vs ks → StrsAre vs ks
  | _, _, .nil => .nil
  | _, _, .cons ⟨u, h⟩ t => by subst h; exact .cons _ u (strs_of t)
theorem signs_lt : ∀ (ks : List Str), (∀ k ∈ ks, ∃ c, k = tx [c]) → ks.Nodup → ks.Pairwise (fun a b => a.cps.toList ≤ b.cps.toList) → (ks.map hd0).Pairwise (· < ·)
  | [], _, _, _ => List.Pairwise.nil
  | k :: r, h, nd, p => by
    obtain ⟨n1, n2⟩ := List.nodup_cons.mp nd
    obtain ⟨p1, p2⟩ := List.pairwise_cons.mp p
    refine List.pairwise_cons.mpr ⟨fun y hy => ?_, signs_lt r (fun k hk => h k (List.mem_cons_of_mem _ hk)) n2 p2⟩
    obtain ⟨z, hz, rfl⟩ := List.mem_map.mp hy
    have q := p1 z hz
    obtain ⟨c, rfl⟩ := h k List.mem_cons_self
    obtain ⟨d, rfl⟩ := h z (List.mem_cons_of_mem _ hz)
    rw [tx_cps, tx_cps, lex_single] at q
    have : c ≠ d := fun e => n1 (e ▸ hz)
    rw [hd0_tx, hd0_tx]
    omega
def vstr (v : Value) : Str := match v with | .str x _ => x | _ => Str.empty
section
variable {P : Program} {w : World} {A : Around} {E : Value → Shared → Prop} {s : Shared} {a : Addr}
theorem sorted_setTx {cs : List Nat} {Q : Value → Shared → Prop} (R : SX w s.heap a cs) (hh : A.handled = none) (hu : A.units + 16 < cLine)
    (hQ : ∀ s' p (out : Array Value) (c : Nat) (ns : List Nat), (∀ b o, s.heap.get? b = some o → s'.heap.get? b = some o) → s'.gens = s.gens → s'.os = s.os → s.heap.objs.size ≤ p →
      s'.heap.get? p = some (seqObj "list" out c) → StrsAre out.toList (ns.map fun c => tx [c]) → ns.Pairwise (· < ·) → (∀ k, k ∈ ns ↔ k ∈ cs) → ns.length < scanBound → Q (.ref p) s') :
    wpAny (model P w) A (call (.builtin "sorted") [.ref a]) Q E s := by
  obtain ⟨⟨es, ep, t⟩, l, ho, F, nd, hm, hl⟩ := R
  refine Calls.call_function_entry kind_sorted plain_sorted entry_sorted (args_sorted1 _) ?_
  unfold Builtin.«sorted»
  refine wpAny_bind (m := checkCount "sorted" 1 1 _) (wpAny_pure ?_)
  refine wpAny_bind (collect_set (A := A.in1) hh ⟨_, ho, rfl, rfl⟩ F.fit (by rw [show es.size = l.length from F.size]; exact hl) F.ris F.led fun s1 vs k1 hz g1 o1 pm => ?_)
  have hg : ∀ v ∈ vs, ∃ x u, v = Value.str x u := fun v hv => by
    obtain ⟨e, he, q⟩ := List.mem_map.mp (pm.mem_iff.mp hv)
    obtain ⟨x, u, rfl⟩ := F.good e he
    exact ⟨x, u, q.symm⟩
  have pk : (vs.map vstr).Perm l := by
    have q := pm.map vstr
    rw [List.map_map] at q
    exact q.trans F.keys
  have hvl : vs.length = l.length := by
    have := pk.length_eq
    rwa [List.length_map] at this
  have hsl : l.length ≤ sizeLine := by
    rw [sizeLine_eq]
    have : scanBound = 4096 := by rfl
    omega
  refine wpAny_bind (wpAny_newList ?_ (by rw [hvl]; exact hsl))
  have hoL : (s1.heap.push (seqObj "list" vs.toArray 0)).get? s1.heap.objs.size = some (seqObj "list" vs.toArray 0) := Heap.get?_push_size _ rfl
  refine wpAny_bind (wpAny_holding (PySem.W.list_sort_data (enc := PyData.str) (bs := vs.map vstr) (R := fun v k => ∃ u, v = Value.str k u) hoL
    (each_of_mem fun v hv => by obtain ⟨x, u, rfl⟩ := hg v hv; exact ⟨u, rfl⟩)
    (each_of_mem fun v hv => by obtain ⟨x, u, rfl⟩ := hg v hv; exact ⟨[], .str x u, by simp⟩)
    (PySem.W.AllAlike.of fun b b' => by simp [PySem.W.alike]) (PySem.W.Sortable.others fun b => ⟨by simp, by simp⟩) (by rw [List.length_map, hvl]; exact hsl) (fun b _ => by simp [PyData.depth]; omega) fun out ho2 eo => ?_))
  have et := PySem.W.dataLe_str (fun k : Str => k)
  have eo2 : PySem.W.EachIs (fun v k => ∃ u, v = Value.str k u) out ((vs.map vstr).mergeSort fun a b => decide (a.cps.toList ≤ b.cps.toList)) := by rw [← et]; exact eo
  have pw : ((vs.map vstr).mergeSort fun a b => decide (a.cps.toList ≤ b.cps.toList)).Pairwise (fun a b => decide (a.cps.toList ≤ b.cps.toList) = true) :=
    List.pairwise_mergeSort (fun a b c h1 h2 => by
      simp only [decide_eq_true_eq] at h1 h2 ⊢
      exact List.le_trans h1 h2) (fun a b => by
      simp only [Bool.or_eq_true, decide_eq_true_eq]
      exact List.le_total _ _) _
  have pm2 : ((vs.map vstr).mergeSort fun a b => decide (a.cps.toList ≤ b.cps.toList)).Perm l := (List.mergeSort_perm _ _).trans pk
  generalize ((vs.map vstr).mergeSort fun a b => decide (a.cps.toList ≤ b.cps.toList)) = ks at eo2 pw pm2
  have each : ∀ k ∈ ks, ∃ c ∈ cs, k = tx [c] := fun k hk => (hm k).mp (pm2.mem_iff.mp hk)
  have pw2 : ks.Pairwise (fun a b => a.cps.toList ≤ b.cps.toList) := pw.imp fun h => by simpa using h
  have hlt := signs_lt ks (fun k hk => by obtain ⟨c, _, e⟩ := each k hk; exact ⟨c, e⟩) (pm2.nodup_iff.mpr nd) pw2
  have emap : (ks.map hd0).map (fun c => tx [c]) = ks := by
    rw [List.map_map]
    conv => rhs; rw [← List.map_id ks]
    refine List.map_congr_left fun k hk => ?_
    obtain ⟨c, _, rfl⟩ := each k hk
    rfl
  obtain ⟨c, hc⟩ := sortedHeap_at (vs := vs) (out := out.toArray) hoL
  refine wpAny_pure ⟨_, rfl, hQ _ s1.heap.objs.size out.toArray c (ks.map hd0) (fun b u e => ?_) g1 o1 hz hc ?_ hlt (fun k => ?_) ?_⟩
  · have q := k1 b u e
    have hlt := Heap.lt_size q
    show (sortedHeap (s1.heap.push (seqObj "list" vs.toArray 0)) s1.heap.objs.size vs out.toArray).get? b = some u
    rw [sortedHeap_old (Nat.ne_of_lt hlt) (by rw [size_push']; exact Nat.lt_succ_of_lt hlt)]
    exact Heap.get?_push_of_some _ q
  · rw [emap]
    exact strs_of eo2
  · constructor
    · intro h
      obtain ⟨x, hx, e⟩ := List.mem_map.mp h
      obtain ⟨d, hd, e2⟩ := each x hx
      rw [← e, e2]
      exact hd
    · intro h
      exact List.mem_map.mpr ⟨tx [k], pm2.mem_iff.mpr ((hm _).mpr ⟨k, h, rfl⟩), rfl⟩
  · rw [List.length_map, pm2.length_eq]
    exact hl
end
end My
namespace My
open PySem PySem.Spec PyProof.Rows PySem.Froz L2
/-- the set of the signs cs, at a -/
def SetTx (w : World) (a : Addr) (cs : List Nat) : HO := .ext fun h => SX w h a cs
section
variable {X : Cx}
theorem setTx_new {w : World} {P : Program} {H : Hp} {h : Heap} {a : Addr} {cs : List Nat} (R : SX w h a cs) : ObjOk P w H h a (SetTx w a cs) := by
  have ⟨_, _, ho, _⟩ := R
  exact ⟨R, ⟨_, ho⟩, fun h1 h2 p k => SX.at p k⟩
theorem setTx_get {pins : List (Addr × Obj)} {σ : L2.St} {H : Hp} {s : Shared} {a : Addr} {cs : List Nat} (I : Inv X pins σ H s) (ha : H a = some (SetTx X.w a cs)) : SX X.w s.heap a cs := (I.hok a _ ha).1
/-- set(text) -/
def rSetTx (w : World) : List V → Hp → VK → Prop := fun xs H Q => ∃ cs : List Nat, xs = [V.str (tx cs)] ∧ cs.length + 1 < scanBound ∧ ∀ p, H p = none → Q (.ref p) (upd H p (SetTx w p cs))
theorem cr_setTx (hc : X.calm = true) : CallR X (.type "set") (rSetTx X.w) := by
  intro pins s σ H xs us Q I r h
  obtain ⟨cs, rfl, hb, q⟩ := h
  cases r with
  | cons ry rt =>
    cases rt
    obtain ⟨tk, rfl⟩ := ry
    refine call_set_text (I.ok.hd hc) hb fun s' hu => ?_
    obtain ⟨h', tk', rfl, hx, hk⟩ := hu
    exact ⟨.ref _, upd H s.heap.objs.size (SetTx X.w s.heap.objs.size cs), I.laid (t' := tk') (fun b u e => hk b u e) (Nat.le_refl _) (setTx_new hx), rfl, q _ (I.hok.fresh (Nat.le_refl _))⟩
/-- sorted(set of signs) -/
def rSortedTx (w : World) : List V → Hp → VK → Prop := fun vs H Q => ∃ (a : Addr) (cs : List Nat), vs = [V.ref a] ∧ H a = some (SetTx w a cs) ∧
  ∀ (ns : List Nat) (p : Addr), ns.Pairwise (· < ·) → (∀ k, k ∈ ns ↔ k ∈ cs) → H p = none → Q (.ref p) (upd H p (.lst (ns.map fun c => V.str (tx [c]))))
theorem cr_sortedTx (hc : X.calm = true) (hu : X.A.units + 16 < cLine) : CallR X (.builtin "sorted") (rSortedTx X.w) := by
  intro pins s σ H vs us Q I r h
  obtain ⟨a, cs, rfl, ha, q⟩ := h
  have R := setTx_get I ha
  rw [Vals.ref1 r]
  refine sorted_setTx R (I.ok.hd hc) hu fun s' p out c ns k g o hp hg hi hs hm hl => ?_
  have hlen : (ns.map fun c => V.str (tx [c])).length ≤ sizeLine := by
    rw [List.length_map, sizeLine_eq]
    have : scanBound = 4096 := by rfl
    omega
  have hn : H p = none := I.hok.fresh hp
  have hv : Vals (ns.map fun c => V.str (tx [c])) out.toList := by
    have := vals_of_strs hi
    rwa [List.map_map] at this
  have J : Inv X pins σ (upd H p (.lst (ns.map fun c => V.str (tx [c])))) { s with heap := s'.heap, gens := s'.gens, drawn := s'.drawn, toks := s'.toks } :=
    I.call (ch := []) (Un.laid k hp hn) (I.hok.laid k hp ⟨hlen, out.toList, c, hv, hg⟩) (by rw [g]; exact I.bare) (fun _ z => nomatch z)
  have e : s' = { s with heap := s'.heap, gens := s'.gens, drawn := s'.drawn, toks := s'.toks } := by
    cases s'
    cases s
    cases o
    rfl
  rw [e]
  exact ⟨.ref p, _, J, rfl, q ns p hs hm hn⟩
end
end My
namespace My
open PySem PySem.Spec PyProof.Rows PySem.Froz L2
/-! ### operators of an own class -/
theorem back_of {P : Value → Shared → Prop} {z : V} {v : Value} {s' : Shared} (r : RelV z v) (h : P v s') : PySem.W.CmpBack P v s' := by
  cases z with
  | non => cases (show v = Value.none from r); exact h
  | bl b => cases (show v = Value.bool b from r); exact h
  | int i => obtain ⟨t, rfl⟩ := (show ∃ t, v = Value.int i t from r); exact h
  | str i => obtain ⟨t, rfl⟩ := (show ∃ t, v = Value.str i t from r); exact h
  | byt i => obtain ⟨t, rfl⟩ := (show ∃ t, v = Value.bytes i t from r); exact h
  | flt i => obtain ⟨t, rfl⟩ := (show ∃ t, v = Value.float i t from r); exact h
  | ref b => cases (show v = Value.ref b from r); exact h
  | ty b => cases (show v = Value.type b from r); exact h
section
variable {X : Cx} {CX : CXT} {k : Nat} {C f : Addr} {fd : FuncData} {ps : List Str} {sp : Sp} {E : XK}
/-- a op b, both of the class at C -/
def rOwn2 (C : Addr) (sp : Sp) (E : XK) : R2 := fun x y H Q => ∃ a dx fs b dy gs, x = .ref a ∧ y = .ref b ∧ H a = some (.ins C dx fs) ∧ H b = some (.ins C dy gs) ∧ sp [.ref a, .ref b] H Q E
theorem op_own {op : Operator} (F : FnOk X.prog X.w X.K X.mg X.base CX k f fd ps sp) (hr : Room k X.A) (hc : PySem.W.selfFirst X.K C = true) (hs : PySem.W.findIn X.K (.ref C) (PySem.dunder op.info.2) = some (some (.ref f)))
    (hf : PySem.W.isFn X.K (.ref f) = true) (hb : Binds X.K fd ps []) (hx : Passes CX X E) : OpR X (binaryOp op) (rOwn2 C sp E) := by
  intro pins s σ H x y v u Q I rx ry h
  obtain ⟨a, dx, fs, b, dy, gs, rfl, rfl, ha, hb', q⟩ := h
  cases rx
  cases ry
  obtain ⟨mA, J, _⟩ := ins_get I.hok ha
  obtain ⟨mB, J', _⟩ := ins_get I.hok hb'
  obtain ⟨od, J, _⟩ := J.look
  obtain ⟨od', J', _⟩ := J'.look
  obtain ⟨m, hF⟩ := I.fr
  refine PySem.W.binop_K hF I.ok.mod.kin J J'.type hc hs hf ?_
  refine thn (run_fn (us := [.ref a, .ref b]) (vs := [.ref a, .ref b]) F hr hb .nil hx I (.cons rfl (.cons rfl .nil)) q) fun v s' hq => ?_
  obtain ⟨z, H', I', rz, q2⟩ := hq
  exact back_of rz ⟨z, H', I', rz, q2⟩
/-- x in b, x not in b -/
def rOwnIn (C : Addr) (sp : Sp) (E : XK) (neg : Bool) : R2 := fun x y H Q => ∃ b dy gs, y = .ref b ∧ H b = some (.ins C dy gs) ∧ sp [.ref b, x] H (fun v H' => ∃ r, v = .bl r ∧ Q (.bl (xor neg r)) H') E
theorem op_ownIn (F : FnOk X.prog X.w X.K X.mg X.base CX k f fd ps sp) (hr : Room k X.A) (hs : PySem.W.findIn X.K (.ref C) "__contains__" = some (some (.ref f)))
    (hf : PySem.W.isFn X.K (.ref f) = true) (hb : Binds X.K fd ps []) (hx : Passes CX X E) : OpR X (compareOp .In) (rOwnIn C sp E false) := by
  intro pins s σ H x y v u Q I rx ry h
  obtain ⟨b, dy, gs, rfl, hb', q⟩ := h
  cases ry
  obtain ⟨mB, J', _⟩ := ins_get I.hok hb'
  obtain ⟨od', J', _⟩ := J'.look
  obtain ⟨m, hF⟩ := I.fr
  refine PySem.W.in_K hF I.ok.mod.kin J' hs hf ?_
  refine thn (run_fn (us := [.ref b, v]) (vs := [.ref b, x]) F hr hb .nil hx I (.cons rfl (.cons rx .nil)) q) fun v s' hq => ?_
  obtain ⟨z, H', I', rz, r, rfl, q2⟩ := hq
  cases rz
  exact wpAny_truthy_bool ⟨.bl _, H', I', rfl, by simpa using q2⟩
theorem op_ownNotIn (F : FnOk X.prog X.w X.K X.mg X.base CX k f fd ps sp) (hr : Room k X.A) (hs : PySem.W.findIn X.K (.ref C) "__contains__" = some (some (.ref f)))
    (hf : PySem.W.isFn X.K (.ref f) = true) (hb : Binds X.K fd ps []) (hx : Passes CX X E) : OpR X (compareOp .NotIn) (rOwnIn C sp E true) := by
  intro pins s σ H x y v u Q I rx ry h
  obtain ⟨b, dy, gs, rfl, hb', q⟩ := h
  cases ry
  obtain ⟨mB, J', _⟩ := ins_get I.hok hb'
  obtain ⟨od', J', _⟩ := J'.look
  obtain ⟨m, hF⟩ := I.fr
  refine PySem.W.notIn_K hF I.ok.mod.kin J' hs hf ?_
  refine thn (run_fn (us := [.ref b, v]) (vs := [.ref b, x]) F hr hb .nil hx I (.cons rfl (.cons rx .nil)) q) fun v s' hq => ?_
  obtain ⟨z, H', I', rz, r, rfl, q2⟩ := hq
  cases rz
  exact wpAny_truthy_bool ⟨.bl _, H', I', rfl, by simpa using q2⟩
/-- ~a -/
def rOwn1 (C : Addr) (sp : Sp) (E : XK) : V → Hp → VK → Prop := fun x H Q => ∃ a dx fs, x = .ref a ∧ H a = some (.ins C dx fs) ∧ sp [.ref a] H Q E
theorem un_ownInv (F : FnOk X.prog X.w X.K X.mg X.base CX k f fd ps sp) (hr : Room k X.A) (hs : PySem.W.findIn X.K (.ref C) "__invert__" = some (some (.ref f)))
    (hf : PySem.W.isFn X.K (.ref f) = true) (hb : Binds X.K fd ps []) (hx : Passes CX X E) : UnR X (unaryOp .Invert) (rOwn1 C sp E) := by
  intro pins s σ H x v Q I rx h
  obtain ⟨b, dy, gs, rfl, hb', q⟩ := h
  cases rx
  obtain ⟨mB, J', _⟩ := ins_get I.hok hb'
  obtain ⟨od', J', _⟩ := J'.look
  obtain ⟨m, hF⟩ := I.fr
  refine PySem.W.ksp_inv hF I.ok.mod.kin J' hs hf ?_
  exact run_fn (us := [.ref b]) (vs := [.ref b]) F hr hb .nil hx I (.cons rfl .nil) q
end
end My
namespace My
open PySem L2
/-! ### the set text of some signs -/
def asc (cs : List Nat) : List Nat := SG.filter fun c => decide (c ∈ cs)
theorem asc_sub (cs : List Nat) : (asc cs).Sublist SG := List.filter_sublist
theorem mem_asc {cs : List Nat} (h : ∀ c ∈ cs, c ∈ SG) (c : Nat) : c ∈ asc cs ↔ c ∈ cs := by
  unfold asc
  rw [List.mem_filter, decide_eq_true_eq]
  exact ⟨fun q => q.2, fun q => ⟨h c q, q⟩⟩
theorem asc_uniq : ∀ {a b : List Nat}, a.Pairwise (· < ·) → b.Pairwise (· < ·) → (∀ c, c ∈ a ↔ c ∈ b) → a = b
  | [], [], _, _, _ => rfl
  | [], y :: b, _, _, h => absurd ((h y).mpr List.mem_cons_self) (by simp)
  | x :: a, [], _, _, h => absurd ((h x).mp List.mem_cons_self) (by simp)
  | x :: a, y :: b, pa, pb, h => by
    obtain ⟨a1, a2⟩ := List.pairwise_cons.mp pa
    obtain ⟨b1, b2⟩ := List.pairwise_cons.mp pb
    have e : x = y := by
      rcases List.mem_cons.mp ((h x).mp List.mem_cons_self) with q | q
      · exact q
      · rcases List.mem_cons.mp ((h y).mpr List.mem_cons_self) with q2 | q2
        · exact q2.symm
        · have := b1 x q; have := a1 y q2; omega
    subst e
    rw [asc_uniq a2 b2 fun c => ?_]
    constructor
    · intro q
      rcases List.mem_cons.mp ((h c).mp (List.mem_cons_of_mem _ q)) with z | z
      · have := a1 c q; omega
      · exact z
    · intro q
      rcases List.mem_cons.mp ((h c).mpr (List.mem_cons_of_mem _ q)) with z | z
      · have := b1 c q; omega
      · exact z
theorem asc_pw (cs : List Nat) : (asc cs).Pairwise (· < ·) := sub_asc (asc_sub cs)
theorem asc_of {ns cs : List Nat} (h : ∀ c ∈ cs, c ∈ SG) (p : ns.Pairwise (· < ·)) (m : ∀ c, c ∈ ns ↔ c ∈ cs) : ns = asc cs :=
  asc_uniq p (asc_pw cs) fun c => by rw [m, mem_asc h]
theorem asc_self {cs : List Nat} (h : cs.Sublist SG) : asc cs = cs := (asc_of (fun c hc => h.subset hc) (sub_asc h) fun _ => Iff.rfl).symm
theorem asc_congr {a b : List Nat} (h : ∀ c, c ∈ a ↔ c ∈ b) : asc a = asc b := by
  unfold asc
  refine List.filter_congr fun c _ => ?_
  exact decide_eq_decide.mpr (h c)
theorem filter_asc (p : Nat → Bool) : SG.filter p = asc (SG.filter p) := (asc_self List.filter_sublist).symm
/-- the four combinations -/
def cOr (a b : List Nat) : List Nat := SG.filter fun c => decide (c ∈ a) || decide (c ∈ b)
def cAnd (a b : List Nat) : List Nat := SG.filter fun c => decide (c ∈ a) && decide (c ∈ b)
def cSub (a b : List Nat) : List Nat := SG.filter fun c => decide (c ∈ a) && !decide (c ∈ b)
def cNot (a : List Nat) : List Nat := SG.filter fun c => !decide (c ∈ a)
theorem asc_app {a b : List Nat} (ha : a.Sublist SG) (hb : b.Sublist SG) : asc (a ++ b) = cOr a b := by
  unfold asc cOr
  refine List.filter_congr fun c _ => ?_
  rw [← Bool.decide_or]
  exact decide_eq_decide.mpr List.mem_append
theorem asc_filt {a : List Nat} (ha : a.Sublist SG) (p : Nat → Bool) : asc (a.filter p) = SG.filter fun c => decide (c ∈ a) && p c := by
  unfold asc
  refine List.filter_congr fun c _ => ?_
  rw [Bool.eq_iff_iff]
  simp [List.mem_filter]
theorem asc_filtS (p : Nat → Bool) : asc (SG.filter p) = SG.filter p := asc_self List.filter_sublist
/-! ### an instance that holds a set text -/
def Sgs (C : Addr) (H : Hp) (a : Addr) (cs : List Nat) : Prop := ∃ dx, H a = some (.ins C dx [("_members", .str (tx cs))])
theorem Sgs.at {C : Addr} {H H' : Hp} {a : Addr} {cs : List Nat} (h : Sgs C H a cs) (s : Same H H') : Sgs C H' a cs := by
  obtain ⟨dx, e⟩ := h
  exact ⟨dx, s _ _ e⟩
theorem Sgs.but {C d : Addr} {H H' : Hp} {a : Addr} {cs : List Nat} (h : Sgs C H a cs) (n : a ≠ d) (s : But d H H') : Sgs C H' a cs := by
  obtain ⟨dx, e⟩ := h
  exact ⟨dx, s _ _ n e⟩
theorem mem_lk (cs : List Nat) : ([(("_members" : Str), V.str (tx cs))] : List (Str × V)).lookup ("_members" : Str) = some (V.str (tx cs)) := rfl
end My
namespace My
open PySem L2
def topS (i : Nat) : Stmt := PySem.Challenge.pw_surespan_k00_set_algebra.main.body.getD i (.Pass ⟨0, 0, 0, 0⟩)
abbrev s_SignSet_Minit : Stmt := inClass (topS 3) 0
abbrev n_SignSet_Minit : List Str := ["self", "signs"]
theorem sc_SignSet_Minit : FnScope n_SignSet_Minit ["self", "signs"] (defScope s_SignSet_Minit) := ⟨rfl, rfl, rfl, by decide +kernel, rfl, by decide +kernel, by decide +kernel⟩
abbrev s_SignSet_members : Stmt := inClass (topS 3) 2
abbrev n_SignSet_members : List Str := ["self"]
theorem sc_SignSet_members : FnScope n_SignSet_members ["self"] (defScope s_SignSet_members) := ⟨rfl, rfl, rfl, by decide +kernel, rfl, by decide +kernel, by decide +kernel⟩
abbrev s_SignSet_Mor : Stmt := inClass (topS 3) 6
abbrev n_SignSet_Mor : List Str := ["self", "other"]
theorem sc_SignSet_Mor : FnScope n_SignSet_Mor ["self", "other"] (defScope s_SignSet_Mor) := ⟨rfl, rfl, rfl, by decide +kernel, rfl, by decide +kernel, by decide +kernel⟩
abbrev s_SignSet_Mand : Stmt := inClass (topS 3) 7
abbrev n_SignSet_Mand : List Str := ["self", "other", "sign"]
theorem sc_SignSet_Mand : FnScope n_SignSet_Mand ["self", "other"] (defScope s_SignSet_Mand) := ⟨rfl, rfl, rfl, by decide +kernel, rfl, by decide +kernel, by decide +kernel⟩
abbrev s_SignSet_Msub : Stmt := inClass (topS 3) 8
abbrev n_SignSet_Msub : List Str := ["self", "other", "sign"]
theorem sc_SignSet_Msub : FnScope n_SignSet_Msub ["self", "other"] (defScope s_SignSet_Msub) := ⟨rfl, rfl, rfl, by decide +kernel, rfl, by decide +kernel, by decide +kernel⟩
abbrev s_SignSet_Minvert : Stmt := inClass (topS 3) 9
abbrev n_SignSet_Minvert : List Str := ["self", "sign"]
theorem sc_SignSet_Minvert : FnScope n_SignSet_Minvert ["self"] (defScope s_SignSet_Minvert) := ⟨rfl, rfl, rfl, by decide +kernel, rfl, by decide +kernel, by decide +kernel⟩
abbrev s_SignSet_Mcontains : Stmt := inClass (topS 3) 10
abbrev n_SignSet_Mcontains : List Str := ["self", "sign"]
theorem sc_SignSet_Mcontains : FnScope n_SignSet_Mcontains ["self", "sign"] (defScope s_SignSet_Mcontains) := ⟨rfl, rfl, rfl, by decide +kernel, rfl, by decide +kernel, by decide +kernel⟩
abbrev s_Ldraw : Stmt := topS 5
abbrev n_Ldraw : List Str := ["_law_script", "_law_digits", "_law_one", "_law_two", "_law_cell", "_law_rest", "_law_k"]
theorem sc_Ldraw : FnScope n_Ldraw ["_law_script"] (defScope s_Ldraw) := ⟨rfl, rfl, rfl, by decide +kernel, rfl, by decide +kernel, by decide +kernel⟩
abbrev s_Lnext : Stmt := topS 6
abbrev n_Lnext : List Str := ["_law_draw_here", "_law_many", "_law_at"]
theorem sc_Lnext : FnScope n_Lnext ["_law_draw_here", "_law_many"] (defScope s_Lnext) := ⟨rfl, rfl, rfl, by decide +kernel, rfl, by decide +kernel, by decide +kernel⟩
abbrev s_Lsigns : Stmt := topS 7
abbrev n_Lsigns : List Str := ["_law_signs_here"]
theorem sc_Lsigns : FnScope n_Lsigns [] (defScope s_Lsigns) := ⟨rfl, rfl, rfl, by decide +kernel, rfl, by decide +kernel, by decide +kernel⟩
abbrev s_Lsubset : Stmt := topS 8
abbrev n_Lsubset : List Str := ["_law_draw_here", "_law_signs_here", "_law_choice", "_law_low", "_law_few", "_law_many", "_law_k", "_law_sign"]
theorem sc_Lsubset : FnScope n_Lsubset ["_law_draw_here"] (defScope s_Lsubset) := ⟨rfl, rfl, rfl, by decide +kernel, rfl, by decide +kernel, by decide +kernel⟩
abbrev s_Lnear : Stmt := topS 9
abbrev n_Lnear : List Str := ["_law_draw_here", "_law_first", "_law_signs_here", "_law_choice", "_law_rest", "_law_turned", "_law_gone", "_law_come", "_law_sign"]
theorem sc_Lnear : FnScope n_Lnear ["_law_draw_here", "_law_first"] (defScope s_Lnear) := ⟨rfl, rfl, rfl, by decide +kernel, rfl, by decide +kernel, by decide +kernel⟩
abbrev s_Lspelt : Stmt := topS 10
abbrev n_Lspelt : List Str := ["_law_draw_here", "_law_members", "_law_choice"]
theorem sc_Lspelt : FnScope n_Lspelt ["_law_draw_here", "_law_members"] (defScope s_Lspelt) := ⟨rfl, rfl, rfl, by decide +kernel, rfl, by decide +kernel, by decide +kernel⟩
abbrev s_Lis : Stmt := topS 11
abbrev n_Lis : List Str := ["_law_found", "_law_due", "_law_sign"]
theorem sc_Lis : FnScope n_Lis ["_law_found", "_law_due"] (defScope s_Lis) := ⟨rfl, rfl, rfl, by decide +kernel, rfl, by decide +kernel, by decide +kernel⟩
abbrev s_Lcombined : Stmt := topS 12
abbrev n_Lcombined : List Str := ["_law_op", "_law_one", "_law_two", "_law_signs_here", "_law_sign"]
theorem sc_Lcombined : FnScope n_Lcombined ["_law_op", "_law_one", "_law_two"] (defScope s_Lcombined) := ⟨rfl, rfl, rfl, by decide +kernel, rfl, by decide +kernel, by decide +kernel⟩
abbrev s_Lcarried_out : Stmt := topS 13
abbrev n_Lcarried_out : List Str := ["_law_op", "_law_one", "_law_two"]
theorem sc_Lcarried_out : FnScope n_Lcarried_out ["_law_op", "_law_one", "_law_two"] (defScope s_Lcarried_out) := ⟨rfl, rfl, rfl, by decide +kernel, rfl, by decide +kernel, by decide +kernel⟩
abbrev s_law : Stmt := topS 14
abbrev n_law : List Str := ["_law_script", "_law_draw_here", "_law_first", "_law_second", "_law_third", "_law_texts", "_law_objects", "_law_a", "_law_b", "_law_k", "_law_op", "_law_value", "_law_due", "_law_number", "_law_text"]
theorem sc_law : FnScope n_law ["_law_script"] (defScope s_law) := ⟨rfl, rfl, rfl, by decide +kernel, rfl, by decide +kernel, by decide +kernel⟩
structure Top (K : PySem.W.Frag) (mg : Str → Option Value) : Type where
  f_Ldraw : Addr
  fd_Ldraw : FuncData
  F_Ldraw : Fun K "_law_draw" "_law_draw" s_Ldraw f_Ldraw fd_Ldraw
  B_Ldraw : Binds K fd_Ldraw ["_law_script"] []
  g_Ldraw : mg "_law_draw" = some (.ref f_Ldraw)
  f_Lnext : Addr
  fd_Lnext : FuncData
  F_Lnext : Fun K "_law_next" "_law_next" s_Lnext f_Lnext fd_Lnext
  B_Lnext : Binds K fd_Lnext ["_law_draw_here", "_law_many"] []
  g_Lnext : mg "_law_next" = some (.ref f_Lnext)
  f_Lsigns : Addr
  fd_Lsigns : FuncData
  F_Lsigns : Fun K "_law_signs" "_law_signs" s_Lsigns f_Lsigns fd_Lsigns
  B_Lsigns : Binds K fd_Lsigns [] []
  g_Lsigns : mg "_law_signs" = some (.ref f_Lsigns)
  f_Lsubset : Addr
  fd_Lsubset : FuncData
  F_Lsubset : Fun K "_law_subset" "_law_subset" s_Lsubset f_Lsubset fd_Lsubset
  B_Lsubset : Binds K fd_Lsubset ["_law_draw_here"] []
  g_Lsubset : mg "_law_subset" = some (.ref f_Lsubset)
  f_Lnear : Addr
  fd_Lnear : FuncData
  F_Lnear : Fun K "_law_near" "_law_near" s_Lnear f_Lnear fd_Lnear
  B_Lnear : Binds K fd_Lnear ["_law_draw_here", "_law_first"] []
  g_Lnear : mg "_law_near" = some (.ref f_Lnear)
  f_Lspelt : Addr
  fd_Lspelt : FuncData
  F_Lspelt : Fun K "_law_spelt" "_law_spelt" s_Lspelt f_Lspelt fd_Lspelt
  B_Lspelt : Binds K fd_Lspelt ["_law_draw_here", "_law_members"] []
  g_Lspelt : mg "_law_spelt" = some (.ref f_Lspelt)
  f_Lis : Addr
  fd_Lis : FuncData
  F_Lis : Fun K "_law_is" "_law_is" s_Lis f_Lis fd_Lis
  B_Lis : Binds K fd_Lis ["_law_found", "_law_due"] []
  g_Lis : mg "_law_is" = some (.ref f_Lis)
  f_Lcombined : Addr
  fd_Lcombined : FuncData
  F_Lcombined : Fun K "_law_combined" "_law_combined" s_Lcombined f_Lcombined fd_Lcombined
  B_Lcombined : Binds K fd_Lcombined ["_law_op", "_law_one", "_law_two"] []
  g_Lcombined : mg "_law_combined" = some (.ref f_Lcombined)
  f_Lcarried_out : Addr
  fd_Lcarried_out : FuncData
  F_Lcarried_out : Fun K "_law_carried_out" "_law_carried_out" s_Lcarried_out f_Lcarried_out fd_Lcarried_out
  B_Lcarried_out : Binds K fd_Lcarried_out ["_law_op", "_law_one", "_law_two"] []
  g_Lcarried_out : mg "_law_carried_out" = some (.ref f_Lcarried_out)
  f_law : Addr
  fd_law : FuncData
  F_law : Fun K "law" "law" s_law f_law fd_law
  B_law : Binds K fd_law ["_law_script"] []
  g_law : mg "law" = some (.ref f_law)
  c_SignSet : Addr
  g_SignSet : mg "SignSet" = some (.ref c_SignSet)
  i_SignSet : C8.InsC K c_SignSet
  sf_SignSet : PySem.W.selfFirst K c_SignSet = true
  na_SignSet_members : NoAttr K c_SignSet "_members"
  f_SignSet_Minit : Addr
  fd_SignSet_Minit : FuncData
  F_SignSet_Minit : FunD K "__init__" "SignSet.__init__" (defArgs s_SignSet_Minit) (defBody s_SignSet_Minit) (defScope s_SignSet_Minit) [.str ""] [] f_SignSet_Minit fd_SignSet_Minit
  B_SignSet_Minit : Binds K fd_SignSet_Minit ["self", "signs"] []
  mk_SignSet : Mk K c_SignSet f_SignSet_Minit
  f_SignSet_members : Addr
  fd_SignSet_members : FuncData
  F_SignSet_members : Fun K "members" "SignSet.members" s_SignSet_members f_SignSet_members fd_SignSet_members
  B_SignSet_members : Binds K fd_SignSet_members ["self"] []
  p_SignSet_members : Addr
  pr_SignSet_members : PropOf K c_SignSet "members" p_SignSet_members f_SignSet_members
  f_SignSet_Mor : Addr
  fd_SignSet_Mor : FuncData
  F_SignSet_Mor : Fun K "__or__" "SignSet.__or__" s_SignSet_Mor f_SignSet_Mor fd_SignSet_Mor
  B_SignSet_Mor : Binds K fd_SignSet_Mor ["self", "other"] []
  at_SignSet_Mor : PySem.W.findIn K (.ref c_SignSet) "__or__" = some (some (.ref f_SignSet_Mor))
  fn_SignSet_Mor : PySem.W.isFn K (.ref f_SignSet_Mor) = true
  f_SignSet_Mand : Addr
  fd_SignSet_Mand : FuncData
  F_SignSet_Mand : Fun K "__and__" "SignSet.__and__" s_SignSet_Mand f_SignSet_Mand fd_SignSet_Mand
  B_SignSet_Mand : Binds K fd_SignSet_Mand ["self", "other"] []
  at_SignSet_Mand : PySem.W.findIn K (.ref c_SignSet) "__and__" = some (some (.ref f_SignSet_Mand))
  fn_SignSet_Mand : PySem.W.isFn K (.ref f_SignSet_Mand) = true
  f_SignSet_Msub : Addr
  fd_SignSet_Msub : FuncData
  F_SignSet_Msub : Fun K "__sub__" "SignSet.__sub__" s_SignSet_Msub f_SignSet_Msub fd_SignSet_Msub
  B_SignSet_Msub : Binds K fd_SignSet_Msub ["self", "other"] []
  at_SignSet_Msub : PySem.W.findIn K (.ref c_SignSet) "__sub__" = some (some (.ref f_SignSet_Msub))
  fn_SignSet_Msub : PySem.W.isFn K (.ref f_SignSet_Msub) = true
  f_SignSet_Minvert : Addr
  fd_SignSet_Minvert : FuncData
  F_SignSet_Minvert : Fun K "__invert__" "SignSet.__invert__" s_SignSet_Minvert f_SignSet_Minvert fd_SignSet_Minvert
  B_SignSet_Minvert : Binds K fd_SignSet_Minvert ["self"] []
  at_SignSet_Minvert : PySem.W.findIn K (.ref c_SignSet) "__invert__" = some (some (.ref f_SignSet_Minvert))
  fn_SignSet_Minvert : PySem.W.isFn K (.ref f_SignSet_Minvert) = true
  f_SignSet_Mcontains : Addr
  fd_SignSet_Mcontains : FuncData
  F_SignSet_Mcontains : Fun K "__contains__" "SignSet.__contains__" s_SignSet_Mcontains f_SignSet_Mcontains fd_SignSet_Mcontains
  B_SignSet_Mcontains : Binds K fd_SignSet_Mcontains ["self", "sign"] []
  at_SignSet_Mcontains : PySem.W.findIn K (.ref c_SignSet) "__contains__" = some (some (.ref f_SignSet_Mcontains))
  fn_SignSet_Mcontains : PySem.W.isFn K (.ref f_SignSet_Mcontains) = true
  t_SIGNS : Tok
  g_SIGNS : mg "SIGNS" = some (.str "\t\n !\"#$&'()*+,-./0123456789:;<=>?@ABCDEFGHIJKLMNOPQRSTUVWXYZ[\\]^_`abcdefghijklmnopqrstuvwxyz{|}~" t_SIGNS)
  b_int : mg "int" = none
  b_isinstance : mg "isinstance" = none
  b_len : mg "len" = none
  b_range : mg "range" = none
  b_set : mg "set" = none
  b_sorted : mg "sorted" = none
  b_str : mg "str" = none
end My
namespace My
open PySem L2
local macro_rules | `(tactic| walk_at "rd") => `(tactic| simp only [tSeq, tNext, tAsg, tOp, tUn, tC, tVar, gName, gSub, tCons, tNil, tCB, tIfS, tIf, tTest, tB, tAnd, tOr, tNot, tAndV, tOrV, tNotV, tRet, tRetN, tDrop, tLst, tTup, tCall, tSl, tNoPart, tPart, tM0, tM1, tBM, tBM0, tYes, tFor_eq, tLc_eq, iList, iRng1, iRng2, iStr, sg_tx, c_empty, rstrip_sign, find_sign, cut_last, cut_to, cut_from, cut_mid, cut_to_lit, cut_from_lit, and_assoc, flat_rep, List.length_replicate, tx_len, tx_eq, tx_app, tx_cps, rI0, rI, rU, rEq, rNe, rIxL, rIxS, rIxT, rSetL, rAppend, rPopAt, rSlS, rSlL, rIn, rMulS, rLtD, rJoin, rLenQ, rListOf,  tRevS, 
  scal, L2.start, List.map_cons, List.map_nil, List.length_cons, List.length_nil, List.replicate, List.cons_append, List.nil_append, List.append_nil,
  List.getElem?_cons_zero, List.getElem?_cons_succ, List.set_cons_zero, List.set_cons_succ, Nat.sub_zero, Nat.reduceSub, Nat.reduceAdd, Nat.zero_add, id_eq, Int.reduceToNat, exists_or,
  V.int.injEq, V.str.injEq, V.bl.injEq, V.ref.injEq, Option.some.injEq, List.cons.injEq, exists_and_left, exists_eq_left', exists_eq_left, exists_eq, exists_eq', and_true, true_and, reduceCtorEq, false_and, and_false, exists_false, false_or, or_false, decide_eq_true_eq, Bool.not_eq_true', decide_eq_false_iff_not, Bool.not_not, Bool.false_eq_true, ↓reduceIte, if_true, if_false])

local macro_rules | `(tactic| walk_at "ne") => `(tactic| first | assumption | (refine Ne.symm ?_; assumption) | exact (ne_of_none (by assumption) (by assumption)) | exact (ne_of_none (by assumption) (by assumption)).symm)
local macro_rules | `(tactic| walk_at "hp") => `(tactic| first | assumption | exact upd_same | exact (upd_ne (by walk_at "ne")).trans (by walk_at "hp"))
local macro_rules | `(tactic| walk_at "st1") => `(tactic| first
  | refine ⟨_, Or.inl (Or.inl (by walk_at "hp")), ?_⟩
  | refine ⟨_, Or.inl (Or.inl (Or.inl (by walk_at "hp"))), ?_⟩
  | refine ⟨_, (show _ = some (HO.lst _) by walk_at "hp"), ?_⟩
  | refine ⟨_, rfl, ?_⟩
  | refine ⟨(rfl : ("str" : String) = "str"), ?_⟩
  | refine ⟨Or.inr ⟨by decide, by decide⟩, ?_⟩
  | refine ⟨⟨by decide, by decide⟩, ?_⟩
  | refine ⟨by decide, ?_⟩
  | refine ⟨by assumption, ?_⟩)
local macro_rules | `(tactic| walk_at "st") => `(tactic| repeat walk_at "st1")
local macro_rules | `(tactic| walk_at "go") => `(tactic| repeat first | walk_at "st1" | walk_at "rd")
section
variable {P : Program} {w : World} {K : PySem.W.Frag} {mg : Str → Option Value} {base : Heap}
def sp_Lsigns : Sp := fun vs H Q _ => vs = [] ∧ Q (.str (tx SG)) H
theorem atI_ints {ds : List Int} {a : Int} (h0 : 0 ≤ a) (h1 : a < ((ds.map V.int).length : Nat)) : ∃ z, atI (ds.map V.int) a = some (V.int z) := by
  obtain ⟨n, rfl⟩ := Int.eq_ofNat_of_zero_le h0
  have h2 : n < ds.length := by rw [List.length_map] at h1; omega
  refine ⟨ds[n], atI_nat ?_⟩
  rw [List.getElem?_map, List.getElem?_eq_getElem h2]
  rfl
def sp_Lnext : Sp := fun vs H Q _ => ∃ (d l : Addr) (m : Int), vs = [.ref d, .int m] ∧ Drw H d l ∧ 0 < m ∧ ∀ (r : Int) (H' : Hp), 0 ≤ r → r < m → Drw H' d l → But d H H' → Q (.int r) H'
theorem ok_Lnext (T : Top K mg) : FnOk P w K mg base CX0 1 T.f_Lnext T.fd_Lnext ["_law_draw_here", "_law_many"] sp_Lnext := by
  refine T.F_Lnext.ok sc_Lnext (fun vs H Q E h => ?_) (fun cdv A outer s H vs Q E hr h => ?_)
  · obtain ⟨d, l, m, rfl, _⟩ := h
    rfl
  · obtain ⟨d, l, m, rfl, hD, hm, q⟩ := h
    refine ⟨_, (pss_cons (ps_set (i := 2) sc_Lnext.nd rfl (Or.inl rfl) (pe_ix (r := rIxL K) ix_list (pv 0) pe_int (fun _ _ => rfl)))
       (pss_cons (ps_if (pt_cmpR op_lt (pv 2) (pe_callB (r := rLenQ K) call_lenQ (by rfl) T.b_len PySem.boot_len (pa_cons (pe_ix (r := rIxL K) ix_list (pv 0) pe_int (fun _ _ => rfl)) pa_nil)) (nomark _)) (pss_cons (ps_asg (pe_op op_add (pv 2) pe_int) (pg_sub (pv 0) pe_int set_list))
       (pss_one (ps_ret (pe_op op_mod (pe_callTy call_int1 (by rfl) T.b_int (by decide +kernel) (pa_cons (pe_ix (r := rIxL K) ix_list (pe_ix (r := rIxL K) ix_list (pv 0) pe_int (fun _ _ => rfl)) (pv 2) (fun _ _ => rfl)) pa_nil)) (pv 1))))) pss_nil)
       (pss_cons (ps_asg (pe_op op_mod (pe_callTy call_int1 (by rfl) T.b_int (by decide +kernel) (pa_cons (pe_op op_add (pe_op op_mul (pe_ix (r := rIxL K) ix_list (pv 0) pe_int (fun _ _ => rfl)) pe_int) pe_int) pa_nil)) pe_int) (pg_sub (pv 0) pe_int set_list))
       (pss_cons (ps_asg (pe_op op_mod (pe_callTy call_int1 (by rfl) T.b_int (by decide +kernel) (pa_cons (pe_op op_add (pe_op op_mul (pe_ix (r := rIxL K) ix_list (pv 0) pe_int (fun _ _ => rfl)) pe_int) pe_int) pa_nil)) pe_int) (pg_sub (pv 0) pe_int set_list))
       (pss_one (ps_ret (pe_op op_mod (pe_callTy call_int1 (by rfl) T.b_int (by decide +kernel) (pa_cons (pe_op op_add (pe_op op_fdiv (pe_ix (r := rIxL K) ix_list (pv 0) pe_int (fun _ _ => rfl)) pe_int) (pe_op op_fdiv (pe_ix (r := rIxL K) ix_list (pv 0) pe_int (fun _ _ => rfl)) pe_int)) pa_nil)) (pv 1)))))))), ?_⟩
    obtain ⟨a, b, c, ds, hn, h1, h2, h3⟩ := hD
    have nl : l ≠ d := hn.symm
    walk_at "rd"
    walk_at "go"
    split
    · rename_i hlt
      walk_at "go"
      obtain ⟨z, hz⟩ := atI_ints h3 hlt
      refine ⟨_, hz, .inl ⟨_, rfl, hm, ?_⟩⟩
      exact q _ _ (Int.emod_nonneg _ (by omega)) (Int.emod_lt_of_pos _ hm) ⟨a + 1, b, c, ds, hn, upd_same, (upd_ne nl).trans h2, by omega⟩ .put
    · walk_at "go"
      refine q _ _ (Int.emod_nonneg _ (by omega)) (Int.emod_lt_of_pos _ hm) ⟨a, _, _, ds, hn, upd_same, (upd_ne nl).trans ((upd_ne nl).trans h2), h3⟩ (.trans .put .put)
theorem ok_Lsigns (T : Top K mg) : FnOk P w K mg base CX0 1 T.f_Lsigns T.fd_Lsigns [] sp_Lsigns := by
  refine T.F_Lsigns.ok sc_Lsigns (fun vs H Q E h => ?_) (fun cdv A outer s H vs Q E hr h => ?_)
  · obtain ⟨rfl, _⟩ := h
    rfl
  · obtain ⟨rfl, q⟩ := h
    refine ⟨_, (pss_cons (ps_set (i := 0) sc_Lsigns.nd rfl (Or.inl rfl) pe_str)
       (pss_one (ps_ret (pe_op op_add_str (pv 0) pe_str)))), ?_⟩
    walk_at "rd"
    refine ⟨by decide, ?_⟩
    exact sgs_tx ▸ q
end
end My
namespace My
open PySem L2
local macro_rules | `(tactic| walk_at "rd") => `(tactic| simp only [tSeq, tNext, tAsg, tOp, tUn, tC, tVar, gName, gSub, tCons, tNil, tCB, tIfS, tIf, tTest, tB, tAnd, tOr, tNot, tAndV, tOrV, tNotV, tRet, tRetN, tDrop, tLst, tTup, tCall, tSl, tNoPart, tPart, tM0, tM1, tBM, tBM0, tYes, tFor_eq, tLc_eq, iList, iRng1, iRng2, iStr, sg_tx, c_empty, rstrip_sign, find_sign, cut_last, cut_to, cut_from, cut_mid, cut_to_lit, cut_from_lit, and_assoc, flat_rep, List.length_replicate, tx_len, tx_eq, tx_app, tx_cps, rI0, rI, rU, rEq, rNe, rIxL, rIxS, rIxT, rSetL, rAppend, rPopAt, rSlS, rSlL, rIn, rMulS, rLtD, rJoin, rLenQ, rListOf,  tRevS, 
  scal, L2.start, List.map_cons, List.map_nil, List.length_cons, List.length_nil, List.replicate, List.cons_append, List.nil_append, List.append_nil,
  List.getElem?_cons_zero, List.getElem?_cons_succ, List.set_cons_zero, List.set_cons_succ, Nat.sub_zero, Nat.reduceSub, Nat.reduceAdd, Nat.zero_add, id_eq, Int.reduceToNat, exists_or,
  V.int.injEq, V.str.injEq, V.bl.injEq, V.ref.injEq, Option.some.injEq, List.cons.injEq, exists_and_left, exists_eq_left', exists_eq_left, exists_eq, exists_eq', and_true, true_and, reduceCtorEq, false_and, and_false, exists_false, false_or, or_false, decide_eq_true_eq, Bool.not_eq_true', decide_eq_false_iff_not, Bool.not_not, Bool.false_eq_true, ↓reduceIte, if_true, if_false])

local macro_rules | `(tactic| walk_at "ne") => `(tactic| first | assumption | (refine Ne.symm ?_; assumption) | exact (ne_of_none (by assumption) (by assumption)) | exact (ne_of_none (by assumption) (by assumption)).symm)
local macro_rules | `(tactic| walk_at "hp") => `(tactic| first | assumption | exact upd_same | exact (upd_ne (by walk_at "ne")).trans (by walk_at "hp"))
local macro_rules | `(tactic| walk_at "st1") => `(tactic| first
  | refine ⟨_, Or.inl (Or.inl (by walk_at "hp")), ?_⟩
  | refine ⟨_, Or.inl (Or.inl (Or.inl (by walk_at "hp"))), ?_⟩
  | refine ⟨_, (show _ = some (HO.lst _) by walk_at "hp"), ?_⟩
  | refine ⟨_, rfl, ?_⟩
  | refine ⟨(rfl : ("str" : String) = "str"), ?_⟩
  | refine ⟨Or.inr ⟨by decide, by decide⟩, ?_⟩
  | refine ⟨⟨by decide, by decide⟩, ?_⟩
  | refine ⟨by decide, ?_⟩
  | refine ⟨by assumption, ?_⟩)
local macro_rules | `(tactic| walk_at "st") => `(tactic| repeat walk_at "st1")
local macro_rules | `(tactic| walk_at "go") => `(tactic| repeat first | walk_at "st1" | walk_at "rd")
section
variable {P : Program} {w : World} {K : PySem.W.Frag} {mg : Str → Option Value} {base : Heap}
def sp_Ldraw (K : PySem.W.Frag) : Sp := fun vs H Q _ => ∃ (a : Addr) (ns : List Int), vs = [.ref a] ∧ SqL K H a (ns.map V.int) ∧ ns.length ≤ 63 ∧ ∀ (d l : Addr) (H' : Hp), H d = none → H l = none → Same H H' → Drw H' d l → Q (.ref d) H'
theorem ok_Ldraw (T : Top K mg) : FnOk P w K mg base CX0 1 T.f_Ldraw T.fd_Ldraw ["_law_script"] (sp_Ldraw K) := by
  refine T.F_Ldraw.ok sc_Ldraw (fun vs H Q E h => ?_) (fun cdv A outer s H vs Q E hr h => ?_)
  · obtain ⟨a, ns, rfl, _⟩ := h
    rfl
  · obtain ⟨a, ns, rfl, hS, hn, q⟩ := h
    refine ⟨_, (pss_cons (ps_set (i := 1) sc_Ldraw.nd rfl (Or.inl rfl) (pe_lst pa_nil))
       (pss_cons (ps_set (i := 2) sc_Ldraw.nd rfl (Or.inl rfl) pe_int)
       (pss_cons (ps_set (i := 3) sc_Ldraw.nd rfl (Or.inl rfl) pe_int)
       (pss_cons (ps_for PassesOwn.never rfl (pi_list (pv 0)) (pg_name (i := 4) sc_Ldraw.nd rfl (Or.inl rfl))
       (pss_cons (ps_set (i := 2) sc_Ldraw.nd rfl (Or.inl rfl) (pe_op op_mod (pe_callTy call_int1 (by rfl) T.b_int (by decide +kernel) (pa_cons (pe_op op_add (pe_op op_mul (pv 2) pe_int) (pv 4)) pa_nil)) pe_int))
       (pss_cons (ps_set (i := 3) sc_Ldraw.nd rfl (Or.inl rfl) (pe_op op_mod (pe_callTy call_int1 (by rfl) T.b_int (by decide +kernel) (pa_cons (pe_op op_add (pe_op op_mul (pv 3) pe_int) (pe_op op_fdiv (pv 4) pe_int)) pa_nil)) pe_int))
       (pss_cons (ps_set (i := 5) sc_Ldraw.nd rfl (Or.inl rfl) (pv 4))
       (pss_cut (ps_if (pt_cmpR op_lt (pv 4) (pe_op op_pow pe_int pe_int) (nomark _)) (pss_one (ps_set (i := 5) sc_Ldraw.nd rfl (Or.inl rfl) pe_int)) pss_nil)
       (pss_one (ps_for PassesOwn.never rfl (pi_range1 rfl T.b_range (pa_cons pe_int pa_nil)) (pg_name (i := 6) sc_Ldraw.nd rfl (Or.inl rfl))
       (pss_one (ps_if (pt_cmpR op_gt (pv 5) pe_int (nomark _)) (pss_cons (ps_expr (pe_bm PySem.F.plainAttrs_list PySem.F.slot_list_append PySem.F.type_list_append mt_append (pv 1) (pa_cons (pe_op op_mod (pe_callTy call_int1 (by rfl) T.b_int (by decide +kernel) (pa_cons (pv 5) pa_nil)) pe_int) pa_nil)))
       (pss_one (ps_set (i := 5) sc_Ldraw.nd rfl (Or.inl rfl) (pe_op op_fdiv (pv 5) pe_int)))) pss_nil)))))))))
       (pss_one (ps_ret (pe_lst (pa_cons pe_int (pa_cons (pv 2) (pa_cons (pv 3) (pa_cons (pv 1) (pa_cons pe_int pa_nil)))))))))))), ?_⟩
    walk_at "rd"
    refine ⟨by decide, fun l hl => ?_⟩
    refine ⟨⟨_, (same_upd hl).seq hS⟩, ?_⟩
    obtain ⟨Pv, hP⟩ : ∃ Pv : Nat → St → Hp → Prop, ∀ i σ H', Pv i σ H' ↔ ∃ (one two : Int) (v4 v5 v6 : Option V) (ds : List Int), σ = [some (V.ref a), some (V.ref l), some (V.int one), some (V.int two), v4, v5, v6] ∧ Same H H' ∧ H' l = some (.lst (ds.map V.int)) ∧ ds.length ≤ 60 * i := ⟨_, fun _ _ _ => Iff.rfl⟩
    refine forJ_by (reg_list _ a (ns.map V.int)) Pv ?_ ?_ ?_ ?_
    · intro i σ H' h
      obtain ⟨_, _, _, _, _, _, _, sm, _⟩ := (hP _ _ _).mp h
      exact sm.seq hS
    · exact (hP _ _ _).mpr ⟨7, 11, none, none, none, [], rfl, same_upd hl, upd_same, by decide⟩
    · intro i x σ H' hi h
      obtain ⟨one, two, v4, v5, v6, ds, rfl, sm, hL, hlen⟩ := (hP _ _ _).mp h
      have hi2 : i < ns.length := by
        have := (List.getElem?_eq_some_iff.mp hi).1
        rw [List.length_map] at this; exact this
      obtain ⟨z, rfl⟩ : ∃ z, x = V.int z := by
        rw [List.getElem?_map, List.getElem?_eq_getElem hi2] at hi
        exact ⟨_, (Option.some.inj hi).symm⟩
      walk_at "rd"
      walk_at "go"
      obtain ⟨Mid, hM⟩ : ∃ Mid : St → Hp → Prop, ∀ σ' H2, Mid σ' H2 ↔ ∃ (one two r : Int) (v6 : Option V), σ' = [some (V.ref a), some (V.ref l), some (V.int one), some (V.int two), some (V.int z), some (V.int r), v6] ∧ H2 = H' := ⟨_, fun _ _ => Iff.rfl⟩
      refine ⟨Mid, ?_, ?_⟩
      · walk_at "rd"
        refine ⟨⟨by decide, by decide, by decide⟩, ?_⟩
        split
        · exact (hM _ _).mpr ⟨_, _, _, _, rfl, rfl⟩
        · exact (hM _ _).mpr ⟨_, _, _, _, rfl, rfl⟩
      · intro σ' H2 h2
        obtain ⟨one', two', r, v6', rfl, rfl⟩ := (hM _ _).mp h2
        walk_at "rd"
        refine ⟨by decide, by decide, ?_⟩
        obtain ⟨Pj, hJ⟩ : ∃ Pj : Nat → St → Hp → Prop, ∀ j σ H', Pj j σ H' ↔ ∃ (r : Int) (v6 : Option V) (ds : List Int), σ = [some (V.ref a), some (V.ref l), some (V.int one'), some (V.int two'), some (V.int z), some (V.int r), v6] ∧ Same H H' ∧ H' l = some (.lst (ds.map V.int)) ∧ ds.length ≤ 60 * i + j := ⟨_, fun _ _ _ => Iff.rfl⟩
        refine forJ_by (reg_range _ _) Pj ?_ ?_ ?_ ?_
        · intros; trivial
        · exact (hJ _ _ _).mpr ⟨_, _, ds, rfl, sm, hL, by omega⟩
        · intro j b σ H' hj h
          obtain ⟨r, v6, ds, rfl, sm, hL, hlen⟩ := (hJ _ _ _).mp h
          have hj2 : j < 60 := by
            have := (List.getElem?_eq_some_iff.mp hj).1
            rw [List.length_range] at this; exact this
          walk_at "rd"
          split
          · have hsz : (ds.map V.int).length < sizeLine := by
              rw [List.length_map]
              have h1 : 60 * i + j ≤ 60 * 63 + 60 := by omega
              exact Nat.lt_of_le_of_lt (Nat.le_trans hlen h1) (by decide)
            refine ⟨.inl ⟨rfl, _, .inl (.inl hL)⟩, ?_⟩
            walk_at "go"
            refine (hJ _ _ _).mpr ⟨_, _, ds ++ [r % 5040], rfl, ?_, ?_, ?_⟩
            · intro b o e
              rw [upd_ne (ne_of_none e hl)]
              exact sm _ _ e
            · rw [upd_same, List.map_append]; rfl
            · rw [List.length_append]; simp; omega
          · exact (hJ _ _ _).mpr ⟨_, _, ds, rfl, sm, hL, by omega⟩
        · intro σ H' h
          obtain ⟨r, v6, ds, rfl, sm, hL, hlen⟩ := (hJ _ _ _).mp h
          rw [List.length_range] at hlen
          have e60 : (60 : Int).toNat = 60 := rfl
          exact (hP _ _ _).mpr ⟨_, _, _, _, _, ds, rfl, sm, hL, by omega⟩
    · intro σ H' h
      obtain ⟨one, two, v4, v5, v6, ds, rfl, sm, hL, hlen⟩ := (hP _ _ _).mp h
      walk_at "rd"
      refine ⟨by decide, fun d hd => ?_⟩
      have nl : l ≠ d := ne_of_none hL hd
      exact q d l _ (sm.free hd) hl (sm.trans (same_upd hd)) ⟨0, _, _, ds, nl.symm, upd_same, (upd_ne nl).trans hL, by decide⟩
end
end My
namespace My
open PySem L2
local macro_rules | `(tactic| walk_at "rd") => `(tactic| simp only [sp_Lnext, sp_Lsigns, tSeq, tNext, tAsg, tOp, tUn, tC, tVar, gName, gSub, tCons, tNil, tCB, tIfS, tIf, tTest, tB, tAnd, tOr, tNot, tAndV, tOrV, tNotV, tRet, tRetN, tDrop, tLst, tTup, tCall, tSl, tNoPart, tPart, tM0, tM1, tBM, tBM0, tYes, tFor_eq, tLc_eq, iList, iRng1, iRng2, iStr, sg_tx, c_empty, rstrip_sign, find_sign, cut_last, cut_to, cut_from, cut_mid, cut_to_lit, cut_from_lit, and_assoc, flat_rep, List.length_replicate, tx_len, tx_eq, tx_app, tx_cps, rI0, rI, rU, rEq, rNe, rIxL, rIxS, rIxT, rSetL, rAppend, rPopAt, rSlS, rSlL, rIn, rMulS, rLtD, rJoin, rLenQ, rListOf,  tRevS, 
  scal, L2.start, List.map_cons, List.map_nil, List.length_cons, List.length_nil, List.replicate, List.cons_append, List.nil_append, List.append_nil,
  List.getElem?_cons_zero, List.getElem?_cons_succ, List.set_cons_zero, List.set_cons_succ, Nat.sub_zero, Nat.reduceSub, Nat.reduceAdd, Nat.zero_add, id_eq, Int.reduceToNat, exists_or,
  V.int.injEq, V.str.injEq, V.bl.injEq, V.ref.injEq, Option.some.injEq, List.cons.injEq, exists_and_left, exists_eq_left', exists_eq_left, exists_eq, exists_eq', and_true, true_and, reduceCtorEq, false_and, and_false, exists_false, false_or, or_false, decide_eq_true_eq, Bool.not_eq_true', decide_eq_false_iff_not, Bool.not_not, Bool.false_eq_true, ↓reduceIte, if_true, if_false])

local macro_rules | `(tactic| walk_at "ne") => `(tactic| first | assumption | (refine Ne.symm ?_; assumption) | exact (ne_of_none (by assumption) (by assumption)) | exact (ne_of_none (by assumption) (by assumption)).symm)
local macro_rules | `(tactic| walk_at "hp") => `(tactic| first | assumption | exact upd_same | exact (upd_ne (by walk_at "ne")).trans (by walk_at "hp"))
local macro_rules | `(tactic| walk_at "st1") => `(tactic| first
  | refine ⟨_, Or.inl (Or.inl (by walk_at "hp")), ?_⟩
  | refine ⟨_, Or.inl (Or.inl (Or.inl (by walk_at "hp"))), ?_⟩
  | refine ⟨_, (show _ = some (HO.lst _) by walk_at "hp"), ?_⟩
  | refine ⟨_, rfl, ?_⟩
  | refine ⟨(rfl : ("str" : String) = "str"), ?_⟩
  | refine ⟨Or.inr ⟨by decide, by decide⟩, ?_⟩
  | refine ⟨⟨by decide, by decide⟩, ?_⟩
  | refine ⟨by decide, ?_⟩
  | refine ⟨by assumption, ?_⟩)
local macro_rules | `(tactic| walk_at "st") => `(tactic| repeat walk_at "st1")
local macro_rules | `(tactic| walk_at "go") => `(tactic| repeat first | walk_at "st1" | walk_at "rd")
section
variable {P : Program} {w : World} {K : PySem.W.Frag} {mg : Str → Option Value} {base : Heap}
def sp_Lsubset : Sp := fun vs H Q _ => ∃ d l, vs = [.ref d] ∧ Drw H d l ∧ ∀ (cs : List Nat) (H' : Hp), cs.Sublist SG → Drw H' d l → But d H H' → Q (.str (tx cs)) H'
theorem ok_Lsubset (T : Top K mg) : FnOk P w K mg base CX0 2 T.f_Lsubset T.fd_Lsubset ["_law_draw_here"] sp_Lsubset := by
  refine T.F_Lsubset.ok sc_Lsubset (fun vs H Q E h => ?_) (fun cdv A outer s H vs Q E hr h => ?_)
  · obtain ⟨d, l, rfl, _⟩ := h
    rfl
  · obtain ⟨d, l, rfl, hD, q⟩ := h
    refine ⟨_, (pss_cons (ps_set (i := 1) sc_Lsubset.nd rfl (Or.inr rfl) (pe_call0 (ok_Lsigns T) (hr.mono (by decide)) (by rfl) T.g_Lsigns T.F_Lsigns.kp T.B_Lsigns .nil pass0))
       (pss_cons (ps_set (i := 2) sc_Lsubset.nd rfl (Or.inl rfl) (pe_call (ok_Lnext T) (hr.mono (by decide)) (by rfl) T.g_Lnext T.F_Lnext.kp T.B_Lnext .nil pass0 (pa_cons (pv 0) (pa_cons pe_int pa_nil))))
       (pss_cons (ps_if (pt_cmpR op_eq (pv 2) pe_int (nomark _)) (pss_one (ps_ret (pe_ix (r := rIxL K) ix_list (pe_lst (pa_cons pe_str (pa_cons (pv 1) (pa_cons (pe_slice sl_str (pv 1) po_none (po_some pe_int)) (pa_cons (pe_slice sl_str (pv 1) (po_some pe_int) po_none) (pa_cons (pe_slice sl_str (pv 1) (po_some pe_int) po_none) (pa_cons (pe_slice sl_str (pv 1) po_none (po_some pe_int)) pa_nil))))))) (pe_call (ok_Lnext T) (hr.mono (by decide)) (by rfl) T.g_Lnext T.F_Lnext.kp T.B_Lnext .nil pass0 (pa_cons (pv 0) (pa_cons pe_int pa_nil))) (fun _ _ => rfl)))) pss_nil)
       (pss_cons (ps_if (pt_cmpR op_lt (pv 2) pe_int (nomark _)) (pss_cons (ps_set (i := 3) sc_Lsubset.nd rfl (Or.inl rfl) (pe_call (ok_Lnext T) (hr.mono (by decide)) (by rfl) T.g_Lnext T.F_Lnext.kp T.B_Lnext .nil pass0 (pa_cons (pv 0) (pa_cons pe_int pa_nil))))
       (pss_one (ps_ret (pe_slice sl_str (pv 1) (po_some (pv 3)) (po_some (pe_op op_add (pe_op op_add (pv 3) pe_int) (pe_call (ok_Lnext T) (hr.mono (by decide)) (by rfl) T.g_Lnext T.F_Lnext.kp T.B_Lnext .nil pass0 (pa_cons (pv 0) (pa_cons pe_int pa_nil))))))))) pss_nil)
       (pss_cons (ps_if (pt_cmpR op_lt (pv 2) pe_int (nomark _)) (pss_cons (ps_set (i := 4) sc_Lsubset.nd rfl (Or.inr rfl) (pe_lc (own := [("_law_k", 6)]) (g := gName 6) (by rfl) sc_Lsubset.nd (pi_range1 rfl T.b_range (pa_cons (pe_op op_add pe_int (pe_call (ok_Lnext T) (hr.mono (by decide)) (by rfl) T.g_Lnext T.F_Lnext.kp T.B_Lnext .nil pass0 (pa_cons (pv 0) (pa_cons pe_int pa_nil)))) pa_nil)) (blkOk_by (own := [("_law_k", 6)]) (N := n_Lsubset) (sc := defScope s_Lsubset) (by decide +kernel)) (fun _ _ _ _ _ => pg_name (i := 6) sc_Lsubset.nd rfl (Or.inl rfl)) (fun _ _ _ _ _ => pts_nil) (fun _ _ _ _ _ => (pe_ix ix_str (pv 1) (pe_call (ok_Lnext T) (hr.mono (by decide)) (by rfl) T.g_Lnext T.F_Lnext.kp T.B_Lnext .nil pass0 (pa_cons (pv 0) (pa_cons pe_int pa_nil))) (fun _ _ => rfl)))))
       (pss_one (ps_ret (pe_m1 (r := rJoin K) PySem.F.slot_str_join PySem.F.type_str_join mt_joinQ pe_str (pe_lc (own := [("_law_sign", 7)]) (g := gName 7) (by rfl) sc_Lsubset.nd (pi_str (pv 1)) (blkOk_by (own := [("_law_sign", 7)]) (N := n_Lsubset) (sc := defScope s_Lsubset) (by decide +kernel)) (fun _ _ _ _ _ => pg_name (i := 7) sc_Lsubset.nd rfl (Or.inl rfl)) (fun _ _ _ _ _ => (pts_one (pt_cmpR (r := rIn K false) op_in_seq (pv 7) (pv 4) (by rfl)))) (fun _ _ _ _ _ => (pv 7))))))) pss_nil)
       (pss_cons (ps_set (i := 5) sc_Lsubset.nd rfl (Or.inr rfl) (pe_op op_sub (pv 2) pe_int))
       (pss_one (ps_ret (pe_m1 (r := rJoin K) PySem.F.slot_str_join PySem.F.type_str_join mt_joinQ pe_str (pe_lc (own := [("_law_sign", 7)]) (g := gName 7) (by rfl) sc_Lsubset.nd (pi_str (pv 1)) (blkOk_by (own := [("_law_sign", 7)]) (N := n_Lsubset) (sc := defScope s_Lsubset) (by decide +kernel)) (fun _ _ _ _ _ => pg_name (i := 7) sc_Lsubset.nd rfl (Or.inl rfl)) (fun _ _ _ _ _ => (pts_one (pt_cmpR op_eq (pe_call (ok_Lnext T) (hr.mono (by decide)) (by rfl) T.g_Lnext T.F_Lnext.kp T.B_Lnext .nil pass0 (pa_cons (pv 0) (pa_cons (pv 5) pa_nil))) pe_int (nomark _)))) (fun _ _ _ _ _ => (pv 7)))))))))))), ?_⟩
    have lS : SG.length ≤ sizeLine := line20 (by rw [SG_len]; decide)
    walk_at "rd"
    refine ⟨l, hD, by decide, fun r0 H1 a0 b0 D1 B1 => ?_⟩
    split
    · refine ⟨lS, lS, lS, lS, by decide, fun p hp => ⟨l, D1.new hp, by decide, fun r H2 a b D2 B2 => ?_⟩⟩
      obtain ⟨v, e, hv⟩ := atI_six a b
      have hp2 := B2 _ _ (D1.ne hp) (upd_same)
      refine ⟨_, .inl (.inl hp2), _, e, ?_⟩
      have B := (B1.new hp).trans B2
      rcases hv with rfl | rfl | rfl | rfl | rfl | rfl
      · exact q _ _ (List.nil_sublist _) D2 B
      · exact q _ _ (List.Sublist.refl _) D2 B
      · rw [cut_to_lit]; exact q _ _ (List.take_sublist _ _) D2 B
      · rw [cut_from_lit]; exact q _ _ (List.drop_sublist _ _) D2 B
      · rw [cut_from_lit]; exact q _ _ (List.drop_sublist _ _) D2 B
      · rw [cut_to_lit]; exact q _ _ (List.take_sublist _ _) D2 B
    · split
      · refine ⟨l, D1, by decide, fun r1 H2 a1 b1 D2 B2 => ⟨l, D2, by decide, fun r2 H3 a2 b2 D3 B3 => ⟨lS, ?_⟩⟩⟩
        obtain ⟨i, rfl⟩ := Int.eq_ofNat_of_zero_le a1
        obtain ⟨j, rfl⟩ := Int.eq_ofNat_of_zero_le a2
        have e : ((i : Int) + 1 + (j : Int)) = ((i + 1 + j : Nat) : Int) := by omega
        rw [e, cut_mid]
        exact q _ _ ((List.take_sublist _ _).trans (List.drop_sublist _ _)) D3 ((B1.trans B2).trans B3)
      · split
        · refine ⟨l, D1, by decide, fun r1 H2 a1 b1 D2 B2 => ⟨by omega, by omega, ?_⟩⟩
          have e0 : (1 + r1).toNat ≤ 6 := by omega
          refine lc_any (reg_range 0 (1 + r1).toNat) (fun c => c ∈ SG) (by rw [List.length_range]; omega) D2 (fun a H Q _ hD' hq => ?_) (fun D H3 es hD0 he _ D3 B3 eD => ?_)
          · walk_at "rd"
            refine ⟨l, hD', by decide, fun r H' ra rb hD2 hB => ⟨lS, ?_⟩⟩
            obtain ⟨j, rfl, hj, e⟩ := atI_pos (s := SG) ra (by rw [SG_len]; omega)
            exact ⟨_, e, hq _ _ (List.getElem_mem hj) hD2 hB⟩
          · have hs : ∀ D' acc, H3 D' = none → SqL K (upd H3 D' (.lst acc)) D (es.map fun c => V.str (tx [c])) := fun D' acc h0 => .inl (.inl ((upd_ne (ne_of_none eD h0)).trans eD))
            refine lcJ_pure (reg_text SG) (fun c => decide (c ∈ es)) (fun c => V.str (tx [c])) lS (fun _ _ _ => trivial) (fun c D' acc Q _ h0 hq => ?_) (fun c D' acc Q _ _ h0 hq => ?_) (fun D' h0 => ?_)
            · walk_at "rd"
              refine ⟨_, .inl (hs D' acc h0), rfl, flat_signs es, ?_⟩
              rw [inV_signs]
              exact hq
            · walk_at "rd"
              exact hq
            · refine ⟨D', rfl, join_go sq_upd (by have := sub_len (List.filter_sublist (l := SG) (p := fun c => decide (c ∈ es))); omega) ?_⟩
              exact q _ _ List.filter_sublist (D3.new h0) (((B1.trans B2).trans B3).new h0)
        · refine lc_draws (by rw [SG_len]; decide) D1 (fun c H Q _ hD' hq => ?_) (fun c H Q _ hq => ?_) (fun D H2 es h0 he D2 B2 eD => ?_)
          · walk_at "rd"
            refine ⟨l, hD', by omega, fun r H' ra rb hD2 hB => hq _ _ hD2 hB⟩
          · walk_at "rd"
            exact hq
          · refine ⟨D, rfl, join_go (.inl (.inl eD)) (by have := sub_len he; omega) ?_⟩
            exact q _ _ he D2 (B1.trans B2)
end
end My
namespace My
open PySem L2
local macro_rules | `(tactic| walk_at "rd") => `(tactic| simp only [sFld, tM1, tMake, tProp, tFld, rOwn2, rOwnIn, rOwn1, rSetTx, rSortedTx, tSeq, tNext, tAsg, tOp, tUn, tC, tVar, gName, gSub, tCons, tNil, tCB, tIfS, tIf, tTest, tB, tAnd, tOr, tNot, tAndV, tOrV, tNotV, tRet, tRetN, tDrop, tLst, tTup, tCall, tSl, tNoPart, tPart, tM0, tM1, tBM, tBM0, tYes, tFor_eq, tLc_eq, iList, iRng1, iRng2, iStr, sg_tx, c_empty, rstrip_sign, find_sign, cut_last, cut_to, cut_from, cut_mid, cut_to_lit, cut_from_lit, and_assoc, flat_rep, List.length_replicate, tx_len, tx_eq, tx_app, tx_cps, rI0, rI, rU, rEq, rNe, rIxL, rIxS, rIxT, rSetL, rAppend, rPopAt, rSlS, rSlL, rIn, rMulS, rLtD, rJoin, rLenQ, rListOf,  tRevS, 
  scal, L2.start, List.map_cons, List.map_nil, List.length_cons, List.length_nil, List.replicate, List.cons_append, List.nil_append, List.append_nil,
  List.getElem?_cons_zero, List.getElem?_cons_succ, List.set_cons_zero, List.set_cons_succ, Nat.sub_zero, Nat.reduceSub, Nat.reduceAdd, Nat.zero_add, id_eq, Int.reduceToNat, exists_or,
  V.int.injEq, V.str.injEq, V.bl.injEq, V.ref.injEq, Option.some.injEq, List.cons.injEq, exists_and_left, exists_eq_left', exists_eq_left, exists_eq, exists_eq', and_true, true_and, reduceCtorEq, false_and, and_false, exists_false, false_or, or_false, decide_eq_true_eq, Bool.not_eq_true', decide_eq_false_iff_not, Bool.not_not, Bool.false_eq_true, ↓reduceIte, if_true, if_false])

local macro_rules | `(tactic| walk_at "ne") => `(tactic| first | assumption | (refine Ne.symm ?_; assumption) | exact (ne_of_none (by assumption) (by assumption)) | exact (ne_of_none (by assumption) (by assumption)).symm)
local macro_rules | `(tactic| walk_at "hp") => `(tactic| first | assumption | exact upd_same | exact (upd_ne (by walk_at "ne")).trans (by walk_at "hp"))
local macro_rules | `(tactic| walk_at "st1") => `(tactic| first
  | refine ⟨_, Or.inl (Or.inl (by walk_at "hp")), ?_⟩
  | refine ⟨_, Or.inl (Or.inl (Or.inl (by walk_at "hp"))), ?_⟩
  | refine ⟨_, (show _ = some (HO.lst _) by walk_at "hp"), ?_⟩
  | refine ⟨_, rfl, ?_⟩
  | refine ⟨(rfl : ("str" : String) = "str"), ?_⟩
  | refine ⟨Or.inr ⟨by decide, by decide⟩, ?_⟩
  | refine ⟨⟨by decide, by decide⟩, ?_⟩
  | refine ⟨by decide, ?_⟩
  | refine ⟨by assumption, ?_⟩)
local macro_rules | `(tactic| walk_at "st") => `(tactic| repeat walk_at "st1")
local macro_rules | `(tactic| walk_at "go") => `(tactic| repeat first | walk_at "st1" | walk_at "rd")
section
variable {P : Program} {w : World} {K : PySem.W.Frag} {mg : Str → Option Value} {base : Heap}
theorem join_goW {K : PySem.W.Frag} {H : Hp} {D : Addr} {cs : List Nat} {R : List Str → Prop} (hD : SqL K H D (cs.map fun c => V.str (tx [c]))) (h : cs.length ≤ 10000) (q : ∀ ys, Txt.join (tx []) ys = tx cs → R ys) :
    ∃ ys : List Str, (SqL K H D (ys.map V.str) ∨ SqT K H D (ys.map V.str)) ∧ (ys.map (·.length)).sum + ys.length * 0 ≤ 16777216 ∧ R ys := by
  obtain ⟨ys, a, b, c⟩ := join_w (cs := cs) hD h
  exact ⟨ys, a, b, q ys c⟩
def sp_Minit (C : Addr) : Sp := fun vs H Q _ => ∃ (x dx : Addr) (cs : List Nat), vs = [.ref x, .str (tx cs)] ∧ H x = some (.ins C dx []) ∧ (∀ c ∈ cs, c ∈ SG) ∧ cs.length ≤ 1000 ∧ ∀ H', But x H H' → Sgs C H' x (asc cs) → Q .non H'
theorem ok_SignSet_Minit (T : Top K mg) : FnOk P w K mg base CX0 1 T.f_SignSet_Minit T.fd_SignSet_Minit ["self", "signs"] (sp_Minit T.c_SignSet) := by
  refine T.F_SignSet_Minit.ok sc_SignSet_Minit (fun vs H Q E h => ?_) (fun cdv A outer s H vs Q E hr h => ?_)
  · obtain ⟨x, dx, cs, rfl, _⟩ := h
    rfl
  · obtain ⟨x, dx, cs, rfl, hx, hs, hl, q⟩ := h
    refine ⟨_, (pss_one (ps_fld (pv 0) (pe_m1 (r := rJoin K) PySem.F.slot_str_join PySem.F.type_str_join mt_joinQ pe_str (pe_callB (r := rSortedTx _) (cr_sortedTx rfl (Nat.lt_of_le_of_lt (Nat.add_le_add_left (by decide : 16 ≤ 64) _) hr.units)) (by rfl) T.b_sorted (by decide +kernel) (pa_cons (pe_callTy (r := rSetTx _) (cr_setTx rfl) (by rfl) T.b_set (by decide +kernel) (pa_cons (pv 1) pa_nil)) pa_nil))) rfl)), ?_⟩
    walk_at "rd"
    refine ⟨by have : scanBound = 4096 := rfl; omega, fun p hp => ⟨cs, upd_same, fun ns p1 pw mem hp1 => ?_⟩⟩
    obtain rfl := asc_of hs pw mem
    have np : p1 ≠ p := fun e => by rw [e, upd_same] at hp1; cases hp1
    have hp1' : H p1 = none := by rw [upd_ne np] at hp1; exact hp1
    have nx : x ≠ p := ne_of_none hx hp
    have nx1 : x ≠ p1 := ne_of_none hx hp1'
    have hl2 := sub_len (asc_sub cs)
    refine join_goW (cs := asc cs) sq_upd (by omega) fun ys e => ?_
    rw [e]
    refine ⟨_, _, _, by rw [upd_ne nx1, upd_ne nx]; exact hx, T.i_SignSet.cl, T.na_SignSet_members, by decide, q _ (fun b o nb e => ?_) ⟨_, upd_same⟩⟩
    rw [upd_ne nb, upd_ne (ne_of_none e hp1'), upd_ne (ne_of_none e hp)]
    exact e
def sp_members (C : Addr) : Sp := fun vs H Q _ => ∃ (x : Addr) (cs : List Nat), vs = [.ref x] ∧ Sgs C H x cs ∧ Q (.str (tx cs)) H
theorem ok_SignSet_members (T : Top K mg) : FnOk P w K mg base CX0 1 T.f_SignSet_members T.fd_SignSet_members ["self"] (sp_members T.c_SignSet) := by
  refine T.F_SignSet_members.ok sc_SignSet_members (fun vs H Q E h => ?_) (fun cdv A outer s H vs Q E hr h => ?_)
  · obtain ⟨x, cs, rfl, _⟩ := h
    rfl
  · obtain ⟨x, cs, rfl, ⟨dx, hx⟩, q⟩ := h
    refine ⟨_, (pss_one (ps_ret (pe_fld (pv 0) rfl))), ?_⟩
    walk_at "rd"
    exact ⟨_, _, _, hx, T.i_SignSet.cl, T.na_SignSet_members, _, mem_lk cs, q⟩
def sp_Mcontains (C : Addr) : Sp := fun vs H Q _ => ∃ (x : Addr) (cs : List Nat) (c : Nat), vs = [.ref x, .str (tx [c])] ∧ Sgs C H x cs ∧ cs.length ≤ 1000 ∧ Q (.bl (decide (c ∈ cs))) H
theorem ok_SignSet_Mcontains (T : Top K mg) : FnOk P w K mg base CX0 1 T.f_SignSet_Mcontains T.fd_SignSet_Mcontains ["self", "sign"] (sp_Mcontains T.c_SignSet) := by
  refine T.F_SignSet_Mcontains.ok sc_SignSet_Mcontains (fun vs H Q E h => ?_) (fun cdv A outer s H vs Q E hr h => ?_)
  · obtain ⟨x, cs, c, rfl, _⟩ := h
    rfl
  · obtain ⟨x, cs, c, rfl, ⟨dx, hx⟩, hl, q⟩ := h
    refine ⟨_, (pss_one (ps_ret (pe_and (pe_cmpR op_eq (pe_callB call_len_str (by rfl) T.b_len PySem.boot_len (pa_cons (pv 1) pa_nil)) pe_int (nomark _)) (pe_one (pe_cmpR op_in_sign (pv 1) (pe_fld (pv 0) rfl) (by rfl)))))), ?_⟩
    walk_at "rd"
    refine ⟨by decide, ?_⟩
    rw [if_pos (by rfl)]
    exact ⟨_, _, _, hx, T.i_SignSet.cl, T.na_SignSet_members, _, mem_lk cs, _, rfl, q⟩
end
end My
namespace My
open PySem L2
local macro_rules | `(tactic| walk_at "rd") => `(tactic| simp only [sFld, tM1, tMake, tProp, tFld, rOwn2, rOwnIn, rOwn1, rSetTx, rSortedTx, sp_Minit, sp_Mcontains, sp_members, tSeq, tNext, tAsg, tOp, tUn, tC, tVar, gName, gSub, tCons, tNil, tCB, tIfS, tIf, tTest, tB, tAnd, tOr, tNot, tAndV, tOrV, tNotV, tRet, tRetN, tDrop, tLst, tTup, tCall, tSl, tNoPart, tPart, tM0, tM1, tBM, tBM0, tYes, tFor_eq, tLc_eq, iList, iRng1, iRng2, iStr, sg_tx, c_empty, rstrip_sign, find_sign, cut_last, cut_to, cut_from, cut_mid, cut_to_lit, cut_from_lit, and_assoc, flat_rep, List.length_replicate, tx_len, tx_eq, tx_app, tx_cps, rI0, rI, rU, rEq, rNe, rIxL, rIxS, rIxT, rSetL, rAppend, rPopAt, rSlS, rSlL, rIn, rMulS, rLtD, rJoin, rLenQ, rListOf,  tRevS, 
  scal, L2.start, List.map_cons, List.map_nil, List.length_cons, List.length_nil, List.replicate, List.cons_append, List.nil_append, List.append_nil,
  List.getElem?_cons_zero, List.getElem?_cons_succ, List.set_cons_zero, List.set_cons_succ, Nat.sub_zero, Nat.reduceSub, Nat.reduceAdd, Nat.zero_add, id_eq, Int.reduceToNat, exists_or,
  V.int.injEq, V.str.injEq, V.bl.injEq, V.ref.injEq, Option.some.injEq, List.cons.injEq, exists_and_left, exists_eq_left', exists_eq_left, exists_eq, exists_eq', and_true, true_and, reduceCtorEq, false_and, and_false, exists_false, false_or, or_false, decide_eq_true_eq, Bool.not_eq_true', decide_eq_false_iff_not, Bool.not_not, Bool.false_eq_true, ↓reduceIte, if_true, if_false])

local macro_rules | `(tactic| walk_at "ne") => `(tactic| first | assumption | (refine Ne.symm ?_; assumption) | exact (ne_of_none (by assumption) (by assumption)) | exact (ne_of_none (by assumption) (by assumption)).symm)
local macro_rules | `(tactic| walk_at "hp") => `(tactic| first | assumption | exact upd_same | exact (upd_ne (by walk_at "ne")).trans (by walk_at "hp"))
local macro_rules | `(tactic| walk_at "st1") => `(tactic| first
  | refine ⟨_, Or.inl (Or.inl (by walk_at "hp")), ?_⟩
  | refine ⟨_, Or.inl (Or.inl (Or.inl (by walk_at "hp"))), ?_⟩
  | refine ⟨_, (show _ = some (HO.lst _) by walk_at "hp"), ?_⟩
  | refine ⟨_, rfl, ?_⟩
  | refine ⟨(rfl : ("str" : String) = "str"), ?_⟩
  | refine ⟨Or.inr ⟨by decide, by decide⟩, ?_⟩
  | refine ⟨⟨by decide, by decide⟩, ?_⟩
  | refine ⟨by decide, ?_⟩
  | refine ⟨by assumption, ?_⟩)
local macro_rules | `(tactic| walk_at "st") => `(tactic| repeat walk_at "st1")
local macro_rules | `(tactic| walk_at "go") => `(tactic| repeat first | walk_at "st1" | walk_at "rd")
section
variable {P : Program} {w : World} {K : PySem.W.Frag} {mg : Str → Option Value} {base : Heap}
theorem made_same {H H' : Hp} {p dp C : Addr} (hp : H p = none) (hd : H dp = none) (b : But p (upd (upd H dp (.own p)) p (.ins C dp [])) H') : Same H H' := fun b' o e =>
  b b' o (ne_of_none e hp) (by rw [upd_ne (ne_of_none e hp), upd_ne (ne_of_none e hd)]; exact e)
theorem same_new {H : Hp} {D : Addr} {o : HO} (h : H D = none) : Same H (upd H D o) := fun b u e => by rw [upd_ne (ne_of_none e h)]; exact e
def sp_op2 (C : Addr) (g : List Nat → List Nat → List Nat) : Sp := fun vs H Q _ => ∃ (x y : Addr) (a b : List Nat), vs = [.ref x, .ref y] ∧ Sgs C H x a ∧ Sgs C H y b ∧ a.Sublist SG ∧ b.Sublist SG ∧ ∀ r H', H r = none → Same H H' → Sgs C H' r (g a b) → Q (.ref r) H'
def sp_op1 (C : Addr) (g : List Nat → List Nat) : Sp := fun vs H Q _ => ∃ (x : Addr) (a : List Nat), vs = [.ref x] ∧ Sgs C H x a ∧ a.Sublist SG ∧ ∀ r H', H r = none → Same H H' → Sgs C H' r (g a) → Q (.ref r) H'
theorem ok_SignSet_Mor (T : Top K mg) : FnOk P w K mg base CX0 3 T.f_SignSet_Mor T.fd_SignSet_Mor ["self", "other"] (sp_op2 T.c_SignSet cOr) := by
  refine T.F_SignSet_Mor.ok sc_SignSet_Mor (fun vs H Q E h => ?_) (fun cdv A outer s H vs Q E hr h => ?_)
  · obtain ⟨x, y, a, b, rfl, _⟩ := h
    rfl
  · obtain ⟨x, y, a, b, rfl, ⟨dx, hx⟩, ⟨dy, hy⟩, sa, sb, q⟩ := h
    refine ⟨_, (pss_one (ps_ret (pe_make T.mk_SignSet (ok_SignSet_Minit T) (hr.mono (by decide)) (by rfl) T.g_SignSet T.B_SignSet_Minit .nil pass0 (pa_cons (pe_op op_add_str (pe_fld (pv 0) rfl) (pe_fld (pv 1) rfl)) pa_nil)))), ?_⟩
    have la := sub_len sa
    have lb := sub_len sb
    walk_at "rd"
    refine ⟨_, _, _, hx, T.i_SignSet.cl, T.na_SignSet_members, _, mem_lk a, _, _, _, hy, T.i_SignSet.cl, T.na_SignSet_members, _, mem_lk b, _, rfl, _, rfl, line20 (by rw [tx_len, tx_len]; omega), fun p dp hp hdp ne => ?_⟩
    refine ⟨_, a ++ b, tx_app a b, upd_same, fun c hc => ?_, by rw [List.length_append]; omega, fun H' B S => ?_⟩
    · rcases List.mem_append.mp hc with z | z
      · exact sa.subset z
      · exact sb.subset z
    · rw [asc_app sa sb] at S
      exact q _ _ hp (made_same hp hdp B) S
theorem ok_SignSet_Mand (T : Top K mg) : FnOk P w K mg base CX0 3 T.f_SignSet_Mand T.fd_SignSet_Mand ["self", "other"] (sp_op2 T.c_SignSet cAnd) := by
  refine T.F_SignSet_Mand.ok sc_SignSet_Mand (fun vs H Q E h => ?_) (fun cdv A outer s H vs Q E hr h => ?_)
  · obtain ⟨x, y, a, b, rfl, _⟩ := h
    rfl
  · obtain ⟨x, y, a, b, rfl, ⟨dx, hx⟩, ⟨dy, hy⟩, sa, sb, q⟩ := h
    refine ⟨_, (pss_one (ps_ret (pe_make T.mk_SignSet (ok_SignSet_Minit T) (hr.mono (by decide)) (by rfl) T.g_SignSet T.B_SignSet_Minit .nil pass0 (pa_cons (pe_m1 (r := rJoin K) PySem.F.slot_str_join PySem.F.type_str_join mt_joinQ pe_str (pe_lc (own := [("sign", 2)]) (g := gName 2) (by rfl) sc_SignSet_Mand.nd (pi_str (pe_fld (pv 0) rfl)) (blkOk_by (own := [("sign", 2)]) (N := n_SignSet_Mand) (sc := defScope s_SignSet_Mand) (by decide +kernel)) (fun _ _ _ _ _ => pg_name (i := 2) sc_SignSet_Mand.nd rfl (Or.inl rfl)) (fun _ _ _ _ _ => (pts_one (pt_cmpR (op_ownIn (ok_SignSet_Mcontains T) (hr.mono (by decide)) T.at_SignSet_Mcontains T.fn_SignSet_Mcontains T.B_SignSet_Mcontains pass0) (pv 2) (pv 1) (by rfl)))) (fun _ _ _ _ _ => (pv 2)))) pa_nil)))), ?_⟩
    have la := sub_len sa
    have lb := sub_len sb
    walk_at "rd"
    refine ⟨_, _, _, hx, T.i_SignSet.cl, T.na_SignSet_members, _, mem_lk a, _, rfl, ?_⟩
    refine lcJ_pure (reg_text a) (fun c => decide (c ∈ b)) (fun c => V.str (tx [c])) (line20 (by omega)) (fun _ _ _ => trivial) (fun c D acc Q _ h0 hq => ?_) (fun c D acc Q _ _ h0 hq => ?_) (fun D h0 => ?_)
    · walk_at "rd"
      refine ⟨_, _, same_new h0 _ _ hy, b, ⟨_, same_new h0 _ _ hy⟩, by omega, ?_⟩
      first | (rw [Bool.false_xor]; exact hq) | (rw [Bool.true_xor]; exact hq)
    · walk_at "rd"
      exact hq
    · have hl : (a.filter fun c => decide (c ∈ b)).length ≤ 96 := Nat.le_trans (List.length_filter_le _ _) la
      refine ⟨D, rfl, join_goW (cs := a.filter fun c => decide (c ∈ b)) sq_upd (by omega) fun ys e => fun p dp hp hdp ne => ?_⟩
      refine ⟨_, a.filter fun c => decide (c ∈ b), e, upd_same, fun c hc => sa.subset (List.mem_filter.mp hc).1, by omega, fun H' B S => ?_⟩
      rw [asc_filt sa] at S
      have hp0 : H p = none := by
        have : p ≠ D := fun z => by rw [z, upd_same] at hp; cases hp
        rw [upd_ne this] at hp; exact hp
      exact q _ _ hp0 (fun b o e => made_same hp hdp B b o (same_new h0 b o e)) S
theorem ok_SignSet_Msub (T : Top K mg) : FnOk P w K mg base CX0 3 T.f_SignSet_Msub T.fd_SignSet_Msub ["self", "other"] (sp_op2 T.c_SignSet cSub) := by
  refine T.F_SignSet_Msub.ok sc_SignSet_Msub (fun vs H Q E h => ?_) (fun cdv A outer s H vs Q E hr h => ?_)
  · obtain ⟨x, y, a, b, rfl, _⟩ := h
    rfl
  · obtain ⟨x, y, a, b, rfl, ⟨dx, hx⟩, ⟨dy, hy⟩, sa, sb, q⟩ := h
    refine ⟨_, (pss_one (ps_ret (pe_make T.mk_SignSet (ok_SignSet_Minit T) (hr.mono (by decide)) (by rfl) T.g_SignSet T.B_SignSet_Minit .nil pass0 (pa_cons (pe_m1 (r := rJoin K) PySem.F.slot_str_join PySem.F.type_str_join mt_joinQ pe_str (pe_lc (own := [("sign", 2)]) (g := gName 2) (by rfl) sc_SignSet_Msub.nd (pi_str (pe_fld (pv 0) rfl)) (blkOk_by (own := [("sign", 2)]) (N := n_SignSet_Msub) (sc := defScope s_SignSet_Msub) (by decide +kernel)) (fun _ _ _ _ _ => pg_name (i := 2) sc_SignSet_Msub.nd rfl (Or.inl rfl)) (fun _ _ _ _ _ => (pts_one (pt_cmpR (op_ownNotIn (ok_SignSet_Mcontains T) (hr.mono (by decide)) T.at_SignSet_Mcontains T.fn_SignSet_Mcontains T.B_SignSet_Mcontains pass0) (pv 2) (pv 1) (by rfl)))) (fun _ _ _ _ _ => (pv 2)))) pa_nil)))), ?_⟩
    have la := sub_len sa
    have lb := sub_len sb
    walk_at "rd"
    refine ⟨_, _, _, hx, T.i_SignSet.cl, T.na_SignSet_members, _, mem_lk a, _, rfl, ?_⟩
    refine lcJ_pure (reg_text a) (fun c => !decide (c ∈ b)) (fun c => V.str (tx [c])) (line20 (by omega)) (fun _ _ _ => trivial) (fun c D acc Q _ h0 hq => ?_) (fun c D acc Q _ _ h0 hq => ?_) (fun D h0 => ?_)
    · walk_at "rd"
      refine ⟨_, _, same_new h0 _ _ hy, b, ⟨_, same_new h0 _ _ hy⟩, by omega, ?_⟩
      first | (rw [Bool.false_xor]; exact hq) | (rw [Bool.true_xor]; exact hq)
    · walk_at "rd"
      exact hq
    · have hl : (a.filter fun c => !decide (c ∈ b)).length ≤ 96 := Nat.le_trans (List.length_filter_le _ _) la
      refine ⟨D, rfl, join_goW (cs := a.filter fun c => !decide (c ∈ b)) sq_upd (by omega) fun ys e => fun p dp hp hdp ne => ?_⟩
      refine ⟨_, a.filter fun c => !decide (c ∈ b), e, upd_same, fun c hc => sa.subset (List.mem_filter.mp hc).1, by omega, fun H' B S => ?_⟩
      rw [asc_filt sa] at S
      have hp0 : H p = none := by
        have : p ≠ D := fun z => by rw [z, upd_same] at hp; cases hp
        rw [upd_ne this] at hp; exact hp
      exact q _ _ hp0 (fun b o e => made_same hp hdp B b o (same_new h0 b o e)) S
theorem ok_SignSet_Minvert (T : Top K mg) : FnOk P w K mg base CX0 3 T.f_SignSet_Minvert T.fd_SignSet_Minvert ["self"] (sp_op1 T.c_SignSet cNot) := by
  refine T.F_SignSet_Minvert.ok sc_SignSet_Minvert (fun vs H Q E h => ?_) (fun cdv A outer s H vs Q E hr h => ?_)
  · obtain ⟨x, a, rfl, _⟩ := h
    rfl
  · obtain ⟨x, a, rfl, ⟨dx, hx⟩, sa, q⟩ := h
    refine ⟨_, (pss_one (ps_ret (pe_make T.mk_SignSet (ok_SignSet_Minit T) (hr.mono (by decide)) (by rfl) T.g_SignSet T.B_SignSet_Minit .nil pass0 (pa_cons (pe_m1 (r := rJoin K) PySem.F.slot_str_join PySem.F.type_str_join mt_joinQ pe_str (pe_lc (own := [("sign", 1)]) (g := gName 1) (by rfl) sc_SignSet_Minvert.nd (pi_str (pe_glob (v := .str _) rfl T.g_SIGNS ⟨_, rfl⟩)) (blkOk_by (own := [("sign", 1)]) (N := n_SignSet_Minvert) (sc := defScope s_SignSet_Minvert) (by decide +kernel)) (fun _ _ _ _ _ => pg_name (i := 1) sc_SignSet_Minvert.nd rfl (Or.inl rfl)) (fun _ _ _ _ _ => (pts_one (pt_cmpR (op_ownNotIn (ok_SignSet_Mcontains T) (hr.mono (by decide)) T.at_SignSet_Mcontains T.fn_SignSet_Mcontains T.B_SignSet_Mcontains pass0) (pv 1) (pv 0) (by rfl)))) (fun _ _ _ _ _ => (pv 1)))) pa_nil)))), ?_⟩
    have la := sub_len sa
    walk_at "rd"
    refine lcJ_pure (reg_text SG) (fun c => !decide (c ∈ a)) (fun c => V.str (tx [c])) (line20 (by rw [SG_len]; decide)) (fun _ _ _ => trivial) (fun c D acc Q _ h0 hq => ?_) (fun c D acc Q _ _ h0 hq => ?_) (fun D h0 => ?_)
    · walk_at "rd"
      refine ⟨_, _, same_new h0 _ _ hx, a, ⟨_, same_new h0 _ _ hx⟩, by omega, ?_⟩
      rw [Bool.true_xor]
      exact hq
    · walk_at "rd"
      exact hq
    · have hl : (SG.filter fun c => !decide (c ∈ a)).length ≤ 96 := Nat.le_trans (List.length_filter_le _ _) (by rw [SG_len]; decide)
      refine ⟨D, rfl, join_goW (cs := SG.filter fun c => !decide (c ∈ a)) sq_upd (by omega) fun ys e => fun p dp hp hdp ne => ?_⟩
      refine ⟨_, SG.filter fun c => !decide (c ∈ a), e, upd_same, fun c hc => (List.mem_filter.mp hc).1, by omega, fun H' B S => ?_⟩
      rw [asc_filtS] at S
      have hp0 : H p = none := by
        have : p ≠ D := fun z => by rw [z, upd_same] at hp; cases hp
        rw [upd_ne this] at hp; exact hp
      exact q _ _ hp0 (fun b o e => made_same hp hdp B b o (same_new h0 b o e)) S
end
end My
namespace My
open PySem L2
local macro_rules | `(tactic| walk_at "rd") => `(tactic| simp only [sFld, tM1, tMake, tProp, tFld, rOwn2, rOwnIn, rOwn1, rSetTx, rSortedTx, sp_Minit, sp_Mcontains, sp_members, sp_op2, sp_op1, sp_Lnext, sp_Lsigns, sp_Lsubset, tSeq, tNext, tAsg, tOp, tUn, tC, tVar, gName, gSub, tCons, tNil, tCB, tIfS, tIf, tTest, tB, tAnd, tOr, tNot, tAndV, tOrV, tNotV, tRet, tRetN, tDrop, tLst, tTup, tCall, tSl, tNoPart, tPart, tM0, tM1, tBM, tBM0, tYes, tFor_eq, tLc_eq, iList, iRng1, iRng2, iStr, sg_tx, c_empty, rstrip_sign, find_sign, cut_last, cut_to, cut_from, cut_mid, cut_to_lit, cut_from_lit, and_assoc, flat_rep, List.length_replicate, tx_len, tx_eq, tx_app, tx_cps, rI0, rI, rU, rEq, rNe, rIxL, rIxS, rIxT, rSetL, rAppend, rPopAt, rSlS, rSlL, rIn, rMulS, rLtD, rJoin, rLenQ, rListOf,  tRevS, 
  scal, L2.start, List.map_cons, List.map_nil, List.length_cons, List.length_nil, List.replicate, List.cons_append, List.nil_append, List.append_nil,
  List.getElem?_cons_zero, List.getElem?_cons_succ, List.set_cons_zero, List.set_cons_succ, Nat.sub_zero, Nat.reduceSub, Nat.reduceAdd, Nat.zero_add, id_eq, Int.reduceToNat, exists_or,
  V.int.injEq, V.str.injEq, V.bl.injEq, V.ref.injEq, Option.some.injEq, List.cons.injEq, exists_and_left, exists_eq_left', exists_eq_left, exists_eq, exists_eq', and_true, true_and, reduceCtorEq, false_and, and_false, exists_false, false_or, or_false, decide_eq_true_eq, Bool.not_eq_true', decide_eq_false_iff_not, Bool.not_not, Bool.false_eq_true, ↓reduceIte, if_true, if_false])

local macro_rules | `(tactic| walk_at "ne") => `(tactic| first | assumption | (refine Ne.symm ?_; assumption) | exact (ne_of_none (by assumption) (by assumption)) | exact (ne_of_none (by assumption) (by assumption)).symm)
local macro_rules | `(tactic| walk_at "hp") => `(tactic| first | assumption | exact upd_same | exact (upd_ne (by walk_at "ne")).trans (by walk_at "hp"))
local macro_rules | `(tactic| walk_at "st1") => `(tactic| first
  | refine ⟨_, Or.inl (Or.inl (by walk_at "hp")), ?_⟩
  | refine ⟨_, Or.inl (Or.inl (Or.inl (by walk_at "hp"))), ?_⟩
  | refine ⟨_, (show _ = some (HO.lst _) by walk_at "hp"), ?_⟩
  | refine ⟨_, rfl, ?_⟩
  | refine ⟨(rfl : ("str" : String) = "str"), ?_⟩
  | refine ⟨Or.inr ⟨by decide, by decide⟩, ?_⟩
  | refine ⟨⟨by decide, by decide⟩, ?_⟩
  | refine ⟨by decide, ?_⟩
  | refine ⟨by assumption, ?_⟩)
local macro_rules | `(tactic| walk_at "st") => `(tactic| repeat walk_at "st1")
local macro_rules | `(tactic| walk_at "go") => `(tactic| repeat first | walk_at "st1" | walk_at "rd")
section
variable {P : Program} {w : World} {K : PySem.W.Frag} {mg : Str → Option Value} {base : Heap}
theorem isi_own {K : PySem.W.Frag} {H : Hp} {Q : VK} {C x dx : Addr} {fs : List (Str × V)} (c : C8.InsC K C) (hx : H x = some (.ins C dx fs)) (q : Q (.bl true) H) : rIsi K [.ref x, .ref C] H Q :=
  ⟨.ref x, .ref C, .ref C, .ref C, true, rfl, .own _, .base (TyOf.ins hx c.cl c.ha c.hn c.htk c.hm), c.me, q⟩
def comb (op : Int) (a b : List Nat) : List Nat := if op = 0 then cOr a b else if op = 1 then cAnd a b else if op = 2 then cSub a b else cNot a
theorem comb_sub (op : Int) (a b : List Nat) : (comb op a b).Sublist SG := by
  unfold comb
  split
  · exact List.filter_sublist
  split
  · exact List.filter_sublist
  split
  · exact List.filter_sublist
  · exact List.filter_sublist
def sp_Lcombined : Sp := fun vs H Q _ => ∃ (op : Int) (a b : List Nat), vs = [.int op, .str (tx a), .str (tx b)] ∧ ∀ H', Same H H' → Q (.str (tx (comb op a b))) H'
theorem ok_Lcombined (T : Top K mg) : FnOk P w K mg base CX0 2 T.f_Lcombined T.fd_Lcombined ["_law_op", "_law_one", "_law_two"] sp_Lcombined := by
  refine T.F_Lcombined.ok sc_Lcombined (fun vs H Q E h => ?_) (fun cdv A outer s H vs Q E hr h => ?_)
  · obtain ⟨op, a, b, rfl, _⟩ := h
    rfl
  · obtain ⟨op, a, b, rfl, q⟩ := h
    refine ⟨_, (pss_cons (ps_set (i := 3) sc_Lcombined.nd rfl (Or.inl rfl) (pe_call0 (ok_Lsigns T) (hr.mono (by decide)) (by rfl) T.g_Lsigns T.F_Lsigns.kp T.B_Lsigns .nil pass0))
       (pss_cons (ps_if (pt_cmpR op_eq (pv 0) pe_int (nomark _)) (pss_one (ps_ret (pe_m1 (r := rJoin K) PySem.F.slot_str_join PySem.F.type_str_join mt_joinQ pe_str (pe_lc (own := [("_law_sign", 4)]) (g := gName 4) (by rfl) sc_Lcombined.nd (pi_str (pv 3)) (blkOk_by (own := [("_law_sign", 4)]) (N := n_Lcombined) (sc := defScope s_Lcombined) (by decide +kernel)) (fun _ _ _ _ _ => pg_name (i := 4) sc_Lcombined.nd rfl (Or.inl rfl)) (fun _ _ _ _ _ => (pts_one (PW.pt (pw_or (pt_cmpR op_in_sign (pv 4) (pv 1) (by rfl)) (pw_or1 (pt_cmpR op_in_sign (pv 4) (pv 2) (by rfl))))))) (fun _ _ _ _ _ => (pv 4)))))) pss_nil)
       (pss_cons (ps_if (pt_cmpR op_eq (pv 0) pe_int (nomark _)) (pss_one (ps_ret (pe_m1 (r := rJoin K) PySem.F.slot_str_join PySem.F.type_str_join mt_joinQ pe_str (pe_lc (own := [("_law_sign", 4)]) (g := gName 4) (by rfl) sc_Lcombined.nd (pi_str (pv 3)) (blkOk_by (own := [("_law_sign", 4)]) (N := n_Lcombined) (sc := defScope s_Lcombined) (by decide +kernel)) (fun _ _ _ _ _ => pg_name (i := 4) sc_Lcombined.nd rfl (Or.inl rfl)) (fun _ _ _ _ _ => (pts_one (PW.pt (pw_and (pt_cmpR op_in_sign (pv 4) (pv 1) (by rfl)) (pw_and1 (pt_cmpR op_in_sign (pv 4) (pv 2) (by rfl))))))) (fun _ _ _ _ _ => (pv 4)))))) pss_nil)
       (pss_cons (ps_if (pt_cmpR op_eq (pv 0) pe_int (nomark _)) (pss_one (ps_ret (pe_m1 (r := rJoin K) PySem.F.slot_str_join PySem.F.type_str_join mt_joinQ pe_str (pe_lc (own := [("_law_sign", 4)]) (g := gName 4) (by rfl) sc_Lcombined.nd (pi_str (pv 3)) (blkOk_by (own := [("_law_sign", 4)]) (N := n_Lcombined) (sc := defScope s_Lcombined) (by decide +kernel)) (fun _ _ _ _ _ => pg_name (i := 4) sc_Lcombined.nd rfl (Or.inl rfl)) (fun _ _ _ _ _ => (pts_one (PW.pt (pw_and (pt_cmpR op_in_sign (pv 4) (pv 1) (by rfl)) (pw_and1 (pt_cmpR op_notIn_sign (pv 4) (pv 2) (by rfl))))))) (fun _ _ _ _ _ => (pv 4)))))) pss_nil)
       (pss_one (ps_ret (pe_m1 (r := rJoin K) PySem.F.slot_str_join PySem.F.type_str_join mt_joinQ pe_str (pe_lc (own := [("_law_sign", 4)]) (g := gName 4) (by rfl) sc_Lcombined.nd (pi_str (pv 3)) (blkOk_by (own := [("_law_sign", 4)]) (N := n_Lcombined) (sc := defScope s_Lcombined) (by decide +kernel)) (fun _ _ _ _ _ => pg_name (i := 4) sc_Lcombined.nd rfl (Or.inl rfl)) (fun _ _ _ _ _ => (pts_one (pt_cmpR op_notIn_sign (pv 4) (pv 1) (by rfl)))) (fun _ _ _ _ _ => (pv 4)))))))))), ?_⟩
    have lS : SG.length ≤ sizeLine := line20 (by rw [SG_len]; decide)
    walk_at "rd"
    unfold comb at q
    split
    · rename_i h0
      rw [if_pos h0] at q
      refine lcJ_pure (reg_text SG) (fun c => decide (c ∈ a) || decide (c ∈ b)) (fun c => V.str (tx [c])) lS (fun _ _ _ => trivial) (fun c D acc Q _ h0 hq => ?_) (fun c D acc Q _ _ h0 hq => ?_) (fun D h0 => ?_)
      · walk_at "rd"
        refine ite2 (fun hc => ?_) (fun hc => ?_)
        · have hc2 := decide_eq_true (show c ∈ a from hc)
          simp only [hc2, Bool.true_or, Bool.true_and, Bool.false_and, Bool.false_or] at hq
          exact hq
        · have hc2 := decide_eq_false (show ¬ c ∈ a from hc)
          simp only [hc2, Bool.true_or, Bool.true_and, Bool.false_and, Bool.false_or] at hq
          exact hq
      · walk_at "rd"
        exact hq
      · exact ⟨D, rfl, join_go sq_upd (by have := (sub_len (List.filter_sublist (l := SG) (p := fun c => decide (c ∈ a) || decide (c ∈ b)))); omega) (q _ (same_new h0))⟩
    · rename_i h0
      rw [if_neg h0] at q
      split
      · rename_i h1
        rw [if_pos h1] at q
        refine lcJ_pure (reg_text SG) (fun c => decide (c ∈ a) && decide (c ∈ b)) (fun c => V.str (tx [c])) lS (fun _ _ _ => trivial) (fun c D acc Q _ h0 hq => ?_) (fun c D acc Q _ _ h0 hq => ?_) (fun D h0 => ?_)
        · walk_at "rd"
          refine ite2 (fun hc => ?_) (fun hc => ?_)
          · have hc2 := decide_eq_true (show c ∈ a from hc)
            simp only [hc2, Bool.true_or, Bool.true_and, Bool.false_and, Bool.false_or] at hq
            exact hq
          · have hc2 := decide_eq_false (show ¬ c ∈ a from hc)
            simp only [hc2, Bool.true_or, Bool.true_and, Bool.false_and, Bool.false_or] at hq
            exact hq
        · walk_at "rd"
          exact hq
        · exact ⟨D, rfl, join_go sq_upd (by have := (sub_len (List.filter_sublist (l := SG) (p := fun c => decide (c ∈ a) && decide (c ∈ b)))); omega) (q _ (same_new h0))⟩
      · rename_i h1
        rw [if_neg h1] at q
        split
        · rename_i h2
          rw [if_pos h2] at q
          refine lcJ_pure (reg_text SG) (fun c => decide (c ∈ a) && !decide (c ∈ b)) (fun c => V.str (tx [c])) lS (fun _ _ _ => trivial) (fun c D acc Q _ h0 hq => ?_) (fun c D acc Q _ _ h0 hq => ?_) (fun D h0 => ?_)
          · walk_at "rd"
            refine ite2 (fun hc => ?_) (fun hc => ?_)
            · have hc2 := decide_eq_true (show c ∈ a from hc)
              simp only [hc2, Bool.true_or, Bool.true_and, Bool.false_and, Bool.false_or] at hq
              exact hq
            · have hc2 := decide_eq_false (show ¬ c ∈ a from hc)
              simp only [hc2, Bool.true_or, Bool.true_and, Bool.false_and, Bool.false_or] at hq
              exact hq
          · walk_at "rd"
            exact hq
          · exact ⟨D, rfl, join_go sq_upd (by have := (sub_len (List.filter_sublist (l := SG) (p := fun c => decide (c ∈ a) && !decide (c ∈ b)))); omega) (q _ (same_new h0))⟩
        · rename_i h2
          rw [if_neg h2] at q
          refine lcJ_pure (reg_text SG) (fun c => !decide (c ∈ a)) (fun c => V.str (tx [c])) lS (fun _ _ _ => trivial) (fun c D acc Q _ h0 hq => ?_) (fun c D acc Q _ _ h0 hq => ?_) (fun D h0 => ?_)
          · walk_at "rd"
            exact hq
          · walk_at "rd"
            exact hq
          · exact ⟨D, rfl, join_go sq_upd (by have := (sub_len (List.filter_sublist (l := SG) (p := fun c => !decide (c ∈ a)))); omega) (q _ (same_new h0))⟩
def sp_Lspelt : Sp := fun vs H Q _ => ∃ (d l : Addr) (m : List Nat), vs = [.ref d, .str (tx m)] ∧ Drw H d l ∧ m.length ≤ 96 ∧ ∀ (cs : List Nat) (H' : Hp), (∀ c, c ∈ cs ↔ c ∈ m) → cs.length ≤ 300 → Drw H' d l → But d H H' → Q (.str (tx cs)) H'
theorem ok_Lspelt (T : Top K mg) : FnOk P w K mg base CX0 2 T.f_Lspelt T.fd_Lspelt ["_law_draw_here", "_law_members"] sp_Lspelt := by
  refine T.F_Lspelt.ok sc_Lspelt (fun vs H Q E h => ?_) (fun cdv A outer s H vs Q E hr h => ?_)
  · obtain ⟨d, l, m, rfl, _⟩ := h
    rfl
  · obtain ⟨d, l, m, rfl, hD, hl, q⟩ := h
    refine ⟨_, (pss_cons (ps_set (i := 2) sc_Lspelt.nd rfl (Or.inl rfl) (pe_call (ok_Lnext T) (hr.mono (by decide)) (by rfl) T.g_Lnext T.F_Lnext.kp T.B_Lnext .nil pass0 (pa_cons (pv 0) (pa_cons pe_int pa_nil))))
       (pss_cons (ps_if (pt_cmpR op_eq (pv 2) pe_int (nomark _)) (pss_one (ps_ret (pv 1))) pss_nil)
       (pss_cons (ps_if (pt_cmpR op_eq (pv 2) pe_int (nomark _)) (pss_one (ps_ret (pe_revS (pv 1)))) pss_nil)
       (pss_one (ps_ret (pe_op op_add_str (pe_op op_add_str (pe_slice sl_str (pv 1) (po_some pe_int) po_none) (pv 1)) (pe_slice sl_str (pv 1) po_none (po_some pe_int)))))))), ?_⟩
    have lm : m.length ≤ sizeLine := line20 (by omega)
    walk_at "rd"
    refine ⟨l, hD, by decide, fun r H1 r0 r1 D1 B1 => ?_⟩
    split
    · exact q _ _ (fun _ => Iff.rfl) (by omega) D1 B1
    · split
      · exact ⟨lm, q _ _ (fun c => List.mem_reverse) (by rw [List.length_reverse]; omega) D1 B1⟩
      · rw [cut_from_lit, cut_to_lit, tx_app, tx_app, tx_len, tx_len, tx_len]
        have l1 : (m.drop 1).length ≤ 96 := by rw [List.length_drop]; omega
        have l3 : (m.take 3).length ≤ 96 := by rw [List.length_take]; omega
        have l2 : (m.drop 1 ++ m).length ≤ 192 := by rw [List.length_append]; omega
        refine ⟨lm, line20 (by simp only [List.length_append, List.length_drop]; omega), lm, line20 (by simp only [List.length_append, List.length_drop, List.length_take]; omega), q _ _ (fun c => ?_) (by simp only [List.length_append, List.length_drop, List.length_take]; omega) D1 B1⟩
        rw [List.mem_append, List.mem_append]
        constructor
        · rintro ((z | z) | z)
          · exact List.mem_of_mem_drop z
          · exact z
          · exact List.mem_of_mem_take z
        · exact fun z => .inl (.inr z)
def sp_Lcarried_out (C : Addr) : Sp := fun vs H Q _ => ∃ (op : Int) (x y : Addr) (a b : List Nat), vs = [.int op, .ref x, .ref y] ∧ Sgs C H x a ∧ Sgs C H y b ∧ a.Sublist SG ∧ b.Sublist SG ∧ ∀ r H', H r = none → Same H H' → Sgs C H' r (comb op a b) → Q (.ref r) H'
theorem ok_Lcarried_out (T : Top K mg) : FnOk P w K mg base CX0 4 T.f_Lcarried_out T.fd_Lcarried_out ["_law_op", "_law_one", "_law_two"] (sp_Lcarried_out T.c_SignSet) := by
  refine T.F_Lcarried_out.ok sc_Lcarried_out (fun vs H Q E h => ?_) (fun cdv A outer s H vs Q E hr h => ?_)
  · obtain ⟨op, x, y, a, b, rfl, _⟩ := h
    rfl
  · obtain ⟨op, x, y, a, b, rfl, hx, hy, sa, sb, q⟩ := h
    refine ⟨_, (pss_cons (ps_if (pt_cmpR op_eq (pv 0) pe_int (nomark _)) (pss_one (ps_ret (pe_op (op_own (ok_SignSet_Mor T) (hr.mono (by decide)) T.sf_SignSet T.at_SignSet_Mor T.fn_SignSet_Mor T.B_SignSet_Mor pass0) (pv 1) (pv 2)))) pss_nil)
       (pss_cons (ps_if (pt_cmpR op_eq (pv 0) pe_int (nomark _)) (pss_one (ps_ret (pe_op (op_own (ok_SignSet_Mand T) (hr.mono (by decide)) T.sf_SignSet T.at_SignSet_Mand T.fn_SignSet_Mand T.B_SignSet_Mand pass0) (pv 1) (pv 2)))) pss_nil)
       (pss_cons (ps_if (pt_cmpR op_eq (pv 0) pe_int (nomark _)) (pss_one (ps_ret (pe_op (op_own (ok_SignSet_Msub T) (hr.mono (by decide)) T.sf_SignSet T.at_SignSet_Msub T.fn_SignSet_Msub T.B_SignSet_Msub pass0) (pv 1) (pv 2)))) pss_nil)
       (pss_one (ps_ret (pe_un (un_ownInv (ok_SignSet_Minvert T) (hr.mono (by decide)) T.at_SignSet_Minvert T.fn_SignSet_Minvert T.B_SignSet_Minvert pass0) (pv 1))))))), ?_⟩
    walk_at "rd"
    obtain ⟨dx, hx'⟩ := id hx
    obtain ⟨dy, hy'⟩ := id hy
    unfold comb at q
    split
    · rename_i h0
      simp only [if_pos h0] at q
      exact ⟨_, _, hx', _, _, hy', a, hx, b, hy, sa, sb, q⟩
    · rename_i h0
      split
      · rename_i h1
        simp only [if_neg h0, if_pos h1] at q
        exact ⟨_, _, hx', _, _, hy', a, hx, b, hy, sa, sb, q⟩
      · rename_i h1
        split
        · rename_i h2
          simp only [if_neg h0, if_neg h1, if_pos h2] at q
          exact ⟨_, _, hx', _, _, hy', a, hx, b, hy, sa, sb, q⟩
        · rename_i h2
          simp only [if_neg h0, if_neg h1, if_neg h2] at q
          exact ⟨_, _, hx', a, hx, sa, q⟩
def sp_Lis (C : Addr) : Sp := fun vs H Q _ => ∃ (x : Addr) (a : List Nat), vs = [.ref x, .str (tx a)] ∧ Sgs C H x a ∧ a.Sublist SG ∧ Q (.bl true) H
theorem ok_Lis (T : Top K mg) : FnOk P w K mg base CX0 3 T.f_Lis T.fd_Lis ["_law_found", "_law_due"] (sp_Lis T.c_SignSet) := by
  refine T.F_Lis.ok sc_Lis (fun vs H Q E h => ?_) (fun cdv A outer s H vs Q E hr h => ?_)
  · obtain ⟨x, a, rfl, _⟩ := h
    rfl
  · obtain ⟨x, a, rfl, ⟨dx, hx⟩, sa, q⟩ := h
    refine ⟨_, (pss_cons (ps_if (PW.pt (pw_or (pt_not (pt_val (pe_callB (r := rIsi K) call_isi (by rfl) T.b_isinstance (by decide +kernel) (pa_cons (pv 0) (pa_cons (pe_glob (v := .ref T.c_SignSet) rfl T.g_SignSet rfl) pa_nil))))) (pw_or (pt_not (pt_val (pe_callB (r := rIsi K) call_isi (by rfl) T.b_isinstance (by decide +kernel) (pa_cons (pe_prop (pv 0) T.i_SignSet.cl T.pr_SignSet_members (ok_SignSet_members T) (hr.mono (by decide)) T.B_SignSet_members .nil pass0 rfl) (pa_cons (pe_bltn (v := .ty "str") (u := .type "str") (by rfl) T.b_str (by decide +kernel) rfl) pa_nil))))) (pw_or1 (pt_cmpR op_ne (pe_prop (pv 0) T.i_SignSet.cl T.pr_SignSet_members (ok_SignSet_members T) (hr.mono (by decide)) T.B_SignSet_members .nil pass0 rfl) (pv 1) (nomark _)))))) (pss_one (ps_ret pe_bl)) pss_nil)
       (pss_cons (ps_for PassesOwn.never rfl (pi_str (pe_call0 (ok_Lsigns T) (hr.mono (by decide)) (by rfl) T.g_Lsigns T.F_Lsigns.kp T.B_Lsigns .nil pass0)) (pg_name (i := 2) sc_Lis.nd rfl (Or.inl rfl))
       (pss_one (ps_if (pt_cmpR op_ne (pe_cmpR (op_ownIn (ok_SignSet_Mcontains T) (hr.mono (by decide)) T.at_SignSet_Mcontains T.fn_SignSet_Mcontains T.B_SignSet_Mcontains pass0) (pv 2) (pv 0) (by rfl)) (pe_cmpR op_in_sign (pv 2) (pv 1) (by rfl)) (nomark _)) (pss_one (ps_ret pe_bl)) pss_nil)))
       (pss_one (ps_ret pe_bl)))), ?_⟩
    have la := sub_len sa
    walk_at "rd"
    refine isi_own T.i_SignSet hx ?_
    walk_at "rd"
    refine ⟨_, _, hx, a, ⟨_, hx⟩, isi_str_str ?_⟩
    walk_at "rd"
    refine ⟨_, _, hx, a, ⟨_, hx⟩, ?_⟩
    rw [if_neg (not_not_intro rfl)]
    obtain ⟨Pv, hP⟩ : ∃ Pv : Nat → L2.St → Hp → Prop, ∀ i σ H', Pv i σ H' ↔ ∃ (v : Option V), σ = [some (V.ref x), some (V.str (tx a)), v] ∧ H' = H := ⟨_, fun _ _ _ => Iff.rfl⟩
    refine forJ_by (reg_text SG) Pv (fun _ _ _ _ => trivial) ?_ ?_ ?_
    · exact (hP _ _ _).mpr ⟨_, rfl, rfl⟩
    · intro i c σ H' hi h
      obtain ⟨v, rfl, rfl⟩ := (hP _ _ _).mp h
      walk_at "rd"
      refine ⟨_, _, hx, a, ⟨_, hx⟩, by omega, ?_⟩
      rw [Bool.false_xor]
      exact ite2 (fun h => absurd rfl h) fun _ => (hP _ _ _).mpr ⟨_, rfl, rfl⟩
    · intro σ H' h
      obtain ⟨v, rfl, rfl⟩ := (hP _ _ _).mp h
      walk_at "rd"
      exact q
end
end My
namespace My
open PySem L2
local macro_rules | `(tactic| walk_at "rd") => `(tactic| simp only [sFld, tM1, tMake, tProp, tFld, rOwn2, rOwnIn, rOwn1, rSetTx, rSortedTx, sp_Minit, sp_Mcontains, sp_members, sp_op2, sp_op1, sp_Lnext, sp_Lsigns, sp_Lsubset, tSeq, tNext, tAsg, tOp, tUn, tC, tVar, gName, gSub, tCons, tNil, tCB, tIfS, tIf, tTest, tB, tAnd, tOr, tNot, tAndV, tOrV, tNotV, tRet, tRetN, tDrop, tLst, tTup, tCall, tSl, tNoPart, tPart, tM0, tM1, tBM, tBM0, tYes, tFor_eq, tLc_eq, iList, iRng1, iRng2, iStr, sg_tx, c_empty, rstrip_sign, find_sign, cut_last, cut_to, cut_from, cut_mid, cut_to_lit, cut_from_lit, and_assoc, flat_rep, List.length_replicate, tx_len, tx_eq, tx_app, tx_cps, rI0, rI, rU, rEq, rNe, rIxL, rIxS, rIxT, rSetL, rAppend, rPopAt, rSlS, rSlL, rIn, rMulS, rLtD, rJoin, rLenQ, rListOf,  tRevS, 
  scal, L2.start, List.map_cons, List.map_nil, List.length_cons, List.length_nil, List.replicate, List.cons_append, List.nil_append, List.append_nil,
  List.getElem?_cons_zero, List.getElem?_cons_succ, List.set_cons_zero, List.set_cons_succ, Nat.sub_zero, Nat.reduceSub, Nat.reduceAdd, Nat.zero_add, id_eq, Int.reduceToNat, exists_or,
  V.int.injEq, V.str.injEq, V.bl.injEq, V.ref.injEq, Option.some.injEq, List.cons.injEq, exists_and_left, exists_eq_left', exists_eq_left, exists_eq, exists_eq', and_true, true_and, reduceCtorEq, false_and, and_false, exists_false, false_or, or_false, decide_eq_true_eq, Bool.not_eq_true', decide_eq_false_iff_not, Bool.not_not, Bool.false_eq_true, ↓reduceIte, if_true, if_false])

local macro_rules | `(tactic| walk_at "ne") => `(tactic| first | assumption | (refine Ne.symm ?_; assumption) | exact (ne_of_none (by assumption) (by assumption)) | exact (ne_of_none (by assumption) (by assumption)).symm)
local macro_rules | `(tactic| walk_at "hp") => `(tactic| first | assumption | exact upd_same | exact (upd_ne (by walk_at "ne")).trans (by walk_at "hp"))
local macro_rules | `(tactic| walk_at "st1") => `(tactic| first
  | refine ⟨_, Or.inl (Or.inl (by walk_at "hp")), ?_⟩
  | refine ⟨_, Or.inl (Or.inl (Or.inl (by walk_at "hp"))), ?_⟩
  | refine ⟨_, (show _ = some (HO.lst _) by walk_at "hp"), ?_⟩
  | refine ⟨_, rfl, ?_⟩
  | refine ⟨(rfl : ("str" : String) = "str"), ?_⟩
  | refine ⟨Or.inr ⟨by decide, by decide⟩, ?_⟩
  | refine ⟨⟨by decide, by decide⟩, ?_⟩
  | refine ⟨by decide, ?_⟩
  | refine ⟨by assumption, ?_⟩)
local macro_rules | `(tactic| walk_at "st") => `(tactic| repeat walk_at "st1")
local macro_rules | `(tactic| walk_at "go") => `(tactic| repeat first | walk_at "st1" | walk_at "rd")
section
variable {P : Program} {w : World} {K : PySem.W.Frag} {mg : Str → Option Value} {base : Heap}
def sp_Lnear : Sp := fun vs H Q _ => ∃ (d l : Addr) (f : List Nat), vs = [.ref d, .str (tx f)] ∧ Drw H d l ∧ f.Sublist SG ∧ ∀ (cs : List Nat) (H' : Hp), cs.Sublist SG → Drw H' d l → But d H H' → Q (.str (tx cs)) H'
theorem ok_Lnear (T : Top K mg) : FnOk P w K mg base CX0 3 T.f_Lnear T.fd_Lnear ["_law_draw_here", "_law_first"] sp_Lnear := by
  refine T.F_Lnear.ok sc_Lnear (fun vs H Q E h => ?_) (fun cdv A outer s H vs Q E hr h => ?_)
  · obtain ⟨d, l, f, rfl, _⟩ := h
    rfl
  · obtain ⟨d, l, f, rfl, hD, sf, q⟩ := h
    refine ⟨_, (pss_cons (ps_set (i := 2) sc_Lnear.nd rfl (Or.inl rfl) (pe_call0 (ok_Lsigns T) (hr.mono (by decide)) (by rfl) T.g_Lsigns T.F_Lsigns.kp T.B_Lsigns .nil pass0))
       (pss_cons (ps_set (i := 3) sc_Lnear.nd rfl (Or.inl rfl) (pe_call (ok_Lnext T) (hr.mono (by decide)) (by rfl) T.g_Lnext T.F_Lnext.kp T.B_Lnext .nil pass0 (pa_cons (pv 0) (pa_cons pe_int pa_nil))))
       (pss_cons (ps_set (i := 4) sc_Lnear.nd rfl (Or.inl rfl) (pe_m1 (r := rJoin K) PySem.F.slot_str_join PySem.F.type_str_join mt_joinQ pe_str (pe_lc (own := [("_law_sign", 8)]) (g := gName 8) (by rfl) sc_Lnear.nd (pi_str (pv 2)) (blkOk_by (own := [("_law_sign", 8)]) (N := n_Lnear) (sc := defScope s_Lnear) (by decide +kernel)) (fun _ _ _ _ _ => pg_name (i := 8) sc_Lnear.nd rfl (Or.inl rfl)) (fun _ _ _ _ _ => (pts_one (pt_cmpR op_notIn_sign (pv 8) (pv 1) (by rfl)))) (fun _ _ _ _ _ => (pv 8)))))
       (pss_cons (ps_if (pt_cmpR op_eq (pv 3) pe_int (nomark _)) (pss_one (ps_ret (pv 1))) pss_nil)
       (pss_cons (ps_if (pt_cmpR op_eq (pv 3) pe_int (nomark _)) (pss_one (ps_ret (pv 4))) pss_nil)
       (pss_cons (ps_if (pt_cmpR op_eq (pv 3) pe_int (nomark _)) (pss_cons (ps_set (i := 5) sc_Lnear.nd rfl (Or.inr rfl) (pe_ix ix_str (pv 2) (pe_call (ok_Lnext T) (hr.mono (by decide)) (by rfl) T.g_Lnext T.F_Lnext.kp T.B_Lnext .nil pass0 (pa_cons (pv 0) (pa_cons pe_int pa_nil))) (fun _ _ => rfl)))
       (pss_one (ps_ret (pe_m1 (r := rJoin K) PySem.F.slot_str_join PySem.F.type_str_join mt_joinQ pe_str (pe_lc (own := [("_law_sign", 8)]) (g := gName 8) (by rfl) sc_Lnear.nd (pi_str (pv 2)) (blkOk_by (own := [("_law_sign", 8)]) (N := n_Lnear) (sc := defScope s_Lnear) (by decide +kernel)) (fun _ _ _ _ _ => pg_name (i := 8) sc_Lnear.nd rfl (Or.inl rfl)) (fun _ _ _ _ _ => (pts_one (pt_cmpR op_ne (pe_cmpR op_in_sign (pv 8) (pv 1) (by rfl)) (pe_cmpR op_eq (pv 8) (pv 5) (nomark _)) (nomark _)))) (fun _ _ _ _ _ => (pv 8))))))) pss_nil)
       (pss_cons (ps_if (PW.pt (pw_and (pt_cmpR op_eq (pv 3) pe_int (nomark _)) (pw_and (pt_cmpR op_ne (pv 1) pe_str (nomark _)) (pw_and1 (pt_cmpR op_ne (pv 4) pe_str (nomark _)))))) (pss_cons (ps_set (i := 6) sc_Lnear.nd rfl (Or.inr rfl) (pe_ix ix_str (pv 1) (pe_call (ok_Lnext T) (hr.mono (by decide)) (by rfl) T.g_Lnext T.F_Lnext.kp T.B_Lnext .nil pass0 (pa_cons (pv 0) (pa_cons (pe_callB call_len_str (by rfl) T.b_len PySem.boot_len (pa_cons (pv 1) pa_nil)) pa_nil))) (fun _ _ => rfl)))
       (pss_cons (ps_set (i := 7) sc_Lnear.nd rfl (Or.inr rfl) (pe_ix ix_str (pv 4) (pe_call (ok_Lnext T) (hr.mono (by decide)) (by rfl) T.g_Lnext T.F_Lnext.kp T.B_Lnext .nil pass0 (pa_cons (pv 0) (pa_cons (pe_callB call_len_str (by rfl) T.b_len PySem.boot_len (pa_cons (pv 4) pa_nil)) pa_nil))) (fun _ _ => rfl)))
       (pss_one (ps_ret (pe_m1 (r := rJoin K) PySem.F.slot_str_join PySem.F.type_str_join mt_joinQ pe_str (pe_lc (own := [("_law_sign", 8)]) (g := gName 8) (by rfl) sc_Lnear.nd (pi_str (pv 2)) (blkOk_by (own := [("_law_sign", 8)]) (N := n_Lnear) (sc := defScope s_Lnear) (by decide +kernel)) (fun _ _ _ _ _ => pg_name (i := 8) sc_Lnear.nd rfl (Or.inl rfl)) (fun _ _ _ _ _ => (pts_one (PW.pt (pw_or (pt_cmpR op_eq (pv 8) (pv 7) (nomark _)) (pw_or1 (PW.pt (pw_and (pt_cmpR op_in_sign (pv 8) (pv 1) (by rfl)) (pw_and1 (pt_cmpR op_ne (pv 8) (pv 6) (nomark _)))))))))) (fun _ _ _ _ _ => (pv 8)))))))) pss_nil)
       (pss_cons (ps_if (pt_cmpR op_eq (pv 3) pe_int (nomark _)) (pss_one (ps_ret (pe_m1 (r := rJoin K) PySem.F.slot_str_join PySem.F.type_str_join mt_joinQ pe_str (pe_lc (own := [("_law_sign", 8)]) (g := gName 8) (by rfl) sc_Lnear.nd (pi_str (pv 1)) (blkOk_by (own := [("_law_sign", 8)]) (N := n_Lnear) (sc := defScope s_Lnear) (by decide +kernel)) (fun _ _ _ _ _ => pg_name (i := 8) sc_Lnear.nd rfl (Or.inl rfl)) (fun _ _ _ _ _ => (pts_one (pt_cmpR op_eq (pe_call (ok_Lnext T) (hr.mono (by decide)) (by rfl) T.g_Lnext T.F_Lnext.kp T.B_Lnext .nil pass0 (pa_cons (pv 0) (pa_cons pe_int pa_nil))) pe_int (nomark _)))) (fun _ _ _ _ _ => (pv 8)))))) pss_nil)
       (pss_one (ps_ret (pe_call (ok_Lsubset T) (hr.mono (by decide)) (by rfl) T.g_Lsubset T.F_Lsubset.kp T.B_Lsubset .nil pass0 (pa_cons (pv 0) pa_nil)))))))))))), ?_⟩
    have lS : SG.length ≤ sizeLine := line20 (by rw [SG_len]; decide)
    have lf := sub_len sf
    walk_at "rd"
    refine ⟨l, hD, by decide, fun r0 H1 a0 b0 D1 B1 => ?_⟩
    refine lcJ_pure (reg_text SG) (fun c => !decide (c ∈ f)) (fun c => V.str (tx [c])) lS (fun _ _ _ => trivial) (fun c D acc Q _ h0 hq => ?_) (fun c D acc Q _ _ h0 hq => ?_) (fun D h0 => ?_)
    · walk_at "rd"
      exact hq
    · walk_at "rd"
      exact hq
    · have sr : (SG.filter fun c => !decide (c ∈ f)).Sublist SG := List.filter_sublist
      refine ⟨D, rfl, join_goW sq_upd (by have := sub_len sr; omega) fun ys e => ?_⟩
      rw [e]
      generalize (SG.filter fun c => !decide (c ∈ f)) = rest at sr e ⊢
      have lr := sub_len sr
      have D2 := D1.new h0 (o := .lst (rest.map fun c => V.str (tx [c])))
      have B2 : But d H (upd H1 D (HO.lst (rest.map fun c => V.str (tx [c])))) := B1.new h0
      generalize upd H1 D (HO.lst (rest.map fun c => V.str (tx [c]))) = H2 at D2 B2 ⊢
      refine ite2 (fun _ => q _ _ sf D2 B2) (fun _ => ?_)
      refine ite2 (fun _ => q _ _ sr D2 B2) (fun _ => ?_)
      refine ite2 (fun _ => ⟨l, D2, by decide, fun r H3 a3 b3 D3 B3 => ⟨lS, ?_⟩⟩) (fun _ => ?_)
      · obtain ⟨j, rfl, hj, ej⟩ := atI_pos (s := SG) a3 (by rw [SG_len]; omega)
        refine ⟨_, ej, ?_⟩
        refine lc_draws (by rw [SG_len]; decide) D3 (fun c H Q _ hD' hq => ?_) (fun c H Q _ hq => ?_) (fun D H9 es h0 he D9 B9 eD => ?_)
        · walk_at "rd"
          repeat' (first | exact hq _ _ hD' (But.refl d H) | refine ite2 (fun _ => ?_) (fun _ => ?_))
        · walk_at "rd"
          exact hq
        · exact ⟨D, rfl, join_go (.inl (.inl eD)) (by have := sub_len he; omega) (q _ _ he D9 ((B2.trans B3).trans B9))⟩
      · refine ite2 (fun _ => ?_) (fun _ => ?_)
        · refine ite2 (fun hf => ?_) (fun _ => ?_)
          · refine ite2 (fun hr => ?_) (fun _ => ?_)
            · have hr2 : rest ≠ [] := fun z => hr (by rw [z])
              have f1 : 0 < f.length := List.length_pos_iff.mpr hf
              have r1 : 0 < rest.length := List.length_pos_iff.mpr hr2
              refine ⟨line20 (by omega), l, D2, by omega, fun r H3 a3 b3 D3 B3 => ⟨line20 (by omega), ?_⟩⟩
              obtain ⟨j, rfl, hj, ej⟩ := atI_pos (s := f) a3 b3
              refine ⟨_, ej, ?_⟩
              rw [tx_len, tx_cps]
              refine ⟨line20 (by omega), l, D3, by omega, fun r H4 a4 b4 D4 B4 => ⟨line20 (by omega), ?_⟩⟩
              obtain ⟨k, rfl, hk, ek⟩ := atI_pos (s := rest) a4 b4
              refine ⟨_, ek, ?_⟩
              refine lc_draws (by rw [SG_len]; decide) D4 (fun c H Q _ hD' hq => ?_) (fun c H Q _ hq => ?_) (fun D H9 es h0 he D9 B9 eD => ?_)
              · walk_at "rd"
                repeat' (first | exact hq _ _ hD' (But.refl d H) | refine ite2 (fun _ => ?_) (fun _ => ?_))
              · walk_at "rd"
                exact hq
              · exact ⟨D, rfl, join_go (.inl (.inl eD)) (by have := sub_len he; omega) (q _ _ he D9 (((B2.trans B3).trans B4).trans B9))⟩
            · refine ite2 (fun _ => ?_) (fun _ => ⟨l, D2, fun cs H3 hs D3 B3 => q _ _ hs D3 (B2.trans B3)⟩)
              refine lc_draws (by omega) D2 (fun c H Q _ hD' hq => ?_) (fun c H Q _ hq => ?_) (fun D H3 es h0 he D3 B3 eD => ?_)
              · walk_at "rd"
                exact ⟨l, hD', by decide, fun r H' ra rb hD2 hB => hq _ _ hD2 hB⟩
              · walk_at "rd"
                exact hq
              · exact ⟨D, rfl, join_go (.inl (.inl eD)) (by have := he.length_le; omega) (q _ _ (he.trans sf) D3 (B2.trans B3))⟩
          · refine ite2 (fun _ => ?_) (fun _ => ⟨l, D2, fun cs H3 hs D3 B3 => q _ _ hs D3 (B2.trans B3)⟩)
            refine lc_draws (by omega) D2 (fun c H Q _ hD' hq => ?_) (fun c H Q _ hq => ?_) (fun D H3 es h0 he D3 B3 eD => ?_)
            · walk_at "rd"
              exact ⟨l, hD', by decide, fun r H' ra rb hD2 hB => hq _ _ hD2 hB⟩
            · walk_at "rd"
              exact hq
            · exact ⟨D, rfl, join_go (.inl (.inl eD)) (by have := he.length_le; omega) (q _ _ (he.trans sf) D3 (B2.trans B3))⟩
        · refine ite2 (fun _ => ?_) (fun _ => ⟨l, D2, fun cs H3 hs D3 B3 => q _ _ hs D3 (B2.trans B3)⟩)
          refine lc_draws (by omega) D2 (fun c H Q _ hD' hq => ?_) (fun c H Q _ hq => ?_) (fun D H3 es h0 he D3 B3 eD => ?_)
          · walk_at "rd"
            exact ⟨l, hD', by decide, fun r H' ra rb hD2 hB => hq _ _ hD2 hB⟩
          · walk_at "rd"
            exact hq
          · exact ⟨D, rfl, join_go (.inl (.inl eD)) (by have := he.length_le; omega) (q _ _ (he.trans sf) D3 (B2.trans B3))⟩
end
end My
namespace My
open PySem L2
local macro_rules | `(tactic| walk_at "rd") => `(tactic| simp only [sFld, tM1, tMake, tProp, tFld, rOwn2, rOwnIn, rOwn1, rSetTx, rSortedTx, sp_Minit, sp_Mcontains, sp_members, sp_op2, sp_op1, sp_Lnext, sp_Lsigns, sp_Ldraw, sp_Lsubset, sp_Lnear, sp_Lspelt, sp_Lis, sp_Lcombined, sp_Lcarried_out, tSeq, tNext, tAsg, tOp, tUn, tC, tVar, gName, gSub, tCons, tNil, tCB, tIfS, tIf, tTest, tB, tAnd, tOr, tNot, tAndV, tOrV, tNotV, tRet, tRetN, tDrop, tLst, tTup, tCall, tSl, tNoPart, tPart, tM0, tM1, tBM, tBM0, tYes, tFor_eq, tLc_eq, iList, iRng1, iRng2, iStr, sg_tx, c_empty, rstrip_sign, find_sign, cut_last, cut_to, cut_from, cut_mid, cut_to_lit, cut_from_lit, and_assoc, flat_rep, List.length_replicate, tx_len, tx_eq, tx_app, tx_cps, rI0, rI, rU, rEq, rNe, rIxL, rIxS, rIxT, rSetL, rAppend, rPopAt, rSlS, rSlL, rIn, rMulS, rLtD, rJoin, rLenQ, rListOf,  tRevS, 
  scal, L2.start, List.map_cons, List.map_nil, List.length_cons, List.length_nil, List.replicate, List.cons_append, List.nil_append, List.append_nil,
  List.getElem?_cons_zero, List.getElem?_cons_succ, List.set_cons_zero, List.set_cons_succ, Nat.sub_zero, Nat.reduceSub, Nat.reduceAdd, Nat.zero_add, id_eq, Int.reduceToNat, exists_or,
  V.int.injEq, V.str.injEq, V.bl.injEq, V.ref.injEq, Option.some.injEq, List.cons.injEq, exists_and_left, exists_eq_left', exists_eq_left, exists_eq, exists_eq', and_true, true_and, reduceCtorEq, false_and, and_false, exists_false, false_or, or_false, decide_eq_true_eq, Bool.not_eq_true', decide_eq_false_iff_not, Bool.not_not, Bool.false_eq_true, ↓reduceIte, if_true, if_false])

local macro_rules | `(tactic| walk_at "ne") => `(tactic| first | assumption | (refine Ne.symm ?_; assumption) | exact (ne_of_none (by assumption) (by assumption)) | exact (ne_of_none (by assumption) (by assumption)).symm)
local macro_rules | `(tactic| walk_at "hp") => `(tactic| first | assumption | exact upd_same | exact (upd_ne (by walk_at "ne")).trans (by walk_at "hp"))
local macro_rules | `(tactic| walk_at "st1") => `(tactic| first
  | refine ⟨_, Or.inl (Or.inl (by walk_at "hp")), ?_⟩
  | refine ⟨_, Or.inl (Or.inl (Or.inl (by walk_at "hp"))), ?_⟩
  | refine ⟨_, (show _ = some (HO.lst _) by walk_at "hp"), ?_⟩
  | refine ⟨_, rfl, ?_⟩
  | refine ⟨(rfl : ("str" : String) = "str"), ?_⟩
  | refine ⟨Or.inr ⟨by decide, by decide⟩, ?_⟩
  | refine ⟨⟨by decide, by decide⟩, ?_⟩
  | refine ⟨by decide, ?_⟩
  | refine ⟨by assumption, ?_⟩)
local macro_rules | `(tactic| walk_at "st") => `(tactic| repeat walk_at "st1")
local macro_rules | `(tactic| walk_at "go") => `(tactic| repeat first | walk_at "st1" | walk_at "rd")
section
variable {P : Program} {w : World} {K : PySem.W.Frag} {mg : Str → Option Value} {base : Heap}
theorem Sgs.put {C x D : Addr} {H : Hp} {cs : List Nat} {xs ys : List V} (h : Sgs C H x cs) (hD : H D = some (.lst xs)) : Sgs C (upd H D (.lst ys)) x cs := by
  obtain ⟨dx, e⟩ := h
  have : x ≠ D := fun z => by rw [z, hD] at e; cases e
  exact ⟨dx, by rw [upd_ne this]; exact e⟩
structure Wd (C d l p D x0 x1 x2 : Addr) (f g t : List Nat) (H : Hp) : Prop where
  dr : Drw H d l
  tp : H p = some (.lst [V.str (tx f), V.str (tx g), V.str (tx t)])
  ob : H D = some (.lst [V.ref x0, V.ref x1, V.ref x2])
  s0 : Sgs C H x0 f
  s1 : Sgs C H x1 g
  s2 : Sgs C H x2 t
theorem Sgs.ned {C d l x : Addr} {H : Hp} {cs : List Nat} (h : Sgs C H x cs) (D : Drw H d l) : x ≠ d := by
  obtain ⟨dx, e⟩ := h
  obtain ⟨_, _, _, _, _, e2, _⟩ := D
  intro z
  rw [z, e2] at e
  cases e
theorem Wd.same {C d l p D x0 x1 x2 : Addr} {f g t : List Nat} {H H' : Hp} (w : Wd C d l p D x0 x1 x2 f g t H) (s : Same H H') : Wd C d l p D x0 x1 x2 f g t H' :=
  ⟨w.dr.same s, s _ _ w.tp, s _ _ w.ob, w.s0.at s, w.s1.at s, w.s2.at s⟩
theorem Wd.but {C d l p D x0 x1 x2 : Addr} {f g t : List Nat} {H H' : Hp} (w : Wd C d l p D x0 x1 x2 f g t H) (pd : p ≠ d) (Dd : D ≠ d) (dr : Drw H' d l) (s : But d H H') : Wd C d l p D x0 x1 x2 f g t H' :=
  ⟨dr, s _ _ pd w.tp, s _ _ Dd w.ob, w.s0.but (w.s0.ned w.dr) s, w.s1.but (w.s1.ned w.dr) s, w.s2.but (w.s2.ned w.dr) s⟩
theorem Wd.pick {C d l p D x0 x1 x2 : Addr} {f g t : List Nat} (sf : f.Sublist SG) (sg : g.Sublist SG) (st : t.Sublist SG) {r : Int} (h0 : 0 ≤ r) (h1 : r < 3) :
    ∃ (x : Addr) (c : List Nat), atI [V.ref x0, V.ref x1, V.ref x2] r = some (V.ref x) ∧ atI [V.str (tx f), V.str (tx g), V.str (tx t)] r = some (V.str (tx c)) ∧ c.Sublist SG ∧ ∀ H, Wd C d l p D x0 x1 x2 f g t H → Sgs C H x c := by
  have : r = 0 ∨ r = 1 ∨ r = 2 := by omega
  rcases this with rfl | rfl | rfl
  · exact ⟨x0, f, rfl, rfl, sf, fun H w => w.s0⟩
  · exact ⟨x1, g, rfl, rfl, sg, fun H w => w.s1⟩
  · exact ⟨x2, t, rfl, rfl, st, fun H w => w.s2⟩
theorem cOr_self {f : List Nat} (h : f.Sublist SG) : cOr f f = f := by
  conv => rhs; rw [← asc_self h]
  unfold cOr asc
  simp
theorem cAnd_self {f : List Nat} (h : f.Sublist SG) : cAnd f f = f := by
  conv => rhs; rw [← asc_self h]
  unfold cAnd asc
  simp
theorem cSub_self (f : List Nat) : cSub f f = [] := by
  unfold cSub
  simp
theorem mem3 {α β : Type} {F : α → β} {l : List α} {i : Nat} {y : β} (h : (l.map F)[i]? = some y) : ∃ c, l[i]? = some c ∧ y = F c := by
  rw [List.getElem?_map] at h
  cases e : l[i]? with
  | none => rw [e] at h; cases h
  | some c => rw [e] at h; exact ⟨c, rfl, (Option.some.inj h).symm⟩
def sp_law (K : PySem.W.Frag) : Sp := fun vs H Q _ => ∃ (a : Addr) (ns : List Int), vs = [.ref a] ∧ SqL K H a (ns.map V.int) ∧ ns.length ≤ 63 ∧ ∀ H', Q (.bl true) H'
theorem ok_law (T : Top K mg) : FnOk P w K mg base CX0 5 T.f_law T.fd_law ["_law_script"] (sp_law K) := by
  refine T.F_law.ok sc_law (fun vs H Q E h => ?_) (fun cdv A outer s H vs Q E hr h => ?_)
  · obtain ⟨a, ns, rfl, _⟩ := h
    rfl
  · obtain ⟨a, ns, rfl, hS, hn, q⟩ := h
    refine ⟨_, (pss_cons (ps_set (i := 1) sc_law.nd rfl (Or.inr rfl) (pe_call (ok_Ldraw T) (hr.mono (by decide)) (by rfl) T.g_Ldraw T.F_Ldraw.kp T.B_Ldraw .nil pass0 (pa_cons (pv 0) pa_nil)))
       (pss_cons (ps_set (i := 2) sc_law.nd rfl (Or.inl rfl) (pe_call (ok_Lsubset T) (hr.mono (by decide)) (by rfl) T.g_Lsubset T.F_Lsubset.kp T.B_Lsubset .nil pass0 (pa_cons (pv 1) pa_nil)))
       (pss_cons (ps_set (i := 3) sc_law.nd rfl (Or.inl rfl) (pe_call (ok_Lnear T) (hr.mono (by decide)) (by rfl) T.g_Lnear T.F_Lnear.kp T.B_Lnear .nil pass0 (pa_cons (pv 1) (pa_cons (pv 2) pa_nil))))
       (pss_cons (ps_set (i := 4) sc_law.nd rfl (Or.inl rfl) (pe_call (ok_Lnear T) (hr.mono (by decide)) (by rfl) T.g_Lnear T.F_Lnear.kp T.B_Lnear .nil pass0 (pa_cons (pv 1) (pa_cons (pv 3) pa_nil))))
       (pss_cons (ps_set (i := 5) sc_law.nd rfl (Or.inl rfl) (pe_lst (pa_cons (pv 2) (pa_cons (pv 3) (pa_cons (pv 4) pa_nil)))))
       (pss_cons (ps_setLc (i := 6) (own := [("_law_text", 14)]) (g := gName 14) (by rfl) sc_law.nd rfl rfl (sw_true rfl rfl rfl (by decide +kernel)) (pi_list (pv 5)) (blkOk_by (own := [("_law_text", 14)]) (N := n_law) (sc := defScope s_law) (by decide +kernel)) (fun _ _ _ _ _ => pg_name (i := 14) sc_law.nd rfl (Or.inl rfl)) (fun _ _ _ _ _ => pts_nil) (fun _ _ _ _ _ => (pe_make T.mk_SignSet (ok_SignSet_Minit T) (hr.mono (by decide)) (by rfl) T.g_SignSet T.B_SignSet_Minit .nil pass0 (pa_cons (pe_call (ok_Lspelt T) (hr.mono (by decide)) (by rfl) T.g_Lspelt T.F_Lspelt.kp T.B_Lspelt .nil pass0 (pa_cons (pv 1) (pa_cons (pv 14) pa_nil))) pa_nil))))
       (pss_cons (ps_set (i := 7) sc_law.nd rfl (Or.inl rfl) (pe_ix (r := rIxL K) ix_list (pv 6) pe_int (fun _ _ => rfl)))
       (pss_cons (ps_set (i := 8) sc_law.nd rfl (Or.inl rfl) (pe_ix (r := rIxL K) ix_list (pv 6) pe_int (fun _ _ => rfl)))
       (pss_cons (ps_for PassesOwn.never rfl (pi_range1 rfl T.b_range (pa_cons pe_int pa_nil)) (pg_name (i := 9) sc_law.nd rfl (Or.inl rfl))
       (pss_cons (ps_for PassesOwn.never rfl (pi_range1 rfl T.b_range (pa_cons pe_int pa_nil)) (pg_name (i := 10) sc_law.nd rfl (Or.inl rfl))
       (pss_cons (ps_if (pt_not (pt_val (pe_call (ok_Lis T) (hr.mono (by decide)) (by rfl) T.g_Lis T.F_Lis.kp T.B_Lis .nil pass0 (pa_cons (pe_call (ok_Lcarried_out T) (hr.mono (by decide)) (by rfl) T.g_Lcarried_out T.F_Lcarried_out.kp T.B_Lcarried_out .nil pass0 (pa_cons (pv 10) (pa_cons (pv 7) (pa_cons (pv 8) pa_nil)))) (pa_cons (pe_call (ok_Lcombined T) (hr.mono (by decide)) (by rfl) T.g_Lcombined T.F_Lcombined.kp T.B_Lcombined .nil pass0 (pa_cons (pv 10) (pa_cons (pv 2) (pa_cons (pv 3) pa_nil)))) pa_nil))))) (pss_one (ps_ret pe_bl)) pss_nil)
       (pss_one (ps_if (pt_not (pt_val (pe_call (ok_Lis T) (hr.mono (by decide)) (by rfl) T.g_Lis T.F_Lis.kp T.B_Lis .nil pass0 (pa_cons (pe_call (ok_Lcarried_out T) (hr.mono (by decide)) (by rfl) T.g_Lcarried_out T.F_Lcarried_out.kp T.B_Lcarried_out .nil pass0 (pa_cons (pv 10) (pa_cons (pv 8) (pa_cons (pv 7) pa_nil)))) (pa_cons (pe_call (ok_Lcombined T) (hr.mono (by decide)) (by rfl) T.g_Lcombined T.F_Lcombined.kp T.B_Lcombined .nil pass0 (pa_cons (pv 10) (pa_cons (pv 3) (pa_cons (pv 2) pa_nil)))) pa_nil))))) (pss_one (ps_ret pe_bl)) pss_nil))))
       (pss_one (ps_if (PW.pt (pw_or (pt_not (pt_val (pe_call (ok_Lis T) (hr.mono (by decide)) (by rfl) T.g_Lis T.F_Lis.kp T.B_Lis .nil pass0 (pa_cons (pe_op (op_own (ok_SignSet_Mor T) (hr.mono (by decide)) T.sf_SignSet T.at_SignSet_Mor T.fn_SignSet_Mor T.B_SignSet_Mor pass0) (pv 7) (pv 7)) (pa_cons (pv 2) pa_nil))))) (pw_or (pt_not (pt_val (pe_call (ok_Lis T) (hr.mono (by decide)) (by rfl) T.g_Lis T.F_Lis.kp T.B_Lis .nil pass0 (pa_cons (pe_op (op_own (ok_SignSet_Mand T) (hr.mono (by decide)) T.sf_SignSet T.at_SignSet_Mand T.fn_SignSet_Mand T.B_SignSet_Mand pass0) (pv 7) (pv 7)) (pa_cons (pv 2) pa_nil))))) (pw_or1 (pt_not (pt_val (pe_call (ok_Lis T) (hr.mono (by decide)) (by rfl) T.g_Lis T.F_Lis.kp T.B_Lis .nil pass0 (pa_cons (pe_op (op_own (ok_SignSet_Msub T) (hr.mono (by decide)) T.sf_SignSet T.at_SignSet_Msub T.fn_SignSet_Msub T.B_SignSet_Msub pass0) (pv 7) (pv 7)) (pa_cons pe_str pa_nil))))))))) (pss_one (ps_ret pe_bl)) pss_nil))))
       (pss_cons (ps_set (i := 11) sc_law.nd rfl (Or.inl rfl) (pv 7))
       (pss_cons (ps_set (i := 12) sc_law.nd rfl (Or.inl rfl) (pv 2))
       (pss_cons (ps_for PassesOwn.never rfl (pi_range1 rfl T.b_range (pa_cons (pe_op op_add pe_int (pe_call (ok_Lnext T) (hr.mono (by decide)) (by rfl) T.g_Lnext T.F_Lnext.kp T.B_Lnext .nil pass0 (pa_cons (pv 1) (pa_cons pe_int pa_nil)))) pa_nil)) (pg_name (i := 9) sc_law.nd rfl (Or.inl rfl))
       (pss_cons (ps_set (i := 10) sc_law.nd rfl (Or.inl rfl) (pe_call (ok_Lnext T) (hr.mono (by decide)) (by rfl) T.g_Lnext T.F_Lnext.kp T.B_Lnext .nil pass0 (pa_cons (pv 1) (pa_cons pe_int pa_nil))))
       (pss_cons (ps_set (i := 13) sc_law.nd rfl (Or.inl rfl) (pe_call (ok_Lnext T) (hr.mono (by decide)) (by rfl) T.g_Lnext T.F_Lnext.kp T.B_Lnext .nil pass0 (pa_cons (pv 1) (pa_cons pe_int pa_nil))))
       (pss_cut (ps_if (pt_cmpR op_eq (pe_call (ok_Lnext T) (hr.mono (by decide)) (by rfl) T.g_Lnext T.F_Lnext.kp T.B_Lnext .nil pass0 (pa_cons (pv 1) (pa_cons pe_int pa_nil))) pe_int (nomark _)) (pss_cons (ps_set (i := 11) sc_law.nd rfl (Or.inl rfl) (pe_call (ok_Lcarried_out T) (hr.mono (by decide)) (by rfl) T.g_Lcarried_out T.F_Lcarried_out.kp T.B_Lcarried_out .nil pass0 (pa_cons (pv 10) (pa_cons (pe_ix (r := rIxL K) ix_list (pv 6) (pv 13) (fun _ _ => rfl)) (pa_cons (pv 11) pa_nil)))))
       (pss_one (ps_set (i := 12) sc_law.nd rfl (Or.inl rfl) (pe_call (ok_Lcombined T) (hr.mono (by decide)) (by rfl) T.g_Lcombined T.F_Lcombined.kp T.B_Lcombined .nil pass0 (pa_cons (pv 10) (pa_cons (pe_ix (r := rIxL K) ix_list (pv 5) (pv 13) (fun _ _ => rfl)) (pa_cons (pv 12) pa_nil))))))) (pss_cons (ps_set (i := 11) sc_law.nd rfl (Or.inl rfl) (pe_call (ok_Lcarried_out T) (hr.mono (by decide)) (by rfl) T.g_Lcarried_out T.F_Lcarried_out.kp T.B_Lcarried_out .nil pass0 (pa_cons (pv 10) (pa_cons (pv 11) (pa_cons (pe_ix (r := rIxL K) ix_list (pv 6) (pv 13) (fun _ _ => rfl)) pa_nil)))))
       (pss_one (ps_set (i := 12) sc_law.nd rfl (Or.inl rfl) (pe_call (ok_Lcombined T) (hr.mono (by decide)) (by rfl) T.g_Lcombined T.F_Lcombined.kp T.B_Lcombined .nil pass0 (pa_cons (pv 10) (pa_cons (pv 12) (pa_cons (pe_ix (r := rIxL K) ix_list (pv 5) (pv 13) (fun _ _ => rfl)) pa_nil))))))))
       (pss_one (ps_if (pt_not (pt_val (pe_call (ok_Lis T) (hr.mono (by decide)) (by rfl) T.g_Lis T.F_Lis.kp T.B_Lis .nil pass0 (pa_cons (pv 11) (pa_cons (pv 12) pa_nil))))) (pss_one (ps_ret pe_bl)) pss_nil))))))
       (pss_cons (ps_for PassesOwn.never rfl (pi_range1 rfl T.b_range (pa_cons pe_int pa_nil)) (pg_name (i := 9) sc_law.nd rfl (Or.inl rfl))
       (pss_one (ps_if (pt_not (pt_val (pe_call (ok_Lis T) (hr.mono (by decide)) (by rfl) T.g_Lis T.F_Lis.kp T.B_Lis .nil pass0 (pa_cons (pe_ix (r := rIxL K) ix_list (pv 6) (pv 9) (fun _ _ => rfl)) (pa_cons (pe_ix (r := rIxL K) ix_list (pv 5) (pv 9) (fun _ _ => rfl)) pa_nil))))) (pss_one (ps_ret pe_bl)) pss_nil)))
       (pss_one (ps_ret pe_bl))))))))))))))), ?_⟩
    walk_at "rd"
    refine ⟨ns, hS, hn, fun d l H1 hd hl sm D1 => ⟨l, D1, fun f H2 sf D2 _ => ⟨l, D2, sf, fun g H3 sg D3 _ => ⟨l, D3, sg, fun t H4 st D4 _ => ⟨by decide, fun p hp => ?_⟩⟩⟩⟩⟩
    have hpL : upd H4 p (HO.lst [V.str (tx f), V.str (tx g), V.str (tx t)]) p = some (HO.lst [V.str (tx f), V.str (tx g), V.str (tx t)]) := upd_same
    have D5 : Drw (upd H4 p (HO.lst [V.str (tx f), V.str (tx g), V.str (tx t)])) d l := D4.new hp
    have pd : p ≠ d := D4.ne hp
    generalize upd H4 p (HO.lst [V.str (tx f), V.str (tx g), V.str (tx t)]) = H5 at hpL D5 ⊢
    have sub3 : ∀ (i : Nat) (c : List Nat), ([f, g, t] : List (List Nat))[i]? = some c → c.Sublist SG := by
      intro i c hc
      have := List.mem_of_getElem? hc
      simp only [List.mem_cons, List.not_mem_nil, or_false] at this
      rcases this with rfl | rfl | rfl
      · exact sf
      · exact sg
      · exact st
    refine ⟨⟨_, .inl (.inl hpL)⟩, ?_⟩
    obtain ⟨Pv, hP⟩ : ∃ Pv : Addr → Nat → Hp → Prop, ∀ D i H', Pv D i H' ↔ ∃ rs : List Addr, rs.length = i ∧ (∀ (j : Nat) x c, rs[j]? = some x → ([f, g, t] : List (List Nat))[j]? = some c → Sgs T.c_SignSet H' x c) ∧ Drw H' d l ∧ H' p = some (HO.lst [V.str (tx f), V.str (tx g), V.str (tx t)]) ∧ H' D = some (.lst (rs.map V.ref)) := ⟨_, fun _ _ _ => Iff.rfl⟩
    refine lcJ_by (reg_list _ p ([f, g, t].map fun c => V.str (tx c))) Pv (fun D i H' _ h => ?_) (fun D hD1 => ?_) (fun D i y H' hD1 hi hp2 => ?_) (fun D H' hD1 hp2 => ?_)
    · obtain ⟨_, _, _, _, e, _⟩ := (hP _ _ _).mp h
      exact .inl (.inl e)
    · refine (hP _ _ _).mpr ⟨[], rfl, fun j x c h => by simp at h, D5.new hD1, ?_, upd_same⟩
      rw [upd_ne (ne_of_none hpL hD1)]
      exact hpL
    · obtain ⟨c, hc, rfl⟩ := mem3 hi
      obtain ⟨rs, e1, e2, e3, e4, e5⟩ := (hP _ _ _).mp hp2
      have hsub := sub3 i c hc
      have lc := sub_len hsub
      have hi3 : i < 3 := by
        have := (List.getElem?_eq_some_iff.mp hc).1
        exact this
      have Dd : D ≠ d := D5.ne hD1
      walk_at "rd"
      refine ⟨l, e3, by omega, fun cs H6 hm hl2 D6 B6 x dx hx hdx hne => ?_⟩
      have ea : asc cs = c := (asc_congr hm).trans (asc_self hsub)
      refine ⟨_, upd_same, fun z hz => hsub.subset ((hm z).mp hz), by omega, fun H7 B S => ?_⟩
      rw [ea] at S
      have sm7 : Same H6 H7 := made_same hx hdx B
      have hD7 : H7 D = some (.lst (rs.map V.ref)) := sm7 _ _ (B6 _ _ Dd e5)
      refine ⟨_, hD7, by rw [List.length_map]; exact toLine (by omega), (hP _ _ _).mpr ⟨rs ++ [x], by rw [List.length_append, e1]; rfl, fun j y cy hj hcy => ?_, (D6.same sm7).put Dd (D5.nel hD1), ?_, ?_⟩⟩
      · refine Sgs.put ?_ hD7
        by_cases hlt : j < rs.length
        · rw [List.getElem?_append_left hlt] at hj
          have s1 := e2 j y cy hj hcy
          exact (s1.but (s1.ned e3) B6).at sm7
        · have hlt2 := (List.getElem?_eq_some_iff.mp hj).1
          rw [List.length_append] at hlt2
          have ej : j = rs.length := by simp at hlt2; omega
          subst ej
          rw [List.getElem?_append_right (Nat.le_refl _), Nat.sub_self] at hj
          rw [e1, hc] at hcy
          cases Option.some.inj hj
          cases Option.some.inj hcy
          exact S
      · rw [upd_ne (ne_of_none hpL hD1)]
        exact sm7 _ _ (B6 _ _ pd e4)
      · rw [upd_same, List.map_append]
        rfl
    · obtain ⟨rs, e1, e2, e3, e4, e5⟩ := (hP _ _ _).mp hp2
      obtain ⟨x0, x1, x2, rfl⟩ : ∃ x0 x1 x2, rs = [x0, x1, x2] := by
        match rs, e1 with
        | [x0, x1, x2], _ => exact ⟨x0, x1, x2, rfl⟩
      have W : Wd T.c_SignSet d l p D x0 x1 x2 f g t H' := ⟨e3, e4, e5, e2 0 _ _ rfl rfl, e2 1 _ _ rfl rfl, e2 2 _ _ rfl rfl⟩
      have Dd : D ≠ d := D5.ne hD1
      refine ⟨_, rfl, _, .inl (.inl e5), _, rfl, _, rfl, _, .inl (.inl e5), _, rfl, by decide, by decide, ?_⟩
      clear hp2 hP Pv e1 e2 e3 e4 e5
      have hdone : H5 D = none := hD1
      obtain ⟨Pv, hP⟩ : ∃ Pv : Nat → L2.St → Hp → Prop, ∀ i σ H', Pv i σ H' ↔ ∃ (v9 v10 : Option V), σ = [some (V.ref a), some (V.ref d), some (V.str (tx f)), some (V.str (tx g)), some (V.str (tx t)), some (V.ref p), some (V.ref D), some (V.ref x0), some (V.ref x1), v9, v10, none, none, none, none] ∧ Wd T.c_SignSet d l p D x0 x1 x2 f g t H' := ⟨_, fun _ _ _ => Iff.rfl⟩
      refine forJ_by (reg_range _ _) Pv (fun _ _ _ _ => trivial) ?_ ?_ ?_
      · exact (hP _ _ _).mpr ⟨_, _, rfl, W⟩
      · intro i k σ H6 hi h
        obtain ⟨v9, v10, rfl, W6⟩ := (hP _ _ _).mp h
        walk_at "rd"
        refine ⟨by decide, by decide, ?_⟩
        obtain ⟨Pj, hJ⟩ : ∃ Pj : Nat → L2.St → Hp → Prop, ∀ j σ H', Pj j σ H' ↔ ∃ (v10 : Option V), σ = [some (V.ref a), some (V.ref d), some (V.str (tx f)), some (V.str (tx g)), some (V.str (tx t)), some (V.ref p), some (V.ref D), some (V.ref x0), some (V.ref x1), some (V.int (0 + (k : Int))), v10, none, none, none, none] ∧ Wd T.c_SignSet d l p D x0 x1 x2 f g t H' := ⟨_, fun _ _ _ => Iff.rfl⟩
        refine forJ_by (reg_range _ _) Pj (fun _ _ _ _ => trivial) ?_ ?_ ?_
        · exact (hJ _ _ _).mpr ⟨_, rfl, W6⟩
        · intro j op σ H7 hj h
          obtain ⟨v10, rfl, W7⟩ := (hJ _ _ _).mp h
          walk_at "rd"
          exact ⟨f, W7.s0, g, W7.s1, sf, sg, fun r A1 hr1 m1 S1 A2 m2 => ⟨S1.at m2, comb_sub _ _ _, g, (W7.s1.at m1).at m2, f, (W7.s0.at m1).at m2, sg, sf, fun r' A3 hr2 m3 S3 A4 m4 => ⟨S3.at m4, comb_sub _ _ _, (hJ _ _ _).mpr ⟨_, rfl, (((W7.same m1).same m2).same m3).same m4⟩⟩⟩⟩
        · intro σ H7 h
          obtain ⟨v10, rfl, W7⟩ := (hJ _ _ _).mp h
          walk_at "rd"
          obtain ⟨dx0, h0⟩ := id W7.s0
          refine ⟨_, _, h0, _, _, h0, f, W7.s0, f, W7.s0, sf, sf, fun r A1 _ m1 S1 => ?_⟩
          rw [cOr_self sf] at S1
          have W8 := W7.same m1
          refine ⟨S1, sf, _, _, m1 _ _ h0, _, _, m1 _ _ h0, f, W8.s0, f, W8.s0, sf, sf, fun r A2 _ m2 S2 => ?_⟩
          rw [cAnd_self sf] at S2
          have W9 := W8.same m2
          refine ⟨S2, sf, _, _, m2 _ _ (m1 _ _ h0), _, _, m2 _ _ (m1 _ _ h0), f, W9.s0, f, W9.s0, sf, sf, fun r A3 _ m3 S3 => ?_⟩
          rw [cSub_self f] at S3
          exact ⟨S3, List.nil_sublist _, (hP _ _ _).mpr ⟨_, _, rfl, W9.same m3⟩⟩
      · intro σ H6 h
        obtain ⟨v9, v10, rfl, W6⟩ := (hP _ _ _).mp h
        walk_at "rd"
        refine ⟨l, W6.dr, by decide, fun r H7 r0 r1 D7 B7 => ⟨by omega, by omega, ?_⟩⟩
        have W7 := W6.but pd Dd D7 B7
        obtain ⟨Pk, hK⟩ : ∃ Pk : Nat → L2.St → Hp → Prop, ∀ i σ H', Pk i σ H' ↔ ∃ (v9 v10 v13 : Option V) (y : Addr) (cs : List Nat), σ = [some (V.ref a), some (V.ref d), some (V.str (tx f)), some (V.str (tx g)), some (V.str (tx t)), some (V.ref p), some (V.ref D), some (V.ref x0), some (V.ref x1), v9, v10, some (V.ref y), some (V.str (tx cs)), v13, none] ∧ Wd T.c_SignSet d l p D x0 x1 x2 f g t H' ∧ Sgs T.c_SignSet H' y cs ∧ cs.Sublist SG := ⟨_, fun _ _ _ => Iff.rfl⟩
        refine forJ_by (reg_range _ _) Pk (fun _ _ _ _ => trivial) ?_ ?_ ?_
        · exact (hK _ _ _).mpr ⟨_, _, _, _, _, rfl, W7, W7.s0, sf⟩
        · intro i k σ H8 hi h
          obtain ⟨v9, v10, v13, y, cs, rfl, W8, S8, sc⟩ := (hK _ _ _).mp h
          walk_at "rd"
          refine ⟨l, W8.dr, by decide, fun op H9 o0 o1 D9 B9 => ?_⟩
          have W9 := W8.but pd Dd D9 B9
          have S9 := S8.but (S8.ned W8.dr) B9
          refine ⟨l, D9, by decide, fun nm HA n0 n1 DA BA => ?_⟩
          have WA := W9.but pd Dd DA BA
          have SA := S9.but (S9.ned W9.dr) BA
          obtain ⟨M, hM⟩ : ∃ M : L2.St → Hp → Prop, ∀ σ' H', M σ' H' ↔ ∃ (v9 v10 v13 : Option V) (y : Addr) (cs : List Nat), σ' = [some (V.ref a), some (V.ref d), some (V.str (tx f)), some (V.str (tx g)), some (V.str (tx t)), some (V.ref p), some (V.ref D), some (V.ref x0), some (V.ref x1), v9, v10, some (V.ref y), some (V.str (tx cs)), v13, none] ∧ Wd T.c_SignSet d l p D x0 x1 x2 f g t H' ∧ Sgs T.c_SignSet H' y cs ∧ cs.Sublist SG := ⟨_, fun _ _ => Iff.rfl⟩
          obtain ⟨x, c, ex, ec, subc, hS2⟩ := Wd.pick (C := T.c_SignSet) (d := d) (l := l) (p := p) (D := D) (x0 := x0) (x1 := x1) (x2 := x2) sf sg st n0 n1
          refine ⟨M, ?_, fun σ' H' hm => ?_⟩
          · walk_at "rd"
            refine ⟨l, DA, by decide, fun r HB r0 r1 DB BB => ?_⟩
            have WB := WA.but pd Dd DB BB
            have SB := SA.but (SA.ned WA.dr) BB
            refine ite2 (fun _ => ?_) (fun _ => ?_)
            · exact ⟨_, .inl (.inl WB.ob), _, ex, x, rfl, c, hS2 _ WB, cs, SB, subc, sc, fun y' HC _ m1 S1 => ⟨_, .inl (.inl (m1 _ _ WB.tp)), _, ec, c, rfl, fun HD m2 => (hM _ _).mpr ⟨_, _, _, _, _, rfl, (WB.same m1).same m2, S1.at m2, comb_sub _ _ _⟩⟩⟩
            · exact ⟨_, .inl (.inl WB.ob), _, ex, x, rfl, cs, SB, c, hS2 _ WB, sc, subc, fun y' HC _ m1 S1 => ⟨_, .inl (.inl (m1 _ _ WB.tp)), _, ec, c, rfl, fun HD m2 => (hM _ _).mpr ⟨_, _, _, _, _, rfl, (WB.same m1).same m2, S1.at m2, comb_sub _ _ _⟩⟩⟩
          · obtain ⟨v9, v10, v13, y, cs, rfl, WB, SB, sb⟩ := (hM _ _).mp hm
            walk_at "rd"
            exact ⟨SB, sb, (hK _ _ _).mpr ⟨_, _, _, _, _, rfl, WB, SB, sb⟩⟩
        · intro σ H8 h
          obtain ⟨v9, v10, v13, y, cs, rfl, W8, S8, sc⟩ := (hK _ _ _).mp h
          walk_at "rd"
          refine ⟨by decide, by decide, ?_⟩
          obtain ⟨Pz, hZ⟩ : ∃ Pz : Nat → L2.St → Hp → Prop, ∀ i σ H', Pz i σ H' ↔ ∃ (v9 : Option V), σ = [some (V.ref a), some (V.ref d), some (V.str (tx f)), some (V.str (tx g)), some (V.str (tx t)), some (V.ref p), some (V.ref D), some (V.ref x0), some (V.ref x1), v9, v10, some (V.ref y), some (V.str (tx cs)), v13, none] ∧ Wd T.c_SignSet d l p D x0 x1 x2 f g t H' := ⟨_, fun _ _ _ => Iff.rfl⟩
          refine forJ_by (reg_range _ _) Pz (fun _ _ _ _ => trivial) ?_ ?_ ?_
          · exact (hZ _ _ _).mpr ⟨_, rfl, W8⟩
          · intro i k σ H9 hi h
            obtain ⟨v9, rfl, W9⟩ := (hZ _ _ _).mp h
            have hk : k < 3 := List.mem_range.mp (List.mem_of_getElem? hi)
            obtain ⟨x, c, ex, ec, subc, hS2⟩ := Wd.pick (C := T.c_SignSet) (d := d) (l := l) (p := p) (D := D) (x0 := x0) (x1 := x1) (x2 := x2) sf sg st (r := 0 + (k : Int)) (by omega) (by omega)
            walk_at "rd"
            refine ⟨_, .inl (.inl W9.ob), _, ex, _, .inl (.inl W9.tp), _, ec, ?_⟩
            walk_at "rd"
            exact ⟨hS2 _ W9, subc, (hZ _ _ _).mpr ⟨_, rfl, W9⟩⟩
          · intro σ H9 h
            obtain ⟨v9, rfl, W9⟩ := (hZ _ _ _).mp h
            walk_at "rd"
            exact q _
end
end My
namespace My
open PySem L2
theorem kit_self {K : PySem.W.Frag} {C : Addr} : PySem.W.kitOne K (.ref C) (.ref C) = some true := by
  unfold PySem.W.kitOne
  rw [if_pos (beq_self_eq_true _)]
theorem all_mk {l : PySem.W.OpenLaw} {w : World} {K : PySem.W.Frag} {h : Heap} {mg : Str → Option Value} {fa : Addr} (X : K.In h) (G : h.Ns mainGlobals mg) (hfa : mg "law" = some (.ref fa))
    {f_Ldraw : Addr} {od_Ldraw an_Ldraw : Option Addr} {sl_Ldraw : Array (Option Value)} {oc_Ldraw kV_Ldraw dc_Ldraw pm_Ldraw cd_Ldraw ct_Ldraw : Value} (a_Ldraw : PySem.W.nsIn K mainGlobals "_law_draw" = some (some (.ref f_Ldraw))) (l_Ldraw : K.lookup f_Ldraw = some ⟨oc_Ldraw, od_Ldraw, .func (PySem.W.fnOf "_law_draw" "_law_draw" (defArgs s_Ldraw) (defBody s_Ldraw) (defScope s_Ldraw) .none kV_Ldraw dc_Ldraw pm_Ldraw an_Ldraw cd_Ldraw ct_Ldraw), sl_Ldraw⟩) (c_Ldraw : PySem.W.codeIn K cd_Ldraw "_law_draw" = true) (k_Ldraw : PySem.W.keepIn K (.ref f_Ldraw) = true)
    {f_Lnext : Addr} {od_Lnext an_Lnext : Option Addr} {sl_Lnext : Array (Option Value)} {oc_Lnext kV_Lnext dc_Lnext pm_Lnext cd_Lnext ct_Lnext : Value} (a_Lnext : PySem.W.nsIn K mainGlobals "_law_next" = some (some (.ref f_Lnext))) (l_Lnext : K.lookup f_Lnext = some ⟨oc_Lnext, od_Lnext, .func (PySem.W.fnOf "_law_next" "_law_next" (defArgs s_Lnext) (defBody s_Lnext) (defScope s_Lnext) .none kV_Lnext dc_Lnext pm_Lnext an_Lnext cd_Lnext ct_Lnext), sl_Lnext⟩) (c_Lnext : PySem.W.codeIn K cd_Lnext "_law_next" = true) (k_Lnext : PySem.W.keepIn K (.ref f_Lnext) = true)
    {f_Lsigns : Addr} {od_Lsigns an_Lsigns : Option Addr} {sl_Lsigns : Array (Option Value)} {oc_Lsigns kV_Lsigns dc_Lsigns pm_Lsigns cd_Lsigns ct_Lsigns : Value} (a_Lsigns : PySem.W.nsIn K mainGlobals "_law_signs" = some (some (.ref f_Lsigns))) (l_Lsigns : K.lookup f_Lsigns = some ⟨oc_Lsigns, od_Lsigns, .func (PySem.W.fnOf "_law_signs" "_law_signs" (defArgs s_Lsigns) (defBody s_Lsigns) (defScope s_Lsigns) .none kV_Lsigns dc_Lsigns pm_Lsigns an_Lsigns cd_Lsigns ct_Lsigns), sl_Lsigns⟩) (c_Lsigns : PySem.W.codeIn K cd_Lsigns "_law_signs" = true) (k_Lsigns : PySem.W.keepIn K (.ref f_Lsigns) = true)
    {f_Lsubset : Addr} {od_Lsubset an_Lsubset : Option Addr} {sl_Lsubset : Array (Option Value)} {oc_Lsubset kV_Lsubset dc_Lsubset pm_Lsubset cd_Lsubset ct_Lsubset : Value} (a_Lsubset : PySem.W.nsIn K mainGlobals "_law_subset" = some (some (.ref f_Lsubset))) (l_Lsubset : K.lookup f_Lsubset = some ⟨oc_Lsubset, od_Lsubset, .func (PySem.W.fnOf "_law_subset" "_law_subset" (defArgs s_Lsubset) (defBody s_Lsubset) (defScope s_Lsubset) .none kV_Lsubset dc_Lsubset pm_Lsubset an_Lsubset cd_Lsubset ct_Lsubset), sl_Lsubset⟩) (c_Lsubset : PySem.W.codeIn K cd_Lsubset "_law_subset" = true) (k_Lsubset : PySem.W.keepIn K (.ref f_Lsubset) = true)
    {f_Lnear : Addr} {od_Lnear an_Lnear : Option Addr} {sl_Lnear : Array (Option Value)} {oc_Lnear kV_Lnear dc_Lnear pm_Lnear cd_Lnear ct_Lnear : Value} (a_Lnear : PySem.W.nsIn K mainGlobals "_law_near" = some (some (.ref f_Lnear))) (l_Lnear : K.lookup f_Lnear = some ⟨oc_Lnear, od_Lnear, .func (PySem.W.fnOf "_law_near" "_law_near" (defArgs s_Lnear) (defBody s_Lnear) (defScope s_Lnear) .none kV_Lnear dc_Lnear pm_Lnear an_Lnear cd_Lnear ct_Lnear), sl_Lnear⟩) (c_Lnear : PySem.W.codeIn K cd_Lnear "_law_near" = true) (k_Lnear : PySem.W.keepIn K (.ref f_Lnear) = true)
    {f_Lspelt : Addr} {od_Lspelt an_Lspelt : Option Addr} {sl_Lspelt : Array (Option Value)} {oc_Lspelt kV_Lspelt dc_Lspelt pm_Lspelt cd_Lspelt ct_Lspelt : Value} (a_Lspelt : PySem.W.nsIn K mainGlobals "_law_spelt" = some (some (.ref f_Lspelt))) (l_Lspelt : K.lookup f_Lspelt = some ⟨oc_Lspelt, od_Lspelt, .func (PySem.W.fnOf "_law_spelt" "_law_spelt" (defArgs s_Lspelt) (defBody s_Lspelt) (defScope s_Lspelt) .none kV_Lspelt dc_Lspelt pm_Lspelt an_Lspelt cd_Lspelt ct_Lspelt), sl_Lspelt⟩) (c_Lspelt : PySem.W.codeIn K cd_Lspelt "_law_spelt" = true) (k_Lspelt : PySem.W.keepIn K (.ref f_Lspelt) = true)
    {f_Lis : Addr} {od_Lis an_Lis : Option Addr} {sl_Lis : Array (Option Value)} {oc_Lis kV_Lis dc_Lis pm_Lis cd_Lis ct_Lis : Value} (a_Lis : PySem.W.nsIn K mainGlobals "_law_is" = some (some (.ref f_Lis))) (l_Lis : K.lookup f_Lis = some ⟨oc_Lis, od_Lis, .func (PySem.W.fnOf "_law_is" "_law_is" (defArgs s_Lis) (defBody s_Lis) (defScope s_Lis) .none kV_Lis dc_Lis pm_Lis an_Lis cd_Lis ct_Lis), sl_Lis⟩) (c_Lis : PySem.W.codeIn K cd_Lis "_law_is" = true) (k_Lis : PySem.W.keepIn K (.ref f_Lis) = true)
    {f_Lcombined : Addr} {od_Lcombined an_Lcombined : Option Addr} {sl_Lcombined : Array (Option Value)} {oc_Lcombined kV_Lcombined dc_Lcombined pm_Lcombined cd_Lcombined ct_Lcombined : Value} (a_Lcombined : PySem.W.nsIn K mainGlobals "_law_combined" = some (some (.ref f_Lcombined))) (l_Lcombined : K.lookup f_Lcombined = some ⟨oc_Lcombined, od_Lcombined, .func (PySem.W.fnOf "_law_combined" "_law_combined" (defArgs s_Lcombined) (defBody s_Lcombined) (defScope s_Lcombined) .none kV_Lcombined dc_Lcombined pm_Lcombined an_Lcombined cd_Lcombined ct_Lcombined), sl_Lcombined⟩) (c_Lcombined : PySem.W.codeIn K cd_Lcombined "_law_combined" = true) (k_Lcombined : PySem.W.keepIn K (.ref f_Lcombined) = true)
    {f_Lcarried_out : Addr} {od_Lcarried_out an_Lcarried_out : Option Addr} {sl_Lcarried_out : Array (Option Value)} {oc_Lcarried_out kV_Lcarried_out dc_Lcarried_out pm_Lcarried_out cd_Lcarried_out ct_Lcarried_out : Value} (a_Lcarried_out : PySem.W.nsIn K mainGlobals "_law_carried_out" = some (some (.ref f_Lcarried_out))) (l_Lcarried_out : K.lookup f_Lcarried_out = some ⟨oc_Lcarried_out, od_Lcarried_out, .func (PySem.W.fnOf "_law_carried_out" "_law_carried_out" (defArgs s_Lcarried_out) (defBody s_Lcarried_out) (defScope s_Lcarried_out) .none kV_Lcarried_out dc_Lcarried_out pm_Lcarried_out an_Lcarried_out cd_Lcarried_out ct_Lcarried_out), sl_Lcarried_out⟩) (c_Lcarried_out : PySem.W.codeIn K cd_Lcarried_out "_law_carried_out" = true) (k_Lcarried_out : PySem.W.keepIn K (.ref f_Lcarried_out) = true)
    {f_law : Addr} {od_law an_law : Option Addr} {sl_law : Array (Option Value)} {oc_law kV_law dc_law pm_law cd_law ct_law : Value} (a_law : PySem.W.nsIn K mainGlobals "law" = some (some (.ref f_law))) (l_law : K.lookup f_law = some ⟨oc_law, od_law, .func (PySem.W.fnOf "law" "law" (defArgs s_law) (defBody s_law) (defScope s_law) .none kV_law dc_law pm_law an_law cd_law ct_law), sl_law⟩) (c_law : PySem.W.codeIn K cd_law "law" = true) (k_law : PySem.W.keepIn K (.ref f_law) = true)
    {c_SignSet : Addr} (ac_SignSet : PySem.W.nsIn K mainGlobals "SignSet" = some (some (.ref c_SignSet))) (pg_SignSet : PySem.W.plainGet K c_SignSet Str.empty = true) (hd_SignSet : PySem.W.hasDictIn K c_SignSet = true) (po_SignSet : PySem.W.plainOver K c_SignSet = true) (sa_SignSet : PySem.W.findIn K (.ref c_SignSet) "__setattr__" = some (some (.builtin "object.__setattr__"))) (mk_SignSet : PySem.W.makesIn K c_SignSet = true) (kc_SignSet : PySem.W.keepIn K (.ref c_SignSet) = true) (sf_SignSet : PySem.W.selfFirst K c_SignSet = true)
    (ha_SignSet : PySem.W.findIn K (.ref c_SignSet) "__class__" = some (some (.builtin "object.__class__"))) (hn_SignSet : PySem.W.specialIn K (.builtin "object.__class__") "__get__" = some (some (.builtin "getset_descriptor.__get__"))) (ht_SignSet : PySem.W.takesIn K (.builtin "object.__class__") = some true) (hm_SignSet : PySem.W.mroIn K c_SignSet (.type "object") = some true)
    (na_SignSet_members : PySem.W.findIn K (.ref c_SignSet) "_members" = some none)
    {f_SignSet_Minit : Addr} {od_SignSet_Minit an_SignSet_Minit : Option Addr} {sl_SignSet_Minit : Array (Option Value)} {oc_SignSet_Minit kV_SignSet_Minit dc_SignSet_Minit pm_SignSet_Minit cd_SignSet_Minit ct_SignSet_Minit : Value}
    (a_SignSet_Minit : PySem.W.findIn K (.ref c_SignSet) "__init__" = some (some (.ref f_SignSet_Minit))) (i_SignSet_Minit : PySem.W.isFn K (.ref f_SignSet_Minit) = true)
    {T_SignSet_Minit : Addr} {oT_SignSet_Minit : Value} {dT_SignSet_Minit : Option Addr} {nT_SignSet_Minit : Nat} {sT_SignSet_Minit : Array (Option Value)} {u0_SignSet_Minit : Tok}
    (l_SignSet_Minit : K.lookup f_SignSet_Minit = some ⟨oc_SignSet_Minit, od_SignSet_Minit, .func (PySem.W.fnOf "__init__" "SignSet.__init__" (defArgs s_SignSet_Minit) (defBody s_SignSet_Minit) (defScope s_SignSet_Minit) (.ref T_SignSet_Minit) kV_SignSet_Minit dc_SignSet_Minit pm_SignSet_Minit an_SignSet_Minit cd_SignSet_Minit ct_SignSet_Minit), sl_SignSet_Minit⟩) (c_SignSet_Minit : PySem.W.codeIn K cd_SignSet_Minit "SignSet.__init__" = true) (k_SignSet_Minit : PySem.W.keepIn K (.ref f_SignSet_Minit) = true)
    (d_SignSet_Minit : K.lookup T_SignSet_Minit = some ⟨oT_SignSet_Minit, dT_SignSet_Minit, .seq #[.str "" u0_SignSet_Minit] nT_SignSet_Minit, sT_SignSet_Minit⟩)
    {f_SignSet_members : Addr} {od_SignSet_members an_SignSet_members : Option Addr} {sl_SignSet_members : Array (Option Value)} {oc_SignSet_members kV_SignSet_members dc_SignSet_members pm_SignSet_members cd_SignSet_members ct_SignSet_members : Value}
    {p_SignSet_members : Addr} {rs_SignSet_members : List Value} (a_SignSet_members : PySem.W.findIn K (.ref c_SignSet) "members" = some (some (.ref p_SignSet_members))) (g_SignSet_members : PySem.W.specialIn K (.ref p_SignSet_members) "__get__" = some (some (.builtin "property.__get__"))) (t_SignSet_members : PySem.W.takesIn K (.ref p_SignSet_members) = some true) (r_SignSet_members : PySem.W.recIn K p_SignSet_members "property" = some (.ref f_SignSet_members :: rs_SignSet_members))
    (l_SignSet_members : K.lookup f_SignSet_members = some ⟨oc_SignSet_members, od_SignSet_members, .func (PySem.W.fnOf "members" "SignSet.members" (defArgs s_SignSet_members) (defBody s_SignSet_members) (defScope s_SignSet_members) .none kV_SignSet_members dc_SignSet_members pm_SignSet_members an_SignSet_members cd_SignSet_members ct_SignSet_members), sl_SignSet_members⟩) (c_SignSet_members : PySem.W.codeIn K cd_SignSet_members "SignSet.members" = true) (k_SignSet_members : PySem.W.keepIn K (.ref f_SignSet_members) = true)
    {f_SignSet_Mor : Addr} {od_SignSet_Mor an_SignSet_Mor : Option Addr} {sl_SignSet_Mor : Array (Option Value)} {oc_SignSet_Mor kV_SignSet_Mor dc_SignSet_Mor pm_SignSet_Mor cd_SignSet_Mor ct_SignSet_Mor : Value}
    (a_SignSet_Mor : PySem.W.findIn K (.ref c_SignSet) "__or__" = some (some (.ref f_SignSet_Mor))) (i_SignSet_Mor : PySem.W.isFn K (.ref f_SignSet_Mor) = true)
    (l_SignSet_Mor : K.lookup f_SignSet_Mor = some ⟨oc_SignSet_Mor, od_SignSet_Mor, .func (PySem.W.fnOf "__or__" "SignSet.__or__" (defArgs s_SignSet_Mor) (defBody s_SignSet_Mor) (defScope s_SignSet_Mor) .none kV_SignSet_Mor dc_SignSet_Mor pm_SignSet_Mor an_SignSet_Mor cd_SignSet_Mor ct_SignSet_Mor), sl_SignSet_Mor⟩) (c_SignSet_Mor : PySem.W.codeIn K cd_SignSet_Mor "SignSet.__or__" = true) (k_SignSet_Mor : PySem.W.keepIn K (.ref f_SignSet_Mor) = true)
    {f_SignSet_Mand : Addr} {od_SignSet_Mand an_SignSet_Mand : Option Addr} {sl_SignSet_Mand : Array (Option Value)} {oc_SignSet_Mand kV_SignSet_Mand dc_SignSet_Mand pm_SignSet_Mand cd_SignSet_Mand ct_SignSet_Mand : Value}
    (a_SignSet_Mand : PySem.W.findIn K (.ref c_SignSet) "__and__" = some (some (.ref f_SignSet_Mand))) (i_SignSet_Mand : PySem.W.isFn K (.ref f_SignSet_Mand) = true)
    (l_SignSet_Mand : K.lookup f_SignSet_Mand = some ⟨oc_SignSet_Mand, od_SignSet_Mand, .func (PySem.W.fnOf "__and__" "SignSet.__and__" (defArgs s_SignSet_Mand) (defBody s_SignSet_Mand) (defScope s_SignSet_Mand) .none kV_SignSet_Mand dc_SignSet_Mand pm_SignSet_Mand an_SignSet_Mand cd_SignSet_Mand ct_SignSet_Mand), sl_SignSet_Mand⟩) (c_SignSet_Mand : PySem.W.codeIn K cd_SignSet_Mand "SignSet.__and__" = true) (k_SignSet_Mand : PySem.W.keepIn K (.ref f_SignSet_Mand) = true)
    {f_SignSet_Msub : Addr} {od_SignSet_Msub an_SignSet_Msub : Option Addr} {sl_SignSet_Msub : Array (Option Value)} {oc_SignSet_Msub kV_SignSet_Msub dc_SignSet_Msub pm_SignSet_Msub cd_SignSet_Msub ct_SignSet_Msub : Value}
    (a_SignSet_Msub : PySem.W.findIn K (.ref c_SignSet) "__sub__" = some (some (.ref f_SignSet_Msub))) (i_SignSet_Msub : PySem.W.isFn K (.ref f_SignSet_Msub) = true)
    (l_SignSet_Msub : K.lookup f_SignSet_Msub = some ⟨oc_SignSet_Msub, od_SignSet_Msub, .func (PySem.W.fnOf "__sub__" "SignSet.__sub__" (defArgs s_SignSet_Msub) (defBody s_SignSet_Msub) (defScope s_SignSet_Msub) .none kV_SignSet_Msub dc_SignSet_Msub pm_SignSet_Msub an_SignSet_Msub cd_SignSet_Msub ct_SignSet_Msub), sl_SignSet_Msub⟩) (c_SignSet_Msub : PySem.W.codeIn K cd_SignSet_Msub "SignSet.__sub__" = true) (k_SignSet_Msub : PySem.W.keepIn K (.ref f_SignSet_Msub) = true)
    {f_SignSet_Minvert : Addr} {od_SignSet_Minvert an_SignSet_Minvert : Option Addr} {sl_SignSet_Minvert : Array (Option Value)} {oc_SignSet_Minvert kV_SignSet_Minvert dc_SignSet_Minvert pm_SignSet_Minvert cd_SignSet_Minvert ct_SignSet_Minvert : Value}
    (a_SignSet_Minvert : PySem.W.findIn K (.ref c_SignSet) "__invert__" = some (some (.ref f_SignSet_Minvert))) (i_SignSet_Minvert : PySem.W.isFn K (.ref f_SignSet_Minvert) = true)
    (l_SignSet_Minvert : K.lookup f_SignSet_Minvert = some ⟨oc_SignSet_Minvert, od_SignSet_Minvert, .func (PySem.W.fnOf "__invert__" "SignSet.__invert__" (defArgs s_SignSet_Minvert) (defBody s_SignSet_Minvert) (defScope s_SignSet_Minvert) .none kV_SignSet_Minvert dc_SignSet_Minvert pm_SignSet_Minvert an_SignSet_Minvert cd_SignSet_Minvert ct_SignSet_Minvert), sl_SignSet_Minvert⟩) (c_SignSet_Minvert : PySem.W.codeIn K cd_SignSet_Minvert "SignSet.__invert__" = true) (k_SignSet_Minvert : PySem.W.keepIn K (.ref f_SignSet_Minvert) = true)
    {f_SignSet_Mcontains : Addr} {od_SignSet_Mcontains an_SignSet_Mcontains : Option Addr} {sl_SignSet_Mcontains : Array (Option Value)} {oc_SignSet_Mcontains kV_SignSet_Mcontains dc_SignSet_Mcontains pm_SignSet_Mcontains cd_SignSet_Mcontains ct_SignSet_Mcontains : Value}
    (a_SignSet_Mcontains : PySem.W.findIn K (.ref c_SignSet) "__contains__" = some (some (.ref f_SignSet_Mcontains))) (i_SignSet_Mcontains : PySem.W.isFn K (.ref f_SignSet_Mcontains) = true)
    (l_SignSet_Mcontains : K.lookup f_SignSet_Mcontains = some ⟨oc_SignSet_Mcontains, od_SignSet_Mcontains, .func (PySem.W.fnOf "__contains__" "SignSet.__contains__" (defArgs s_SignSet_Mcontains) (defBody s_SignSet_Mcontains) (defScope s_SignSet_Mcontains) .none kV_SignSet_Mcontains dc_SignSet_Mcontains pm_SignSet_Mcontains an_SignSet_Mcontains cd_SignSet_Mcontains ct_SignSet_Mcontains), sl_SignSet_Mcontains⟩) (c_SignSet_Mcontains : PySem.W.codeIn K cd_SignSet_Mcontains "SignSet.__contains__" = true) (k_SignSet_Mcontains : PySem.W.keepIn K (.ref f_SignSet_Mcontains) = true)
    {t_SIGNS : Tok} (v_SIGNS : PySem.W.nsIn K mainGlobals "SIGNS" = some (some (.str "\t\n !\"#$&'()*+,-./0123456789:;<=>?@ABCDEFGHIJKLMNOPQRSTUVWXYZ[\\]^_`abcdefghijklmnopqrstuvwxyz{|}~" t_SIGNS)))
    (z_int : PySem.W.nsIn K mainGlobals "int" = some none)
    (z_isinstance : PySem.W.nsIn K mainGlobals "isinstance" = some none)
    (z_len : PySem.W.nsIn K mainGlobals "len" = some none)
    (z_range : PySem.W.nsIn K mainGlobals "range" = some none)
    (z_set : PySem.W.nsIn K mainGlobals "set" = some none)
    (z_sorted : PySem.W.nsIn K mainGlobals "sorted" = some none)
    (z_str : PySem.W.nsIn K mainGlobals "str" = some none)
    : ∃ fd : FuncData, (∀ (s : Shared) (v : Value), BindsTo s fd ⟨[v], []⟩ [("_law_script", v)]) ∧ ∀ base : Heap, K.In base → base.Ns mainGlobals mg → FnOk l.prog w K mg base CX0 5 fa fd ["_law_script"] (sp_law K) := by
  have e := hfa.symm.trans (PySem.W.mg_of X G a_law)
  cases e
  have F_Ldraw := fun_mk (st := s_Ldraw) l_Ldraw c_Ldraw k_Ldraw
  have B_Ldraw := F_Ldraw.binds (ps := ["_law_script"]) fun _ _ _ _ _ _ us hl => match us, hl with | [_], _ => rfl
  have F_Lnext := fun_mk (st := s_Lnext) l_Lnext c_Lnext k_Lnext
  have B_Lnext := F_Lnext.binds (ps := ["_law_draw_here", "_law_many"]) fun _ _ _ _ _ _ us hl => match us, hl with | [_, _], _ => rfl
  have F_Lsigns := fun_mk (st := s_Lsigns) l_Lsigns c_Lsigns k_Lsigns
  have B_Lsigns := F_Lsigns.binds (ps := []) fun _ _ _ _ _ _ us hl => match us, hl with | [], _ => rfl
  have F_Lsubset := fun_mk (st := s_Lsubset) l_Lsubset c_Lsubset k_Lsubset
  have B_Lsubset := F_Lsubset.binds (ps := ["_law_draw_here"]) fun _ _ _ _ _ _ us hl => match us, hl with | [_], _ => rfl
  have F_Lnear := fun_mk (st := s_Lnear) l_Lnear c_Lnear k_Lnear
  have B_Lnear := F_Lnear.binds (ps := ["_law_draw_here", "_law_first"]) fun _ _ _ _ _ _ us hl => match us, hl with | [_, _], _ => rfl
  have F_Lspelt := fun_mk (st := s_Lspelt) l_Lspelt c_Lspelt k_Lspelt
  have B_Lspelt := F_Lspelt.binds (ps := ["_law_draw_here", "_law_members"]) fun _ _ _ _ _ _ us hl => match us, hl with | [_, _], _ => rfl
  have F_Lis := fun_mk (st := s_Lis) l_Lis c_Lis k_Lis
  have B_Lis := F_Lis.binds (ps := ["_law_found", "_law_due"]) fun _ _ _ _ _ _ us hl => match us, hl with | [_, _], _ => rfl
  have F_Lcombined := fun_mk (st := s_Lcombined) l_Lcombined c_Lcombined k_Lcombined
  have B_Lcombined := F_Lcombined.binds (ps := ["_law_op", "_law_one", "_law_two"]) fun _ _ _ _ _ _ us hl => match us, hl with | [_, _, _], _ => rfl
  have F_Lcarried_out := fun_mk (st := s_Lcarried_out) l_Lcarried_out c_Lcarried_out k_Lcarried_out
  have B_Lcarried_out := F_Lcarried_out.binds (ps := ["_law_op", "_law_one", "_law_two"]) fun _ _ _ _ _ _ us hl => match us, hl with | [_, _, _], _ => rfl
  have F_law := fun_mk (st := s_law) l_law c_law k_law
  have B_law := F_law.binds (ps := ["_law_script"]) fun _ _ _ _ _ _ us hl => match us, hl with | [_], _ => rfl
  have F_SignSet_Minit : FunD K "__init__" "SignSet.__init__" (defArgs s_SignSet_Minit) (defBody s_SignSet_Minit) (defScope s_SignSet_Minit) [.str ""] [] f_SignSet_Minit _ := ⟨⟨_, _, _, _, _, _, _, _, _, _, rfl, l_SignSet_Minit, c_SignSet_Minit, .inr ⟨by decide, _, _, [.str "" u0_SignSet_Minit], _, rfl, d_SignSet_Minit, rfl, .cons ⟨_, rfl⟩ (.nil)⟩, .inl rfl⟩, k_SignSet_Minit⟩
  obtain ⟨ds_SignSet_Minit, vs_SignSet_Minit, B_SignSet_Minit⟩ := F_SignSet_Minit.binds1 (ps := ["self", "signs"]) 2 1 (by decide) (by decide) fun T kV doc pm an cdv ct us its h1 h2 => match us, h1, its, h2 with | [_, _], _, [_], _ => ⟨_, rfl, rfl⟩
  obtain rfl : ds_SignSet_Minit = [] := by cases vs_SignSet_Minit; rfl
  have F_SignSet_members := fun_mk (st := s_SignSet_members) l_SignSet_members c_SignSet_members k_SignSet_members
  have B_SignSet_members := F_SignSet_members.binds (ps := ["self"]) fun _ _ _ _ _ _ us hl => match us, hl with | [_], _ => rfl
  have F_SignSet_Mor := fun_mk (st := s_SignSet_Mor) l_SignSet_Mor c_SignSet_Mor k_SignSet_Mor
  have B_SignSet_Mor := F_SignSet_Mor.binds (ps := ["self", "other"]) fun _ _ _ _ _ _ us hl => match us, hl with | [_, _], _ => rfl
  have F_SignSet_Mand := fun_mk (st := s_SignSet_Mand) l_SignSet_Mand c_SignSet_Mand k_SignSet_Mand
  have B_SignSet_Mand := F_SignSet_Mand.binds (ps := ["self", "other"]) fun _ _ _ _ _ _ us hl => match us, hl with | [_, _], _ => rfl
  have F_SignSet_Msub := fun_mk (st := s_SignSet_Msub) l_SignSet_Msub c_SignSet_Msub k_SignSet_Msub
  have B_SignSet_Msub := F_SignSet_Msub.binds (ps := ["self", "other"]) fun _ _ _ _ _ _ us hl => match us, hl with | [_, _], _ => rfl
  have F_SignSet_Minvert := fun_mk (st := s_SignSet_Minvert) l_SignSet_Minvert c_SignSet_Minvert k_SignSet_Minvert
  have B_SignSet_Minvert := F_SignSet_Minvert.binds (ps := ["self"]) fun _ _ _ _ _ _ us hl => match us, hl with | [_], _ => rfl
  have F_SignSet_Mcontains := fun_mk (st := s_SignSet_Mcontains) l_SignSet_Mcontains c_SignSet_Mcontains k_SignSet_Mcontains
  have B_SignSet_Mcontains := F_SignSet_Mcontains.binds (ps := ["self", "sign"]) fun _ _ _ _ _ _ us hl => match us, hl with | [_, _], _ => rfl
  let T : Top K mg := ⟨_, _, F_Ldraw, B_Ldraw, PySem.W.mg_of X G a_Ldraw, _, _, F_Lnext, B_Lnext, PySem.W.mg_of X G a_Lnext, _, _, F_Lsigns, B_Lsigns, PySem.W.mg_of X G a_Lsigns, _, _, F_Lsubset, B_Lsubset, PySem.W.mg_of X G a_Lsubset, _, _, F_Lnear, B_Lnear, PySem.W.mg_of X G a_Lnear, _, _, F_Lspelt, B_Lspelt, PySem.W.mg_of X G a_Lspelt, _, _, F_Lis, B_Lis, PySem.W.mg_of X G a_Lis, _, _, F_Lcombined, B_Lcombined, PySem.W.mg_of X G a_Lcombined, _, _, F_Lcarried_out, B_Lcarried_out, PySem.W.mg_of X G a_Lcarried_out, _, _, F_law, B_law, PySem.W.mg_of X G a_law, _, PySem.W.mg_of X G ac_SignSet, ⟨⟨pg_SignSet, hd_SignSet, po_SignSet, sa_SignSet⟩, ha_SignSet, hn_SignSet, ht_SignSet, hm_SignSet, kit_self⟩, sf_SignSet, na_SignSet_members, _, _, F_SignSet_Minit, B_SignSet_Minit, ⟨mk_SignSet, a_SignSet_Minit, i_SignSet_Minit, kc_SignSet⟩, _, _, F_SignSet_members, B_SignSet_members, _, ⟨a_SignSet_members, g_SignSet_members, t_SignSet_members, ⟨_, r_SignSet_members⟩⟩, _, _, F_SignSet_Mor, B_SignSet_Mor, a_SignSet_Mor, i_SignSet_Mor, _, _, F_SignSet_Mand, B_SignSet_Mand, a_SignSet_Mand, i_SignSet_Mand, _, _, F_SignSet_Msub, B_SignSet_Msub, a_SignSet_Msub, i_SignSet_Msub, _, _, F_SignSet_Minvert, B_SignSet_Minvert, a_SignSet_Minvert, i_SignSet_Minvert, _, _, F_SignSet_Mcontains, B_SignSet_Mcontains, a_SignSet_Mcontains, i_SignSet_Mcontains, _, PySem.W.mg_of X G v_SIGNS, PySem.W.mg_none_of X G z_int, PySem.W.mg_none_of X G z_isinstance, PySem.W.mg_none_of X G z_len, PySem.W.mg_none_of X G z_range, PySem.W.mg_none_of X G z_set, PySem.W.mg_none_of X G z_sorted, PySem.W.mg_none_of X G z_str⟩
  exact ⟨PySem.W.fnOf "law" "law" (defArgs s_law) (defBody s_law) (defScope s_law) .none kV_law dc_law pm_law an_law cd_law ct_law, fun s v => .of_eq rfl, fun base _ _ => ok_law T⟩
end My
open PySem PySem.W PyProof.Rows in
set_option maxRecDepth 100000 in
set_option maxHeartbeats 0 in
theorem PySem.Challenge.cw_surespan_k00_set_algebra_holds : PySem.Challenge.rw_surespan_k00_set_algebra.Holds := by
  w_on; o_law; k_head; (case hw => w_witness2)
  k_fill
  refine L2.walk_of (l := PySem.Challenge.rw_surespan_k00_set_algebra) (n := 63) (k := 5) (x := "_law_script") (CX := fun _ => L2.CX0) (sp := fun w => My.sp_law _) rfl (by decide) rfl ⟨rfl, by decide, by decide⟩ (fun w h Y => PySem.W.kIn_of Y) ?F (fun _ _ a ns hl _ hS => ⟨a, ns, rfl, hS, hl, fun _ => rfl⟩) (fun _ _ _ _ _ h => h)
  case F =>
    intro w mg fa h KX G hmg
    refine' My.all_mk KX G hmg ?a_Ldraw ?l_Ldraw ?c_Ldraw ?k_Ldraw ?a_Lnext ?l_Lnext ?c_Lnext ?k_Lnext ?a_Lsigns ?l_Lsigns ?c_Lsigns ?k_Lsigns ?a_Lsubset ?l_Lsubset ?c_Lsubset ?k_Lsubset ?a_Lnear ?l_Lnear ?c_Lnear ?k_Lnear ?a_Lspelt ?l_Lspelt ?c_Lspelt ?k_Lspelt ?a_Lis ?l_Lis ?c_Lis ?k_Lis ?a_Lcombined ?l_Lcombined ?c_Lcombined ?k_Lcombined ?a_Lcarried_out ?l_Lcarried_out ?c_Lcarried_out ?k_Lcarried_out ?a_law ?l_law ?c_law ?k_law ?ac_SignSet ?pg_SignSet ?hd_SignSet ?po_SignSet ?sa_SignSet ?mk_SignSet ?kc_SignSet ?sf_SignSet ?ha_SignSet ?hn_SignSet ?ht_SignSet ?hm_SignSet ?na_SignSet_members ?a_SignSet_Minit ?i_SignSet_Minit ?l_SignSet_Minit ?c_SignSet_Minit ?k_SignSet_Minit ?d_SignSet_Minit ?a_SignSet_members ?g_SignSet_members ?t_SignSet_members ?r_SignSet_members ?l_SignSet_members ?c_SignSet_members ?k_SignSet_members ?a_SignSet_Mor ?i_SignSet_Mor ?l_SignSet_Mor ?c_SignSet_Mor ?k_SignSet_Mor ?a_SignSet_Mand ?i_SignSet_Mand ?l_SignSet_Mand ?c_SignSet_Mand ?k_SignSet_Mand ?a_SignSet_Msub ?i_SignSet_Msub ?l_SignSet_Msub ?c_SignSet_Msub ?k_SignSet_Msub ?a_SignSet_Minvert ?i_SignSet_Minvert ?l_SignSet_Minvert ?c_SignSet_Minvert ?k_SignSet_Minvert ?a_SignSet_Mcontains ?i_SignSet_Mcontains ?l_SignSet_Mcontains ?c_SignSet_Mcontains ?k_SignSet_Mcontains ?v_SIGNS ?z_int ?z_isinstance ?z_len ?z_range ?z_set ?z_sorted ?z_str
    (case a_Ldraw => k_is)
    (case l_Ldraw => k_is)
    (case c_Ldraw => k_is)
    (case k_Ldraw => k_is)
    (case a_Lnext => k_is)
    (case l_Lnext => k_is)
    (case c_Lnext => k_is)
    (case k_Lnext => k_is)
    (case a_Lsigns => k_is)
    (case l_Lsigns => k_is)
    (case c_Lsigns => k_is)
    (case k_Lsigns => k_is)
    (case a_Lsubset => k_is)
    (case l_Lsubset => k_is)
    (case c_Lsubset => k_is)
    (case k_Lsubset => k_is)
    (case a_Lnear => k_is)
    (case l_Lnear => k_is)
    (case c_Lnear => k_is)
    (case k_Lnear => k_is)
    (case a_Lspelt => k_is)
    (case l_Lspelt => k_is)
    (case c_Lspelt => k_is)
    (case k_Lspelt => k_is)
    (case a_Lis => k_is)
    (case l_Lis => k_is)
    (case c_Lis => k_is)
    (case k_Lis => k_is)
    (case a_Lcombined => k_is)
    (case l_Lcombined => k_is)
    (case c_Lcombined => k_is)
    (case k_Lcombined => k_is)
    (case a_Lcarried_out => k_is)
    (case l_Lcarried_out => k_is)
    (case c_Lcarried_out => k_is)
    (case k_Lcarried_out => k_is)
    (case a_law => k_is)
    (case l_law => k_is)
    (case c_law => k_is)
    (case k_law => k_is)
    (case ac_SignSet => k_is)
    (case pg_SignSet => k_is)
    (case hd_SignSet => k_is)
    (case po_SignSet => k_is)
    (case sa_SignSet => k_is)
    (case mk_SignSet => k_is)
    (case kc_SignSet => k_is)
    (case sf_SignSet => k_is)
    (case ha_SignSet => k_is)
    (case hn_SignSet => k_is)
    (case ht_SignSet => k_is)
    (case hm_SignSet => k_is)
    (case na_SignSet_members => k_is)
    (case a_SignSet_Minit => k_is)
    (case i_SignSet_Minit => k_is)
    (case l_SignSet_Minit => k_is)
    (case c_SignSet_Minit => k_is)
    (case k_SignSet_Minit => k_is)
    (case d_SignSet_Minit => k_is)
    (case a_SignSet_members => k_is)
    (case g_SignSet_members => k_is)
    (case t_SignSet_members => k_is)
    (case r_SignSet_members => k_is)
    (case l_SignSet_members => k_is)
    (case c_SignSet_members => k_is)
    (case k_SignSet_members => k_is)
    (case a_SignSet_Mor => k_is)
    (case i_SignSet_Mor => k_is)
    (case l_SignSet_Mor => k_is)
    (case c_SignSet_Mor => k_is)
    (case k_SignSet_Mor => k_is)
    (case a_SignSet_Mand => k_is)
    (case i_SignSet_Mand => k_is)
    (case l_SignSet_Mand => k_is)
    (case c_SignSet_Mand => k_is)
    (case k_SignSet_Mand => k_is)
    (case a_SignSet_Msub => k_is)
    (case i_SignSet_Msub => k_is)
    (case l_SignSet_Msub => k_is)
    (case c_SignSet_Msub => k_is)
    (case k_SignSet_Msub => k_is)
    (case a_SignSet_Minvert => k_is)
    (case i_SignSet_Minvert => k_is)
    (case l_SignSet_Minvert => k_is)
    (case c_SignSet_Minvert => k_is)
    (case k_SignSet_Minvert => k_is)
    (case a_SignSet_Mcontains => k_is)
    (case i_SignSet_Mcontains => k_is)
    (case l_SignSet_Mcontains => k_is)
    (case c_SignSet_Mcontains => k_is)
    (case k_SignSet_Mcontains => k_is)
    (case v_SIGNS => k_is)
    (case z_int => k_is)
    (case z_isinstance => k_is)
    (case z_len => k_is)
    (case z_range => k_is)
    (case z_set => k_is)
    (case z_sorted => k_is)
    (case z_str => k_is)
