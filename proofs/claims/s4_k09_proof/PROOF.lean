import PyProof.Rows.All
import Wide.All
import OpenK.AllK
import Wide.FinOn
import HandS.ForMost
import HandS.Wide
import HandS.StrMore
import HandS.IsInst
import HandS.Style
import HandS.EndBits
import HandS.Codes
import KE.LtData
import HandS.Replace
import HandS.Set
import HandS.SetTxt0
import HandS.SetFor
import KE.SortData
import HandS.Strs
import HandS.Property
import HandS.Defaults
import HandS.IterVal
import HandS.ClsMeth
import HandS.OwnIter
import HandS.Steps
import PySem.Challenge.RW_surespan_k09_written_set
set_option Elab.async false
set_option linter.all false
set_option maxRecDepth 100000
namespace My
open PySem L2
/-! ### normal forms of readings -/
theorem ex_some {α : Type} {a : α} {p : α → Prop} : (∃ v, (some (some a) : Option (Option α)) = some (some v) ∧ p v) ↔ p a :=
  ⟨fun ⟨_, e, h⟩ => by cases e; exact h, fun h => ⟨a, rfl, h⟩⟩
theorem ex_int {a : Int} {p : Int → Prop} : (∃ v, V.int a = V.int v ∧ p v) ↔ p a :=
  ⟨fun ⟨_, e, h⟩ => by cases e; exact h, fun h => ⟨a, rfl, h⟩⟩
/-- all that is tracked but at d stands -/
def But (d : Addr) (H H' : Hp) : Prop := ∀ b o, b ≠ d → H b = some o → H' b = some o
theorem But.refl (d : Addr) (H : Hp) : But d H H := fun _ _ _ h => h
theorem But.trans {d : Addr} {H H1 H2 : Hp} (a : But d H H1) (b : But d H1 H2) : But d H H2 := fun c o n h => b c o n (a c o n h)
theorem But.of {d : Addr} {H H' : Hp} (a : Same H H') : But d H H' := fun c o _ h => a c o h
theorem same_upd {H : Hp} {p : Addr} {o : HO} (h : H p = none) : Same H (upd H p o) := fun b x e => by
  rw [upd_ne (ne_of_none e h)]; exact e
theorem But.put {d : Addr} {H : Hp} {o : HO} : But d H (upd H d o) := fun c u n h => by rw [upd_ne n]; exact h
theorem But.new {d : Addr} {H H1 : Hp} {p : Addr} {o : HO} (a : But d H H1) (h : H1 p = none) : But d H (upd H1 p o) := a.trans (.of (same_upd h))
/-- the draw list at d, its digits at l -/
def Drw (H : Hp) (d l : Addr) : Prop := ∃ (a b c : Int) (ds : List Int), d ≠ l ∧ H d = some (.lst [.int a, .int b, .int c, .ref l, .int 3]) ∧ H l = some (.lst (ds.map V.int)) ∧ 0 ≤ a
theorem Drw.same {H H' : Hp} {d l : Addr} (h : Drw H d l) (s : Same H H') : Drw H' d l := by
  obtain ⟨a, b, c, ds, n, h1, h2, h3⟩ := h
  exact ⟨a, b, c, ds, n, s _ _ h1, s _ _ h2, h3⟩
theorem Drw.new {H : Hp} {d l p : Addr} {o : HO} (h : Drw H d l) (n : H p = none) : Drw (upd H p o) d l := h.same (same_upd n)
theorem Drw.ne {H : Hp} {d l p : Addr} (h : Drw H d l) (n : H p = none) : p ≠ d := by
  obtain ⟨a, b, c, ds, n', h1, h2, h3⟩ := h
  exact fun q => by rw [q, h1] at n; cases n
theorem Drw.nel {H : Hp} {d l p : Addr} (h : Drw H d l) (n : H p = none) : p ≠ l := by
  obtain ⟨a, b, c, ds, n', h1, h2, h3⟩ := h
  exact fun q => by rw [q, h2] at n; cases n
/-- another object than the draw's is written -/
theorem Drw.put {H : Hp} {d l p : Addr} {o : HO} (h : Drw H d l) (n1 : p ≠ d) (n2 : p ≠ l) : Drw (upd H p o) d l := by
  obtain ⟨a, b, c, ds, n', h1, h2, h3⟩ := h
  exact ⟨a, b, c, ds, n', (upd_ne n1.symm).trans h1, (upd_ne n2.symm).trans h2, h3⟩
/-! ### texts by their signs -/
def tx (cs : List Nat) : Str := ⟨cs.toArray⟩
theorem tx_cps (cs : List Nat) : (tx cs).cps.toList = cs := rfl
theorem tx_len (cs : List Nat) : (tx cs).length = cs.length := by simp [tx, Str.length]
theorem tx_of (s : Str) : tx s.cps.toList = s := by cases s; simp [tx]
theorem tx_eq {a b : List Nat} : (tx a = tx b) = (a = b) := by
  apply propext
  constructor
  · intro h
    have := congrArg (fun s : Str => s.cps.toList) h
    simpa [tx] using this
  · intro h; rw [h]
theorem sg_tx (c : Nat) : (⟨#[c]⟩ : Str) = tx [c] := rfl
theorem tx_app (a b : List Nat) : tx a ++ tx b = tx (a ++ b) := by
  show (⟨(tx a).cps ++ (tx b).cps⟩ : Str) = tx (a ++ b)
  simp [tx]
theorem tx_cut (cs : List Nat) (lo hi : Option Int) : cutS (tx cs) lo hi = tx ((cs.drop (HT.sIx cs.length 0 lo)).take (HT.sIx cs.length cs.length hi - HT.sIx cs.length 0 lo)) := by
  unfold cutS
  rw [tx_len, tx_cps]
  rfl
theorem join_tx (ps : List (List Nat)) : Txt.join (tx []) (ps.map tx) = tx ps.flatten := by
  rw [TL.join_eq]
  have h : ∀ ps : List (List Nat), Str.join (tx []) (ps.map tx) = tx ps.flatten := by
    intro ps
    induction ps with
    | nil => rfl
    | cons p r ih =>
      cases r with
      | nil => simp [Str.join]
      | cons q r =>
        show tx p ++ tx [] ++ Str.join (tx []) ((q :: r).map tx) = _
        rw [ih, tx_app, tx_app]
        simp
  exact h ps
theorem join_signs (cs : List Nat) : Txt.join (tx []) (cs.map fun c => tx [c]) = tx cs := by
  have h := join_tx (cs.map fun c => [c])
  rw [List.map_map] at h
  have e : (cs.map fun c => [c]).flatten = cs := by
    clear h
    induction cs with
    | nil => rfl
    | cons c r ih => rw [List.map_cons, List.flatten_cons, ih]; rfl
  rw [e] at h
  exact h
/-- a statement and the rest, with a word between -/
abbrev tCut (t u : TS) : TS := C8.tCut t u
theorem pss_cut {X : Cx} {st : Stmt} {rest : List Stmt} {t u : TS} (h1 : PS X st t) (h2 : PSs X rest u) : PSs X (st :: rest) (tCut t u) := C8.pss_cut h1 h2
/-! ### loops and comprehensions -/
def ForJ (J : It) (g : TG) (tb : TS) (D : Ends) (σ : St) (H1 : Hp) : Prop := ∃ W : Nat → Nat → St → Hp → Prop, (∃ m, W 0 m σ H1) ∧ ∀ i m σ H, W i m σ H →
  (J.stop i H ∧ D.nx σ H) ∨ (J.go i H ∧ ∃ N : St → Hp → Prop, (∀ σ' H', N σ' H' → ∃ m', m' < m ∧ W (i + 1) m' σ' H') ∧ ∀ x H', J.yld i H x H' → g x σ H' fun σ2 H2 => tb { D with nx := N, ct := N, bk := D.nx } σ2 H2)
theorem tFor_eq (wi : TI) (g : TG) (tb : TS) (D : Ends) (σ : St) (H : Hp) : tFor wi g tb D σ H = wi σ H fun J H1 => ForJ J g tb D σ H1 := rfl
def LcJ (J : It) (g : TG) (tt : TT) (te : TE) (vs : List Nat) (σ : St) (H1 : Hp) (Q : VK) : Prop := ∀ D, H1 D = none → ∃ W : Nat → Nat → Hp → Prop, (∃ m, W 0 m (upd H1 D (.lst []))) ∧ ∀ i m H, W i m H →
  (J.stop i H ∧ Q (.ref D) H) ∨ (J.go i H ∧ ∃ Nx : Hp → Prop, (∀ H', Nx H' → ∃ m', m' < m ∧ W (i + 1) m' H') ∧ ∀ x H', J.yld i H x H' → g x (wipe σ vs) H' fun σ2 H2 => wipe σ2 vs = wipe σ vs ∧ tt σ2 H2 fun b H3 =>
    if b = true then te σ2 H3 fun y H4 => ∃ acc, H4 D = some (.lst acc) ∧ acc.length < sizeLine ∧ Nx (upd H4 D (.lst (acc ++ [y]))) else Nx H3)
theorem tLc_eq (wi : TI) (g : TG) (tt : TT) (te : TE) (vs : List Nat) (σ : St) (H : Hp) (Q : VK) : tLc wi g tt te vs σ H Q = wi σ H fun J H1 => LcJ J g tt te vs σ H1 Q := rfl
/-- an iterator that goes through a fixed list -/
structure Reg {α : Type} (J : It) (its : List α) (item : α → V) (G : Hp → Prop) : Prop where
  go : ∀ i H, i < its.length → G H → J.go i H
  stop : ∀ i H, its.length ≤ i → G H → J.stop i H
  yld : ∀ i a H x H', its[i]? = some a → G H → J.yld i H x H' → H' = H ∧ x = item a
theorem reg_text (cs : List Nat) : Reg (Its (tx cs)) cs (fun c => .str (tx [c])) (fun _ => True) := by
  have hs : (tx cs).cps.size = cs.length := by simp [tx]
  refine ⟨fun i H h _ => ?_, fun i H h _ => ?_, fun i a H x H' h _ hy => ?_⟩
  · show i < (tx cs).cps.size; rw [hs]; exact h
  · show (tx cs).cps.size ≤ i; rw [hs]; exact h
  · obtain ⟨rfl, c, hc, rfl⟩ := hy
    refine ⟨rfl, ?_⟩
    have : (tx cs).cps[i]? = cs[i]? := by simp [tx]
    rw [this, h] at hc
    cases hc
    rfl
theorem reg_range (lo : Int) (n : Nat) : Reg (Itr lo n) (List.range n) (fun i => .int (lo + (i : Nat))) (fun _ => True) := by
  refine ⟨fun i H h _ => ?_, fun i H h _ => ?_, fun i a H x H' h _ hy => ?_⟩
  · rw [List.length_range] at h; exact h
  · rw [List.length_range] at h; exact h
  · obtain ⟨rfl, rfl⟩ := hy
    refine ⟨rfl, ?_⟩
    have : i < n := by
      have := (List.getElem?_eq_some_iff.mp h).1
      rw [List.length_range] at this; exact this
    rw [List.getElem?_range this] at h
    cases h
    rfl
theorem reg_list (K : PySem.W.Frag) (a : Addr) (xs : List V) : Reg (Itl K a) xs id (fun H => SqL K H a xs) := by
  refine ⟨fun i H h hq => ⟨xs, xs[i], hq, by simp [h]⟩, fun i H h hq => ⟨xs, hq, h⟩, fun i v H x H' h hq hy => ?_⟩
  obtain ⟨rfl, f⟩ := hy
  have := f xs hq
  rw [h] at this
  cases this
  exact ⟨rfl, rfl⟩
theorem forJ_by {α : Type} {J : It} {its : List α} {item : α → V} {G : Hp → Prop} (R : Reg J its item G) {g : TG} {tb : TS} {D : Ends} {σ : St} {H : Hp} (Pv : Nat → St → Hp → Prop) (hG : ∀ i σ H, Pv i σ H → G H) (h0 : Pv 0 σ H)
    (hs : ∀ i a σ H, its[i]? = some a → Pv i σ H → g (item a) σ H fun σ2 H2 => tb { D with nx := Pv (i + 1), ct := Pv (i + 1), bk := D.nx } σ2 H2) (hd : ∀ σ H, Pv its.length σ H → D.nx σ H) : ForJ J g tb D σ H := by
  refine ⟨fun i m σ H => m = its.length - i ∧ i ≤ its.length ∧ Pv i σ H, ⟨its.length, by simp, Nat.zero_le _, h0⟩, ?_⟩
  rintro i m σ H ⟨rfl, hi, p⟩
  by_cases hlt : i < its.length
  · refine .inr ⟨R.go i H hlt (hG _ _ _ p), Pv (i + 1), fun σ' H' p' => ⟨its.length - (i + 1), by omega, rfl, hlt, p'⟩, fun x H' y => ?_⟩
    obtain ⟨rfl, rfl⟩ := R.yld i its[i] H x H' (List.getElem?_eq_getElem hlt) (hG _ _ _ p) y
    exact hs i _ σ _ (List.getElem?_eq_getElem hlt) p
  · have e : i = its.length := by omega
    subst e
    exact .inl ⟨R.stop _ H (Nat.le_refl _) (hG _ _ _ p), hd σ H p⟩
theorem lcJ_by {α : Type} {J : It} {its : List α} {item : α → V} {G : Hp → Prop} (R : Reg J its item G) {k : Nat} {tt : TT} {te : TE} {σ : St} {H1 : Hp} {Q : VK} (Pv : Addr → Nat → Hp → Prop) (hG : ∀ D i H, H1 D = none → Pv D i H → G H) (h0 : ∀ D, H1 D = none → Pv D 0 (upd H1 D (.lst [])))
    (hs : ∀ D i a H, H1 D = none → its[i]? = some a → Pv D i H → tt ((σ.set k none).set k (some (item a))) H fun b H3 =>
      if b = true then te ((σ.set k none).set k (some (item a))) H3 fun y H4 => ∃ acc, H4 D = some (.lst acc) ∧ acc.length < sizeLine ∧ Pv D (i + 1) (upd H4 D (.lst (acc ++ [y]))) else Pv D (i + 1) H3)
    (hd : ∀ D H, H1 D = none → Pv D its.length H → Q (.ref D) H) : LcJ J (gName k) tt te [k] σ H1 Q := by
  intro D hD
  refine ⟨fun i m H => m = its.length - i ∧ i ≤ its.length ∧ Pv D i H, ⟨its.length, by simp, Nat.zero_le _, h0 D hD⟩, ?_⟩
  rintro i m H ⟨rfl, hi, p⟩
  by_cases hlt : i < its.length
  · refine .inr ⟨R.go i H hlt (hG _ _ _ hD p), Pv D (i + 1), fun H' p' => ⟨its.length - (i + 1), by omega, rfl, hlt, p'⟩, fun x H' y => ?_⟩
    obtain ⟨rfl, rfl⟩ := R.yld i its[i] H x H' (List.getElem?_eq_getElem hlt) (hG _ _ _ hD p) y
    refine ⟨?_, hs D i _ _ hD (List.getElem?_eq_getElem hlt) p⟩
    show ((σ.set k none).set k _).set k none = σ.set k none
    rw [List.set_set, List.set_set]
  · have e : i = its.length := by omega
    subst e
    exact .inl ⟨R.stop _ H (Nat.le_refl _) (hG _ _ _ hD p), hd D H hD p⟩
/-- a comprehension that reads and makes values alone -/
theorem lcJ_pure {α : Type} {J : It} {its : List α} {item : α → V} {G : Hp → Prop} (R : Reg J its item G) {k : Nat} {tt : TT} {te : TE} {σ : St} {H1 : Hp} {Q : VK} (p : α → Bool) (f : α → V) (hn : its.length ≤ sizeLine)
    (hG : ∀ D acc, H1 D = none → G (upd H1 D (.lst acc)))
    (hT : ∀ a D acc Q, a ∈ its → H1 D = none → Q (p a) (upd H1 D (.lst acc)) → tt ((σ.set k none).set k (some (item a))) (upd H1 D (.lst acc)) Q)
    (hE : ∀ a D acc Q, a ∈ its → p a = true → H1 D = none → Q (f a) (upd H1 D (.lst acc)) → te ((σ.set k none).set k (some (item a))) (upd H1 D (.lst acc)) Q)
    (h : ∀ D, H1 D = none → Q (.ref D) (upd H1 D (.lst ((its.filter p).map f)))) : LcJ J (gName k) tt te [k] σ H1 Q := by
  refine lcJ_by R (fun D i H => H = upd H1 D (.lst (((its.take i).filter p).map f))) ?_ ?_ ?_ ?_
  · rintro D i H hD rfl; exact hG D _ hD
  · intro D hD; simp
  · rintro D i a H hD hi rfl
    have hlt : i < its.length := (List.getElem?_eq_some_iff.mp hi).1
    have hm : a ∈ its := List.mem_of_getElem? hi
    have ht : its.take (i + 1) = its.take i ++ [a] := by rw [List.take_add_one, hi]; rfl
    refine hT a D _ _ hm hD ?_
    by_cases hp : p a = true
    · rw [hp, if_pos rfl]
      refine hE a D _ _ hm hp hD ⟨_, upd_same, ?_, ?_⟩
      · rw [List.length_map]
        refine Nat.lt_of_le_of_lt (List.length_filter_le _ _) ?_
        rw [List.length_take]
        omega
      · rw [upd_upd, ht, List.filter_append, List.map_append]
        simp [hp]
    · rw [if_neg hp, ht, List.filter_append]
      simp [hp]
  · rintro D H hD rfl
    rw [List.take_length]
    exact h D hD
theorem sq_upd {K : PySem.W.Frag} {H : Hp} {D : Addr} {xs : List V} : SqL K (upd H D (.lst xs)) D xs := .inl (.inl upd_same)
end My
namespace My
open PySem L2
/-! ### one sign in a text -/
/-- the first place of a sign -/
def fi (c : Nat) : List Nat → Nat
  | [] => 0
  | a :: r => if a = c then 0 else fi c r + 1
theorem fi_lt {c : Nat} : ∀ {cs : List Nat}, c ∈ cs → fi c cs < cs.length
  | [], h => by cases h
  | a :: r, h => by
    unfold fi
    by_cases e : a = c
    · rw [if_pos e]; simp
    · rw [if_neg e]
      have : c ∈ r := by
        rcases List.mem_cons.mp h with q | q
        · exact absurd q.symm e
        · exact q
      have := fi_lt this
      simp; exact this
theorem fi_get {c : Nat} : ∀ {cs : List Nat}, c ∈ cs → cs[fi c cs]? = some c
  | [], h => by cases h
  | a :: r, h => by
    unfold fi
    by_cases e : a = c
    · rw [if_pos e, e]; rfl
    · rw [if_neg e]
      have : c ∈ r := by
        rcases List.mem_cons.mp h with q | q
        · exact absurd q.symm e
        · exact q
      rw [List.getElem?_cons_succ]
      exact fi_get this
theorem fi_before {c : Nat} : ∀ {cs : List Nat} {i : Nat}, i < fi c cs → cs[i]? ≠ some c
  | [], i, h => by simp [fi] at h
  | a :: r, i, h => by
    unfold fi at h
    by_cases e : a = c
    · rw [if_pos e] at h; omega
    · rw [if_neg e] at h
      cases i with
      | zero => simpa using e
      | succ i => rw [List.getElem?_cons_succ]; exact fi_before (by omega)
theorem occ_full (s sub : Str) (hi : Nat) : ∀ (l : List Nat) (st : Array Nat × Nat), st.fst.size = 1 → (forIn l st (StrLaws.occBody s sub hi 1)).run.fst = st.fst
  | [], st, h => rfl
  | a :: l, st, h => by
    rw [List.forIn_cons]
    unfold StrLaws.occBody
    have hn : ¬ (((st.fst.size < 1 ∧ st.snd ≤ a) ∧ a + sub.length ≤ hi) ∧ Builtin.Str.subAt s sub a = true) := fun q => by omega
    rw [if_neg hn]
    exact occ_full s sub hi l _ h
theorem occ_first (cs : List Nat) (c : Nat) : ∀ (m a free : Nat), free ≤ a → (∀ i, a ≤ i → i < a + m → cs[i]? ≠ some c) ∧ (forIn (List.range' a m) ((#[] : Array Nat), free) (StrLaws.occBody (tx cs) (tx [c]) (tx cs).length 1)).run.fst = #[] ∨
    ∃ k, a ≤ k ∧ k < a + m ∧ cs[k]? = some c ∧ (∀ i, a ≤ i → i < k → cs[i]? ≠ some c) ∧ (forIn (List.range' a m) ((#[] : Array Nat), free) (StrLaws.occBody (tx cs) (tx [c]) (tx cs).length 1)).run.fst = #[k]
  | 0, a, free, hf => .inl ⟨fun i h1 h2 => by omega, rfl⟩
  | m + 1, a, free, hf => by
    have one := StrLaws.subAt_one (tx cs) c a
    rw [List.range'_succ, List.forIn_cons]
    unfold StrLaws.occBody
    by_cases hc : cs[a]? = some c
    · have q := one.mpr hc
      have c1 : ((((#[] : Array Nat), free).fst.size < 1 ∧ ((#[] : Array Nat), free).snd ≤ a) ∧ a + (tx [c]).length ≤ (tx cs).length) ∧ Builtin.Str.subAt (tx cs) (tx [c]) a = true := ⟨⟨⟨by simp, hf⟩, q.1⟩, q.2⟩
      rw [if_pos c1]
      refine .inr ⟨a, Nat.le_refl _, by omega, hc, fun i h1 h2 => by omega, ?_⟩
      exact occ_full _ _ _ _ _ rfl
    · have c2 : ¬ (((((#[] : Array Nat), free).fst.size < 1 ∧ ((#[] : Array Nat), free).snd ≤ a) ∧ a + (tx [c]).length ≤ (tx cs).length) ∧ Builtin.Str.subAt (tx cs) (tx [c]) a = true) := fun h => hc (one.mp ⟨h.1.2, h.2⟩)
      rw [if_neg c2]
      rcases occ_first cs c m (a + 1) free (by omega) with ⟨h1, h2⟩ | ⟨k, k1, k2, k3, k4, k5⟩
      · refine .inl ⟨fun i i1 i2 => ?_, h2⟩
        by_cases e : i = a
        · rw [e]; exact hc
        · exact h1 i (by omega) (by omega)
      · refine .inr ⟨k, by omega, by omega, k3, fun i i1 i2 => ?_, k5⟩
        by_cases e : i = a
        · rw [e]; exact hc
        · exact k4 i (by omega) i2
theorem occ_sign (cs : List Nat) (c : Nat) : Builtin.Str.occurrences (tx cs) (tx [c]) 0 (tx cs).length 1 = if c ∈ cs then [fi c cs] else [] := by
  rw [StrLaws.occ_eq]
  have hl : (tx cs).length = cs.length := tx_len cs
  rcases occ_first cs c ((tx cs).length + 1 - 0) 0 0 (Nat.le_refl _) with ⟨h1, h2⟩ | ⟨k, k1, k2, k3, k4, k5⟩
  · rw [h2]
    have hn : c ∉ cs := fun hm => by
      have := fi_lt hm
      exact h1 (fi c cs) (Nat.zero_le _) (by omega) (fi_get hm)
    rw [if_neg hn]
  · rw [k5]
    have hm : c ∈ cs := List.mem_of_getElem? k3
    rw [if_pos hm]
    have e : k = fi c cs := by
      rcases Nat.lt_trichotomy k (fi c cs) with q | q | q
      · exact absurd k3 (fi_before q)
      · exact q
      · exact absurd (fi_get hm) (k4 _ (Nat.zero_le _) q)
    rw [e]
theorem find_sign (cs : List Nat) (c : Nat) : Txt.find (tx cs) (tx [c]) = if c ∈ cs then (fi c cs : Int) else -1 := by
  unfold Txt.find
  rw [occ_sign]
  by_cases h : c ∈ cs
  · rw [if_pos h, if_pos h]
  · rw [if_neg h, if_neg h]
/-! ### rstrip by one sign -/
def rs (c : Nat) (cs : List Nat) : List Nat := (cs.reverse.dropWhile (fun a => a == c)).reverse
theorem rs_take (c : Nat) (cs : List Nat) : cs.take (cs.length - (cs.reverse.takeWhile (fun a => a == c)).length) = rs c cs := by
  unfold rs
  have h : cs.reverse.takeWhile (fun a => a == c) ++ cs.reverse.dropWhile (fun a => a == c) = cs.reverse := List.takeWhile_append_dropWhile
  have h2 : cs = (cs.reverse.dropWhile (fun a => a == c)).reverse ++ (cs.reverse.takeWhile (fun a => a == c)).reverse := by
    rw [← List.reverse_append, h, List.reverse_reverse]
  have hl : cs.length = ((cs.reverse.dropWhile (fun a => a == c)).reverse).length + (cs.reverse.takeWhile (fun a => a == c)).length := by
    have := congrArg List.length h2
    rw [List.length_append, List.length_reverse (as := List.takeWhile _ _)] at this
    exact this
  have e : cs.length - (cs.reverse.takeWhile (fun a => a == c)).length = ((cs.reverse.dropWhile (fun a => a == c)).reverse).length := by omega
  rw [e]
  generalize (cs.reverse.dropWhile (fun a => a == c)).reverse = A at h2 ⊢
  generalize (cs.reverse.takeWhile (fun a => a == c)).reverse = B at h2
  rw [h2, List.take_left]
theorem rstrip_sign (cs : List Nat) (c : Nat) : Txt.rstripChars (tx cs) (tx [c]) = tx (rs c cs) := by
  unfold Txt.rstripChars
  rw [PyProof.Rows.stripBy_eq]
  refine TL.ext_tl ?_
  rw [TL.tl_strSub]
  show List.take ((tx cs).length - (((tx cs).cps.toList.drop 0).reverse.takeWhile (tx [c]).cps.contains).length - 0) (List.drop 0 (tx cs).cps.toList) = rs c cs
  rw [Nat.sub_zero, List.drop_zero]
  have hg : (tx [c]).cps.contains = fun a => a == c := by
    funext a
    show (#[c] : Array Nat).contains a = (a == c)
    simp [Array.contains, BEq.comm]
  rw [hg, tx_cps, tx_len]
  exact rs_take c cs
end My
namespace My
open PySem PySem.Spec PyProof.Rows L2
section
variable {X : Cx}
/-- a short text times an int -/
def rMulS : R2 := fun x y H Q => ∃ (cs : List Nat) (n : Nat), x = .str (tx cs) ∧ y = .int (n : Int) ∧ n ≤ 1000000 ∧ cs.length ≤ 16 ∧ Q (.str (tx (List.replicate n cs).flatten)) H
theorem rep_fold (cs : List Nat) (n : Nat) (a : Array Nat) : ((List.replicate n cs.toArray).foldl (· ++ ·) a) = a ++ (List.replicate n cs).flatten.toArray := by
  induction n generalizing a with
  | zero => simp
  | succ n ih =>
    rw [List.replicate_succ, List.foldl_cons, ih, List.replicate_succ, List.flatten_cons]
    simp [Array.append_assoc]
theorem line_of {n : Nat} (h : n ≤ 16777216) : n ≤ sizeLine := Nat.le_trans h (by decide)
theorem op_mul_str : OpR X (binaryOp .Mult) rMulS := by
  intro pins s σ H x y v u Q I rx ry h
  obtain ⟨cs, n, rfl, rfl, h0, hz, q⟩ := h
  obtain ⟨t, rfl⟩ := rx
  obtain ⟨t', rfl⟩ := ry
  have hL : (tx cs).length = cs.length := tx_len cs
  have hp : cs.length * n ≤ 16000000 := Nat.mul_le_mul hz h0
  have hp2 : (cs.length : Int) * (n : Int) ≤ 16000000 := by
    rw [← Int.natCast_mul]
    exact Int.ofNat_le.mpr hp
  refine PySem.P.mul_str ?_ ?_ ?_ ?_
  · rw [decide_eq_false (by omega), decide_eq_false (by omega)]; rfl
  · intro hn _ hb
    have h3 : ((cs.length : Nat) : Int) ≤ (2 ^ 63 - 1) / (n : Int) := by
      refine (Int.le_ediv_iff_mul_le (by omega)).mpr ?_
      omega
    rw [hL] at hb
    omega
  · intro _ _
    show decide (_ > sizeLine) = false
    rw [hL, Int.toNat_natCast]
    exact decide_eq_false (Nat.not_lt.mpr (line_of (by omega)))
  · by_cases hn : (n : Int) < 1
    · rw [if_pos hn]
      have e0 : n = 0 := by omega
      subst e0
      have e : tx (List.replicate 0 cs).flatten = Str.empty := rfl
      rw [e] at q
      exact ⟨line_of (by decide), ⟨.str Str.empty, H, I.tok _, ⟨_, rfl⟩, q⟩⟩
    · rw [if_neg hn]
      by_cases h2 : ((n : Int) == 1 || (tx cs).length == 0) = true
      · rw [if_pos h2]
        have e : tx (List.replicate n cs).flatten = tx cs := by
          rw [tx_eq]
          rcases Bool.or_eq_true _ _ ▸ h2 with q1 | q1
          · have : n = 1 := by
              have := eq_of_beq q1
              omega
            subst this
            simp
          · have : cs = [] := by
              have q2 := eq_of_beq q1
              rw [hL] at q2
              exact List.length_eq_zero_iff.mp q2
            subst this
            simp
        rw [e] at q
        exact ⟨.str (tx cs), H, I, ⟨_, rfl⟩, q⟩
      · rw [if_neg h2]
        have e : (⟨(List.replicate (n : Int).toNat (tx cs).cps).foldl (· ++ ·) #[]⟩ : Str) = tx (List.replicate n cs).flatten := by
          show (⟨(List.replicate (n : Int).toNat cs.toArray).foldl (· ++ ·) #[]⟩ : Str) = _
          rw [rep_fold, Int.toNat_natCast]
          simp [tx]
        rw [e]
        have hlen : (tx (List.replicate n cs).flatten).length ≤ sizeLine := by
          rw [tx_len]
          refine line_of ?_
          simp
          rw [Nat.mul_comm]
          omega
        exact ⟨hlen, ⟨.str (tx (List.replicate n cs).flatten), H, I.tok _, ⟨_, rfl⟩, q⟩⟩
/-- < of data at any depth, alike -/
def rLtD (K : PySem.W.Frag) : R2 := fun x y H Q => ∃ d e, Dp K H x d ∧ Dp K H y e ∧ PySem.W.alike d e = true ∧ d ≠ .none ∧ min d.depth e.depth ≤ 60 ∧ Q (.bl (PySem.W.dataLt d e)) H
theorem op_ltD (hu : X.A.units + 64 < cLine) : OpR X (compareOp .Lt) (rLtD X.K) := by
  intro pins s σ H x y v u Q I rx ry h
  obtain ⟨d, e, hd, he, al, hn, hdp, q⟩ := h
  obtain ⟨as, r1⟩ := Dp.reads I d x v hd rx
  obtain ⟨bs, r2⟩ := Dp.reads I e y u he ry
  exact PySem.W.rcLt_alike d e X.A s v u as bs r1 r2 al hn (by omega) _ _ _ _ ⟨.bl (PySem.W.dataLt d e), H, I, rfl, q⟩
/-- text[::-1] -/
def tRevS (te : TE) : TE := fun σ H Q => te σ H fun x H1 => ∃ cs : List Nat, x = .str (tx cs) ∧ cs.length ≤ sizeLine ∧ Q (.str (tx cs.reverse)) H1
theorem rev_pick (cs : List Nat) : ((Builtin.Str.strSliceIndices none none (-1) cs.length).filterMap (cs.toArray[·]?)) = cs.reverse := by
  have e : Builtin.Str.strSliceIndices none none (-1) cs.length = (List.range cs.length).map fun k => cs.length - 1 - k := by
    show sliceRange ((cs.length : Int) - 1) (-1) (-1) = _
    exact PySem.W.krv_sliceRange cs.length
  rw [e]
  apply List.ext_getElem?
  intro i
  rw [List.filterMap_map]
  have h2 : (List.range cs.length).filterMap (((fun x => cs.toArray[x]?) ∘ fun k => cs.length - 1 - k)) = (List.range cs.length).map (fun k => cs.getD (cs.length - 1 - k) 0) := by
    have h3 : ∀ l : List Nat, (∀ k ∈ l, k < cs.length) → l.filterMap (((fun x => cs.toArray[x]?) ∘ fun k => cs.length - 1 - k)) = l.map (fun k => cs.getD (cs.length - 1 - k) 0) := by
      intro l
      induction l with
      | nil => intro _; rfl
      | cons k r ih =>
        intro hk
        have hlt : cs.length - 1 - k < cs.length := by
          have := hk k (List.mem_cons_self ..)
          omega
        have e1 : (((fun x => cs.toArray[x]?) ∘ fun k => cs.length - 1 - k)) k = some (cs.getD (cs.length - 1 - k) 0) := by
          show cs.toArray[cs.length - 1 - k]? = _
          simp [List.getD, hlt]
        rw [List.filterMap_cons_some e1, List.map_cons, ih fun j hj => hk j (List.mem_cons_of_mem _ hj)]
    exact h3 _ fun k hk => List.mem_range.mp hk
  rw [h2, List.getElem?_map]
  by_cases hi : i < cs.length
  · rw [List.getElem?_range hi, List.getElem?_reverse hi]
    have hlt : cs.length - 1 - i < cs.length := by omega
    simp [List.getD, hlt]
  · rw [List.getElem?_eq_none (by simp; omega), List.getElem?_eq_none (by simp; omega)]
    rfl
theorem pe_revS {e : Expr} {te : TE} {k : Nat} {p1 p2 p3 pos : Pos} (he : PE X e te) : PE X (.Subscript e (.Slice none none (some (.UnaryOp .USub (.Constant (.int 1) k p1) p2)) p3) pos) (tRevS te) := by
  refine ⟨fun pins s σ H Q I h => ?_⟩
  refine Subscript_ (thn (he.run pins s σ H _ I h) fun v s1 ⟨x, H1, I1, r1, q1⟩ => ?_)
  obtain ⟨cs, ex, hx, q⟩ := q1
  subst ex
  obtain ⟨t, rfl⟩ := r1
  have hst : PO X (some (.UnaryOp .USub (.Constant (.int 1) k p1) p2)) (tPart (tUn (rU fun i => .int (-i)) (tC (.int 1)))) := po_some (pe_un un_neg pe_int)
  refine wpAny_Slice (thn (po_none.run pins s1 σ H1 (fun o H2 => o = none ∧ H2 = H1) I1 ⟨rfl, rfl⟩) fun vl s2 ⟨l, H2, I2, pl, el, e2⟩ => ?_)
  subst el e2
  refine thn (po_none.run pins s2 σ H2 (fun o H3 => o = none ∧ H3 = H2) I2 ⟨rfl, rfl⟩) fun vu s3 ⟨u, H3, I3, pu, eu, e3⟩ => ?_
  subst eu e3
  refine thn (hst.run pins s3 σ H3 (fun o H4 => o = some (-1) ∧ H4 = H3) I3 ⟨1, rfl, -1, rfl, rfl, rfl⟩) fun vs s4 ⟨o, H4, I4, ps, eo, e4⟩ => ?_
  subst eo e4
  have I5 : Inv X pins σ H4 { s4 with heap := s4.heap.push { cls := .type "slice", data := .fields #[vl, vu, vs] } } := I4.kept (t' := s4.toks) fun b ob q => Heap.get?_push_of_some _ q
  obtain ⟨l', rfl, hl⟩ := IsPart.raw pl
  obtain ⟨u', rfl, hu⟩ := IsPart.raw pu
  obtain ⟨st', rfl, hst'⟩ := IsPart.raw ps
  show wpAny (model X.prog X.w) X.A (subscriptTail e (.Slice none none (some (.UnaryOp .USub (.Constant (.int 1) k p1) p2)) p3) (.str (tx cs) t) (.ref s4.heap.objs.size)) (EP X pins σ Q) X.xe { s4 with heap := s4.heap.push { cls := .type "slice", data := .fields #[partValue l', partValue u', partValue st'] } }
  refine tail_any (T := "str") (ops := [.str (tx cs) t, .ref s4.heap.objs.size]) (typeIs_str _ _ _) (PySem.F.slot_str_getitem.lookup) ?_ (by with_unfolding_all rfl)
  refine wpAny_getItem_str_slice (l := l') (u := u') (st := st') ⟨_, Heap.get?_push_size _ rfl, rfl, rfl⟩ (by rw [hst']; rfl) ?_
  unfold sliceMade
  rw [hst']
  rw [if_neg (by simp)]
  have e9 : slicePicked (tx cs) l' u' st' = Builtin.Str.strSliceIndices none none (-1) cs.length := by
    unfold slicePicked
    rw [hl, hu, hst', tx_len]
    rfl
  rw [e9]
  have e10 : (⟨((Builtin.Str.strSliceIndices none none (-1) cs.length).filterMap ((tx cs).cps[·]?)).toArray⟩ : Str) = tx cs.reverse := by
    show (⟨((Builtin.Str.strSliceIndices none none (-1) cs.length).filterMap (cs.toArray[·]?)).toArray⟩ : Str) = _
    rw [rev_pick]
    rfl
  rw [e10]
  refine ⟨by rw [tx_len, List.length_reverse]; exact hx, ⟨.str (tx cs.reverse), H4, I5.tok _, ⟨_, rfl⟩, q⟩⟩
/-- text.index(sign), a sign that stands there -/
theorem mt_indexS : MtR X "str.index" (fun x xs H Q => ∃ (cs : List Nat) (c : Nat), x = .str (tx cs) ∧ xs = [.str (tx [c])] ∧ c ∈ cs ∧ Q (.int (fi c cs : Nat)) H) := by
  intro pins s σ H x xs v us Q I rx rs h
  obtain ⟨cs, c, rfl, rfl, hm, q⟩ := h
  refine mt_sindex pins s σ H _ _ v us Q I rx rs ⟨tx cs, tx [c], fi c cs, [], rfl, rfl, ?_, q⟩
  rw [occ_sign, if_pos hm]
end
end My
namespace My
open PySem L2
/-! ### text order -/
def prec (a b : List Nat) : Bool := decide (a.length < b.length) || (decide (a.length = b.length) && decide (a < b))
theorem lt_pair (i j : Int) (x y : Str) : PySem.W.dataLt (.tuple [.int i, .str x]) (.tuple [.int j, .str y]) = (decide (i < j) || (decide (i = j) && decide (x.cps.toList < y.cps.toList))) := by
  rw [PySem.W.dataLt_tuple]
  by_cases e : i = j
  · subst e
    have h1 : PyData.eqv (.int i) (.int i) = true := by simp [PyData.eqv]
    rw [PySem.W.dataLt_all_yes (by simp [PySem.W.alike]) h1]
    have n1 : decide (i < i) = false := decide_eq_false (by omega)
    rw [n1, Bool.false_or, decide_eq_true rfl, Bool.true_and]
    by_cases e2 : x = y
    · subst e2
      have h2 : PyData.eqv (.str x) (.str x) = true := by simp [PyData.eqv]
      rw [PySem.W.dataLt_all_yes (by simp [PySem.W.alike]) h2, decide_eq_false (List.lt_irrefl _)]
      exact PyProof.Rows.lex_irrefl _
    · have h2 : PyData.eqv (.str x) (.str y) = false := by simp [PyData.eqv, e2]
      rw [PySem.W.dataLt_all_no (by simp [PySem.W.alike]) h2, PySem.W.dataLt_str]
  · have h1 : PyData.eqv (.int i) (.int j) = false := by simp [PyData.eqv, e]
    rw [PySem.W.dataLt_all_no (by simp [PySem.W.alike]) h1, PySem.W.dataLt_int, decide_eq_false e, Bool.false_and, Bool.or_false]
theorem atI_neg1 {α : Type} {s : List α} (h : s ≠ []) : atI s (-1) = some (s.getLast h) := by
  have := atI_last s.dropLast (s.getLast h)
  rw [List.dropLast_concat_getLast h] at this
  exact this
theorem atI_zero {α : Type} {s : List α} {c : α} {r : List α} (h : s = c :: r) : atI s 0 = some c := by
  subst h
  exact atI_nat (j := 0) rfl
theorem sIx_neg1 (n d : Nat) : HT.sIx n d (some (-1)) = n - 1 := by
  show (if (-1 : Int) < 0 then ((-1 : Int) + (n : Int)).toNat else min (-1 : Int).toNat n) = n - 1
  rw [if_pos (by decide)]
  omega
theorem cut_last (cs : List Nat) : cutS (tx cs) none (some (-1)) = tx cs.dropLast := by
  rw [tx_cut, sIx_neg1, HT.sIx_none, List.drop_zero, Nat.sub_zero, List.dropLast_eq_take]
theorem cut_to (cs : List Nat) (k : Nat) : cutS (tx cs) none (some (k : Int)) = tx (cs.take k) := by
  rw [tx_cut, HT.sIx_nat, HT.sIx_none, List.drop_zero, Nat.sub_zero]
  by_cases h : k ≤ cs.length
  · rw [Nat.min_eq_left h]
  · rw [Nat.min_eq_right (by omega), List.take_of_length_le (by omega), List.take_of_length_le (by omega)]
theorem cut_from (cs : List Nat) (k : Nat) : cutS (tx cs) (some (k : Int)) none = tx (cs.drop k) := by
  rw [tx_cut, HT.sIx_nat, HT.sIx_none]
  by_cases h : k ≤ cs.length
  · rw [Nat.min_eq_left h, List.take_of_length_le (by simp)]
  · rw [Nat.min_eq_right (by omega), List.drop_of_length_le (by omega), List.drop_of_length_le (by omega)]
    simp
theorem cut_mid (cs : List Nat) (i j : Nat) : cutS (tx cs) (some (i : Int)) (some (j : Int)) = tx ((cs.drop i).take (j - i)) := by
  rw [tx_cut, HT.sIx_nat, HT.sIx_nat, tx_eq]
  apply List.ext_getElem?
  intro k
  by_cases hi : i ≤ cs.length
  · rw [Nat.min_eq_left hi, List.getElem?_take, List.getElem?_take]
    by_cases hj : j ≤ cs.length
    · rw [Nat.min_eq_left hj]
    · rw [Nat.min_eq_right (by omega)]
      by_cases h1 : k < cs.length - i
      · rw [if_pos h1, if_pos (by omega)]
      · rw [if_neg h1]
        by_cases h2 : k < j - i
        · rw [if_pos h2, List.getElem?_eq_none (by simp; omega)]
        · rw [if_neg h2]
  · have e1 : cs.drop i = [] := List.drop_of_length_le (by omega)
    have e2 : cs.drop (min i cs.length) = [] := List.drop_of_length_le (by omega)
    rw [e1, e2]
    simp
theorem c_empty : Str.ofString "" = tx [] := by decide +kernel
theorem flat_rep (k c : Nat) : (List.replicate k [c]).flatten = List.replicate k c := by
  induction k with
  | zero => rfl
  | succ k ih => rw [List.replicate_succ, List.flatten_cons, ih, List.replicate_succ]; rfl
theorem cut_to_lit (cs : List Nat) (n : Nat) : cutS (tx cs) none (some (@OfNat.ofNat Int n instOfNat)) = tx (cs.take n) := cut_to cs n
theorem cut_from_lit (cs : List Nat) (n : Nat) : cutS (tx cs) (some (@OfNat.ofNat Int n instOfNat)) none = tx (cs.drop n) := cut_from cs n
/-! ### the following text -/
def nxt (t s : List Nat) : List Nat :=
  let kept := rs (s.getLastD 0) t
  let tail := List.replicate (t.length - kept.length) (s.headD 0)
  if kept = [] then s.headD 0 :: tail else kept.dropLast ++ [s.getD (fi (kept.getLastD 0) s + 1) 0] ++ tail
theorem rs_le (c : Nat) (t : List Nat) : (rs c t).length ≤ t.length := by
  rw [← rs_take, List.length_take]
  omega
theorem rs_sub {c a : Nat} {t : List Nat} (h : a ∈ rs c t) : a ∈ t := by
  rw [← rs_take] at h
  exact List.mem_of_mem_take h
theorem rs_last {c : Nat} {t : List Nat} (h : rs c t ≠ []) : (rs c t).getLast h ≠ c := by
  unfold rs at h ⊢
  rw [List.getLast_reverse]
  have h2 : t.reverse.dropWhile (fun a => a == c) ≠ [] := fun q => h (by rw [q]; rfl)
  have := List.head_dropWhile_not (fun a => a == c) h2
  intro q
  rw [q] at this
  simp at this
theorem fi_next {c : Nat} {s : List Nat} (hm : c ∈ s) (hs : s ≠ []) (hl : c ≠ s.getLast hs) : fi c s + 1 < s.length := by
  have h1 := fi_lt hm
  have h2 := fi_get hm
  rcases Nat.lt_or_ge (fi c s + 1) s.length with h | h
  · exact h
  · have e : fi c s = s.length - 1 := by omega
    rw [e] at h2
    have : s.getLast hs = c := by
      rw [List.getLast_eq_getElem]
      rw [List.getElem?_eq_getElem (by omega)] at h2
      exact Option.some.inj h2
    exact absurd this.symm hl
end My
namespace My
open PySem L2
/-! ### the 96 signs -/
def SG : List Nat := [9, 10, 32, 33, 34, 35, 36, 38, 39, 40, 41, 42, 43, 44, 45, 46, 47, 48, 49, 50, 51, 52, 53, 54, 55, 56, 57, 58, 59, 60, 61, 62, 63, 64, 65, 66, 67, 68, 69, 70, 71, 72, 73, 74, 75, 76, 77, 78, 79, 80, 81, 82, 83, 84, 85, 86, 87, 88, 89, 90, 91, 92, 93, 94, 95, 96, 97, 98, 99, 100, 101, 102, 103, 104, 105, 106, 107, 108, 109, 110, 111, 112, 113, 114, 115, 116, 117, 118, 119, 120, 121, 122, 123, 124, 125, 126]
theorem SG_len : SG.length = 96 := by decide +kernel
theorem SG_asc : SG.Pairwise (· < ·) := by decide +kernel
theorem sgs_tx : (("\t\n !\"#$&'()*+,-./0123456789:;<=>?@ABCDEFGHIJKLMNOPQRSTUVWXYZ[\\]^_`" : Str) ++ ("abcdefghijklmnopqrstuvwxyz{|}~" : Str)) = tx SG := by decide +kernel
theorem sgs_tx2 : ("\t\n !\"#$&'()*+,-./0123456789:;<=>?@ABCDEFGHIJKLMNOPQRSTUVWXYZ[\\]^_`abcdefghijklmnopqrstuvwxyz{|}~" : Str) = tx SG := by decide +kernel
theorem sub_len {cs : List Nat} (h : cs.Sublist SG) : cs.length ≤ 96 := by
  have := h.length_le
  rw [SG_len] at this
  exact this
theorem sub_asc {cs : List Nat} (h : cs.Sublist SG) : cs.Pairwise (· < ·) := SG_asc.sublist h
theorem line20 {n : Nat} (h : n ≤ 20000) : n ≤ sizeLine := Nat.le_trans h (by decide)
theorem toLine {n : Nat} (h : n ≤ 20000) : n < sizeLine := Nat.lt_of_le_of_lt h (by decide)
/-- the text of a list of sign texts -/
theorem sum_one (cs : List Nat) : ((cs.map fun c => tx [c]).map (·.length)).sum = cs.length := by
  induction cs with
  | nil => rfl
  | cons c r ih => rw [List.map_cons, List.map_cons, List.sum_cons, ih, tx_len, List.length_cons]; simp; omega
theorem map_signs (cs : List Nat) : cs.map (fun c => V.str (tx [c])) = (cs.map fun c => tx [c]).map V.str := by rw [List.map_map]; rfl
theorem join_room (cs : List Nat) (h : cs.length ≤ 10000) : ((cs.map fun c => tx [c]).map (·.length)).sum + (cs.map fun c => tx [c]).length * 0 ≤ 16777216 := by
  rw [sum_one]
  simp
  omega
/-- the reading of ''.join at a list of sign texts -/
theorem join_go {K : PySem.W.Frag} {H : Hp} {D : Addr} {cs : List Nat} {Q : VK} (hD : SqL K H D (cs.map fun c => V.str (tx [c]))) (h : cs.length ≤ 10000) (q : Q (.str (tx cs)) H) :
    ∃ ys : List Str, (SqL K H D (ys.map V.str) ∨ SqT K H D (ys.map V.str)) ∧ (ys.map (·.length)).sum + ys.length * 0 ≤ 16777216 ∧ Q (.str (Txt.join (tx []) ys)) H := by
  refine ⟨cs.map fun c => tx [c], .inl ?_, join_room cs h, ?_⟩
  · rw [← map_signs]; exact hD
  · rw [join_signs]; exact q
theorem join_w {K : PySem.W.Frag} {H : Hp} {D : Addr} {cs : List Nat} (hD : SqL K H D (cs.map fun c => V.str (tx [c]))) (h : cs.length ≤ 10000) :
    ∃ ys : List Str, (SqL K H D (ys.map V.str) ∨ SqT K H D (ys.map V.str)) ∧ (ys.map (·.length)).sum + ys.length * 0 ≤ 16777216 ∧ Txt.join (tx []) ys = tx cs :=
  ⟨cs.map fun c => tx [c], .inl (by rw [← map_signs]; exact hD), join_room cs h, join_signs cs⟩
theorem join_go2 {α : Type} {K : PySem.W.Frag} {H : Hp} {D : Addr} {ks : List α} {g : α → Nat} {Q : VK} (hD : SqL K H D (ks.map fun k => V.str (tx [g k]))) (h : ks.length ≤ 10000) (q : Q (.str (tx (ks.map g))) H) :
    ∃ ys : List Str, (SqL K H D (ys.map V.str) ∨ SqT K H D (ys.map V.str)) ∧ (ys.map (·.length)).sum + ys.length * 0 ≤ 16777216 ∧ Q (.str (Txt.join (tx []) ys)) H := by
  refine join_go (cs := ks.map g) ?_ (by rw [List.length_map]; exact h) q
  rw [List.map_map]
  exact hD
theorem range_map_getD (cs : List Nat) : (List.range cs.length).map (fun k => cs.getD k 0) = cs := by
  apply List.ext_getElem?
  intro i
  rw [List.getElem?_map]
  by_cases h : i < cs.length
  · rw [List.getElem?_range h, List.getElem?_eq_getElem h]
    simp [List.getD, h]
  · rw [List.getElem?_eq_none (by simp; omega), List.getElem?_eq_none (by omega)]
    rfl
theorem atI_pos {α : Type} {s : List α} {i : Int} (h0 : 0 ≤ i) (h1 : i < s.length) : ∃ j : Nat, i = (j : Int) ∧ ∃ h : j < s.length, atI s i = some s[j] := by
  obtain ⟨j, rfl⟩ := Int.eq_ofNat_of_zero_le h0
  have hj : j < s.length := by omega
  exact ⟨j, rfl, hj, atI_nat (List.getElem?_eq_getElem hj)⟩
theorem fi_asc : ∀ {s : List Nat}, s.Pairwise (· < ·) → ∀ {a b : Nat}, a ∈ s → b ∈ s → (fi a s < fi b s ↔ a < b)
  | [], _, _, _, h, _ => by cases h
  | x :: r, hp, a, b, ha, hb => by
    obtain ⟨h1, h2⟩ := List.pairwise_cons.mp hp
    unfold fi
    by_cases ea : x = a
    · rw [if_pos ea]
      by_cases eb : x = b
      · rw [if_pos eb]; omega
      · rw [if_neg eb]
        have : b ∈ r := by
          rcases List.mem_cons.mp hb with q | q
          · exact absurd q.symm eb
          · exact q
        have := h1 b this
        omega
    · rw [if_neg ea]
      have har : a ∈ r := by
        rcases List.mem_cons.mp ha with q | q
        · exact absurd q.symm ea
        · exact q
      by_cases eb : x = b
      · rw [if_pos eb]
        have := h1 a har
        omega
      · rw [if_neg eb]
        have hbr : b ∈ r := by
          rcases List.mem_cons.mp hb with q | q
          · exact absurd q.symm eb
          · exact q
        have := fi_asc h2 har hbr
        omega
/-! ### isinstance against built-in classes -/
section
variable {K : PySem.W.Frag} {H : Hp} {Q : VK}
theorem isi_bl_bool {a : Bool} (q : Q (.bl true) H) : rIsi K [.bl a, .ty "bool"] H Q := ⟨.bl a, .ty "bool", .type "bool", .type "bool", true, rfl, .ty _, .base (.bl a), kit_ty (by decide +kernel), q⟩
theorem isi_int_int {a : Int} (q : Q (.bl true) H) : rIsi K [.int a, .ty "int"] H Q := ⟨.int a, .ty "int", .type "int", .type "int", true, rfl, .ty _, .base (.int a), kit_ty (by decide +kernel), q⟩
theorem isi_int_bool {a : Int} (q : Q (.bl false) H) : rIsi K [.int a, .ty "bool"] H Q := ⟨.int a, .ty "bool", .type "int", .type "bool", false, rfl, .ty _, .base (.int a), kit_ty (by decide +kernel), q⟩
theorem isi_str_str {a : Str} (q : Q (.bl true) H) : rIsi K [.str a, .ty "str"] H Q := ⟨.str a, .ty "str", .type "str", .type "str", true, rfl, .ty _, .base (.str a), kit_ty (by decide +kernel), q⟩
end
/-! ### rules with the written part named -/
section
variable {X : Cx}
def rLenQ (K : PySem.W.Frag) : List V → Hp → VK → Prop := fun xs H Q => ∃ p ys, xs = [.ref p] ∧ (SqL K H p ys ∨ SqT K H p ys) ∧ Q (.int ys.length) H
theorem call_lenQ : CallR X (.builtin "len") (rLenQ X.K) := call_len_seq
def rListOf (K : PySem.W.Frag) : List V → Hp → VK → Prop := fun xs H Q => ∃ p ys, xs = [.ref p] ∧ (SqL K H p ys ∨ SqT K H p ys) ∧ ∀ l, H l = none → Q (.ref l) (upd H l (.lst ys))
theorem call_listOf : CallR X (.type "list") (rListOf X.K) := call_list_of
def rJoin (K : PySem.W.Frag) : V → List V → Hp → VK → Prop := fun x xs H Q => ∃ a, x = .str a ∧ ∃ p, xs = [.ref p] ∧ ∃ ys : List Str, (SqL K H p (ys.map V.str) ∨ SqT K H p (ys.map V.str)) ∧ (ys.map (·.length)).sum + ys.length * a.length ≤ 16777216 ∧ Q (.str (Txt.join a ys)) H
theorem mt_joinQ : MtR X "str.join" (rJoin X.K) := by
  intro pins s σ H x xs v us Q I rx rs h
  obtain ⟨a, e1, p, e2, ys, h1, h2, q⟩ := h
  exact mt_join pins s σ H x xs v us Q I rx rs ⟨a, p, ys, e1, e2, h1, h2, q⟩
end
end My
namespace My
open PySem L2
theorem atI_six {a0 a1 a2 a3 a4 a5 : V} {r : Int} (h0 : 0 ≤ r) (h1 : r < 6) : ∃ v, atI [a0, a1, a2, a3, a4, a5] r = some v ∧ (v = a0 ∨ v = a1 ∨ v = a2 ∨ v = a3 ∨ v = a4 ∨ v = a5) := by
  have : r = 0 ∨ r = 1 ∨ r = 2 ∨ r = 3 ∨ r = 4 ∨ r = 5 := by omega
  rcases this with rfl | rfl | rfl | rfl | rfl | rfl
  · exact ⟨a0, rfl, .inl rfl⟩
  · exact ⟨a1, rfl, .inr (.inl rfl)⟩
  · exact ⟨a2, rfl, .inr (.inr (.inl rfl))⟩
  · exact ⟨a3, rfl, .inr (.inr (.inr (.inl rfl)))⟩
  · exact ⟨a4, rfl, .inr (.inr (.inr (.inr (.inl rfl))))⟩
  · exact ⟨a5, rfl, .inr (.inr (.inr (.inr (.inr rfl))))⟩
/-- signs of a text, each by its own draw -/
theorem lc_draws {cs : List Nat} {d l : Addr} {k : Nat} {tt : TT} {te : TE} {σ : St} {H1 : Hp} {Q : VK} (hn : cs.length ≤ 20000) (hD : Drw H1 d l)
    (hT : ∀ c H (Q : Bool → Hp → Prop), c ∈ cs → Drw H d l → (∀ b H', Drw H' d l → But d H H' → Q b H') → tt ((σ.set k none).set k (some (.str (tx [c])))) H Q)
    (hE : ∀ c H (Q : VK), c ∈ cs → Q (.str (tx [c])) H → te ((σ.set k none).set k (some (.str (tx [c])))) H Q)
    (h : ∀ D H (es : List Nat), H1 D = none → es.Sublist cs → Drw H d l → But d H1 H → H D = some (.lst (es.map fun c => V.str (tx [c]))) → Q (.ref D) H) :
    LcJ (Its (tx cs)) (gName k) tt te [k] σ H1 Q := by
  obtain ⟨Pv, hP⟩ : ∃ Pv : Addr → Nat → Hp → Prop, ∀ D i H, Pv D i H ↔ ∃ es : List Nat, es.Sublist (cs.take i) ∧ Drw H d l ∧ But d H1 H ∧ H D = some (.lst (es.map fun c => V.str (tx [c]))) := ⟨_, fun _ _ _ => Iff.rfl⟩
  refine lcJ_by (reg_text cs) Pv (fun _ _ _ _ _ => trivial) (fun D hD1 => ?_) (fun D i c H hD1 hi hp => ?_) (fun D H hD1 hp => ?_)
  · exact (hP _ _ _).mpr ⟨[], List.nil_sublist _, hD.new hD1, (But.refl d H1).new hD1, upd_same⟩
  · obtain ⟨es, e1, e2, e3, e4⟩ := (hP _ _ _).mp hp
    have hm : c ∈ cs := List.mem_of_getElem? hi
    have ht : cs.take (i + 1) = cs.take i ++ [c] := by rw [List.take_add_one, hi]; rfl
    have hDd : D ≠ d := hD.ne hD1
    refine hT c H _ hm e2 fun b H' d' b' => ?_
    have hl : H' D = some (.lst (es.map fun c => V.str (tx [c]))) := b' _ _ hDd e4
    cases b with
    | false =>
      rw [if_neg Bool.false_ne_true]
      refine (hP _ _ _).mpr ⟨es, ?_, d', e3.trans b', hl⟩
      rw [ht]
      exact e1.trans (List.sublist_append_left _ _)
    | true =>
      rw [if_pos rfl]
      refine hE c H' _ hm ⟨_, hl, ?_, ?_⟩
      · rw [List.length_map]
        have h1 := e1.length_le
        have h2 : (cs.take i).length ≤ cs.length := by rw [List.length_take]; omega
        exact toLine (by omega)
      · refine (hP _ _ _).mpr ⟨es ++ [c], ?_, ?_, ?_, ?_⟩
        · rw [ht]; exact e1.append (List.Sublist.refl _)
        · exact d'.put hDd (hD.nel hD1)
        · intro b o nb e
          rw [upd_ne (ne_of_none e hD1)]
          exact b' _ _ nb (e3 _ _ nb e)
        · rw [upd_same, List.map_append]; rfl
  · obtain ⟨es, e1, e2, e3, e4⟩ := (hP _ _ _).mp hp
    rw [List.take_length] at e1
    exact h D H es hD1 e1 e2 e3 e4
/-- texts of one sign, each by its own draw -/
theorem lc_any {α : Type} {J : It} {its : List α} {item : α → V} (R : Reg J its item (fun _ => True)) {d l : Addr} {k : Nat} {te : TE} {σ : St} {H1 : Hp} {Q : VK} (S : Nat → Prop) (hn : its.length ≤ 20000) (hD : Drw H1 d l)
    (hE : ∀ a H (Q : VK), a ∈ its → Drw H d l → (∀ c H', S c → Drw H' d l → But d H H' → Q (.str (tx [c])) H') → te ((σ.set k none).set k (some (item a))) H Q)
    (h : ∀ D H (es : List Nat), H1 D = none → (∀ c ∈ es, S c) → es.length = its.length → Drw H d l → But d H1 H → H D = some (.lst (es.map fun c => V.str (tx [c]))) → Q (.ref D) H) :
    LcJ J (gName k) tYes te [k] σ H1 Q := by
  obtain ⟨Pv, hP⟩ : ∃ Pv : Addr → Nat → Hp → Prop, ∀ D i H, Pv D i H ↔ ∃ es : List Nat, (∀ c ∈ es, S c) ∧ es.length = i ∧ Drw H d l ∧ But d H1 H ∧ H D = some (.lst (es.map fun c => V.str (tx [c]))) := ⟨_, fun _ _ _ => Iff.rfl⟩
  refine lcJ_by R Pv (fun _ _ _ _ _ => trivial) (fun D hD1 => ?_) (fun D i c H hD1 hi hp => ?_) (fun D H hD1 hp => ?_)
  · exact (hP _ _ _).mpr ⟨[], by simp, rfl, hD.new hD1, (But.refl d H1).new hD1, upd_same⟩
  · obtain ⟨es, e1, e2, e3, e4, e5⟩ := (hP _ _ _).mp hp
    have hm : c ∈ its := List.mem_of_getElem? hi
    have hlt := (List.getElem?_eq_some_iff.mp hi).1
    have hDd : D ≠ d := hD.ne hD1
    simp only [tYes, ↓reduceIte]
    refine hE c H _ hm e3 fun c' H' hc d' b' => ?_
    have hl : H' D = some (.lst (es.map fun c => V.str (tx [c]))) := b' _ _ hDd e5
    refine ⟨_, hl, ?_, ?_⟩
    · rw [List.length_map]
      exact toLine (by omega)
    · refine (hP _ _ _).mpr ⟨es ++ [c'], ?_, ?_, d'.put hDd (hD.nel hD1), ?_, ?_⟩
      · intro x hx
        rcases List.mem_append.mp hx with q | q
        · exact e1 x q
        · rw [List.mem_singleton.mp q]; exact hc
      · rw [List.length_append, e2]; rfl
      · intro b o nb e
        rw [upd_ne (ne_of_none e hD1)]
        exact b' _ _ nb (e4 _ _ nb e)
      · rw [upd_same, List.map_append]; rfl
  · obtain ⟨es, e1, e2, e3, e4, e5⟩ := (hP _ _ _).mp hp
    exact h D H es hD1 e1 e2 e3 e4 e5
theorem inV_signs (c : Nat) (es : List Nat) : inV (V.str (tx [c])) (es.map fun c => V.str (tx [c])) = decide (c ∈ es) := by
  unfold inV
  rw [List.any_map]
  have h : ∀ a, ((fun y => eqV y (V.str (tx [c]))) ∘ fun c => V.str (tx [c])) a = (a == c) := by
    intro a
    show eqV (V.str (tx [a])) (V.str (tx [c])) = (a == c)
    unfold eqV
    by_cases e : a = c
    · subst e; simp
    · have e2 : ¬ tx [a] = tx [c] := fun q => e (by rw [tx_eq] at q; exact (List.cons.inj q).1)
      have e3 : (a == c) = false := beq_eq_false_iff_ne.mpr e
      rw [e3]
      simp [e2]
  induction es with
  | nil => rfl
  | cons x r ih =>
    rw [List.any_cons, h, ih, Bool.eq_iff_iff]
    simp only [Bool.or_eq_true, beq_iff_eq, decide_eq_true_eq, List.mem_cons]
    constructor
    · rintro (q | q)
      · exact .inl q.symm
      · exact .inr q
    · rintro (q | q)
      · exact .inl q.symm
      · exact .inr q
theorem flat_signs (es : List Nat) : (es.map fun c => V.str (tx [c])).all flatV = true := by
  induction es with
  | nil => rfl
  | cons x r ih => rw [List.map_cons, List.all_cons, ih]; rfl
end My
namespace My
open PySem L2
/-! ### the place of a text among all texts over a set text -/
def pl (s : List Nat) (p : Int) (t : List Nat) : Int := t.foldl (fun p c => p * (s.length : Int) + (fi c s : Int) + 1) p
def place (t s : List Nat) : Int := pl s 0 t
theorem pl_cons (s : List Nat) (p : Int) (c : Nat) (t : List Nat) : pl s p (c :: t) = pl s (p * (s.length : Int) + (fi c s : Int) + 1) t := rfl
theorem pl_app (s : List Nat) (p : Int) (a b : List Nat) : pl s p (a ++ b) = pl s (pl s p a) b := List.foldl_append ..
theorem pl_lt {s : List Nat} : ∀ {a b : List Nat} {p q : Int}, (∀ c ∈ a, c ∈ s) → a.length = b.length → p < q → pl s p a < pl s q b
  | [], [], p, q, _, _, h => h
  | [], _ :: _, _, _, _, h, _ => by simp at h
  | _ :: _, [], _, _, _, h, _ => by simp at h
  | x :: a, y :: b, p, q, ha, hl, h => by
    rw [pl_cons, pl_cons]
    refine pl_lt (fun c hc => ha c (List.mem_cons_of_mem _ hc)) (by simpa using hl) ?_
    have h1 := fi_lt (ha x (List.mem_cons_self ..))
    have h2 : (p + 1) * (s.length : Int) ≤ q * (s.length : Int) := Int.mul_le_mul_of_nonneg_right (by omega) (by omega)
    rw [Int.add_mul, Int.one_mul] at h2
    omega
theorem pl_lex {s : List Nat} (hs : s.Pairwise (· < ·)) : ∀ {a b : List Nat} (p : Int), (∀ c ∈ a, c ∈ s) → (∀ c ∈ b, c ∈ s) → a.length = b.length → a < b → pl s p a < pl s p b
  | [], [], _, _, _, _, h => absurd h (List.lt_irrefl _)
  | [], _ :: _, _, _, _, h, _ => by simp at h
  | _ :: _, [], _, _, _, h, _ => by simp at h
  | x :: a, y :: b, p, ha, hb, hl, h => by
    rw [pl_cons, pl_cons]
    have ha' : ∀ c ∈ a, c ∈ s := fun c hc => ha c (List.mem_cons_of_mem _ hc)
    have hb' : ∀ c ∈ b, c ∈ s := fun c hc => hb c (List.mem_cons_of_mem _ hc)
    have hl' : a.length = b.length := by simpa using hl
    rcases List.cons_lt_cons_iff.mp h with q | ⟨q, r⟩
    · have := (fi_asc hs (ha x (List.mem_cons_self ..)) (hb y (List.mem_cons_self ..))).mpr q
      exact pl_lt ha' hl' (by omega)
    · subst q
      exact pl_lex hs _ ha' hb' hl' r
theorem pl_pos {s : List Nat} : ∀ {a : List Nat} {p : Int}, 0 ≤ p → 0 ≤ pl s p a ∧ (a ≠ [] → 0 < pl s p a)
  | [], p, h => ⟨h, fun q => absurd rfl q⟩
  | x :: a, p, h => by
    rw [pl_cons]
    have h2 : 0 ≤ p * (s.length : Int) := Int.mul_nonneg h (by omega)
    have h3 : 0 < p * (s.length : Int) + (fi x s : Int) + 1 := by omega
    obtain ⟨i1, i2⟩ := pl_pos (s := s) (a := a) (Int.le_of_lt h3)
    refine ⟨i1, fun _ => ?_⟩
    cases a with
    | nil => exact h3
    | cons y r => exact i2 (by simp)
theorem place_shorter {s a b : List Nat} (ha : ∀ c ∈ a, c ∈ s) (h : a.length < b.length) : place a s < place b s := by
  unfold place
  have e : b = b.take (b.length - a.length) ++ b.drop (b.length - a.length) := (List.take_append_drop ..).symm
  rw [e, pl_app]
  refine pl_lt ha (by rw [List.length_drop]; omega) ?_
  refine (pl_pos (Int.le_refl 0)).2 ?_
  intro q
  have := congrArg List.length q
  rw [List.length_take] at this
  simp at this
  omega
theorem lt_tri (a b : List Nat) : a < b ∨ a = b ∨ b < a := by
  induction a generalizing b with
  | nil =>
    cases b with
    | nil => exact .inr (.inl rfl)
    | cons y r => exact .inl (List.nil_lt_cons ..)
  | cons x a ih =>
    cases b with
    | nil => exact .inr (.inr (List.nil_lt_cons ..))
    | cons y b =>
      rcases Nat.lt_trichotomy x y with h | h | h
      · exact .inl (List.cons_lt_cons_iff.mpr (.inl h))
      · subst h
        rcases ih b with q | q | q
        · exact .inl (List.cons_lt_cons_iff.mpr (.inr ⟨rfl, q⟩))
        · exact .inr (.inl (by rw [q]))
        · exact .inr (.inr (List.cons_lt_cons_iff.mpr (.inr ⟨rfl, q⟩)))
      · exact .inr (.inr (List.cons_lt_cons_iff.mpr (.inl h)))
theorem prec_iff {s a b : List Nat} (hs : s.Pairwise (· < ·)) (ha : ∀ c ∈ a, c ∈ s) (hb : ∀ c ∈ b, c ∈ s) : prec a b = true ↔ place a s < place b s := by
  have fwd : ∀ {a b : List Nat}, (∀ c ∈ a, c ∈ s) → (∀ c ∈ b, c ∈ s) → prec a b = true → place a s < place b s := by
    intro a b ha hb h
    unfold prec at h
    rw [Bool.or_eq_true, Bool.and_eq_true, decide_eq_true_eq, decide_eq_true_eq, decide_eq_true_eq] at h
    rcases h with h | ⟨h1, h2⟩
    · exact place_shorter ha h
    · exact pl_lex hs 0 ha hb h1 h2
  refine ⟨fwd ha hb, fun h => ?_⟩
  have tri : prec a b = true ∨ a = b ∨ prec b a = true := by
    unfold prec
    simp only [Bool.or_eq_true, Bool.and_eq_true, decide_eq_true_eq]
    rcases Nat.lt_trichotomy a.length b.length with q | q | q
    · exact .inl (.inl q)
    · rcases lt_tri a b with r | r | r
      · exact .inl (.inr ⟨q, r⟩)
      · exact .inr (.inl r)
      · exact .inr (.inr (.inr ⟨q.symm, r⟩))
    · exact .inr (.inr (.inl q))
  rcases tri with q | q | q
  · exact q
  · subst q; omega
  · have := fwd hb ha q
    omega
/-! ### the following text is the next in place -/
theorem fi_getD : ∀ {s : List Nat} {k : Nat}, s.Pairwise (· < ·) → (h : k < s.length) → fi s[k] s = k
  | [], _, _, h => by cases h
  | x :: r, 0, _, _ => by show (if x = x then 0 else _) = 0; rw [if_pos rfl]
  | x :: r, k + 1, hp, h => by
    obtain ⟨h1, h2⟩ := List.pairwise_cons.mp hp
    have hk : k < r.length := by simpa using h
    have hm := List.getElem_mem hk
    have hlt := h1 _ hm
    show (if x = r[k] then 0 else fi r[k] r + 1) = k + 1
    rw [if_neg (by omega), fi_getD h2 hk]
theorem pl_rep {s : List Nat} {x y : Nat} (hx : (fi x s : Int) + 1 = s.length) (hy : fi y s = 0) : ∀ (k : Nat) (p : Int), pl s (p + 1) (List.replicate k y) = pl s p (List.replicate k x) + 1
  | 0, p => rfl
  | k + 1, p => by
    rw [List.replicate_succ, List.replicate_succ, pl_cons, pl_cons]
    have e : (p + 1) * (s.length : Int) + (fi y s : Int) + 1 = (p * (s.length : Int) + (fi x s : Int) + 1) + 1 := by
      rw [hy, Int.add_mul, Int.one_mul]
      omega
    rw [e]
    exact pl_rep hx hy k _
theorem rs_split (c : Nat) (t : List Nat) : t = rs c t ++ List.replicate (t.length - (rs c t).length) c := by
  have h : t.reverse.takeWhile (fun a => a == c) ++ t.reverse.dropWhile (fun a => a == c) = t.reverse := List.takeWhile_append_dropWhile
  have h2 : t = (t.reverse.dropWhile (fun a => a == c)).reverse ++ (t.reverse.takeWhile (fun a => a == c)).reverse := by
    rw [← List.reverse_append, h, List.reverse_reverse]
  have h3 : ∀ l : List Nat, l.takeWhile (fun a => a == c) = List.replicate (l.takeWhile (fun a => a == c)).length c := by
    intro l
    induction l with
    | nil => rfl
    | cons a r ih =>
      rw [List.takeWhile_cons]
      by_cases e : (a == c) = true
      · rw [if_pos e, List.length_cons, List.replicate_succ, ← ih]
        rw [eq_of_beq e]
      · rw [if_neg e]; rfl
  have h4 := congrArg List.length h2
  rw [List.length_append, List.length_reverse (as := List.takeWhile _ _)] at h4
  have e5 : t.length - (rs c t).length = (t.reverse.takeWhile (fun a => a == c)).length := by
    unfold rs
    omega
  rw [e5]
  have h6 : (t.reverse.takeWhile (fun a => a == c)).reverse = List.replicate (t.reverse.takeWhile (fun a => a == c)).length c := by
    rw [h3 t.reverse, List.reverse_replicate, List.length_replicate]
  rw [← h6]
  exact h2
structure NxtOk (N t s : List Nat) : Prop where
  sub : ∀ c ∈ N, c ∈ s
  len : N.length ≤ t.length + 1
  place : place N s = place t s + 1
theorem nxt_ok {t s : List Nat} (hs : s ≠ []) (asc : s.Pairwise (· < ·)) (ht : ∀ c ∈ t, c ∈ s) : NxtOk (nxt t s) t s := by
  have eL : s.getLastD 0 = s.getLast hs := List.getLastD_eq_getLast? .. ▸ by rw [List.getLast?_eq_some_getLast hs]; rfl
  obtain ⟨c0, r0, es⟩ : ∃ c r, s = c :: r := by
    cases s with
    | nil => exact absurd rfl hs
    | cons c r => exact ⟨c, r, rfl⟩
  have eH : s.headD 0 = c0 := by rw [es]; rfl
  have m0 : c0 ∈ s := by rw [es]; exact List.mem_cons_self ..
  have y0 : fi c0 s = 0 := by rw [es]; show (if c0 = c0 then 0 else _) = 0; rw [if_pos rfl]
  have hpos : 0 < s.length := List.length_pos_iff.mpr hs
  have xL : (fi (s.getLast hs) s : Int) + 1 = s.length := by
    have h1 : s.getLast hs = s[s.length - 1] := List.getLast_eq_getElem ..
    rw [h1, fi_getD asc (by omega)]
    omega
  have sp := rs_split (s.getLast hs) t
  have hk := rs_le (s.getLast hs) t
  unfold nxt
  rw [eL, eH]
  generalize hkd : t.length - (rs (s.getLast hs) t).length = k at *
  by_cases h0 : rs (s.getLast hs) t = []
  · simp only [h0, ↓reduceIte]
    rw [h0, List.nil_append] at sp
    have hk0 : k = t.length := by rw [← hkd, h0]; simp
    subst hk0
    refine ⟨fun c hc => ?_, ?_, ?_⟩
    · rcases List.mem_cons.mp hc with q | q
      · rw [q]; exact m0
      · rw [List.eq_of_mem_replicate q]; exact m0
    · simp
    · unfold My.place
      rw [pl_cons, y0]
      have := pl_rep xL y0 t.length 0
      rw [← sp] at this
      simpa using this
  · have hm : (rs (s.getLast hs) t).getLast h0 ∈ s := ht _ (rs_sub (List.getLast_mem h0))
    have hf := fi_next hm hs (rs_last h0)
    have eK : (rs (s.getLast hs) t).getLastD 0 = (rs (s.getLast hs) t).getLast h0 := List.getLastD_eq_getLast? .. ▸ by rw [List.getLast?_eq_some_getLast h0]; rfl
    have eG : s.getD (fi ((rs (s.getLast hs) t).getLast h0) s + 1) 0 = s[fi ((rs (s.getLast hs) t).getLast h0) s + 1] := by
      rw [List.getD_eq_getElem?_getD, List.getElem?_eq_getElem hf]; rfl
    simp only [h0, ↓reduceIte, eK, eG, hkd]
    have dk : rs (s.getLast hs) t = (rs (s.getLast hs) t).dropLast ++ [(rs (s.getLast hs) t).getLast h0] := (List.dropLast_concat_getLast h0).symm
    refine ⟨fun c hc => ?_, ?_, ?_⟩
    · rcases List.mem_append.mp hc with q | q
      · rcases List.mem_append.mp q with q | q
        · exact ht _ (rs_sub (List.dropLast_subset _ q))
        · rw [List.mem_singleton.mp q]; exact List.getElem_mem hf
      · rw [List.eq_of_mem_replicate q]; exact m0
    · rw [List.length_append, List.length_append, List.length_dropLast, List.length_replicate]
      simp
      omega
    · unfold My.place
      have key : pl s 0 t = pl s (pl s (pl s 0 (rs (s.getLast hs) t).dropLast) [(rs (s.getLast hs) t).getLast h0]) (List.replicate k (s.getLast hs)) := by
        rw [← pl_app, ← pl_app, ← List.append_assoc, ← dk, ← sp]
      rw [key, pl_app, pl_app]
      have e1 : ∀ P : Int, pl s P [s[fi ((rs (s.getLast hs) t).getLast h0) s + 1]] = pl s P [(rs (s.getLast hs) t).getLast h0] + 1 := by
        intro P
        show P * (s.length : Int) + (fi s[fi ((rs (s.getLast hs) t).getLast h0) s + 1] s : Int) + 1 = P * (s.length : Int) + (fi ((rs (s.getLast hs) t).getLast h0) s : Int) + 1 + 1
        rw [fi_getD asc hf]
        omega
      rw [e1]
      exact pl_rep xL y0 k _
end My
namespace My
open PySem PySem.Spec PyProof.Rows PySem.Froz L2
/-! ### a set of texts: its payload, with all that a walk asks -/
def kt (e : Int × Value) : Str := match e.2 with | .str x _ => x | _ => Str.empty
structure SOk (w : World) (D : SD) (l : List Str) : Prop where
  good : ∀ e ∈ D.1.toList, ∃ x u, e = (hashStr w x, Value.str x u)
  keys : (D.1.toList.map kt).Perm l
  fit : D.2.2.fits D.1.size = true
  ris : Ris D.2.2.place.toList
  led : w.params.followText "set-order" = true ∨ D.2.2.led = true
section
variable {P : Program} {w : World} {D : SD} {l : List Str}
theorem SOk.size (F : SOk w D l) : D.1.size = l.length := by
  have := F.keys.length_eq
  rw [List.length_map, Array.length_toList] at this
  exact this
theorem SOk.tx (F : SOk w D l) : TxOk P w D l where
  el := fun e he => by
    obtain ⟨x, u, rfl⟩ := F.good e he
    exact ⟨⟨x, is_str x u, rfl⟩, rfl⟩
  mem := fun k => by
    rw [← F.keys.mem_iff, List.mem_map]
    constructor
    · rintro ⟨e, he, rfl⟩
      obtain ⟨x, u, rfl⟩ := F.good e he
      exact ⟨_, he, is_str x u⟩
    · rintro ⟨e, he, q⟩
      obtain ⟨x, u, rfl⟩ := F.good e he
      refine ⟨_, he, ?_⟩
      show x = k
      have q2 : Value.isStrOf k (.str x u) = true := q
      simpa [Value.isStrOf] using q2
  sz := F.size
  fit := F.fit
theorem SOk.nil {t : SetTable} {ep : Nat} (hf : t.fits 0 = true) (hr : Ris t.place.toList) (hl : w.params.followText "set-order" = true ∨ t.led = true) : SOk w (#[], ep, t) [] :=
  ⟨fun e he => by simp at he, List.Perm.refl _, hf, hr, hl⟩
/-- the payload behind one more text -/
theorem SOk.add (F : SOk w D l) (k : Str) (u : Tok) : SOk w (addTx (hashStr w k) (.str k u) D) (k :: l) := by
  obtain ⟨es, ep, t⟩ := D
  have pm := layNew_perm t es (hashStr w k) (.str k u)
  have f1 := layNew_fits t es (hashStr w k) (.str k u)
  have r1 := layNew_ris t es (hashStr w k) (.str k u) F.ris
  have l1 := layNew_led t es (hashStr w k) (.str k u)
  show SOk w (tailTx ep (layNew t es (hashStr w k) (.str k u)).1 (if (layNew t es (hashStr w k) (.str k u)).2.1.plain = true then { (layNew t es (hashStr w k) (.str k u)).2.1 with plain := false } else (layNew t es (hashStr w k) (.str k u)).2.1) (layNew t es (hashStr w k) (.str k u)).2.2.1) (k :: l)
  generalize layNew t es (hashStr w k) (.str k u) = Z at pm f1 r1 l1
  obtain ⟨es1, t1, wd, gv⟩ := Z
  dsimp only at pm f1 r1 l1 ⊢
  rw [Array.toList_push] at pm
  have pc : es1.toList.Perm ((hashStr w k, Value.str k u) :: es.toList) := pm.trans (List.perm_append_singleton _ _)
  have base : ∀ (es2 : Array (Int × Value)) (t2 : SetTable) (ep2 : Nat), es2.toList.Perm es1.toList → t2.fits es2.size = true → Ris t2.place.toList → (w.params.followText "set-order" = true ∨ t2.led = true) → SOk w (es2, ep2, t2) (k :: l) := by
    intro es2 t2 ep2 p2 hf2 hr2 hl2
    have p3 := p2.trans pc
    refine ⟨fun e he => ?_, ?_, hf2, hr2, hl2⟩
    · rcases List.mem_cons.mp (p3.mem_iff.mp he) with z | z
      · exact ⟨k, u, z⟩
      · exact F.good e z
    · exact (p3.map kt).trans (List.Perm.cons k F.keys)
  have ledD : w.params.followText "set-order" = true ∨ t.led = true := F.led
  have led1 : w.params.followText "set-order" = true ∨ t1.led = true := by
    rw [l1]; exact ledD
  generalize ht : (if t1.plain = true then { t1 with plain := false } else t1) = t2
  have fT : t2.fits es1.size = true := by
    rw [← ht]; split
    · exact SetTable.fits_plain_off f1
    · exact f1
  have rT : Ris t2.place.toList := by
    rw [← ht]; split <;> exact r1
  have lT : w.params.followText "set-order" = true ∨ t2.led = true := by
    rw [← ht]; split <;> exact led1
  unfold tailTx
  split
  · refine base _ _ _ (relayAll_perm _ _ _) (relayAll_fits _ _ _) (relayAll_ris _ _ _) ?_
    rw [relayAll_led]; exact lT
  · exact base _ _ _ (List.Perm.refl _) fT rT lT
end
section
variable {P : Program} {w : World} {A : Around} {E : Value → Shared → Prop} {s : Shared} {a : Addr} {D : SD} {l : List Str} {k : Str} {u : Tok}
/-- a text that is in already -/
theorem add_there {Q : Bool → Shared → Prop} (ho : s.heap.get? a = some (sObj "set" D)) (F : SOk w D l) (hk : k ∈ l) (hb : l.length < scanBound) (q : Q false s) :
    wpAny (model P w) A (setAddHashed a (.str k u) (hashStr w k)) Q E s := by
  have T : TxOk P w D l := F.tx
  have hsz := F.size
  obtain ⟨es, ep, t⟩ := D
  obtain ⟨e0, he0, z0⟩ := (T.mem k).mp hk
  unfold setAddHashed setAddHashedIn
  refine wpAny_holding (wpAny_bind (wpAny_setState_of ho rfl T.fit ?_))
  dsimp only
  rw [byScan_of (knd := strKind P w) (x := .str k u) rfl (by show es.size < scanBound; rw [show es.size = l.length from hsz]; exact hb) T.el]
  simp only [↓reduceIte]
  unfold setAddByScan
  refine wpAny_bind (wpAny_bind (wpAny_rule (wpAny_bind (wpAny_setScan_of (knd := strKind P w) (k := k) (is_str k u) ho rfl T.fit T.el ?_))))
  cases hfi : List.findIdx? (fun e => (strKind P w).is k e.2) es.toList with
  | none => exact absurd z0 (by rw [List.findIdx?_eq_none_iff.mp hfi e0 he0]; exact Bool.false_ne_true)
  | some j => exact wpAny_pure (wpAny_pure q)
/-- the set at a holds the signs of cs -/
def SX (w : World) (h : Heap) (a : Addr) (cs : List Nat) : Prop :=
  ∃ D l, h.get? a = some (sObj "set" D) ∧ SOk w D l ∧ l.Nodup ∧ (∀ x, x ∈ l ↔ ∃ c ∈ cs, x = tx [c]) ∧ l.length < scanBound
end
end My
namespace My
open PySem PySem.Spec PyProof.Rows PySem.Froz L2
section
variable {P : Program} {w : World} {A : Around} {E : Value → Shared → Prop} {s : Shared}
theorem SX.at {h h' : Heap} {a : Addr} {cs : List Nat} (R : SX w h a cs) (k : ∀ o, h.get? a = some o → h'.get? a = some o) : SX w h' a cs := by
  obtain ⟨D, l, ho, r⟩ := R
  exact ⟨D, l, k _ ho, r⟩
/-- one more sign -/
theorem SX.add {a : Addr} {cs : List Nat} {c : Nat} {u : Tok} {Q : Bool → Shared → Prop} (R : SX w s.heap a cs) (hb : cs.length + 1 < scanBound)
    (q : ∀ b h', Heap.SameBut a s.heap h' → SX w h' a (cs ++ [c]) → Q b { s with heap := h' }) : wpAny (model P w) A (setAddHashed a (.str (tx [c]) u) (hashStr w (tx [c]))) Q E s := by
  obtain ⟨D, l, ho, F, nd, hm, hl⟩ := R
  have lle : l.length ≤ cs.length := by
    have h1 : ∀ (cs : List Nat) (l : List Str), l.Nodup → (∀ x ∈ l, ∃ c ∈ cs, x = tx [c]) → l.length ≤ cs.length := by
      intro cs
      induction cs with
      | nil =>
        intro l _ h
        cases l with
        | nil => exact Nat.le_refl _
        | cons x r => obtain ⟨c, hc, _⟩ := h x (List.mem_cons_self ..); cases hc
      | cons c r ih =>
        intro l nd h
        have h2 := ih (l.erase (tx [c])) (nd.erase _) fun x hx => by
          obtain ⟨hx1, hx2⟩ := (nd.mem_erase_iff).mp hx
          obtain ⟨d, hd, e⟩ := h x hx2
          rcases List.mem_cons.mp hd with z | z
          · exact absurd (by rw [e, z]) hx1
          · exact ⟨d, z, e⟩
        have h3 := List.length_erase (a := tx [c]) (l := l)
        rw [List.length_cons]
        split at h3 <;> omega
    exact h1 cs l nd fun x hx => (hm x).mp hx
  by_cases hk : tx [c] ∈ l
  · refine add_there ho F hk hl (q _ _ (Heap.SameBut.refl a s.heap) ⟨D, l, ho, F, nd, fun x => ?_, hl⟩)
    rw [hm x]
    constructor
    · rintro ⟨d, hd, e⟩; exact ⟨d, List.mem_append_left _ hd, e⟩
    · rintro ⟨d, hd, e⟩
      rcases List.mem_append.mp hd with z | z
      · exact ⟨d, z, e⟩
      · rw [List.mem_singleton.mp z] at e
        rw [e]
        exact (hm _).mp hk
  · have room : l.length + 1 < scanBound := by omega
    refine add_x ho F.tx hk room (q _ _ ?_ ⟨_, tx [c] :: l, get_upd _ ho rfl, F.add _ _, List.nodup_cons.mpr ⟨hk, nd⟩, fun x => ?_, by rw [List.length_cons]; exact room⟩)
    · exact Heap.SameBut.update _ _ _
    · rw [List.mem_cons, hm x]
      constructor
      · rintro (z | ⟨d, hd, e⟩)
        · exact ⟨c, List.mem_append_right _ (List.mem_singleton.mpr rfl), z⟩
        · exact ⟨d, List.mem_append_left _ hd, e⟩
      · rintro ⟨d, hd, e⟩
        rcases List.mem_append.mp hd with z | z
        · exact .inr ⟨d, z, e⟩
        · rw [List.mem_singleton.mp z] at e
          exact .inl e
end
end My
namespace My
open PySem PySem.Spec PyProof.Rows PySem.Froz L2
section
variable {P : Program} {w : World} {A : Around} {E : Value → Shared → Prop} {s : Shared}
/-- the loop that takes the rest of a text's signs into the set at S -/
theorem update_text {I : Addr} {fp wr : List Addr} {G : Array GenState → Array GenState → Prop} {cs : List Nat} {St : Nat → Shared → Prop} {R : Result → Shared → Prop}
    (W : WalksS P w A.in1 I fp wr G cs.length (SignAt (tx cs)) St) (S : Addr) (hS : S ∉ fp) (hb : cs.length + 1 < scanBound) :
    ∀ (m i : Nat) (s : Shared), i + m = cs.length → St i s → SX w s.heap S (cs.take i) →
      (∀ s', Moved (S :: wr) G s s' → SX w s'.heap S cs → R (.ok (.ret .none)) s') →
      codeAny (model P w) A (.builtin "set.update.loop" ⟨[.ref S, .ref I], []⟩) R s
  | 0, i, s, hm, hst, hx, hR => by
    have hi : i = cs.length := by omega
    subst hi
    have hw : S ∉ wr := fun h => hS (W.sub _ h)
    refine codeAny_builtin PyProof.Rows.F.entry_set_update_loop ?_
    rw [Around.under_plainId PyProof.Rows.F.plain_set_update_loop _]
    refine wpAny_bind (m := pyNext (.ref I)) (W.done s _ _ hst fun s' mv => wpAny_pure (hR s' (mv.mono fun b hb => List.mem_cons_of_mem _ hb) ?_))
    rw [List.take_length] at hx
    exact hx.at fun o e => mv.heap S o hw e
  | m + 1, i, s, hm, hst, hx, hR => by
    have hi : i < cs.length := by omega
    have hw : S ∉ wr := fun h => hS (W.sub _ h)
    refine codeAny_builtin PyProof.Rows.F.entry_set_update_loop ?_
    rw [Around.under_plainId PyProof.Rows.F.plain_set_update_loop _]
    refine wpAny_bind (m := pyNext (.ref I)) (W.item i s _ _ hi hst fun v s' hv hst' mv => ?_)
    obtain ⟨c, u, hc, rfl⟩ := hv
    have hc2 : cs[i]? = some c := by
      have : (tx cs).cps[i]? = cs[i]? := by simp [tx]
      rw [← this]; exact hc
    have hx' : SX w s'.heap S (cs.take i) := hx.at fun o e => mv.heap S o hw e
    have et : cs.take (i + 1) = cs.take i ++ [c] := by rw [List.take_add_one, hc2]; rfl
    show wpAny _ A.in1 (holding [Value.str (tx [c]) u] (setAdd S (.str (tx [c]) u)) >>= _) _ _ s'
    refine wpAny_bind (wpAny_holding ?_)
    unfold setAdd
    refine wpAny_holding (wpAny_bind ((strKind P w).pyHash (k := tx [c]) (is_str _ _) ?_))
    have hlen : (cs.take i).length + 1 < scanBound := by rw [List.length_take]; omega
    refine SX.add (s := { s' with toks := s'.toks + 1 }) hx' hlen fun b h' sb hx2 => ?_
    rw [← et] at hx2
    have hst2 : St (i + 1) { s' with heap := h', toks := s'.toks + 1 } := W.frame _ s' _ _ hst' (Nat.le_succ _) fun b hb o e => by
      rw [sb.2 b fun q => hS (q ▸ hb)]; exact e
    refine wpAny_pure ⟨plainId_quiet PyProof.Rows.F.plain_set_update_loop _, update_text W S hS hb m (i + 1) _ (by omega) hst2 hx2 fun s'' mv2 hx3 => hR s'' ?_ hx3⟩
    refine Moved.trans W.gtrans ((mv.mono fun b hb => List.mem_cons_of_mem _ hb).then_heap (Nat.le_succ _) fun b o hb e => ?_) mv2
    rw [sb.2 b fun q => hb (by rw [q]; exact List.mem_cons_self ..)]
    exact e
end
end My
namespace My
open PySem PySem.Spec PyProof.Rows PySem.Froz L2
section
variable {P : Program} {w : World} {A : Around} {E : Value → Shared → Prop} {s : Shared}
/-- an empty set, as it is laid -/
abbrev set0 (w : World) : Obj := { cls := .type "set", dict := none, data := .set #[] 0 (.fresh 0 0 (!w.params.followText "set-order")) }
theorem set0_ok {h : Heap} {a : Addr} (ho : h.get? a = some (set0 w)) : SX w h a [] := by
  refine ⟨(#[], 0, .fresh 0 0 (!w.params.followText "set-order")), [], ho, SOk.nil rfl List.Pairwise.nil ?_, List.nodup_nil, fun x => by simp, by decide⟩
  show _ ∨ (!w.params.followText "set-order") = true
  cases w.params.followText "set-order"
  · exact .inr rfl
  · exact .inl rfl
/-- set(text): what the update leaves -/
def Upd (w : World) (s s' : Shared) (cs : List Nat) : Prop :=
  ∃ h' tk, s' = { s with heap := h', toks := tk } ∧ SX w h' s.heap.objs.size cs ∧ ∀ b o, s.heap.get? b = some o → h'.get? b = some o
set_option maxHeartbeats 3200000 in
theorem init_text {cs : List Nat} {t : Tok} (hh : A.handled = none) (hb : cs.length + 1 < scanBound) :
    codeAny (model P w) A (.call (.builtin "set.__init__") ⟨[.ref s.heap.objs.size, .str (tx cs) t], []⟩) (wants (fun r s₂ => r = .none ∧ Upd w s s₂ cs) E) { s with heap := s.heap.push (set0 w) } := by
  have hS : (s.heap.push (set0 w)).get? s.heap.objs.size = some (set0 w) := Heap.get?_push_size _ rfl
  have hT : Shared.TypeIs { s with heap := s.heap.push (set0 w) } (.ref s.heap.objs.size) "set" := ⟨_, hS, rfl⟩
  refine codeAny_call_builtin F.called_set.init.plain F.entry_set_init (check_set_init_1 hT ?_)
  have hs1 := F.sub_str_set
  have hs2 := F.sub_str_frozenset
  have hne : (Value.type "str" == Value.type "dict") = false := by decide
  unfold Builtin.«set.__init__» noKeywords Builtin.Frozenset.updateFrom
  generalize hPI : pyIter = PI
  wp_walk
  subst hPI
  have fin : ∀ (ty : String) (A2 : Around) (R : Result → Shared → Prop), A2.in1.handled = none → (∀ A' : Around, A'.handled = none → Walks P w A' (s.heap.push (set0 w)).objs.size [(s.heap.push (set0 w)).objs.size] [(s.heap.push (set0 w)).objs.size] (tx cs).cps.size (SignAt (tx cs)) (fun i h => h.IsStrIter (s.heap.push (set0 w)).objs.size ty (tx cs) t i)) →
      (∀ s', Upd w s s' cs → R (.ok (.ret .none)) s') → codeAny (model P w) A2 (.builtin "set.update.loop" ⟨[.ref s.heap.objs.size, .ref (s.heap.push (set0 w)).objs.size], []⟩) R
        { s with heap := (s.heap.push (set0 w)).push { cls := .type ty, data := .fields #[.str (tx cs) t, .int 0 0] } } := by
    intro ty A2 R h2 W hR
    have hz : (s.heap.push (set0 w)).objs.size = s.heap.objs.size + 1 := Heap.size_push ..
    have hcs : (tx cs).cps.size = cs.length := by simp [tx]
    have W1 := (W A2.in1 h2).toS
    rw [hcs] at W1
    refine update_text W1 s.heap.objs.size (by rw [hz]; simp) hb cs.length 0 _ (by omega) ⟨_, Heap.get?_push_size _ rfl, rfl, rfl⟩ (set0_ok (Heap.get?_push_of_some _ hS)) fun s' mv hx => ?_
    obtain ⟨h', g2, d', tk', os'⟩ := s'
    have eg : g2 = s.gens := mv.gens
    have ed : d' = s.drawn := mv.drawn
    have eo : os' = s.os := mv.os
    subst eg ed eo
    refine hR _ ⟨h', tk', rfl, hx, fun b o e => ?_⟩
    have hlt := Heap.lt_size e
    refine mv.heap b o ?_ (Heap.get?_push_of_some _ (Heap.get?_push_of_some _ e))
    rw [hz]
    simp only [List.mem_cons, List.not_mem_nil, or_false, not_or]
    exact ⟨Nat.ne_of_lt hlt, Nat.ne_of_lt (Nat.lt_succ_of_lt hlt)⟩
  cases ha : (tx cs).cps.all (· < 128)
  · refine wpAny_pyIter_wide ha (wpAny_bind (wpAny_runValue (fin "str_iterator" _ _ (by simp [hh]) (fun A' h => Walks.strWide h _ _ _) fun s' hu => ?_)))
    exact wpAny_pure (wpAny_pure ⟨rfl, hu⟩)
  · refine wpAny_pyIter_ascii ha (wpAny_bind (wpAny_runValue (fin "str_ascii_iterator" _ _ (by simp [hh]) (fun A' h => Walks.strAscii h _ _ _) fun s' hu => ?_)))
    exact wpAny_pure (wpAny_pure ⟨rfl, hu⟩)
set_option maxHeartbeats 3200000 in
theorem call_set_text {cs : List Nat} {t : Tok} {Q : Value → Shared → Prop} (hh : A.handled = none) (hb : cs.length + 1 < scanBound) (q : ∀ s', Upd w s s' cs → Q (.ref s.heap.objs.size) s') :
    wpAny (model P w) A (call (.type "set") [.str (tx cs) t]) Q E s := by
  obtain ⟨c, tl, hmro⟩ := F.called_set.mro
  have hmade := F.called_set.made
  have hsub := F.called_set.sub
  have h1 := F.called_set.notType
  have h2 := F.called_set.canCreate
  have hct := F.typeCall_set_1 (.str (tx cs) t)
  refine wpAny_call (codeAny_of_tree ?_)
  show wpAny _ _ (callAny (.type "set") _) _ _ _
  refine wpAny_pure ⟨Code.quiet_builtin _ (by decide +kernel), codeAny_builtin F.entry_type_call ?_⟩
  rw [Around.under_plain (weight_type_call_type "set" [.str (tx cs) t] []) rfl]
  repeat (any_goals (first | assumption | wp_step))
  refine codeAny_mono (code_set_led1 (.str (tx cs) t) (E := E) (Q₁ := fun obj s₁ => obj = .ref s.heap.objs.size ∧ s₁ = { s with heap := s.heap.push (set0 w) }) ⟨rfl, rfl⟩) fun r s₁ hr => ?_
  match r, hr with
  | .error e, hr => exact hr
  | .ok (.ret obj), hr =>
    obtain ⟨rfl, rfl⟩ := hr
    have hT : Shared.TypeIs { s with heap := s.heap.push (set0 w) } (.ref s.heap.objs.size) "set" := ⟨_, Heap.get?_push_size _ rfl, rfl⟩
    have hli := F.called_set.init.lookup
    have hbi := F.called_set.init.bind (.ref s.heap.objs.size)
    repeat (any_goals (first | assumption | wp_step))
    refine codeAny_mono (init_text (E := E) (t := t) (by simp [hh]) hb) fun r₂ s₂ hr₂ => ?_
    match r₂, hr₂ with
    | .error e, hr₂ => exact hr₂
    | .ok (.ret r), hr₂ =>
      obtain ⟨rfl, hu⟩ := hr₂
      repeat (any_goals (first | assumption | wp_step))
      exact q _ hu
end
end My
namespace My
open PySem PySem.Spec PyProof.Rows PySem.Froz L2
theorem each_of_mem {α β : Type} {R : α → β → Prop} {f : α → β} : ∀ {l : List α}, (∀ a ∈ l, R a (f a)) → PySem.W.EachIs R l (l.map f)
  | [], _ => .nil
  | x :: l, h => .cons (h x List.mem_cons_self) (each_of_mem fun a ha => h a (List.mem_cons_of_mem _ ha))
theorem lex_single (a b : Nat) : (([a] : List Nat) ≤ [b]) ↔ a ≤ b := by
  rw [← List.not_lt, List.cons_lt_cons_iff]
  constructor
  · intro h
    have : ¬ b < a := fun z => h (.inl z)
    omega
  · rintro h (z | ⟨_, z⟩)
    · omega
    · exact absurd z (List.not_lt_nil _)
def hd0 (x : Str) : Nat := x.cps.toList.headD 0
theorem hd0_tx (c : Nat) : hd0 (tx [c]) = c := rfl
theorem strs_of : ∀ {vs : List Value} {ks : List Str}, PySem.W.EachIs (fun v k => ∃ u, v = Value.str k u) vs ks → StrsAre vs ks
  | _, _, .nil => .nil
  | _, _, .cons ⟨u, h⟩ t => by subst h; exact .cons _ u (strs_of t)
theorem signs_lt : ∀ (ks : List Str), (∀ k ∈ ks, ∃ c, k = tx [c]) → ks.Nodup → ks.Pairwise (fun a b => a.cps.toList ≤ b.cps.toList) → (ks.map hd0).Pairwise (· < ·)
  | [], _, _, _ => List.Pairwise.nil
  | k :: r, h, nd, p => by
    obtain ⟨n1, n2⟩ := List.nodup_cons.mp nd
    obtain ⟨p1, p2⟩ := List.pairwise_cons.mp p
    refine List.pairwise_cons.mpr ⟨fun y hy => ?_, signs_lt r (fun k hk => h k (List.mem_cons_of_mem _ hk)) n2 p2⟩
    obtain ⟨z, hz, rfl⟩ := List.mem_map.mp hy
    have q := p1 z hz
    obtain ⟨c, rfl⟩ := h k List.mem_cons_self
    obtain ⟨d, rfl⟩ := h z (List.mem_cons_of_mem _ hz)
    rw [tx_cps, tx_cps, lex_single] at q
    have : c ≠ d := fun e => n1 (e ▸ hz)
    rw [hd0_tx, hd0_tx]
    omega
def vstr (v : Value) : Str := match v with | .str x _ => x | _ => Str.empty
section
variable {P : Program} {w : World} {A : Around} {E : Value → Shared → Prop} {s : Shared} {a : Addr}
theorem sorted_setTx {cs : List Nat} {Q : Value → Shared → Prop} (R : SX w s.heap a cs) (hh : A.handled = none) (hu : A.units + 16 < cLine)
    (hQ : ∀ s' p (out : Array Value) (c : Nat) (ns : List Nat), (∀ b o, s.heap.get? b = some o → s'.heap.get? b = some o) → s'.gens = s.gens → s'.os = s.os → s.heap.objs.size ≤ p →
      s'.heap.get? p = some (seqObj "list" out c) → StrsAre out.toList (ns.map fun c => tx [c]) → ns.Pairwise (· < ·) → (∀ k, k ∈ ns ↔ k ∈ cs) → ns.length < scanBound → Q (.ref p) s') :
    wpAny (model P w) A (call (.builtin "sorted") [.ref a]) Q E s := by
  obtain ⟨⟨es, ep, t⟩, l, ho, F, nd, hm, hl⟩ := R
  refine Calls.call_function_entry kind_sorted plain_sorted entry_sorted (args_sorted1 _) ?_
  unfold Builtin.«sorted»
  refine wpAny_bind (m := checkCount "sorted" 1 1 _) (wpAny_pure ?_)
  refine wpAny_bind (collect_set (A := A.in1) hh ⟨_, ho, rfl, rfl⟩ F.fit (by rw [show es.size = l.length from F.size]; exact hl) F.ris F.led fun s1 vs k1 hz g1 o1 pm => ?_)
  have hg : ∀ v ∈ vs, ∃ x u, v = Value.str x u := fun v hv => by
    obtain ⟨e, he, q⟩ := List.mem_map.mp (pm.mem_iff.mp hv)
    obtain ⟨x, u, rfl⟩ := F.good e he
    exact ⟨x, u, q.symm⟩
  have pk : (vs.map vstr).Perm l := by
    have q := pm.map vstr
    rw [List.map_map] at q
    exact q.trans F.keys
  have hvl : vs.length = l.length := by
    have := pk.length_eq
    rwa [List.length_map] at this
  have hsl : l.length ≤ sizeLine := by
    rw [sizeLine_eq]
    have : scanBound = 4096 := by rfl
    omega
  refine wpAny_bind (wpAny_newList ?_ (by rw [hvl]; exact hsl))
  have hoL : (s1.heap.push (seqObj "list" vs.toArray 0)).get? s1.heap.objs.size = some (seqObj "list" vs.toArray 0) := Heap.get?_push_size _ rfl
  refine wpAny_bind (wpAny_holding (PySem.W.list_sort_data (enc := PyData.str) (bs := vs.map vstr) (R := fun v k => ∃ u, v = Value.str k u) hoL
    (each_of_mem fun v hv => by obtain ⟨x, u, rfl⟩ := hg v hv; exact ⟨u, rfl⟩)
    (each_of_mem fun v hv => by obtain ⟨x, u, rfl⟩ := hg v hv; exact ⟨[], .str x u, by simp⟩)
    (PySem.W.AllAlike.of fun b b' => by simp [PySem.W.alike]) (PySem.W.Sortable.others fun b => ⟨by simp, by simp⟩) (by rw [List.length_map, hvl]; exact hsl) (fun b _ => by simp [PyData.depth]; omega) fun out ho2 eo => ?_))
  have et := PySem.W.dataLe_str (fun k : Str => k)
  have eo2 : PySem.W.EachIs (fun v k => ∃ u, v = Value.str k u) out ((vs.map vstr).mergeSort fun a b => decide (a.cps.toList ≤ b.cps.toList)) := by rw [← et]; exact eo
  have pw : ((vs.map vstr).mergeSort fun a b => decide (a.cps.toList ≤ b.cps.toList)).Pairwise (fun a b => decide (a.cps.toList ≤ b.cps.toList) = true) :=
    List.pairwise_mergeSort (fun a b c h1 h2 => by
      simp only [decide_eq_true_eq] at h1 h2 ⊢
      exact List.le_trans h1 h2) (fun a b => by
      simp only [Bool.or_eq_true, decide_eq_true_eq]
      exact List.le_total _ _) _
  have pm2 : ((vs.map vstr).mergeSort fun a b => decide (a.cps.toList ≤ b.cps.toList)).Perm l := (List.mergeSort_perm _ _).trans pk
  generalize ((vs.map vstr).mergeSort fun a b => decide (a.cps.toList ≤ b.cps.toList)) = ks at eo2 pw pm2
  have each : ∀ k ∈ ks, ∃ c ∈ cs, k = tx [c] := fun k hk => (hm k).mp (pm2.mem_iff.mp hk)
  have pw2 : ks.Pairwise (fun a b => a.cps.toList ≤ b.cps.toList) := pw.imp fun h => by simpa using h
  have hlt := signs_lt ks (fun k hk => by obtain ⟨c, _, e⟩ := each k hk; exact ⟨c, e⟩) (pm2.nodup_iff.mpr nd) pw2
  have emap : (ks.map hd0).map (fun c => tx [c]) = ks := by
    rw [List.map_map]
    conv => rhs; rw [← List.map_id ks]
    refine List.map_congr_left fun k hk => ?_
    obtain ⟨c, _, rfl⟩ := each k hk
    rfl
  obtain ⟨c, hc⟩ := sortedHeap_at (vs := vs) (out := out.toArray) hoL
  refine wpAny_pure ⟨_, rfl, hQ _ s1.heap.objs.size out.toArray c (ks.map hd0) (fun b u e => ?_) g1 o1 hz hc ?_ hlt (fun k => ?_) ?_⟩
  · have q := k1 b u e
    have hlt := Heap.lt_size q
    show (sortedHeap (s1.heap.push (seqObj "list" vs.toArray 0)) s1.heap.objs.size vs out.toArray).get? b = some u
    rw [sortedHeap_old (Nat.ne_of_lt hlt) (by rw [size_push']; exact Nat.lt_succ_of_lt hlt)]
    exact Heap.get?_push_of_some _ q
  · rw [emap]
    exact strs_of eo2
  · constructor
    · intro h
      obtain ⟨x, hx, e⟩ := List.mem_map.mp h
      obtain ⟨d, hd, e2⟩ := each x hx
      rw [← e, e2]
      exact hd
    · intro h
      exact List.mem_map.mpr ⟨tx [k], pm2.mem_iff.mpr ((hm _).mpr ⟨k, h, rfl⟩), rfl⟩
  · rw [List.length_map, pm2.length_eq]
    exact hl
end
end My
namespace My
open PySem PySem.Spec PyProof.Rows PySem.Froz L2
/-- the set of the signs cs, at a -/
def SetTx (w : World) (a : Addr) (cs : List Nat) : HO := .ext fun h => SX w h a cs
section
variable {X : Cx}
theorem setTx_new {w : World} {P : Program} {H : Hp} {h : Heap} {a : Addr} {cs : List Nat} (R : SX w h a cs) : ObjOk P w H h a (SetTx w a cs) := by
  have ⟨_, _, ho, _⟩ := R
  exact ⟨R, ⟨_, ho⟩, fun h1 h2 p k => SX.at p k⟩
theorem setTx_get {pins : List (Addr × Obj)} {σ : L2.St} {H : Hp} {s : Shared} {a : Addr} {cs : List Nat} (I : Inv X pins σ H s) (ha : H a = some (SetTx X.w a cs)) : SX X.w s.heap a cs := (I.hok a _ ha).1
/-- set(text) -/
def rSetTx (w : World) : List V → Hp → VK → Prop := fun xs H Q => ∃ cs : List Nat, xs = [V.str (tx cs)] ∧ cs.length + 1 < scanBound ∧ ∀ p, H p = none → Q (.ref p) (upd H p (SetTx w p cs))
theorem cr_setTx (hc : X.calm = true) : CallR X (.type "set") (rSetTx X.w) := by
  intro pins s σ H xs us Q I r h
  obtain ⟨cs, rfl, hb, q⟩ := h
  cases r with
  | cons ry rt =>
    cases rt
    obtain ⟨tk, rfl⟩ := ry
    refine call_set_text (I.ok.hd hc) hb fun s' hu => ?_
    obtain ⟨h', tk', rfl, hx, hk⟩ := hu
    exact ⟨.ref _, upd H s.heap.objs.size (SetTx X.w s.heap.objs.size cs), I.laid (t' := tk') (fun b u e => hk b u e) (Nat.le_refl _) (setTx_new hx), rfl, q _ (I.hok.fresh (Nat.le_refl _))⟩
/-- sorted(set of signs) -/
def rSortedTx (w : World) : List V → Hp → VK → Prop := fun vs H Q => ∃ (a : Addr) (cs : List Nat), vs = [V.ref a] ∧ H a = some (SetTx w a cs) ∧
  ∀ (ns : List Nat) (p : Addr), ns.Pairwise (· < ·) → (∀ k, k ∈ ns ↔ k ∈ cs) → H p = none → Q (.ref p) (upd H p (.lst (ns.map fun c => V.str (tx [c]))))
theorem cr_sortedTx (hc : X.calm = true) (hu : X.A.units + 16 < cLine) : CallR X (.builtin "sorted") (rSortedTx X.w) := by
  intro pins s σ H vs us Q I r h
  obtain ⟨a, cs, rfl, ha, q⟩ := h
  have R := setTx_get I ha
  rw [Vals.ref1 r]
  refine sorted_setTx R (I.ok.hd hc) hu fun s' p out c ns k g o hp hg hi hs hm hl => ?_
  have hlen : (ns.map fun c => V.str (tx [c])).length ≤ sizeLine := by
    rw [List.length_map, sizeLine_eq]
    have : scanBound = 4096 := by rfl
    omega
  have hn : H p = none := I.hok.fresh hp
  have hv : Vals (ns.map fun c => V.str (tx [c])) out.toList := by
    have := vals_of_strs hi
    rwa [List.map_map] at this
  have J : Inv X pins σ (upd H p (.lst (ns.map fun c => V.str (tx [c])))) { s with heap := s'.heap, gens := s'.gens, drawn := s'.drawn, toks := s'.toks } :=
    I.call (ch := []) (Un.laid k hp hn) (I.hok.laid k hp ⟨hlen, out.toList, c, hv, hg⟩) (by rw [g]; exact I.bare) (fun _ z => nomatch z)
  have e : s' = { s with heap := s'.heap, gens := s'.gens, drawn := s'.drawn, toks := s'.toks } := by
    cases s'
    cases s
    cases o
    rfl
  rw [e]
  exact ⟨.ref p, _, J, rfl, q ns p hs hm hn⟩
end
end My
namespace My
open PySem PySem.Spec PyProof.Rows PySem.Froz L2
/-! ### operators of an own class -/
theorem back_of {P : Value → Shared → Prop} {z : V} {v : Value} {s' : Shared} (r : RelV z v) (h : P v s') : PySem.W.CmpBack P v s' := by
  cases z with
  | non => cases (show v = Value.none from r); exact h
  | bl b => cases (show v = Value.bool b from r); exact h
  | int i => obtain ⟨t, rfl⟩ := (show ∃ t, v = Value.int i t from r); exact h
  | str i => obtain ⟨t, rfl⟩ := (show ∃ t, v = Value.str i t from r); exact h
  | byt i => obtain ⟨t, rfl⟩ := (show ∃ t, v = Value.bytes i t from r); exact h
  | flt i => obtain ⟨t, rfl⟩ := (show ∃ t, v = Value.float i t from r); exact h
  | ref b => cases (show v = Value.ref b from r); exact h
  | ty b => cases (show v = Value.type b from r); exact h
section
variable {X : Cx} {CX : CXT} {k : Nat} {C f : Addr} {fd : FuncData} {ps : List Str} {sp : Sp} {E : XK}
/-- a op b, both of the class at C -/
def rOwn2 (C : Addr) (sp : Sp) (E : XK) : R2 := fun x y H Q => ∃ a dx fs b dy gs, x = .ref a ∧ y = .ref b ∧ H a = some (.ins C dx fs) ∧ H b = some (.ins C dy gs) ∧ sp [.ref a, .ref b] H Q E
theorem op_own {op : Operator} (F : FnOk X.prog X.w X.K X.mg X.base CX k f fd ps sp) (hr : Room k X.A) (hc : PySem.W.selfFirst X.K C = true) (hs : PySem.W.findIn X.K (.ref C) (PySem.dunder op.info.2) = some (some (.ref f)))
    (hf : PySem.W.isFn X.K (.ref f) = true) (hb : Binds X.K fd ps []) (hx : Passes CX X E) : OpR X (binaryOp op) (rOwn2 C sp E) := by
  intro pins s σ H x y v u Q I rx ry h
  obtain ⟨a, dx, fs, b, dy, gs, rfl, rfl, ha, hb', q⟩ := h
  cases rx
  cases ry
  obtain ⟨mA, J, _⟩ := ins_get I.hok ha
  obtain ⟨mB, J', _⟩ := ins_get I.hok hb'
  obtain ⟨od, J, _⟩ := J.look
  obtain ⟨od', J', _⟩ := J'.look
  obtain ⟨m, hF⟩ := I.fr
  refine PySem.W.binop_K hF I.ok.mod.kin J J'.type hc hs hf ?_
  refine thn (run_fn (us := [.ref a, .ref b]) (vs := [.ref a, .ref b]) F hr hb .nil hx I (.cons rfl (.cons rfl .nil)) q) fun v s' hq => ?_
  obtain ⟨z, H', I', rz, q2⟩ := hq
  exact back_of rz ⟨z, H', I', rz, q2⟩
/-- x in b, x not in b -/
def rOwnIn (C : Addr) (sp : Sp) (E : XK) (neg : Bool) : R2 := fun x y H Q => ∃ b dy gs, y = .ref b ∧ H b = some (.ins C dy gs) ∧ sp [.ref b, x] H (fun v H' => ∃ r, v = .bl r ∧ Q (.bl (xor neg r)) H') E
theorem op_ownIn (F : FnOk X.prog X.w X.K X.mg X.base CX k f fd ps sp) (hr : Room k X.A) (hs : PySem.W.findIn X.K (.ref C) "__contains__" = some (some (.ref f)))
    (hf : PySem.W.isFn X.K (.ref f) = true) (hb : Binds X.K fd ps []) (hx : Passes CX X E) : OpR X (compareOp .In) (rOwnIn C sp E false) := by
  intro pins s σ H x y v u Q I rx ry h
  obtain ⟨b, dy, gs, rfl, hb', q⟩ := h
  cases ry
  obtain ⟨mB, J', _⟩ := ins_get I.hok hb'
  obtain ⟨od', J', _⟩ := J'.look
  obtain ⟨m, hF⟩ := I.fr
  refine PySem.W.in_K hF I.ok.mod.kin J' hs hf ?_
  refine thn (run_fn (us := [.ref b, v]) (vs := [.ref b, x]) F hr hb .nil hx I (.cons rfl (.cons rx .nil)) q) fun v s' hq => ?_
  obtain ⟨z, H', I', rz, r, rfl, q2⟩ := hq
  cases rz
  exact wpAny_truthy_bool ⟨.bl _, H', I', rfl, by simpa using q2⟩
theorem op_ownNotIn (F : FnOk X.prog X.w X.K X.mg X.base CX k f fd ps sp) (hr : Room k X.A) (hs : PySem.W.findIn X.K (.ref C) "__contains__" = some (some (.ref f)))
    (hf : PySem.W.isFn X.K (.ref f) = true) (hb : Binds X.K fd ps []) (hx : Passes CX X E) : OpR X (compareOp .NotIn) (rOwnIn C sp E true) := by
  intro pins s σ H x y v u Q I rx ry h
  obtain ⟨b, dy, gs, rfl, hb', q⟩ := h
  cases ry
  obtain ⟨mB, J', _⟩ := ins_get I.hok hb'
  obtain ⟨od', J', _⟩ := J'.look
  obtain ⟨m, hF⟩ := I.fr
  refine PySem.W.notIn_K hF I.ok.mod.kin J' hs hf ?_
  refine thn (run_fn (us := [.ref b, v]) (vs := [.ref b, x]) F hr hb .nil hx I (.cons rfl (.cons rx .nil)) q) fun v s' hq => ?_
  obtain ⟨z, H', I', rz, r, rfl, q2⟩ := hq
  cases rz
  exact wpAny_truthy_bool ⟨.bl _, H', I', rfl, by simpa using q2⟩
/-- ~a -/
def rOwn1 (C : Addr) (sp : Sp) (E : XK) : V → Hp → VK → Prop := fun x H Q => ∃ a dx fs, x = .ref a ∧ H a = some (.ins C dx fs) ∧ sp [.ref a] H Q E
theorem un_ownInv (F : FnOk X.prog X.w X.K X.mg X.base CX k f fd ps sp) (hr : Room k X.A) (hs : PySem.W.findIn X.K (.ref C) "__invert__" = some (some (.ref f)))
    (hf : PySem.W.isFn X.K (.ref f) = true) (hb : Binds X.K fd ps []) (hx : Passes CX X E) : UnR X (unaryOp .Invert) (rOwn1 C sp E) := by
  intro pins s σ H x v Q I rx h
  obtain ⟨b, dy, gs, rfl, hb', q⟩ := h
  cases rx
  obtain ⟨mB, J', _⟩ := ins_get I.hok hb'
  obtain ⟨od', J', _⟩ := J'.look
  obtain ⟨m, hF⟩ := I.fr
  refine PySem.W.ksp_inv hF I.ok.mod.kin J' hs hf ?_
  exact run_fn (us := [.ref b]) (vs := [.ref b]) F hr hb .nil hx I (.cons rfl .nil) q
end
end My
namespace My
open PySem PySem.Spec PyProof.Rows PySem.Froz L2
section
variable {X : Cx} {CX : CXT} {k : Nat} {C f : Addr} {fd : FuncData} {ps : List Str} {sp : Sp} {E : XK}
/-- len(a) by an own def -/
def rOwnLen (C : Addr) (sp : Sp) (E : XK) : List V → Hp → VK → Prop := fun xs H Q => ∃ a dx fs, xs = [.ref a] ∧ H a = some (.ins C dx fs) ∧ sp [.ref a] H (fun v H' => ∃ n : Int, v = .int n ∧ 0 ≤ n ∧ n < 2 ^ 63 ∧ Q (.int n) H') E
theorem call_ownLen (F : FnOk X.prog X.w X.K X.mg X.base CX k f fd ps sp) (hr : Room (k + 1) X.A) (hs : PySem.W.findIn X.K (.ref C) "__len__" = some (some (.ref f)))
    (hf : PySem.W.isFn X.K (.ref f) = true) (hb : Binds X.K fd ps []) (hx : Passes CX X E) : CallR X (.builtin "len") (rOwnLen C sp E) := by
  intro pins s σ H xs us Q I r h
  obtain ⟨a, dx, fs, rfl, ha, q⟩ := h
  rw [Vals.ref1 r]
  obtain ⟨mA, J, _⟩ := ins_get I.hok ha
  obtain ⟨od, J, _⟩ := J.look
  obtain ⟨m, hF⟩ := I.fr
  have hl := F.len _ _ _ _ q
  refine PySem.W.len_K hF I.ok.mod.kin J hs hf (wpAny_call (codeAny_mono (F.run X.A.in1 X.stack s H ⟨[.ref a], []⟩ [.ref a] [.ref a] _ E hr.in1 I.env0.in1 (hb s [.ref a] I.kIn (by simpa using hl)) (.cons rfl .nil) q) fun r s' hq => ?_))
  cases r with
  | error e => exact hx pins σ H s e s' I hq
  | ok fl =>
    cases fl with
    | ret u =>
      obtain ⟨v, H', I3, rv, n, rfl, h0, h1, q3⟩ := I.after hq
      obtain ⟨t, rfl⟩ := rv
      exact ⟨⟨h0, h1⟩, .int n, H', I3.tok _, ⟨_, rfl⟩, q3⟩
    | next => exact False.elim hq
    | brk => exact False.elim hq
    | cont => exact False.elim hq
/-- a == y by an own def: y an instance of the class, a text, a list -/
def rOwnEq (C : Addr) (sp : Sp) (E : XK) : R2 := fun x y H Q => ∃ a dx fs, x = .ref a ∧ H a = some (.ins C dx fs) ∧ ((∃ b dy gs, y = .ref b ∧ H b = some (.ins C dy gs)) ∨ (∃ z, y = .str z) ∨ (∃ b zs, y = .ref b ∧ H b = some (.lst zs))) ∧ sp [.ref a, y] H Q E
theorem op_ownEq (F : FnOk X.prog X.w X.K X.mg X.base CX k f fd ps sp) (hr : Room k X.A) (hs : PySem.W.findIn X.K (.ref C) "__eq__" = some (some (.ref f)))
    (hf : PySem.W.isFn X.K (.ref f) = true) (h1 : PySem.W.notFirst X.K C (.type "str") = true) (h2 : PySem.W.notFirst X.K C (.type "list") = true) (hb : Binds X.K fd ps []) (hx : Passes CX X E) : OpR X (compareOp .Eq) (rOwnEq C sp E) := by
  intro pins s σ H x y v u Q I rx ry h
  obtain ⟨a, dx, fs, rfl, ha, hy, q⟩ := h
  cases rx
  obtain ⟨mA, J, _⟩ := ins_get I.hok ha
  obtain ⟨od, J, _⟩ := J.look
  obtain ⟨m, hF⟩ := I.fr
  have go : wpAny (model X.prog X.w) X.A (call (.ref f) [.ref a, u]) (PySem.W.CmpBack (EP X pins σ Q)) X.xe s := by
    refine thn (run_fn (us := [.ref a, u]) (vs := [.ref a, y]) F hr hb .nil hx I (.cons rfl (.cons ry .nil)) q) fun v s' hq => ?_
    obtain ⟨z, H', I', rz, q2⟩ := hq
    exact back_of rz ⟨z, H', I', rz, q2⟩
  show wpAny (model X.prog X.w) X.A (richCompare .Eq (.ref a) u) (EP X pins σ Q) X.xe s
  have hu : X.A.units < cLine := hr.units0
  rcases hy with ⟨b, dy, gs, rfl, hb'⟩ | ⟨z, rfl⟩ | ⟨b, zs, rfl, hb'⟩
  · cases ry
    obtain ⟨mB, J', _⟩ := ins_get I.hok hb'
    obtain ⟨od', J', _⟩ := J'.look
    exact PySem.W.cmp_K (op := .Eq) (tb := .ref C) hu hF I.ok.mod.kin J J'.type (by simp [PySem.W.notFirst]) hs hf go
  · obtain ⟨t, rfl⟩ := ry
    exact PySem.W.cmp_K (op := .Eq) (tb := .type "str") hu hF I.ok.mod.kin J (PySem.W.Looks.of_pure rfl) h1 hs hf go
  · cases ry
    obtain ⟨_, its, n, _, e⟩ := (show ObjOk X.prog X.w H s.heap b (.lst zs) from I.hok b _ hb')
    exact PySem.W.cmp_K (op := .Eq) (tb := .type "list") hu hF I.ok.mod.kin J ((PySem.W.Looks.ld e).andThen .now) h2 hs hf go
end
end My
namespace My
open PySem PySem.Spec PyProof.Rows PySem.Froz L2
/-! ### a def run at one state alone -/
theorem run_at {CX : CXT} {P : Program} {w : World} {K : PySem.W.Frag} {mg : Str → Option Value} {base : Heap} {k : Nat} {f : Addr} {x qual : Str} {st : Stmt} {fd : FuncData} {N ps : List Str}
    (D : Fun K x qual st f fd) (sc : FnScope N ps (defScope st)) {A : Around} {outer : List Env} {s : Shared} {H : Hp} {args : Args} {us : List Value} {vs : List V} {Q : VK} {E : XK}
    (room : Room (k + 1) A) (env : Env0 P w K mg base A outer s H) (bd : BindsTo s fd args (ps.zip us)) (rel : Vals vs us) (len : vs.length = ps.length)
    (body : ∀ cdv : Value, Room k (A.deeper (envOfC qual (defScope st) s.heap.objs.size f cdv)) → ∃ t, PSs (cxOf CX P w K mg base N qual (defScope st) f cdv A outer s H E) (defBody st) t ∧ t { nx := fun _ H' => Q .non H', rt := Q } (start N vs) H) :
    codeAny (model P w) A (.call (.ref f) args) (CR CX outer P w H s Q E) s := by
  obtain ⟨oc, od, kV, doc, pm, an, cdv, ct, osl, rfl, rec, cod⟩ := D.ex
  have inK : K.In s.heap := env.mod.kin.keeps fun b u e => (env.bs b u e).1
  have noLim : s.heap.NoLimit := env.mod.nolimit.keeps fun b u e => (env.bs b u e).1
  refine codeAny_call_function room.depth (inK _ _ rec) rfl sc.co sc.gen rfl (PySem.W.codeRec_of inK cod) (bd _ _ _ _ ?_)
  refine wpAny_newFunctionEnv_cells sc.kind (fun y hy => (sc.par y.1 (List.of_mem_zip (a := y.1) (b := y.2) hy).1).elim Or.inl fun q => Or.inr ⟨q, PySem.W.cellsFrom_some _ _ _ (.inl q)⟩) fun env1 he s1 new => ?_
  subst he
  refine ⟨noLim.keeps new.toInCall.keep, codeAny_func ?_⟩
  obtain ⟨t, term, read⟩ := body cdv (room.deeper _)
  have I : L2.Inv (cxOf CX P w K mg base N qual (defScope st) f cdv A outer s H E) [] (start N vs) H s1 := inv_start sc room.hd env len rel new
  refine wpAny_mono (term.run [] s1 (start N vs) H _ I read) (fun fl s' out => ?_) fun _ _ z => z
  match fl, out with
  | .ret u, ⟨v, σ', H', J, rv, q⟩ => exact ⟨v, H', J.os, J.bare, J.base, J.hok, rv, q⟩
  | .next, ⟨σ', H', J, q⟩ => exact ⟨V.non, H', J.os, J.bare, J.base, J.hok, rfl, q⟩
  | .brk, ⟨_, _, _, q⟩ => exact q.elim
  | .cont, ⟨_, _, _, q⟩ => exact q.elim
end My
namespace My
open PySem PySem.Spec PyProof.Rows PySem.Froz L2
/-- an iterator over a text, at its start -/
def StrIt (it : Addr) (x : Str) : HO := .ext fun h => ∃ (ty : String) (t : Tok), (ty = "str_ascii_iterator" ∨ ty = "str_iterator") ∧ h.IsStrIter it ty x t 0
theorem strIt_new {P : Program} {w : World} {H : Hp} {h : Heap} {it : Addr} {x : Str} {ty : String} {t : Tok} (hty : ty = "str_ascii_iterator" ∨ ty = "str_iterator") (st : h.IsStrIter it ty x t 0) : ObjOk P w H h it (StrIt it x) := by
  have ⟨o, ho, _⟩ := st
  refine ⟨⟨ty, t, hty, st⟩, ⟨o, ho⟩, fun h1 h2 ⟨ty', t', e, o', ho', r⟩ k => ⟨ty', t', e, o', k _ ho', r⟩⟩
/-! ### iter(text) -/
def rIterS (n : Nat) : List V → Hp → VK → Prop := fun xs H Q => ∃ x : Str, xs = [.str x] ∧ ∀ it, H it = none → n ≤ it → Q (.ref it) (upd H it (StrIt it x))
theorem call_iterS {X : Cx} : CallR X (.builtin "iter") (rIterS X.s_0.heap.objs.size) := by
  intro pins s σ H xs us Q I r h
  obtain ⟨x, rfl, q⟩ := h
  cases r with
  | cons ry rt =>
    cases rt
    obtain ⟨t, rfl⟩ := ry
    have fin : ∀ (ty : String), (ty = "str_ascii_iterator" ∨ ty = "str_iterator") → EP X pins σ Q (.ref s.heap.objs.size) { s with heap := s.heap.push { cls := .type ty, data := .fields #[.str x t, .int 0 0] } } := fun ty hty =>
      ⟨.ref _, _, I.laid (t' := s.toks) (fun b u e => Heap.get?_push_of_some _ e) (Nat.le_refl _) (strIt_new (x := x) (t := t) hty ⟨_, Heap.get?_push_size _ rfl, rfl, rfl⟩), rfl, q _ (I.hok.fresh (Nat.le_refl _)) I.sz⟩
    refine Calls.call_function_entry (by decide +kernel) (by decide +kernel) PySem.W.kdk_entry_iter (PySem.W.kdk_args_iter (.str x t)) ?_
    unfold Builtin.«iter»
    refine wpAny_bind (m := someArgs "iter" 1 2 _) (wpAny_of_eq (a := [Value.str x t]) (by first | rfl | kernel_rfl!) ?_)
    show wpAny _ _ (pyIter (.str x t) >>= _) _ _ s
    cases ha : x.cps.all (· < 128)
    · exact wpAny_bind (wpAny_pyIter_wide ha (wpAny_pure ⟨_, rfl, fin _ (.inr rfl)⟩))
    · exact wpAny_bind (wpAny_pyIter_ascii ha (wpAny_pure ⟨_, rfl, fin _ (.inl rfl)⟩))
/-! ### for over an own class whose __iter__ gives an iterator over a text -/
/-- what the def at f does at one entry: a new iterator over the text of the instance, everything else kept -/
def IterOk (P : Program) (w : World) (K : PySem.W.Frag) (mg : Str → Option Value) (base : Heap) (k : Nat) (C f : Addr) (S : Hp → Addr → Str → Prop) : Prop :=
  ∀ (A : Around) (outer : List Env) (s : Shared) (H : Hp) (a : Addr) (x : Str), Room k A → Env0 P w K mg base A outer s H → S H a x →
    codeAny (model P w) A (.call (.ref f) ⟨[.ref a], []⟩) (CR CX0 outer P w H s (fun v H' => ∃ it, v = .ref it ∧ H it = none ∧ s.heap.objs.size ≤ it ∧ H' = upd H it (StrIt it x)) E0) s
def iOwn (C : Addr) (S : Hp → Addr → Str → Prop) (te : TE) : TI := fun σ H R => te σ H fun v H1 => ∃ a dx fs x, v = .ref a ∧ H1 a = some (.ins C dx fs) ∧ S H1 a x ∧ R (Its x) H1
theorem pi_own {X : Cx} {k : Nat} {C f : Addr} {S : Hp → Addr → Str → Prop} {tg e : Expr} {te : TE} (he : PE X e te) (hit : IterOk X.prog X.w X.K X.mg X.base k C f S) (hr : Room k X.A) (hs : PySem.W.findIn X.K (.ref C) "__iter__" = some (some (.ref f)))
    (hf : PySem.W.isFn X.K (.ref f) = true) (hx : Passes CX0 X E0) : PI X tg e (iOwn C S te) := by
  refine ⟨fun pins s σ H R I h => ?_⟩
  refine thn (he.run pins s σ H _ I h) fun v s1 ⟨y, H1, I1, r1, a, dx, fs, x, ey, ha, hS, q⟩ => ?_
  subst ey
  cases r1
  obtain ⟨mA, J, _⟩ := ins_get I1.hok ha
  obtain ⟨od, J, _⟩ := J.look
  obtain ⟨m, hF⟩ := I1.fr
  refine PySem.W.owit_iter hF I1.ok.mod.kin J hs hf (wpAny_call (codeAny_mono (hit X.A X.stack s1 H1 a x hr I1.env0 hS) fun r s' hq => ?_))
  cases r with
  | error er => exact hx pins σ H1 s1 er s' I1 hq
  | ok fl =>
    cases fl with
    | ret u =>
      obtain ⟨v, H', I3, rv, it, rfl, hn, hsz, rfl⟩ := I1.after hq
      cases rv
      obtain ⟨⟨ty, t, hty, st⟩, _⟩ := I3.hok it _ upd_same
      have I4 := ItX.inv_drop I3 (a := it) upd_same
      have fp := ItX.inv_fp I3 (a := it) upd_same (Nat.le_trans I1.sz hsz)
      rw [ItX.dropH_upd hn] at I4 fp
      have pie : PIE X pins σ tg R (.ref it) s' := ⟨it, [it], _, _, H1, rfl, I4, turn_str it x t ty hty, st, fun b hb => by rw [List.mem_singleton.mp hb]; exact fp, q⟩
      have hT : s'.TypeIs (.ref it) ty := by
        obtain ⟨o, ho, c, _⟩ := st
        exact ⟨o, ho, c⟩
      unfold PySem.W.OwitIt
      rcases hty with rfl | rfl
      · exact wpAny_specialOf (name := Str.ofString "__next__") hT PySem.F.slot_str_ascii_iterator_next.lookup pie
      · exact wpAny_specialOf (name := Str.ofString "__next__") hT PySem.F.slot_str_iterator_next.lookup pie
    | next => exact False.elim hq
    | brk => exact False.elim hq
    | cont => exact False.elim hq
end My
namespace My
open PySem PySem.Spec PyProof.Rows PySem.Froz L2
/-! ### C.m(..), m a staticmethod of the class at C -/
structure SMet (K : PySem.W.Frag) (C : Addr) (mc : Value) (m : Str) (p g : Addr) : Prop where
  at_ : PySem.W.findCls K (.ref C) mc m = some (.get (.builtin "staticmethod.__get__") (.ref p) .none (.ref C))
  rc : ∃ rest, PySem.W.recIn K p "staticmethod" = some (.ref g :: rest)
  kp : PySem.W.keepIn K (.ref g) = true
  hd : PySem.W.handedIn (.ref g) = true
def tSMeth (C : Addr) (sp : Sp) (E : XK) (ta : TE) (t : TA) : TE := fun σ H Q => ta σ H fun x H1 => x = .ref C ∧ t σ H1 fun vs H2 => sp vs H2 Q E
section
variable {X : Cx} {CX : CXT} {k : Nat} {C p g : Addr} {mc : Value} {fd : FuncData} {ps : List Str} {sp : Sp} {E : XK} {o e : Expr} {es : List Expr} {m : Str} {pos apos : Pos} {ta : TE} {t : TA} {pl : Sem Bool}
theorem pe_smeth (he : PE X o ta) (r : ClX.CRead X.K C mc) (c : SMet X.K C mc m p g) (F : FnOk X.prog X.w X.K X.mg X.base CX k g fd ps sp) (hr : Room k X.A) (hb : Binds X.K fd ps []) (hx : Passes CX X E) (ha : PA X (e :: es) t)
    (hst : starEach (e :: es) X.env = (false, eval e X.env) :: starEach es X.env := by rfl) (hpl : (backTo pos (starEach es X.env)).any (·.1) = false := by rfl)
    (ht : eval (.Call (.Attribute o m apos) (e :: es) [] pos) X.env = (do
      let ov ← eval o X.env
      standAt apos.atName
      let (f, first) ← holding [ov] (getMethod ov m pl)
      callWith pos f first (backTo pos (starEach (e :: es) X.env)) (backToKw pos (keywordEach [] X.env))) := by rfl) :
    PE X (.Call (.Attribute o m apos) (e :: es) [] pos) (tSMeth C sp E ta t) := by
  constructor
  intro pins s σ H Q I h
  refine PySem.W.methodCall_KW (pl := pl) (thn (he.run pins s σ H _ I h) fun u s1 ⟨x, H1, I1, rx, ex, q⟩ => ?_) ht
  subst ex
  cases (show u = Value.ref C from rx)
  obtain ⟨rest, hp⟩ := c.rc
  have I2 : Inv X pins σ H1 { s1 with toks := s1.toks + 1 } := I1.tok _
  refine PySem.W.method_cls I1.kIn r.ga (PySem.W.cls_bind I1.kIn r.rd c.at_ (wpAny_call (PySem.W.sm_get (s := { s1 with toks := s1.toks + 1 }) I1.kIn hp (PySem.W.handed_on c.hd ?_))))
  refine PySem.W.callWith_K (h₀ := X.base) I2.ok.mod.kin c.kp (thn (ha.run pos pins _ σ H1 _ I2 q) fun us s2 ⟨vs, H2, I3, rv, q2⟩ => ⟨I3.kIn, ?_⟩) hst hpl
  exact run_fn F hr hb .nil hx I3 rv (by rw [List.append_nil]; exact q2)
end
end My
namespace My
open PySem PySem.Spec PyProof.Rows PySem.Froz L2
/-! ### list(a), a an instance with __len__ and with an __iter__ that gives an iterator over a text -/
def signV (x : Str) : List V := x.cps.toList.map fun c => V.str ⟨#[c]⟩
theorem line20' {n : Nat} (h : n ≤ 20000) : n ≤ sizeLine := Nat.le_trans h (by decide)
theorem signV_at {x : Str} {i : Nat} {c : Nat} (h : x.cps[i]? = some c) : (signV x).take (i + 1) = (signV x).take i ++ [V.str ⟨#[c]⟩] := by
  have e : (signV x)[i]? = some (V.str ⟨#[c]⟩) := by
    unfold signV
    rw [List.getElem?_map, Array.getElem?_toList, h]
    rfl
  rw [List.take_add_one, e]
  rfl
section
variable {X : Cx} {pins : List (Addr × Obj)} {σ : L2.St} {s : Shared} {q it : Addr} {x : Str} {ty : String} {t : Tok} {A1 : Around} {Rs : Result → Shared → Prop}
theorem sgs_loop (hty : ty = "str_ascii_iterator" ∨ ty = "str_iterator") (hh : A1.in1.handled = none) (hx : x.length ≤ 1000)
    (H0 : Hp) (hne : q ≠ it) (hH0 : H0 it = none)
    (hfin : ∀ s, L2.Inv X pins σ (upd H0 q (.lst (signV x))) s → Rs (.ok (.ret .none)) s) :
    ∀ (k i : Nat) (s : Shared), x.cps.size - i = k → i ≤ x.cps.size → L2.Inv X pins σ (upd H0 q (.lst ((signV x).take i))) s → FpOk X pins (upd H0 q (.lst ((signV x).take i))) it → s.heap.IsStrIter it ty x t i →
      codeAny (model X.prog X.w) A1 (.builtin "list.extend.loop" ⟨[.ref q, .ref it, .none], []⟩) Rs s := by
  have W : Walks X.prog X.w A1.in1 it [it] [it] x.cps.size (SignAt x) (fun i h => h.IsStrIter it ty x t i) := by
    rcases hty with e | e
    · rw [e]; exact Walks.strAscii hh it x t
    · rw [e]; exact Walks.strWide hh it x t
  intro k
  induction k with
  | zero =>
    intro i s hk hi I fp st
    have ei : i = x.cps.size := by omega
    subst ei
    refine codeAny_builtin PySem.F.entry_extend_loop ?_
    rw [Around.under_plainId PySem.F.plain_extend_loop _]
    show wpAny _ A1.in1 (pyNext (.ref it) >>= _) _ _ s
    refine wpAny_bind (W.done s _ _ st fun h' tk kk => wpAny_pure (hfin _ ?_))
    have e : (signV x).take x.cps.size = signV x := by
      rw [List.take_of_length_le]
      unfold signV
      simp
    rw [e] at I fp
    obtain ⟨f0, f1, f2, f3, f4, f5⟩ := fp
    exact I.turned (fun b o hb e => kk b o (by simpa using hb) e) f0 f1 f3 f4 f5
  | succ k ih =>
    intro i s hk hi I fp st
    have hlt : i < x.cps.size := by omega
    refine codeAny_builtin PySem.F.entry_extend_loop ?_
    rw [Around.under_plainId PySem.F.plain_extend_loop _]
    show wpAny _ A1.in1 (pyNext (.ref it) >>= _) _ _ s
    refine wpAny_bind (W.item i s _ _ hlt st fun v h' tk hv st' kk => ?_)
    obtain ⟨c, u, hc, rfl⟩ := hv
    obtain ⟨f0, f1, f2, f3, f4, f5⟩ := fp
    have I1 : L2.Inv X pins σ (upd H0 q (.lst ((signV x).take i))) { s with heap := h', toks := tk } := I.turned (fun b o hb e => kk b o (by simpa using hb) e) f0 f1 f3 f4 f5
    obtain ⟨z, its, k2, r2, hl, e⟩ := I1.lstM upd_same
    have lz : ((signV x).take i).length ≤ 1000 := by
      rw [List.length_take]
      unfold signV
      rw [List.length_map]
      have : x.cps.toList.length = x.length := by simp [Str.length]
      omega
    have hs : (1000 : Nat) + 1 ≤ sizeLine := line20' (by decide)
    show wpAny _ A1.in1 (updateSeq q (·.push (.str ⟨#[c]⟩ u)) >>= _) _ _ _
    refine wpAny_bind (wpAny_updateSeq e rfl (wpAny_pure ⟨plainId_quiet PySem.F.plain_extend_loop _, ?_⟩) (by rw [List.size_toArray]; omega) (by show (its.toArray.push (.str ⟨#[c]⟩ u)).size ≤ sizeLine + 1; rw [Array.size_push, List.size_toArray]; omega))
    have I2 := I1.lset (its' := its ++ [.str ⟨#[c]⟩ u]) (f := (·.push (.str ⟨#[c]⟩ u))) (t' := tk) upd_same e (by simp) (r2.append (.cons (show RelV (V.str ⟨#[c]⟩) (.str ⟨#[c]⟩ u) from ⟨u, rfl⟩) .nil)) (by rw [List.length_append, List.length_singleton]; omega)
    rw [L2.upd_upd, ← signV_at hc] at I2
    refine ih (i + 1) _ (by omega) (by omega) I2 ⟨?_, f1, f2, f3, f4, f5⟩ ?_
    · rw [upd_ne hne.symm]; exact hH0
    · obtain ⟨o, ho, r⟩ := st'
      exact ⟨o, (Heap.get?_update_other _ _ hne).trans ho, r⟩
end
section
variable {X : Cx} {pins : List (Addr × Obj)} {σ : L2.St} {H : Hp} {s : Shared} {a : Addr} {x : Str} {A : Around} {kL : Nat} {C fL : Addr} {fdL : FuncData} {psL : List Str} {spL : Sp}
/-- the hint of an instance with an own __len__ -/
theorem sgs_hint (sb : Sub X kL A.in1) (FL : FnOk X.prog X.w X.K X.mg X.base CX0 kL fL fdL psL spL) (hsL : PySem.W.findIn X.K (.ref C) "__len__" = some (some (.ref fL))) (hfL : PySem.W.isFn X.K (.ref fL) = true) (bL : Binds X.K fdL psL []) (hx : Passes CX0 X E0)
    (I : L2.Inv X pins σ H s) {dx : Addr} {fs : List (Str × V)} (ha : H a = some (.ins C dx fs)) (hl : x.length ≤ 1000) (hsp : spL [.ref a] H (fun v H' => v = .int (x.length : Nat) ∧ H' = H) E0) {Q : Bool → Shared → Prop} {E : Value → Shared → Prop}
    (hQ : ∀ b s', L2.Inv X pins σ H s' → Q b s') : wpAny (model X.prog X.w) A (Builtin.List.listLengthHint (.ref a)) Q E s := by
  obtain ⟨mA, J, _⟩ := ins_get I.hok ha
  obtain ⟨od, J, _⟩ := J.look
  obtain ⟨m, hF⟩ := I.fr
  unfold Builtin.List.listLengthHint
  refine wpAny_bind (wpAny_bind (J.type.here ((PySem.W.looks_findIn I.kIn hsL).here ?_)))
  refine PySem.W.KFB.if_not rfl ?_
  refine PySem.W.KFB.if_so rfl ?_
  refine wpAny_bind (wpAny_rule ?_)
  have len := FL.len _ _ _ _ hsp
  have e0 : Env0 X.prog X.w X.K X.mg X.base A.in1 X.stack s H := by
    have e := I.env0
    exact ⟨by rw [sb.fr]; exact e.frames, e.mod, e.bs, e.bsz, e.funs, e.frf, e.hok, e.bare⟩
  refine wpAny_bind (wpAny_attempt (PySem.W.len_K hF I.ok.mod.kin J hsL hfL (wpAny_call (codeAny_mono (FL.run A.in1 X.stack s H ⟨[.ref a], []⟩ [.ref a] [.ref a] _ E0 sb.room e0 (bL s [.ref a] I.kIn (by simpa using len)) (.cons rfl .nil) hsp) fun r s' hq => ?_))))
  cases r with
  | error e => exact hq.elim
  | ok fl =>
    cases fl with
    | ret u =>
      obtain ⟨v, H', I3, rv, ev, eH⟩ := I.after hq
      subst ev eH
      obtain ⟨t, rfl⟩ := rv
      refine ⟨⟨by omega, by omega⟩, ?_⟩
      refine wpAny_bind (wpAny_pure ?_)
      have hz : (((x.length : Nat) : Int).toNat) ≤ sizeLine := line20' (by omega)
      refine PySem.W.KFB.if_not (notLongL hz) (wpAny_pure (hQ _ _ (I3.tok _)))
    | next => exact False.elim hq
    | brk => exact False.elim hq
    | cont => exact False.elim hq
theorem upd_self {H : Hp} {q : Addr} {o : HO} (h : H q = some o) : upd H q o = H := by
  funext b
  by_cases hb : b = q
  · rw [hb, upd_same, h]
  · rw [upd_ne hb]
theorem sgs_extend {n kI : Nat} {fI q dx : Addr} {fs : List (Str × V)} {S : Hp → Addr → Str → Prop} {A1 : Around} {Rs : Result → Shared → Prop} (hc : X.calm = true) (hA : A1.in1.handled = none) (sb : L2.Sub X n A1.in1) (nI : kI ≤ n) (nL : kL + 1 ≤ n) (hit : IterOk X.prog X.w X.K X.mg X.base kI C fI S)
    (hsI : PySem.W.findIn X.K (.ref C) "__iter__" = some (some (.ref fI))) (hfI : PySem.W.isFn X.K (.ref fI) = true)
    (FL : FnOk X.prog X.w X.K X.mg X.base CX0 kL fL fdL psL spL) (hsL : PySem.W.findIn X.K (.ref C) "__len__" = some (some (.ref fL))) (hfL : PySem.W.isFn X.K (.ref fL) = true) (bL : Binds X.K fdL psL []) (hx : Passes CX0 X E0)
    (I : L2.Inv X pins σ H s) (ha : H a = some (.ins C dx fs)) (hq : H q = some (.lst [])) (hS : S H a x) (hl : x.length ≤ 1000) (hsp : ∀ H', Same H H' → spL [.ref a] H' (fun v H2 => v = .int (x.length : Nat) ∧ H2 = H') E0)
    (hfin : ∀ s, L2.Inv X pins σ (upd H q (.lst (signV x))) s → Rs (.ok (.ret .none)) s) (herr : ∀ e s, X.xe e s → Rs (.error e) s) :
    wpAny (model X.prog X.w) A1.in1 (Builtin.List.listExtendWith (.ref q) (.ref a) .none)
      (fun fin s' => match fin with | .done f => Rs (.ok f) s' | .again c' => c'.quiet = true ∧ codeAny (model X.prog X.w) A1 c' Rs s') (fun e s' => Rs (.error e) s') s := by
  have hne : q ≠ a := ne_of hq ha (fun z => nomatch z)
  obtain ⟨mA, J, _⟩ := ins_get I.hok ha
  obtain ⟨od, J, _⟩ := J.look
  obtain ⟨m0, hF⟩ := I.fr
  unfold Builtin.List.listExtendWith
  refine wpAny_bind (J.type.here ?_)
  have h1 : Builtin.List.listSameRef (.ref q) (.ref a) = false := by simp [Builtin.List.listSameRef, hne]
  have h2 : (Value.ref C == Value.type "list") = false := rfl
  have h3 : (Value.ref C == Value.type "tuple") = false := rfl
  simp only [h1, h2, h3, Bool.or_false, Bool.false_eq_true, if_false]
  have e0 : Env0 X.prog X.w X.K X.mg X.base A1.in1 X.stack s H := by
    have e := I.env0
    exact ⟨by rw [sb.fr]; exact e.frames, e.mod, e.bs, e.bsz, e.funs, e.frf, e.hok, e.bare⟩
  refine wpAny_bind (PySem.W.owit_iter hF I.ok.mod.kin J hsI hfI (wpAny_call (codeAny_mono (hit A1.in1 X.stack s H a x (sb.mono nI).room e0 hS) fun r s' hq' => ?_)))
  cases r with
  | error er => exact hq'.elim
  | ok fl =>
    cases fl with
    | next => exact False.elim hq'
    | brk => exact False.elim hq'
    | cont => exact False.elim hq'
    | ret u =>
      obtain ⟨v, H', I3, rv, it, rfl, hn, hsz, rfl⟩ := I.after hq'
      cases rv
      have hsz0 : X.s_0.heap.objs.size ≤ it := Nat.le_trans I.sz hsz
      have hqi : q ≠ it := fun z => by rw [z, hn] at hq; cases hq
      have hai : a ≠ it := fun z => by rw [z, hn] at ha; cases ha
      obtain ⟨⟨ty, t, hty, st⟩, _⟩ := I3.hok it _ upd_same
      have hT : s'.TypeIs (.ref it) ty := by
        obtain ⟨o, ho, c, _⟩ := st
        exact ⟨o, ho, c⟩
      unfold PySem.W.OwitIt
      rcases hty with rfl | rfl
      · refine wpAny_specialOf (name := Str.ofString "__next__") hT PySem.F.slot_str_ascii_iterator_next.lookup ?_
        refine wpAny_bind (wpAny_holding (sgs_hint (C := C) (sb.mono nL).in1 FL hsL hfL bL hx I3 (by rw [upd_ne hai]; exact ha) hl (hsp _ (fun b o e => by rw [upd_ne (ne_of_none e hn)]; exact e)) fun b s2 I4 => ?_))
        obtain ⟨⟨ty2, t2, hty2, st2⟩, _⟩ := I4.hok it _ upd_same
        have I5 := ItX.inv_drop I4 (a := it) upd_same
        have fp := ItX.inv_fp I4 (a := it) upd_same hsz0
        rw [ItX.dropH_upd hn] at I5 fp
        have go : ∀ s3, L2.Inv X pins σ H s3 → s3.heap.IsStrIter it ty2 x t2 0 → codeAny (model X.prog X.w) A1 (.builtin "list.extend.loop" ⟨[.ref q, .ref it, .none], []⟩) Rs s3 := by
          intro s3 I6 st3
          have e : upd H q (.lst ((signV x).take 0)) = H := upd_self hq
          exact sgs_loop hty2 hA hl H hqi hn hfin x.cps.size 0 s3 (by omega) (Nat.zero_le _) (by rw [e]; exact I6) (by rw [e]; exact fp) st3
        obtain ⟨z, its, k, r3, hl3, e3⟩ := I5.lstM hq
        cases r3
        refine wpAny_ite_split (fun _ => ?_) (fun _ => wpAny_pure ⟨plainId_quiet PySem.F.plain_extend_loop _, go _ I5 st2⟩)
        refine wpAny_bind (wpAny_rule ?_)
        refine wpAny_bind ?_
        show wpAny _ _ (updateSeq q (·.push .none) >>= fun _ => updateSeq q (·.pop)) _ _ _
        refine wpAny_bind (wpAny_updateSeq e3 rfl ?_)
        have I7 := I5.lset (f := (·.push Value.none)) (its' := [Value.none]) (ys := [.non]) (t' := s2.toks) hq e3 (by simp) (.cons rfl .nil) (by rw [List.length_singleton]; exact line20' (by decide))
        obtain ⟨z4, its4, k4, r4, hl4, e4⟩ := I7.lstM upd_same
        obtain ⟨u4, rfl, ru4⟩ := r4.one
        refine wpAny_updateSeq e4 rfl ?_ (by show 1 ≤ sizeLine; exact line20' (by decide)) (by show 0 ≤ sizeLine + 1; exact Nat.zero_le _)
        have I8 := I7.lset (f := (·.pop)) (its := [u4]) (its' := []) (ys := []) (t' := s2.toks) upd_same e4 (by rfl) .nil (Nat.zero_le _)
        rw [L2.upd_upd, upd_self hq] at I8
        refine wpAny_pure ⟨plainId_quiet PySem.F.plain_extend_loop _, go _ I8 ?_⟩
        obtain ⟨o, ho, r⟩ := st2
        exact ⟨o, (Heap.get?_update_other _ _ hqi).trans ((Heap.get?_update_other _ _ hqi).trans ho), r⟩
      · refine wpAny_specialOf (name := Str.ofString "__next__") hT PySem.F.slot_str_iterator_next.lookup ?_
        refine wpAny_bind (wpAny_holding (sgs_hint (C := C) (sb.mono nL).in1 FL hsL hfL bL hx I3 (by rw [upd_ne hai]; exact ha) hl (hsp _ (fun b o e => by rw [upd_ne (ne_of_none e hn)]; exact e)) fun b s2 I4 => ?_))
        obtain ⟨⟨ty2, t2, hty2, st2⟩, _⟩ := I4.hok it _ upd_same
        have I5 := ItX.inv_drop I4 (a := it) upd_same
        have fp := ItX.inv_fp I4 (a := it) upd_same hsz0
        rw [ItX.dropH_upd hn] at I5 fp
        have go : ∀ s3, L2.Inv X pins σ H s3 → s3.heap.IsStrIter it ty2 x t2 0 → codeAny (model X.prog X.w) A1 (.builtin "list.extend.loop" ⟨[.ref q, .ref it, .none], []⟩) Rs s3 := by
          intro s3 I6 st3
          have e : upd H q (.lst ((signV x).take 0)) = H := upd_self hq
          exact sgs_loop hty2 hA hl H hqi hn hfin x.cps.size 0 s3 (by omega) (Nat.zero_le _) (by rw [e]; exact I6) (by rw [e]; exact fp) st3
        obtain ⟨z, its, k, r3, hl3, e3⟩ := I5.lstM hq
        cases r3
        refine wpAny_ite_split (fun _ => ?_) (fun _ => wpAny_pure ⟨plainId_quiet PySem.F.plain_extend_loop _, go _ I5 st2⟩)
        refine wpAny_bind (wpAny_rule ?_)
        refine wpAny_bind ?_
        show wpAny _ _ (updateSeq q (·.push .none) >>= fun _ => updateSeq q (·.pop)) _ _ _
        refine wpAny_bind (wpAny_updateSeq e3 rfl ?_)
        have I7 := I5.lset (f := (·.push Value.none)) (its' := [Value.none]) (ys := [.non]) (t' := s2.toks) hq e3 (by simp) (.cons rfl .nil) (by rw [List.length_singleton]; exact line20' (by decide))
        obtain ⟨z4, its4, k4, r4, hl4, e4⟩ := I7.lstM upd_same
        obtain ⟨u4, rfl, ru4⟩ := r4.one
        refine wpAny_updateSeq e4 rfl ?_ (by show 1 ≤ sizeLine; exact line20' (by decide)) (by show 0 ≤ sizeLine + 1; exact Nat.zero_le _)
        have I8 := I7.lset (f := (·.pop)) (its := [u4]) (its' := []) (ys := []) (t' := s2.toks) upd_same e4 (by rfl) .nil (Nat.zero_le _)
        rw [L2.upd_upd, upd_self hq] at I8
        refine wpAny_pure ⟨plainId_quiet PySem.F.plain_extend_loop _, go _ I8 ?_⟩
        obtain ⟨o, ho, r⟩ := st2
        exact ⟨o, (Heap.get?_update_other _ _ hqi).trans ((Heap.get?_update_other _ _ hqi).trans ho), r⟩
/-- list(a) -/
def rListSgs (C : Addr) (S : Hp → Addr → Str → Prop) : List V → Hp → VK → Prop := fun xs H Q => ∃ a dx fs x, xs = [.ref a] ∧ H a = some (.ins C dx fs) ∧ S H a x ∧ x.length ≤ 1000 ∧ ∀ q, H q = none → Q (.ref q) (upd H q (.lst (signV x)))
theorem call_listSgs {n kI : Nat} {fI : Addr} {S : Hp → Addr → Str → Prop} (hc : X.calm = true) (nI : kI ≤ n) (nL : kL + 1 ≤ n) (hr : Room (n + 2) X.A) (hit : IterOk X.prog X.w X.K X.mg X.base kI C fI S) (mono : ∀ H H' a x, S H a x → Same H H' → S H' a x)
    (hsI : PySem.W.findIn X.K (.ref C) "__iter__" = some (some (.ref fI))) (hfI : PySem.W.isFn X.K (.ref fI) = true)
    (FL : FnOk X.prog X.w X.K X.mg X.base CX0 kL fL fdL psL spL) (hsL : PySem.W.findIn X.K (.ref C) "__len__" = some (some (.ref fL))) (hfL : PySem.W.isFn X.K (.ref fL) = true) (bL : Binds X.K fdL psL []) (hx : Passes CX0 X E0)
    (hsp : ∀ H a x, S H a x → x.length ≤ 1000 → spL [.ref a] H (fun v H2 => v = .int (x.length : Nat) ∧ H2 = H) E0) : CallR X (.type "list") (rListSgs C S) := by
  intro pins s σ H xs us Q I rv h
  obtain ⟨a, dx, fs, x, rfl, ha, hS, hl, hq⟩ := h
  obtain ⟨u, rfl, ru⟩ := rv.one
  cases ru
  have sb : L2.Sub X n X.A.in1.in1 := L2.Sub.in1 (L2.Sub.in1 ⟨hr, rfl⟩)
  apply callType_codes (Q₁ := fun obj s₁ => obj = .ref s.heap.objs.size ∧ s₁ = { s with heap := s.heap.push { cls := .type "list", data := .seq #[] } }) PySem.F.called_list (PySem.F.typeCall_list_1 _) PySem.F.entry_list_init (code_list_new _ ⟨rfl, rfl⟩)
  rintro obj s₁ ⟨rfl, rfl⟩
  have hN : (s.heap.push { cls := .type "list", data := .seq #[] }).get? s.heap.objs.size = some { cls := .type "list", data := .seq #[] } := Heap.get?_push_size _ rfl
  refine ⟨⟨_, hN, rfl⟩, PySem.F.args_list_init_2 _ _, ?_⟩
  have fr : H s.heap.objs.size = none := I.fresh
  have I1 : L2.Inv X pins σ (upd H s.heap.objs.size (.lst [])) { s with heap := s.heap.push { cls := .type "list", data := .seq #[] } } := I.lnew (its := []) (t' := s.toks) .nil (Nat.zero_le _)
  show wpAny _ _ (Builtin.List.listItems (.ref s.heap.objs.size) >>= fun old => Builtin.List.listUpdate (.ref s.heap.objs.size) (fun _ => #[]) >>= fun _ => letGo old.toList.reverse >>= fun _ => Builtin.List.listExtendWith (.ref s.heap.objs.size) (.ref a) .none) _ _ _
  apply wpAny_bind
  unfold Builtin.List.listItems
  apply wpAny_bind
  apply wpAny_seqItems hN rfl
  apply wpAny_pure
  show wpAny _ _ (updateSeq s.heap.objs.size (fun _ => #[]) >>= fun _ => letGo (#[] : Array Value).toList.reverse >>= fun _ => Builtin.List.listExtendWith (.ref s.heap.objs.size) (.ref a) .none) _ _ _
  apply wpAny_bind
  apply wpAny_updateSeq hN rfl
  have I2 := I1.lset (f := fun _ => #[]) (its := []) (its' := []) (ys := []) (t' := s.toks) upd_same hN rfl .nil (Nat.zero_le _)
  rw [L2.upd_upd] at I2
  apply wpAny_bind
  apply wpAny_letGo
  have sm : Same H (upd H s.heap.objs.size (.lst [])) := fun b o e => by rw [upd_ne (ne_of_none e fr)]; exact e
  refine sgs_extend (A1 := X.A.in1) (Rs := wants (fun r s₂ => r = .none ∧ EP X pins σ Q (.ref s.heap.objs.size) s₂) X.xe) hc (I.ok.hd hc) sb nI nL hit hsI hfI FL hsL hfL bL hx I2 (sm _ _ ha) upd_same (mono _ _ _ _ hS sm) hl (fun H' s' => hsp _ _ _ (mono _ _ _ _ hS (sm.trans s')) hl) (fun s3 I3 => ?_) (fun e s' he => he)
  rw [L2.upd_upd] at I3
  exact ⟨rfl, .ref s.heap.objs.size, _, I3, rfl, hq _ fr⟩
end
end My
namespace My
open PySem PySem.Spec PyProof.Rows L2
/-- statements that are never reached -/
theorem pss_no {X : Cx} {ss : List Stmt} : PSs X ss (fun _ _ _ => False) := ⟨fun _ _ _ _ _ _ h => h.elim⟩
/-- a dict of the module: texts at texts -/
structure KTab (K : PySem.W.Frag) (w : World) (d : Addr) (kvs : List (Str × Str)) : Prop where
  ex : ∃ es n, KDict K w d es n
  look : ∀ z, ∃ r, PySem.W.nsIn K d z = some r ∧ (match kvs.lookup z with | some x => ∃ t, r = some (Value.str x t) | none => r = none)
def ktAt (kvs : List (Str × Str)) (k : Str) (z : V) : V := match kvs.lookup k with | some x => .str x | none => z
def tKGet (d : Addr) (kvs : List (Str × Str)) (td ty tx : TE) : TE := fun σ H Q => td σ H fun x H1 => x = .ref d ∧ ty σ H1 fun y H2 => tx σ H2 fun z H3 => ∃ k, y = .str k ∧ Q (ktAt kvs k z) H3
section
variable {X : Cx} {o e f : Expr} {apos cpos : Pos} {td ty tx : TE} {d : Addr} {kvs : List (Str × Str)}
theorem pe_kget (D : KTab X.K X.w d kvs) (ho : PE X o td) (he : PE X e ty) (hf : PE X f tx) (m : M2 X o "get" apos e f cpos) : PE X (.Call (.Attribute o "get" apos) [e, f] [] cpos) (tKGet d kvs td ty tx) := by
  refine ⟨fun pins s σ H Q I h => ?_⟩
  obtain ⟨es, n, KD⟩ := D.ex
  refine wpAny_Call_method m.base m.few m.line PySem.F.plainAttrs_dict PySem.F.slot_dict_get PySem.F.type_dict_get (thn (ho.run pins s σ H _ I h) fun u s1 ⟨x, H1, I1, rx, ex, q1⟩ => ?_)
  subst ex
  obtain rfl : u = Value.ref d := rx
  refine ⟨kd_type KD I1, fun b q => ?_, ?_⟩
  · cases q
    exact ⟨_, I1.kIn _ _ KD.at_, rfl⟩
  rw [m.trees]
  refine Calls.callWith_builtin rfl (Calls.evalArgs_plain (Calls.spliced_cons (thn (he.run pins s1 σ H1 _ I1 q1) fun iv s2 ⟨y, H2, I2, ry, q2⟩ =>
    Calls.spliced_cons (thn (hf.run pins s2 σ H2 _ I2 q2) fun fv s3 ⟨z, H3, I3, rz, k, ek, q3⟩ => Calls.spliced_nil ?_))))
  subst ek
  obtain ⟨t, rfl⟩ := ry
  obtain ⟨r, er, hr⟩ := D.look k
  have mp := PySem.W.mapOf_K (prog := X.prog) (w := X.w) I3.kIn KD.at_ KD.lit
  refine call_meetsIn PySem.F.slot_dict_get mp.typeIs PySem.F.entry_dict_get (PySem.F.args_dict_get_3 _ _ _) (meets_dict_get_default (strKind X.prog X.w) d (strKind_is X.prog X.w k t) KD.low _) ⟨_, mp, ?_⟩
  rw [PySem.W.find_K KD.at_ er]
  unfold ktAt at q3
  cases hl : kvs.lookup k with
  | none =>
    rw [hl] at hr q3
    subst hr
    exact ⟨_, H3, I3.tok _, rz, q3⟩
  | some x =>
    rw [hl] at hr q3
    obtain ⟨t2, rfl⟩ := hr
    exact ⟨.str x, H3, I3.tok _, ⟨t2, rfl⟩, q3⟩
end
theorem kt_two {K : PySem.W.Frag} {w : World} {d : Addr} {k1 x1 k2 x2 : Str} {t1 t2 u1 u2 : Tok} {h1 h2 : Int} {n : Nat} (l : K.lookup d = some ⟨.type "dict", none, .dict #[⟨h1, .str k1 t1, .str x1 u1⟩, ⟨h2, .str k2 t2, .str x2 u2⟩] n, #[]⟩)
    (e1 : h1 = PyData.keyHash w.params k1) (e2 : h2 = PyData.keyHash w.params k2) (lo : (d == sysModules) = false) : KTab K w d [(k1, x1), (k2, x2)] := by
  refine ⟨⟨_, _, l, ⟨⟨_, _, rfl, e1⟩, ⟨_, _, rfl, e2⟩, trivial⟩, lo⟩, fun z => ?_⟩
  unfold PySem.W.nsIn
  rw [l]
  dsimp only
  by_cases q1 : z = k1
  · subst q1
    have c1 : (Value.str z t1).isStr z = true := by simp [Value.isStr]
    refine ⟨_, by rw [List.find?_cons_of_pos (by exact c1)], ?_⟩
    rw [List.lookup_cons, beq_self_eq_true]
    exact ⟨_, rfl⟩
  · have c1 : ¬ (Value.str k1 t1).isStr z = true := by simp [Value.isStr]; exact fun e => q1 e.symm
    have b1 : (z == k1) = false := by
      cases h : z == k1 with
      | false => rfl
      | true => exact absurd (eq_of_beq h) q1
    rw [List.find?_cons_of_neg (by exact c1)]
    rw [List.lookup_cons, b1]
    by_cases q2 : z = k2
    · subst q2
      have c2 : (Value.str z t2).isStr z = true := by simp [Value.isStr]
      refine ⟨_, by rw [List.find?_cons_of_pos (by exact c2)], ?_⟩
      dsimp only
      rw [List.lookup_cons, beq_self_eq_true]
      exact ⟨_, rfl⟩
    · have c2 : ¬ (Value.str k2 t2).isStr z = true := by simp [Value.isStr]; exact fun e => q2 e.symm
      have b2 : (z == k2) = false := by
        cases h : z == k2 with
        | false => rfl
        | true => exact absurd (eq_of_beq h) q2
      rw [List.find?_cons_of_neg (by exact c2)]
      dsimp only
      rw [List.lookup_cons, b2]
      exact ⟨_, rfl, rfl⟩
end My
namespace My
open PySem L2
/-! ### the set text of some signs -/
def asc (cs : List Nat) : List Nat := SG.filter fun c => decide (c ∈ cs)
theorem asc_sub (cs : List Nat) : (asc cs).Sublist SG := List.filter_sublist
theorem mem_asc {cs : List Nat} (h : ∀ c ∈ cs, c ∈ SG) (c : Nat) : c ∈ asc cs ↔ c ∈ cs := by
  unfold asc
  rw [List.mem_filter, decide_eq_true_eq]
  exact ⟨fun q => q.2, fun q => ⟨h c q, q⟩⟩
theorem asc_uniq : ∀ {a b : List Nat}, a.Pairwise (· < ·) → b.Pairwise (· < ·) → (∀ c, c ∈ a ↔ c ∈ b) → a = b
  | [], [], _, _, _ => rfl
  | [], y :: b, _, _, h => absurd ((h y).mpr List.mem_cons_self) (by simp)
  | x :: a, [], _, _, h => absurd ((h x).mp List.mem_cons_self) (by simp)
  | x :: a, y :: b, pa, pb, h => by
    obtain ⟨a1, a2⟩ := List.pairwise_cons.mp pa
    obtain ⟨b1, b2⟩ := List.pairwise_cons.mp pb
    have e : x = y := by
      rcases List.mem_cons.mp ((h x).mp List.mem_cons_self) with q | q
      · exact q
      · rcases List.mem_cons.mp ((h y).mpr List.mem_cons_self) with q2 | q2
        · exact q2.symm
        · have := b1 x q; have := a1 y q2; omega
    subst e
    rw [asc_uniq a2 b2 fun c => ?_]
    constructor
    · intro q
      rcases List.mem_cons.mp ((h c).mp (List.mem_cons_of_mem _ q)) with z | z
      · have := a1 c q; omega
      · exact z
    · intro q
      rcases List.mem_cons.mp ((h c).mpr (List.mem_cons_of_mem _ q)) with z | z
      · have := b1 c q; omega
      · exact z
theorem asc_pw (cs : List Nat) : (asc cs).Pairwise (· < ·) := sub_asc (asc_sub cs)
theorem asc_of {ns cs : List Nat} (h : ∀ c ∈ cs, c ∈ SG) (p : ns.Pairwise (· < ·)) (m : ∀ c, c ∈ ns ↔ c ∈ cs) : ns = asc cs :=
  asc_uniq p (asc_pw cs) fun c => by rw [m, mem_asc h]
theorem asc_self {cs : List Nat} (h : cs.Sublist SG) : asc cs = cs := (asc_of (fun c hc => h.subset hc) (sub_asc h) fun _ => Iff.rfl).symm
theorem asc_congr {a b : List Nat} (h : ∀ c, c ∈ a ↔ c ∈ b) : asc a = asc b := by
  unfold asc
  refine List.filter_congr fun c _ => ?_
  exact decide_eq_decide.mpr (h c)
theorem filter_asc (p : Nat → Bool) : SG.filter p = asc (SG.filter p) := (asc_self List.filter_sublist).symm
/-- the four combinations -/
def cOr (a b : List Nat) : List Nat := SG.filter fun c => decide (c ∈ a) || decide (c ∈ b)
def cAnd (a b : List Nat) : List Nat := SG.filter fun c => decide (c ∈ a) && decide (c ∈ b)
def cSub (a b : List Nat) : List Nat := SG.filter fun c => decide (c ∈ a) && !decide (c ∈ b)
def cNot (a : List Nat) : List Nat := SG.filter fun c => !decide (c ∈ a)
theorem asc_app {a b : List Nat} (ha : a.Sublist SG) (hb : b.Sublist SG) : asc (a ++ b) = cOr a b := by
  unfold asc cOr
  refine List.filter_congr fun c _ => ?_
  rw [← Bool.decide_or]
  exact decide_eq_decide.mpr List.mem_append
theorem asc_filt {a : List Nat} (ha : a.Sublist SG) (p : Nat → Bool) : asc (a.filter p) = SG.filter fun c => decide (c ∈ a) && p c := by
  unfold asc
  refine List.filter_congr fun c _ => ?_
  rw [Bool.eq_iff_iff]
  simp [List.mem_filter]
theorem asc_filtS (p : Nat → Bool) : asc (SG.filter p) = SG.filter p := asc_self List.filter_sublist
/-! ### an instance that holds a set text -/
def Sgs (C : Addr) (H : Hp) (a : Addr) (cs : List Nat) : Prop := ∃ dx, H a = some (.ins C dx [("_members", .str (tx cs))])
theorem Sgs.at {C : Addr} {H H' : Hp} {a : Addr} {cs : List Nat} (h : Sgs C H a cs) (s : Same H H') : Sgs C H' a cs := by
  obtain ⟨dx, e⟩ := h
  exact ⟨dx, s _ _ e⟩
theorem Sgs.but {C d : Addr} {H H' : Hp} {a : Addr} {cs : List Nat} (h : Sgs C H a cs) (n : a ≠ d) (s : But d H H') : Sgs C H' a cs := by
  obtain ⟨dx, e⟩ := h
  exact ⟨dx, s _ _ n e⟩
theorem mem_lk (cs : List Nat) : ([(("_members" : Str), V.str (tx cs))] : List (Str × V)).lookup ("_members" : Str) = some (V.str (tx cs)) := rfl
end My
namespace My
open PySem L2
theorem c_nl : Str.ofString "\n" = tx [10] := by decide +kernel
def EN : List Nat := [9, 32, 33, 36, 38, 47, 48, 57, 58, 64, 65, 90, 91, 94, 95, 96, 97, 122, 123, 126]
theorem c_ends : Str.ofString "\t !$&/09:@AZ[^_`az{~" = tx EN := by decide +kernel
theorem one_of {c : Nat} {r : List Nat} (h : (c :: r).length ≤ 1) : r = [] := by
  cases r with
  | nil => rfl
  | cons a r => simp at h
end My
namespace My
open PySem L2
/-- a list whose items are made of other things -/
theorem reg_map {α : Type} (K : PySem.W.Frag) (a : Addr) (F : α → V) (xs : List α) : Reg (Itl K a) xs F (fun H => SqL K H a (xs.map F)) := by
  refine ⟨fun i H h hq => ⟨xs.map F, F xs[i], hq, by simp [h]⟩, fun i H h hq => ⟨xs.map F, hq, by rw [List.length_map]; exact h⟩, fun i v H x H' h hq hy => ?_⟩
  obtain ⟨rfl, f⟩ := hy
  have := f _ hq
  rw [List.getElem?_map, h] at this
  exact ⟨rfl, (Option.some.inj this).symm⟩
theorem filter_yes {α : Type} (l : List α) : (l.filter fun _ => true) = l := List.filter_eq_self.mpr fun _ _ => rfl
theorem asc_getD {l : List Nat} (h : l.Pairwise (· < ·)) {i j : Nat} (hj : j < l.length) (hij : i < j) : l[i] < l[j] := List.pairwise_iff_getElem.mp h i j (by omega) hj hij
/-- isinstance of a list -/
theorem isi_list {K : PySem.W.Frag} {H : Hp} {Q : VK} {a : Addr} {xs : List V} (e : H a = some (.lst xs)) (q : Q (.bl true) H) : rIsi K [.ref a, .ty "list"] H Q :=
  ⟨.ref a, .ty "list", .type "list", .type "list", true, rfl, .ty _, .base (.lst e), kit_ty (by decide +kernel), q⟩
/-- data of a list of texts -/
def dTx (ss : List (List Nat)) : PyData := .list (ss.map fun s => .str (tx s))
theorem depth_tx (ss : List (List Nat)) : PyData.depthAll (ss.map fun s => PyData.str (tx s)) = 0 := by
  induction ss with
  | nil => rfl
  | cons s r ih => rw [List.map_cons, PyData.depthAll, PyData.depth, ih]; rfl
theorem ok_tx {s : List Nat} (h : ∀ c ∈ s, c ∈ SG) : PyData.strOk (tx s) = true := by
  unfold PyData.strOk
  have e : (tx s).cps = s.toArray := rfl
  rw [e, List.all_toArray, List.all_eq_true]
  intro c hc
  have h2 : ∀ x ∈ SG, x < 0x110000 := by decide +kernel
  exact decide_eq_true (h2 c (h c hc))
theorem lay_tx {ss : List (List Nat)} (h : ∀ s ∈ ss, ∀ c ∈ s, c ∈ SG) : PyData.canLayAll0 (ss.map fun s => PyData.str (tx s)) = true := by
  induction ss with
  | nil => rfl
  | cons s r ih =>
    rw [List.map_cons, PyData.canLayAll0, PyData.canLay0, ok_tx (h s List.mem_cons_self), ih fun x hx => h x (List.mem_cons_of_mem _ hx)]
    rfl
theorem shaped_tx {ss : List (List Nat)} (h : ∀ s ∈ ss, ∀ c ∈ s, c ∈ SG) : SeqAt.shaped (dTx ss) = true := by
  unfold SeqAt.shaped dTx
  rw [PyData.canLay0, lay_tx h, PyData.depth, depth_tx]
  rfl
theorem eqv_str (a b : List Nat) : PyData.eqv (.str (tx a)) (.str (tx b)) = decide (a = b) := by
  rw [PyData.eqv, Bool.eq_iff_iff, beq_iff_eq, decide_eq_true_eq, tx_eq]
theorem eqvAll_tx : ∀ a b : List (List Nat), PyData.eqvAll (a.map fun s => .str (tx s)) (b.map fun s => .str (tx s)) = decide (a = b)
  | [], [] => rfl
  | [], _ :: _ => rfl
  | _ :: _, [] => rfl
  | x :: a, y :: b => by
    rw [List.map_cons, List.map_cons, PyData.eqvAll, eqv_str, eqvAll_tx a b, ← Bool.decide_and]
    exact decide_eq_decide.mpr List.cons_eq_cons.symm
theorem eqv_tx (a b : List (List Nat)) : PyData.eqv (dTx a) (dTx b) = decide (a = b) := by
  unfold dTx
  rw [PyData.eqv, eqvAll_tx]
theorem dp_all {K : PySem.W.Frag} {H : Hp} : ∀ ss : List (List Nat), DpAll K H (ss.map fun s => V.str (tx s)) (ss.map fun s => PyData.str (tx s))
  | [] => .nil
  | _ :: ss => .cons (.str _) (dp_all ss)
theorem dp_tx {K : PySem.W.Frag} {H : Hp} {a : Addr} {ss : List (List Nat)} (h : SqL K H a (ss.map fun s => V.str (tx s))) : Dp K H (.ref a) (dTx ss) := .lst h (dp_all ss)
/-- == and != of lists of texts over the signs -/
theorem eqD_tx {K : PySem.W.Frag} {H : Hp} {p q : Addr} {a b : List (List Nat)} {Q : VK} (ha : SqL K H p (a.map fun s => V.str (tx s))) (hb : SqL K H q (b.map fun s => V.str (tx s))) (sa : ∀ s ∈ a, ∀ c ∈ s, c ∈ SG) (sb : ∀ s ∈ b, ∀ c ∈ s, c ∈ SG) (h : Q (.bl (decide (a = b))) H) : rEqD K (.ref p) (.ref q) H Q :=
  ⟨dTx a, dTx b, dp_tx ha, dp_tx hb, shaped_tx sa, shaped_tx sb, by rw [eqv_tx]; exact h⟩
theorem neD_tx {K : PySem.W.Frag} {H : Hp} {p q : Addr} {a b : List (List Nat)} {Q : VK} (ha : SqL K H p (a.map fun s => V.str (tx s))) (hb : SqL K H q (b.map fun s => V.str (tx s))) (sa : ∀ s ∈ a, ∀ c ∈ s, c ∈ SG) (sb : ∀ s ∈ b, ∀ c ∈ s, c ∈ SG) (h : Q (.bl (!decide (a = b))) H) : rNeD K (.ref p) (.ref q) H Q :=
  ⟨dTx a, dTx b, dp_tx ha, dp_tx hb, shaped_tx sa, shaped_tx sb, by rw [eqv_tx]; exact h⟩
/-- a comprehension that may lay new objects -/
theorem lcJ_same {α : Type} {J : It} {its : List α} {item : α → V} {G : Hp → Prop} (R : Reg J its item G) {k : Nat} {tt : TT} {te : TE} {σ : St} {H1 : Hp} {Q : VK} (p : α → Bool) (f : α → V) (hn : its.length ≤ sizeLine)
    (hG : ∀ H', Same H1 H' → G H')
    (hT : ∀ a H' (Q : Bool → Hp → Prop), a ∈ its → Same H1 H' → (∀ H2, Same H' H2 → Q (p a) H2) → tt ((σ.set k none).set k (some (item a))) H' Q)
    (hE : ∀ a H' (Q : VK), a ∈ its → p a = true → Same H1 H' → (∀ H2, Same H' H2 → Q (f a) H2) → te ((σ.set k none).set k (some (item a))) H' Q)
    (h : ∀ D H', H1 D = none → Same H1 H' → H' D = some (.lst ((its.filter p).map f)) → Q (.ref D) H') : LcJ J (gName k) tt te [k] σ H1 Q := by
  obtain ⟨Pv, hP⟩ : ∃ Pv : Addr → Nat → Hp → Prop, ∀ D i H, Pv D i H ↔ (Same H1 H ∧ H D = some (.lst (((its.take i).filter p).map f))) := ⟨_, fun _ _ _ => Iff.rfl⟩
  refine lcJ_by R Pv (fun D i H hD hp => hG H ((hP _ _ _).mp hp).1) (fun D hD => ?_) (fun D i a H hD hi hp => ?_) (fun D H hD hp => ?_)
  · exact (hP _ _ _).mpr ⟨same_upd hD, upd_same⟩
  · obtain ⟨sm, hl⟩ := (hP _ _ _).mp hp
    have hlt : i < its.length := (List.getElem?_eq_some_iff.mp hi).1
    have hm : a ∈ its := List.mem_of_getElem? hi
    have ht : its.take (i + 1) = its.take i ++ [a] := by rw [List.take_add_one, hi]; rfl
    refine hT a H _ hm sm fun H2 s2 => ?_
    by_cases hp : p a = true
    · rw [hp, if_pos rfl]
      refine hE a H2 _ hm hp (sm.trans s2) fun H3 s3 => ⟨_, s3 _ _ (s2 _ _ hl), ?_, ?_⟩
      · rw [List.length_map]
        refine Nat.lt_of_le_of_lt (List.length_filter_le _ _) ?_
        rw [List.length_take]
        omega
      · refine (hP _ _ _).mpr ⟨fun b o e => ?_, ?_⟩
        · rw [upd_ne (ne_of_none e hD)]
          exact s3 _ _ (s2 _ _ (sm _ _ e))
        · rw [upd_same, ht, List.filter_append, List.map_append]
          simp [hp]
    · rw [if_neg hp]
      refine (hP _ _ _).mpr ⟨sm.trans s2, ?_⟩
      rw [s2 _ _ hl, ht, List.filter_append]
      simp [hp]
  · obtain ⟨sm, hl⟩ := (hP _ _ _).mp hp
    rw [List.take_length] at hl
    exact h D H hD sm hl
theorem in_tx (x : List Nat) (L : List (List Nat)) : inV (V.str (tx x)) (L.map fun s => V.str (tx s)) = decide (x ∈ L) := by
  unfold inV
  rw [List.any_map]
  induction L with
  | nil => rfl
  | cons y L ih =>
    rw [List.any_cons, ih, Bool.eq_iff_iff]
    simp only [Bool.or_eq_true, decide_eq_true_eq, List.mem_cons]
    have e : ((fun z => eqV z (V.str (tx x))) ∘ fun s => V.str (tx s)) y = true ↔ x = y := by
      show (tx y == tx x) = true ↔ x = y
      rw [beq_iff_eq, tx_eq]
      exact eq_comm
    rw [e]
theorem flat_tx (L : List (List Nat)) : (L.map fun s => V.str (tx s)).all flatV = true := by
  induction L with
  | nil => rfl
  | cons x r ih => rw [List.map_cons, List.all_cons, ih]; rfl
theorem flat_bl {α : Type} (g : α → Bool) (L : List α) : (L.map fun s => V.bl (g s)).all flatV = true := by
  induction L with
  | nil => rfl
  | cons x r ih => rw [List.map_cons, List.all_cons, ih]; rfl
theorem count_tx (cs : List Nat) (c : Nat) : Txt.count (tx cs) (tx [c]) = (cs.count c : Nat) := by
  show Txt.count (tx cs) ⟨#[c]⟩ = _
  rw [PyProof.Rows.count_cnt, tx_cps]
  have h : ∀ l : List Nat, PyProof.Rows.cnt c l = (l.count c : Nat) := by
    intro l
    induction l with
    | nil => rfl
    | cons a r ih =>
      rw [List.count_cons, PyProof.Rows.cnt_cons, ih]
      by_cases e : a = c
      · simp [e]; omega
      · simp [e]
  exact h cs
theorem range_at {n i k : Nat} (h : (List.range n)[i]? = some k) : k = i ∧ i < n := by
  have h1 := (List.getElem?_eq_some_iff.mp h).1
  rw [List.length_range] at h1
  rw [List.getElem?_range h1] at h
  exact ⟨(Option.some.inj h).symm, h1⟩
theorem map_at {α β : Type} {F : α → β} {L : List α} {i : Int} (h0 : 0 ≤ i) (h1 : i < L.length) : ∃ (j : Nat) (h : j < L.length), i = (j : Int) ∧ atI (L.map F) i = some (F L[j]) := by
  obtain ⟨j, rfl⟩ := Int.eq_ofNat_of_zero_le h0
  have hj : j < L.length := by omega
  refine ⟨j, hj, rfl, atI_nat ?_⟩
  rw [List.getElem?_map, List.getElem?_eq_getElem hj]
  rfl
end My
namespace My
open PySem L2
theorem snoc_ind2 {P : List Nat → Prop} (h0 : P []) (hs : ∀ p c, P p → P (p ++ [c])) : ∀ p, P p := by
  intro p
  rw [← List.reverse_reverse p]
  generalize p.reverse = q
  induction q with
  | nil => exact h0
  | cons a q ih => rw [List.reverse_cons]; exact hs _ _ ih
/-! ### the runs of a set text -/
abbrev Run := Nat × Nat
def lst (R : List Run) : Run := R.getLastD (0, 0)
/-- the last run goes on to c -/
def ext (R : List Run) (c : Nat) : List Run := R.dropLast ++ [((lst R).1, c)]
def stepL (R : List Run) (c : Nat) : List Run := if R ≠ [] ∧ fi (lst R).2 SG + 1 = fi c SG then ext R c else R ++ [(c, c)]
def runsL (ds : List Nat) : List Run := ds.foldl stepL []
theorem runs_snoc (ds : List Nat) (c : Nat) : runsL (ds ++ [c]) = stepL (runsL ds) c := by
  unfold runsL
  rw [List.foldl_append]
  rfl
theorem lst_snoc (R : List Run) (q : Run) : lst (R ++ [q]) = q := by
  unfold lst
  rw [List.getLastD_eq_getLast?, List.getLast?_append]
  rfl
theorem lst_step (R : List Run) (c : Nat) : (lst (stepL R c)).2 = c ∧ stepL R c ≠ [] := by
  unfold stepL
  split
  · unfold ext
    rw [lst_snoc]
    exact ⟨rfl, by simp⟩
  · rw [lst_snoc]
    exact ⟨rfl, by simp⟩
theorem runs_last : ∀ ds : List Nat, (runsL ds = [] ↔ ds = []) ∧ ∀ c, ds.getLast? = some c → (lst (runsL ds)).2 = c := by
  refine snoc_ind2 ⟨by simp [runsL], by simp⟩ fun p c ih => ?_
  rw [runs_snoc]
  obtain ⟨h1, h2⟩ := lst_step (runsL p) c
  refine ⟨⟨fun h => absurd h h2, fun h => by simp at h⟩, fun d hd => ?_⟩
  rw [List.getLast?_append] at hd
  rw [h1]
  exact Option.some.inj hd
theorem runs_mem : ∀ ds : List Nat, ∀ q ∈ runsL ds, q.1 ∈ ds ∧ q.2 ∈ ds := by
  refine snoc_ind2 (by simp [runsL]) fun p c ih => ?_
  intro q hq
  rw [runs_snoc] at hq
  unfold stepL at hq
  split at hq
  · rename_i hc
    unfold ext at hq
    rcases List.mem_append.mp hq with h | h
    · have := ih q (List.dropLast_subset _ h)
      exact ⟨List.mem_append_left _ this.1, List.mem_append_left _ this.2⟩
    · rw [List.mem_singleton.mp h]
      have hl : lst (runsL p) ∈ runsL p := by
        unfold lst
        rw [List.getLastD_eq_getLast?, List.getLast?_eq_some_getLast hc.1]
        exact List.getLast_mem hc.1
      exact ⟨List.mem_append_left _ (ih _ hl).1, List.mem_append_right _ List.mem_cons_self⟩
  · rcases List.mem_append.mp hq with h | h
    · have := ih q h
      exact ⟨List.mem_append_left _ this.1, List.mem_append_left _ this.2⟩
    · rw [List.mem_singleton.mp h]
      exact ⟨List.mem_append_right _ List.mem_cons_self, List.mem_append_right _ List.mem_cons_self⟩
theorem runs_len (ds : List Nat) : (runsL ds).length ≤ ds.length := by
  revert ds
  refine snoc_ind2 (by simp [runsL]) fun p c ih => ?_
  rw [runs_snoc, List.length_append]
  unfold stepL
  split
  · rename_i hc
    unfold ext
    rw [List.length_append, List.length_dropLast]
    have := List.length_pos_iff.mpr hc.1
    simp
    omega
  · rw [List.length_append]
    simp
    omega
/-! ### sign by sign over all signs -/
def bit (cs : List Nat) (i : Nat) : Bool := match i with
  | 0 => false
  | k + 1 => decide (SG.getD k 0 ∈ cs)
def part (cs : List Nat) (i : Nat) : List Nat := (SG.take i).filter fun c => decide (c ∈ cs)
theorem part_succ {cs : List Nat} {i c : Nat} (h : SG[i]? = some c) : part cs (i + 1) = part cs i ++ if c ∈ cs then [c] else [] := by
  unfold part
  rw [List.take_add_one, h, List.filter_append]
  by_cases hc : c ∈ cs
  · simp [hc]
  · simp [hc]
theorem fi_at {i c : Nat} (h : SG[i]? = some c) : fi c SG = i := by
  obtain ⟨h1, h2⟩ := List.getElem?_eq_some_iff.mp h
  rw [← h2]
  exact fi_getD SG_asc h1
/-- what the run goes on from -/
theorem bit_yes {cs : List Nat} {i c : Nat} (h : SG[i]? = some c) (hb : bit cs i = true) : runsL (part cs i) ≠ [] ∧ fi (lst (runsL (part cs i))).2 SG + 1 = fi c SG := by
  cases i with
  | zero => cases hb
  | succ k =>
    have hk : k < SG.length := by
      have := (List.getElem?_eq_some_iff.mp h).1
      omega
    have ek : SG[k]? = some (SG.getD k 0) := by
      rw [List.getElem?_eq_getElem hk]
      simp [List.getD, hk]
    have hm : SG.getD k 0 ∈ cs := of_decide_eq_true hb
    have e : part cs (k + 1) = part cs k ++ [SG.getD k 0] := by rw [part_succ ek, if_pos hm]
    have l1 := (runs_last (part cs (k + 1))).2 (SG.getD k 0) (by rw [e, List.getLast?_append]; rfl)
    refine ⟨fun h2 => ?_, ?_⟩
    · have := (runs_last _).1.mp h2
      rw [e] at this
      simp at this
    · rw [l1, fi_at ek, fi_at h]
theorem bit_no {cs : List Nat} {i c : Nat} (h : SG[i]? = some c) (hb : bit cs i = false) : ¬ (runsL (part cs i) ≠ [] ∧ fi (lst (runsL (part cs i))).2 SG + 1 = fi c SG) := by
  rintro ⟨h1, h2⟩
  have hne : part cs i ≠ [] := fun e => h1 ((runs_last _).1.mpr e)
  obtain ⟨d, hd⟩ : ∃ d, (part cs i).getLast? = some d := ⟨_, List.getLast?_eq_some_getLast hne⟩
  rw [(runs_last _).2 d hd, fi_at h] at h2
  have hm : d ∈ part cs i := List.mem_of_getLast? hd
  unfold part at hm
  rw [List.mem_filter] at hm
  obtain ⟨m1, m2⟩ := hm
  obtain ⟨j, hj, ej⟩ := List.mem_iff_getElem.mp m1
  rw [List.length_take] at hj
  rw [List.getElem_take] at ej
  have fd : fi d SG = j := fi_at (by rw [List.getElem?_eq_getElem (by omega), ej])
  have ij : i = j + 1 := by omega
  subst ij
  have e : SG.getD j 0 = d := by
    rw [← ej]
    have : j < SG.length := by omega
    simp [List.getD, this]
  have hb2 : decide (SG.getD j 0 ∈ cs) = false := hb
  rw [e] at hb2
  exact of_decide_eq_false hb2 (of_decide_eq_true m2)
theorem part_all {cs : List Nat} (h : cs.Sublist SG) : part cs 96 = cs := by
  unfold part
  have e : SG.take 96 = SG := List.take_of_length_le (by rw [SG_len]; exact Nat.le_refl _)
  rw [e]
  exact asc_self h
/-! ### runs as a list of pairs of texts -/
def runV (q : Run) : List V := [V.str (tx [q.1]), V.str (tx [q.2])]
structure RunsAt (H : Hp) (m : Addr) (R : List Run) (rs : List Addr) : Prop where
  lst : H m = some (.lst (rs.map V.ref))
  len : rs.length = R.length
  tup : ∀ (i : Nat) t q, rs[i]? = some t → R[i]? = some q → H t = some (.tup (runV q))
theorem RunsAt.same {H H' : Hp} {m : Addr} {R : List Run} {rs : List Addr} (h : RunsAt H m R rs) (s : Same H H') : RunsAt H' m R rs :=
  ⟨s _ _ h.lst, h.len, fun i t q a b => s _ _ (h.tup i t q a b)⟩
theorem RunsAt.nil {H : Hp} {m : Addr} (h : H m = some (.lst [])) : RunsAt H m [] [] := ⟨h, rfl, fun i t q a => by simp at a⟩
theorem RunsAt.push {H H' : Hp} {m t : Addr} {R : List Run} {rs : List Addr} {q : Run} (h : RunsAt H m R rs) (s : Same H H') (ht : H' t = some (.tup (runV q))) : RunsAt (upd H' m (.lst (rs.map V.ref ++ [V.ref t]))) m (R ++ [q]) (rs ++ [t]) := by
  have nm : ∀ b xs, H' b = some (.tup xs) → b ≠ m := fun b xs e z => by rw [z, s _ _ h.lst] at e; cases e
  refine ⟨by rw [upd_same, List.map_append]; rfl, by rw [List.length_append, List.length_append, h.len]; rfl, fun i u q' a b => ?_⟩
  by_cases hi : i < rs.length
  · rw [List.getElem?_append_left hi] at a
    rw [List.getElem?_append_left (by rw [← h.len]; exact hi)] at b
    have e := s _ _ (h.tup i u q' a b)
    rw [upd_ne (nm _ _ e)]
    exact e
  · have h1 := (List.getElem?_eq_some_iff.mp a).1
    rw [List.length_append] at h1
    have ei : i = rs.length := by simp at h1; omega
    subst ei
    rw [List.getElem?_append_right (Nat.le_refl _), Nat.sub_self] at a
    rw [h.len, List.getElem?_append_right (Nat.le_refl _), Nat.sub_self] at b
    cases Option.some.inj a
    cases Option.some.inj b
    rw [upd_ne (nm _ _ ht)]
    exact ht
theorem RunsAt.init {H H' : Hp} {m : Addr} {R : List Run} {rs : List Addr} (h : RunsAt H m R rs) : ∀ (i : Nat) t q, rs.dropLast[i]? = some t → R.dropLast[i]? = some q → H t = some (.tup (runV q)) := by
  intro i t q a b
  rw [List.dropLast_eq_take, List.getElem?_take] at a b
  split at a
  · split at b
    · exact h.tup i t q a b
    · cases b
  · cases a
theorem RunsAt.turn {H H' : Hp} {m t : Addr} {R : List Run} {rs : List Addr} {q : Run} (h : RunsAt H m R rs) (s : Same H H') (ht : H' t = some (.tup (runV q))) : RunsAt (upd H' m (.lst (rs.dropLast.map V.ref ++ [V.ref t]))) m (R.dropLast ++ [q]) (rs.dropLast ++ [t]) := by
  have nm : ∀ b xs, H' b = some (.tup xs) → b ≠ m := fun b xs e z => by rw [z, s _ _ h.lst] at e; cases e
  have hl : rs.dropLast.length = R.dropLast.length := by rw [List.length_dropLast, List.length_dropLast, h.len]
  refine ⟨by rw [upd_same, List.map_append]; rfl, by rw [List.length_append, List.length_append, hl]; rfl, fun i u q' a b => ?_⟩
  by_cases hi : i < rs.dropLast.length
  · rw [List.getElem?_append_left hi] at a
    rw [List.getElem?_append_left (by rw [← hl]; exact hi)] at b
    have e := s _ _ (h.init (H' := H) i u q' a b)
    rw [upd_ne (nm _ _ e)]
    exact e
  · have h1 := (List.getElem?_eq_some_iff.mp a).1
    rw [List.length_append] at h1
    have ei : i = rs.dropLast.length := by simp at h1 ⊢; simp at hi; omega
    subst ei
    rw [List.getElem?_append_right (Nat.le_refl _), Nat.sub_self] at a
    rw [hl, List.getElem?_append_right (Nat.le_refl _), Nat.sub_self] at b
    cases Option.some.inj a
    cases Option.some.inj b
    rw [upd_ne (nm _ _ ht)]
    exact ht
/-- the last pair -/
theorem RunsAt.last {H : Hp} {m : Addr} {R : List Run} {rs : List Addr} (h : RunsAt H m R rs) (hne : R ≠ []) : ∃ t, atI (rs.map V.ref) (-1) = some (V.ref t) ∧ H t = some (.tup (runV (My.lst R))) := by
  have hn : rs ≠ [] := fun e => hne (List.length_eq_zero_iff.mp (by rw [← h.len, e]; rfl))
  refine ⟨rs.getLast hn, ?_, ?_⟩
  · rw [atI_neg1 (by simp [hn])]
    congr 1
    exact List.getLast_map ..
  · have hp : 0 < rs.length := List.length_pos_iff.mpr hn
    refine h.tup (rs.length - 1) _ _ ?_ ?_
    · rw [List.getLast_eq_getElem, List.getElem?_eq_getElem (by omega)]
    · unfold My.lst
      rw [List.getLastD_eq_getLast?, List.getLast?_eq_getElem?, h.len, List.getElem?_eq_getElem (by have := h.len; omega)]
      rfl
theorem set_last {xs : List V} {v : V} (h : xs ≠ []) : ∃ j, ixN xs.length (-1) = some j ∧ xs.set j v = xs.dropLast ++ [v] := by
  have hp : 0 < xs.length := List.length_pos_iff.mpr h
  refine ⟨xs.length - 1, ?_, ?_⟩
  · unfold ixN
    rw [if_neg (by decide), if_pos (by omega)]
    congr 1
    omega
  · obtain ⟨ys, y, rfl⟩ : ∃ ys y, xs = ys ++ [y] := ⟨xs.dropLast, xs.getLast h, (List.dropLast_concat_getLast h).symm⟩
    rw [List.length_append, List.dropLast_concat]
    simp
end My
namespace My
open PySem L2
/-- a comprehension with any target -/
theorem lcJ_byG {α : Type} {J : It} {its : List α} {item : α → V} {G : Hp → Prop} (R : Reg J its item G) {g : TG} {vs : List Nat} {tt : TT} {te : TE} {σ : St} {H1 : Hp} {Q : VK} (Pv : Addr → Nat → Hp → Prop) (hG : ∀ D i H, H1 D = none → Pv D i H → G H) (h0 : ∀ D, H1 D = none → Pv D 0 (upd H1 D (.lst [])))
    (hs : ∀ D i a H, H1 D = none → its[i]? = some a → Pv D i H → g (item a) (wipe σ vs) H fun σ2 H2 => wipe σ2 vs = wipe σ vs ∧ tt σ2 H2 fun b H3 =>
      if b = true then te σ2 H3 fun y H4 => ∃ acc, H4 D = some (.lst acc) ∧ acc.length < sizeLine ∧ Pv D (i + 1) (upd H4 D (.lst (acc ++ [y]))) else Pv D (i + 1) H3)
    (hd : ∀ D H, H1 D = none → Pv D its.length H → Q (.ref D) H) : LcJ J g tt te vs σ H1 Q := by
  intro D hD
  refine ⟨fun i m H => m = its.length - i ∧ i ≤ its.length ∧ Pv D i H, ⟨its.length, by simp, Nat.zero_le _, h0 D hD⟩, ?_⟩
  rintro i m H ⟨rfl, hi, p⟩
  by_cases hlt : i < its.length
  · refine .inr ⟨R.go i H hlt (hG _ _ _ hD p), Pv D (i + 1), fun H' p' => ⟨its.length - (i + 1), by omega, rfl, hlt, p'⟩, fun x H' y => ?_⟩
    obtain ⟨rfl, rfl⟩ := R.yld i its[i] H x H' (List.getElem?_eq_getElem hlt) (hG _ _ _ hD p) y
    exact hs D i _ _ hD (List.getElem?_eq_getElem hlt) p
  · have e : i = its.length := by omega
    subst e
    exact .inl ⟨R.stop _ H (Nat.le_refl _) (hG _ _ _ hD p), hd D H hD p⟩
/-- the join of texts -/
theorem join_txs {K : PySem.W.Frag} {H : Hp} {D : Addr} {ss : List (List Nat)} {R : List Str → Prop} (hD : SqL K H D (ss.map fun s => V.str (tx s))) (h : (ss.map (·.length)).sum ≤ 16777216) (q : ∀ ys, Txt.join (tx []) ys = tx ss.flatten → R ys) :
    ∃ ys : List Str, (SqL K H D (ys.map V.str) ∨ SqT K H D (ys.map V.str)) ∧ (ys.map (·.length)).sum + ys.length * 0 ≤ 16777216 ∧ R ys := by
  refine ⟨ss.map tx, .inl (by rw [List.map_map]; exact hD), ?_, q _ (join_tx ss)⟩
  rw [List.map_map, Nat.mul_zero, Nat.add_zero]
  have e : ((fun x : Str => x.length) ∘ tx) = fun s : List Nat => s.length := funext fun s => tx_len s
  rw [e]
  exact h
/-! ### the written form of a set -/
theorem c_spec : Str.ofString "\\|*+?<>()[]{}.~^" = tx [92, 124, 42, 43, 63, 60, 62, 40, 41, 91, 93, 123, 125, 46, 126, 94] := by decide +kernel
def SPc : List Nat := [92, 124, 42, 43, 63, 60, 62, 40, 41, 91, 93, 123, 125, 46, 126, 94]
theorem c_brack : Str.ofString "\\[]^-" = tx [92, 91, 93, 94, 45] := by decide +kernel
def BPc : List Nat := [92, 91, 93, 94, 45]
theorem c_bs : Str.ofString "\\" = tx [92] := by decide +kernel
theorem c_tab : Str.ofString "\t" = tx [9] := by decide +kernel
theorem c_en : Str.ofString "\\n" = tx [92, 110] := by decide +kernel
theorem c_et : Str.ofString "\\t" = tx [92, 116] := by decide +kernel
theorem c_dash : Str.ofString "-" = tx [45] := by decide +kernel
theorem c_open : Str.ofString "[" = tx [91] := by decide +kernel
theorem c_openc : Str.ofString "[^" = tx [91, 94] := by decide +kernel
theorem c_close : Str.ofString "]" = tx [93] := by decide +kernel
theorem c_dot : Str.ofString "." = tx [46] := by decide +kernel
def esc (sp : List Nat) (c : Nat) : List Nat := if c ∈ sp then [92, c] else if c = 10 then [92, 110] else if c = 9 then [92, 116] else [c]
theorem esc_len (sp : List Nat) (c : Nat) : (esc sp c).length ≤ 2 := by
  unfold esc
  split
  · exact Nat.le_refl _
  · split
    · exact Nat.le_refl _
    · split
      · exact Nat.le_refl _
      · exact Nat.le_succ _
def fl (r : List Nat) : List Nat := if 2 < r.length then esc BPc (r.headD 0) ++ [45] ++ esc BPc (r.getLastD 0) else r.flatMap (esc BPc)
theorem fl_nil : fl [] = [] := rfl
theorem fl_len (r : List Nat) : (fl r).length ≤ 5 := by
  unfold fl
  split
  · rw [List.length_append, List.length_append]
    have a := esc_len BPc (r.headD 0)
    have b := esc_len BPc (r.getLastD 0)
    simp only [List.length_cons, List.length_nil]
    omega
  · rename_i h
    match r, h with
    | [], _ => simp
    | [a], _ => have := esc_len BPc a; simp; omega
    | [a, b], _ => have := esc_len BPc a; have := esc_len BPc b; simp; omega
    | a :: b :: c :: r, h => simp at h
theorem fl_long {r : List Nat} (h : 2 < r.length) : ∃ a b, a ∈ r ∧ b ∈ r ∧ r[0]? = some a ∧ r.getLast? = some b ∧ fl r = (esc BPc a ++ [45]) ++ esc BPc b := by
  match r, h with
  | a :: t, h =>
    refine ⟨a, (a :: t).getLast (by simp), List.mem_cons_self, List.getLast_mem _, rfl, List.getLast?_eq_some_getLast (by simp), ?_⟩
    unfold fl
    rw [if_pos h]
    congr 2
theorem fl_short {r : List Nat} (h : ¬ 2 < r.length) : fl r = (r.map (esc BPc)).flatten := by
  unfold fl
  rw [if_neg h, List.flatMap_def]
def btw (a b : Nat) : List Nat := (SG.drop (fi a SG)).take (fi b SG + 1 - fi a SG)
theorem btw_sub (a b : Nat) : (btw a b).Sublist SG := (List.take_sublist _ _).trans (List.drop_sublist _ _)
def wrs (R : List Run) : List Nat := (R.map fun q => fl (btw q.1 q.2)).flatten
theorem btw_one {i c : Nat} (h : SG[i]? = some c) : btw c c = [c] := by
  unfold btw
  rw [fi_at h, show i + 1 - i = 0 + 1 by omega, List.take_add_one, List.take_zero, List.getElem?_drop, Nat.add_zero, h]
  rfl
theorem btw_snoc {i a d c : Nat} (h : SG[i]? = some c) (hd : fi d SG + 1 = i) (ha : fi a SG ≤ fi d SG) : btw a d ++ [c] = btw a c := by
  unfold btw
  rw [fi_at h, show i + 1 - fi a SG = (fi d SG + 1 - fi a SG) + 1 by omega, List.take_add_one, List.getElem?_drop, show fi a SG + (fi d SG + 1 - fi a SG) = i by omega, h]
  rfl
theorem wrs_snoc (R : List Run) (q : Run) : wrs (R ++ [q]) = wrs R ++ fl (btw q.1 q.2) := by
  unfold wrs
  rw [List.map_append, List.flatten_append]
  simp
structure In9 (cs : List Nat) (i : Nat) (wr run : List Nat) : Prop where
  ok : (run = [] ∧ bit cs i = false ∧ wr = wrs (runsL (part cs i))) ∨ (bit cs i = true ∧ ∃ R0 a d, runsL (part cs i) = R0 ++ [(a, d)] ∧ wr = wrs R0 ∧ fi d SG + 1 = i ∧ fi a SG ≤ fi d SG ∧ run = btw a d)
theorem In9.zero (cs : List Nat) : In9 cs 0 [] [] := ⟨.inl ⟨rfl, rfl, rfl⟩⟩
theorem In9.flush {cs : List Nat} {i : Nat} {wr run : List Nat} (h : In9 cs i wr run) : wr ++ fl run = wrs (runsL (part cs i)) := by
  rcases h.ok with ⟨rfl, _, e⟩ | ⟨_, R0, a, d, e1, e2, _, _, e3⟩
  · rw [e, fl_nil, List.append_nil]
  · rw [e1, wrs_snoc, e2, e3]
theorem In9.sub {cs : List Nat} {i : Nat} {wr run : List Nat} (h : In9 cs i wr run) : run.Sublist SG := by
  rcases h.ok with ⟨rfl, _, e⟩ | ⟨_, R0, a, d, e1, e2, _, _, e3⟩
  · exact List.nil_sublist _
  · rw [e3]; exact btw_sub _ _
theorem wrs_len (R : List Run) : (wrs R).length ≤ 5 * R.length := by
  induction R with
  | nil => simp [wrs]
  | cons q R ih =>
    have e : wrs (q :: R) = fl (btw q.1 q.2) ++ wrs R := rfl
    rw [e, List.length_append, List.length_cons]
    have := fl_len (btw q.1 q.2)
    omega
theorem In9.len {cs : List Nat} {i : Nat} {wr run : List Nat} (h : In9 cs i wr run) : wr.length ≤ 480 := by
  have h1 : (runsL (part cs i)).length ≤ 96 := Nat.le_trans (runs_len _) (sub_len (List.filter_sublist.trans (List.take_sublist _ _)))
  have h2 := congrArg List.length h.flush
  rw [List.length_append] at h2
  have := wrs_len (runsL (part cs i))
  omega
theorem bit_succ {cs : List Nat} {i c : Nat} (h : SG[i]? = some c) : bit cs (i + 1) = decide (c ∈ cs) := by
  show decide (SG.getD i 0 ∈ cs) = _
  obtain ⟨h1, h2⟩ := List.getElem?_eq_some_iff.mp h
  rw [← h2]
  simp [List.getD, h1]
theorem In9.yes {cs : List Nat} {i c : Nat} {wr run : List Nat} (hi : SG[i]? = some c) (hc : c ∈ cs) (h : In9 cs i wr run) : In9 cs (i + 1) wr (run ++ [c]) := by
  have hp : part cs (i + 1) = part cs i ++ [c] := by rw [part_succ hi, if_pos hc]
  have hb : bit cs (i + 1) = true := by rw [bit_succ hi, decide_eq_true hc]
  refine ⟨.inr ⟨hb, ?_⟩⟩
  rw [hp, runs_snoc]
  rcases h.ok with ⟨rfl, b, e⟩ | ⟨b, R0, a, d, e1, e2, e3, e4, e5⟩
  · refine ⟨runsL (part cs i), c, c, ?_, e, by rw [fi_at hi], Nat.le_refl _, ?_⟩
    · unfold stepL
      rw [if_neg (bit_no hi b)]
    · rw [btw_one hi]; rfl
  · refine ⟨R0, a, c, ?_, e2, by rw [fi_at hi], by rw [fi_at hi]; omega, ?_⟩
    · unfold stepL
      rw [if_pos (bit_yes hi b)]
      unfold ext
      rw [e1, lst_snoc, List.dropLast_concat]
    · rw [e5, btw_snoc hi e3 e4]
theorem In9.no {cs : List Nat} {i c : Nat} {wr run : List Nat} (hi : SG[i]? = some c) (hc : ¬ c ∈ cs) (h : In9 cs i wr run) : In9 cs (i + 1) (wr ++ fl run) [] := by
  have hp : part cs (i + 1) = part cs i := by rw [part_succ hi, if_neg hc, List.append_nil]
  refine ⟨.inl ⟨rfl, by rw [bit_succ hi, decide_eq_false hc], ?_⟩⟩
  rw [hp, h.flush]
end My
namespace My
open PySem L2
def wset (cs : List Nat) : List Nat := if cs.length = 1 then esc SPc (cs.headD 0) else if cNot cs = [10] then [46] else
  if (wrs (runsL (cNot cs)) ++ [93]).length + 1 + 1 < (wrs (runsL cs) ++ [93]).length + 1 then 91 :: 94 :: (wrs (runsL (cNot cs)) ++ [93]) else 91 :: (wrs (runsL cs) ++ [93])
def sp_wsign : Sp := fun vs H Q _ => ∃ (c : Nat) (sp : List Nat), vs = [.str (tx [c]), .str (tx sp)] ∧ Q (.str (tx (esc sp c))) H
def sp_wrun : Sp := fun vs H Q _ => ∃ (a b : Nat), vs = [.str (tx [a]), .str (tx [b])] ∧ a ∈ SG ∧ b ∈ SG ∧ ∀ H', Same H H' → Q (.str (tx (fl (btw a b)))) H'
def sp_wmem (C : Addr) : Sp := fun vs H Q _ => ∃ (x : Addr) (cs : List Nat), vs = [.ref x] ∧ Sgs C H x cs ∧ cs.Sublist SG ∧ ∀ H', Same H H' → Q (.str (tx (wrs (runsL cs)))) H'
def sp_wset : Sp := fun vs H Q _ => ∃ (cs : List Nat), vs = [.str (tx cs)] ∧ cs.Sublist SG ∧ ∀ H', Same H H' → Q (.str (tx (wset cs))) H'
def sp_wpat (K : PySem.W.Frag) : Sp := fun vs H Q _ => ∃ (t : Addr) (cs : List Nat), vs = [.ref t] ∧ SqT K H t [.str (Str.ofString "set"), .str (tx cs)] ∧ cs.Sublist SG ∧ ∀ H', Same H H' → Q (.str (tx (wset cs))) H'
def sp_Lesc : Sp := fun vs H Q _ => ∃ (c : Nat) (sp : List Nat), vs = [.str (tx [c]), .str (tx sp)] ∧ ¬ 10 ∈ sp ∧ ¬ 9 ∈ sp ∧ Q (.str (tx (esc sp c))) H
def sp_Lins : Sp := fun vs H Q _ => ∃ (cs : List Nat), vs = [.str (tx cs)] ∧ cs.Sublist SG ∧ ∀ H', Same H H' → Q (.str (tx (wrs (runsL cs)))) H'
def sp_Ldset : Sp := fun vs H Q _ => ∃ (d l : Addr), vs = [.ref d] ∧ Drw H d l ∧ ∀ (cs : List Nat) (H' : Hp), cs.Sublist SG → Drw H' d l → But d H H' → Q (.str (tx cs)) H'
end My
namespace My
open PySem L2
def topS (i : Nat) : Stmt := PySem.Challenge.pw_surespan_k09_written_set.main.body.getD i (.Pass ⟨0, 0, 0, 0⟩)
abbrev s_write_sign : Stmt := topS 5
abbrev n_write_sign : List Str := ["sign", "specials"]
theorem sc_write_sign : FnScope n_write_sign ["sign", "specials"] (defScope s_write_sign) := ⟨rfl, rfl, rfl, by decide +kernel, rfl, by decide +kernel, by decide +kernel⟩
abbrev s_rank : Stmt := topS 8
abbrev n_rank : List Str := ["sign"]
theorem sc_rank : FnScope n_rank ["sign"] (defScope s_rank) := ⟨rfl, rfl, rfl, by decide +kernel, rfl, by decide +kernel, by decide +kernel⟩
abbrev s_SignSet_Minit : Stmt := inClass (topS 10) 0
abbrev n_SignSet_Minit : List Str := ["self", "signs"]
theorem sc_SignSet_Minit : FnScope n_SignSet_Minit ["self", "signs"] (defScope s_SignSet_Minit) := ⟨rfl, rfl, rfl, by decide +kernel, rfl, by decide +kernel, by decide +kernel⟩
abbrev s_SignSet_between : Stmt := inClass (topS 10) 1
abbrev n_SignSet_between : List Str := ["first", "last"]
theorem sc_SignSet_between : FnScope n_SignSet_between ["first", "last"] (defScope s_SignSet_between) := ⟨rfl, rfl, rfl, by decide +kernel, rfl, by decide +kernel, by decide +kernel⟩
abbrev s_SignSet_members : Stmt := inClass (topS 10) 2
abbrev n_SignSet_members : List Str := ["self"]
theorem sc_SignSet_members : FnScope n_SignSet_members ["self"] (defScope s_SignSet_members) := ⟨rfl, rfl, rfl, by decide +kernel, rfl, by decide +kernel, by decide +kernel⟩
abbrev s_SignSet_ranges : Stmt := inClass (topS 10) 4
abbrev n_SignSet_ranges : List Str := ["self", "found", "in_run", "sign"]
theorem sc_SignSet_ranges : FnScope n_SignSet_ranges ["self"] (defScope s_SignSet_ranges) := ⟨rfl, rfl, rfl, by decide +kernel, rfl, by decide +kernel, by decide +kernel⟩
abbrev s_SignSet_Minvert : Stmt := inClass (topS 10) 9
abbrev n_SignSet_Minvert : List Str := ["self", "sign"]
theorem sc_SignSet_Minvert : FnScope n_SignSet_Minvert ["self"] (defScope s_SignSet_Minvert) := ⟨rfl, rfl, rfl, by decide +kernel, rfl, by decide +kernel, by decide +kernel⟩
abbrev s_SignSet_Mcontains : Stmt := inClass (topS 10) 10
abbrev n_SignSet_Mcontains : List Str := ["self", "sign"]
theorem sc_SignSet_Mcontains : FnScope n_SignSet_Mcontains ["self", "sign"] (defScope s_SignSet_Mcontains) := ⟨rfl, rfl, rfl, by decide +kernel, rfl, by decide +kernel, by decide +kernel⟩
abbrev s_SignSet_Mlen : Stmt := inClass (topS 10) 11
abbrev n_SignSet_Mlen : List Str := ["self"]
theorem sc_SignSet_Mlen : FnScope n_SignSet_Mlen ["self"] (defScope s_SignSet_Mlen) := ⟨rfl, rfl, rfl, by decide +kernel, rfl, by decide +kernel, by decide +kernel⟩
abbrev s_write_set : Stmt := topS 16
abbrev n_write_set : List Str := ["signs", "members", "others", "direct", "negated"]
theorem sc_write_set : FnScope n_write_set ["signs"] (defScope s_write_set) := ⟨rfl, rfl, rfl, by decide +kernel, rfl, by decide +kernel, by decide +kernel⟩
abbrev s_write_members : Stmt := topS 17
abbrev n_write_members : List Str := ["members", "first", "last"]
theorem sc_write_members : FnScope n_write_members ["members"] (defScope s_write_members) := ⟨rfl, rfl, rfl, by decide +kernel, rfl, by decide +kernel, by decide +kernel⟩
abbrev s_write_run : Stmt := topS 18
abbrev n_write_run : List Str := ["first", "last", "written", "sign"]
theorem sc_write_run : FnScope n_write_run ["first", "last"] (defScope s_write_run) := ⟨rfl, rfl, rfl, by decide +kernel, rfl, by decide +kernel, by decide +kernel⟩
abbrev s_write_pattern : Stmt := topS 19
abbrev n_write_pattern : List Str := ["tree", "kind", "branch", "part"]
theorem sc_write_pattern : FnScope n_write_pattern ["tree"] (defScope s_write_pattern) := ⟨rfl, rfl, rfl, by decide +kernel, rfl, by decide +kernel, by decide +kernel⟩
abbrev s_Ldraw : Stmt := topS 24
abbrev n_Ldraw : List Str := ["_law_script", "_law_digits", "_law_one", "_law_two", "_law_cell", "_law_rest", "_law_k"]
theorem sc_Ldraw : FnScope n_Ldraw ["_law_script"] (defScope s_Ldraw) := ⟨rfl, rfl, rfl, by decide +kernel, rfl, by decide +kernel, by decide +kernel⟩
abbrev s_Lnext : Stmt := topS 25
abbrev n_Lnext : List Str := ["_law_draw_here", "_law_many", "_law_at"]
theorem sc_Lnext : FnScope n_Lnext ["_law_draw_here", "_law_many"] (defScope s_Lnext) := ⟨rfl, rfl, rfl, by decide +kernel, rfl, by decide +kernel, by decide +kernel⟩
abbrev s_Lsigns : Stmt := topS 26
abbrev n_Lsigns : List Str := ["_law_signs_here"]
theorem sc_Lsigns : FnScope n_Lsigns [] (defScope s_Lsigns) := ⟨rfl, rfl, rfl, by decide +kernel, rfl, by decide +kernel, by decide +kernel⟩
abbrev s_Lescaped : Stmt := topS 27
abbrev n_Lescaped : List Str := ["_law_sign", "_law_marked"]
theorem sc_Lescaped : FnScope n_Lescaped ["_law_sign", "_law_marked"] (defScope s_Lescaped) := ⟨rfl, rfl, rfl, by decide +kernel, rfl, by decide +kernel, by decide +kernel⟩
abbrev s_Linside : Stmt := topS 28
abbrev n_Linside : List Str := ["_law_text", "_law_signs_here", "_law_marked", "_law_written", "_law_run", "_law_k", "_law_sign"]
theorem sc_Linside : FnScope n_Linside ["_law_text"] (defScope s_Linside) := ⟨rfl, rfl, rfl, by decide +kernel, rfl, by decide +kernel, by decide +kernel⟩
abbrev s_Lwritten_set : Stmt := topS 29
abbrev n_Lwritten_set : List Str := ["_law_text", "_law_rest", "_law_direct", "_law_other", "_law_sign"]
theorem sc_Lwritten_set : FnScope n_Lwritten_set ["_law_text"] (defScope s_Lwritten_set) := ⟨rfl, rfl, rfl, by decide +kernel, rfl, by decide +kernel, by decide +kernel⟩
abbrev s_Ldrawn_set : Stmt := topS 30
abbrev n_Ldrawn_set : List Str := ["_law_draw_here", "_law_signs_here", "_law_choice", "_law_chosen", "_law_k", "_law_low", "_law_at", "_law_many", "_law_special", "_law_flip", "_law_sign"]
theorem sc_Ldrawn_set : FnScope n_Ldrawn_set ["_law_draw_here"] (defScope s_Ldrawn_set) := ⟨rfl, rfl, rfl, by decide +kernel, rfl, by decide +kernel, by decide +kernel⟩
abbrev s_law : Stmt := topS 31
abbrev n_law : List Str := ["_law_script", "_law_draw_here", "_law_texts", "_law_told", "_law_k", "_law_due", "_law_found", "_law_text"]
theorem sc_law : FnScope n_law ["_law_script"] (defScope s_law) := ⟨rfl, rfl, rfl, by decide +kernel, rfl, by decide +kernel, by decide +kernel⟩
structure Top (K : PySem.W.Frag) (mg : Str → Option Value) : Type where
  tw : World
  f_write_sign : Addr
  fd_write_sign : FuncData
  F_write_sign : Fun K "write_sign" "write_sign" s_write_sign f_write_sign fd_write_sign
  B_write_sign : Binds K fd_write_sign ["sign", "specials"] []
  g_write_sign : mg "write_sign" = some (.ref f_write_sign)
  f_rank : Addr
  fd_rank : FuncData
  F_rank : Fun K "rank" "rank" s_rank f_rank fd_rank
  B_rank : Binds K fd_rank ["sign"] []
  g_rank : mg "rank" = some (.ref f_rank)
  f_write_set : Addr
  fd_write_set : FuncData
  F_write_set : Fun K "write_set" "write_set" s_write_set f_write_set fd_write_set
  B_write_set : Binds K fd_write_set ["signs"] []
  g_write_set : mg "write_set" = some (.ref f_write_set)
  f_write_members : Addr
  fd_write_members : FuncData
  F_write_members : Fun K "write_members" "write_members" s_write_members f_write_members fd_write_members
  B_write_members : Binds K fd_write_members ["members"] []
  g_write_members : mg "write_members" = some (.ref f_write_members)
  f_write_run : Addr
  fd_write_run : FuncData
  F_write_run : Fun K "write_run" "write_run" s_write_run f_write_run fd_write_run
  B_write_run : Binds K fd_write_run ["first", "last"] []
  g_write_run : mg "write_run" = some (.ref f_write_run)
  f_write_pattern : Addr
  fd_write_pattern : FuncData
  F_write_pattern : Fun K "write_pattern" "write_pattern" s_write_pattern f_write_pattern fd_write_pattern
  B_write_pattern : Binds K fd_write_pattern ["tree"] []
  g_write_pattern : mg "write_pattern" = some (.ref f_write_pattern)
  f_Ldraw : Addr
  fd_Ldraw : FuncData
  F_Ldraw : Fun K "_law_draw" "_law_draw" s_Ldraw f_Ldraw fd_Ldraw
  B_Ldraw : Binds K fd_Ldraw ["_law_script"] []
  g_Ldraw : mg "_law_draw" = some (.ref f_Ldraw)
  f_Lnext : Addr
  fd_Lnext : FuncData
  F_Lnext : Fun K "_law_next" "_law_next" s_Lnext f_Lnext fd_Lnext
  B_Lnext : Binds K fd_Lnext ["_law_draw_here", "_law_many"] []
  g_Lnext : mg "_law_next" = some (.ref f_Lnext)
  f_Lsigns : Addr
  fd_Lsigns : FuncData
  F_Lsigns : Fun K "_law_signs" "_law_signs" s_Lsigns f_Lsigns fd_Lsigns
  B_Lsigns : Binds K fd_Lsigns [] []
  g_Lsigns : mg "_law_signs" = some (.ref f_Lsigns)
  f_Lescaped : Addr
  fd_Lescaped : FuncData
  F_Lescaped : Fun K "_law_escaped" "_law_escaped" s_Lescaped f_Lescaped fd_Lescaped
  B_Lescaped : Binds K fd_Lescaped ["_law_sign", "_law_marked"] []
  g_Lescaped : mg "_law_escaped" = some (.ref f_Lescaped)
  f_Linside : Addr
  fd_Linside : FuncData
  F_Linside : Fun K "_law_inside" "_law_inside" s_Linside f_Linside fd_Linside
  B_Linside : Binds K fd_Linside ["_law_text"] []
  g_Linside : mg "_law_inside" = some (.ref f_Linside)
  f_Lwritten_set : Addr
  fd_Lwritten_set : FuncData
  F_Lwritten_set : Fun K "_law_written_set" "_law_written_set" s_Lwritten_set f_Lwritten_set fd_Lwritten_set
  B_Lwritten_set : Binds K fd_Lwritten_set ["_law_text"] []
  g_Lwritten_set : mg "_law_written_set" = some (.ref f_Lwritten_set)
  f_Ldrawn_set : Addr
  fd_Ldrawn_set : FuncData
  F_Ldrawn_set : Fun K "_law_drawn_set" "_law_drawn_set" s_Ldrawn_set f_Ldrawn_set fd_Ldrawn_set
  B_Ldrawn_set : Binds K fd_Ldrawn_set ["_law_draw_here"] []
  g_Ldrawn_set : mg "_law_drawn_set" = some (.ref f_Ldrawn_set)
  f_law : Addr
  fd_law : FuncData
  F_law : Fun K "law" "law" s_law f_law fd_law
  B_law : Binds K fd_law ["_law_script"] []
  g_law : mg "law" = some (.ref f_law)
  c_SignSet : Addr
  g_SignSet : mg "SignSet" = some (.ref c_SignSet)
  i_SignSet : C8.InsC K c_SignSet
  sf_SignSet : PySem.W.selfFirst K c_SignSet = true
  na_SignSet_members : NoAttr K c_SignSet "_members"
  cr_SignSet : ClX.CRead K c_SignSet (.type "type")
  f_SignSet_Minit : Addr
  fd_SignSet_Minit : FuncData
  F_SignSet_Minit : FunD K "__init__" "SignSet.__init__" (defArgs s_SignSet_Minit) (defBody s_SignSet_Minit) (defScope s_SignSet_Minit) [.str ""] [] f_SignSet_Minit fd_SignSet_Minit
  B_SignSet_Minit : Binds K fd_SignSet_Minit ["self", "signs"] []
  ds_SignSet_Minit : List Value
  vs_SignSet_Minit : Vals [.str ""] ds_SignSet_Minit
  BD_SignSet_Minit : Binds K fd_SignSet_Minit ["self", "signs"] ds_SignSet_Minit
  mk_SignSet : Mk K c_SignSet f_SignSet_Minit
  f_SignSet_between : Addr
  fd_SignSet_between : FuncData
  F_SignSet_between : Fun K "between" "SignSet.between" s_SignSet_between f_SignSet_between fd_SignSet_between
  B_SignSet_between : Binds K fd_SignSet_between ["first", "last"] []
  p_SignSet_between : Addr
  sm_SignSet_between : SMet K c_SignSet (.type "type") "between" p_SignSet_between f_SignSet_between
  f_SignSet_members : Addr
  fd_SignSet_members : FuncData
  F_SignSet_members : Fun K "members" "SignSet.members" s_SignSet_members f_SignSet_members fd_SignSet_members
  B_SignSet_members : Binds K fd_SignSet_members ["self"] []
  p_SignSet_members : Addr
  pr_SignSet_members : PropOf K c_SignSet "members" p_SignSet_members f_SignSet_members
  f_SignSet_ranges : Addr
  fd_SignSet_ranges : FuncData
  F_SignSet_ranges : Fun K "ranges" "SignSet.ranges" s_SignSet_ranges f_SignSet_ranges fd_SignSet_ranges
  B_SignSet_ranges : Binds K fd_SignSet_ranges ["self"] []
  p_SignSet_ranges : Addr
  pr_SignSet_ranges : PropOf K c_SignSet "ranges" p_SignSet_ranges f_SignSet_ranges
  f_SignSet_Minvert : Addr
  fd_SignSet_Minvert : FuncData
  F_SignSet_Minvert : Fun K "__invert__" "SignSet.__invert__" s_SignSet_Minvert f_SignSet_Minvert fd_SignSet_Minvert
  B_SignSet_Minvert : Binds K fd_SignSet_Minvert ["self"] []
  at_SignSet_Minvert : PySem.W.findIn K (.ref c_SignSet) "__invert__" = some (some (.ref f_SignSet_Minvert))
  fn_SignSet_Minvert : PySem.W.isFn K (.ref f_SignSet_Minvert) = true
  f_SignSet_Mcontains : Addr
  fd_SignSet_Mcontains : FuncData
  F_SignSet_Mcontains : Fun K "__contains__" "SignSet.__contains__" s_SignSet_Mcontains f_SignSet_Mcontains fd_SignSet_Mcontains
  B_SignSet_Mcontains : Binds K fd_SignSet_Mcontains ["self", "sign"] []
  at_SignSet_Mcontains : PySem.W.findIn K (.ref c_SignSet) "__contains__" = some (some (.ref f_SignSet_Mcontains))
  fn_SignSet_Mcontains : PySem.W.isFn K (.ref f_SignSet_Mcontains) = true
  f_SignSet_Mlen : Addr
  fd_SignSet_Mlen : FuncData
  F_SignSet_Mlen : Fun K "__len__" "SignSet.__len__" s_SignSet_Mlen f_SignSet_Mlen fd_SignSet_Mlen
  B_SignSet_Mlen : Binds K fd_SignSet_Mlen ["self"] []
  at_SignSet_Mlen : PySem.W.findIn K (.ref c_SignSet) "__len__" = some (some (.ref f_SignSet_Mlen))
  fn_SignSet_Mlen : PySem.W.isFn K (.ref f_SignSet_Mlen) = true
  t_SPECIAL_SIGNS : Tok
  g_SPECIAL_SIGNS : mg "SPECIAL_SIGNS" = some (.str "\\|*+?<>()[]{}.~^" t_SPECIAL_SIGNS)
  t_BRACKET_SPECIALS : Tok
  g_BRACKET_SPECIALS : mg "BRACKET_SPECIALS" = some (.str "\\[]^-" t_BRACKET_SPECIALS)
  d_ESCAPES : Addr
  g_ESCAPES : mg "ESCAPES" = some (.ref d_ESCAPES)
  kt_ESCAPES : KTab K tw d_ESCAPES [("\n", "\\n"), ("\t", "\\t")]
  t_SIGNS : Tok
  g_SIGNS : mg "SIGNS" = some (.str "\t\n !\"#$&'()*+,-./0123456789:;<=>?@ABCDEFGHIJKLMNOPQRSTUVWXYZ[\\]^_`abcdefghijklmnopqrstuvwxyz{|}~" t_SIGNS)
  t_SHORTEST_RANGE : Tok
  g_SHORTEST_RANGE : mg "SHORTEST_RANGE" = some (.int 3 t_SHORTEST_RANGE)
  b_int : mg "int" = none
  b_isinstance : mg "isinstance" = none
  b_len : mg "len" = none
  b_range : mg "range" = none
  b_set : mg "set" = none
  b_sorted : mg "sorted" = none
  b_str : mg "str" = none
end My
namespace My
open PySem L2
local macro_rules | `(tactic| walk_at "rd") => `(tactic| simp only [tSeq, tNext, tAsg, tOp, tUn, tC, tVar, gName, gSub, tCons, tNil, tCB, tIfS, tIf, tTest, tB, tAnd, tOr, tNot, tAndV, tOrV, tNotV, tRet, tRetN, tDrop, tLst, tTup, tCall, tSl, tNoPart, tPart, tM0, tM1, tBM, tBM0, tYes, tFor_eq, tLc_eq, iList, iRng1, iRng2, iStr, sg_tx, c_empty, rstrip_sign, find_sign, cut_last, cut_to, cut_from, cut_mid, cut_to_lit, cut_from_lit, and_assoc, flat_rep, List.length_replicate, tx_len, tx_eq, tx_app, tx_cps, rI0, rI, rU, rEq, rNe, rIxL, rIxS, rIxT, rSetL, rAppend, rPopAt, rSlS, rSlL, rIn, rMulS, rLtD, rJoin, rLenQ, rListOf,  tRevS, 
  scal, L2.start, List.map_cons, List.map_nil, List.length_cons, List.length_nil, List.replicate, List.cons_append, List.nil_append, List.append_nil,
  List.getElem?_cons_zero, List.getElem?_cons_succ, List.set_cons_zero, List.set_cons_succ, Nat.sub_zero, Nat.reduceSub, Nat.reduceAdd, Nat.zero_add, id_eq, Int.reduceToNat, exists_or,
  V.int.injEq, V.str.injEq, V.bl.injEq, V.ref.injEq, Option.some.injEq, List.cons.injEq, exists_and_left, exists_eq_left', exists_eq_left, exists_eq, exists_eq', and_true, true_and, reduceCtorEq, false_and, and_false, exists_false, false_or, or_false, decide_eq_true_eq, Bool.not_eq_true', decide_eq_false_iff_not, Bool.not_not, Bool.false_eq_true, ↓reduceIte, if_true, if_false])

local macro_rules | `(tactic| walk_at "ne") => `(tactic| first | assumption | (refine Ne.symm ?_; assumption) | exact (ne_of_none (by assumption) (by assumption)) | exact (ne_of_none (by assumption) (by assumption)).symm)
local macro_rules | `(tactic| walk_at "hp") => `(tactic| first | assumption | exact upd_same | exact (upd_ne (by walk_at "ne")).trans (by walk_at "hp"))
local macro_rules | `(tactic| walk_at "st1") => `(tactic| first
  | refine ⟨_, Or.inl (Or.inl (by walk_at "hp")), ?_⟩
  | refine ⟨_, Or.inl (Or.inl (Or.inl (by walk_at "hp"))), ?_⟩
  | refine ⟨_, (show _ = some (HO.lst _) by walk_at "hp"), ?_⟩
  | refine ⟨_, rfl, ?_⟩
  | refine ⟨(rfl : ("str" : String) = "str"), ?_⟩
  | refine ⟨Or.inr ⟨by decide, by decide⟩, ?_⟩
  | refine ⟨⟨by decide, by decide⟩, ?_⟩
  | refine ⟨by decide, ?_⟩
  | refine ⟨by assumption, ?_⟩)
local macro_rules | `(tactic| walk_at "st") => `(tactic| repeat walk_at "st1")
local macro_rules | `(tactic| walk_at "go") => `(tactic| repeat first | walk_at "st1" | walk_at "rd")
section
variable {P : Program} {w : World} {K : PySem.W.Frag} {mg : Str → Option Value} {base : Heap}
def sp_Lsigns : Sp := fun vs H Q _ => vs = [] ∧ Q (.str (tx SG)) H
theorem atI_ints {ds : List Int} {a : Int} (h0 : 0 ≤ a) (h1 : a < ((ds.map V.int).length : Nat)) : ∃ z, atI (ds.map V.int) a = some (V.int z) := by
  obtain ⟨n, rfl⟩ := Int.eq_ofNat_of_zero_le h0
  have h2 : n < ds.length := by rw [List.length_map] at h1; omega
  refine ⟨ds[n], atI_nat ?_⟩
  rw [List.getElem?_map, List.getElem?_eq_getElem h2]
  rfl
def sp_Lnext : Sp := fun vs H Q _ => ∃ (d l : Addr) (m : Int), vs = [.ref d, .int m] ∧ Drw H d l ∧ 0 < m ∧ ∀ (r : Int) (H' : Hp), 0 ≤ r → r < m → Drw H' d l → But d H H' → Q (.int r) H'
theorem ok_Lnext (T : Top K mg) : FnOk P w K mg base CX0 1 T.f_Lnext T.fd_Lnext ["_law_draw_here", "_law_many"] sp_Lnext := by
  refine T.F_Lnext.ok sc_Lnext (fun vs H Q E h => ?_) (fun cdv A outer s H vs Q E hr h => ?_)
  · obtain ⟨d, l, m, rfl, _⟩ := h
    rfl
  · obtain ⟨d, l, m, rfl, hD, hm, q⟩ := h
    refine ⟨_, (pss_cons (ps_set (i := 2) sc_Lnext.nd rfl (Or.inl rfl) (pe_ix (r := rIxL K) ix_list (pv 0) pe_int (fun _ _ => rfl)))
       (pss_cons (ps_if (pt_cmpR op_lt (pv 2) (pe_callB (r := rLenQ K) call_lenQ (by rfl) T.b_len PySem.boot_len (pa_cons (pe_ix (r := rIxL K) ix_list (pv 0) pe_int (fun _ _ => rfl)) pa_nil)) (nomark _)) (pss_cons (ps_asg (pe_op op_add (pv 2) pe_int) (pg_sub (pv 0) pe_int set_list))
       (pss_one (ps_ret (pe_op op_mod (pe_callTy call_int1 (by rfl) T.b_int (by decide +kernel) (pa_cons (pe_ix (r := rIxL K) ix_list (pe_ix (r := rIxL K) ix_list (pv 0) pe_int (fun _ _ => rfl)) (pv 2) (fun _ _ => rfl)) pa_nil)) (pv 1))))) pss_nil)
       (pss_cons (ps_asg (pe_op op_mod (pe_callTy call_int1 (by rfl) T.b_int (by decide +kernel) (pa_cons (pe_op op_add (pe_op op_mul (pe_ix (r := rIxL K) ix_list (pv 0) pe_int (fun _ _ => rfl)) pe_int) pe_int) pa_nil)) pe_int) (pg_sub (pv 0) pe_int set_list))
       (pss_cons (ps_asg (pe_op op_mod (pe_callTy call_int1 (by rfl) T.b_int (by decide +kernel) (pa_cons (pe_op op_add (pe_op op_mul (pe_ix (r := rIxL K) ix_list (pv 0) pe_int (fun _ _ => rfl)) pe_int) pe_int) pa_nil)) pe_int) (pg_sub (pv 0) pe_int set_list))
       (pss_one (ps_ret (pe_op op_mod (pe_callTy call_int1 (by rfl) T.b_int (by decide +kernel) (pa_cons (pe_op op_add (pe_op op_fdiv (pe_ix (r := rIxL K) ix_list (pv 0) pe_int (fun _ _ => rfl)) pe_int) (pe_op op_fdiv (pe_ix (r := rIxL K) ix_list (pv 0) pe_int (fun _ _ => rfl)) pe_int)) pa_nil)) (pv 1)))))))), ?_⟩
    obtain ⟨a, b, c, ds, hn, h1, h2, h3⟩ := hD
    have nl : l ≠ d := hn.symm
    walk_at "rd"
    walk_at "go"
    split
    · rename_i hlt
      walk_at "go"
      obtain ⟨z, hz⟩ := atI_ints h3 hlt
      refine ⟨_, hz, .inl ⟨_, rfl, hm, ?_⟩⟩
      exact q _ _ (Int.emod_nonneg _ (by omega)) (Int.emod_lt_of_pos _ hm) ⟨a + 1, b, c, ds, hn, upd_same, (upd_ne nl).trans h2, by omega⟩ .put
    · walk_at "go"
      refine q _ _ (Int.emod_nonneg _ (by omega)) (Int.emod_lt_of_pos _ hm) ⟨a, _, _, ds, hn, upd_same, (upd_ne nl).trans ((upd_ne nl).trans h2), h3⟩ (.trans .put .put)
theorem ok_Lsigns (T : Top K mg) : FnOk P w K mg base CX0 1 T.f_Lsigns T.fd_Lsigns [] sp_Lsigns := by
  refine T.F_Lsigns.ok sc_Lsigns (fun vs H Q E h => ?_) (fun cdv A outer s H vs Q E hr h => ?_)
  · obtain ⟨rfl, _⟩ := h
    rfl
  · obtain ⟨rfl, q⟩ := h
    refine ⟨_, (pss_cons (ps_set (i := 0) sc_Lsigns.nd rfl (Or.inl rfl) pe_str)
       (pss_one (ps_ret (pe_op op_add_str (pv 0) pe_str)))), ?_⟩
    walk_at "rd"
    refine ⟨by decide, ?_⟩
    exact sgs_tx ▸ q
end
end My
namespace My
open PySem L2
local macro_rules | `(tactic| walk_at "rd") => `(tactic| simp only [tSeq, tNext, tAsg, tOp, tUn, tC, tVar, gName, gSub, tCons, tNil, tCB, tIfS, tIf, tTest, tB, tAnd, tOr, tNot, tAndV, tOrV, tNotV, tRet, tRetN, tDrop, tLst, tTup, tCall, tSl, tNoPart, tPart, tM0, tM1, tBM, tBM0, tYes, tFor_eq, tLc_eq, iList, iRng1, iRng2, iStr, sg_tx, c_empty, rstrip_sign, find_sign, cut_last, cut_to, cut_from, cut_mid, cut_to_lit, cut_from_lit, and_assoc, flat_rep, List.length_replicate, tx_len, tx_eq, tx_app, tx_cps, rI0, rI, rU, rEq, rNe, rIxL, rIxS, rIxT, rSetL, rAppend, rPopAt, rSlS, rSlL, rIn, rMulS, rLtD, rJoin, rLenQ, rListOf,  tRevS, 
  scal, L2.start, List.map_cons, List.map_nil, List.length_cons, List.length_nil, List.replicate, List.cons_append, List.nil_append, List.append_nil,
  List.getElem?_cons_zero, List.getElem?_cons_succ, List.set_cons_zero, List.set_cons_succ, Nat.sub_zero, Nat.reduceSub, Nat.reduceAdd, Nat.zero_add, id_eq, Int.reduceToNat, exists_or,
  V.int.injEq, V.str.injEq, V.bl.injEq, V.ref.injEq, Option.some.injEq, List.cons.injEq, exists_and_left, exists_eq_left', exists_eq_left, exists_eq, exists_eq', and_true, true_and, reduceCtorEq, false_and, and_false, exists_false, false_or, or_false, decide_eq_true_eq, Bool.not_eq_true', decide_eq_false_iff_not, Bool.not_not, Bool.false_eq_true, ↓reduceIte, if_true, if_false])

local macro_rules | `(tactic| walk_at "ne") => `(tactic| first | assumption | (refine Ne.symm ?_; assumption) | exact (ne_of_none (by assumption) (by assumption)) | exact (ne_of_none (by assumption) (by assumption)).symm)
local macro_rules | `(tactic| walk_at "hp") => `(tactic| first | assumption | exact upd_same | exact (upd_ne (by walk_at "ne")).trans (by walk_at "hp"))
local macro_rules | `(tactic| walk_at "st1") => `(tactic| first
  | refine ⟨_, Or.inl (Or.inl (by walk_at "hp")), ?_⟩
  | refine ⟨_, Or.inl (Or.inl (Or.inl (by walk_at "hp"))), ?_⟩
  | refine ⟨_, (show _ = some (HO.lst _) by walk_at "hp"), ?_⟩
  | refine ⟨_, rfl, ?_⟩
  | refine ⟨(rfl : ("str" : String) = "str"), ?_⟩
  | refine ⟨Or.inr ⟨by decide, by decide⟩, ?_⟩
  | refine ⟨⟨by decide, by decide⟩, ?_⟩
  | refine ⟨by decide, ?_⟩
  | refine ⟨by assumption, ?_⟩)
local macro_rules | `(tactic| walk_at "st") => `(tactic| repeat walk_at "st1")
local macro_rules | `(tactic| walk_at "go") => `(tactic| repeat first | walk_at "st1" | walk_at "rd")
section
variable {P : Program} {w : World} {K : PySem.W.Frag} {mg : Str → Option Value} {base : Heap}
def sp_Ldraw (K : PySem.W.Frag) : Sp := fun vs H Q _ => ∃ (a : Addr) (ns : List Int), vs = [.ref a] ∧ SqL K H a (ns.map V.int) ∧ ns.length ≤ 63 ∧ ∀ (d l : Addr) (H' : Hp), H d = none → H l = none → Same H H' → Drw H' d l → Q (.ref d) H'
theorem ok_Ldraw (T : Top K mg) : FnOk P w K mg base CX0 1 T.f_Ldraw T.fd_Ldraw ["_law_script"] (sp_Ldraw K) := by
  refine T.F_Ldraw.ok sc_Ldraw (fun vs H Q E h => ?_) (fun cdv A outer s H vs Q E hr h => ?_)
  · obtain ⟨a, ns, rfl, _⟩ := h
    rfl
  · obtain ⟨a, ns, rfl, hS, hn, q⟩ := h
    refine ⟨_, (pss_cons (ps_set (i := 1) sc_Ldraw.nd rfl (Or.inl rfl) (pe_lst pa_nil))
       (pss_cons (ps_set (i := 2) sc_Ldraw.nd rfl (Or.inl rfl) pe_int)
       (pss_cons (ps_set (i := 3) sc_Ldraw.nd rfl (Or.inl rfl) pe_int)
       (pss_cons (ps_for PassesOwn.never rfl (pi_list (pv 0)) (pg_name (i := 4) sc_Ldraw.nd rfl (Or.inl rfl))
       (pss_cons (ps_set (i := 2) sc_Ldraw.nd rfl (Or.inl rfl) (pe_op op_mod (pe_callTy call_int1 (by rfl) T.b_int (by decide +kernel) (pa_cons (pe_op op_add (pe_op op_mul (pv 2) pe_int) (pv 4)) pa_nil)) pe_int))
       (pss_cons (ps_set (i := 3) sc_Ldraw.nd rfl (Or.inl rfl) (pe_op op_mod (pe_callTy call_int1 (by rfl) T.b_int (by decide +kernel) (pa_cons (pe_op op_add (pe_op op_mul (pv 3) pe_int) (pe_op op_fdiv (pv 4) pe_int)) pa_nil)) pe_int))
       (pss_cons (ps_set (i := 5) sc_Ldraw.nd rfl (Or.inl rfl) (pv 4))
       (pss_cut (ps_if (pt_cmpR op_lt (pv 4) (pe_op op_pow pe_int pe_int) (nomark _)) (pss_one (ps_set (i := 5) sc_Ldraw.nd rfl (Or.inl rfl) pe_int)) pss_nil)
       (pss_one (ps_for PassesOwn.never rfl (pi_range1 rfl T.b_range (pa_cons pe_int pa_nil)) (pg_name (i := 6) sc_Ldraw.nd rfl (Or.inl rfl))
       (pss_one (ps_if (pt_cmpR op_gt (pv 5) pe_int (nomark _)) (pss_cons (ps_expr (pe_bm PySem.F.plainAttrs_list PySem.F.slot_list_append PySem.F.type_list_append mt_append (pv 1) (pa_cons (pe_op op_mod (pe_callTy call_int1 (by rfl) T.b_int (by decide +kernel) (pa_cons (pv 5) pa_nil)) pe_int) pa_nil)))
       (pss_one (ps_set (i := 5) sc_Ldraw.nd rfl (Or.inl rfl) (pe_op op_fdiv (pv 5) pe_int)))) pss_nil)))))))))
       (pss_one (ps_ret (pe_lst (pa_cons pe_int (pa_cons (pv 2) (pa_cons (pv 3) (pa_cons (pv 1) (pa_cons pe_int pa_nil)))))))))))), ?_⟩
    walk_at "rd"
    refine ⟨by decide, fun l hl => ?_⟩
    refine ⟨⟨_, (same_upd hl).seq hS⟩, ?_⟩
    obtain ⟨Pv, hP⟩ : ∃ Pv : Nat → St → Hp → Prop, ∀ i σ H', Pv i σ H' ↔ ∃ (one two : Int) (v4 v5 v6 : Option V) (ds : List Int), σ = [some (V.ref a), some (V.ref l), some (V.int one), some (V.int two), v4, v5, v6] ∧ Same H H' ∧ H' l = some (.lst (ds.map V.int)) ∧ ds.length ≤ 60 * i := ⟨_, fun _ _ _ => Iff.rfl⟩
    refine forJ_by (reg_list _ a (ns.map V.int)) Pv ?_ ?_ ?_ ?_
    · intro i σ H' h
      obtain ⟨_, _, _, _, _, _, _, sm, _⟩ := (hP _ _ _).mp h
      exact sm.seq hS
    · exact (hP _ _ _).mpr ⟨7, 11, none, none, none, [], rfl, same_upd hl, upd_same, by decide⟩
    · intro i x σ H' hi h
      obtain ⟨one, two, v4, v5, v6, ds, rfl, sm, hL, hlen⟩ := (hP _ _ _).mp h
      have hi2 : i < ns.length := by
        have := (List.getElem?_eq_some_iff.mp hi).1
        rw [List.length_map] at this; exact this
      obtain ⟨z, rfl⟩ : ∃ z, x = V.int z := by
        rw [List.getElem?_map, List.getElem?_eq_getElem hi2] at hi
        exact ⟨_, (Option.some.inj hi).symm⟩
      walk_at "rd"
      walk_at "go"
      obtain ⟨Mid, hM⟩ : ∃ Mid : St → Hp → Prop, ∀ σ' H2, Mid σ' H2 ↔ ∃ (one two r : Int) (v6 : Option V), σ' = [some (V.ref a), some (V.ref l), some (V.int one), some (V.int two), some (V.int z), some (V.int r), v6] ∧ H2 = H' := ⟨_, fun _ _ => Iff.rfl⟩
      refine ⟨Mid, ?_, ?_⟩
      · walk_at "rd"
        refine ⟨⟨by decide, by decide, by decide⟩, ?_⟩
        split
        · exact (hM _ _).mpr ⟨_, _, _, _, rfl, rfl⟩
        · exact (hM _ _).mpr ⟨_, _, _, _, rfl, rfl⟩
      · intro σ' H2 h2
        obtain ⟨one', two', r, v6', rfl, rfl⟩ := (hM _ _).mp h2
        walk_at "rd"
        refine ⟨by decide, by decide, ?_⟩
        obtain ⟨Pj, hJ⟩ : ∃ Pj : Nat → St → Hp → Prop, ∀ j σ H', Pj j σ H' ↔ ∃ (r : Int) (v6 : Option V) (ds : List Int), σ = [some (V.ref a), some (V.ref l), some (V.int one'), some (V.int two'), some (V.int z), some (V.int r), v6] ∧ Same H H' ∧ H' l = some (.lst (ds.map V.int)) ∧ ds.length ≤ 60 * i + j := ⟨_, fun _ _ _ => Iff.rfl⟩
        refine forJ_by (reg_range _ _) Pj ?_ ?_ ?_ ?_
        · intros; trivial
        · exact (hJ _ _ _).mpr ⟨_, _, ds, rfl, sm, hL, by omega⟩
        · intro j b σ H' hj h
          obtain ⟨r, v6, ds, rfl, sm, hL, hlen⟩ := (hJ _ _ _).mp h
          have hj2 : j < 60 := by
            have := (List.getElem?_eq_some_iff.mp hj).1
            rw [List.length_range] at this; exact this
          walk_at "rd"
          split
          · have hsz : (ds.map V.int).length < sizeLine := by
              rw [List.length_map]
              have h1 : 60 * i + j ≤ 60 * 63 + 60 := by omega
              exact Nat.lt_of_le_of_lt (Nat.le_trans hlen h1) (by decide)
            refine ⟨.inl ⟨rfl, _, .inl (.inl hL)⟩, ?_⟩
            walk_at "go"
            refine (hJ _ _ _).mpr ⟨_, _, ds ++ [r % 5040], rfl, ?_, ?_, ?_⟩
            · intro b o e
              rw [upd_ne (ne_of_none e hl)]
              exact sm _ _ e
            · rw [upd_same, List.map_append]; rfl
            · rw [List.length_append]; simp; omega
          · exact (hJ _ _ _).mpr ⟨_, _, ds, rfl, sm, hL, by omega⟩
        · intro σ H' h
          obtain ⟨r, v6, ds, rfl, sm, hL, hlen⟩ := (hJ _ _ _).mp h
          rw [List.length_range] at hlen
          have e60 : (60 : Int).toNat = 60 := rfl
          exact (hP _ _ _).mpr ⟨_, _, _, _, _, ds, rfl, sm, hL, by omega⟩
    · intro σ H' h
      obtain ⟨one, two, v4, v5, v6, ds, rfl, sm, hL, hlen⟩ := (hP _ _ _).mp h
      walk_at "rd"
      refine ⟨by decide, fun d hd => ?_⟩
      have nl : l ≠ d := ne_of_none hL hd
      exact q d l _ (sm.free hd) hl (sm.trans (same_upd hd)) ⟨0, _, _, ds, nl.symm, upd_same, (upd_ne nl).trans hL, by decide⟩
end
end My
namespace My
open PySem L2
local macro_rules | `(tactic| walk_at "rd") => `(tactic| simp only [tSeq, tNext, tAsg, tOp, tUn, tC, tVar, gName, gSub, tCons, tNil, tCB, tIfS, tIf, tTest, tB, tAnd, tOr, tNot, tAndV, tOrV, tNotV, tRet, tRetN, tDrop, tLst, tTup, tCall, tSl, tNoPart, tPart, tM0, tM1, tBM, tBM0, tYes, tFor_eq, tLc_eq, iList, iRng1, iRng2, iStr, sg_tx, c_empty, rstrip_sign, find_sign, cut_last, cut_to, cut_from, cut_mid, cut_to_lit, cut_from_lit, and_assoc, flat_rep, List.length_replicate, tx_len, tx_eq, tx_app, tx_cps, rI0, rI, rU, rEq, rNe, rIxL, rIxS, rIxT, rSetL, rAppend, rPopAt, rSlS, rSlL, rIn, rMulS, rLtD, rJoin, rLenQ, rListOf,  tRevS, 
  scal, L2.start, List.map_cons, List.map_nil, List.length_cons, List.length_nil, List.replicate, List.cons_append, List.nil_append, List.append_nil,
  List.getElem?_cons_zero, List.getElem?_cons_succ, List.set_cons_zero, List.set_cons_succ, Nat.sub_zero, Nat.reduceSub, Nat.reduceAdd, Nat.zero_add, id_eq, Int.reduceToNat, exists_or,
  V.int.injEq, V.str.injEq, V.bl.injEq, V.ref.injEq, Option.some.injEq, List.cons.injEq, exists_and_left, exists_eq_left', exists_eq_left, exists_eq, exists_eq', and_true, true_and, reduceCtorEq, false_and, and_false, exists_false, false_or, or_false, decide_eq_true_eq, Bool.not_eq_true', decide_eq_false_iff_not, Bool.not_not, Bool.false_eq_true, ↓reduceIte, if_true, if_false])

local macro_rules | `(tactic| walk_at "ne") => `(tactic| first | assumption | (refine Ne.symm ?_; assumption) | exact (ne_of_none (by assumption) (by assumption)) | exact (ne_of_none (by assumption) (by assumption)).symm)
local macro_rules | `(tactic| walk_at "hp") => `(tactic| first | assumption | exact upd_same | exact (upd_ne (by walk_at "ne")).trans (by walk_at "hp"))
local macro_rules | `(tactic| walk_at "st1") => `(tactic| first
  | refine ⟨_, Or.inl (Or.inl (by walk_at "hp")), ?_⟩
  | refine ⟨_, Or.inl (Or.inl (Or.inl (by walk_at "hp"))), ?_⟩
  | refine ⟨_, (show _ = some (HO.lst _) by walk_at "hp"), ?_⟩
  | refine ⟨_, rfl, ?_⟩
  | refine ⟨(rfl : ("str" : String) = "str"), ?_⟩
  | refine ⟨Or.inr ⟨by decide, by decide⟩, ?_⟩
  | refine ⟨⟨by decide, by decide⟩, ?_⟩
  | refine ⟨by decide, ?_⟩
  | refine ⟨by assumption, ?_⟩)
local macro_rules | `(tactic| walk_at "st") => `(tactic| repeat walk_at "st1")
local macro_rules | `(tactic| walk_at "go") => `(tactic| repeat first | walk_at "st1" | walk_at "rd")
section
variable {P : Program} {w : World} {K : PySem.W.Frag} {mg : Str → Option Value} {base : Heap}
def sp_rank : Sp := fun vs H Q _ => ∃ (c : Nat), vs = [.str (tx [c])] ∧ c ∈ SG ∧ Q (.int (fi c SG : Nat)) H
theorem ok_rank (T : Top K mg) : FnOk P w K mg base CX0 1 T.f_rank T.fd_rank ["sign"] sp_rank := by
  refine T.F_rank.ok sc_rank (fun vs H Q E h => ?_) (fun cdv A outer s H vs Q E hr h => ?_)
  · obtain ⟨a, rfl, _⟩ := h
    rfl
  · obtain ⟨c, rfl, hc, q⟩ := h
    refine ⟨_, (pss_one (ps_ret (pe_bm PySem.F.plainAttrs_str PySem.F.slot_str_index PySem.F.type_str_index mt_indexS (pe_glob (v := .str _) rfl T.g_SIGNS ⟨_, rfl⟩) (pa_cons (pv 0) pa_nil)))), ?_⟩
    walk_at "rd"
    exact ⟨rfl, SG, sgs_tx2, hc, q⟩
end
end My
namespace My
open PySem L2
local macro_rules | `(tactic| walk_at "rd") => `(tactic| simp only [sFld, tM1, tMake, tProp, tFld, rOwn2, rOwnIn, rOwn1, rSetTx, rSortedTx, tSeq, tNext, tAsg, tOp, tUn, tC, tVar, gName, gSub, tCons, tNil, tCB, tIfS, tIf, tTest, tB, tAnd, tOr, tNot, tAndV, tOrV, tNotV, tRet, tRetN, tDrop, tLst, tTup, tCall, tSl, tNoPart, tPart, tM0, tM1, tBM, tBM0, tYes, tFor_eq, tLc_eq, iList, iRng1, iRng2, iStr, sg_tx, c_empty, rstrip_sign, find_sign, cut_last, cut_to, cut_from, cut_mid, cut_to_lit, cut_from_lit, and_assoc, flat_rep, List.length_replicate, tx_len, tx_eq, tx_app, tx_cps, rI0, rI, rU, rEq, rNe, rIxL, rIxS, rIxT, rSetL, rAppend, rPopAt, rSlS, rSlL, rIn, rMulS, rLtD, rJoin, rLenQ, rListOf,  tRevS, 
  scal, L2.start, List.map_cons, List.map_nil, List.length_cons, List.length_nil, List.replicate, List.cons_append, List.nil_append, List.append_nil,
  List.getElem?_cons_zero, List.getElem?_cons_succ, List.set_cons_zero, List.set_cons_succ, Nat.sub_zero, Nat.reduceSub, Nat.reduceAdd, Nat.zero_add, id_eq, Int.reduceToNat, exists_or,
  V.int.injEq, V.str.injEq, V.bl.injEq, V.ref.injEq, Option.some.injEq, List.cons.injEq, exists_and_left, exists_eq_left', exists_eq_left, exists_eq, exists_eq', and_true, true_and, reduceCtorEq, false_and, and_false, exists_false, false_or, or_false, decide_eq_true_eq, Bool.not_eq_true', decide_eq_false_iff_not, Bool.not_not, Bool.false_eq_true, ↓reduceIte, if_true, if_false])

local macro_rules | `(tactic| walk_at "ne") => `(tactic| first | assumption | (refine Ne.symm ?_; assumption) | exact (ne_of_none (by assumption) (by assumption)) | exact (ne_of_none (by assumption) (by assumption)).symm)
local macro_rules | `(tactic| walk_at "hp") => `(tactic| first | assumption | exact upd_same | exact (upd_ne (by walk_at "ne")).trans (by walk_at "hp"))
local macro_rules | `(tactic| walk_at "st1") => `(tactic| first
  | refine ⟨_, Or.inl (Or.inl (by walk_at "hp")), ?_⟩
  | refine ⟨_, Or.inl (Or.inl (Or.inl (by walk_at "hp"))), ?_⟩
  | refine ⟨_, (show _ = some (HO.lst _) by walk_at "hp"), ?_⟩
  | refine ⟨_, rfl, ?_⟩
  | refine ⟨(rfl : ("str" : String) = "str"), ?_⟩
  | refine ⟨Or.inr ⟨by decide, by decide⟩, ?_⟩
  | refine ⟨⟨by decide, by decide⟩, ?_⟩
  | refine ⟨by decide, ?_⟩
  | refine ⟨by assumption, ?_⟩)
local macro_rules | `(tactic| walk_at "st") => `(tactic| repeat walk_at "st1")
local macro_rules | `(tactic| walk_at "go") => `(tactic| repeat first | walk_at "st1" | walk_at "rd")
section
variable {P : Program} {w : World} {K : PySem.W.Frag} {mg : Str → Option Value} {base : Heap}
theorem join_goW {K : PySem.W.Frag} {H : Hp} {D : Addr} {cs : List Nat} {R : List Str → Prop} (hD : SqL K H D (cs.map fun c => V.str (tx [c]))) (h : cs.length ≤ 10000) (q : ∀ ys, Txt.join (tx []) ys = tx cs → R ys) :
    ∃ ys : List Str, (SqL K H D (ys.map V.str) ∨ SqT K H D (ys.map V.str)) ∧ (ys.map (·.length)).sum + ys.length * 0 ≤ 16777216 ∧ R ys := by
  obtain ⟨ys, a, b, c⟩ := join_w (cs := cs) hD h
  exact ⟨ys, a, b, q ys c⟩
def sp_Minit (C : Addr) : Sp := fun vs H Q _ => ∃ (x dx : Addr) (cs : List Nat), vs = [.ref x, .str (tx cs)] ∧ H x = some (.ins C dx []) ∧ (∀ c ∈ cs, c ∈ SG) ∧ cs.length ≤ 1000 ∧ ∀ H', But x H H' → Sgs C H' x (asc cs) → Q .non H'
theorem ok_SignSet_Minit (T : Top K mg) : FnOk P w K mg base CX0 1 T.f_SignSet_Minit T.fd_SignSet_Minit ["self", "signs"] (sp_Minit T.c_SignSet) := by
  refine T.F_SignSet_Minit.ok sc_SignSet_Minit (fun vs H Q E h => ?_) (fun cdv A outer s H vs Q E hr h => ?_)
  · obtain ⟨x, dx, cs, rfl, _⟩ := h
    rfl
  · obtain ⟨x, dx, cs, rfl, hx, hs, hl, q⟩ := h
    refine ⟨_, (pss_one (ps_fld (pv 0) (pe_m1 (r := rJoin K) PySem.F.slot_str_join PySem.F.type_str_join mt_joinQ pe_str (pe_callB (r := rSortedTx _) (cr_sortedTx rfl (Nat.lt_of_le_of_lt (Nat.add_le_add_left (by decide : 16 ≤ 64) _) hr.units)) (by rfl) T.b_sorted (by decide +kernel) (pa_cons (pe_callTy (r := rSetTx _) (cr_setTx rfl) (by rfl) T.b_set (by decide +kernel) (pa_cons (pv 1) pa_nil)) pa_nil))) rfl)), ?_⟩
    walk_at "rd"
    refine ⟨by have : scanBound = 4096 := rfl; omega, fun p hp => ⟨cs, upd_same, fun ns p1 pw mem hp1 => ?_⟩⟩
    obtain rfl := asc_of hs pw mem
    have np : p1 ≠ p := fun e => by rw [e, upd_same] at hp1; cases hp1
    have hp1' : H p1 = none := by rw [upd_ne np] at hp1; exact hp1
    have nx : x ≠ p := ne_of_none hx hp
    have nx1 : x ≠ p1 := ne_of_none hx hp1'
    have hl2 := sub_len (asc_sub cs)
    refine join_goW (cs := asc cs) sq_upd (by omega) fun ys e => ?_
    rw [e]
    refine ⟨_, _, _, by rw [upd_ne nx1, upd_ne nx]; exact hx, T.i_SignSet.cl, T.na_SignSet_members, by decide, q _ (fun b o nb e => ?_) ⟨_, upd_same⟩⟩
    rw [upd_ne nb, upd_ne (ne_of_none e hp1'), upd_ne (ne_of_none e hp)]
    exact e
def sp_members (C : Addr) : Sp := fun vs H Q _ => ∃ (x : Addr) (cs : List Nat), vs = [.ref x] ∧ Sgs C H x cs ∧ Q (.str (tx cs)) H
theorem ok_SignSet_members (T : Top K mg) : FnOk P w K mg base CX0 1 T.f_SignSet_members T.fd_SignSet_members ["self"] (sp_members T.c_SignSet) := by
  refine T.F_SignSet_members.ok sc_SignSet_members (fun vs H Q E h => ?_) (fun cdv A outer s H vs Q E hr h => ?_)
  · obtain ⟨x, cs, rfl, _⟩ := h
    rfl
  · obtain ⟨x, cs, rfl, ⟨dx, hx⟩, q⟩ := h
    refine ⟨_, (pss_one (ps_ret (pe_fld (pv 0) rfl))), ?_⟩
    walk_at "rd"
    exact ⟨_, _, _, hx, T.i_SignSet.cl, T.na_SignSet_members, _, mem_lk cs, q⟩
def sp_Mcontains (C : Addr) : Sp := fun vs H Q _ => ∃ (x : Addr) (cs : List Nat) (c : Nat), vs = [.ref x, .str (tx [c])] ∧ Sgs C H x cs ∧ cs.length ≤ 1000 ∧ Q (.bl (decide (c ∈ cs))) H
theorem ok_SignSet_Mcontains (T : Top K mg) : FnOk P w K mg base CX0 1 T.f_SignSet_Mcontains T.fd_SignSet_Mcontains ["self", "sign"] (sp_Mcontains T.c_SignSet) := by
  refine T.F_SignSet_Mcontains.ok sc_SignSet_Mcontains (fun vs H Q E h => ?_) (fun cdv A outer s H vs Q E hr h => ?_)
  · obtain ⟨x, cs, c, rfl, _⟩ := h
    rfl
  · obtain ⟨x, cs, c, rfl, ⟨dx, hx⟩, hl, q⟩ := h
    refine ⟨_, (pss_one (ps_ret (pe_and (pe_cmpR op_eq (pe_callB call_len_str (by rfl) T.b_len PySem.boot_len (pa_cons (pv 1) pa_nil)) pe_int (nomark _)) (pe_one (pe_cmpR op_in_sign (pv 1) (pe_fld (pv 0) rfl) (by rfl)))))), ?_⟩
    walk_at "rd"
    refine ⟨by decide, ?_⟩
    rw [if_pos (by rfl)]
    exact ⟨_, _, _, hx, T.i_SignSet.cl, T.na_SignSet_members, _, mem_lk cs, _, rfl, q⟩
end
end My
namespace My
open PySem L2
local macro_rules | `(tactic| walk_at "rd") => `(tactic| simp only [sFld, tM1, tMake, tProp, tFld, rOwn2, rOwnIn, rOwn1, rSetTx, rSortedTx, sp_Minit, sp_Mcontains, sp_members, rAll, tSeq, tNext, tAsg, tOp, tUn, tC, tVar, gName, gSub, tCons, tNil, tCB, tIfS, tIf, tTest, tB, tAnd, tOr, tNot, tAndV, tOrV, tNotV, tRet, tRetN, tDrop, tLst, tTup, tCall, tSl, tNoPart, tPart, tM0, tM1, tBM, tBM0, tYes, tFor_eq, tLc_eq, iList, iRng1, iRng2, iStr, sg_tx, c_empty, rstrip_sign, find_sign, cut_last, cut_to, cut_from, cut_mid, cut_to_lit, cut_from_lit, and_assoc, flat_rep, List.length_replicate, tx_len, tx_eq, tx_app, tx_cps, rI0, rI, rU, rEq, rNe, rIxL, rIxS, rIxT, rSetL, rAppend, rPopAt, rSlS, rSlL, rIn, rMulS, rLtD, rJoin, rLenQ, rListOf,  tRevS, 
  scal, L2.start, List.map_cons, List.map_nil, List.length_cons, List.length_nil, List.replicate, List.cons_append, List.nil_append, List.append_nil,
  List.getElem?_cons_zero, List.getElem?_cons_succ, List.set_cons_zero, List.set_cons_succ, Nat.sub_zero, Nat.reduceSub, Nat.reduceAdd, Nat.zero_add, id_eq, Int.reduceToNat, exists_or,
  V.int.injEq, V.str.injEq, V.bl.injEq, V.ref.injEq, Option.some.injEq, List.cons.injEq, exists_and_left, exists_eq_left', exists_eq_left, exists_eq, exists_eq', and_true, true_and, reduceCtorEq, false_and, and_false, exists_false, false_or, or_false, decide_eq_true_eq, Bool.not_eq_true', decide_eq_false_iff_not, Bool.not_not, Bool.false_eq_true, ↓reduceIte, if_true, if_false])

local macro_rules | `(tactic| walk_at "ne") => `(tactic| first | assumption | (refine Ne.symm ?_; assumption) | exact (ne_of_none (by assumption) (by assumption)) | exact (ne_of_none (by assumption) (by assumption)).symm)
local macro_rules | `(tactic| walk_at "hp") => `(tactic| first | assumption | exact upd_same | exact (upd_ne (by walk_at "ne")).trans (by walk_at "hp"))
local macro_rules | `(tactic| walk_at "st1") => `(tactic| first
  | refine ⟨_, Or.inl (Or.inl (by walk_at "hp")), ?_⟩
  | refine ⟨_, Or.inl (Or.inl (Or.inl (by walk_at "hp"))), ?_⟩
  | refine ⟨_, (show _ = some (HO.lst _) by walk_at "hp"), ?_⟩
  | refine ⟨_, rfl, ?_⟩
  | refine ⟨(rfl : ("str" : String) = "str"), ?_⟩
  | refine ⟨Or.inr ⟨by decide, by decide⟩, ?_⟩
  | refine ⟨⟨by decide, by decide⟩, ?_⟩
  | refine ⟨by decide, ?_⟩
  | refine ⟨by assumption, ?_⟩)
local macro_rules | `(tactic| walk_at "st") => `(tactic| repeat walk_at "st1")
local macro_rules | `(tactic| walk_at "go") => `(tactic| repeat first | walk_at "st1" | walk_at "rd")
section
variable {P : Program} {w : World} {K : PySem.W.Frag} {mg : Str → Option Value} {base : Heap}
theorem made_same {H H' : Hp} {p dp C : Addr} (hp : H p = none) (hd : H dp = none) (b : But p (upd (upd H dp (.own p)) p (.ins C dp [])) H') : Same H H' := fun b' o e =>
  b b' o (ne_of_none e hp) (by rw [upd_ne (ne_of_none e hp), upd_ne (ne_of_none e hd)]; exact e)
theorem same_new {H : Hp} {D : Addr} {o : HO} (h : H D = none) : Same H (upd H D o) := fun b u e => by rw [upd_ne (ne_of_none e h)]; exact e
def sp_op2 (C : Addr) (g : List Nat → List Nat → List Nat) : Sp := fun vs H Q _ => ∃ (x y : Addr) (a b : List Nat), vs = [.ref x, .ref y] ∧ Sgs C H x a ∧ Sgs C H y b ∧ a.Sublist SG ∧ b.Sublist SG ∧ ∀ r H', H r = none → Same H H' → Sgs C H' r (g a b) → Q (.ref r) H'
def sp_op1 (C : Addr) (g : List Nat → List Nat) : Sp := fun vs H Q _ => ∃ (x : Addr) (a : List Nat), vs = [.ref x] ∧ Sgs C H x a ∧ a.Sublist SG ∧ ∀ r H', H r = none → Same H H' → Sgs C H' r (g a) → Q (.ref r) H'
theorem ok_SignSet_Minvert (T : Top K mg) : FnOk P w K mg base CX0 3 T.f_SignSet_Minvert T.fd_SignSet_Minvert ["self"] (sp_op1 T.c_SignSet cNot) := by
  refine T.F_SignSet_Minvert.ok sc_SignSet_Minvert (fun vs H Q E h => ?_) (fun cdv A outer s H vs Q E hr h => ?_)
  · obtain ⟨x, a, rfl, _⟩ := h
    rfl
  · obtain ⟨x, a, rfl, ⟨dx, hx⟩, sa, q⟩ := h
    refine ⟨_, (pss_one (ps_ret (pe_make T.mk_SignSet (ok_SignSet_Minit T) (hr.mono (by decide)) (by rfl) T.g_SignSet T.B_SignSet_Minit .nil pass0 (pa_cons (pe_m1 (r := rJoin K) PySem.F.slot_str_join PySem.F.type_str_join mt_joinQ pe_str (pe_lc (own := [("sign", 1)]) (g := gName 1) (by rfl) sc_SignSet_Minvert.nd (pi_str (pe_glob (v := .str _) rfl T.g_SIGNS ⟨_, rfl⟩)) (blkOk_by (own := [("sign", 1)]) (N := n_SignSet_Minvert) (sc := defScope s_SignSet_Minvert) (by decide +kernel)) (fun _ _ _ _ _ => pg_name (i := 1) sc_SignSet_Minvert.nd rfl (Or.inl rfl)) (fun _ _ _ _ _ => (pts_one (pt_cmpR (op_ownNotIn (ok_SignSet_Mcontains T) (hr.mono (by decide)) T.at_SignSet_Mcontains T.fn_SignSet_Mcontains T.B_SignSet_Mcontains pass0) (pv 1) (pv 0) (by rfl)))) (fun _ _ _ _ _ => (pv 1)))) pa_nil)))), ?_⟩
    have la := sub_len sa
    walk_at "rd"
    refine lcJ_pure (reg_text SG) (fun c => !decide (c ∈ a)) (fun c => V.str (tx [c])) (line20 (by rw [SG_len]; decide)) (fun _ _ _ => trivial) (fun c D acc Q _ h0 hq => ?_) (fun c D acc Q _ _ h0 hq => ?_) (fun D h0 => ?_)
    · walk_at "rd"
      refine ⟨_, _, same_new h0 _ _ hx, a, ⟨_, same_new h0 _ _ hx⟩, by omega, ?_⟩
      rw [Bool.true_xor]
      exact hq
    · walk_at "rd"
      exact hq
    · have hl : (SG.filter fun c => !decide (c ∈ a)).length ≤ 96 := Nat.le_trans (List.length_filter_le _ _) (by rw [SG_len]; decide)
      refine ⟨D, rfl, join_goW (cs := SG.filter fun c => !decide (c ∈ a)) sq_upd (by omega) fun ys e => fun p dp hp hdp ne => ?_⟩
      refine ⟨_, SG.filter fun c => !decide (c ∈ a), e, upd_same, fun c hc => (List.mem_filter.mp hc).1, by omega, fun H' B S => ?_⟩
      rw [asc_filtS] at S
      have hp0 : H p = none := by
        have : p ≠ D := fun z => by rw [z, upd_same] at hp; cases hp
        rw [upd_ne this] at hp; exact hp
      exact q _ _ hp0 (fun b o e => made_same hp hdp B b o (same_new h0 b o e)) S

def sp_len (C : Addr) : Sp := fun vs H Q _ => ∃ (x : Addr) (cs : List Nat), vs = [.ref x] ∧ Sgs C H x cs ∧ cs.length ≤ 1000 ∧ Q (.int (cs.length : Nat)) H
theorem ok_SignSet_Mlen (T : Top K mg) : FnOk P w K mg base CX0 1 T.f_SignSet_Mlen T.fd_SignSet_Mlen ["self"] (sp_len T.c_SignSet) := by
  refine T.F_SignSet_Mlen.ok sc_SignSet_Mlen (fun vs H Q E h => ?_) (fun cdv A outer s H vs Q E hr h => ?_)
  · obtain ⟨x, cs, rfl, _⟩ := h
    rfl
  · obtain ⟨x, cs, rfl, ⟨dx, hx⟩, hl, q⟩ := h
    refine ⟨_, (pss_one (ps_ret (pe_callB call_len_str (by rfl) T.b_len PySem.boot_len (pa_cons (pe_fld (pv 0) rfl) pa_nil)))), ?_⟩
    walk_at "rd"
    refine ⟨_, _, _, hx, T.i_SignSet.cl, T.na_SignSet_members, _, mem_lk cs, tx cs, rfl, ?_, ?_⟩
    · rw [tx_len]; exact line20 (by omega)
    · rw [tx_len]; exact q
end
end My
namespace My
open PySem L2
local macro_rules | `(tactic| walk_at "rd") => `(tactic| simp only [sFld, tM1, tMake, tProp, tFld, rOwn2, rOwnIn, rOwn1, rSetTx, rSortedTx, sp_Minit, sp_rank, sp_len, rIterS, tSeq, tNext, tAsg, tOp, tUn, tC, tVar, gName, gSub, tCons, tNil, tCB, tIfS, tIf, tTest, tB, tAnd, tOr, tNot, tAndV, tOrV, tNotV, tRet, tRetN, tDrop, tLst, tTup, tCall, tSl, tNoPart, tPart, tM0, tM1, tBM, tBM0, tYes, tFor_eq, tLc_eq, iList, iRng1, iRng2, iStr, sg_tx, c_empty, rstrip_sign, find_sign, cut_last, cut_to, cut_from, cut_mid, cut_to_lit, cut_from_lit, and_assoc, flat_rep, List.length_replicate, tx_len, tx_eq, tx_app, tx_cps, rI0, rI, rU, rEq, rNe, rIxL, rIxS, rIxT, rSetL, rAppend, rPopAt, rSlS, rSlL, rIn, rMulS, rLtD, rJoin, rLenQ, rListOf,  tRevS, 
  scal, L2.start, List.map_cons, List.map_nil, List.length_cons, List.length_nil, List.replicate, List.cons_append, List.nil_append, List.append_nil,
  List.getElem?_cons_zero, List.getElem?_cons_succ, List.set_cons_zero, List.set_cons_succ, Nat.sub_zero, Nat.reduceSub, Nat.reduceAdd, Nat.zero_add, id_eq, Int.reduceToNat, exists_or,
  V.int.injEq, V.str.injEq, V.bl.injEq, V.ref.injEq, Option.some.injEq, List.cons.injEq, exists_and_left, exists_eq_left', exists_eq_left, exists_eq, exists_eq', and_true, true_and, reduceCtorEq, false_and, and_false, exists_false, false_or, or_false, decide_eq_true_eq, Bool.not_eq_true', decide_eq_false_iff_not, Bool.not_not, Bool.false_eq_true, ↓reduceIte, if_true, if_false])

local macro_rules | `(tactic| walk_at "ne") => `(tactic| first | assumption | (refine Ne.symm ?_; assumption) | exact (ne_of_none (by assumption) (by assumption)) | exact (ne_of_none (by assumption) (by assumption)).symm)
local macro_rules | `(tactic| walk_at "hp") => `(tactic| first | assumption | exact upd_same | exact (upd_ne (by walk_at "ne")).trans (by walk_at "hp"))
local macro_rules | `(tactic| walk_at "st1") => `(tactic| first
  | refine ⟨_, Or.inl (Or.inl (by walk_at "hp")), ?_⟩
  | refine ⟨_, Or.inl (Or.inl (Or.inl (by walk_at "hp"))), ?_⟩
  | refine ⟨_, (show _ = some (HO.lst _) by walk_at "hp"), ?_⟩
  | refine ⟨_, rfl, ?_⟩
  | refine ⟨(rfl : ("str" : String) = "str"), ?_⟩
  | refine ⟨Or.inr ⟨by decide, by decide⟩, ?_⟩
  | refine ⟨⟨by decide, by decide⟩, ?_⟩
  | refine ⟨by decide, ?_⟩
  | refine ⟨by assumption, ?_⟩)
local macro_rules | `(tactic| walk_at "st") => `(tactic| repeat walk_at "st1")
local macro_rules | `(tactic| walk_at "go") => `(tactic| repeat first | walk_at "st1" | walk_at "rd")
section
variable {P : Program} {w : World} {K : PySem.W.Frag} {mg : Str → Option Value} {base : Heap}
def sp_between (C : Addr) : Sp := fun vs H Q _ => ∃ (a b : Nat), vs = [.str (tx [a]), .str (tx [b])] ∧ a ∈ SG ∧ b ∈ SG ∧ ∀ r H', H r = none → Same H H' → Sgs C H' r (btw a b) → Q (.ref r) H'
theorem ok_SignSet_between (T : Top K mg) : FnOk P w K mg base CX0 3 T.f_SignSet_between T.fd_SignSet_between ["first", "last"] (sp_between T.c_SignSet) := by
  refine T.F_SignSet_between.ok sc_SignSet_between (fun vs H Q E h => ?_) (fun cdv A outer s H vs Q E hr h => ?_)
  · obtain ⟨a, b, rfl, _⟩ := h
    rfl
  · obtain ⟨a, b, rfl, ha, hb, q⟩ := h
    refine ⟨_, (pss_one (ps_ret (pe_make T.mk_SignSet (ok_SignSet_Minit T) (hr.mono (by decide)) (by rfl) T.g_SignSet T.B_SignSet_Minit .nil pass0 (pa_cons (pe_slice sl_str (pe_glob (v := .str _) rfl T.g_SIGNS ⟨_, rfl⟩) (po_some (pe_call (ok_rank T) (hr.mono (by decide)) (by rfl) T.g_rank T.F_rank.kp T.B_rank .nil pass0 (pa_cons (pv 0) pa_nil))) (po_some (pe_op op_add (pe_call (ok_rank T) (hr.mono (by decide)) (by rfl) T.g_rank T.F_rank.kp T.B_rank .nil pass0 (pa_cons (pv 1) pa_nil)) pe_int))) pa_nil)))), ?_⟩
    have lS : SG.length ≤ sizeLine := line20 (by rw [SG_len]; decide)
    walk_at "rd"
    refine ⟨ha, hb, by rw [sgs_tx2, tx_len]; exact lS, fun x dx hx hdx hne => ⟨_, btw a b, ?_, upd_same, fun c hc => (btw_sub a b).subset hc, by have := sub_len (btw_sub a b); omega, fun H' B S => ?_⟩⟩
    · rw [sgs_tx2, show ((fi b SG : Nat) : Int) + 1 = ((fi b SG + 1 : Nat) : Int) by omega, cut_mid]
      rfl
    · rw [asc_self (btw_sub a b)] at S
      exact q _ _ hx (made_same hx hdx B) S
def sp_ranges (C : Addr) : Sp := fun vs H Q _ => ∃ (x : Addr) (cs : List Nat), vs = [.ref x] ∧ Sgs C H x cs ∧ cs.Sublist SG ∧ ∀ m rs H', H m = none → Same H H' → RunsAt H' m (runsL cs) rs → Q (.ref m) H'
theorem ok_SignSet_ranges (T : Top K mg) : FnOk P w K mg base CX0 1 T.f_SignSet_ranges T.fd_SignSet_ranges ["self"] (sp_ranges T.c_SignSet) := by
  refine T.F_SignSet_ranges.ok sc_SignSet_ranges (fun vs H Q E h => ?_) (fun cdv A outer s H vs Q E hr h => ?_)
  · obtain ⟨x, cs, rfl, _⟩ := h
    rfl
  · obtain ⟨x, cs, rfl, ⟨dx, hx⟩, hsub, q⟩ := h
    refine ⟨_, (pss_cons (ps_set (i := 1) sc_SignSet_ranges.nd rfl (Or.inl rfl) (pe_lst pa_nil))
       (pss_cons (ps_set (i := 2) sc_SignSet_ranges.nd rfl (Or.inl rfl) pe_bl)
       (pss_cons (ps_for PassesOwn.never rfl (pi_str (pe_glob (v := .str _) rfl T.g_SIGNS ⟨_, rfl⟩)) (pg_name (i := 3) sc_SignSet_ranges.nd rfl (Or.inl rfl))
       (pss_one (ps_if (pt_cmpR op_notIn_sign (pv 3) (pe_fld (pv 0) rfl) (by rfl)) (pss_one (ps_set (i := 2) sc_SignSet_ranges.nd rfl (Or.inl rfl) pe_bl)) (pss_one (ps_if (pt_val (pv 2)) (pss_one (ps_asg (pe_tup (pa_cons (pe_ix (r := rIxT K) ix_tup (pe_ix (r := rIxL K) ix_list (pv 1) (pe_un un_neg pe_int) (fun _ _ => rfl)) pe_int (fun _ _ => rfl)) (pa_cons (pv 3) pa_nil))) (pg_sub (pv 1) (pe_un un_neg pe_int) set_list))) (pss_cons (ps_expr (pe_bm PySem.F.plainAttrs_list PySem.F.slot_list_append PySem.F.type_list_append mt_append (pv 1) (pa_cons (pe_tup (pa_cons (pv 3) (pa_cons (pv 3) pa_nil))) pa_nil)))
       (pss_one (ps_set (i := 2) sc_SignSet_ranges.nd rfl (Or.inl rfl) pe_bl))))))))
       (pss_one (ps_ret (pv 1)))))), ?_⟩
    have lc := sub_len hsub
    walk_at "rd"
    refine ⟨by decide, fun m hm => ?_⟩
    rw [sgs_tx2]
    obtain ⟨Pv, hP⟩ : ∃ Pv : Nat → St → Hp → Prop, ∀ i σ H', Pv i σ H' ↔ ∃ (v3 : Option V) (rs : List Addr), σ = [some (V.ref x), some (V.ref m), some (V.bl (bit cs i)), v3] ∧ Same H H' ∧ RunsAt H' m (runsL (part cs i)) rs := ⟨_, fun _ _ _ => Iff.rfl⟩
    refine forJ_by (reg_text SG) Pv (fun _ _ _ _ => trivial) ?_ ?_ ?_
    · exact (hP _ _ _).mpr ⟨_, [], rfl, same_upd hm, RunsAt.nil upd_same⟩
    · intro i c σ H1 hi h
      obtain ⟨v3, rs, rfl, sm, RA⟩ := (hP _ _ _).mp h
      have hlt : i < SG.length := (List.getElem?_eq_some_iff.mp hi).1
      have hbit : bit cs (i + 1) = decide (c ∈ cs) := by
        show decide (SG.getD i 0 ∈ cs) = _
        have e : SG.getD i 0 = c := by
          obtain ⟨h1, h2⟩ := List.getElem?_eq_some_iff.mp hi
          rw [← h2]
          simp [List.getD, h1]
        rw [e]
      walk_at "rd"
      refine ⟨_, _, _, sm _ _ hx, T.i_SignSet.cl, T.na_SignSet_members, _, mem_lk cs, _, rfl, ?_⟩
      have hps := part_succ (cs := cs) hi
      refine ite2 (fun hc => ?_) (fun hc => ?_)
      · have hc2 : ¬ c ∈ cs := hc
        rw [if_neg hc2, List.append_nil] at hps
        refine (hP _ _ _).mpr ⟨some (V.str (tx [c])), rs, ?_, sm, by rw [hps]; exact RA⟩
        rw [hbit, decide_eq_false hc2]
      · have hc2 : c ∈ cs := Classical.byContradiction hc
        rw [if_pos hc2] at hps
        have nm : ∀ b o, H b = some o → b ≠ m := fun b o e => ne_of_none e hm
        refine ite2 (fun hb => ?_) (fun hb => ?_)
        · obtain ⟨n1, n2⟩ := bit_yes hi hb
          obtain ⟨t, e1, e2⟩ := RA.last n1
          have nr : rs.map V.ref ≠ [] := fun e => by rw [e] at e1; simp [atI, ixN] at e1
          refine ⟨_, .inl (.inl RA.lst), _, e1, t, rfl, _, SqT.of e2, _, rfl, by decide, fun p hp => ?_⟩
          obtain ⟨j, ej, es⟩ := set_last (v := V.ref p) nr
          have mp : m ≠ p := ne_of_none RA.lst hp
          refine ⟨_, by rw [upd_ne mp]; exact RA.lst, j, ej, ?_⟩
          rw [es]
          refine (hP _ _ _).mpr ⟨some (V.str (tx [c])), rs.dropLast ++ [p], by rw [hbit, decide_eq_true hc2, hb], fun b o e => ?_, ?_⟩
          · rw [upd_ne (nm _ _ e), upd_ne (ne_of_none (sm _ _ e) hp)]
            exact sm _ _ e
          · have T2 := RA.turn (H' := upd H1 p (HO.tup [V.str (tx [(lst (runsL (part cs i))).1]), V.str (tx [c])])) (t := p) (q := ((lst (runsL (part cs i))).1, c)) (same_upd hp) upd_same
            rw [hps, runs_snoc]
            unfold stepL
            rw [if_pos ⟨n1, n2⟩]
            rw [List.map_dropLast] at T2
            exact T2
        · have hb2 : bit cs i = false := Bool.eq_false_iff.mpr hb
          refine ⟨.inl ⟨rfl, _, .inl (.inl RA.lst)⟩, by decide, fun p hp => ?_⟩
          have mp : m ≠ p := ne_of_none RA.lst hp
          refine ⟨_, by rw [upd_ne mp]; exact RA.lst, ?_, ?_⟩
          · have l1 := runs_len (part cs i)
            have l2 : (part cs i).length ≤ 96 := sub_len (List.filter_sublist.trans (List.take_sublist _ _))
            rw [List.length_map, RA.len]
            exact toLine (by omega)
          · refine (hP _ _ _).mpr ⟨some (V.str (tx [c])), rs ++ [p], by rw [hbit, decide_eq_true hc2], fun b o e => ?_, ?_⟩
            · rw [upd_ne (nm _ _ e), upd_ne (ne_of_none (sm _ _ e) hp)]
              exact sm _ _ e
            · have T2 := RA.push (H' := upd H1 p (HO.tup [V.str (tx [c]), V.str (tx [c])])) (t := p) (q := (c, c)) (same_upd hp) upd_same
              rw [hps, runs_snoc]
              unfold stepL
              rw [if_neg (bit_no hi hb2)]
              exact T2
    · intro σ H1 h
      obtain ⟨v3, rs, rfl, sm, RA⟩ := (hP _ _ _).mp h
      rw [SG_len, part_all hsub] at RA
      walk_at "rd"
      exact q _ rs _ hm sm RA
end
end My
namespace My
open PySem L2
local macro_rules | `(tactic| walk_at "rd") => `(tactic| simp only [sFld, tM1, tMake, tProp, tFld, rOwn2, rOwnIn, rOwn1, rSetTx, rSortedTx, tSMeth, rOwnLen, tKGet, sp_Minit, sp_between, sp_ranges, sp_members, sp_len, sp_op1, sp_wsign, sp_wrun, sp_wmem, sp_wset, sp_wpat, c_bs, c_spec, c_brack, c_dash, c_open, c_openc, c_close, c_dot, c_nl, tSeq, tNext, tAsg, tOp, tUn, tC, tVar, gName, gSub, tCons, tNil, tCB, tIfS, tIf, tTest, tB, tAnd, tOr, tNot, tAndV, tOrV, tNotV, tRet, tRetN, tDrop, tLst, tTup, tCall, tSl, tNoPart, tPart, tM0, tM1, tBM, tBM0, tYes, tFor_eq, tLc_eq, iList, iRng1, iRng2, iStr, sg_tx, c_empty, rstrip_sign, find_sign, cut_last, cut_to, cut_from, cut_mid, cut_to_lit, cut_from_lit, and_assoc, flat_rep, List.length_replicate, tx_len, tx_eq, tx_app, tx_cps, rI0, rI, rU, rEq, rNe, rIxL, rIxS, rIxT, rSetL, rAppend, rPopAt, rSlS, rSlL, rIn, rMulS, rLtD, rJoin, rLenQ, rListOf,  tRevS, 
  scal, L2.start, List.map_cons, List.map_nil, List.length_cons, List.length_nil, List.replicate, List.cons_append, List.nil_append, List.append_nil,
  List.getElem?_cons_zero, List.getElem?_cons_succ, List.set_cons_zero, List.set_cons_succ, Nat.sub_zero, Nat.reduceSub, Nat.reduceAdd, Nat.zero_add, id_eq, Int.reduceToNat, exists_or,
  V.int.injEq, V.str.injEq, V.bl.injEq, V.ref.injEq, Option.some.injEq, List.cons.injEq, exists_and_left, exists_eq_left', exists_eq_left, exists_eq, exists_eq', and_true, true_and, reduceCtorEq, false_and, and_false, exists_false, false_or, or_false, decide_eq_true_eq, Bool.not_eq_true', decide_eq_false_iff_not, Bool.not_not, Bool.false_eq_true, ↓reduceIte, if_true, if_false])

local macro_rules | `(tactic| walk_at "ne") => `(tactic| first | assumption | (refine Ne.symm ?_; assumption) | exact (ne_of_none (by assumption) (by assumption)) | exact (ne_of_none (by assumption) (by assumption)).symm)
local macro_rules | `(tactic| walk_at "hp") => `(tactic| first | assumption | exact upd_same | exact (upd_ne (by walk_at "ne")).trans (by walk_at "hp"))
local macro_rules | `(tactic| walk_at "st1") => `(tactic| first
  | refine ⟨_, Or.inl (Or.inl (by walk_at "hp")), ?_⟩
  | refine ⟨_, Or.inl (Or.inl (Or.inl (by walk_at "hp"))), ?_⟩
  | refine ⟨_, (show _ = some (HO.lst _) by walk_at "hp"), ?_⟩
  | refine ⟨_, rfl, ?_⟩
  | refine ⟨(rfl : ("str" : String) = "str"), ?_⟩
  | refine ⟨Or.inr ⟨by decide, by decide⟩, ?_⟩
  | refine ⟨⟨by decide, by decide⟩, ?_⟩
  | refine ⟨by decide, ?_⟩
  | refine ⟨by assumption, ?_⟩)
local macro_rules | `(tactic| walk_at "st") => `(tactic| repeat walk_at "st1")
local macro_rules | `(tactic| walk_at "go") => `(tactic| repeat first | walk_at "st1" | walk_at "rd")
section
variable {P : Program} {w : World} {K : PySem.W.Frag} {mg : Str → Option Value} {base : Heap}
theorem kt_esc (c : Nat) : ktAt [(tx [10], Str.ofString "\\n"), (Str.ofString "\t", Str.ofString "\\t")] (tx [c]) (.str (tx [c])) = .str (tx (if c = 10 then [92, 110] else if c = 9 then [92, 116] else [c])) := by
  unfold ktAt
  rw [c_en, c_tab, c_et]
  by_cases h1 : c = 10
  · subst h1
    rfl
  · have b1 : (tx [c] == tx [10]) = false := by
      cases h : tx [c] == tx [10] with
      | false => rfl
      | true => have := tx_eq.mp (eq_of_beq h); simp at this; exact absurd this h1
    rw [List.lookup_cons, b1, if_neg h1]
    by_cases h2 : c = 9
    · subst h2
      rfl
    · have b2 : (tx [c] == tx [9]) = false := by
        cases h : tx [c] == tx [9] with
        | false => rfl
        | true => have := tx_eq.mp (eq_of_beq h); simp at this; exact absurd this h2
      dsimp only
      rw [List.lookup_cons, b2, if_neg h2]
      rfl
theorem ok_write_sign (T : Top K mg) : FnOk P T.tw K mg base CX0 1 T.f_write_sign T.fd_write_sign ["sign", "specials"] sp_wsign := by
  refine T.F_write_sign.ok sc_write_sign (fun vs H Q E h => ?_) (fun cdv A outer s H vs Q E hr h => ?_)
  · obtain ⟨c, sp, rfl, _⟩ := h
    rfl
  · obtain ⟨c, sp, rfl, q⟩ := h
    refine ⟨_, (pss_cons (ps_if (pt_cmpR op_in_sign (pv 0) (pv 1) (by rfl)) (pss_one (ps_ret (pe_op op_add_str pe_str (pv 0)))) pss_nil)
       (pss_one (ps_ret (pe_kget T.kt_ESCAPES (pe_glob (v := .ref T.d_ESCAPES) rfl T.g_ESCAPES rfl) (pv 0) (pv 0) ⟨rfl, rfl, rfl, rfl⟩)))), ?_⟩
    walk_at "rd"
    refine ite2 (fun h => ⟨by decide, ?_⟩) (fun h => ?_)
    · unfold esc at q
      rw [if_pos h] at q
      exact q
    · unfold esc at q
      rw [if_neg h] at q
      rw [kt_esc]
      exact q
theorem ok_write_run (T : Top K mg) : FnOk P T.tw K mg base CX0 4 T.f_write_run T.fd_write_run ["first", "last"] sp_wrun := by
  refine T.F_write_run.ok sc_write_run (fun vs H Q E h => ?_) (fun cdv A outer s H vs Q E hr h => ?_)
  · obtain ⟨a, b, rfl, _⟩ := h
    rfl
  · obtain ⟨a, b, rfl, ha, hb, q⟩ := h
    refine ⟨_, (pss_cons (ps_setLc (i := 2) (own := [("sign", 3)]) (g := gName 3) (by rfl) sc_write_run.nd rfl rfl (sw_true rfl rfl rfl (by decide +kernel)) (pi_str (pe_prop (pe_smeth (pe_glob (v := .ref T.c_SignSet) rfl T.g_SignSet rfl) T.cr_SignSet T.sm_SignSet_between (ok_SignSet_between T) (hr.mono (by decide)) T.B_SignSet_between pass0 (pa_cons (pv 0) (pa_cons (pv 1) pa_nil))) T.i_SignSet.cl T.pr_SignSet_members (ok_SignSet_members T) (hr.mono (by decide)) T.B_SignSet_members .nil pass0 rfl)) (blkOk_by (own := [("sign", 3)]) (N := n_write_run) (sc := defScope s_write_run) (by decide +kernel)) (fun _ _ _ _ _ => pg_name (i := 3) sc_write_run.nd rfl (Or.inl rfl)) (fun _ _ _ _ _ => pts_nil) (fun _ _ _ _ _ => (pe_call (ok_write_sign T) (hr.mono (by decide)) (by rfl) T.g_write_sign T.F_write_sign.kp T.B_write_sign .nil pass0 (pa_cons (pv 3) (pa_cons (pe_glob (v := .str _) rfl T.g_BRACKET_SPECIALS ⟨_, rfl⟩) pa_nil)))))
       (pss_cons (ps_if (pt_cmpR op_lt (pe_callB (r := rLenQ K) call_lenQ (by rfl) T.b_len PySem.boot_len (pa_cons (pv 2) pa_nil)) (pe_glob (v := .int _) rfl T.g_SHORTEST_RANGE ⟨_, rfl⟩) (nomark _)) (pss_one (ps_ret (pe_m1 (r := rJoin K) PySem.F.slot_str_join PySem.F.type_str_join mt_joinQ pe_str (pv 2)))) pss_nil)
       (pss_one (ps_ret (pe_op op_add_str (pe_op op_add_str (pe_ix (r := rIxL K) ix_list (pv 2) pe_int (fun _ _ => rfl)) pe_str) (pe_ix (r := rIxL K) ix_list (pv 2) (pe_un un_neg pe_int) (fun _ _ => rfl))))))), ?_⟩
    walk_at "rd"
    refine ⟨ha, hb, fun r H1 hr1 s1 S1 => ?_⟩
    obtain ⟨dr, hrr⟩ := id S1
    refine ⟨_, _, hrr, _, S1, ?_⟩
    have lb := sub_len (btw_sub a b)
    obtain ⟨L, eL⟩ : ∃ L, L = btw a b := ⟨_, rfl⟩
    rw [← eL] at lb ⊢
    refine lcJ_pure (reg_text L) (fun _ => true) (fun c => V.str (tx (esc BPc c))) (line20 (by omega)) (fun _ _ _ => trivial) (fun c D acc Q _ h0 hq => ?_) (fun c D acc Q _ _ h0 hq => ?_) (fun D h0 => ?_)
    · walk_at "rd"
      exact hq
    · walk_at "rd"
      exact hq
    rw [filter_yes]
    refine ⟨D, rfl, _, .inl sq_upd, ?_⟩
    rw [List.length_map]
    have em : (L.map fun c => V.str (tx (esc BPc c))) = (L.map (esc BPc)).map fun s => V.str (tx s) := by rw [List.map_map]; rfl
    have sN : Same H (upd H1 D (HO.lst (L.map fun c => V.str (tx (esc BPc c))))) := s1.trans (same_upd h0)
    have q2 := q _ sN
    rw [← eL] at q2
    refine ite2 (fun hlt => ?_) (fun hlt => ?_)
    · have hs : ¬ 2 < L.length := by omega
      rw [fl_short hs] at q2
      refine ⟨D, rfl, join_txs (ss := L.map (esc BPc)) (by rw [← em]; exact sq_upd) ?_ fun ys e => ?_⟩
      · rw [List.map_map]
        have : ∀ l : List Nat, ((l.map ((fun x => x.length) ∘ esc BPc)).sum) ≤ 2 * l.length := by
          intro l
          induction l with
          | nil => simp
          | cons c l ih =>
            rw [List.map_cons, List.sum_cons, List.length_cons]
            have := esc_len BPc c
            simp only [Function.comp] at ih ⊢
            omega
        have := this L
        omega
      · rw [e]
        exact q2
    · have hs : 2 < L.length := by omega
      obtain ⟨u, v, _, _, hu, hv, e⟩ := fl_long hs
      rw [e] at q2
      have hu2 : atI (L.map fun c => V.str (tx (esc BPc c))) 0 = some (V.str (tx (esc BPc u))) := atI_nat (j := 0) (by rw [List.getElem?_map, hu]; rfl)
      have hv2 : atI (L.map fun c => V.str (tx (esc BPc c))) (-1) = some (V.str (tx (esc BPc v))) := by
        obtain ⟨L0, y, rfl⟩ : ∃ ys y, L = ys ++ [y] := ⟨L.dropLast, L.getLast (by intro e; rw [e] at hs; simp at hs), (List.dropLast_concat_getLast _).symm⟩
        rw [List.getLast?_concat] at hv
        cases Option.some.inj hv
        rw [atI_neg1 (by simp)]
        simp
      refine ⟨D, rfl, _, sq_upd, _, hu2, _, rfl, ?_, D, rfl, _, sq_upd, _, hv2, _, rfl, ?_, ?_⟩
      · have := esc_len BPc u
        rw [tx_len]
        exact line20 (by omega)
      · have := esc_len BPc u
        have := esc_len BPc v
        rw [tx_app, tx_len, tx_len, List.length_append]
        exact line20 (by simp; omega)
      · rw [tx_app, tx_app]
        exact q2
theorem ok_write_members (T : Top K mg) : FnOk P T.tw K mg base CX0 5 T.f_write_members T.fd_write_members ["members"] (sp_wmem T.c_SignSet) := by
  refine T.F_write_members.ok sc_write_members (fun vs H Q E h => ?_) (fun cdv A outer s H vs Q E hr h => ?_)
  · obtain ⟨x, cs, rfl, _⟩ := h
    rfl
  · obtain ⟨x, cs, rfl, hS, hsub, q⟩ := h
    refine ⟨_, (pss_one (ps_ret (pe_m1 (r := rJoin K) PySem.F.slot_str_join PySem.F.type_str_join mt_joinQ pe_str (pe_lc (own := [("first", 1), ("last", 2)]) (g := gTup K 2 (gCons (gName 1) (gCons (gName 2) (gNil)))) (by rfl) sc_write_members.nd (pi_list (pe_prop (pv 0) T.i_SignSet.cl T.pr_SignSet_ranges (ok_SignSet_ranges T) (hr.mono (by decide)) T.B_SignSet_ranges .nil pass0 rfl)) (blkOk_by (own := [("first", 1), ("last", 2)]) (N := n_write_members) (sc := defScope s_write_members) (by decide +kernel)) (fun _ _ _ _ _ => pg_tup (n := 2) (by rfl) (pgs_cons (pg_name (i := 1) sc_write_members.nd rfl (Or.inl rfl)) (pgs_cons (pg_name (i := 2) sc_write_members.nd rfl (Or.inl rfl)) pgs_nil))) (fun _ _ _ _ _ => pts_nil) (fun _ _ _ _ _ => (pe_call (ok_write_run T) (hr.mono (by decide)) (by rfl) T.g_write_run T.F_write_run.kp T.B_write_run .nil pass0 (pa_cons (pv 1) (pa_cons (pv 2) pa_nil)))))))), ?_⟩
    obtain ⟨dx, hx⟩ := id hS
    have lc := sub_len hsub
    have lR := runs_len cs
    walk_at "rd"
    refine ⟨_, _, hx, cs, hS, hsub, fun m rs H1 hm s1 R1 => ?_⟩
    obtain ⟨R, eR⟩ : ∃ R, R = runsL cs := ⟨_, rfl⟩
    have hR : ∀ q ∈ R, q.1 ∈ SG ∧ q.2 ∈ SG := fun q hq => by
      rw [eR] at hq
      exact ⟨hsub.subset (runs_mem _ _ hq).1, hsub.subset (runs_mem _ _ hq).2⟩
    rw [← eR] at R1 lR q
    obtain ⟨Pv, hP⟩ : ∃ Pv : Addr → Nat → Hp → Prop, ∀ D i H', Pv D i H' ↔ (Same H1 H' ∧ H' D = some (.lst (((R.take i).map fun q => fl (btw q.1 q.2)).map fun s => V.str (tx s)))) := ⟨_, fun _ _ _ => Iff.rfl⟩
    refine ⟨⟨_, .inl (.inl R1.lst)⟩, ?_⟩
    refine lcJ_byG (reg_map K m V.ref rs) Pv (fun D i H' _ h => .inl (.inl (((hP _ _ _).mp h).1 _ _ R1.lst))) (fun D h0 => (hP _ _ _).mpr ⟨same_upd h0, upd_same⟩) (fun D i t H' h0 hi hp => ?_) (fun D H' h0 hp => ?_)
    · obtain ⟨sm, hD⟩ := (hP _ _ _).mp hp
      have hlt : i < R.length := by
        have := (List.getElem?_eq_some_iff.mp hi).1
        rw [R1.len] at this
        exact this
      obtain ⟨g, hg⟩ : ∃ g, R[i]? = some g := ⟨_, List.getElem?_eq_getElem hlt⟩
      have et := sm _ _ (R1.tup i t g hi hg)
      have gm := hR g (List.mem_of_getElem? hg)
      have ht : R.take (i + 1) = R.take i ++ [g] := by rw [List.take_add_one, hg]; rfl
      refine ⟨t, _, rfl, SqT.of et, rfl, ?_⟩
      walk_at "rd"
      refine ⟨_, _, rfl, _, _, rfl, rfl, rfl, _, rfl, _, rfl, _, rfl, _, rfl, gm.1, gm.2, fun H2 s2 => ⟨_, s2 _ _ hD, ?_, ?_⟩⟩
      · rw [List.length_map, List.length_map, List.length_take]
        exact toLine (by omega)
      · refine (hP _ _ _).mpr ⟨fun b o e => ?_, ?_⟩
        · rw [upd_ne (ne_of_none e h0)]
          exact s2 _ _ (sm _ _ e)
        · rw [upd_same, ht, List.map_append, List.map_append]
          rfl
    · obtain ⟨sm, hD⟩ := (hP _ _ _).mp hp
      have eL : rs.length = R.length := R1.len
      rw [eL, List.take_length] at hD
      refine ⟨D, rfl, join_txs (.inl (.inl hD)) ?_ fun ys e => ?_⟩
      · have h1 := wrs_len R
        unfold wrs at h1
        rw [List.length_flatten] at h1
        exact Nat.le_trans h1 (by omega)
      · rw [e]
        exact q _ (s1.trans sm)
theorem ok_write_set (T : Top K mg) : FnOk P T.tw K mg base CX0 6 T.f_write_set T.fd_write_set ["signs"] sp_wset := by
  refine T.F_write_set.ok sc_write_set (fun vs H Q E h => ?_) (fun cdv A outer s H vs Q E hr h => ?_)
  · obtain ⟨cs, rfl, _⟩ := h
    rfl
  · obtain ⟨cs, rfl, hsub, q⟩ := h
    refine ⟨_, (pss_cons (ps_set (i := 1) sc_write_set.nd rfl (Or.inl rfl) (pe_make T.mk_SignSet (ok_SignSet_Minit T) (hr.mono (by decide)) (by rfl) T.g_SignSet T.B_SignSet_Minit .nil pass0 (pa_cons (pv 0) pa_nil)))
       (pss_cons (ps_set (i := 2) sc_write_set.nd rfl (Or.inl rfl) (pe_un (un_ownInv (ok_SignSet_Minvert T) (hr.mono (by decide)) T.at_SignSet_Minvert T.fn_SignSet_Minvert T.B_SignSet_Minvert pass0) (pv 1)))
       (pss_cons (ps_if (pt_cmpR op_eq (pe_callB (r := rOwnLen _ _ _) (call_ownLen (ok_SignSet_Mlen T) (hr.mono (by decide)) T.at_SignSet_Mlen T.fn_SignSet_Mlen T.B_SignSet_Mlen pass0) (by rfl) T.b_len PySem.boot_len (pa_cons (pv 1) pa_nil)) pe_int (nomark _)) (pss_one (ps_ret (pe_call (ok_write_sign T) (hr.mono (by decide)) (by rfl) T.g_write_sign T.F_write_sign.kp T.B_write_sign .nil pass0 (pa_cons (pv 0) (pa_cons (pe_glob (v := .str _) rfl T.g_SPECIAL_SIGNS ⟨_, rfl⟩) pa_nil))))) pss_nil)
       (pss_cons (ps_if (pt_cmpR op_eq (pe_prop (pv 2) T.i_SignSet.cl T.pr_SignSet_members (ok_SignSet_members T) (hr.mono (by decide)) T.B_SignSet_members .nil pass0 rfl) pe_str (nomark _)) (pss_one (ps_ret pe_str)) pss_nil)
       (pss_cons (ps_set (i := 3) sc_write_set.nd rfl (Or.inl rfl) (pe_op op_add_str (pe_op op_add_str pe_str (pe_call (ok_write_members T) (hr.mono (by decide)) (by rfl) T.g_write_members T.F_write_members.kp T.B_write_members .nil pass0 (pa_cons (pv 1) pa_nil))) pe_str))
       (pss_cons (ps_set (i := 4) sc_write_set.nd rfl (Or.inl rfl) (pe_op op_add_str (pe_op op_add_str pe_str (pe_call (ok_write_members T) (hr.mono (by decide)) (by rfl) T.g_write_members T.F_write_members.kp T.B_write_members .nil pass0 (pa_cons (pv 2) pa_nil))) pe_str))
       (pss_one (ps_ret (pe_ifExp (pt_cmpR op_lt (pe_callB call_len_str (by rfl) T.b_len PySem.boot_len (pa_cons (pv 4) pa_nil)) (pe_callB call_len_str (by rfl) T.b_len PySem.boot_len (pa_cons (pv 3) pa_nil)) (nomark _)) (pv 4) (pv 3)))))))))), ?_⟩
    have lc := sub_len hsub
    have lw := wrs_len (runsL cs)
    have lw2 := wrs_len (runsL (cNot cs))
    have lr := runs_len cs
    have lr2 := runs_len (cNot cs)
    have nsub : (cNot cs).Sublist SG := List.filter_sublist
    have ln := sub_len nsub
    walk_at "rd"
    refine fun x dx hx hdx hne => ⟨_, upd_same, fun c hc => hsub.subset hc, by omega, fun H1 B1 S1 => ?_⟩
    rw [asc_self hsub] at S1
    have s1 := made_same hx hdx B1
    obtain ⟨ex, hx1⟩ := id S1
    refine ⟨_, _, hx1, cs, S1, hsub, fun r H2 _ s2 S2 => ?_⟩
    have hx2 := s2 _ _ hx1
    obtain ⟨er, hr2⟩ := id S2
    have q2 := q
    unfold wset at q2
    refine ⟨_, _, hx2, cs, S1.at s2, by omega, by omega, by omega, ite2 (fun h1 => ?_) (fun h1 => ?_)⟩
    · have e1 : cs.length = 1 := by omega
      obtain ⟨c, rfl⟩ := List.length_eq_one_iff.mp e1
      rw [if_pos (show [c].length = 1 from rfl)] at q2
      exact ⟨c, rfl, q2 _ (s1.trans s2)⟩
    · rw [if_neg (by omega)] at q2
      refine ⟨_, _, hr2, _, S2, ite2 (fun h2 => ?_) (fun h2 => ?_)⟩
      · rw [if_pos h2] at q2
        exact q2 _ (s1.trans s2)
      · rw [if_neg h2] at q2
        have hd : ∀ l : List Nat, l.length ≤ 5 * 96 → (l ++ [93]).length + 1 + 1 ≤ sizeLine := fun l hl => by
          rw [List.length_append]
          exact line20 (by simp; omega)
        have h5 : ∀ l : List Nat, l.length ≤ 5 * 96 → 2 + l.length ≤ sizeLine ∧ 1 + l.length ≤ sizeLine ∧ l.length + 1 + 1 + 1 ≤ sizeLine ∧ l.length + 1 + 1 ≤ sizeLine ∧ (l ++ [93]).length + 1 ≤ sizeLine := fun l hl => by
          have := hd l hl
          rw [List.length_append] at this ⊢
          simp only [List.length_cons, List.length_nil] at this ⊢
          exact ⟨by omega, by omega, by omega, by omega, by omega⟩
        obtain ⟨a1, a2, a3, a4, a5⟩ := h5 (wrs (runsL cs)) (by omega)
        obtain ⟨b1, b2, b3, b4, b5⟩ := h5 (wrs (runsL (cNot cs))) (by omega)
        refine ⟨cs, S1.at s2, hsub, fun H3 s3 => ⟨a2, a4, cNot cs, S2.at s3, nsub, fun H4 s4 => ⟨b1, b3, hd _ (by omega), a5, ?_⟩⟩⟩
        have sx := ((s1.trans s2).trans s3).trans s4
        refine ite2 (fun h3 => ?_) (fun h3 => ?_)
        · rw [if_pos (by omega)] at q2
          exact q2 _ sx
        · rw [if_neg (by omega)] at q2
          exact q2 _ sx
theorem ok_write_pattern (T : Top K mg) : FnOk P T.tw K mg base CX0 7 T.f_write_pattern T.fd_write_pattern ["tree"] (sp_wpat K) := by
  refine T.F_write_pattern.ok sc_write_pattern (fun vs H Q E h => ?_) (fun cdv A outer s H vs Q E hr h => ?_)
  · obtain ⟨t, cs, rfl, _⟩ := h
    rfl
  · obtain ⟨t, cs, rfl, ht, hsub, q⟩ := h
    refine ⟨_, (pss_cons (ps_set (i := 1) sc_write_pattern.nd rfl (Or.inl rfl) (pe_ix (r := rIxT K) ix_tup (pv 0) pe_int (fun _ _ => rfl)))
       (pss_cons (ps_if (pt_cmpR op_eq (pv 1) pe_str (nomark _)) (pss_one (ps_ret pe_str)) pss_nil)
       (pss_cons (ps_if (pt_cmpR op_eq (pv 1) pe_str (nomark _)) (pss_one (ps_ret (pe_call (ok_write_set T) (hr.mono (by decide)) (by rfl) T.g_write_set T.F_write_set.kp T.B_write_set .nil pass0 (pa_cons (pe_ix (r := rIxT K) ix_tup (pv 0) pe_int (fun _ _ => rfl)) pa_nil)))) pss_nil)
       pss_no))), ?_⟩
    walk_at "rd"
    have hne : ¬ V.str (Str.ofString "set") = V.str (Str.ofString "empty") := by decide +kernel
    refine ⟨_, ht, _, rfl, rfl, ite2 (fun h => absurd h hne) (fun _ => ⟨rfl, ?_⟩)⟩
    refine ite2 (fun _ => ?_) (fun h => absurd rfl h)
    exact ⟨_, ht, _, rfl, cs, rfl, hsub, q⟩
end
end My
namespace My
open PySem L2
local macro_rules | `(tactic| walk_at "rd") => `(tactic| simp only [sFld, tM1, tMake, tProp, tFld, rOwn2, rOwnIn, rOwn1, rSetTx, rSortedTx, sp_Lsigns, sp_Lesc, sp_Lins, c_bs, c_tab, c_en, c_et, c_spec, c_brack, c_dash, c_open, c_openc, c_close, c_dot, c_nl, tSeq, tNext, tAsg, tOp, tUn, tC, tVar, gName, gSub, tCons, tNil, tCB, tIfS, tIf, tTest, tB, tAnd, tOr, tNot, tAndV, tOrV, tNotV, tRet, tRetN, tDrop, tLst, tTup, tCall, tSl, tNoPart, tPart, tM0, tM1, tBM, tBM0, tYes, tFor_eq, tLc_eq, iList, iRng1, iRng2, iStr, sg_tx, c_empty, rstrip_sign, find_sign, cut_last, cut_to, cut_from, cut_mid, cut_to_lit, cut_from_lit, and_assoc, flat_rep, List.length_replicate, tx_len, tx_eq, tx_app, tx_cps, rI0, rI, rU, rEq, rNe, rIxL, rIxS, rIxT, rSetL, rAppend, rPopAt, rSlS, rSlL, rIn, rMulS, rLtD, rJoin, rLenQ, rListOf,  tRevS, 
  scal, L2.start, List.map_cons, List.map_nil, List.length_cons, List.length_nil, List.replicate, List.cons_append, List.nil_append, List.append_nil,
  List.getElem?_cons_zero, List.getElem?_cons_succ, List.set_cons_zero, List.set_cons_succ, Nat.sub_zero, Nat.reduceSub, Nat.reduceAdd, Nat.zero_add, id_eq, Int.reduceToNat, exists_or,
  V.int.injEq, V.str.injEq, V.bl.injEq, V.ref.injEq, Option.some.injEq, List.cons.injEq, exists_and_left, exists_eq_left', exists_eq_left, exists_eq, exists_eq', and_true, true_and, reduceCtorEq, false_and, and_false, exists_false, false_or, or_false, decide_eq_true_eq, Bool.not_eq_true', decide_eq_false_iff_not, Bool.not_not, Bool.false_eq_true, ↓reduceIte, if_true, if_false])

local macro_rules | `(tactic| walk_at "ne") => `(tactic| first | assumption | (refine Ne.symm ?_; assumption) | exact (ne_of_none (by assumption) (by assumption)) | exact (ne_of_none (by assumption) (by assumption)).symm)
local macro_rules | `(tactic| walk_at "hp") => `(tactic| first | assumption | exact upd_same | exact (upd_ne (by walk_at "ne")).trans (by walk_at "hp"))
local macro_rules | `(tactic| walk_at "st1") => `(tactic| first
  | refine ⟨_, Or.inl (Or.inl (by walk_at "hp")), ?_⟩
  | refine ⟨_, Or.inl (Or.inl (Or.inl (by walk_at "hp"))), ?_⟩
  | refine ⟨_, (show _ = some (HO.lst _) by walk_at "hp"), ?_⟩
  | refine ⟨_, rfl, ?_⟩
  | refine ⟨(rfl : ("str" : String) = "str"), ?_⟩
  | refine ⟨Or.inr ⟨by decide, by decide⟩, ?_⟩
  | refine ⟨⟨by decide, by decide⟩, ?_⟩
  | refine ⟨by decide, ?_⟩
  | refine ⟨by assumption, ?_⟩)
local macro_rules | `(tactic| walk_at "st") => `(tactic| repeat walk_at "st1")
local macro_rules | `(tactic| walk_at "go") => `(tactic| repeat first | walk_at "st1" | walk_at "rd")
section
variable {P : Program} {w : World} {K : PySem.W.Frag} {mg : Str → Option Value} {base : Heap}
theorem sum_esc (l : List Nat) : ((l.map (esc BPc)).map (·.length)).sum ≤ 2 * l.length := by
  induction l with
  | nil => simp
  | cons c l ih =>
    rw [List.map_cons, List.map_cons, List.sum_cons, List.length_cons]
    have := esc_len BPc c
    omega
theorem ok_Lescaped (T : Top K mg) : FnOk P w K mg base CX0 1 T.f_Lescaped T.fd_Lescaped ["_law_sign", "_law_marked"] sp_Lesc := by
  refine T.F_Lescaped.ok sc_Lescaped (fun vs H Q E h => ?_) (fun cdv A outer s H vs Q E hr h => ?_)
  · obtain ⟨c, sp, rfl, _⟩ := h
    rfl
  · obtain ⟨c, sp, rfl, n10, n9, q⟩ := h
    refine ⟨_, (pss_cons (ps_if (pt_cmpR op_eq (pv 0) pe_str (nomark _)) (pss_one (ps_ret pe_str)) pss_nil)
       (pss_cons (ps_if (pt_cmpR op_eq (pv 0) pe_str (nomark _)) (pss_one (ps_ret pe_str)) pss_nil)
       (pss_cons (ps_if (pt_cmpR op_in_sign (pv 0) (pv 1) (by rfl)) (pss_one (ps_ret (pe_op op_add_str pe_str (pv 0)))) pss_nil)
       (pss_one (ps_ret (pv 0)))))), ?_⟩
    unfold esc at q
    walk_at "rd"
    refine ite2 (fun h1 => ?_) (fun h1 => ite2 (fun h2 => ?_) (fun h2 => ite2 (fun h3 => ⟨by decide, ?_⟩) (fun h3 => ?_)))
    · subst h1
      rw [if_neg n10, if_pos rfl] at q
      exact q
    · subst h2
      rw [if_neg n9, if_neg h1, if_pos rfl] at q
      exact q
    · rw [if_pos h3] at q
      exact q
    · rw [if_neg h3, if_neg h1, if_neg h2] at q
      exact q
theorem ok_Linside (T : Top K mg) : FnOk P w K mg base CX0 2 T.f_Linside T.fd_Linside ["_law_text"] sp_Lins := by
  refine T.F_Linside.ok sc_Linside (fun vs H Q E h => ?_) (fun cdv A outer s H vs Q E hr h => ?_)
  · obtain ⟨cs, rfl, _⟩ := h
    rfl
  · obtain ⟨cs, rfl, hsub, q⟩ := h
    refine ⟨_, (pss_cons (ps_set (i := 1) sc_Linside.nd rfl (Or.inl rfl) (pe_call0 (ok_Lsigns T) (hr.mono (by decide)) (by rfl) T.g_Lsigns T.F_Lsigns.kp T.B_Lsigns .nil pass0))
       (pss_cons (ps_set (i := 2) sc_Linside.nd rfl (Or.inr rfl) pe_str)
       (pss_cons (ps_set (i := 3) sc_Linside.nd rfl (Or.inl rfl) pe_str)
       (pss_cons (ps_set (i := 4) sc_Linside.nd rfl (Or.inl rfl) pe_str)
       (pss_cons (ps_for PassesOwn.never rfl (pi_range1 rfl T.b_range (pa_cons pe_int pa_nil)) (pg_name (i := 5) sc_Linside.nd rfl (Or.inl rfl))
       (pss_one (ps_if (PW.pt (pw_and (pt_cmpR op_lt (pv 5) pe_int (nomark _)) (pw_and1 (pt_cmpR op_in_sign (pe_ix ix_str (pv 1) (pv 5) (fun _ _ => rfl)) (pv 0) (by rfl))))) (pss_one (ps_set (i := 4) sc_Linside.nd rfl (Or.inl rfl) (pe_op op_add_str (pv 4) (pe_ix ix_str (pv 1) (pv 5) (fun _ _ => rfl))))) (pss_cut (ps_if (pt_cmpR op_gt (pe_callB call_len_str (by rfl) T.b_len PySem.boot_len (pa_cons (pv 4) pa_nil)) pe_int (nomark _)) (pss_one (ps_set (i := 4) sc_Linside.nd rfl (Or.inl rfl) (pe_op op_add_str (pe_op op_add_str (pe_call (ok_Lescaped T) (hr.mono (by decide)) (by rfl) T.g_Lescaped T.F_Lescaped.kp T.B_Lescaped .nil pass0 (pa_cons (pe_ix ix_str (pv 4) pe_int (fun _ _ => rfl)) (pa_cons (pv 2) pa_nil))) pe_str) (pe_call (ok_Lescaped T) (hr.mono (by decide)) (by rfl) T.g_Lescaped T.F_Lescaped.kp T.B_Lescaped .nil pass0 (pa_cons (pe_ix ix_str (pv 4) (pe_un un_neg pe_int) (fun _ _ => rfl)) (pa_cons (pv 2) pa_nil)))))) (pss_one (ps_set (i := 4) sc_Linside.nd rfl (Or.inl rfl) (pe_m1 (r := rJoin K) PySem.F.slot_str_join PySem.F.type_str_join mt_joinQ pe_str (pe_lc (own := [("_law_sign", 6)]) (g := gName 6) (by rfl) sc_Linside.nd (pi_str (pv 4)) (blkOk_by (own := [("_law_sign", 6)]) (N := n_Linside) (sc := defScope s_Linside) (by decide +kernel)) (fun _ _ _ _ _ => pg_name (i := 6) sc_Linside.nd rfl (Or.inl rfl)) (fun _ _ _ _ _ => pts_nil) (fun _ _ _ _ _ => (pe_call (ok_Lescaped T) (hr.mono (by decide)) (by rfl) T.g_Lescaped T.F_Lescaped.kp T.B_Lescaped .nil pass0 (pa_cons (pv 6) (pa_cons (pv 2) pa_nil)))))))))
       (pss_cons (ps_set (i := 3) sc_Linside.nd rfl (Or.inl rfl) (pe_op op_add_str (pv 3) (pv 4)))
       (pss_one (ps_set (i := 4) sc_Linside.nd rfl (Or.inl rfl) pe_str)))))))
       (pss_one (ps_ret (pv 3)))))))), ?_⟩
    have lc := sub_len hsub
    have lS : SG.length ≤ sizeLine := line20 (by rw [SG_len]; decide)
    walk_at "rd"
    refine ⟨by decide, by decide, ?_⟩
    obtain ⟨Pv, hP⟩ : ∃ Pv : Nat → L2.St → Hp → Prop, ∀ i σ H', Pv i σ H' ↔ ∃ (v5 : Option V) (wr run : List Nat), σ = [some (V.str (tx cs)), some (V.str (tx SG)), some (V.str (tx [92, 91, 93, 94, 45])), some (V.str (tx wr)), some (V.str (tx run)), v5, none] ∧ Same H H' ∧ ((i ≤ 96 ∧ In9 cs i wr run) ∨ (i = 97 ∧ wr = wrs (runsL cs))) := ⟨_, fun _ _ _ => Iff.rfl⟩
    refine forJ_by (reg_range 0 97) Pv (fun _ _ _ _ => trivial) ?_ ?_ ?_
    · exact (hP _ _ _).mpr ⟨_, [], [], rfl, Same.refl _, .inl ⟨by decide, In9.zero cs⟩⟩
    · intro i k σ H1 hi h
      obtain ⟨rfl, hk⟩ := range_at hi
      obtain ⟨v5, wr, run, rfl, sm, hv⟩ := (hP _ _ _).mp h
      have hI : In9 cs k wr run := by
        rcases hv with ⟨_, h⟩ | ⟨h, _⟩
        · exact h
        · omega
      have lw := hI.len
      have lr := sub_len hI.sub
      walk_at "rd"
      have lfin := fl_len run
      refine ite2 (fun h96 => ?_) (fun h96 => ?_)
      · obtain ⟨c, hc⟩ : ∃ c, SG[k]? = some c := ⟨_, List.getElem?_eq_getElem (by rw [SG_len]; omega)⟩
        have hc2 : atI SG (0 + (k : Int)) = some c := by rw [Int.zero_add]; exact atI_nat hc
        refine ⟨lS, c, hc2, ite2 (fun hm => ?_) (fun hm => ?_)⟩
        · refine ⟨lS, c, hc2, line20 (by omega), ?_⟩
          exact (hP _ _ _).mpr ⟨_, wr, run ++ [c], rfl, sm, .inl ⟨by omega, hI.yes hc hm⟩⟩
        · have hfin : ∀ H2, Same H1 H2 → Pv (k + 1) [some (V.str (tx cs)), some (V.str (tx SG)), some (V.str (tx [92, 91, 93, 94, 45])), some (V.str (tx (wr ++ fl run))), some (V.str (tx [])), some (V.int (0 + (k : Int))), none] H2 := fun H2 s2 => (hP _ _ _).mpr ⟨_, wr ++ fl run, [], rfl, sm.trans s2, .inl ⟨by omega, hI.no hc hm⟩⟩
          refine ⟨fun σ2 H2 => σ2 = [some (V.str (tx cs)), some (V.str (tx SG)), some (V.str (tx [92, 91, 93, 94, 45])), some (V.str (tx wr)), some (V.str (tx (fl run))), some (V.int (0 + (k : Int))), none] ∧ Same H1 H2, ?_, ?_⟩
          · walk_at "rd"
            refine ⟨line20 (by omega), ite2 (fun h2 => ?_) (fun h2 => ?_)⟩
            · have hs : 2 < run.length := by omega
              obtain ⟨a, b, ma, mb, ha, hb, e⟩ := fl_long hs
              have hb2 : atI run (-1) = some b := by
                have hne : run ≠ [] := fun z => by rw [z] at hs; simp at hs
                rw [atI_neg1 hne, ← List.getLast?_eq_some_getLast hne]
                exact hb
              have l1 := esc_len BPc a
              have l2 := esc_len BPc b
              refine ⟨line20 (by omega), a, atI_nat (j := 0) ha, by decide, by decide, ?_⟩
              have eB : ([92, 91, 93, 94, 45] : List Nat) = BPc := rfl
              rw [eB]
              refine ⟨line20 (by omega), line20 (by omega), b, hb2, by decide, by decide, ?_, e.symm, Same.refl _⟩
              rw [List.length_append]
              exact line20 (by simp; omega)
            · have hs : ¬ 2 < run.length := by omega
              refine lcJ_pure (reg_text run) (fun _ => true) (fun c => V.str (tx (esc BPc c))) (line20 (by omega)) (fun _ _ _ => trivial) (fun c D acc Q _ h0 hq => ?_) (fun c D acc Q _ _ h0 hq => ?_) (fun D h0 => ?_)
              · walk_at "rd"
                exact hq
              · walk_at "rd"
                exact ⟨by decide, by decide, hq⟩
              rw [filter_yes]
              have em : (run.map fun c => V.str (tx (esc BPc c))) = (run.map (esc BPc)).map fun s => V.str (tx s) := by rw [List.map_map]; rfl
              refine ⟨D, rfl, join_txs (ss := run.map (esc BPc)) (by rw [← em]; exact sq_upd) ?_ fun ys e => ?_⟩
              · exact Nat.le_trans (sum_esc run) (by omega)
              · rw [e, ← fl_short hs]
                exact ⟨rfl, same_upd h0⟩
          · rintro σ2 H2 ⟨rfl, s2⟩
            walk_at "rd"
            have := fl_len run
            exact ⟨line20 (by omega), hfin H2 s2⟩
      · have hfin : ∀ H2, Same H1 H2 → Pv (k + 1) [some (V.str (tx cs)), some (V.str (tx SG)), some (V.str (tx [92, 91, 93, 94, 45])), some (V.str (tx (wr ++ fl run))), some (V.str (tx [])), some (V.int (0 + (k : Int))), none] H2 := fun H2 s2 => (hP _ _ _).mpr ⟨_, wr ++ fl run, [], rfl, sm.trans s2, .inr ⟨by omega, by
            have e96 : k = 96 := by omega
            subst e96
            rw [hI.flush, part_all hsub]⟩⟩
        refine ⟨fun σ2 H2 => σ2 = [some (V.str (tx cs)), some (V.str (tx SG)), some (V.str (tx [92, 91, 93, 94, 45])), some (V.str (tx wr)), some (V.str (tx (fl run))), some (V.int (0 + (k : Int))), none] ∧ Same H1 H2, ?_, ?_⟩
        · walk_at "rd"
          refine ⟨line20 (by omega), ite2 (fun h2 => ?_) (fun h2 => ?_)⟩
          · have hs : 2 < run.length := by omega
            obtain ⟨a, b, ma, mb, ha, hb, e⟩ := fl_long hs
            have hb2 : atI run (-1) = some b := by
              have hne : run ≠ [] := fun z => by rw [z] at hs; simp at hs
              rw [atI_neg1 hne, ← List.getLast?_eq_some_getLast hne]
              exact hb
            have l1 := esc_len BPc a
            have l2 := esc_len BPc b
            refine ⟨line20 (by omega), a, atI_nat (j := 0) ha, by decide, by decide, ?_⟩
            have eB : ([92, 91, 93, 94, 45] : List Nat) = BPc := rfl
            rw [eB]
            refine ⟨line20 (by omega), line20 (by omega), b, hb2, by decide, by decide, ?_, e.symm, Same.refl _⟩
            rw [List.length_append]
            exact line20 (by simp; omega)
          · have hs : ¬ 2 < run.length := by omega
            refine lcJ_pure (reg_text run) (fun _ => true) (fun c => V.str (tx (esc BPc c))) (line20 (by omega)) (fun _ _ _ => trivial) (fun c D acc Q _ h0 hq => ?_) (fun c D acc Q _ _ h0 hq => ?_) (fun D h0 => ?_)
            · walk_at "rd"
              exact hq
            · walk_at "rd"
              exact ⟨by decide, by decide, hq⟩
            rw [filter_yes]
            have em : (run.map fun c => V.str (tx (esc BPc c))) = (run.map (esc BPc)).map fun s => V.str (tx s) := by rw [List.map_map]; rfl
            refine ⟨D, rfl, join_txs (ss := run.map (esc BPc)) (by rw [← em]; exact sq_upd) ?_ fun ys e => ?_⟩
            · exact Nat.le_trans (sum_esc run) (by omega)
            · rw [e, ← fl_short hs]
              exact ⟨rfl, same_upd h0⟩
        · rintro σ2 H2 ⟨rfl, s2⟩
          walk_at "rd"
          have := fl_len run
          exact ⟨line20 (by omega), hfin H2 s2⟩
    · intro σ H1 h
      obtain ⟨v5, wr, run, rfl, sm, hv⟩ := (hP _ _ _).mp h
      walk_at "rd"
      rcases hv with ⟨h, _⟩ | ⟨_, e⟩
      · simp at h
      · rw [e]
        exact q _ sm
end
end My
namespace My
open PySem L2
local macro_rules | `(tactic| walk_at "rd") => `(tactic| simp only [sFld, tM1, tMake, tProp, tFld, rOwn2, rOwnIn, rOwn1, rSetTx, rSortedTx, sp_Lsigns, sp_Lesc, sp_Lins, sp_Lnext, c_bs, c_tab, c_en, c_et, c_spec, c_brack, c_dash, c_open, c_openc, c_close, c_dot, c_nl, tSeq, tNext, tAsg, tOp, tUn, tC, tVar, gName, gSub, tCons, tNil, tCB, tIfS, tIf, tTest, tB, tAnd, tOr, tNot, tAndV, tOrV, tNotV, tRet, tRetN, tDrop, tLst, tTup, tCall, tSl, tNoPart, tPart, tM0, tM1, tBM, tBM0, tYes, tFor_eq, tLc_eq, iList, iRng1, iRng2, iStr, sg_tx, c_empty, rstrip_sign, find_sign, cut_last, cut_to, cut_from, cut_mid, cut_to_lit, cut_from_lit, and_assoc, flat_rep, List.length_replicate, tx_len, tx_eq, tx_app, tx_cps, rI0, rI, rU, rEq, rNe, rIxL, rIxS, rIxT, rSetL, rAppend, rPopAt, rSlS, rSlL, rIn, rMulS, rLtD, rJoin, rLenQ, rListOf,  tRevS, 
  scal, L2.start, List.map_cons, List.map_nil, List.length_cons, List.length_nil, List.replicate, List.cons_append, List.nil_append, List.append_nil,
  List.getElem?_cons_zero, List.getElem?_cons_succ, List.set_cons_zero, List.set_cons_succ, Nat.sub_zero, Nat.reduceSub, Nat.reduceAdd, Nat.zero_add, id_eq, Int.reduceToNat, exists_or,
  V.int.injEq, V.str.injEq, V.bl.injEq, V.ref.injEq, Option.some.injEq, List.cons.injEq, exists_and_left, exists_eq_left', exists_eq_left, exists_eq, exists_eq', and_true, true_and, reduceCtorEq, false_and, and_false, exists_false, false_or, or_false, decide_eq_true_eq, Bool.not_eq_true', decide_eq_false_iff_not, Bool.not_not, Bool.false_eq_true, ↓reduceIte, if_true, if_false])

local macro_rules | `(tactic| walk_at "ne") => `(tactic| first | assumption | (refine Ne.symm ?_; assumption) | exact (ne_of_none (by assumption) (by assumption)) | exact (ne_of_none (by assumption) (by assumption)).symm)
local macro_rules | `(tactic| walk_at "hp") => `(tactic| first | assumption | exact upd_same | exact (upd_ne (by walk_at "ne")).trans (by walk_at "hp"))
local macro_rules | `(tactic| walk_at "st1") => `(tactic| first
  | refine ⟨_, Or.inl (Or.inl (by walk_at "hp")), ?_⟩
  | refine ⟨_, Or.inl (Or.inl (Or.inl (by walk_at "hp"))), ?_⟩
  | refine ⟨_, (show _ = some (HO.lst _) by walk_at "hp"), ?_⟩
  | refine ⟨_, rfl, ?_⟩
  | refine ⟨(rfl : ("str" : String) = "str"), ?_⟩
  | refine ⟨Or.inr ⟨by decide, by decide⟩, ?_⟩
  | refine ⟨⟨by decide, by decide⟩, ?_⟩
  | refine ⟨by decide, ?_⟩
  | refine ⟨by assumption, ?_⟩)
local macro_rules | `(tactic| walk_at "st") => `(tactic| repeat walk_at "st1")
local macro_rules | `(tactic| walk_at "go") => `(tactic| repeat first | walk_at "st1" | walk_at "rd")
section
variable {P : Program} {w : World} {K : PySem.W.Frag} {mg : Str → Option Value} {base : Heap}
theorem ok_Lwritten_set (T : Top K mg) : FnOk P w K mg base CX0 3 T.f_Lwritten_set T.fd_Lwritten_set ["_law_text"] sp_wset := by
  refine T.F_Lwritten_set.ok sc_Lwritten_set (fun vs H Q E h => ?_) (fun cdv A outer s H vs Q E hr h => ?_)
  · obtain ⟨cs, rfl, _⟩ := h
    rfl
  · obtain ⟨cs, rfl, hsub, q⟩ := h
    refine ⟨_, (pss_cons (ps_if (pt_cmpR op_eq (pe_callB call_len_str (by rfl) T.b_len PySem.boot_len (pa_cons (pv 0) pa_nil)) pe_int (nomark _)) (pss_one (ps_ret (pe_call (ok_Lescaped T) (hr.mono (by decide)) (by rfl) T.g_Lescaped T.F_Lescaped.kp T.B_Lescaped .nil pass0 (pa_cons (pv 0) (pa_cons pe_str pa_nil))))) pss_nil)
       (pss_cons (ps_set (i := 1) sc_Lwritten_set.nd rfl (Or.inl rfl) (pe_m1 (r := rJoin K) PySem.F.slot_str_join PySem.F.type_str_join mt_joinQ pe_str (pe_lc (own := [("_law_sign", 4)]) (g := gName 4) (by rfl) sc_Lwritten_set.nd (pi_str (pe_call0 (ok_Lsigns T) (hr.mono (by decide)) (by rfl) T.g_Lsigns T.F_Lsigns.kp T.B_Lsigns .nil pass0)) (blkOk_by (own := [("_law_sign", 4)]) (N := n_Lwritten_set) (sc := defScope s_Lwritten_set) (by decide +kernel)) (fun _ _ _ _ _ => pg_name (i := 4) sc_Lwritten_set.nd rfl (Or.inl rfl)) (fun _ _ _ _ _ => (pts_one (pt_cmpR op_notIn_sign (pv 4) (pv 0) (by rfl)))) (fun _ _ _ _ _ => (pv 4)))))
       (pss_cons (ps_if (pt_cmpR op_eq (pv 1) pe_str (nomark _)) (pss_one (ps_ret pe_str)) pss_nil)
       (pss_cons (ps_set (i := 2) sc_Lwritten_set.nd rfl (Or.inl rfl) (pe_op op_add_str (pe_op op_add_str pe_str (pe_call (ok_Linside T) (hr.mono (by decide)) (by rfl) T.g_Linside T.F_Linside.kp T.B_Linside .nil pass0 (pa_cons (pv 0) pa_nil))) pe_str))
       (pss_cons (ps_set (i := 3) sc_Lwritten_set.nd rfl (Or.inl rfl) (pe_op op_add_str (pe_op op_add_str pe_str (pe_call (ok_Linside T) (hr.mono (by decide)) (by rfl) T.g_Linside T.F_Linside.kp T.B_Linside .nil pass0 (pa_cons (pv 1) pa_nil))) pe_str))
       (pss_cons (ps_if (pt_cmpR op_lt (pe_callB call_len_str (by rfl) T.b_len PySem.boot_len (pa_cons (pv 3) pa_nil)) (pe_callB call_len_str (by rfl) T.b_len PySem.boot_len (pa_cons (pv 2) pa_nil)) (nomark _)) (pss_one (ps_ret (pv 3))) pss_nil)
       (pss_one (ps_ret (pv 2))))))))), ?_⟩
    have lc := sub_len hsub
    have lS : SG.length ≤ sizeLine := line20 (by rw [SG_len]; decide)
    have lw := wrs_len (runsL cs)
    have lw2 := wrs_len (runsL (cNot cs))
    have lr := runs_len cs
    have lr2 := runs_len (cNot cs)
    have nsub : (cNot cs).Sublist SG := List.filter_sublist
    have ln := sub_len nsub
    have q2 := q
    unfold wset at q2
    walk_at "rd"
    refine ⟨line20 (by omega), ite2 (fun h1 => ?_) (fun h1 => ?_)⟩
    · have e1 : cs.length = 1 := by omega
      obtain ⟨c, rfl⟩ := List.length_eq_one_iff.mp e1
      rw [if_pos (show [c].length = 1 from rfl)] at q2
      exact ⟨c, rfl, by decide, by decide, q2 _ (Same.refl _)⟩
    · rw [if_neg (by omega)] at q2
      refine lcJ_pure (reg_text SG) (fun c => !decide (c ∈ cs)) (fun c => V.str (tx [c])) lS (fun _ _ _ => trivial) (fun c D acc Q _ h0 hq => ?_) (fun c D acc Q _ _ h0 hq => ?_) (fun D h0 => ?_)
      · walk_at "rd"
        exact hq
      · walk_at "rd"
        exact hq
      have s1 : Same H (upd H D (HO.lst ((SG.filter fun c => !decide (c ∈ cs)).map fun c => V.str (tx [c])))) := same_upd h0
      refine ⟨D, rfl, join_goW (cs := cNot cs) sq_upd (by omega) fun ys e => ?_⟩
      rw [e]
      refine ite2 (fun h2 => ?_) (fun h2 => ?_)
      · rw [if_pos (tx_eq.mp h2)] at q2
        exact q2 _ s1
      · rw [if_neg (fun e => h2 (by rw [e]))] at q2
        have hd : ∀ l : List Nat, l.length ≤ 5 * 96 → (l ++ [93]).length + 1 + 1 ≤ sizeLine := fun l hl => by
          rw [List.length_append]
          exact line20 (by simp; omega)
        have h5 : ∀ l : List Nat, l.length ≤ 5 * 96 → 2 + l.length ≤ sizeLine ∧ 1 + l.length ≤ sizeLine ∧ l.length + 1 + 1 + 1 ≤ sizeLine ∧ l.length + 1 + 1 ≤ sizeLine ∧ (l ++ [93]).length + 1 ≤ sizeLine := fun l hl => by
          have := hd l hl
          rw [List.length_append] at this ⊢
          simp only [List.length_cons, List.length_nil] at this ⊢
          exact ⟨by omega, by omega, by omega, by omega, by omega⟩
        obtain ⟨a1, a2, a3, a4, a5⟩ := h5 (wrs (runsL cs)) (by omega)
        obtain ⟨b1, b2, b3, b4, b5⟩ := h5 (wrs (runsL (cNot cs))) (by omega)
        refine ⟨hsub, fun H3 s3 => ⟨a2, a4, cNot cs, rfl, nsub, fun H4 s4 => ⟨b1, b3, hd _ (by omega), a5, ?_⟩⟩⟩
        have sx := (s1.trans s3).trans s4
        refine ite2 (fun h3 => ?_) (fun h3 => ?_)
        · rw [if_pos (by omega)] at q2
          exact q2 _ sx
        · rw [if_neg (by omega)] at q2
          exact q2 _ sx
end
end My
namespace My
open PySem L2
local macro_rules | `(tactic| walk_at "rd") => `(tactic| simp only [sFld, tM1, tMake, tProp, tFld, rOwn2, rOwnIn, rOwn1, rSetTx, rSortedTx, sp_Lsigns, sp_Lesc, sp_Lins, sp_Lnext, c_bs, c_tab, c_en, c_et, c_spec, c_brack, c_dash, c_open, c_openc, c_close, c_dot, c_nl, tSeq, tNext, tAsg, tOp, tUn, tC, tVar, gName, gSub, tCons, tNil, tCB, tIfS, tIf, tTest, tB, tAnd, tOr, tNot, tAndV, tOrV, tNotV, tRet, tRetN, tDrop, tLst, tTup, tCall, tSl, tNoPart, tPart, tM0, tM1, tBM, tBM0, tYes, tFor_eq, tLc_eq, iList, iRng1, iRng2, iStr, sg_tx, c_empty, rstrip_sign, find_sign, cut_last, cut_to, cut_from, cut_mid, cut_to_lit, cut_from_lit, and_assoc, flat_rep, List.length_replicate, tx_len, tx_eq, tx_app, tx_cps, rI0, rI, rU, rEq, rNe, rIxL, rIxS, rIxT, rSetL, rAppend, rPopAt, rSlS, rSlL, rIn, rMulS, rLtD, rJoin, rLenQ, rListOf,  tRevS, 
  scal, L2.start, List.map_cons, List.map_nil, List.length_cons, List.length_nil, List.replicate, List.cons_append, List.nil_append, List.append_nil,
  List.getElem?_cons_zero, List.getElem?_cons_succ, List.set_cons_zero, List.set_cons_succ, Nat.sub_zero, Nat.reduceSub, Nat.reduceAdd, Nat.zero_add, id_eq, Int.reduceToNat, exists_or,
  V.int.injEq, V.str.injEq, V.bl.injEq, V.ref.injEq, Option.some.injEq, List.cons.injEq, exists_and_left, exists_eq_left', exists_eq_left, exists_eq, exists_eq', and_true, true_and, reduceCtorEq, false_and, and_false, exists_false, false_or, or_false, decide_eq_true_eq, Bool.not_eq_true', decide_eq_false_iff_not, Bool.not_not, Bool.false_eq_true, ↓reduceIte, if_true, if_false])

local macro_rules | `(tactic| walk_at "ne") => `(tactic| first | assumption | (refine Ne.symm ?_; assumption) | exact (ne_of_none (by assumption) (by assumption)) | exact (ne_of_none (by assumption) (by assumption)).symm)
local macro_rules | `(tactic| walk_at "hp") => `(tactic| first | assumption | exact upd_same | exact (upd_ne (by walk_at "ne")).trans (by walk_at "hp"))
local macro_rules | `(tactic| walk_at "st1") => `(tactic| first
  | refine ⟨_, Or.inl (Or.inl (by walk_at "hp")), ?_⟩
  | refine ⟨_, Or.inl (Or.inl (Or.inl (by walk_at "hp"))), ?_⟩
  | refine ⟨_, (show _ = some (HO.lst _) by walk_at "hp"), ?_⟩
  | refine ⟨_, rfl, ?_⟩
  | refine ⟨(rfl : ("str" : String) = "str"), ?_⟩
  | refine ⟨Or.inr ⟨by decide, by decide⟩, ?_⟩
  | refine ⟨⟨by decide, by decide⟩, ?_⟩
  | refine ⟨by decide, ?_⟩
  | refine ⟨by assumption, ?_⟩)
local macro_rules | `(tactic| walk_at "st") => `(tactic| repeat walk_at "st1")
local macro_rules | `(tactic| walk_at "go") => `(tactic| repeat first | walk_at "st1" | walk_at "rd")
section
variable {P : Program} {w : World} {K : PySem.W.Frag} {mg : Str → Option Value} {base : Heap}
def LX : List (List Nat) := [[], [10], [9, 10], [10, 32], [9, 10, 32], [9, 32], [36, 38], [35, 36, 38], [36, 38, 39], [92, 91, 93, 94, 45], [91, 92, 93], [92, 93, 94], [43, 44, 45], [45, 46, 47]]
def LY : List (List Nat) := [[92, 124, 42, 43, 63, 60, 62, 40, 41, 91, 93, 123, 125, 46, 126, 94], [125, 126], [10], [10]]
theorem ok_Ldrawn_set (T : Top K mg) : FnOk P w K mg base CX0 2 T.f_Ldrawn_set T.fd_Ldrawn_set ["_law_draw_here"] sp_Ldset := by
  refine T.F_Ldrawn_set.ok sc_Ldrawn_set (fun vs H Q E h => ?_) (fun cdv A outer s H vs Q E hr h => ?_)
  · obtain ⟨d, l, rfl, _⟩ := h
    rfl
  · obtain ⟨d, l, rfl, hD, q⟩ := h
    refine ⟨_, (pss_cons (ps_set (i := 1) sc_Ldrawn_set.nd rfl (Or.inl rfl) (pe_call0 (ok_Lsigns T) (hr.mono (by decide)) (by rfl) T.g_Lsigns T.F_Lsigns.kp T.B_Lsigns .nil pass0))
       (pss_cons (ps_set (i := 2) sc_Ldrawn_set.nd rfl (Or.inl rfl) (pe_call (ok_Lnext T) (hr.mono (by decide)) (by rfl) T.g_Lnext T.F_Lnext.kp T.B_Lnext .nil pass0 (pa_cons (pv 0) (pa_cons pe_int pa_nil))))
       (pss_cons (ps_set (i := 3) sc_Ldrawn_set.nd rfl (Or.inr rfl) pe_str)
       (pss_cut (ps_if (pt_cmpR op_lt (pv 2) pe_int (nomark _)) (pss_one (ps_set (i := 3) sc_Ldrawn_set.nd rfl (Or.inr rfl) (pe_ix ix_str (pv 1) (pe_call (ok_Lnext T) (hr.mono (by decide)) (by rfl) T.g_Lnext T.F_Lnext.kp T.B_Lnext .nil pass0 (pa_cons (pv 0) (pa_cons pe_int pa_nil))) (fun _ _ => rfl)))) pss_nil)
       (pss_cut (ps_if (PW.pt (pw_or (pt_cmpR op_eq (pv 2) pe_int (nomark _)) (pw_or1 (pt_cmpR op_eq (pv 2) pe_int (nomark _))))) (pss_one (ps_for PassesOwn.never rfl (pi_range1 rfl T.b_range (pa_cons (pe_op op_add pe_int (pe_call (ok_Lnext T) (hr.mono (by decide)) (by rfl) T.g_Lnext T.F_Lnext.kp T.B_Lnext .nil pass0 (pa_cons (pv 0) (pa_cons pe_int pa_nil)))) pa_nil)) (pg_name (i := 4) sc_Ldrawn_set.nd rfl (Or.inl rfl))
       (pss_cons (ps_set (i := 5) sc_Ldrawn_set.nd rfl (Or.inl rfl) (pe_call (ok_Lnext T) (hr.mono (by decide)) (by rfl) T.g_Lnext T.F_Lnext.kp T.B_Lnext .nil pass0 (pa_cons (pv 0) (pa_cons pe_int pa_nil))))
       (pss_one (ps_set (i := 3) sc_Ldrawn_set.nd rfl (Or.inr rfl) (pe_op op_add_str (pv 3) (pe_slice sl_str (pv 1) (po_some (pv 5)) (po_some (pe_op op_add (pe_op op_add (pv 5) pe_int) (pe_call (ok_Lnext T) (hr.mono (by decide)) (by rfl) T.g_Lnext T.F_Lnext.kp T.B_Lnext .nil pass0 (pa_cons (pv 0) (pa_cons pe_int pa_nil)))))))))))) pss_nil)
       (pss_cut (ps_if (pt_cmpR op_eq (pv 2) pe_int (nomark _)) (pss_cons (ps_set (i := 6) sc_Ldrawn_set.nd rfl (Or.inl rfl) (pe_call (ok_Lnext T) (hr.mono (by decide)) (by rfl) T.g_Lnext T.F_Lnext.kp T.B_Lnext .nil pass0 (pa_cons (pv 0) (pa_cons pe_int pa_nil))))
       (pss_one (ps_for PassesOwn.never rfl (pi_range1 rfl T.b_range (pa_cons (pe_op op_add pe_int (pe_call (ok_Lnext T) (hr.mono (by decide)) (by rfl) T.g_Lnext T.F_Lnext.kp T.B_Lnext .nil pass0 (pa_cons (pv 0) (pa_cons pe_int pa_nil)))) pa_nil)) (pg_name (i := 4) sc_Ldrawn_set.nd rfl (Or.inl rfl))
       (pss_cut (ps_if (pt_cmpR op_lt (pv 6) pe_int (nomark _)) (pss_one (ps_set (i := 3) sc_Ldrawn_set.nd rfl (Or.inr rfl) (pe_op op_add_str (pv 3) (pe_ix ix_str (pv 1) (pv 6) (fun _ _ => rfl))))) pss_nil)
       (pss_one (ps_set (i := 6) sc_Ldrawn_set.nd rfl (Or.inl rfl) (pe_op op_add (pe_op op_add (pv 6) pe_int) (pe_call (ok_Lnext T) (hr.mono (by decide)) (by rfl) T.g_Lnext T.F_Lnext.kp T.B_Lnext .nil pass0 (pa_cons (pv 0) (pa_cons pe_int pa_nil)))))))))) pss_nil)
       (pss_cut (ps_if (PW.pt (pw_and (pt_cmpR op_gt (pv 2) pe_int (nomark _)) (pw_and1 (pt_cmpR op_lt (pv 2) pe_int (nomark _))))) (pss_cons (ps_set (i := 7) sc_Ldrawn_set.nd rfl (Or.inr rfl) (pe_ix (r := rIxL K) ix_list (pe_lst (pa_cons pe_int (pa_cons pe_int (pa_cons pe_int (pa_cons pe_int pa_nil))))) (pe_call (ok_Lnext T) (hr.mono (by decide)) (by rfl) T.g_Lnext T.F_Lnext.kp T.B_Lnext .nil pass0 (pa_cons (pv 0) (pa_cons pe_int pa_nil))) (fun _ _ => rfl)))
       (pss_one (ps_set (i := 3) sc_Ldrawn_set.nd rfl (Or.inr rfl) (pe_m1 (r := rJoin K) PySem.F.slot_str_join PySem.F.type_str_join mt_joinQ pe_str (pe_lc (own := [("_law_sign", 10)]) (g := gName 10) (by rfl) sc_Ldrawn_set.nd (pi_str (pv 1)) (blkOk_by (own := [("_law_sign", 10)]) (N := n_Ldrawn_set) (sc := defScope s_Ldrawn_set) (by decide +kernel)) (fun _ _ _ _ _ => pg_name (i := 10) sc_Ldrawn_set.nd rfl (Or.inl rfl)) (fun _ _ _ _ _ => (pts_one (pt_cmpR op_eq (pe_call (ok_Lnext T) (hr.mono (by decide)) (by rfl) T.g_Lnext T.F_Lnext.kp T.B_Lnext .nil pass0 (pa_cons (pv 0) (pa_cons (pv 7) pa_nil))) pe_int (nomark _)))) (fun _ _ _ _ _ => (pv 10))))))) pss_nil)
       (pss_cut (ps_if (pt_cmpR op_eq (pv 2) pe_int (nomark _)) (pss_cons (ps_set (i := 8) sc_Ldrawn_set.nd rfl (Or.inl rfl) (pe_lst (pa_cons pe_str (pa_cons pe_str (pa_cons pe_str (pa_cons pe_str (pa_cons pe_str (pa_cons pe_str (pa_cons pe_str (pa_cons pe_str (pa_cons pe_str (pa_cons pe_str (pa_cons pe_str (pa_cons pe_str (pa_cons pe_str (pa_cons pe_str pa_nil))))))))))))))))
       (pss_one (ps_set (i := 3) sc_Ldrawn_set.nd rfl (Or.inr rfl) (pe_ix (r := rIxL K) ix_list (pe_op op_cat (pv 8) (pe_lst (pa_cons pe_str (pa_cons pe_str (pa_cons pe_str (pa_cons pe_str pa_nil)))))) (pe_call (ok_Lnext T) (hr.mono (by decide)) (by rfl) T.g_Lnext T.F_Lnext.kp T.B_Lnext .nil pass0 (pa_cons (pv 0) (pa_cons pe_int pa_nil))) (fun _ _ => rfl))))) pss_nil)
       (pss_cons (ps_set (i := 9) sc_Ldrawn_set.nd rfl (Or.inr rfl) (pe_cmpR op_eq (pe_call (ok_Lnext T) (hr.mono (by decide)) (by rfl) T.g_Lnext T.F_Lnext.kp T.B_Lnext .nil pass0 (pa_cons (pv 0) (pa_cons pe_int pa_nil))) pe_int (nomark _)))
       (pss_one (ps_ret (pe_m1 (r := rJoin K) PySem.F.slot_str_join PySem.F.type_str_join mt_joinQ pe_str (pe_lc (own := [("_law_sign", 10)]) (g := gName 10) (by rfl) sc_Ldrawn_set.nd (pi_str (pv 1)) (blkOk_by (own := [("_law_sign", 10)]) (N := n_Ldrawn_set) (sc := defScope s_Ldrawn_set) (by decide +kernel)) (fun _ _ _ _ _ => pg_name (i := 10) sc_Ldrawn_set.nd rfl (Or.inl rfl)) (fun _ _ _ _ _ => (pts_one (pt_cmpR op_ne (pe_cmpR op_in_sign (pv 10) (pv 3) (by rfl)) (pv 9) (nomark _)))) (fun _ _ _ _ _ => (pv 10))))))))))))))), ?_⟩
    have lS : SG.length ≤ sizeLine := line20 (by rw [SG_len]; decide)
    walk_at "rd"
    refine ⟨l, hD, by decide, fun ch H1 a0 b0 D1 B1 => ?_⟩
    obtain ⟨Mv, hM⟩ : ∃ Mv : Nat → L2.St → Hp → Prop, ∀ n σ H', Mv n σ H' ↔ ∃ (v4 v5 v6 v7 v8 : Option V) (t : List Nat), σ = [some (V.ref d), some (V.str (tx SG)), some (V.int ch), some (V.str (tx t)), v4, v5, v6, v7, v8, none, none] ∧ t.length ≤ n ∧ Drw H' d l ∧ But d H H' := ⟨_, fun _ _ _ => Iff.rfl⟩
    refine ⟨Mv 1, ?_, fun σ H2 h => ?_⟩
    · walk_at "rd"
      refine ite2 (fun h => ?_) (fun h => ?_)
      · refine ⟨l, D1, by decide, fun r H2 a1 b1 D2 B2 => ⟨lS, ?_⟩⟩
        obtain ⟨j, rfl, hj, e⟩ := atI_pos (s := SG) a1 (by rw [SG_len]; omega)
        exact ⟨_, e, (hM _ _ _).mpr ⟨_, _, _, _, _, [SG[j]], rfl, by simp, D2, B1.trans B2⟩⟩
      · exact (hM _ _ _).mpr ⟨_, _, _, _, _, [], rfl, by simp, D1, B1⟩
    clear D1 B1
    obtain ⟨v4, v5, v6, v7, v8, t, rfl, lt, D2, B2⟩ := (hM _ _ _).mp h
    refine ⟨Mv 3000, ?_, fun σ H3 h => ?_⟩
    · walk_at "rd"
      have body : ∀ (r : Int) (H' : Hp), 0 ≤ r → r < 6 → Drw H' d l → But d H2 H' → ForJ (Itr 0 (1 + r).toNat) (gName 4)
                          (tSeq (tAsg (tCall sp_Lnext [] E0 (tCons (tVar 0) (tCons (tC (V.int 96)) tNil))) (gName 5))
                            (tAsg
                              (tOp
                                (fun x y H Q =>
                                  ∃ i,
                                    x = V.str i ∧
                                      ∃ x, y = V.str x ∧ i.length + x.length ≤ sizeLine ∧ Q (V.str (i ++ x)) H)
                                (tVar 3)
                                (tSl rSlS (tVar 1) (tPart (tVar 5))
                                  (tPart
                                    (tOp (rI0 fun i j => V.int (i + j))
                                      (tOp (rI0 fun i j => V.int (i + j)) (tVar 5) (tC (V.int 1)))
                                      (tCall sp_Lnext [] E0 (tCons (tVar 0) (tCons (tC (V.int 6)) tNil)))))))
                              (gName 3)))
                          { nx := Mv 3000, rt := Q }
                          [some (V.ref d), some (V.str (tx SG)), some (V.int ch), some (V.str (tx t)), v4, v5, v6, v7,
                            v8, none, none]
                          H' := by
        intro r H3 r0 r1 D3 B3
        obtain ⟨Pj, hJ⟩ : ∃ Pj : Nat → L2.St → Hp → Prop, ∀ i σ H', Pj i σ H' ↔ ∃ (v4 v5 : Option V) (t : List Nat), σ = [some (V.ref d), some (V.str (tx SG)), some (V.int ch), some (V.str (tx t)), v4, v5, v6, v7, v8, none, none] ∧ t.length ≤ 1 + 96 * i ∧ Drw H' d l ∧ But d H H' := ⟨_, fun _ _ _ => Iff.rfl⟩
        refine forJ_by (reg_range _ _) Pj (fun _ _ _ _ => trivial) ?_ ?_ ?_
        · exact (hJ _ _ _).mpr ⟨v4, v5, t, rfl, by omega, D3, B2.trans B3⟩
        · intro i k σ H4 hi h
          obtain ⟨v4, v5, t, rfl, lt, D4, B4⟩ := (hJ _ _ _).mp h
          obtain ⟨rfl, hk⟩ := range_at hi
          walk_at "rd"
          refine ⟨l, D4, by decide, fun a H5 a0 a1 D5 B5 => ⟨l, D5, by decide, fun b H6 b0 b1 D6 B6 => ⟨lS, ?_⟩⟩⟩
          obtain ⟨a, rfl⟩ := Int.eq_ofNat_of_zero_le a0
          obtain ⟨b, rfl⟩ := Int.eq_ofNat_of_zero_le b0
          have e : ((a : Int) + 1 + (b : Int)) = ((a + 1 + b : Nat) : Int) := by omega
          rw [e, cut_mid, tx_len]
          have l2 : ((SG.drop a).take (a + 1 + b - a)).length ≤ 6 := by rw [List.length_take]; omega
          refine ⟨line20 (by omega), (hJ _ _ _).mpr ⟨_, _, t ++ (SG.drop a).take (a + 1 + b - a), by rw [tx_app], ?_, D6, (B4.trans B5).trans B6⟩⟩
          rw [List.length_append]
          omega
        · intro σ H4 h
          obtain ⟨v4, v5, t, rfl, lt, D4, B4⟩ := (hJ _ _ _).mp h
          rw [List.length_range] at lt
          exact (hM _ _ _).mpr ⟨_, _, _, _, _, t, rfl, by omega, D4, B4⟩
      refine ite2 (fun _ => ⟨l, D2, by decide, fun r H3 r0 r1 D3 B3 => ⟨by omega, by omega, body r H3 r0 r1 D3 B3⟩⟩) (fun _ => ite2 (fun _ => ⟨l, D2, by decide, fun r H3 r0 r1 D3 B3 => ⟨by omega, by omega, body r H3 r0 r1 D3 B3⟩⟩) (fun _ => ?_))
      exact (hM _ _ _).mpr ⟨_, _, _, _, _, t, rfl, by omega, D2, B2⟩
    obtain ⟨v4, v5, v6, v7, v8, t, rfl, lt, D3, B3⟩ := (hM _ _ _).mp h
    refine ⟨Mv 5000, ?_, fun σ H4 h => ?_⟩
    · walk_at "rd"
      refine ite2 (fun _ => ?_) (fun _ => ?_)
      · refine ⟨l, D3, by decide, fun at0 H4 p0 p1 D4 B4 => ⟨l, D4, by decide, fun r H5 r0 r1 D5 B5 => ⟨by omega, by omega, ?_⟩⟩⟩
        obtain ⟨Pj, hJ⟩ : ∃ Pj : Nat → L2.St → Hp → Prop, ∀ i σ H', Pj i σ H' ↔ ∃ (v4 : Option V) (z : Int) (t : List Nat), σ = [some (V.ref d), some (V.str (tx SG)), some (V.int ch), some (V.str (tx t)), v4, v5, some (V.int z), v7, v8, none, none] ∧ 0 ≤ z ∧ t.length ≤ 3000 + i ∧ Drw H' d l ∧ But d H H' := ⟨_, fun _ _ _ => Iff.rfl⟩
        refine forJ_by (reg_range _ _) Pj (fun _ _ _ _ => trivial) ?_ ?_ ?_
        · exact (hJ _ _ _).mpr ⟨v4, at0, t, rfl, p0, by omega, D5, (B3.trans B4).trans B5⟩
        · intro i k σ H6 hi h
          obtain ⟨v4, z, t, rfl, z0, lt, D6, B6⟩ := (hJ _ _ _).mp h
          obtain ⟨rfl, hk⟩ := range_at hi
          obtain ⟨Mj, hMj⟩ : ∃ Mj : L2.St → Hp → Prop, ∀ σ2 H', Mj σ2 H' ↔ ∃ (v4 : Option V) (t : List Nat), σ2 = [some (V.ref d), some (V.str (tx SG)), some (V.int ch), some (V.str (tx t)), v4, v5, some (V.int z), v7, v8, none, none] ∧ t.length ≤ 3000 + (k + 1) ∧ Drw H' d l ∧ But d H H' := ⟨_, fun _ _ => Iff.rfl⟩
          refine ⟨Mj, ?_, ?_⟩
          · walk_at "rd"
            refine ite2 (fun hz => ?_) (fun hz => ?_)
            · obtain ⟨j, rfl, hj, e⟩ := atI_pos (s := SG) z0 (by rw [SG_len]; omega)
              refine ⟨lS, _, e, line20 (by omega), (hMj _ _).mpr ⟨_, t ++ [SG[j]], rfl, by rw [List.length_append]; simp; omega, D6, B6⟩⟩
            · exact (hMj _ _).mpr ⟨_, t, rfl, by omega, D6, B6⟩
          · intro σ2 H7 h7
            obtain ⟨v4, t, rfl, lt, D7, B7⟩ := (hMj _ _).mp h7
            walk_at "rd"
            exact ⟨l, D7, by decide, fun r2 H8 c0 c1 D8 B8 => (hJ _ _ _).mpr ⟨_, _, t, rfl, by omega, lt, D8, B7.trans B8⟩⟩
        · intro σ H6 h
          obtain ⟨v4, z, t, rfl, z0, lt, D6, B6⟩ := (hJ _ _ _).mp h
          rw [List.length_range] at lt
          exact (hM _ _ _).mpr ⟨_, _, _, _, _, t, rfl, by omega, D6, B6⟩
      · exact (hM _ _ _).mpr ⟨_, _, _, _, _, t, rfl, by omega, D3, B3⟩
    obtain ⟨v4, v5, v6, v7, v8, t, rfl, lt, D4, B4⟩ := (hM _ _ _).mp h
    refine ⟨Mv 5000, ?_, fun σ H5 h => ?_⟩
    · walk_at "rd"
      refine ite2 (fun _ => ite2 (fun _ => ?_) (fun _ => ?_)) (fun _ => ?_)
      · refine ⟨by decide, fun p hp => ⟨l, D4.new hp, by decide, fun r H5 r0 r1 D5 B5 => ?_⟩⟩
        have hp2 := B5 _ _ (D4.ne hp) upd_same
        obtain ⟨m, em, m0⟩ : ∃ m : Int, atI [V.int 2, V.int 2, V.int 3, V.int 6] r = some (V.int m) ∧ 0 < m := by
          have : r = 0 ∨ r = 1 ∨ r = 2 ∨ r = 3 := by omega
          rcases this with rfl | rfl | rfl | rfl
          · exact ⟨2, rfl, by decide⟩
          · exact ⟨2, rfl, by decide⟩
          · exact ⟨3, rfl, by decide⟩
          · exact ⟨6, rfl, by decide⟩
        refine ⟨_, .inl (.inl hp2), _, em, ?_⟩
        have B6 := (B4.new hp).trans B5
        refine lc_draws (by rw [SG_len]; decide) D5 (fun c H Q _ hD' hq => ?_) (fun c H Q _ hq => ?_) (fun D H2 es h0 he D2 B2 eD => ?_)
        · walk_at "rd"
          refine ⟨l, hD', m0, fun r H' ra rb hD2 hB => hq _ _ hD2 hB⟩
        · walk_at "rd"
          exact hq
        · refine ⟨D, rfl, join_goW (.inl (.inl eD)) (by have := sub_len he; omega) fun ys e => ?_⟩
          rw [e]
          exact (hM _ _ _).mpr ⟨_, _, _, _, _, es, rfl, by have := sub_len he; omega, D2, B6.trans B2⟩
      · exact (hM _ _ _).mpr ⟨_, _, _, _, _, t, rfl, by omega, D4, B4⟩
      · exact (hM _ _ _).mpr ⟨_, _, _, _, _, t, rfl, by omega, D4, B4⟩
    obtain ⟨v4, v5, v6, v7, v8, t, rfl, lt, D5, B5⟩ := (hM _ _ _).mp h
    refine ⟨Mv 5000, ?_, fun σ H6 h => ?_⟩
    · walk_at "rd"
      refine ite2 (fun _ => ?_) (fun _ => ?_)
      · refine ⟨by decide, fun p hp => ⟨by decide, fun p1 hp1 => ?_⟩⟩
        have eX : [V.str (tx []), V.str (tx [10]), V.str (Str.ofString "\t\n"), V.str (Str.ofString "\n "), V.str (Str.ofString "\t\n "), V.str (Str.ofString "\t "), V.str (Str.ofString "$&"), V.str (Str.ofString "#$&"), V.str (Str.ofString "$&'"), V.str (tx [92, 91, 93, 94, 45]), V.str (Str.ofString "[\\]"), V.str (Str.ofString "\\]^"), V.str (Str.ofString "+,-"), V.str (Str.ofString "-./")] = LX.map fun s => V.str (tx s) := by decide +kernel
        have eY : [V.str (tx [92, 124, 42, 43, 63, 60, 62, 40, 41, 91, 93, 123, 125, 46, 126, 94]), V.str (Str.ofString "}~"), V.str (tx [10]), V.str (tx [10])] = LY.map fun s => V.str (tx s) := by decide +kernel
        rw [eX] at hp1 ⊢
        rw [eY]
        have p1p : p ≠ p1 := ne_of_none (upd_same (H := H5) (a := p) (o := HO.lst (LX.map fun s => V.str (tx s)))) hp1
        have D6 := (D5.new (o := HO.lst (LX.map fun s => V.str (tx s))) hp).new (o := HO.lst (LY.map fun s => V.str (tx s))) hp1
        have B6 := (B5.new (o := HO.lst (LX.map fun s => V.str (tx s))) hp).new (o := HO.lst (LY.map fun s => V.str (tx s))) hp1
        refine ⟨p, p1, _, _, rfl, rfl, by rw [upd_ne p1p]; exact upd_same, upd_same, by rw [List.length_map, List.length_map]; decide, fun p2 hp2 => ?_⟩
        refine ⟨l, D6.new hp2, by decide, fun r H7 r0 r1 D7 B7 => ⟨p2, rfl, _, .inl (.inl (B7 _ _ (D6.ne hp2) upd_same)), ?_⟩⟩
        rw [← List.map_append]
        obtain ⟨j, hj, ej, ea⟩ := map_at (F := fun s => V.str (tx s)) (L := LX ++ LY) r0 r1
        refine ⟨_, ea, (hM _ _ _).mpr ⟨_, _, _, _, _, (LX ++ LY)[j], rfl, ?_, D7, (B6.new hp2).trans B7⟩⟩
        have hall : ∀ s ∈ LX ++ LY, s.length ≤ 5000 := by decide
        exact hall _ (List.getElem_mem hj)
      · exact (hM _ _ _).mpr ⟨_, _, _, _, _, t, rfl, by omega, D5, B5⟩
    obtain ⟨v4, v5, v6, v7, v8, t, rfl, lt, D6, B6⟩ := (hM _ _ _).mp h
    walk_at "rd"
    refine ⟨l, D6, by decide, fun r H7 r0 r1 D7 B7 => ?_⟩
    refine lcJ_pure (reg_text SG) (fun c => !decide (decide (c ∈ t) = decide (r = 0))) (fun c => V.str (tx [c])) lS (fun _ _ _ => trivial) (fun c D acc Q _ h0 hq => ?_) (fun c D acc Q _ _ h0 hq => ?_) (fun D h0 => ?_)
    · walk_at "rd"
      exact hq
    · walk_at "rd"
      exact hq
    have hl : ∀ p : Nat → Bool, (SG.filter p).length ≤ 96 := fun p => by rw [← SG_len]; exact List.length_filter_le _ _
    refine ⟨D, rfl, join_goW sq_upd (by have := hl (fun c => !decide (decide (c ∈ t) = decide (r = 0))); omega) fun ys e => ?_⟩
    rw [e]
    exact q _ _ List.filter_sublist (D7.new h0) ((B6.trans B7).new h0)
end
end My
namespace My
open PySem L2
local macro_rules | `(tactic| walk_at "rd") => `(tactic| simp only [sFld, tM1, tMake, tProp, tFld, rOwn2, rOwnIn, rOwn1, rSetTx, rSortedTx, sp_Ldraw, sp_Ldset, sp_wset, sp_wpat, tSeq, tNext, tAsg, tOp, tUn, tC, tVar, gName, gSub, tCons, tNil, tCB, tIfS, tIf, tTest, tB, tAnd, tOr, tNot, tAndV, tOrV, tNotV, tRet, tRetN, tDrop, tLst, tTup, tCall, tSl, tNoPart, tPart, tM0, tM1, tBM, tBM0, tYes, tFor_eq, tLc_eq, iList, iRng1, iRng2, iStr, sg_tx, c_empty, rstrip_sign, find_sign, cut_last, cut_to, cut_from, cut_mid, cut_to_lit, cut_from_lit, and_assoc, flat_rep, List.length_replicate, tx_len, tx_eq, tx_app, tx_cps, rI0, rI, rU, rEq, rNe, rIxL, rIxS, rIxT, rSetL, rAppend, rPopAt, rSlS, rSlL, rIn, rMulS, rLtD, rJoin, rLenQ, rListOf,  tRevS, 
  scal, L2.start, List.map_cons, List.map_nil, List.length_cons, List.length_nil, List.replicate, List.cons_append, List.nil_append, List.append_nil,
  List.getElem?_cons_zero, List.getElem?_cons_succ, List.set_cons_zero, List.set_cons_succ, Nat.sub_zero, Nat.reduceSub, Nat.reduceAdd, Nat.zero_add, id_eq, Int.reduceToNat, exists_or,
  V.int.injEq, V.str.injEq, V.bl.injEq, V.ref.injEq, Option.some.injEq, List.cons.injEq, exists_and_left, exists_eq_left', exists_eq_left, exists_eq, exists_eq', and_true, true_and, reduceCtorEq, false_and, and_false, exists_false, false_or, or_false, decide_eq_true_eq, Bool.not_eq_true', decide_eq_false_iff_not, Bool.not_not, Bool.false_eq_true, ↓reduceIte, if_true, if_false])

local macro_rules | `(tactic| walk_at "ne") => `(tactic| first | assumption | (refine Ne.symm ?_; assumption) | exact (ne_of_none (by assumption) (by assumption)) | exact (ne_of_none (by assumption) (by assumption)).symm)
local macro_rules | `(tactic| walk_at "hp") => `(tactic| first | assumption | exact upd_same | exact (upd_ne (by walk_at "ne")).trans (by walk_at "hp"))
local macro_rules | `(tactic| walk_at "st1") => `(tactic| first
  | refine ⟨_, Or.inl (Or.inl (by walk_at "hp")), ?_⟩
  | refine ⟨_, Or.inl (Or.inl (Or.inl (by walk_at "hp"))), ?_⟩
  | refine ⟨_, (show _ = some (HO.lst _) by walk_at "hp"), ?_⟩
  | refine ⟨_, rfl, ?_⟩
  | refine ⟨(rfl : ("str" : String) = "str"), ?_⟩
  | refine ⟨Or.inr ⟨by decide, by decide⟩, ?_⟩
  | refine ⟨⟨by decide, by decide⟩, ?_⟩
  | refine ⟨by decide, ?_⟩
  | refine ⟨by assumption, ?_⟩)
local macro_rules | `(tactic| walk_at "st") => `(tactic| repeat walk_at "st1")
local macro_rules | `(tactic| walk_at "go") => `(tactic| repeat first | walk_at "st1" | walk_at "rd")
section
variable {P : Program} {w : World} {K : PySem.W.Frag} {mg : Str → Option Value} {base : Heap}
def sp_law (K : PySem.W.Frag) : Sp := fun vs H Q _ => ∃ (a : Addr) (ns : List Int), vs = [.ref a] ∧ SqL K H a (ns.map V.int) ∧ ns.length ≤ 63 ∧ ∀ H', Q (.bl true) H'
theorem ok_law (T : Top K mg) : FnOk P T.tw K mg base CX0 8 T.f_law T.fd_law ["_law_script"] (sp_law K) := by
  refine T.F_law.ok sc_law (fun vs H Q E h => ?_) (fun cdv A outer s H vs Q E hr h => ?_)
  · obtain ⟨a, ns, rfl, _⟩ := h
    rfl
  · obtain ⟨a, ns, rfl, hS, hn, q⟩ := h
    refine ⟨_, (pss_cons (ps_set (i := 1) sc_law.nd rfl (Or.inr rfl) (pe_call (ok_Ldraw T) (hr.mono (by decide)) (by rfl) T.g_Ldraw T.F_Ldraw.kp T.B_Ldraw .nil pass0 (pa_cons (pv 0) pa_nil)))
       (pss_cons (ps_setLc (i := 2) (own := [("_law_k", 4)]) (g := gName 4) (by rfl) sc_law.nd rfl rfl (sw_true rfl rfl rfl (by decide +kernel)) (pi_range1 rfl T.b_range (pa_cons pe_int pa_nil)) (blkOk_by (own := [("_law_k", 4)]) (N := n_law) (sc := defScope s_law) (by decide +kernel)) (fun _ _ _ _ _ => pg_name (i := 4) sc_law.nd rfl (Or.inl rfl)) (fun _ _ _ _ _ => pts_nil) (fun _ _ _ _ _ => (pe_call (ok_Ldrawn_set T) (hr.mono (by decide)) (by rfl) T.g_Ldrawn_set T.F_Ldrawn_set.kp T.B_Ldrawn_set .nil pass0 (pa_cons (pv 1) pa_nil))))
       (pss_cons (ps_setLc (i := 3) (own := [("_law_text", 7)]) (g := gName 7) (by rfl) sc_law.nd rfl rfl (sw_true rfl rfl rfl (by decide +kernel)) (pi_list (pv 2)) (blkOk_by (own := [("_law_text", 7)]) (N := n_law) (sc := defScope s_law) (by decide +kernel)) (fun _ _ _ _ _ => pg_name (i := 7) sc_law.nd rfl (Or.inl rfl)) (fun _ _ _ _ _ => pts_nil) (fun _ _ _ _ _ => (pe_call (ok_write_set T) (hr.mono (by decide)) (by rfl) T.g_write_set T.F_write_set.kp T.B_write_set .nil pass0 (pa_cons (pv 7) pa_nil))))
       (pss_cons (ps_for PassesOwn.never rfl (pi_range1 rfl T.b_range (pa_cons pe_int pa_nil)) (pg_name (i := 4) sc_law.nd rfl (Or.inl rfl))
       (pss_cons (ps_set (i := 5) sc_law.nd rfl (Or.inl rfl) (pe_call (ok_Lwritten_set T) (hr.mono (by decide)) (by rfl) T.g_Lwritten_set T.F_Lwritten_set.kp T.B_Lwritten_set .nil pass0 (pa_cons (pe_ix (r := rIxL K) ix_list (pv 2) (pv 4) (fun _ _ => rfl)) pa_nil)))
       (pss_one (ps_for PassesOwn.never rfl (pi_list (pe_lst (pa_cons (pe_ix (r := rIxL K) ix_list (pv 3) (pv 4) (fun _ _ => rfl)) (pa_cons (pe_call (ok_write_set T) (hr.mono (by decide)) (by rfl) T.g_write_set T.F_write_set.kp T.B_write_set .nil pass0 (pa_cons (pe_ix (r := rIxL K) ix_list (pv 2) (pv 4) (fun _ _ => rfl)) pa_nil)) (pa_cons (pe_call (ok_write_pattern T) (hr.mono (by decide)) (by rfl) T.g_write_pattern T.F_write_pattern.kp T.B_write_pattern .nil pass0 (pa_cons (pe_tup (pa_cons pe_str (pa_cons (pe_ix (r := rIxL K) ix_list (pv 2) (pv 4) (fun _ _ => rfl)) pa_nil))) pa_nil)) pa_nil))))) (pg_name (i := 6) sc_law.nd rfl (Or.inl rfl))
       (pss_one (ps_if (PW.pt (pw_or (pt_not (pt_val (pe_callB (r := rIsi K) call_isi (by rfl) T.b_isinstance (by decide +kernel) (pa_cons (pv 6) (pa_cons (pe_bltn (v := .ty "str") (u := .type "str") (by rfl) T.b_str (by decide +kernel) rfl) pa_nil))))) (pw_or1 (pt_cmpR op_ne (pv 6) (pv 5) (nomark _))))) (pss_one (ps_ret pe_bl)) pss_nil))))))
       (pss_one (ps_ret pe_bl)))))), ?_⟩
    walk_at "rd"
    refine ⟨ns, hS, hn, fun d l H1 hd hl sm D1 => ⟨by decide, by decide, ?_⟩⟩
    obtain ⟨Pv, hP⟩ : ∃ Pv : Addr → Nat → Hp → Prop, ∀ D i H', Pv D i H' ↔ ∃ ts : List (List Nat), ts.length = i ∧ (∀ t ∈ ts, t.Sublist SG) ∧ Drw H' d l ∧ H' D = some (.lst (ts.map fun s => V.str (tx s))) := ⟨_, fun _ _ _ => Iff.rfl⟩
    refine lcJ_by (reg_range 0 6) Pv (fun _ _ _ _ _ => trivial) (fun D hD1 => ?_) (fun D i k H' hD1 hi hp => ?_) (fun D H' hD1 hp => ?_)
    · exact (hP _ _ _).mpr ⟨[], rfl, fun t h => by simp at h, D1.new hD1, upd_same⟩
    · obtain ⟨ts, e1, e2, e3, e4⟩ := (hP _ _ _).mp hp
      have hlt := (range_at hi).2
      walk_at "rd"
      refine ⟨l, e3, fun cs H3 hs D3 B3 => ?_⟩
      have Dd : D ≠ d := D1.ne hD1
      have eD := B3 _ _ Dd e4
      refine ⟨_, eD, by rw [List.length_map]; exact toLine (by omega), (hP _ _ _).mpr ⟨ts ++ [cs], by rw [List.length_append, e1]; rfl, fun t h => ?_, D3.put Dd (D1.nel hD1), by rw [upd_same, List.map_append]; rfl⟩⟩
      rcases List.mem_append.mp h with h | h
      · exact e2 _ h
      · rw [List.mem_singleton.mp h]; exact hs
    · obtain ⟨ts, e1, e2, e3, e4⟩ := (hP _ _ _).mp hp
      rw [List.length_range] at e1
      clear hp
      refine ⟨D, rfl, ⟨_, .inl (.inl e4)⟩, ?_⟩
      refine lcJ_same (reg_map K D (fun s => V.str (tx s)) ts) (fun _ => true) (fun s => V.str (tx (wset s))) (line20 (by omega)) (fun H2 s2 => .inl (.inl (s2 _ _ e4))) (fun t H2 Q ht s2 hq => ?_) (fun t H2 Q ht _ s2 hq => ?_) (fun D2 H2 h0 s2 e5 => ?_)
      · walk_at "rd"
        exact hq _ (Same.refl _)
      · walk_at "rd"
        exact ⟨e2 t ht, fun H3 s3 => hq _ s3⟩
      rw [filter_yes] at e5
      have e4' := s2 _ _ e4
      refine ⟨by decide, by decide, ?_⟩
      obtain ⟨Wv, hW⟩ : ∃ Wv : Nat → L2.St → Hp → Prop, ∀ i σ H', Wv i σ H' ↔ ∃ (v4 v5 v6 : Option V), σ = [some (V.ref a), some (V.ref d), some (V.ref D), some (V.ref D2), v4, v5, v6, none] ∧ Same H2 H' := ⟨_, fun _ _ _ => Iff.rfl⟩
      refine forJ_by (reg_range 0 6) Wv (fun _ _ _ _ => trivial) ?_ ?_ ?_
      · exact (hW _ _ _).mpr ⟨_, _, _, rfl, Same.refl _⟩
      · intro i k σ H3 hi h
        obtain ⟨v4, v5, v6, rfl, s3⟩ := (hW _ _ _).mp h
        have hlt := (range_at hi).2
        have hki := (range_at hi).1
        obtain ⟨t, ht⟩ : ∃ t, ts[k]? = some t := ⟨_, List.getElem?_eq_getElem (by omega)⟩
        have hsub := e2 t (List.mem_of_getElem? ht)
        have a1 : atI (ts.map fun s => V.str (tx s)) (0 + (k : Int)) = some (V.str (tx t)) := by rw [Int.zero_add]; exact atI_nat (by rw [List.getElem?_map, ht]; rfl)
        have a2 : atI (ts.map fun s => V.str (tx (wset s))) (0 + (k : Int)) = some (V.str (tx (wset t))) := by rw [Int.zero_add]; exact atI_nat (by rw [List.getElem?_map, ht]; rfl)
        walk_at "rd"
        have b4 : ∀ {B : Hp}, Same H3 B → SqL K B D (ts.map fun s => V.str (tx s)) := fun sb => .inl (.inl (sb _ _ (s3 _ _ e4')))
        have b5 : ∀ {B : Hp}, Same H3 B → SqL K B D2 (ts.map fun s => V.str (tx (wset s))) := fun sb => .inl (.inl (sb _ _ (s3 _ _ e5)))
        refine ⟨_, b4 (Same.refl _), _, a1, t, rfl, hsub, fun A1 s1 => ⟨_, b5 s1, _, a2, _, b4 s1, _, a1, t, rfl, hsub, fun A2 s2' => ⟨_, b4 (s1.trans s2'), _, a1, by decide, fun p hp => ⟨t, SqT.of upd_same, hsub, fun A3 s3' => ⟨by decide, fun p3 hp3 => ?_⟩⟩⟩⟩⟩
        have sA : Same H3 (upd A3 p3 (HO.lst [V.str (tx (wset t)), V.str (tx (wset t)), V.str (tx (wset t))])) := (((s1.trans s2').trans (same_upd hp)).trans s3').trans (same_upd hp3)
        have eA : (upd A3 p3 (HO.lst [V.str (tx (wset t)), V.str (tx (wset t)), V.str (tx (wset t))])) p3 = some (HO.lst [V.str (tx (wset t)), V.str (tx (wset t)), V.str (tx (wset t))]) := upd_same
        generalize (upd A3 p3 (HO.lst [V.str (tx (wset t)), V.str (tx (wset t)), V.str (tx (wset t))])) = A4 at sA eA ⊢
        refine ⟨⟨_, .inl (.inl eA)⟩, ?_⟩
        obtain ⟨Vv, hV⟩ : ∃ Vv : Nat → L2.St → Hp → Prop, ∀ i σ H', Vv i σ H' ↔ ∃ (v6 : Option V), σ = [some (V.ref a), some (V.ref d), some (V.ref D), some (V.ref D2), some (V.int (0 + (k : Int))), some (V.str (tx (wset t))), v6, none] ∧ Same A4 H' := ⟨_, fun _ _ _ => Iff.rfl⟩
        refine forJ_by (reg_list _ p3 [V.str (tx (wset t)), V.str (tx (wset t)), V.str (tx (wset t))]) Vv (fun i σ H' h => ?_) ?_ ?_ ?_
        · obtain ⟨_, _, sv⟩ := (hV _ _ _).mp h
          exact .inl (.inl (sv _ _ eA))
        · exact (hV _ _ _).mpr ⟨_, rfl, Same.refl _⟩
        · intro j y σ A5 hj h
          obtain ⟨v6, rfl, sv⟩ := (hV _ _ _).mp h
          have ey : y = V.str (tx (wset t)) := by
            have := List.mem_of_getElem? hj
            simpa using this
          subst ey
          walk_at "rd"
          refine isi_str_str ?_
          walk_at "rd"
          exact (hV _ _ _).mpr ⟨_, rfl, sv⟩
        · intro σ A5 h
          obtain ⟨v6, rfl, sv⟩ := (hV _ _ _).mp h
          exact (hW _ _ _).mpr ⟨_, _, _, rfl, (s3.trans sA).trans sv⟩
      · intro σ H3 h
        obtain ⟨v4, v5, v6, rfl, s3⟩ := (hW _ _ _).mp h
        walk_at "rd"
        exact q _
end
end My
namespace My
open PySem L2
theorem kit_self {K : PySem.W.Frag} {C : Addr} : PySem.W.kitOne K (.ref C) (.ref C) = some true := by
  unfold PySem.W.kitOne
  rw [if_pos (beq_self_eq_true _)]
theorem kit_not {K : PySem.W.Frag} {C : Addr} {T : String} (hm : PySem.W.mroIn K C (.type "object") = some true) (ty : PySem.W.typeIn K (.ref C) = some (.type "type")) (su : PySem.W.subIn K (.type T) (.ref C) = some false) : PySem.W.kitOne K (.type T) (.ref C) = some false := by
  have c1 : (PySem.W.clsIn K C).isSome = true := by
    unfold PySem.W.mroIn at hm
    cases h : PySem.W.clsIn K C with
    | none => rw [h] at hm; cases hm
    | some d => rfl
  have c2 : ((Value.type T) == (Value.ref C)) = false := by
    cases h : ((Value.type T) == (Value.ref C)) with
    | false => rfl
    | true => exact absurd (beq_iff_eq.mp h) (fun e => by cases e)
  unfold PySem.W.kitOne
  rw [if_neg (by rw [c2]; decide)]
  unfold PySem.W.kitCls
  dsimp only
  rw [if_pos (by rw [c1, ty]; simp)]
  exact su
theorem all_mk {l : PySem.W.OpenLaw} {w : World} {K : PySem.W.Frag} {h : Heap} {mg : Str → Option Value} {fa : Addr} (X : K.In h) (G : h.Ns mainGlobals mg) (hfa : mg "law" = some (.ref fa))
    {f_write_sign : Addr} {od_write_sign an_write_sign : Option Addr} {sl_write_sign : Array (Option Value)} {oc_write_sign kV_write_sign dc_write_sign pm_write_sign cd_write_sign ct_write_sign : Value} (a_write_sign : PySem.W.nsIn K mainGlobals "write_sign" = some (some (.ref f_write_sign))) (l_write_sign : K.lookup f_write_sign = some ⟨oc_write_sign, od_write_sign, .func (PySem.W.fnOf "write_sign" "write_sign" (defArgs s_write_sign) (defBody s_write_sign) (defScope s_write_sign) .none kV_write_sign dc_write_sign pm_write_sign an_write_sign cd_write_sign ct_write_sign), sl_write_sign⟩) (c_write_sign : PySem.W.codeIn K cd_write_sign "write_sign" = true) (k_write_sign : PySem.W.keepIn K (.ref f_write_sign) = true)
    {f_rank : Addr} {od_rank an_rank : Option Addr} {sl_rank : Array (Option Value)} {oc_rank kV_rank dc_rank pm_rank cd_rank ct_rank : Value} (a_rank : PySem.W.nsIn K mainGlobals "rank" = some (some (.ref f_rank))) (l_rank : K.lookup f_rank = some ⟨oc_rank, od_rank, .func (PySem.W.fnOf "rank" "rank" (defArgs s_rank) (defBody s_rank) (defScope s_rank) .none kV_rank dc_rank pm_rank an_rank cd_rank ct_rank), sl_rank⟩) (c_rank : PySem.W.codeIn K cd_rank "rank" = true) (k_rank : PySem.W.keepIn K (.ref f_rank) = true)
    {f_write_set : Addr} {od_write_set an_write_set : Option Addr} {sl_write_set : Array (Option Value)} {oc_write_set kV_write_set dc_write_set pm_write_set cd_write_set ct_write_set : Value} (a_write_set : PySem.W.nsIn K mainGlobals "write_set" = some (some (.ref f_write_set))) (l_write_set : K.lookup f_write_set = some ⟨oc_write_set, od_write_set, .func (PySem.W.fnOf "write_set" "write_set" (defArgs s_write_set) (defBody s_write_set) (defScope s_write_set) .none kV_write_set dc_write_set pm_write_set an_write_set cd_write_set ct_write_set), sl_write_set⟩) (c_write_set : PySem.W.codeIn K cd_write_set "write_set" = true) (k_write_set : PySem.W.keepIn K (.ref f_write_set) = true)
    {f_write_members : Addr} {od_write_members an_write_members : Option Addr} {sl_write_members : Array (Option Value)} {oc_write_members kV_write_members dc_write_members pm_write_members cd_write_members ct_write_members : Value} (a_write_members : PySem.W.nsIn K mainGlobals "write_members" = some (some (.ref f_write_members))) (l_write_members : K.lookup f_write_members = some ⟨oc_write_members, od_write_members, .func (PySem.W.fnOf "write_members" "write_members" (defArgs s_write_members) (defBody s_write_members) (defScope s_write_members) .none kV_write_members dc_write_members pm_write_members an_write_members cd_write_members ct_write_members), sl_write_members⟩) (c_write_members : PySem.W.codeIn K cd_write_members "write_members" = true) (k_write_members : PySem.W.keepIn K (.ref f_write_members) = true)
    {f_write_run : Addr} {od_write_run an_write_run : Option Addr} {sl_write_run : Array (Option Value)} {oc_write_run kV_write_run dc_write_run pm_write_run cd_write_run ct_write_run : Value} (a_write_run : PySem.W.nsIn K mainGlobals "write_run" = some (some (.ref f_write_run))) (l_write_run : K.lookup f_write_run = some ⟨oc_write_run, od_write_run, .func (PySem.W.fnOf "write_run" "write_run" (defArgs s_write_run) (defBody s_write_run) (defScope s_write_run) .none kV_write_run dc_write_run pm_write_run an_write_run cd_write_run ct_write_run), sl_write_run⟩) (c_write_run : PySem.W.codeIn K cd_write_run "write_run" = true) (k_write_run : PySem.W.keepIn K (.ref f_write_run) = true)
    {f_write_pattern : Addr} {od_write_pattern an_write_pattern : Option Addr} {sl_write_pattern : Array (Option Value)} {oc_write_pattern kV_write_pattern dc_write_pattern pm_write_pattern cd_write_pattern ct_write_pattern : Value} (a_write_pattern : PySem.W.nsIn K mainGlobals "write_pattern" = some (some (.ref f_write_pattern))) (l_write_pattern : K.lookup f_write_pattern = some ⟨oc_write_pattern, od_write_pattern, .func (PySem.W.fnOf "write_pattern" "write_pattern" (defArgs s_write_pattern) (defBody s_write_pattern) (defScope s_write_pattern) .none kV_write_pattern dc_write_pattern pm_write_pattern an_write_pattern cd_write_pattern ct_write_pattern), sl_write_pattern⟩) (c_write_pattern : PySem.W.codeIn K cd_write_pattern "write_pattern" = true) (k_write_pattern : PySem.W.keepIn K (.ref f_write_pattern) = true)
    {f_Ldraw : Addr} {od_Ldraw an_Ldraw : Option Addr} {sl_Ldraw : Array (Option Value)} {oc_Ldraw kV_Ldraw dc_Ldraw pm_Ldraw cd_Ldraw ct_Ldraw : Value} (a_Ldraw : PySem.W.nsIn K mainGlobals "_law_draw" = some (some (.ref f_Ldraw))) (l_Ldraw : K.lookup f_Ldraw = some ⟨oc_Ldraw, od_Ldraw, .func (PySem.W.fnOf "_law_draw" "_law_draw" (defArgs s_Ldraw) (defBody s_Ldraw) (defScope s_Ldraw) .none kV_Ldraw dc_Ldraw pm_Ldraw an_Ldraw cd_Ldraw ct_Ldraw), sl_Ldraw⟩) (c_Ldraw : PySem.W.codeIn K cd_Ldraw "_law_draw" = true) (k_Ldraw : PySem.W.keepIn K (.ref f_Ldraw) = true)
    {f_Lnext : Addr} {od_Lnext an_Lnext : Option Addr} {sl_Lnext : Array (Option Value)} {oc_Lnext kV_Lnext dc_Lnext pm_Lnext cd_Lnext ct_Lnext : Value} (a_Lnext : PySem.W.nsIn K mainGlobals "_law_next" = some (some (.ref f_Lnext))) (l_Lnext : K.lookup f_Lnext = some ⟨oc_Lnext, od_Lnext, .func (PySem.W.fnOf "_law_next" "_law_next" (defArgs s_Lnext) (defBody s_Lnext) (defScope s_Lnext) .none kV_Lnext dc_Lnext pm_Lnext an_Lnext cd_Lnext ct_Lnext), sl_Lnext⟩) (c_Lnext : PySem.W.codeIn K cd_Lnext "_law_next" = true) (k_Lnext : PySem.W.keepIn K (.ref f_Lnext) = true)
    {f_Lsigns : Addr} {od_Lsigns an_Lsigns : Option Addr} {sl_Lsigns : Array (Option Value)} {oc_Lsigns kV_Lsigns dc_Lsigns pm_Lsigns cd_Lsigns ct_Lsigns : Value} (a_Lsigns : PySem.W.nsIn K mainGlobals "_law_signs" = some (some (.ref f_Lsigns))) (l_Lsigns : K.lookup f_Lsigns = some ⟨oc_Lsigns, od_Lsigns, .func (PySem.W.fnOf "_law_signs" "_law_signs" (defArgs s_Lsigns) (defBody s_Lsigns) (defScope s_Lsigns) .none kV_Lsigns dc_Lsigns pm_Lsigns an_Lsigns cd_Lsigns ct_Lsigns), sl_Lsigns⟩) (c_Lsigns : PySem.W.codeIn K cd_Lsigns "_law_signs" = true) (k_Lsigns : PySem.W.keepIn K (.ref f_Lsigns) = true)
    {f_Lescaped : Addr} {od_Lescaped an_Lescaped : Option Addr} {sl_Lescaped : Array (Option Value)} {oc_Lescaped kV_Lescaped dc_Lescaped pm_Lescaped cd_Lescaped ct_Lescaped : Value} (a_Lescaped : PySem.W.nsIn K mainGlobals "_law_escaped" = some (some (.ref f_Lescaped))) (l_Lescaped : K.lookup f_Lescaped = some ⟨oc_Lescaped, od_Lescaped, .func (PySem.W.fnOf "_law_escaped" "_law_escaped" (defArgs s_Lescaped) (defBody s_Lescaped) (defScope s_Lescaped) .none kV_Lescaped dc_Lescaped pm_Lescaped an_Lescaped cd_Lescaped ct_Lescaped), sl_Lescaped⟩) (c_Lescaped : PySem.W.codeIn K cd_Lescaped "_law_escaped" = true) (k_Lescaped : PySem.W.keepIn K (.ref f_Lescaped) = true)
    {f_Linside : Addr} {od_Linside an_Linside : Option Addr} {sl_Linside : Array (Option Value)} {oc_Linside kV_Linside dc_Linside pm_Linside cd_Linside ct_Linside : Value} (a_Linside : PySem.W.nsIn K mainGlobals "_law_inside" = some (some (.ref f_Linside))) (l_Linside : K.lookup f_Linside = some ⟨oc_Linside, od_Linside, .func (PySem.W.fnOf "_law_inside" "_law_inside" (defArgs s_Linside) (defBody s_Linside) (defScope s_Linside) .none kV_Linside dc_Linside pm_Linside an_Linside cd_Linside ct_Linside), sl_Linside⟩) (c_Linside : PySem.W.codeIn K cd_Linside "_law_inside" = true) (k_Linside : PySem.W.keepIn K (.ref f_Linside) = true)
    {f_Lwritten_set : Addr} {od_Lwritten_set an_Lwritten_set : Option Addr} {sl_Lwritten_set : Array (Option Value)} {oc_Lwritten_set kV_Lwritten_set dc_Lwritten_set pm_Lwritten_set cd_Lwritten_set ct_Lwritten_set : Value} (a_Lwritten_set : PySem.W.nsIn K mainGlobals "_law_written_set" = some (some (.ref f_Lwritten_set))) (l_Lwritten_set : K.lookup f_Lwritten_set = some ⟨oc_Lwritten_set, od_Lwritten_set, .func (PySem.W.fnOf "_law_written_set" "_law_written_set" (defArgs s_Lwritten_set) (defBody s_Lwritten_set) (defScope s_Lwritten_set) .none kV_Lwritten_set dc_Lwritten_set pm_Lwritten_set an_Lwritten_set cd_Lwritten_set ct_Lwritten_set), sl_Lwritten_set⟩) (c_Lwritten_set : PySem.W.codeIn K cd_Lwritten_set "_law_written_set" = true) (k_Lwritten_set : PySem.W.keepIn K (.ref f_Lwritten_set) = true)
    {f_Ldrawn_set : Addr} {od_Ldrawn_set an_Ldrawn_set : Option Addr} {sl_Ldrawn_set : Array (Option Value)} {oc_Ldrawn_set kV_Ldrawn_set dc_Ldrawn_set pm_Ldrawn_set cd_Ldrawn_set ct_Ldrawn_set : Value} (a_Ldrawn_set : PySem.W.nsIn K mainGlobals "_law_drawn_set" = some (some (.ref f_Ldrawn_set))) (l_Ldrawn_set : K.lookup f_Ldrawn_set = some ⟨oc_Ldrawn_set, od_Ldrawn_set, .func (PySem.W.fnOf "_law_drawn_set" "_law_drawn_set" (defArgs s_Ldrawn_set) (defBody s_Ldrawn_set) (defScope s_Ldrawn_set) .none kV_Ldrawn_set dc_Ldrawn_set pm_Ldrawn_set an_Ldrawn_set cd_Ldrawn_set ct_Ldrawn_set), sl_Ldrawn_set⟩) (c_Ldrawn_set : PySem.W.codeIn K cd_Ldrawn_set "_law_drawn_set" = true) (k_Ldrawn_set : PySem.W.keepIn K (.ref f_Ldrawn_set) = true)
    {f_law : Addr} {od_law an_law : Option Addr} {sl_law : Array (Option Value)} {oc_law kV_law dc_law pm_law cd_law ct_law : Value} (a_law : PySem.W.nsIn K mainGlobals "law" = some (some (.ref f_law))) (l_law : K.lookup f_law = some ⟨oc_law, od_law, .func (PySem.W.fnOf "law" "law" (defArgs s_law) (defBody s_law) (defScope s_law) .none kV_law dc_law pm_law an_law cd_law ct_law), sl_law⟩) (c_law : PySem.W.codeIn K cd_law "law" = true) (k_law : PySem.W.keepIn K (.ref f_law) = true)
    {c_SignSet : Addr} (ac_SignSet : PySem.W.nsIn K mainGlobals "SignSet" = some (some (.ref c_SignSet))) (pg_SignSet : PySem.W.plainGet K c_SignSet Str.empty = true) (hd_SignSet : PySem.W.hasDictIn K c_SignSet = true) (po_SignSet : PySem.W.plainOver K c_SignSet = true) (sa_SignSet : PySem.W.findIn K (.ref c_SignSet) "__setattr__" = some (some (.builtin "object.__setattr__"))) (mk_SignSet : PySem.W.makesIn K c_SignSet = true) (kc_SignSet : PySem.W.keepIn K (.ref c_SignSet) = true) (sf_SignSet : PySem.W.selfFirst K c_SignSet = true)
    (ha_SignSet : PySem.W.findIn K (.ref c_SignSet) "__class__" = some (some (.builtin "object.__class__"))) (hn_SignSet : PySem.W.specialIn K (.builtin "object.__class__") "__get__" = some (some (.builtin "getset_descriptor.__get__"))) (ht_SignSet : PySem.W.takesIn K (.builtin "object.__class__") = some true) (hm_SignSet : PySem.W.mroIn K c_SignSet (.type "object") = some true)
    (rd_SignSet : PySem.W.readsIn K c_SignSet (.type "type") = true) (gt_SignSet : PySem.W.specialIn K (.ref c_SignSet) "__getattribute__" = some (some (.builtin "type.__getattribute__")))
    (na_SignSet_members : PySem.W.findIn K (.ref c_SignSet) "_members" = some none)
    {f_SignSet_Minit : Addr} {od_SignSet_Minit an_SignSet_Minit : Option Addr} {sl_SignSet_Minit : Array (Option Value)} {oc_SignSet_Minit kV_SignSet_Minit dc_SignSet_Minit pm_SignSet_Minit cd_SignSet_Minit ct_SignSet_Minit : Value}
    (a_SignSet_Minit : PySem.W.findIn K (.ref c_SignSet) "__init__" = some (some (.ref f_SignSet_Minit))) (i_SignSet_Minit : PySem.W.isFn K (.ref f_SignSet_Minit) = true)
    {T_SignSet_Minit : Addr} {oT_SignSet_Minit : Value} {dT_SignSet_Minit : Option Addr} {nT_SignSet_Minit : Nat} {sT_SignSet_Minit : Array (Option Value)} {u0_SignSet_Minit : Tok}
    (l_SignSet_Minit : K.lookup f_SignSet_Minit = some ⟨oc_SignSet_Minit, od_SignSet_Minit, .func (PySem.W.fnOf "__init__" "SignSet.__init__" (defArgs s_SignSet_Minit) (defBody s_SignSet_Minit) (defScope s_SignSet_Minit) (.ref T_SignSet_Minit) kV_SignSet_Minit dc_SignSet_Minit pm_SignSet_Minit an_SignSet_Minit cd_SignSet_Minit ct_SignSet_Minit), sl_SignSet_Minit⟩) (c_SignSet_Minit : PySem.W.codeIn K cd_SignSet_Minit "SignSet.__init__" = true) (k_SignSet_Minit : PySem.W.keepIn K (.ref f_SignSet_Minit) = true)
    (d_SignSet_Minit : K.lookup T_SignSet_Minit = some ⟨oT_SignSet_Minit, dT_SignSet_Minit, .seq #[.str "" u0_SignSet_Minit] nT_SignSet_Minit, sT_SignSet_Minit⟩)
    {f_SignSet_between : Addr} {od_SignSet_between an_SignSet_between : Option Addr} {sl_SignSet_between : Array (Option Value)} {oc_SignSet_between kV_SignSet_between dc_SignSet_between pm_SignSet_between cd_SignSet_between ct_SignSet_between : Value}
    {p_SignSet_between : Addr} {rs_SignSet_between : List Value} (a_SignSet_between : PySem.W.findCls K (.ref c_SignSet) (.type "type") "between" = some (.get (.builtin "staticmethod.__get__") (.ref p_SignSet_between) .none (.ref c_SignSet))) (r_SignSet_between : PySem.W.recIn K p_SignSet_between "staticmethod" = some (.ref f_SignSet_between :: rs_SignSet_between))
    (l_SignSet_between : K.lookup f_SignSet_between = some ⟨oc_SignSet_between, od_SignSet_between, .func (PySem.W.fnOf "between" "SignSet.between" (defArgs s_SignSet_between) (defBody s_SignSet_between) (defScope s_SignSet_between) .none kV_SignSet_between dc_SignSet_between pm_SignSet_between an_SignSet_between cd_SignSet_between ct_SignSet_between), sl_SignSet_between⟩) (c_SignSet_between : PySem.W.codeIn K cd_SignSet_between "SignSet.between" = true) (k_SignSet_between : PySem.W.keepIn K (.ref f_SignSet_between) = true)
    {f_SignSet_members : Addr} {od_SignSet_members an_SignSet_members : Option Addr} {sl_SignSet_members : Array (Option Value)} {oc_SignSet_members kV_SignSet_members dc_SignSet_members pm_SignSet_members cd_SignSet_members ct_SignSet_members : Value}
    {p_SignSet_members : Addr} {rs_SignSet_members : List Value} (a_SignSet_members : PySem.W.findIn K (.ref c_SignSet) "members" = some (some (.ref p_SignSet_members))) (g_SignSet_members : PySem.W.specialIn K (.ref p_SignSet_members) "__get__" = some (some (.builtin "property.__get__"))) (t_SignSet_members : PySem.W.takesIn K (.ref p_SignSet_members) = some true) (r_SignSet_members : PySem.W.recIn K p_SignSet_members "property" = some (.ref f_SignSet_members :: rs_SignSet_members))
    (l_SignSet_members : K.lookup f_SignSet_members = some ⟨oc_SignSet_members, od_SignSet_members, .func (PySem.W.fnOf "members" "SignSet.members" (defArgs s_SignSet_members) (defBody s_SignSet_members) (defScope s_SignSet_members) .none kV_SignSet_members dc_SignSet_members pm_SignSet_members an_SignSet_members cd_SignSet_members ct_SignSet_members), sl_SignSet_members⟩) (c_SignSet_members : PySem.W.codeIn K cd_SignSet_members "SignSet.members" = true) (k_SignSet_members : PySem.W.keepIn K (.ref f_SignSet_members) = true)
    {f_SignSet_ranges : Addr} {od_SignSet_ranges an_SignSet_ranges : Option Addr} {sl_SignSet_ranges : Array (Option Value)} {oc_SignSet_ranges kV_SignSet_ranges dc_SignSet_ranges pm_SignSet_ranges cd_SignSet_ranges ct_SignSet_ranges : Value}
    {p_SignSet_ranges : Addr} {rs_SignSet_ranges : List Value} (a_SignSet_ranges : PySem.W.findIn K (.ref c_SignSet) "ranges" = some (some (.ref p_SignSet_ranges))) (g_SignSet_ranges : PySem.W.specialIn K (.ref p_SignSet_ranges) "__get__" = some (some (.builtin "property.__get__"))) (t_SignSet_ranges : PySem.W.takesIn K (.ref p_SignSet_ranges) = some true) (r_SignSet_ranges : PySem.W.recIn K p_SignSet_ranges "property" = some (.ref f_SignSet_ranges :: rs_SignSet_ranges))
    (l_SignSet_ranges : K.lookup f_SignSet_ranges = some ⟨oc_SignSet_ranges, od_SignSet_ranges, .func (PySem.W.fnOf "ranges" "SignSet.ranges" (defArgs s_SignSet_ranges) (defBody s_SignSet_ranges) (defScope s_SignSet_ranges) .none kV_SignSet_ranges dc_SignSet_ranges pm_SignSet_ranges an_SignSet_ranges cd_SignSet_ranges ct_SignSet_ranges), sl_SignSet_ranges⟩) (c_SignSet_ranges : PySem.W.codeIn K cd_SignSet_ranges "SignSet.ranges" = true) (k_SignSet_ranges : PySem.W.keepIn K (.ref f_SignSet_ranges) = true)
    {f_SignSet_Minvert : Addr} {od_SignSet_Minvert an_SignSet_Minvert : Option Addr} {sl_SignSet_Minvert : Array (Option Value)} {oc_SignSet_Minvert kV_SignSet_Minvert dc_SignSet_Minvert pm_SignSet_Minvert cd_SignSet_Minvert ct_SignSet_Minvert : Value}
    (a_SignSet_Minvert : PySem.W.findIn K (.ref c_SignSet) "__invert__" = some (some (.ref f_SignSet_Minvert))) (i_SignSet_Minvert : PySem.W.isFn K (.ref f_SignSet_Minvert) = true)
    (l_SignSet_Minvert : K.lookup f_SignSet_Minvert = some ⟨oc_SignSet_Minvert, od_SignSet_Minvert, .func (PySem.W.fnOf "__invert__" "SignSet.__invert__" (defArgs s_SignSet_Minvert) (defBody s_SignSet_Minvert) (defScope s_SignSet_Minvert) .none kV_SignSet_Minvert dc_SignSet_Minvert pm_SignSet_Minvert an_SignSet_Minvert cd_SignSet_Minvert ct_SignSet_Minvert), sl_SignSet_Minvert⟩) (c_SignSet_Minvert : PySem.W.codeIn K cd_SignSet_Minvert "SignSet.__invert__" = true) (k_SignSet_Minvert : PySem.W.keepIn K (.ref f_SignSet_Minvert) = true)
    {f_SignSet_Mcontains : Addr} {od_SignSet_Mcontains an_SignSet_Mcontains : Option Addr} {sl_SignSet_Mcontains : Array (Option Value)} {oc_SignSet_Mcontains kV_SignSet_Mcontains dc_SignSet_Mcontains pm_SignSet_Mcontains cd_SignSet_Mcontains ct_SignSet_Mcontains : Value}
    (a_SignSet_Mcontains : PySem.W.findIn K (.ref c_SignSet) "__contains__" = some (some (.ref f_SignSet_Mcontains))) (i_SignSet_Mcontains : PySem.W.isFn K (.ref f_SignSet_Mcontains) = true)
    (l_SignSet_Mcontains : K.lookup f_SignSet_Mcontains = some ⟨oc_SignSet_Mcontains, od_SignSet_Mcontains, .func (PySem.W.fnOf "__contains__" "SignSet.__contains__" (defArgs s_SignSet_Mcontains) (defBody s_SignSet_Mcontains) (defScope s_SignSet_Mcontains) .none kV_SignSet_Mcontains dc_SignSet_Mcontains pm_SignSet_Mcontains an_SignSet_Mcontains cd_SignSet_Mcontains ct_SignSet_Mcontains), sl_SignSet_Mcontains⟩) (c_SignSet_Mcontains : PySem.W.codeIn K cd_SignSet_Mcontains "SignSet.__contains__" = true) (k_SignSet_Mcontains : PySem.W.keepIn K (.ref f_SignSet_Mcontains) = true)
    {f_SignSet_Mlen : Addr} {od_SignSet_Mlen an_SignSet_Mlen : Option Addr} {sl_SignSet_Mlen : Array (Option Value)} {oc_SignSet_Mlen kV_SignSet_Mlen dc_SignSet_Mlen pm_SignSet_Mlen cd_SignSet_Mlen ct_SignSet_Mlen : Value}
    (a_SignSet_Mlen : PySem.W.findIn K (.ref c_SignSet) "__len__" = some (some (.ref f_SignSet_Mlen))) (i_SignSet_Mlen : PySem.W.isFn K (.ref f_SignSet_Mlen) = true)
    (l_SignSet_Mlen : K.lookup f_SignSet_Mlen = some ⟨oc_SignSet_Mlen, od_SignSet_Mlen, .func (PySem.W.fnOf "__len__" "SignSet.__len__" (defArgs s_SignSet_Mlen) (defBody s_SignSet_Mlen) (defScope s_SignSet_Mlen) .none kV_SignSet_Mlen dc_SignSet_Mlen pm_SignSet_Mlen an_SignSet_Mlen cd_SignSet_Mlen ct_SignSet_Mlen), sl_SignSet_Mlen⟩) (c_SignSet_Mlen : PySem.W.codeIn K cd_SignSet_Mlen "SignSet.__len__" = true) (k_SignSet_Mlen : PySem.W.keepIn K (.ref f_SignSet_Mlen) = true)
    {t_SPECIAL_SIGNS : Tok} (v_SPECIAL_SIGNS : PySem.W.nsIn K mainGlobals "SPECIAL_SIGNS" = some (some (.str "\\|*+?<>()[]{}.~^" t_SPECIAL_SIGNS)))
    {t_BRACKET_SPECIALS : Tok} (v_BRACKET_SPECIALS : PySem.W.nsIn K mainGlobals "BRACKET_SPECIALS" = some (some (.str "\\[]^-" t_BRACKET_SPECIALS)))
    {d_ESCAPES : Addr} (v_ESCAPES : PySem.W.nsIn K mainGlobals "ESCAPES" = some (some (.ref d_ESCAPES))) {h1_ESCAPES h2_ESCAPES : Int} {t1_ESCAPES t2_ESCAPES u1_ESCAPES u2_ESCAPES : Tok} {n_ESCAPES : Nat} (l_ESCAPES : K.lookup d_ESCAPES = some ⟨.type "dict", none, .dict #[⟨h1_ESCAPES, .str "\n" t1_ESCAPES, .str "\\n" u1_ESCAPES⟩, ⟨h2_ESCAPES, .str "\t" t2_ESCAPES, .str "\\t" u2_ESCAPES⟩] n_ESCAPES, #[]⟩) (h1e_ESCAPES : h1_ESCAPES = PyData.keyHash w.params "\n") (h2e_ESCAPES : h2_ESCAPES = PyData.keyHash w.params "\t") (lo_ESCAPES : (d_ESCAPES == sysModules) = false)
    {t_SIGNS : Tok} (v_SIGNS : PySem.W.nsIn K mainGlobals "SIGNS" = some (some (.str "\t\n !\"#$&'()*+,-./0123456789:;<=>?@ABCDEFGHIJKLMNOPQRSTUVWXYZ[\\]^_`abcdefghijklmnopqrstuvwxyz{|}~" t_SIGNS)))
    {t_SHORTEST_RANGE : Tok} (v_SHORTEST_RANGE : PySem.W.nsIn K mainGlobals "SHORTEST_RANGE" = some (some (.int 3 t_SHORTEST_RANGE)))
    (z_int : PySem.W.nsIn K mainGlobals "int" = some none)
    (z_isinstance : PySem.W.nsIn K mainGlobals "isinstance" = some none)
    (z_len : PySem.W.nsIn K mainGlobals "len" = some none)
    (z_range : PySem.W.nsIn K mainGlobals "range" = some none)
    (z_set : PySem.W.nsIn K mainGlobals "set" = some none)
    (z_sorted : PySem.W.nsIn K mainGlobals "sorted" = some none)
    (z_str : PySem.W.nsIn K mainGlobals "str" = some none)
    : ∃ fd : FuncData, (∀ (s : Shared) (v : Value), BindsTo s fd ⟨[v], []⟩ [("_law_script", v)]) ∧ ∀ base : Heap, K.In base → base.Ns mainGlobals mg → FnOk l.prog w K mg base CX0 8 fa fd ["_law_script"] (sp_law K) := by
  have e := hfa.symm.trans (PySem.W.mg_of X G a_law)
  cases e
  have F_write_sign := fun_mk (st := s_write_sign) l_write_sign c_write_sign k_write_sign
  have B_write_sign := F_write_sign.binds (ps := ["sign", "specials"]) fun _ _ _ _ _ _ us hl => match us, hl with | [_, _], _ => rfl
  have F_rank := fun_mk (st := s_rank) l_rank c_rank k_rank
  have B_rank := F_rank.binds (ps := ["sign"]) fun _ _ _ _ _ _ us hl => match us, hl with | [_], _ => rfl
  have F_write_set := fun_mk (st := s_write_set) l_write_set c_write_set k_write_set
  have B_write_set := F_write_set.binds (ps := ["signs"]) fun _ _ _ _ _ _ us hl => match us, hl with | [_], _ => rfl
  have F_write_members := fun_mk (st := s_write_members) l_write_members c_write_members k_write_members
  have B_write_members := F_write_members.binds (ps := ["members"]) fun _ _ _ _ _ _ us hl => match us, hl with | [_], _ => rfl
  have F_write_run := fun_mk (st := s_write_run) l_write_run c_write_run k_write_run
  have B_write_run := F_write_run.binds (ps := ["first", "last"]) fun _ _ _ _ _ _ us hl => match us, hl with | [_, _], _ => rfl
  have F_write_pattern := fun_mk (st := s_write_pattern) l_write_pattern c_write_pattern k_write_pattern
  have B_write_pattern := F_write_pattern.binds (ps := ["tree"]) fun _ _ _ _ _ _ us hl => match us, hl with | [_], _ => rfl
  have F_Ldraw := fun_mk (st := s_Ldraw) l_Ldraw c_Ldraw k_Ldraw
  have B_Ldraw := F_Ldraw.binds (ps := ["_law_script"]) fun _ _ _ _ _ _ us hl => match us, hl with | [_], _ => rfl
  have F_Lnext := fun_mk (st := s_Lnext) l_Lnext c_Lnext k_Lnext
  have B_Lnext := F_Lnext.binds (ps := ["_law_draw_here", "_law_many"]) fun _ _ _ _ _ _ us hl => match us, hl with | [_, _], _ => rfl
  have F_Lsigns := fun_mk (st := s_Lsigns) l_Lsigns c_Lsigns k_Lsigns
  have B_Lsigns := F_Lsigns.binds (ps := []) fun _ _ _ _ _ _ us hl => match us, hl with | [], _ => rfl
  have F_Lescaped := fun_mk (st := s_Lescaped) l_Lescaped c_Lescaped k_Lescaped
  have B_Lescaped := F_Lescaped.binds (ps := ["_law_sign", "_law_marked"]) fun _ _ _ _ _ _ us hl => match us, hl with | [_, _], _ => rfl
  have F_Linside := fun_mk (st := s_Linside) l_Linside c_Linside k_Linside
  have B_Linside := F_Linside.binds (ps := ["_law_text"]) fun _ _ _ _ _ _ us hl => match us, hl with | [_], _ => rfl
  have F_Lwritten_set := fun_mk (st := s_Lwritten_set) l_Lwritten_set c_Lwritten_set k_Lwritten_set
  have B_Lwritten_set := F_Lwritten_set.binds (ps := ["_law_text"]) fun _ _ _ _ _ _ us hl => match us, hl with | [_], _ => rfl
  have F_Ldrawn_set := fun_mk (st := s_Ldrawn_set) l_Ldrawn_set c_Ldrawn_set k_Ldrawn_set
  have B_Ldrawn_set := F_Ldrawn_set.binds (ps := ["_law_draw_here"]) fun _ _ _ _ _ _ us hl => match us, hl with | [_], _ => rfl
  have F_law := fun_mk (st := s_law) l_law c_law k_law
  have B_law := F_law.binds (ps := ["_law_script"]) fun _ _ _ _ _ _ us hl => match us, hl with | [_], _ => rfl
  have F_SignSet_Minit : FunD K "__init__" "SignSet.__init__" (defArgs s_SignSet_Minit) (defBody s_SignSet_Minit) (defScope s_SignSet_Minit) [.str ""] [] f_SignSet_Minit _ := ⟨⟨_, _, _, _, _, _, _, _, _, _, rfl, l_SignSet_Minit, c_SignSet_Minit, .inr ⟨by decide, _, _, [.str "" u0_SignSet_Minit], _, rfl, d_SignSet_Minit, rfl, .cons ⟨_, rfl⟩ (.nil)⟩, .inl rfl⟩, k_SignSet_Minit⟩
  obtain ⟨ds_SignSet_Minit, vs_SignSet_Minit, B_SignSet_Minit⟩ := F_SignSet_Minit.binds1 (ps := ["self", "signs"]) 2 1 (by decide) (by decide) fun T kV doc pm an cdv ct us its h1 h2 => match us, h1, its, h2 with | [_, _], _, [_], _ => ⟨_, rfl, rfl⟩
  obtain rfl : ds_SignSet_Minit = [] := by cases vs_SignSet_Minit; rfl
  obtain ⟨dd_SignSet_Minit, dv_SignSet_Minit, BD_SignSet_Minit⟩ := F_SignSet_Minit.binds1 (ps := ["self", "signs"]) 1 0 (by decide) (by decide) fun T kV doc pm an cdv ct us its h1 h2 => match us, h1, its, h2 with | [_], _, [_], _ => ⟨_, rfl, rfl⟩
  have F_SignSet_between := fun_mk (st := s_SignSet_between) l_SignSet_between c_SignSet_between k_SignSet_between
  have B_SignSet_between := F_SignSet_between.binds (ps := ["first", "last"]) fun _ _ _ _ _ _ us hl => match us, hl with | [_, _], _ => rfl
  have F_SignSet_members := fun_mk (st := s_SignSet_members) l_SignSet_members c_SignSet_members k_SignSet_members
  have B_SignSet_members := F_SignSet_members.binds (ps := ["self"]) fun _ _ _ _ _ _ us hl => match us, hl with | [_], _ => rfl
  have F_SignSet_ranges := fun_mk (st := s_SignSet_ranges) l_SignSet_ranges c_SignSet_ranges k_SignSet_ranges
  have B_SignSet_ranges := F_SignSet_ranges.binds (ps := ["self"]) fun _ _ _ _ _ _ us hl => match us, hl with | [_], _ => rfl
  have F_SignSet_Minvert := fun_mk (st := s_SignSet_Minvert) l_SignSet_Minvert c_SignSet_Minvert k_SignSet_Minvert
  have B_SignSet_Minvert := F_SignSet_Minvert.binds (ps := ["self"]) fun _ _ _ _ _ _ us hl => match us, hl with | [_], _ => rfl
  have F_SignSet_Mcontains := fun_mk (st := s_SignSet_Mcontains) l_SignSet_Mcontains c_SignSet_Mcontains k_SignSet_Mcontains
  have B_SignSet_Mcontains := F_SignSet_Mcontains.binds (ps := ["self", "sign"]) fun _ _ _ _ _ _ us hl => match us, hl with | [_, _], _ => rfl
  have F_SignSet_Mlen := fun_mk (st := s_SignSet_Mlen) l_SignSet_Mlen c_SignSet_Mlen k_SignSet_Mlen
  have B_SignSet_Mlen := F_SignSet_Mlen.binds (ps := ["self"]) fun _ _ _ _ _ _ us hl => match us, hl with | [_], _ => rfl
  let T : Top K mg := ⟨w, _, _, F_write_sign, B_write_sign, PySem.W.mg_of X G a_write_sign, _, _, F_rank, B_rank, PySem.W.mg_of X G a_rank, _, _, F_write_set, B_write_set, PySem.W.mg_of X G a_write_set, _, _, F_write_members, B_write_members, PySem.W.mg_of X G a_write_members, _, _, F_write_run, B_write_run, PySem.W.mg_of X G a_write_run, _, _, F_write_pattern, B_write_pattern, PySem.W.mg_of X G a_write_pattern, _, _, F_Ldraw, B_Ldraw, PySem.W.mg_of X G a_Ldraw, _, _, F_Lnext, B_Lnext, PySem.W.mg_of X G a_Lnext, _, _, F_Lsigns, B_Lsigns, PySem.W.mg_of X G a_Lsigns, _, _, F_Lescaped, B_Lescaped, PySem.W.mg_of X G a_Lescaped, _, _, F_Linside, B_Linside, PySem.W.mg_of X G a_Linside, _, _, F_Lwritten_set, B_Lwritten_set, PySem.W.mg_of X G a_Lwritten_set, _, _, F_Ldrawn_set, B_Ldrawn_set, PySem.W.mg_of X G a_Ldrawn_set, _, _, F_law, B_law, PySem.W.mg_of X G a_law, _, PySem.W.mg_of X G ac_SignSet, ⟨⟨pg_SignSet, hd_SignSet, po_SignSet, sa_SignSet⟩, ha_SignSet, hn_SignSet, ht_SignSet, hm_SignSet, kit_self⟩, sf_SignSet, na_SignSet_members, ⟨rd_SignSet, gt_SignSet⟩, _, _, F_SignSet_Minit, B_SignSet_Minit, dd_SignSet_Minit, dv_SignSet_Minit, BD_SignSet_Minit, ⟨mk_SignSet, a_SignSet_Minit, i_SignSet_Minit, kc_SignSet⟩, _, _, F_SignSet_between, B_SignSet_between, _, ⟨a_SignSet_between, ⟨_, r_SignSet_between⟩, k_SignSet_between, rfl⟩, _, _, F_SignSet_members, B_SignSet_members, _, ⟨a_SignSet_members, g_SignSet_members, t_SignSet_members, ⟨_, r_SignSet_members⟩⟩, _, _, F_SignSet_ranges, B_SignSet_ranges, _, ⟨a_SignSet_ranges, g_SignSet_ranges, t_SignSet_ranges, ⟨_, r_SignSet_ranges⟩⟩, _, _, F_SignSet_Minvert, B_SignSet_Minvert, a_SignSet_Minvert, i_SignSet_Minvert, _, _, F_SignSet_Mcontains, B_SignSet_Mcontains, a_SignSet_Mcontains, i_SignSet_Mcontains, _, _, F_SignSet_Mlen, B_SignSet_Mlen, a_SignSet_Mlen, i_SignSet_Mlen, _, PySem.W.mg_of X G v_SPECIAL_SIGNS, _, PySem.W.mg_of X G v_BRACKET_SPECIALS, _, PySem.W.mg_of X G v_ESCAPES, kt_two l_ESCAPES h1e_ESCAPES h2e_ESCAPES lo_ESCAPES, _, PySem.W.mg_of X G v_SIGNS, _, PySem.W.mg_of X G v_SHORTEST_RANGE, PySem.W.mg_none_of X G z_int, PySem.W.mg_none_of X G z_isinstance, PySem.W.mg_none_of X G z_len, PySem.W.mg_none_of X G z_range, PySem.W.mg_none_of X G z_set, PySem.W.mg_none_of X G z_sorted, PySem.W.mg_none_of X G z_str⟩
  exact ⟨PySem.W.fnOf "law" "law" (defArgs s_law) (defBody s_law) (defScope s_law) .none kV_law dc_law pm_law an_law cd_law ct_law, fun s v => .of_eq rfl, fun base _ _ => ok_law T⟩
end My
open PySem PySem.W PyProof.Rows in
set_option maxRecDepth 100000 in
set_option maxHeartbeats 0 in
theorem PySem.Challenge.cw_surespan_k09_written_set_holds : PySem.Challenge.rw_surespan_k09_written_set.Holds := by
  w_on; o_law; k_head; (case hw => w_witness2)
  k_fill
  refine L2.walk_of (l := PySem.Challenge.rw_surespan_k09_written_set) (n := 63) (k := 8) (x := "_law_script") (CX := fun _ => L2.CX0) (sp := fun w => My.sp_law _) rfl (by decide) rfl ⟨rfl, by decide, by decide⟩ (fun w h Y => PySem.W.kIn_of Y) ?F (fun _ _ a ns hl _ hS => ⟨a, ns, rfl, hS, hl, fun _ => rfl⟩) (fun _ _ _ _ _ h => h)
  case F =>
    intro w mg fa h KX G hmg
    refine' My.all_mk KX G hmg ?a_write_sign ?l_write_sign ?c_write_sign ?k_write_sign ?a_rank ?l_rank ?c_rank ?k_rank ?a_write_set ?l_write_set ?c_write_set ?k_write_set ?a_write_members ?l_write_members ?c_write_members ?k_write_members ?a_write_run ?l_write_run ?c_write_run ?k_write_run ?a_write_pattern ?l_write_pattern ?c_write_pattern ?k_write_pattern ?a_Ldraw ?l_Ldraw ?c_Ldraw ?k_Ldraw ?a_Lnext ?l_Lnext ?c_Lnext ?k_Lnext ?a_Lsigns ?l_Lsigns ?c_Lsigns ?k_Lsigns ?a_Lescaped ?l_Lescaped ?c_Lescaped ?k_Lescaped ?a_Linside ?l_Linside ?c_Linside ?k_Linside ?a_Lwritten_set ?l_Lwritten_set ?c_Lwritten_set ?k_Lwritten_set ?a_Ldrawn_set ?l_Ldrawn_set ?c_Ldrawn_set ?k_Ldrawn_set ?a_law ?l_law ?c_law ?k_law ?ac_SignSet ?pg_SignSet ?hd_SignSet ?po_SignSet ?sa_SignSet ?mk_SignSet ?kc_SignSet ?sf_SignSet ?ha_SignSet ?hn_SignSet ?ht_SignSet ?hm_SignSet ?rd_SignSet ?gt_SignSet ?na_SignSet_members ?a_SignSet_Minit ?i_SignSet_Minit ?l_SignSet_Minit ?c_SignSet_Minit ?k_SignSet_Minit ?d_SignSet_Minit ?a_SignSet_between ?r_SignSet_between ?l_SignSet_between ?c_SignSet_between ?k_SignSet_between ?a_SignSet_members ?g_SignSet_members ?t_SignSet_members ?r_SignSet_members ?l_SignSet_members ?c_SignSet_members ?k_SignSet_members ?a_SignSet_ranges ?g_SignSet_ranges ?t_SignSet_ranges ?r_SignSet_ranges ?l_SignSet_ranges ?c_SignSet_ranges ?k_SignSet_ranges ?a_SignSet_Minvert ?i_SignSet_Minvert ?l_SignSet_Minvert ?c_SignSet_Minvert ?k_SignSet_Minvert ?a_SignSet_Mcontains ?i_SignSet_Mcontains ?l_SignSet_Mcontains ?c_SignSet_Mcontains ?k_SignSet_Mcontains ?a_SignSet_Mlen ?i_SignSet_Mlen ?l_SignSet_Mlen ?c_SignSet_Mlen ?k_SignSet_Mlen ?v_SPECIAL_SIGNS ?v_BRACKET_SPECIALS ?v_ESCAPES ?l_ESCAPES ?h1e_ESCAPES ?h2e_ESCAPES ?lo_ESCAPES ?v_SIGNS ?v_SHORTEST_RANGE ?z_int ?z_isinstance ?z_len ?z_range ?z_set ?z_sorted ?z_str
    (case a_write_sign => k_is)
    (case l_write_sign => k_is)
    (case c_write_sign => k_is)
    (case k_write_sign => k_is)
    (case a_rank => k_is)
    (case l_rank => k_is)
    (case c_rank => k_is)
    (case k_rank => k_is)
    (case a_write_set => k_is)
    (case l_write_set => k_is)
    (case c_write_set => k_is)
    (case k_write_set => k_is)
    (case a_write_members => k_is)
    (case l_write_members => k_is)
    (case c_write_members => k_is)
    (case k_write_members => k_is)
    (case a_write_run => k_is)
    (case l_write_run => k_is)
    (case c_write_run => k_is)
    (case k_write_run => k_is)
    (case a_write_pattern => k_is)
    (case l_write_pattern => k_is)
    (case c_write_pattern => k_is)
    (case k_write_pattern => k_is)
    (case a_Ldraw => k_is)
    (case l_Ldraw => k_is)
    (case c_Ldraw => k_is)
    (case k_Ldraw => k_is)
    (case a_Lnext => k_is)
    (case l_Lnext => k_is)
    (case c_Lnext => k_is)
    (case k_Lnext => k_is)
    (case a_Lsigns => k_is)
    (case l_Lsigns => k_is)
    (case c_Lsigns => k_is)
    (case k_Lsigns => k_is)
    (case a_Lescaped => k_is)
    (case l_Lescaped => k_is)
    (case c_Lescaped => k_is)
    (case k_Lescaped => k_is)
    (case a_Linside => k_is)
    (case l_Linside => k_is)
    (case c_Linside => k_is)
    (case k_Linside => k_is)
    (case a_Lwritten_set => k_is)
    (case l_Lwritten_set => k_is)
    (case c_Lwritten_set => k_is)
    (case k_Lwritten_set => k_is)
    (case a_Ldrawn_set => k_is)
    (case l_Ldrawn_set => k_is)
    (case c_Ldrawn_set => k_is)
    (case k_Ldrawn_set => k_is)
    (case a_law => k_is)
    (case l_law => k_is)
    (case c_law => k_is)
    (case k_law => k_is)
    (case ac_SignSet => k_is)
    (case pg_SignSet => k_is)
    (case hd_SignSet => k_is)
    (case po_SignSet => k_is)
    (case sa_SignSet => k_is)
    (case mk_SignSet => k_is)
    (case kc_SignSet => k_is)
    (case sf_SignSet => k_is)
    (case ha_SignSet => k_is)
    (case hn_SignSet => k_is)
    (case ht_SignSet => k_is)
    (case hm_SignSet => k_is)
    (case rd_SignSet => k_is)
    (case gt_SignSet => k_is)
    (case na_SignSet_members => k_is)
    (case a_SignSet_Minit => k_is)
    (case i_SignSet_Minit => k_is)
    (case l_SignSet_Minit => k_is)
    (case c_SignSet_Minit => k_is)
    (case k_SignSet_Minit => k_is)
    (case d_SignSet_Minit => k_is)
    (case a_SignSet_between => k_is)
    (case r_SignSet_between => k_is)
    (case l_SignSet_between => k_is)
    (case c_SignSet_between => k_is)
    (case k_SignSet_between => k_is)
    (case a_SignSet_members => k_is)
    (case g_SignSet_members => k_is)
    (case t_SignSet_members => k_is)
    (case r_SignSet_members => k_is)
    (case l_SignSet_members => k_is)
    (case c_SignSet_members => k_is)
    (case k_SignSet_members => k_is)
    (case a_SignSet_ranges => k_is)
    (case g_SignSet_ranges => k_is)
    (case t_SignSet_ranges => k_is)
    (case r_SignSet_ranges => k_is)
    (case l_SignSet_ranges => k_is)
    (case c_SignSet_ranges => k_is)
    (case k_SignSet_ranges => k_is)
    (case a_SignSet_Minvert => k_is)
    (case i_SignSet_Minvert => k_is)
    (case l_SignSet_Minvert => k_is)
    (case c_SignSet_Minvert => k_is)
    (case k_SignSet_Minvert => k_is)
    (case a_SignSet_Mcontains => k_is)
    (case i_SignSet_Mcontains => k_is)
    (case l_SignSet_Mcontains => k_is)
    (case c_SignSet_Mcontains => k_is)
    (case k_SignSet_Mcontains => k_is)
    (case a_SignSet_Mlen => k_is)
    (case i_SignSet_Mlen => k_is)
    (case l_SignSet_Mlen => k_is)
    (case c_SignSet_Mlen => k_is)
    (case k_SignSet_Mlen => k_is)
    (case v_SPECIAL_SIGNS => k_is)
    (case v_BRACKET_SPECIALS => k_is)
    (case v_ESCAPES => k_is)
    (case l_ESCAPES => k_is)
    (case h1e_ESCAPES => rfl)
    (case h2e_ESCAPES => rfl)
    (case lo_ESCAPES => rfl)
    (case v_SIGNS => k_is)
    (case v_SHORTEST_RANGE => k_is)
    (case z_int => k_is)
    (case z_isinstance => k_is)
    (case z_len => k_is)
    (case z_range => k_is)
    (case z_set => k_is)
    (case z_sorted => k_is)
    (case z_str => k_is)
