import PyProof.Rows.All
import Wide.All
import OpenK.AllK
import Wide.FinOn
import HandS.ForMost
import HandS.Wide
import HandS.StrMore
import HandS.IsInst
import HandS.Style
import HandS.EndBits
import HandS.Codes
import KE.LtData
import HandS.Replace
import PySem.Challenge.RW_surespan_k03_text_order
set_option Elab.async false
set_option linter.all false
set_option maxRecDepth 100000
namespace My
open PySem L2
/-! ### normal forms of readings -/
theorem ex_some {α : Type} {a : α} {p : α → Prop} : (∃ v, (some (some a) : Option (Option α)) = some (some v) ∧ p v) ↔ p a :=
  ⟨fun ⟨_, e, h⟩ => by cases e; exact h, fun h => ⟨a, rfl, h⟩⟩
theorem ex_int {a : Int} {p : Int → Prop} : (∃ v, V.int a = V.int v ∧ p v) ↔ p a :=
  ⟨fun ⟨_, e, h⟩ => by cases e; exact h, fun h => ⟨a, rfl, h⟩⟩
/-- all that is tracked but at d stands -/
def But (d : Addr) (H H' : Hp) : Prop := ∀ b o, b ≠ d → H b = some o → H' b = some o
theorem But.refl (d : Addr) (H : Hp) : But d H H := fun _ _ _ h => h
theorem But.trans {d : Addr} {H H1 H2 : Hp} (a : But d H H1) (b : But d H1 H2) : But d H H2 := fun c o n h => b c o n (a c o n h)
theorem But.of {d : Addr} {H H' : Hp} (a : Same H H') : But d H H' := fun c o _ h => a c o h
theorem same_upd {H : Hp} {p : Addr} {o : HO} (h : H p = none) : Same H (upd H p o) := fun b x e => by
  rw [upd_ne (ne_of_none e h)]; exact e
theorem But.put {d : Addr} {H : Hp} {o : HO} : But d H (upd H d o) := fun c u n h => by rw [upd_ne n]; exact h
theorem But.new {d : Addr} {H H1 : Hp} {p : Addr} {o : HO} (a : But d H H1) (h : H1 p = none) : But d H (upd H1 p o) := a.trans (.of (same_upd h))
/-- the draw list at d, its digits at l -/
def Drw (H : Hp) (d l : Addr) : Prop := ∃ (a b c : Int) (ds : List Int), d ≠ l ∧ H d = some (.lst [.int a, .int b, .int c, .ref l, .int 3]) ∧ H l = some (.lst (ds.map V.int)) ∧ 0 ≤ a
theorem Drw.same {H H' : Hp} {d l : Addr} (h : Drw H d l) (s : Same H H') : Drw H' d l := by
  obtain ⟨a, b, c, ds, n, h1, h2, h3⟩ := h
  exact ⟨a, b, c, ds, n, s _ _ h1, s _ _ h2, h3⟩
theorem Drw.new {H : Hp} {d l p : Addr} {o : HO} (h : Drw H d l) (n : H p = none) : Drw (upd H p o) d l := h.same (same_upd n)
theorem Drw.ne {H : Hp} {d l p : Addr} (h : Drw H d l) (n : H p = none) : p ≠ d := by
  obtain ⟨a, b, c, ds, n', h1, h2, h3⟩ := h
  exact fun q => by rw [q, h1] at n; cases n
theorem Drw.nel {H : Hp} {d l p : Addr} (h : Drw H d l) (n : H p = none) : p ≠ l := by
  obtain ⟨a, b, c, ds, n', h1, h2, h3⟩ := h
  exact fun q => by rw [q, h2] at n; cases n
/-- another object than the draw's is written -/
theorem Drw.put {H : Hp} {d l p : Addr} {o : HO} (h : Drw H d l) (n1 : p ≠ d) (n2 : p ≠ l) : Drw (upd H p o) d l := by
  obtain ⟨a, b, c, ds, n', h1, h2, h3⟩ := h
  exact ⟨a, b, c, ds, n', (upd_ne n1.symm).trans h1, (upd_ne n2.symm).trans h2, h3⟩
/-! ### texts by their signs -/
def tx (cs : List Nat) : Str := ⟨cs.toArray⟩
theorem tx_cps (cs : List Nat) : (tx cs).cps.toList = cs := rfl
theorem tx_len (cs : List Nat) : (tx cs).length = cs.length := by simp [tx, Str.length]
theorem tx_of (s : Str) : tx s.cps.toList = s := by cases s; simp [tx]
theorem tx_eq {a b : List Nat} : (tx a = tx b) = (a = b) := by
  apply propext
  constructor
  · intro h
    have := congrArg (fun s : Str => s.cps.toList) h
    simpa [tx] using this
  · intro h; rw [h]
theorem sg_tx (c : Nat) : (⟨#[c]⟩ : Str) = tx [c] := rfl
theorem tx_app (a b : List Nat) : tx a ++ tx b = tx (a ++ b) := by
  show (⟨(tx a).cps ++ (tx b).cps⟩ : Str) = tx (a ++ b)
  simp [tx]
theorem tx_cut (cs : List Nat) (lo hi : Option Int) : cutS (tx cs) lo hi = tx ((cs.drop (HT.sIx cs.length 0 lo)).take (HT.sIx cs.length cs.length hi - HT.sIx cs.length 0 lo)) := by
  unfold cutS
  rw [tx_len, tx_cps]
  rfl
theorem join_tx (ps : List (List Nat)) : Txt.join (tx []) (ps.map tx) = tx ps.flatten := by
  rw [TL.join_eq]
  have h : ∀ ps : List (List Nat), Str.join (tx []) (ps.map tx) = tx ps.flatten := by
    intro ps
    induction ps with
    | nil => rfl
    | cons p r ih =>
      cases r with
      | nil => simp [Str.join]
      | cons q r =>
        show tx p ++ tx [] ++ Str.join (tx []) ((q :: r).map tx) = _
        rw [ih, tx_app, tx_app]
        simp
  exact h ps
theorem join_signs (cs : List Nat) : Txt.join (tx []) (cs.map fun c => tx [c]) = tx cs := by
  have h := join_tx (cs.map fun c => [c])
  rw [List.map_map] at h
  have e : (cs.map fun c => [c]).flatten = cs := by
    clear h
    induction cs with
    | nil => rfl
    | cons c r ih => rw [List.map_cons, List.flatten_cons, ih]; rfl
  rw [e] at h
  exact h
/-- a statement and the rest, with a word between -/
abbrev tCut (t u : TS) : TS := C8.tCut t u
theorem pss_cut {X : Cx} {st : Stmt} {rest : List Stmt} {t u : TS} (h1 : PS X st t) (h2 : PSs X rest u) : PSs X (st :: rest) (tCut t u) := C8.pss_cut h1 h2
/-! ### loops and comprehensions -/
def ForJ (J : It) (g : TG) (tb : TS) (D : Ends) (σ : St) (H1 : Hp) : Prop := ∃ W : Nat → Nat → St → Hp → Prop, (∃ m, W 0 m σ H1) ∧ ∀ i m σ H, W i m σ H →
  (J.stop i H ∧ D.nx σ H) ∨ (J.go i H ∧ ∃ N : St → Hp → Prop, (∀ σ' H', N σ' H' → ∃ m', m' < m ∧ W (i + 1) m' σ' H') ∧ ∀ x H', J.yld i H x H' → g x σ H' fun σ2 H2 => tb { D with nx := N, ct := N, bk := D.nx } σ2 H2)
theorem tFor_eq (wi : TI) (g : TG) (tb : TS) (D : Ends) (σ : St) (H : Hp) : tFor wi g tb D σ H = wi σ H fun J H1 => ForJ J g tb D σ H1 := rfl
def LcJ (J : It) (g : TG) (tt : TT) (te : TE) (vs : List Nat) (σ : St) (H1 : Hp) (Q : VK) : Prop := ∀ D, H1 D = none → ∃ W : Nat → Nat → Hp → Prop, (∃ m, W 0 m (upd H1 D (.lst []))) ∧ ∀ i m H, W i m H →
  (J.stop i H ∧ Q (.ref D) H) ∨ (J.go i H ∧ ∃ Nx : Hp → Prop, (∀ H', Nx H' → ∃ m', m' < m ∧ W (i + 1) m' H') ∧ ∀ x H', J.yld i H x H' → g x (wipe σ vs) H' fun σ2 H2 => wipe σ2 vs = wipe σ vs ∧ tt σ2 H2 fun b H3 =>
    if b = true then te σ2 H3 fun y H4 => ∃ acc, H4 D = some (.lst acc) ∧ acc.length < sizeLine ∧ Nx (upd H4 D (.lst (acc ++ [y]))) else Nx H3)
theorem tLc_eq (wi : TI) (g : TG) (tt : TT) (te : TE) (vs : List Nat) (σ : St) (H : Hp) (Q : VK) : tLc wi g tt te vs σ H Q = wi σ H fun J H1 => LcJ J g tt te vs σ H1 Q := rfl
/-- an iterator that goes through a fixed list -/
structure Reg {α : Type} (J : It) (its : List α) (item : α → V) (G : Hp → Prop) : Prop where
  go : ∀ i H, i < its.length → G H → J.go i H
  stop : ∀ i H, its.length ≤ i → G H → J.stop i H
  yld : ∀ i a H x H', its[i]? = some a → G H → J.yld i H x H' → H' = H ∧ x = item a
theorem reg_text (cs : List Nat) : Reg (Its (tx cs)) cs (fun c => .str (tx [c])) (fun _ => True) := by
  have hs : (tx cs).cps.size = cs.length := by simp [tx]
  refine ⟨fun i H h _ => ?_, fun i H h _ => ?_, fun i a H x H' h _ hy => ?_⟩
  · show i < (tx cs).cps.size; rw [hs]; exact h
  · show (tx cs).cps.size ≤ i; rw [hs]; exact h
  · obtain ⟨rfl, c, hc, rfl⟩ := hy
    refine ⟨rfl, ?_⟩
    have : (tx cs).cps[i]? = cs[i]? := by simp [tx]
    rw [this, h] at hc
    cases hc
    rfl
theorem reg_range (lo : Int) (n : Nat) : Reg (Itr lo n) (List.range n) (fun i => .int (lo + (i : Nat))) (fun _ => True) := by
  refine ⟨fun i H h _ => ?_, fun i H h _ => ?_, fun i a H x H' h _ hy => ?_⟩
  · rw [List.length_range] at h; exact h
  · rw [List.length_range] at h; exact h
  · obtain ⟨rfl, rfl⟩ := hy
    refine ⟨rfl, ?_⟩
    have : i < n := by
      have := (List.getElem?_eq_some_iff.mp h).1
      rw [List.length_range] at this; exact this
    rw [List.getElem?_range this] at h
    cases h
    rfl
theorem reg_list (K : PySem.W.Frag) (a : Addr) (xs : List V) : Reg (Itl K a) xs id (fun H => SqL K H a xs) := by
  refine ⟨fun i H h hq => ⟨xs, xs[i], hq, by simp [h]⟩, fun i H h hq => ⟨xs, hq, h⟩, fun i v H x H' h hq hy => ?_⟩
  obtain ⟨rfl, f⟩ := hy
  have := f xs hq
  rw [h] at this
  cases this
  exact ⟨rfl, rfl⟩
theorem forJ_by {α : Type} {J : It} {its : List α} {item : α → V} {G : Hp → Prop} (R : Reg J its item G) {g : TG} {tb : TS} {D : Ends} {σ : St} {H : Hp} (Pv : Nat → St → Hp → Prop) (hG : ∀ i σ H, Pv i σ H → G H) (h0 : Pv 0 σ H)
    (hs : ∀ i a σ H, its[i]? = some a → Pv i σ H → g (item a) σ H fun σ2 H2 => tb { D with nx := Pv (i + 1), ct := Pv (i + 1), bk := D.nx } σ2 H2) (hd : ∀ σ H, Pv its.length σ H → D.nx σ H) : ForJ J g tb D σ H := by
  refine ⟨fun i m σ H => m = its.length - i ∧ i ≤ its.length ∧ Pv i σ H, ⟨its.length, by simp, Nat.zero_le _, h0⟩, ?_⟩
  rintro i m σ H ⟨rfl, hi, p⟩
  by_cases hlt : i < its.length
  · refine .inr ⟨R.go i H hlt (hG _ _ _ p), Pv (i + 1), fun σ' H' p' => ⟨its.length - (i + 1), by omega, rfl, hlt, p'⟩, fun x H' y => ?_⟩
    obtain ⟨rfl, rfl⟩ := R.yld i its[i] H x H' (List.getElem?_eq_getElem hlt) (hG _ _ _ p) y
    exact hs i _ σ _ (List.getElem?_eq_getElem hlt) p
  · have e : i = its.length := by omega
    subst e
    exact .inl ⟨R.stop _ H (Nat.le_refl _) (hG _ _ _ p), hd σ H p⟩
theorem lcJ_by {α : Type} {J : It} {its : List α} {item : α → V} {G : Hp → Prop} (R : Reg J its item G) {k : Nat} {tt : TT} {te : TE} {σ : St} {H1 : Hp} {Q : VK} (Pv : Addr → Nat → Hp → Prop) (hG : ∀ D i H, H1 D = none → Pv D i H → G H) (h0 : ∀ D, H1 D = none → Pv D 0 (upd H1 D (.lst [])))
    (hs : ∀ D i a H, H1 D = none → its[i]? = some a → Pv D i H → tt ((σ.set k none).set k (some (item a))) H fun b H3 =>
      if b = true then te ((σ.set k none).set k (some (item a))) H3 fun y H4 => ∃ acc, H4 D = some (.lst acc) ∧ acc.length < sizeLine ∧ Pv D (i + 1) (upd H4 D (.lst (acc ++ [y]))) else Pv D (i + 1) H3)
    (hd : ∀ D H, H1 D = none → Pv D its.length H → Q (.ref D) H) : LcJ J (gName k) tt te [k] σ H1 Q := by
  intro D hD
  refine ⟨fun i m H => m = its.length - i ∧ i ≤ its.length ∧ Pv D i H, ⟨its.length, by simp, Nat.zero_le _, h0 D hD⟩, ?_⟩
  rintro i m H ⟨rfl, hi, p⟩
  by_cases hlt : i < its.length
  · refine .inr ⟨R.go i H hlt (hG _ _ _ hD p), Pv D (i + 1), fun H' p' => ⟨its.length - (i + 1), by omega, rfl, hlt, p'⟩, fun x H' y => ?_⟩
    obtain ⟨rfl, rfl⟩ := R.yld i its[i] H x H' (List.getElem?_eq_getElem hlt) (hG _ _ _ hD p) y
    refine ⟨?_, hs D i _ _ hD (List.getElem?_eq_getElem hlt) p⟩
    show ((σ.set k none).set k _).set k none = σ.set k none
    rw [List.set_set, List.set_set]
  · have e : i = its.length := by omega
    subst e
    exact .inl ⟨R.stop _ H (Nat.le_refl _) (hG _ _ _ hD p), hd D H hD p⟩
/-- a comprehension that reads and makes values alone -/
theorem lcJ_pure {α : Type} {J : It} {its : List α} {item : α → V} {G : Hp → Prop} (R : Reg J its item G) {k : Nat} {tt : TT} {te : TE} {σ : St} {H1 : Hp} {Q : VK} (p : α → Bool) (f : α → V) (hn : its.length ≤ sizeLine)
    (hG : ∀ D acc, H1 D = none → G (upd H1 D (.lst acc)))
    (hT : ∀ a D acc Q, a ∈ its → H1 D = none → Q (p a) (upd H1 D (.lst acc)) → tt ((σ.set k none).set k (some (item a))) (upd H1 D (.lst acc)) Q)
    (hE : ∀ a D acc Q, a ∈ its → p a = true → H1 D = none → Q (f a) (upd H1 D (.lst acc)) → te ((σ.set k none).set k (some (item a))) (upd H1 D (.lst acc)) Q)
    (h : ∀ D, H1 D = none → Q (.ref D) (upd H1 D (.lst ((its.filter p).map f)))) : LcJ J (gName k) tt te [k] σ H1 Q := by
  refine lcJ_by R (fun D i H => H = upd H1 D (.lst (((its.take i).filter p).map f))) ?_ ?_ ?_ ?_
  · rintro D i H hD rfl; exact hG D _ hD
  · intro D hD; simp
  · rintro D i a H hD hi rfl
    have hlt : i < its.length := (List.getElem?_eq_some_iff.mp hi).1
    have hm : a ∈ its := List.mem_of_getElem? hi
    have ht : its.take (i + 1) = its.take i ++ [a] := by rw [List.take_add_one, hi]; rfl
    refine hT a D _ _ hm hD ?_
    by_cases hp : p a = true
    · rw [hp, if_pos rfl]
      refine hE a D _ _ hm hp hD ⟨_, upd_same, ?_, ?_⟩
      · rw [List.length_map]
        refine Nat.lt_of_le_of_lt (List.length_filter_le _ _) ?_
        rw [List.length_take]
        omega
      · rw [upd_upd, ht, List.filter_append, List.map_append]
        simp [hp]
    · rw [if_neg hp, ht, List.filter_append]
      simp [hp]
  · rintro D H hD rfl
    rw [List.take_length]
    exact h D hD
theorem sq_upd {K : PySem.W.Frag} {H : Hp} {D : Addr} {xs : List V} : SqL K (upd H D (.lst xs)) D xs := .inl (.inl upd_same)
end My
namespace My
open PySem L2
/-! ### one sign in a text -/
/-- the first place of a sign -/
def fi (c : Nat) : List Nat → Nat
  | [] => 0
  | a :: r => if a = c then 0 else fi c r + 1
theorem fi_lt {c : Nat} : ∀ {cs : List Nat}, c ∈ cs → fi c cs < cs.length
  | [], h => by cases h
  | a :: r, h => by
    unfold fi
    by_cases e : a = c
    · rw [if_pos e]; simp
    · rw [if_neg e]
      have : c ∈ r := by
        rcases List.mem_cons.mp h with q | q
        · exact absurd q.symm e
        · exact q
      have := fi_lt this
      simp; exact this
theorem fi_get {c : Nat} : ∀ {cs : List Nat}, c ∈ cs → cs[fi c cs]? = some c
  | [], h => by cases h
  | a :: r, h => by
    unfold fi
    by_cases e : a = c
    · rw [if_pos e, e]; rfl
    · rw [if_neg e]
      have : c ∈ r := by
        rcases List.mem_cons.mp h with q | q
        · exact absurd q.symm e
        · exact q
      rw [List.getElem?_cons_succ]
      exact fi_get this
theorem fi_before {c : Nat} : ∀ {cs : List Nat} {i : Nat}, i < fi c cs → cs[i]? ≠ some c
  | [], i, h => by simp [fi] at h
  | a :: r, i, h => by
    unfold fi at h
    by_cases e : a = c
    · rw [if_pos e] at h; omega
    · rw [if_neg e] at h
      cases i with
      | zero => simpa using e
      | succ i => rw [List.getElem?_cons_succ]; exact fi_before (by omega)
theorem occ_full (s sub : Str) (hi : Nat) : ∀ (l : List Nat) (st : Array Nat × Nat), st.fst.size = 1 → (forIn l st (StrLaws.occBody s sub hi 1)).run.fst = st.fst
  | [], st, h => rfl
  | a :: l, st, h => by
    rw [List.forIn_cons]
    unfold StrLaws.occBody
    have hn : ¬ (((st.fst.size < 1 ∧ st.snd ≤ a) ∧ a + sub.length ≤ hi) ∧ Builtin.Str.subAt s sub a = true) := fun q => by omega
    rw [if_neg hn]
    exact occ_full s sub hi l _ h
theorem occ_first (cs : List Nat) (c : Nat) : ∀ (m a free : Nat), free ≤ a → (∀ i, a ≤ i → i < a + m → cs[i]? ≠ some c) ∧ (forIn (List.range' a m) ((#[] : Array Nat), free) (StrLaws.occBody (tx cs) (tx [c]) (tx cs).length 1)).run.fst = #[] ∨
    ∃ k, a ≤ k ∧ k < a + m ∧ cs[k]? = some c ∧ (∀ i, a ≤ i → i < k → cs[i]? ≠ some c) ∧ (forIn (List.range' a m) ((#[] : Array Nat), free) (StrLaws.occBody (tx cs) (tx [c]) (tx cs).length 1)).run.fst = #[k]
  | 0, a, free, hf => .inl ⟨fun i h1 h2 => by omega, rfl⟩
  | m + 1, a, free, hf => by
    have one := StrLaws.subAt_one (tx cs) c a
    rw [List.range'_succ, List.forIn_cons]
    unfold StrLaws.occBody
    by_cases hc : cs[a]? = some c
    · have q := one.mpr hc
      have c1 : ((((#[] : Array Nat), free).fst.size < 1 ∧ ((#[] : Array Nat), free).snd ≤ a) ∧ a + (tx [c]).length ≤ (tx cs).length) ∧ Builtin.Str.subAt (tx cs) (tx [c]) a = true := ⟨⟨⟨by simp, hf⟩, q.1⟩, q.2⟩
      rw [if_pos c1]
      refine .inr ⟨a, Nat.le_refl _, by omega, hc, fun i h1 h2 => by omega, ?_⟩
      exact occ_full _ _ _ _ _ rfl
    · have c2 : ¬ (((((#[] : Array Nat), free).fst.size < 1 ∧ ((#[] : Array Nat), free).snd ≤ a) ∧ a + (tx [c]).length ≤ (tx cs).length) ∧ Builtin.Str.subAt (tx cs) (tx [c]) a = true) := fun h => hc (one.mp ⟨h.1.2, h.2⟩)
      rw [if_neg c2]
      rcases occ_first cs c m (a + 1) free (by omega) with ⟨h1, h2⟩ | ⟨k, k1, k2, k3, k4, k5⟩
      · refine .inl ⟨fun i i1 i2 => ?_, h2⟩
        by_cases e : i = a
        · rw [e]; exact hc
        · exact h1 i (by omega) (by omega)
      · refine .inr ⟨k, by omega, by omega, k3, fun i i1 i2 => ?_, k5⟩
        by_cases e : i = a
        · rw [e]; exact hc
        · exact k4 i (by omega) i2
theorem occ_sign (cs : List Nat) (c : Nat) : Builtin.Str.occurrences (tx cs) (tx [c]) 0 (tx cs).length 1 = if c ∈ cs then [fi c cs] else [] := by
  rw [StrLaws.occ_eq]
  have hl : (tx cs).length = cs.length := tx_len cs
  rcases occ_first cs c ((tx cs).length + 1 - 0) 0 0 (Nat.le_refl _) with ⟨h1, h2⟩ | ⟨k, k1, k2, k3, k4, k5⟩
  · rw [h2]
    have hn : c ∉ cs := fun hm => by
      have := fi_lt hm
      exact h1 (fi c cs) (Nat.zero_le _) (by omega) (fi_get hm)
    rw [if_neg hn]
  · rw [k5]
    have hm : c ∈ cs := List.mem_of_getElem? k3
    rw [if_pos hm]
    have e : k = fi c cs := by
      rcases Nat.lt_trichotomy k (fi c cs) with q | q | q
      · exact absurd k3 (fi_before q)
      · exact q
      · exact absurd (fi_get hm) (k4 _ (Nat.zero_le _) q)
    rw [e]
theorem find_sign (cs : List Nat) (c : Nat) : Txt.find (tx cs) (tx [c]) = if c ∈ cs then (fi c cs : Int) else -1 := by
  unfold Txt.find
  rw [occ_sign]
  by_cases h : c ∈ cs
  · rw [if_pos h, if_pos h]
  · rw [if_neg h, if_neg h]
/-! ### rstrip by one sign -/
def rs (c : Nat) (cs : List Nat) : List Nat := (cs.reverse.dropWhile (fun a => a == c)).reverse
theorem rs_take (c : Nat) (cs : List Nat) : cs.take (cs.length - (cs.reverse.takeWhile (fun a => a == c)).length) = rs c cs := by
  unfold rs
  have h : cs.reverse.takeWhile (fun a => a == c) ++ cs.reverse.dropWhile (fun a => a == c) = cs.reverse := List.takeWhile_append_dropWhile
  have h2 : cs = (cs.reverse.dropWhile (fun a => a == c)).reverse ++ (cs.reverse.takeWhile (fun a => a == c)).reverse := by
    rw [← List.reverse_append, h, List.reverse_reverse]
  have hl : cs.length = ((cs.reverse.dropWhile (fun a => a == c)).reverse).length + (cs.reverse.takeWhile (fun a => a == c)).length := by
    have := congrArg List.length h2
    rw [List.length_append, List.length_reverse (as := List.takeWhile _ _)] at this
    exact this
  have e : cs.length - (cs.reverse.takeWhile (fun a => a == c)).length = ((cs.reverse.dropWhile (fun a => a == c)).reverse).length := by omega
  rw [e]
  generalize (cs.reverse.dropWhile (fun a => a == c)).reverse = A at h2 ⊢
  generalize (cs.reverse.takeWhile (fun a => a == c)).reverse = B at h2
  rw [h2, List.take_left]
theorem rstrip_sign (cs : List Nat) (c : Nat) : Txt.rstripChars (tx cs) (tx [c]) = tx (rs c cs) := by
  unfold Txt.rstripChars
  rw [PyProof.Rows.stripBy_eq]
  refine TL.ext_tl ?_
  rw [TL.tl_strSub]
  show List.take ((tx cs).length - (((tx cs).cps.toList.drop 0).reverse.takeWhile (tx [c]).cps.contains).length - 0) (List.drop 0 (tx cs).cps.toList) = rs c cs
  rw [Nat.sub_zero, List.drop_zero]
  have hg : (tx [c]).cps.contains = fun a => a == c := by
    funext a
    show (#[c] : Array Nat).contains a = (a == c)
    simp [Array.contains, BEq.comm]
  rw [hg, tx_cps, tx_len]
  exact rs_take c cs
end My
namespace My
open PySem PySem.Spec PyProof.Rows L2
section
variable {X : Cx}
/-- a short text times an int -/
def rMulS : R2 := fun x y H Q => ∃ (cs : List Nat) (n : Nat), x = .str (tx cs) ∧ y = .int (n : Int) ∧ n ≤ 1000000 ∧ cs.length ≤ 16 ∧ Q (.str (tx (List.replicate n cs).flatten)) H
theorem rep_fold (cs : List Nat) (n : Nat) (a : Array Nat) : ((List.replicate n cs.toArray).foldl (· ++ ·) a) = a ++ (List.replicate n cs).flatten.toArray := by
  induction n generalizing a with
  | zero => simp
  | succ n ih =>
    rw [List.replicate_succ, List.foldl_cons, ih, List.replicate_succ, List.flatten_cons]
    simp [Array.append_assoc]
theorem line_of {n : Nat} (h : n ≤ 16777216) : n ≤ sizeLine := Nat.le_trans h (by decide)
theorem op_mul_str : OpR X (binaryOp .Mult) rMulS := by
  intro pins s σ H x y v u Q I rx ry h
  obtain ⟨cs, n, rfl, rfl, h0, hz, q⟩ := h
  obtain ⟨t, rfl⟩ := rx
  obtain ⟨t', rfl⟩ := ry
  have hL : (tx cs).length = cs.length := tx_len cs
  have hp : cs.length * n ≤ 16000000 := Nat.mul_le_mul hz h0
  have hp2 : (cs.length : Int) * (n : Int) ≤ 16000000 := by
    rw [← Int.natCast_mul]
    exact Int.ofNat_le.mpr hp
  refine PySem.P.mul_str ?_ ?_ ?_ ?_
  · rw [decide_eq_false (by omega), decide_eq_false (by omega)]; rfl
  · intro hn _ hb
    have h3 : ((cs.length : Nat) : Int) ≤ (2 ^ 63 - 1) / (n : Int) := by
      refine (Int.le_ediv_iff_mul_le (by omega)).mpr ?_
      omega
    rw [hL] at hb
    omega
  · intro _ _
    show decide (_ > sizeLine) = false
    rw [hL, Int.toNat_natCast]
    exact decide_eq_false (Nat.not_lt.mpr (line_of (by omega)))
  · by_cases hn : (n : Int) < 1
    · rw [if_pos hn]
      have e0 : n = 0 := by omega
      subst e0
      have e : tx (List.replicate 0 cs).flatten = Str.empty := rfl
      rw [e] at q
      exact ⟨line_of (by decide), ⟨.str Str.empty, H, I.tok _, ⟨_, rfl⟩, q⟩⟩
    · rw [if_neg hn]
      by_cases h2 : ((n : Int) == 1 || (tx cs).length == 0) = true
      · rw [if_pos h2]
        have e : tx (List.replicate n cs).flatten = tx cs := by
          rw [tx_eq]
          rcases Bool.or_eq_true _ _ ▸ h2 with q1 | q1
          · have : n = 1 := by
              have := eq_of_beq q1
              omega
            subst this
            simp
          · have : cs = [] := by
              have q2 := eq_of_beq q1
              rw [hL] at q2
              exact List.length_eq_zero_iff.mp q2
            subst this
            simp
        rw [e] at q
        exact ⟨.str (tx cs), H, I, ⟨_, rfl⟩, q⟩
      · rw [if_neg h2]
        have e : (⟨(List.replicate (n : Int).toNat (tx cs).cps).foldl (· ++ ·) #[]⟩ : Str) = tx (List.replicate n cs).flatten := by
          show (⟨(List.replicate (n : Int).toNat cs.toArray).foldl (· ++ ·) #[]⟩ : Str) = _
          rw [rep_fold, Int.toNat_natCast]
          simp [tx]
        rw [e]
        have hlen : (tx (List.replicate n cs).flatten).length ≤ sizeLine := by
          rw [tx_len]
          refine line_of ?_
          simp
          rw [Nat.mul_comm]
          omega
        exact ⟨hlen, ⟨.str (tx (List.replicate n cs).flatten), H, I.tok _, ⟨_, rfl⟩, q⟩⟩
/-- < of data at any depth, alike -/
def rLtD (K : PySem.W.Frag) : R2 := fun x y H Q => ∃ d e, Dp K H x d ∧ Dp K H y e ∧ PySem.W.alike d e = true ∧ d ≠ .none ∧ min d.depth e.depth ≤ 60 ∧ Q (.bl (PySem.W.dataLt d e)) H
theorem op_ltD (hu : X.A.units + 64 < cLine) : OpR X (compareOp .Lt) (rLtD X.K) := by
  intro pins s σ H x y v u Q I rx ry h
  obtain ⟨d, e, hd, he, al, hn, hdp, q⟩ := h
  obtain ⟨as, r1⟩ := Dp.reads I d x v hd rx
  obtain ⟨bs, r2⟩ := Dp.reads I e y u he ry
  exact PySem.W.rcLt_alike d e X.A s v u as bs r1 r2 al hn (by omega) _ _ _ _ ⟨.bl (PySem.W.dataLt d e), H, I, rfl, q⟩
/-- text[::-1] -/
def tRevS (te : TE) : TE := fun σ H Q => te σ H fun x H1 => ∃ cs : List Nat, x = .str (tx cs) ∧ cs.length ≤ sizeLine ∧ Q (.str (tx cs.reverse)) H1
theorem rev_pick (cs : List Nat) : ((Builtin.Str.strSliceIndices none none (-1) cs.length).filterMap (cs.toArray[·]?)) = cs.reverse := by
  have e : Builtin.Str.strSliceIndices none none (-1) cs.length = (List.range cs.length).map fun k => cs.length - 1 - k := by
    show sliceRange ((cs.length : Int) - 1) (-1) (-1) = _
    exact PySem.W.krv_sliceRange cs.length
  rw [e]
  apply List.ext_getElem?
  intro i
  rw [List.filterMap_map]
  have h2 : (List.range cs.length).filterMap (((fun x => cs.toArray[x]?) ∘ fun k => cs.length - 1 - k)) = (List.range cs.length).map (fun k => cs.getD (cs.length - 1 - k) 0) := by
    have h3 : ∀ l : List Nat, (∀ k ∈ l, k < cs.length) → l.filterMap (((fun x => cs.toArray[x]?) ∘ fun k => cs.length - 1 - k)) = l.map (fun k => cs.getD (cs.length - 1 - k) 0) := by
      intro l
      induction l with
      | nil => intro _; rfl
      | cons k r ih =>
        intro hk
        have hlt : cs.length - 1 - k < cs.length := by
          have := hk k (List.mem_cons_self ..)
          omega
        have e1 : (((fun x => cs.toArray[x]?) ∘ fun k => cs.length - 1 - k)) k = some (cs.getD (cs.length - 1 - k) 0) := by
          show cs.toArray[cs.length - 1 - k]? = _
          simp [List.getD, hlt]
        rw [List.filterMap_cons_some e1, List.map_cons, ih fun j hj => hk j (List.mem_cons_of_mem _ hj)]
    exact h3 _ fun k hk => List.mem_range.mp hk
  rw [h2, List.getElem?_map]
  by_cases hi : i < cs.length
  · rw [List.getElem?_range hi, List.getElem?_reverse hi]
    have hlt : cs.length - 1 - i < cs.length := by omega
    simp [List.getD, hlt]
  · rw [List.getElem?_eq_none (by simp; omega), List.getElem?_eq_none (by simp; omega)]
    rfl
theorem pe_revS {e : Expr} {te : TE} {k : Nat} {p1 p2 p3 pos : Pos} (he : PE X e te) : PE X (.Subscript e (.Slice none none (some (.UnaryOp .USub (.Constant (.int 1) k p1) p2)) p3) pos) (tRevS te) := by
  refine ⟨fun pins s σ H Q I h => ?_⟩
  refine Subscript_ (thn (he.run pins s σ H _ I h) fun v s1 ⟨x, H1, I1, r1, q1⟩ => ?_)
  obtain ⟨cs, ex, hx, q⟩ := q1
  subst ex
  obtain ⟨t, rfl⟩ := r1
  have hst : PO X (some (.UnaryOp .USub (.Constant (.int 1) k p1) p2)) (tPart (tUn (rU fun i => .int (-i)) (tC (.int 1)))) := po_some (pe_un un_neg pe_int)
  refine wpAny_Slice (thn (po_none.run pins s1 σ H1 (fun o H2 => o = none ∧ H2 = H1) I1 ⟨rfl, rfl⟩) fun vl s2 ⟨l, H2, I2, pl, el, e2⟩ => ?_)
  subst el e2
  refine thn (po_none.run pins s2 σ H2 (fun o H3 => o = none ∧ H3 = H2) I2 ⟨rfl, rfl⟩) fun vu s3 ⟨u, H3, I3, pu, eu, e3⟩ => ?_
  subst eu e3
  refine thn (hst.run pins s3 σ H3 (fun o H4 => o = some (-1) ∧ H4 = H3) I3 ⟨1, rfl, -1, rfl, rfl, rfl⟩) fun vs s4 ⟨o, H4, I4, ps, eo, e4⟩ => ?_
  subst eo e4
  have I5 : Inv X pins σ H4 { s4 with heap := s4.heap.push { cls := .type "slice", data := .fields #[vl, vu, vs] } } := I4.kept (t' := s4.toks) fun b ob q => Heap.get?_push_of_some _ q
  obtain ⟨l', rfl, hl⟩ := IsPart.raw pl
  obtain ⟨u', rfl, hu⟩ := IsPart.raw pu
  obtain ⟨st', rfl, hst'⟩ := IsPart.raw ps
  show wpAny (model X.prog X.w) X.A (subscriptTail e (.Slice none none (some (.UnaryOp .USub (.Constant (.int 1) k p1) p2)) p3) (.str (tx cs) t) (.ref s4.heap.objs.size)) (EP X pins σ Q) X.xe { s4 with heap := s4.heap.push { cls := .type "slice", data := .fields #[partValue l', partValue u', partValue st'] } }
  refine tail_any (T := "str") (ops := [.str (tx cs) t, .ref s4.heap.objs.size]) (typeIs_str _ _ _) (PySem.F.slot_str_getitem.lookup) ?_ (by with_unfolding_all rfl)
  refine wpAny_getItem_str_slice (l := l') (u := u') (st := st') ⟨_, Heap.get?_push_size _ rfl, rfl, rfl⟩ (by rw [hst']; rfl) ?_
  unfold sliceMade
  rw [hst']
  rw [if_neg (by simp)]
  have e9 : slicePicked (tx cs) l' u' st' = Builtin.Str.strSliceIndices none none (-1) cs.length := by
    unfold slicePicked
    rw [hl, hu, hst', tx_len]
    rfl
  rw [e9]
  have e10 : (⟨((Builtin.Str.strSliceIndices none none (-1) cs.length).filterMap ((tx cs).cps[·]?)).toArray⟩ : Str) = tx cs.reverse := by
    show (⟨((Builtin.Str.strSliceIndices none none (-1) cs.length).filterMap (cs.toArray[·]?)).toArray⟩ : Str) = _
    rw [rev_pick]
    rfl
  rw [e10]
  refine ⟨by rw [tx_len, List.length_reverse]; exact hx, ⟨.str (tx cs.reverse), H4, I5.tok _, ⟨_, rfl⟩, q⟩⟩
/-- text.index(sign), a sign that stands there -/
theorem mt_indexS : MtR X "str.index" (fun x xs H Q => ∃ (cs : List Nat) (c : Nat), x = .str (tx cs) ∧ xs = [.str (tx [c])] ∧ c ∈ cs ∧ Q (.int (fi c cs : Nat)) H) := by
  intro pins s σ H x xs v us Q I rx rs h
  obtain ⟨cs, c, rfl, rfl, hm, q⟩ := h
  refine mt_sindex pins s σ H _ _ v us Q I rx rs ⟨tx cs, tx [c], fi c cs, [], rfl, rfl, ?_, q⟩
  rw [occ_sign, if_pos hm]
end
end My
namespace My
open PySem L2
/-! ### text order -/
def prec (a b : List Nat) : Bool := decide (a.length < b.length) || (decide (a.length = b.length) && decide (a < b))
theorem lt_pair (i j : Int) (x y : Str) : PySem.W.dataLt (.tuple [.int i, .str x]) (.tuple [.int j, .str y]) = (decide (i < j) || (decide (i = j) && decide (x.cps.toList < y.cps.toList))) := by
  rw [PySem.W.dataLt_tuple]
  by_cases e : i = j
  · subst e
    have h1 : PyData.eqv (.int i) (.int i) = true := by simp [PyData.eqv]
    rw [PySem.W.dataLt_all_yes (by simp [PySem.W.alike]) h1]
    have n1 : decide (i < i) = false := decide_eq_false (by omega)
    rw [n1, Bool.false_or, decide_eq_true rfl, Bool.true_and]
    by_cases e2 : x = y
    · subst e2
      have h2 : PyData.eqv (.str x) (.str x) = true := by simp [PyData.eqv]
      rw [PySem.W.dataLt_all_yes (by simp [PySem.W.alike]) h2, decide_eq_false (List.lt_irrefl _)]
      exact PyProof.Rows.lex_irrefl _
    · have h2 : PyData.eqv (.str x) (.str y) = false := by simp [PyData.eqv, e2]
      rw [PySem.W.dataLt_all_no (by simp [PySem.W.alike]) h2, PySem.W.dataLt_str]
  · have h1 : PyData.eqv (.int i) (.int j) = false := by simp [PyData.eqv, e]
    rw [PySem.W.dataLt_all_no (by simp [PySem.W.alike]) h1, PySem.W.dataLt_int, decide_eq_false e, Bool.false_and, Bool.or_false]
theorem atI_neg1 {α : Type} {s : List α} (h : s ≠ []) : atI s (-1) = some (s.getLast h) := by
  have := atI_last s.dropLast (s.getLast h)
  rw [List.dropLast_concat_getLast h] at this
  exact this
theorem atI_zero {α : Type} {s : List α} {c : α} {r : List α} (h : s = c :: r) : atI s 0 = some c := by
  subst h
  exact atI_nat (j := 0) rfl
theorem sIx_neg1 (n d : Nat) : HT.sIx n d (some (-1)) = n - 1 := by
  show (if (-1 : Int) < 0 then ((-1 : Int) + (n : Int)).toNat else min (-1 : Int).toNat n) = n - 1
  rw [if_pos (by decide)]
  omega
theorem cut_last (cs : List Nat) : cutS (tx cs) none (some (-1)) = tx cs.dropLast := by
  rw [tx_cut, sIx_neg1, HT.sIx_none, List.drop_zero, Nat.sub_zero, List.dropLast_eq_take]
theorem cut_to (cs : List Nat) (k : Nat) : cutS (tx cs) none (some (k : Int)) = tx (cs.take k) := by
  rw [tx_cut, HT.sIx_nat, HT.sIx_none, List.drop_zero, Nat.sub_zero]
  by_cases h : k ≤ cs.length
  · rw [Nat.min_eq_left h]
  · rw [Nat.min_eq_right (by omega), List.take_of_length_le (by omega), List.take_of_length_le (by omega)]
theorem cut_from (cs : List Nat) (k : Nat) : cutS (tx cs) (some (k : Int)) none = tx (cs.drop k) := by
  rw [tx_cut, HT.sIx_nat, HT.sIx_none]
  by_cases h : k ≤ cs.length
  · rw [Nat.min_eq_left h, List.take_of_length_le (by simp)]
  · rw [Nat.min_eq_right (by omega), List.drop_of_length_le (by omega), List.drop_of_length_le (by omega)]
    simp
theorem cut_mid (cs : List Nat) (i j : Nat) : cutS (tx cs) (some (i : Int)) (some (j : Int)) = tx ((cs.drop i).take (j - i)) := by
  rw [tx_cut, HT.sIx_nat, HT.sIx_nat, tx_eq]
  apply List.ext_getElem?
  intro k
  by_cases hi : i ≤ cs.length
  · rw [Nat.min_eq_left hi, List.getElem?_take, List.getElem?_take]
    by_cases hj : j ≤ cs.length
    · rw [Nat.min_eq_left hj]
    · rw [Nat.min_eq_right (by omega)]
      by_cases h1 : k < cs.length - i
      · rw [if_pos h1, if_pos (by omega)]
      · rw [if_neg h1]
        by_cases h2 : k < j - i
        · rw [if_pos h2, List.getElem?_eq_none (by simp; omega)]
        · rw [if_neg h2]
  · have e1 : cs.drop i = [] := List.drop_of_length_le (by omega)
    have e2 : cs.drop (min i cs.length) = [] := List.drop_of_length_le (by omega)
    rw [e1, e2]
    simp
theorem c_empty : Str.ofString "" = tx [] := by decide +kernel
theorem flat_rep (k c : Nat) : (List.replicate k [c]).flatten = List.replicate k c := by
  induction k with
  | zero => rfl
  | succ k ih => rw [List.replicate_succ, List.flatten_cons, ih, List.replicate_succ]; rfl
theorem cut_to_lit (cs : List Nat) (n : Nat) : cutS (tx cs) none (some (@OfNat.ofNat Int n instOfNat)) = tx (cs.take n) := cut_to cs n
theorem cut_from_lit (cs : List Nat) (n : Nat) : cutS (tx cs) (some (@OfNat.ofNat Int n instOfNat)) none = tx (cs.drop n) := cut_from cs n
/-! ### the following text -/
def nxt (t s : List Nat) : List Nat :=
  let kept := rs (s.getLastD 0) t
  let tail := List.replicate (t.length - kept.length) (s.headD 0)
  if kept = [] then s.headD 0 :: tail else kept.dropLast ++ [s.getD (fi (kept.getLastD 0) s + 1) 0] ++ tail
theorem rs_le (c : Nat) (t : List Nat) : (rs c t).length ≤ t.length := by
  rw [← rs_take, List.length_take]
  omega
theorem rs_sub {c a : Nat} {t : List Nat} (h : a ∈ rs c t) : a ∈ t := by
  rw [← rs_take] at h
  exact List.mem_of_mem_take h
theorem rs_last {c : Nat} {t : List Nat} (h : rs c t ≠ []) : (rs c t).getLast h ≠ c := by
  unfold rs at h ⊢
  rw [List.getLast_reverse]
  have h2 : t.reverse.dropWhile (fun a => a == c) ≠ [] := fun q => h (by rw [q]; rfl)
  have := List.head_dropWhile_not (fun a => a == c) h2
  intro q
  rw [q] at this
  simp at this
theorem fi_next {c : Nat} {s : List Nat} (hm : c ∈ s) (hs : s ≠ []) (hl : c ≠ s.getLast hs) : fi c s + 1 < s.length := by
  have h1 := fi_lt hm
  have h2 := fi_get hm
  rcases Nat.lt_or_ge (fi c s + 1) s.length with h | h
  · exact h
  · have e : fi c s = s.length - 1 := by omega
    rw [e] at h2
    have : s.getLast hs = c := by
      rw [List.getLast_eq_getElem]
      rw [List.getElem?_eq_getElem (by omega)] at h2
      exact Option.some.inj h2
    exact absurd this.symm hl
end My
namespace My
open PySem L2
/-! ### the 96 signs -/
def SG : List Nat := [9, 10, 32, 33, 34, 35, 36, 38, 39, 40, 41, 42, 43, 44, 45, 46, 47, 48, 49, 50, 51, 52, 53, 54, 55, 56, 57, 58, 59, 60, 61, 62, 63, 64, 65, 66, 67, 68, 69, 70, 71, 72, 73, 74, 75, 76, 77, 78, 79, 80, 81, 82, 83, 84, 85, 86, 87, 88, 89, 90, 91, 92, 93, 94, 95, 96, 97, 98, 99, 100, 101, 102, 103, 104, 105, 106, 107, 108, 109, 110, 111, 112, 113, 114, 115, 116, 117, 118, 119, 120, 121, 122, 123, 124, 125, 126]
theorem SG_len : SG.length = 96 := by decide +kernel
theorem SG_asc : SG.Pairwise (· < ·) := by decide +kernel
theorem sgs_tx : (("\t\n !\"#$&'()*+,-./0123456789:;<=>?@ABCDEFGHIJKLMNOPQRSTUVWXYZ[\\]^_`" : Str) ++ ("abcdefghijklmnopqrstuvwxyz{|}~" : Str)) = tx SG := by decide +kernel
theorem sgs_tx2 : ("\t\n !\"#$&'()*+,-./0123456789:;<=>?@ABCDEFGHIJKLMNOPQRSTUVWXYZ[\\]^_`abcdefghijklmnopqrstuvwxyz{|}~" : Str) = tx SG := by decide +kernel
theorem sub_len {cs : List Nat} (h : cs.Sublist SG) : cs.length ≤ 96 := by
  have := h.length_le
  rw [SG_len] at this
  exact this
theorem sub_asc {cs : List Nat} (h : cs.Sublist SG) : cs.Pairwise (· < ·) := SG_asc.sublist h
theorem line20 {n : Nat} (h : n ≤ 20000) : n ≤ sizeLine := Nat.le_trans h (by decide)
theorem toLine {n : Nat} (h : n ≤ 20000) : n < sizeLine := Nat.lt_of_le_of_lt h (by decide)
/-- the text of a list of sign texts -/
theorem sum_one (cs : List Nat) : ((cs.map fun c => tx [c]).map (·.length)).sum = cs.length := by
  induction cs with
  | nil => rfl
  | cons c r ih => rw [List.map_cons, List.map_cons, List.sum_cons, ih, tx_len, List.length_cons]; simp; omega
theorem map_signs (cs : List Nat) : cs.map (fun c => V.str (tx [c])) = (cs.map fun c => tx [c]).map V.str := by rw [List.map_map]; rfl
theorem join_room (cs : List Nat) (h : cs.length ≤ 10000) : ((cs.map fun c => tx [c]).map (·.length)).sum + (cs.map fun c => tx [c]).length * 0 ≤ 16777216 := by
  rw [sum_one]
  simp
  omega
/-- the reading of ''.join at a list of sign texts -/
theorem join_go {K : PySem.W.Frag} {H : Hp} {D : Addr} {cs : List Nat} {Q : VK} (hD : SqL K H D (cs.map fun c => V.str (tx [c]))) (h : cs.length ≤ 10000) (q : Q (.str (tx cs)) H) :
    ∃ ys : List Str, (SqL K H D (ys.map V.str) ∨ SqT K H D (ys.map V.str)) ∧ (ys.map (·.length)).sum + ys.length * 0 ≤ 16777216 ∧ Q (.str (Txt.join (tx []) ys)) H := by
  refine ⟨cs.map fun c => tx [c], .inl ?_, join_room cs h, ?_⟩
  · rw [← map_signs]; exact hD
  · rw [join_signs]; exact q
theorem join_w {K : PySem.W.Frag} {H : Hp} {D : Addr} {cs : List Nat} (hD : SqL K H D (cs.map fun c => V.str (tx [c]))) (h : cs.length ≤ 10000) :
    ∃ ys : List Str, (SqL K H D (ys.map V.str) ∨ SqT K H D (ys.map V.str)) ∧ (ys.map (·.length)).sum + ys.length * 0 ≤ 16777216 ∧ Txt.join (tx []) ys = tx cs :=
  ⟨cs.map fun c => tx [c], .inl (by rw [← map_signs]; exact hD), join_room cs h, join_signs cs⟩
theorem join_go2 {α : Type} {K : PySem.W.Frag} {H : Hp} {D : Addr} {ks : List α} {g : α → Nat} {Q : VK} (hD : SqL K H D (ks.map fun k => V.str (tx [g k]))) (h : ks.length ≤ 10000) (q : Q (.str (tx (ks.map g))) H) :
    ∃ ys : List Str, (SqL K H D (ys.map V.str) ∨ SqT K H D (ys.map V.str)) ∧ (ys.map (·.length)).sum + ys.length * 0 ≤ 16777216 ∧ Q (.str (Txt.join (tx []) ys)) H := by
  refine join_go (cs := ks.map g) ?_ (by rw [List.length_map]; exact h) q
  rw [List.map_map]
  exact hD
theorem range_map_getD (cs : List Nat) : (List.range cs.length).map (fun k => cs.getD k 0) = cs := by
  apply List.ext_getElem?
  intro i
  rw [List.getElem?_map]
  by_cases h : i < cs.length
  · rw [List.getElem?_range h, List.getElem?_eq_getElem h]
    simp [List.getD, h]
  · rw [List.getElem?_eq_none (by simp; omega), List.getElem?_eq_none (by omega)]
    rfl
theorem atI_pos {α : Type} {s : List α} {i : Int} (h0 : 0 ≤ i) (h1 : i < s.length) : ∃ j : Nat, i = (j : Int) ∧ ∃ h : j < s.length, atI s i = some s[j] := by
  obtain ⟨j, rfl⟩ := Int.eq_ofNat_of_zero_le h0
  have hj : j < s.length := by omega
  exact ⟨j, rfl, hj, atI_nat (List.getElem?_eq_getElem hj)⟩
theorem fi_asc : ∀ {s : List Nat}, s.Pairwise (· < ·) → ∀ {a b : Nat}, a ∈ s → b ∈ s → (fi a s < fi b s ↔ a < b)
  | [], _, _, _, h, _ => by cases h
  | x :: r, hp, a, b, ha, hb => by
    obtain ⟨h1, h2⟩ := List.pairwise_cons.mp hp
    unfold fi
    by_cases ea : x = a
    · rw [if_pos ea]
      by_cases eb : x = b
      · rw [if_pos eb]; omega
      · rw [if_neg eb]
        have : b ∈ r := by
          rcases List.mem_cons.mp hb with q | q
          · exact absurd q.symm eb
          · exact q
        have := h1 b this
        omega
    · rw [if_neg ea]
      have har : a ∈ r := by
        rcases List.mem_cons.mp ha with q | q
        · exact absurd q.symm ea
        · exact q
      by_cases eb : x = b
      · rw [if_pos eb]
        have := h1 a har
        omega
      · rw [if_neg eb]
        have hbr : b ∈ r := by
          rcases List.mem_cons.mp hb with q | q
          · exact absurd q.symm eb
          · exact q
        have := fi_asc h2 har hbr
        omega
/-! ### isinstance against built-in classes -/
section
variable {K : PySem.W.Frag} {H : Hp} {Q : VK}
theorem isi_bl_bool {a : Bool} (q : Q (.bl true) H) : rIsi K [.bl a, .ty "bool"] H Q := ⟨.bl a, .ty "bool", .type "bool", .type "bool", true, rfl, .ty _, .base (.bl a), kit_ty (by decide +kernel), q⟩
theorem isi_int_int {a : Int} (q : Q (.bl true) H) : rIsi K [.int a, .ty "int"] H Q := ⟨.int a, .ty "int", .type "int", .type "int", true, rfl, .ty _, .base (.int a), kit_ty (by decide +kernel), q⟩
theorem isi_int_bool {a : Int} (q : Q (.bl false) H) : rIsi K [.int a, .ty "bool"] H Q := ⟨.int a, .ty "bool", .type "int", .type "bool", false, rfl, .ty _, .base (.int a), kit_ty (by decide +kernel), q⟩
theorem isi_str_str {a : Str} (q : Q (.bl true) H) : rIsi K [.str a, .ty "str"] H Q := ⟨.str a, .ty "str", .type "str", .type "str", true, rfl, .ty _, .base (.str a), kit_ty (by decide +kernel), q⟩
end
/-! ### rules with the written part named -/
section
variable {X : Cx}
def rLenQ (K : PySem.W.Frag) : List V → Hp → VK → Prop := fun xs H Q => ∃ p ys, xs = [.ref p] ∧ (SqL K H p ys ∨ SqT K H p ys) ∧ Q (.int ys.length) H
theorem call_lenQ : CallR X (.builtin "len") (rLenQ X.K) := call_len_seq
def rListOf (K : PySem.W.Frag) : List V → Hp → VK → Prop := fun xs H Q => ∃ p ys, xs = [.ref p] ∧ (SqL K H p ys ∨ SqT K H p ys) ∧ ∀ l, H l = none → Q (.ref l) (upd H l (.lst ys))
theorem call_listOf : CallR X (.type "list") (rListOf X.K) := call_list_of
def rJoin (K : PySem.W.Frag) : V → List V → Hp → VK → Prop := fun x xs H Q => ∃ a, x = .str a ∧ ∃ p, xs = [.ref p] ∧ ∃ ys : List Str, (SqL K H p (ys.map V.str) ∨ SqT K H p (ys.map V.str)) ∧ (ys.map (·.length)).sum + ys.length * a.length ≤ 16777216 ∧ Q (.str (Txt.join a ys)) H
theorem mt_joinQ : MtR X "str.join" (rJoin X.K) := by
  intro pins s σ H x xs v us Q I rx rs h
  obtain ⟨a, e1, p, e2, ys, h1, h2, q⟩ := h
  exact mt_join pins s σ H x xs v us Q I rx rs ⟨a, p, ys, e1, e2, h1, h2, q⟩
end
end My
namespace My
open PySem L2
theorem atI_six {a0 a1 a2 a3 a4 a5 : V} {r : Int} (h0 : 0 ≤ r) (h1 : r < 6) : ∃ v, atI [a0, a1, a2, a3, a4, a5] r = some v ∧ (v = a0 ∨ v = a1 ∨ v = a2 ∨ v = a3 ∨ v = a4 ∨ v = a5) := by
  have : r = 0 ∨ r = 1 ∨ r = 2 ∨ r = 3 ∨ r = 4 ∨ r = 5 := by omega
  rcases this with rfl | rfl | rfl | rfl | rfl | rfl
  · exact ⟨a0, rfl, .inl rfl⟩
  · exact ⟨a1, rfl, .inr (.inl rfl)⟩
  · exact ⟨a2, rfl, .inr (.inr (.inl rfl))⟩
  · exact ⟨a3, rfl, .inr (.inr (.inr (.inl rfl)))⟩
  · exact ⟨a4, rfl, .inr (.inr (.inr (.inr (.inl rfl))))⟩
  · exact ⟨a5, rfl, .inr (.inr (.inr (.inr (.inr rfl))))⟩
/-- signs of a text, each by its own draw -/
theorem lc_draws {cs : List Nat} {d l : Addr} {k : Nat} {tt : TT} {te : TE} {σ : St} {H1 : Hp} {Q : VK} (hn : cs.length ≤ 20000) (hD : Drw H1 d l)
    (hT : ∀ c H (Q : Bool → Hp → Prop), c ∈ cs → Drw H d l → (∀ b H', Drw H' d l → But d H H' → Q b H') → tt ((σ.set k none).set k (some (.str (tx [c])))) H Q)
    (hE : ∀ c H (Q : VK), c ∈ cs → Q (.str (tx [c])) H → te ((σ.set k none).set k (some (.str (tx [c])))) H Q)
    (h : ∀ D H (es : List Nat), H1 D = none → es.Sublist cs → Drw H d l → But d H1 H → H D = some (.lst (es.map fun c => V.str (tx [c]))) → Q (.ref D) H) :
    LcJ (Its (tx cs)) (gName k) tt te [k] σ H1 Q := by
  obtain ⟨Pv, hP⟩ : ∃ Pv : Addr → Nat → Hp → Prop, ∀ D i H, Pv D i H ↔ ∃ es : List Nat, es.Sublist (cs.take i) ∧ Drw H d l ∧ But d H1 H ∧ H D = some (.lst (es.map fun c => V.str (tx [c]))) := ⟨_, fun _ _ _ => Iff.rfl⟩
  refine lcJ_by (reg_text cs) Pv (fun _ _ _ _ _ => trivial) (fun D hD1 => ?_) (fun D i c H hD1 hi hp => ?_) (fun D H hD1 hp => ?_)
  · exact (hP _ _ _).mpr ⟨[], List.nil_sublist _, hD.new hD1, (But.refl d H1).new hD1, upd_same⟩
  · obtain ⟨es, e1, e2, e3, e4⟩ := (hP _ _ _).mp hp
    have hm : c ∈ cs := List.mem_of_getElem? hi
    have ht : cs.take (i + 1) = cs.take i ++ [c] := by rw [List.take_add_one, hi]; rfl
    have hDd : D ≠ d := hD.ne hD1
    refine hT c H _ hm e2 fun b H' d' b' => ?_
    have hl : H' D = some (.lst (es.map fun c => V.str (tx [c]))) := b' _ _ hDd e4
    cases b with
    | false =>
      rw [if_neg Bool.false_ne_true]
      refine (hP _ _ _).mpr ⟨es, ?_, d', e3.trans b', hl⟩
      rw [ht]
      exact e1.trans (List.sublist_append_left _ _)
    | true =>
      rw [if_pos rfl]
      refine hE c H' _ hm ⟨_, hl, ?_, ?_⟩
      · rw [List.length_map]
        have h1 := e1.length_le
        have h2 : (cs.take i).length ≤ cs.length := by rw [List.length_take]; omega
        exact toLine (by omega)
      · refine (hP _ _ _).mpr ⟨es ++ [c], ?_, ?_, ?_, ?_⟩
        · rw [ht]; exact e1.append (List.Sublist.refl _)
        · exact d'.put hDd (hD.nel hD1)
        · intro b o nb e
          rw [upd_ne (ne_of_none e hD1)]
          exact b' _ _ nb (e3 _ _ nb e)
        · rw [upd_same, List.map_append]; rfl
  · obtain ⟨es, e1, e2, e3, e4⟩ := (hP _ _ _).mp hp
    rw [List.take_length] at e1
    exact h D H es hD1 e1 e2 e3 e4
/-- texts of one sign, each by its own draw -/
theorem lc_any {α : Type} {J : It} {its : List α} {item : α → V} (R : Reg J its item (fun _ => True)) {d l : Addr} {k : Nat} {te : TE} {σ : St} {H1 : Hp} {Q : VK} (S : Nat → Prop) (hn : its.length ≤ 20000) (hD : Drw H1 d l)
    (hE : ∀ a H (Q : VK), a ∈ its → Drw H d l → (∀ c H', S c → Drw H' d l → But d H H' → Q (.str (tx [c])) H') → te ((σ.set k none).set k (some (item a))) H Q)
    (h : ∀ D H (es : List Nat), H1 D = none → (∀ c ∈ es, S c) → es.length = its.length → Drw H d l → But d H1 H → H D = some (.lst (es.map fun c => V.str (tx [c]))) → Q (.ref D) H) :
    LcJ J (gName k) tYes te [k] σ H1 Q := by
  obtain ⟨Pv, hP⟩ : ∃ Pv : Addr → Nat → Hp → Prop, ∀ D i H, Pv D i H ↔ ∃ es : List Nat, (∀ c ∈ es, S c) ∧ es.length = i ∧ Drw H d l ∧ But d H1 H ∧ H D = some (.lst (es.map fun c => V.str (tx [c]))) := ⟨_, fun _ _ _ => Iff.rfl⟩
  refine lcJ_by R Pv (fun _ _ _ _ _ => trivial) (fun D hD1 => ?_) (fun D i c H hD1 hi hp => ?_) (fun D H hD1 hp => ?_)
  · exact (hP _ _ _).mpr ⟨[], by simp, rfl, hD.new hD1, (But.refl d H1).new hD1, upd_same⟩
  · obtain ⟨es, e1, e2, e3, e4, e5⟩ := (hP _ _ _).mp hp
    have hm : c ∈ its := List.mem_of_getElem? hi
    have hlt := (List.getElem?_eq_some_iff.mp hi).1
    have hDd : D ≠ d := hD.ne hD1
    simp only [tYes, ↓reduceIte]
    refine hE c H _ hm e3 fun c' H' hc d' b' => ?_
    have hl : H' D = some (.lst (es.map fun c => V.str (tx [c]))) := b' _ _ hDd e5
    refine ⟨_, hl, ?_, ?_⟩
    · rw [List.length_map]
      exact toLine (by omega)
    · refine (hP _ _ _).mpr ⟨es ++ [c'], ?_, ?_, d'.put hDd (hD.nel hD1), ?_, ?_⟩
      · intro x hx
        rcases List.mem_append.mp hx with q | q
        · exact e1 x q
        · rw [List.mem_singleton.mp q]; exact hc
      · rw [List.length_append, e2]; rfl
      · intro b o nb e
        rw [upd_ne (ne_of_none e hD1)]
        exact b' _ _ nb (e4 _ _ nb e)
      · rw [upd_same, List.map_append]; rfl
  · obtain ⟨es, e1, e2, e3, e4, e5⟩ := (hP _ _ _).mp hp
    exact h D H es hD1 e1 e2 e3 e4 e5
theorem inV_signs (c : Nat) (es : List Nat) : inV (V.str (tx [c])) (es.map fun c => V.str (tx [c])) = decide (c ∈ es) := by
  unfold inV
  rw [List.any_map]
  have h : ∀ a, ((fun y => eqV y (V.str (tx [c]))) ∘ fun c => V.str (tx [c])) a = (a == c) := by
    intro a
    show eqV (V.str (tx [a])) (V.str (tx [c])) = (a == c)
    unfold eqV
    by_cases e : a = c
    · subst e; simp
    · have e2 : ¬ tx [a] = tx [c] := fun q => e (by rw [tx_eq] at q; exact (List.cons.inj q).1)
      have e3 : (a == c) = false := beq_eq_false_iff_ne.mpr e
      rw [e3]
      simp [e2]
  induction es with
  | nil => rfl
  | cons x r ih =>
    rw [List.any_cons, h, ih, Bool.eq_iff_iff]
    simp only [Bool.or_eq_true, beq_iff_eq, decide_eq_true_eq, List.mem_cons]
    constructor
    · rintro (q | q)
      · exact .inl q.symm
      · exact .inr q
    · rintro (q | q)
      · exact .inl q.symm
      · exact .inr q
theorem flat_signs (es : List Nat) : (es.map fun c => V.str (tx [c])).all flatV = true := by
  induction es with
  | nil => rfl
  | cons x r ih => rw [List.map_cons, List.all_cons, ih]; rfl
end My
namespace My
open PySem L2
/-! ### the place of a text among all texts over a set text -/
def pl (s : List Nat) (p : Int) (t : List Nat) : Int := t.foldl (fun p c => p * (s.length : Int) + (fi c s : Int) + 1) p
def place (t s : List Nat) : Int := pl s 0 t
theorem pl_cons (s : List Nat) (p : Int) (c : Nat) (t : List Nat) : pl s p (c :: t) = pl s (p * (s.length : Int) + (fi c s : Int) + 1) t := rfl
theorem pl_app (s : List Nat) (p : Int) (a b : List Nat) : pl s p (a ++ b) = pl s (pl s p a) b := List.foldl_append ..
theorem pl_lt {s : List Nat} : ∀ {a b : List Nat} {p q : Int}, (∀ c ∈ a, c ∈ s) → a.length = b.length → p < q → pl s p a < pl s q b
  | [], [], p, q, _, _, h => h
  | [], _ :: _, _, _, _, h, _ => by simp at h
  | _ :: _, [], _, _, _, h, _ => by simp at h
  | x :: a, y :: b, p, q, ha, hl, h => by
    rw [pl_cons, pl_cons]
    refine pl_lt (fun c hc => ha c (List.mem_cons_of_mem _ hc)) (by simpa using hl) ?_
    have h1 := fi_lt (ha x (List.mem_cons_self ..))
    have h2 : (p + 1) * (s.length : Int) ≤ q * (s.length : Int) := Int.mul_le_mul_of_nonneg_right (by omega) (by omega)
    rw [Int.add_mul, Int.one_mul] at h2
    omega
theorem pl_lex {s : List Nat} (hs : s.Pairwise (· < ·)) : ∀ {a b : List Nat} (p : Int), (∀ c ∈ a, c ∈ s) → (∀ c ∈ b, c ∈ s) → a.length = b.length → a < b → pl s p a < pl s p b
  | [], [], _, _, _, _, h => absurd h (List.lt_irrefl _)
  | [], _ :: _, _, _, _, h, _ => by simp at h
  | _ :: _, [], _, _, _, h, _ => by simp at h
  | x :: a, y :: b, p, ha, hb, hl, h => by
    rw [pl_cons, pl_cons]
    have ha' : ∀ c ∈ a, c ∈ s := fun c hc => ha c (List.mem_cons_of_mem _ hc)
    have hb' : ∀ c ∈ b, c ∈ s := fun c hc => hb c (List.mem_cons_of_mem _ hc)
    have hl' : a.length = b.length := by simpa using hl
    rcases List.cons_lt_cons_iff.mp h with q | ⟨q, r⟩
    · have := (fi_asc hs (ha x (List.mem_cons_self ..)) (hb y (List.mem_cons_self ..))).mpr q
      exact pl_lt ha' hl' (by omega)
    · subst q
      exact pl_lex hs _ ha' hb' hl' r
theorem pl_pos {s : List Nat} : ∀ {a : List Nat} {p : Int}, 0 ≤ p → 0 ≤ pl s p a ∧ (a ≠ [] → 0 < pl s p a)
  | [], p, h => ⟨h, fun q => absurd rfl q⟩
  | x :: a, p, h => by
    rw [pl_cons]
    have h2 : 0 ≤ p * (s.length : Int) := Int.mul_nonneg h (by omega)
    have h3 : 0 < p * (s.length : Int) + (fi x s : Int) + 1 := by omega
    obtain ⟨i1, i2⟩ := pl_pos (s := s) (a := a) (Int.le_of_lt h3)
    refine ⟨i1, fun _ => ?_⟩
    cases a with
    | nil => exact h3
    | cons y r => exact i2 (by simp)
theorem place_shorter {s a b : List Nat} (ha : ∀ c ∈ a, c ∈ s) (h : a.length < b.length) : place a s < place b s := by
  unfold place
  have e : b = b.take (b.length - a.length) ++ b.drop (b.length - a.length) := (List.take_append_drop ..).symm
  rw [e, pl_app]
  refine pl_lt ha (by rw [List.length_drop]; omega) ?_
  refine (pl_pos (Int.le_refl 0)).2 ?_
  intro q
  have := congrArg List.length q
  rw [List.length_take] at this
  simp at this
  omega
theorem lt_tri (a b : List Nat) : a < b ∨ a = b ∨ b < a := by
  induction a generalizing b with
  | nil =>
    cases b with
    | nil => exact .inr (.inl rfl)
    | cons y r => exact .inl (List.nil_lt_cons ..)
  | cons x a ih =>
    cases b with
    | nil => exact .inr (.inr (List.nil_lt_cons ..))
    | cons y b =>
      rcases Nat.lt_trichotomy x y with h | h | h
      · exact .inl (List.cons_lt_cons_iff.mpr (.inl h))
      · subst h
        rcases ih b with q | q | q
        · exact .inl (List.cons_lt_cons_iff.mpr (.inr ⟨rfl, q⟩))
        · exact .inr (.inl (by rw [q]))
        · exact .inr (.inr (List.cons_lt_cons_iff.mpr (.inr ⟨rfl, q⟩)))
      · exact .inr (.inr (List.cons_lt_cons_iff.mpr (.inl h)))
theorem prec_iff {s a b : List Nat} (hs : s.Pairwise (· < ·)) (ha : ∀ c ∈ a, c ∈ s) (hb : ∀ c ∈ b, c ∈ s) : prec a b = true ↔ place a s < place b s := by
  have fwd : ∀ {a b : List Nat}, (∀ c ∈ a, c ∈ s) → (∀ c ∈ b, c ∈ s) → prec a b = true → place a s < place b s := by
    intro a b ha hb h
    unfold prec at h
    rw [Bool.or_eq_true, Bool.and_eq_true, decide_eq_true_eq, decide_eq_true_eq, decide_eq_true_eq] at h
    rcases h with h | ⟨h1, h2⟩
    · exact place_shorter ha h
    · exact pl_lex hs 0 ha hb h1 h2
  refine ⟨fwd ha hb, fun h => ?_⟩
  have tri : prec a b = true ∨ a = b ∨ prec b a = true := by
    unfold prec
    simp only [Bool.or_eq_true, Bool.and_eq_true, decide_eq_true_eq]
    rcases Nat.lt_trichotomy a.length b.length with q | q | q
    · exact .inl (.inl q)
    · rcases lt_tri a b with r | r | r
      · exact .inl (.inr ⟨q, r⟩)
      · exact .inr (.inl r)
      · exact .inr (.inr (.inr ⟨q.symm, r⟩))
    · exact .inr (.inr (.inl q))
  rcases tri with q | q | q
  · exact q
  · subst q; omega
  · have := fwd hb ha q
    omega
/-! ### the following text is the next in place -/
theorem fi_getD : ∀ {s : List Nat} {k : Nat}, s.Pairwise (· < ·) → (h : k < s.length) → fi s[k] s = k
  | [], _, _, h => by cases h
  | x :: r, 0, _, _ => by show (if x = x then 0 else _) = 0; rw [if_pos rfl]
  | x :: r, k + 1, hp, h => by
    obtain ⟨h1, h2⟩ := List.pairwise_cons.mp hp
    have hk : k < r.length := by simpa using h
    have hm := List.getElem_mem hk
    have hlt := h1 _ hm
    show (if x = r[k] then 0 else fi r[k] r + 1) = k + 1
    rw [if_neg (by omega), fi_getD h2 hk]
theorem pl_rep {s : List Nat} {x y : Nat} (hx : (fi x s : Int) + 1 = s.length) (hy : fi y s = 0) : ∀ (k : Nat) (p : Int), pl s (p + 1) (List.replicate k y) = pl s p (List.replicate k x) + 1
  | 0, p => rfl
  | k + 1, p => by
    rw [List.replicate_succ, List.replicate_succ, pl_cons, pl_cons]
    have e : (p + 1) * (s.length : Int) + (fi y s : Int) + 1 = (p * (s.length : Int) + (fi x s : Int) + 1) + 1 := by
      rw [hy, Int.add_mul, Int.one_mul]
      omega
    rw [e]
    exact pl_rep hx hy k _
theorem rs_split (c : Nat) (t : List Nat) : t = rs c t ++ List.replicate (t.length - (rs c t).length) c := by
  have h : t.reverse.takeWhile (fun a => a == c) ++ t.reverse.dropWhile (fun a => a == c) = t.reverse := List.takeWhile_append_dropWhile
  have h2 : t = (t.reverse.dropWhile (fun a => a == c)).reverse ++ (t.reverse.takeWhile (fun a => a == c)).reverse := by
    rw [← List.reverse_append, h, List.reverse_reverse]
  have h3 : ∀ l : List Nat, l.takeWhile (fun a => a == c) = List.replicate (l.takeWhile (fun a => a == c)).length c := by
    intro l
    induction l with
    | nil => rfl
    | cons a r ih =>
      rw [List.takeWhile_cons]
      by_cases e : (a == c) = true
      · rw [if_pos e, List.length_cons, List.replicate_succ, ← ih]
        rw [eq_of_beq e]
      · rw [if_neg e]; rfl
  have h4 := congrArg List.length h2
  rw [List.length_append, List.length_reverse (as := List.takeWhile _ _)] at h4
  have e5 : t.length - (rs c t).length = (t.reverse.takeWhile (fun a => a == c)).length := by
    unfold rs
    omega
  rw [e5]
  have h6 : (t.reverse.takeWhile (fun a => a == c)).reverse = List.replicate (t.reverse.takeWhile (fun a => a == c)).length c := by
    rw [h3 t.reverse, List.reverse_replicate, List.length_replicate]
  rw [← h6]
  exact h2
structure NxtOk (N t s : List Nat) : Prop where
  sub : ∀ c ∈ N, c ∈ s
  len : N.length ≤ t.length + 1
  place : place N s = place t s + 1
theorem nxt_ok {t s : List Nat} (hs : s ≠ []) (asc : s.Pairwise (· < ·)) (ht : ∀ c ∈ t, c ∈ s) : NxtOk (nxt t s) t s := by
  have eL : s.getLastD 0 = s.getLast hs := List.getLastD_eq_getLast? .. ▸ by rw [List.getLast?_eq_some_getLast hs]; rfl
  obtain ⟨c0, r0, es⟩ : ∃ c r, s = c :: r := by
    cases s with
    | nil => exact absurd rfl hs
    | cons c r => exact ⟨c, r, rfl⟩
  have eH : s.headD 0 = c0 := by rw [es]; rfl
  have m0 : c0 ∈ s := by rw [es]; exact List.mem_cons_self ..
  have y0 : fi c0 s = 0 := by rw [es]; show (if c0 = c0 then 0 else _) = 0; rw [if_pos rfl]
  have hpos : 0 < s.length := List.length_pos_iff.mpr hs
  have xL : (fi (s.getLast hs) s : Int) + 1 = s.length := by
    have h1 : s.getLast hs = s[s.length - 1] := List.getLast_eq_getElem ..
    rw [h1, fi_getD asc (by omega)]
    omega
  have sp := rs_split (s.getLast hs) t
  have hk := rs_le (s.getLast hs) t
  unfold nxt
  rw [eL, eH]
  generalize hkd : t.length - (rs (s.getLast hs) t).length = k at *
  by_cases h0 : rs (s.getLast hs) t = []
  · simp only [h0, ↓reduceIte]
    rw [h0, List.nil_append] at sp
    have hk0 : k = t.length := by rw [← hkd, h0]; simp
    subst hk0
    refine ⟨fun c hc => ?_, ?_, ?_⟩
    · rcases List.mem_cons.mp hc with q | q
      · rw [q]; exact m0
      · rw [List.eq_of_mem_replicate q]; exact m0
    · simp
    · unfold My.place
      rw [pl_cons, y0]
      have := pl_rep xL y0 t.length 0
      rw [← sp] at this
      simpa using this
  · have hm : (rs (s.getLast hs) t).getLast h0 ∈ s := ht _ (rs_sub (List.getLast_mem h0))
    have hf := fi_next hm hs (rs_last h0)
    have eK : (rs (s.getLast hs) t).getLastD 0 = (rs (s.getLast hs) t).getLast h0 := List.getLastD_eq_getLast? .. ▸ by rw [List.getLast?_eq_some_getLast h0]; rfl
    have eG : s.getD (fi ((rs (s.getLast hs) t).getLast h0) s + 1) 0 = s[fi ((rs (s.getLast hs) t).getLast h0) s + 1] := by
      rw [List.getD_eq_getElem?_getD, List.getElem?_eq_getElem hf]; rfl
    simp only [h0, ↓reduceIte, eK, eG, hkd]
    have dk : rs (s.getLast hs) t = (rs (s.getLast hs) t).dropLast ++ [(rs (s.getLast hs) t).getLast h0] := (List.dropLast_concat_getLast h0).symm
    refine ⟨fun c hc => ?_, ?_, ?_⟩
    · rcases List.mem_append.mp hc with q | q
      · rcases List.mem_append.mp q with q | q
        · exact ht _ (rs_sub (List.dropLast_subset _ q))
        · rw [List.mem_singleton.mp q]; exact List.getElem_mem hf
      · rw [List.eq_of_mem_replicate q]; exact m0
    · rw [List.length_append, List.length_append, List.length_dropLast, List.length_replicate]
      simp
      omega
    · unfold My.place
      have key : pl s 0 t = pl s (pl s (pl s 0 (rs (s.getLast hs) t).dropLast) [(rs (s.getLast hs) t).getLast h0]) (List.replicate k (s.getLast hs)) := by
        rw [← pl_app, ← pl_app, ← List.append_assoc, ← dk, ← sp]
      rw [key, pl_app, pl_app]
      have e1 : ∀ P : Int, pl s P [s[fi ((rs (s.getLast hs) t).getLast h0) s + 1]] = pl s P [(rs (s.getLast hs) t).getLast h0] + 1 := by
        intro P
        show P * (s.length : Int) + (fi s[fi ((rs (s.getLast hs) t).getLast h0) s + 1] s : Int) + 1 = P * (s.length : Int) + (fi ((rs (s.getLast hs) t).getLast h0) s : Int) + 1 + 1
        rw [fi_getD asc hf]
        omega
      rw [e1]
      exact pl_rep xL y0 k _
end My
namespace My
open PySem L2
def topS (i : Nat) : Stmt := PySem.Challenge.pw_surespan_k03_text_order.main.body.getD i (.Pass ⟨0, 0, 0, 0⟩)
abbrev s_rank : Stmt := topS 6
abbrev n_rank : List Str := ["sign"]
theorem sc_rank : FnScope n_rank ["sign"] (defScope s_rank) := ⟨rfl, rfl, rfl, by decide +kernel, rfl, by decide +kernel, by decide +kernel⟩
abbrev s_precedes : Stmt := topS 7
abbrev n_precedes : List Str := ["text", "other"]
theorem sc_precedes : FnScope n_precedes ["text", "other"] (defScope s_precedes) := ⟨rfl, rfl, rfl, by decide +kernel, rfl, by decide +kernel, by decide +kernel⟩
abbrev s_next_text : Stmt := topS 8
abbrev n_next_text : List Str := ["text", "signs", "kept", "tail"]
theorem sc_next_text : FnScope n_next_text ["text", "signs"] (defScope s_next_text) := ⟨rfl, rfl, rfl, by decide +kernel, rfl, by decide +kernel, by decide +kernel⟩
abbrev s_Ldraw : Stmt := topS 10
abbrev n_Ldraw : List Str := ["_law_script", "_law_digits", "_law_one", "_law_two", "_law_cell", "_law_rest", "_law_k"]
theorem sc_Ldraw : FnScope n_Ldraw ["_law_script"] (defScope s_Ldraw) := ⟨rfl, rfl, rfl, by decide +kernel, rfl, by decide +kernel, by decide +kernel⟩
abbrev s_Lnext : Stmt := topS 11
abbrev n_Lnext : List Str := ["_law_draw_here", "_law_many", "_law_at"]
theorem sc_Lnext : FnScope n_Lnext ["_law_draw_here", "_law_many"] (defScope s_Lnext) := ⟨rfl, rfl, rfl, by decide +kernel, rfl, by decide +kernel, by decide +kernel⟩
abbrev s_Lsigns : Stmt := topS 12
abbrev n_Lsigns : List Str := ["_law_signs_here"]
theorem sc_Lsigns : FnScope n_Lsigns [] (defScope s_Lsigns) := ⟨rfl, rfl, rfl, by decide +kernel, rfl, by decide +kernel, by decide +kernel⟩
abbrev s_Lletters : Stmt := topS 13
abbrev n_Lletters : List Str := ["_law_draw_here", "_law_choice", "_law_signs_here", "_law_first", "_law_second", "_law_third", "_law_k"]
theorem sc_Lletters : FnScope n_Lletters ["_law_draw_here"] (defScope s_Lletters) := ⟨rfl, rfl, rfl, by decide +kernel, rfl, by decide +kernel, by decide +kernel⟩
abbrev s_Lsubset : Stmt := topS 14
abbrev n_Lsubset : List Str := ["_law_draw_here", "_law_signs_here", "_law_choice", "_law_low", "_law_few", "_law_many", "_law_k", "_law_sign"]
theorem sc_Lsubset : FnScope n_Lsubset ["_law_draw_here"] (defScope s_Lsubset) := ⟨rfl, rfl, rfl, by decide +kernel, rfl, by decide +kernel, by decide +kernel⟩
abbrev s_Lover : Stmt := topS 15
abbrev n_Lover : List Str := ["_law_draw_here", "_law_signs_here", "_law_most", "_law_text", "_law_k"]
theorem sc_Lover : FnScope n_Lover ["_law_draw_here", "_law_signs_here", "_law_most"] (defScope s_Lover) := ⟨rfl, rfl, rfl, by decide +kernel, rfl, by decide +kernel, by decide +kernel⟩
abbrev s_Lnear_text : Stmt := topS 16
abbrev n_Lnear_text : List Str := ["_law_draw_here", "_law_text", "_law_signs_here", "_law_choice", "_law_at", "_law_sign"]
theorem sc_Lnear_text : FnScope n_Lnear_text ["_law_draw_here", "_law_text", "_law_signs_here"] (defScope s_Lnear_text) := ⟨rfl, rfl, rfl, by decide +kernel, rfl, by decide +kernel, by decide +kernel⟩
abbrev s_Lbefore : Stmt := topS 17
abbrev n_Lbefore : List Str := ["_law_one", "_law_two", "_law_signs_here", "_law_k"]
theorem sc_Lbefore : FnScope n_Lbefore ["_law_one", "_law_two"] (defScope s_Lbefore) := ⟨rfl, rfl, rfl, by decide +kernel, rfl, by decide +kernel, by decide +kernel⟩
abbrev s_Lplace : Stmt := topS 18
abbrev n_Lplace : List Str := ["_law_text", "_law_signs_here", "_law_place_here", "_law_sign"]
theorem sc_Lplace : FnScope n_Lplace ["_law_text", "_law_signs_here"] (defScope s_Lplace) := ⟨rfl, rfl, rfl, by decide +kernel, rfl, by decide +kernel, by decide +kernel⟩
abbrev s_Ltold : Stmt := topS 19
abbrev n_Ltold : List Str := ["_law_found", "_law_due"]
theorem sc_Ltold : FnScope n_Ltold ["_law_found", "_law_due"] (defScope s_Ltold) := ⟨rfl, rfl, rfl, by decide +kernel, rfl, by decide +kernel, by decide +kernel⟩
abbrev s_Lconstants : Stmt := topS 20
abbrev n_Lconstants : List Str := ["_law_signs_here", "_law_letters_here", "_law_words", "_law_k", "_law_place_here"]
theorem sc_Lconstants : FnScope n_Lconstants [] (defScope s_Lconstants) := ⟨rfl, rfl, rfl, by decide +kernel, rfl, by decide +kernel, by decide +kernel⟩
abbrev s_law : Stmt := topS 21
abbrev n_law : List Str := ["_law_script", "_law_draw_here", "_law_signs_here", "_law_most", "_law_text", "_law_third", "_law_texts", "_law_one", "_law_two", "_law_value", "_law_first", "_law_k", "_law_following", "_law_sign"]
theorem sc_law : FnScope n_law ["_law_script"] (defScope s_law) := ⟨rfl, rfl, rfl, by decide +kernel, rfl, by decide +kernel, by decide +kernel⟩
structure Top (K : PySem.W.Frag) (mg : Str → Option Value) : Type where
  f_rank : Addr
  fd_rank : FuncData
  F_rank : Fun K "rank" "rank" s_rank f_rank fd_rank
  B_rank : Binds K fd_rank ["sign"] []
  g_rank : mg "rank" = some (.ref f_rank)
  f_precedes : Addr
  fd_precedes : FuncData
  F_precedes : Fun K "precedes" "precedes" s_precedes f_precedes fd_precedes
  B_precedes : Binds K fd_precedes ["text", "other"] []
  g_precedes : mg "precedes" = some (.ref f_precedes)
  f_next_text : Addr
  fd_next_text : FuncData
  F_next_text : Fun K "next_text" "next_text" s_next_text f_next_text fd_next_text
  B_next_text : Binds K fd_next_text ["text", "signs"] []
  g_next_text : mg "next_text" = some (.ref f_next_text)
  f_Ldraw : Addr
  fd_Ldraw : FuncData
  F_Ldraw : Fun K "_law_draw" "_law_draw" s_Ldraw f_Ldraw fd_Ldraw
  B_Ldraw : Binds K fd_Ldraw ["_law_script"] []
  g_Ldraw : mg "_law_draw" = some (.ref f_Ldraw)
  f_Lnext : Addr
  fd_Lnext : FuncData
  F_Lnext : Fun K "_law_next" "_law_next" s_Lnext f_Lnext fd_Lnext
  B_Lnext : Binds K fd_Lnext ["_law_draw_here", "_law_many"] []
  g_Lnext : mg "_law_next" = some (.ref f_Lnext)
  f_Lsigns : Addr
  fd_Lsigns : FuncData
  F_Lsigns : Fun K "_law_signs" "_law_signs" s_Lsigns f_Lsigns fd_Lsigns
  B_Lsigns : Binds K fd_Lsigns [] []
  g_Lsigns : mg "_law_signs" = some (.ref f_Lsigns)
  f_Lletters : Addr
  fd_Lletters : FuncData
  F_Lletters : Fun K "_law_letters" "_law_letters" s_Lletters f_Lletters fd_Lletters
  B_Lletters : Binds K fd_Lletters ["_law_draw_here"] []
  g_Lletters : mg "_law_letters" = some (.ref f_Lletters)
  f_Lsubset : Addr
  fd_Lsubset : FuncData
  F_Lsubset : Fun K "_law_subset" "_law_subset" s_Lsubset f_Lsubset fd_Lsubset
  B_Lsubset : Binds K fd_Lsubset ["_law_draw_here"] []
  g_Lsubset : mg "_law_subset" = some (.ref f_Lsubset)
  f_Lover : Addr
  fd_Lover : FuncData
  F_Lover : Fun K "_law_over" "_law_over" s_Lover f_Lover fd_Lover
  B_Lover : Binds K fd_Lover ["_law_draw_here", "_law_signs_here", "_law_most"] []
  g_Lover : mg "_law_over" = some (.ref f_Lover)
  f_Lnear_text : Addr
  fd_Lnear_text : FuncData
  F_Lnear_text : Fun K "_law_near_text" "_law_near_text" s_Lnear_text f_Lnear_text fd_Lnear_text
  B_Lnear_text : Binds K fd_Lnear_text ["_law_draw_here", "_law_text", "_law_signs_here"] []
  g_Lnear_text : mg "_law_near_text" = some (.ref f_Lnear_text)
  f_Lbefore : Addr
  fd_Lbefore : FuncData
  F_Lbefore : Fun K "_law_before" "_law_before" s_Lbefore f_Lbefore fd_Lbefore
  B_Lbefore : Binds K fd_Lbefore ["_law_one", "_law_two"] []
  g_Lbefore : mg "_law_before" = some (.ref f_Lbefore)
  f_Lplace : Addr
  fd_Lplace : FuncData
  F_Lplace : Fun K "_law_place" "_law_place" s_Lplace f_Lplace fd_Lplace
  B_Lplace : Binds K fd_Lplace ["_law_text", "_law_signs_here"] []
  g_Lplace : mg "_law_place" = some (.ref f_Lplace)
  f_Ltold : Addr
  fd_Ltold : FuncData
  F_Ltold : Fun K "_law_told" "_law_told" s_Ltold f_Ltold fd_Ltold
  B_Ltold : Binds K fd_Ltold ["_law_found", "_law_due"] []
  g_Ltold : mg "_law_told" = some (.ref f_Ltold)
  f_Lconstants : Addr
  fd_Lconstants : FuncData
  F_Lconstants : Fun K "_law_constants" "_law_constants" s_Lconstants f_Lconstants fd_Lconstants
  B_Lconstants : Binds K fd_Lconstants [] []
  g_Lconstants : mg "_law_constants" = some (.ref f_Lconstants)
  f_law : Addr
  fd_law : FuncData
  F_law : Fun K "law" "law" s_law f_law fd_law
  B_law : Binds K fd_law ["_law_script"] []
  g_law : mg "law" = some (.ref f_law)
  t_SIGNS : Tok
  g_SIGNS : mg "SIGNS" = some (.str "\t\n !\"#$&'()*+,-./0123456789:;<=>?@ABCDEFGHIJKLMNOPQRSTUVWXYZ[\\]^_`abcdefghijklmnopqrstuvwxyz{|}~" t_SIGNS)
  t_DIGITS : Tok
  g_DIGITS : mg "DIGITS" = some (.str "0123456789" t_DIGITS)
  t_LETTERS : Tok
  g_LETTERS : mg "LETTERS" = some (.str "ABCDEFGHIJKLMNOPQRSTUVWXYZabcdefghijklmnopqrstuvwxyz" t_LETTERS)
  t_BLANKS : Tok
  g_BLANKS : mg "BLANKS" = some (.str "\t\n " t_BLANKS)
  t_WORD_SIGNS : Tok
  g_WORD_SIGNS : mg "WORD_SIGNS" = some (.str "0123456789ABCDEFGHIJKLMNOPQRSTUVWXYZ_abcdefghijklmnopqrstuvwxyz" t_WORD_SIGNS)
  b_bool : mg "bool" = none
  b_int : mg "int" = none
  b_isinstance : mg "isinstance" = none
  b_len : mg "len" = none
  b_range : mg "range" = none
  b_str : mg "str" = none
end My
namespace My
open PySem L2
local macro_rules | `(tactic| walk_at "rd") => `(tactic| simp only [tSeq, tNext, tAsg, tOp, tUn, tC, tVar, gName, gSub, tCons, tNil, tCB, tIfS, tIf, tTest, tB, tAnd, tOr, tNot, tAndV, tOrV, tNotV, tRet, tRetN, tDrop, tLst, tTup, tCall, tSl, tNoPart, tPart, tM0, tM1, tBM, tBM0, tYes, tFor_eq, tLc_eq, iList, iRng1, iRng2, iStr, sg_tx, c_empty, rstrip_sign, find_sign, cut_last, cut_to, cut_from, cut_mid, cut_to_lit, cut_from_lit, and_assoc, flat_rep, List.length_replicate, tx_len, tx_eq, tx_app, tx_cps, rI0, rI, rU, rEq, rNe, rIxL, rIxS, rIxT, rSetL, rAppend, rPopAt, rSlS, rSlL, rIn, rMulS, rLtD, rJoin, rLenQ, rListOf,  tRevS, 
  scal, L2.start, List.map_cons, List.map_nil, List.length_cons, List.length_nil, List.replicate, List.cons_append, List.nil_append, List.append_nil,
  List.getElem?_cons_zero, List.getElem?_cons_succ, List.set_cons_zero, List.set_cons_succ, Nat.sub_zero, Nat.reduceSub, Nat.reduceAdd, Nat.zero_add, id_eq, Int.reduceToNat, exists_or,
  V.int.injEq, V.str.injEq, V.bl.injEq, V.ref.injEq, Option.some.injEq, List.cons.injEq, exists_and_left, exists_eq_left', exists_eq_left, exists_eq, exists_eq', and_true, true_and, reduceCtorEq, false_and, and_false, exists_false, false_or, or_false, decide_eq_true_eq, Bool.not_eq_true', decide_eq_false_iff_not, Bool.not_not, Bool.false_eq_true, ↓reduceIte, if_true, if_false])

local macro_rules | `(tactic| walk_at "ne") => `(tactic| first | assumption | (refine Ne.symm ?_; assumption) | exact (ne_of_none (by assumption) (by assumption)) | exact (ne_of_none (by assumption) (by assumption)).symm)
local macro_rules | `(tactic| walk_at "hp") => `(tactic| first | assumption | exact upd_same | exact (upd_ne (by walk_at "ne")).trans (by walk_at "hp"))
local macro_rules | `(tactic| walk_at "st1") => `(tactic| first
  | refine ⟨_, Or.inl (Or.inl (by walk_at "hp")), ?_⟩
  | refine ⟨_, Or.inl (Or.inl (Or.inl (by walk_at "hp"))), ?_⟩
  | refine ⟨_, (show _ = some (HO.lst _) by walk_at "hp"), ?_⟩
  | refine ⟨_, rfl, ?_⟩
  | refine ⟨(rfl : ("str" : String) = "str"), ?_⟩
  | refine ⟨Or.inr ⟨by decide, by decide⟩, ?_⟩
  | refine ⟨⟨by decide, by decide⟩, ?_⟩
  | refine ⟨by decide, ?_⟩
  | refine ⟨by assumption, ?_⟩)
local macro_rules | `(tactic| walk_at "st") => `(tactic| repeat walk_at "st1")
local macro_rules | `(tactic| walk_at "go") => `(tactic| repeat first | walk_at "st1" | walk_at "rd")
section
variable {P : Program} {w : World} {K : PySem.W.Frag} {mg : Str → Option Value} {base : Heap}
def sp_Lsigns : Sp := fun vs H Q _ => vs = [] ∧ Q (.str (tx SG)) H
theorem atI_ints {ds : List Int} {a : Int} (h0 : 0 ≤ a) (h1 : a < ((ds.map V.int).length : Nat)) : ∃ z, atI (ds.map V.int) a = some (V.int z) := by
  obtain ⟨n, rfl⟩ := Int.eq_ofNat_of_zero_le h0
  have h2 : n < ds.length := by rw [List.length_map] at h1; omega
  refine ⟨ds[n], atI_nat ?_⟩
  rw [List.getElem?_map, List.getElem?_eq_getElem h2]
  rfl
def sp_Lnext : Sp := fun vs H Q _ => ∃ (d l : Addr) (m : Int), vs = [.ref d, .int m] ∧ Drw H d l ∧ 0 < m ∧ ∀ (r : Int) (H' : Hp), 0 ≤ r → r < m → Drw H' d l → But d H H' → Q (.int r) H'
theorem ok_Lnext (T : Top K mg) : FnOk P w K mg base CX0 1 T.f_Lnext T.fd_Lnext ["_law_draw_here", "_law_many"] sp_Lnext := by
  refine T.F_Lnext.ok sc_Lnext (fun vs H Q E h => ?_) (fun cdv A outer s H vs Q E hr h => ?_)
  · obtain ⟨d, l, m, rfl, _⟩ := h
    rfl
  · obtain ⟨d, l, m, rfl, hD, hm, q⟩ := h
    refine ⟨_, (pss_cons (ps_set (i := 2) sc_Lnext.nd rfl (Or.inl rfl) (pe_ix (r := rIxL K) ix_list (pv 0) pe_int (fun _ _ => rfl)))
       (pss_cons (ps_if (pt_cmpR op_lt (pv 2) (pe_callB (r := rLenQ K) call_lenQ (by rfl) T.b_len PySem.boot_len (pa_cons (pe_ix (r := rIxL K) ix_list (pv 0) pe_int (fun _ _ => rfl)) pa_nil)) (nomark _)) (pss_cons (ps_asg (pe_op op_add (pv 2) pe_int) (pg_sub (pv 0) pe_int set_list))
       (pss_one (ps_ret (pe_op op_mod (pe_callTy call_int1 (by rfl) T.b_int (by decide +kernel) (pa_cons (pe_ix (r := rIxL K) ix_list (pe_ix (r := rIxL K) ix_list (pv 0) pe_int (fun _ _ => rfl)) (pv 2) (fun _ _ => rfl)) pa_nil)) (pv 1))))) pss_nil)
       (pss_cons (ps_asg (pe_op op_mod (pe_callTy call_int1 (by rfl) T.b_int (by decide +kernel) (pa_cons (pe_op op_add (pe_op op_mul (pe_ix (r := rIxL K) ix_list (pv 0) pe_int (fun _ _ => rfl)) pe_int) pe_int) pa_nil)) pe_int) (pg_sub (pv 0) pe_int set_list))
       (pss_cons (ps_asg (pe_op op_mod (pe_callTy call_int1 (by rfl) T.b_int (by decide +kernel) (pa_cons (pe_op op_add (pe_op op_mul (pe_ix (r := rIxL K) ix_list (pv 0) pe_int (fun _ _ => rfl)) pe_int) pe_int) pa_nil)) pe_int) (pg_sub (pv 0) pe_int set_list))
       (pss_one (ps_ret (pe_op op_mod (pe_callTy call_int1 (by rfl) T.b_int (by decide +kernel) (pa_cons (pe_op op_add (pe_op op_fdiv (pe_ix (r := rIxL K) ix_list (pv 0) pe_int (fun _ _ => rfl)) pe_int) (pe_op op_fdiv (pe_ix (r := rIxL K) ix_list (pv 0) pe_int (fun _ _ => rfl)) pe_int)) pa_nil)) (pv 1)))))))), ?_⟩
    obtain ⟨a, b, c, ds, hn, h1, h2, h3⟩ := hD
    have nl : l ≠ d := hn.symm
    walk_at "rd"
    walk_at "go"
    split
    · rename_i hlt
      walk_at "go"
      obtain ⟨z, hz⟩ := atI_ints h3 hlt
      refine ⟨_, hz, .inl ⟨_, rfl, hm, ?_⟩⟩
      exact q _ _ (Int.emod_nonneg _ (by omega)) (Int.emod_lt_of_pos _ hm) ⟨a + 1, b, c, ds, hn, upd_same, (upd_ne nl).trans h2, by omega⟩ .put
    · walk_at "go"
      refine q _ _ (Int.emod_nonneg _ (by omega)) (Int.emod_lt_of_pos _ hm) ⟨a, _, _, ds, hn, upd_same, (upd_ne nl).trans ((upd_ne nl).trans h2), h3⟩ (.trans .put .put)
theorem ok_Lsigns (T : Top K mg) : FnOk P w K mg base CX0 1 T.f_Lsigns T.fd_Lsigns [] sp_Lsigns := by
  refine T.F_Lsigns.ok sc_Lsigns (fun vs H Q E h => ?_) (fun cdv A outer s H vs Q E hr h => ?_)
  · obtain ⟨rfl, _⟩ := h
    rfl
  · obtain ⟨rfl, q⟩ := h
    refine ⟨_, (pss_cons (ps_set (i := 0) sc_Lsigns.nd rfl (Or.inl rfl) pe_str)
       (pss_one (ps_ret (pe_op op_add_str (pv 0) pe_str)))), ?_⟩
    walk_at "rd"
    refine ⟨by decide, ?_⟩
    exact sgs_tx ▸ q
end
end My
namespace My
open PySem L2
local macro_rules | `(tactic| walk_at "rd") => `(tactic| simp only [tSeq, tNext, tAsg, tOp, tUn, tC, tVar, gName, gSub, tCons, tNil, tCB, tIfS, tIf, tTest, tB, tAnd, tOr, tNot, tAndV, tOrV, tNotV, tRet, tRetN, tDrop, tLst, tTup, tCall, tSl, tNoPart, tPart, tM0, tM1, tBM, tBM0, tYes, tFor_eq, tLc_eq, iList, iRng1, iRng2, iStr, sg_tx, c_empty, rstrip_sign, find_sign, cut_last, cut_to, cut_from, cut_mid, cut_to_lit, cut_from_lit, and_assoc, flat_rep, List.length_replicate, tx_len, tx_eq, tx_app, tx_cps, rI0, rI, rU, rEq, rNe, rIxL, rIxS, rIxT, rSetL, rAppend, rPopAt, rSlS, rSlL, rIn, rMulS, rLtD, rJoin, rLenQ, rListOf,  tRevS, 
  scal, L2.start, List.map_cons, List.map_nil, List.length_cons, List.length_nil, List.replicate, List.cons_append, List.nil_append, List.append_nil,
  List.getElem?_cons_zero, List.getElem?_cons_succ, List.set_cons_zero, List.set_cons_succ, Nat.sub_zero, Nat.reduceSub, Nat.reduceAdd, Nat.zero_add, id_eq, Int.reduceToNat, exists_or,
  V.int.injEq, V.str.injEq, V.bl.injEq, V.ref.injEq, Option.some.injEq, List.cons.injEq, exists_and_left, exists_eq_left', exists_eq_left, exists_eq, exists_eq', and_true, true_and, reduceCtorEq, false_and, and_false, exists_false, false_or, or_false, decide_eq_true_eq, Bool.not_eq_true', decide_eq_false_iff_not, Bool.not_not, Bool.false_eq_true, ↓reduceIte, if_true, if_false])

local macro_rules | `(tactic| walk_at "ne") => `(tactic| first | assumption | (refine Ne.symm ?_; assumption) | exact (ne_of_none (by assumption) (by assumption)) | exact (ne_of_none (by assumption) (by assumption)).symm)
local macro_rules | `(tactic| walk_at "hp") => `(tactic| first | assumption | exact upd_same | exact (upd_ne (by walk_at "ne")).trans (by walk_at "hp"))
local macro_rules | `(tactic| walk_at "st1") => `(tactic| first
  | refine ⟨_, Or.inl (Or.inl (by walk_at "hp")), ?_⟩
  | refine ⟨_, Or.inl (Or.inl (Or.inl (by walk_at "hp"))), ?_⟩
  | refine ⟨_, (show _ = some (HO.lst _) by walk_at "hp"), ?_⟩
  | refine ⟨_, rfl, ?_⟩
  | refine ⟨(rfl : ("str" : String) = "str"), ?_⟩
  | refine ⟨Or.inr ⟨by decide, by decide⟩, ?_⟩
  | refine ⟨⟨by decide, by decide⟩, ?_⟩
  | refine ⟨by decide, ?_⟩
  | refine ⟨by assumption, ?_⟩)
local macro_rules | `(tactic| walk_at "st") => `(tactic| repeat walk_at "st1")
local macro_rules | `(tactic| walk_at "go") => `(tactic| repeat first | walk_at "st1" | walk_at "rd")
section
variable {P : Program} {w : World} {K : PySem.W.Frag} {mg : Str → Option Value} {base : Heap}
def sp_Ldraw (K : PySem.W.Frag) : Sp := fun vs H Q _ => ∃ (a : Addr) (ns : List Int), vs = [.ref a] ∧ SqL K H a (ns.map V.int) ∧ ns.length ≤ 63 ∧ ∀ (d l : Addr) (H' : Hp), H d = none → H l = none → Same H H' → Drw H' d l → Q (.ref d) H'
theorem ok_Ldraw (T : Top K mg) : FnOk P w K mg base CX0 1 T.f_Ldraw T.fd_Ldraw ["_law_script"] (sp_Ldraw K) := by
  refine T.F_Ldraw.ok sc_Ldraw (fun vs H Q E h => ?_) (fun cdv A outer s H vs Q E hr h => ?_)
  · obtain ⟨a, ns, rfl, _⟩ := h
    rfl
  · obtain ⟨a, ns, rfl, hS, hn, q⟩ := h
    refine ⟨_, (pss_cons (ps_set (i := 1) sc_Ldraw.nd rfl (Or.inl rfl) (pe_lst pa_nil))
       (pss_cons (ps_set (i := 2) sc_Ldraw.nd rfl (Or.inl rfl) pe_int)
       (pss_cons (ps_set (i := 3) sc_Ldraw.nd rfl (Or.inl rfl) pe_int)
       (pss_cons (ps_for PassesOwn.never rfl (pi_list (pv 0)) (pg_name (i := 4) sc_Ldraw.nd rfl (Or.inl rfl))
       (pss_cons (ps_set (i := 2) sc_Ldraw.nd rfl (Or.inl rfl) (pe_op op_mod (pe_callTy call_int1 (by rfl) T.b_int (by decide +kernel) (pa_cons (pe_op op_add (pe_op op_mul (pv 2) pe_int) (pv 4)) pa_nil)) pe_int))
       (pss_cons (ps_set (i := 3) sc_Ldraw.nd rfl (Or.inl rfl) (pe_op op_mod (pe_callTy call_int1 (by rfl) T.b_int (by decide +kernel) (pa_cons (pe_op op_add (pe_op op_mul (pv 3) pe_int) (pe_op op_fdiv (pv 4) pe_int)) pa_nil)) pe_int))
       (pss_cons (ps_set (i := 5) sc_Ldraw.nd rfl (Or.inl rfl) (pv 4))
       (pss_cut (ps_if (pt_cmpR op_lt (pv 4) (pe_op op_pow pe_int pe_int) (nomark _)) (pss_one (ps_set (i := 5) sc_Ldraw.nd rfl (Or.inl rfl) pe_int)) pss_nil)
       (pss_one (ps_for PassesOwn.never rfl (pi_range1 rfl T.b_range (pa_cons pe_int pa_nil)) (pg_name (i := 6) sc_Ldraw.nd rfl (Or.inl rfl))
       (pss_one (ps_if (pt_cmpR op_gt (pv 5) pe_int (nomark _)) (pss_cons (ps_expr (pe_bm PySem.F.plainAttrs_list PySem.F.slot_list_append PySem.F.type_list_append mt_append (pv 1) (pa_cons (pe_op op_mod (pe_callTy call_int1 (by rfl) T.b_int (by decide +kernel) (pa_cons (pv 5) pa_nil)) pe_int) pa_nil)))
       (pss_one (ps_set (i := 5) sc_Ldraw.nd rfl (Or.inl rfl) (pe_op op_fdiv (pv 5) pe_int)))) pss_nil)))))))))
       (pss_one (ps_ret (pe_lst (pa_cons pe_int (pa_cons (pv 2) (pa_cons (pv 3) (pa_cons (pv 1) (pa_cons pe_int pa_nil)))))))))))), ?_⟩
    walk_at "rd"
    refine ⟨by decide, fun l hl => ?_⟩
    refine ⟨⟨_, (same_upd hl).seq hS⟩, ?_⟩
    obtain ⟨Pv, hP⟩ : ∃ Pv : Nat → St → Hp → Prop, ∀ i σ H', Pv i σ H' ↔ ∃ (one two : Int) (v4 v5 v6 : Option V) (ds : List Int), σ = [some (V.ref a), some (V.ref l), some (V.int one), some (V.int two), v4, v5, v6] ∧ Same H H' ∧ H' l = some (.lst (ds.map V.int)) ∧ ds.length ≤ 60 * i := ⟨_, fun _ _ _ => Iff.rfl⟩
    refine forJ_by (reg_list _ a (ns.map V.int)) Pv ?_ ?_ ?_ ?_
    · intro i σ H' h
      obtain ⟨_, _, _, _, _, _, _, sm, _⟩ := (hP _ _ _).mp h
      exact sm.seq hS
    · exact (hP _ _ _).mpr ⟨7, 11, none, none, none, [], rfl, same_upd hl, upd_same, by decide⟩
    · intro i x σ H' hi h
      obtain ⟨one, two, v4, v5, v6, ds, rfl, sm, hL, hlen⟩ := (hP _ _ _).mp h
      have hi2 : i < ns.length := by
        have := (List.getElem?_eq_some_iff.mp hi).1
        rw [List.length_map] at this; exact this
      obtain ⟨z, rfl⟩ : ∃ z, x = V.int z := by
        rw [List.getElem?_map, List.getElem?_eq_getElem hi2] at hi
        exact ⟨_, (Option.some.inj hi).symm⟩
      walk_at "rd"
      walk_at "go"
      obtain ⟨Mid, hM⟩ : ∃ Mid : St → Hp → Prop, ∀ σ' H2, Mid σ' H2 ↔ ∃ (one two r : Int) (v6 : Option V), σ' = [some (V.ref a), some (V.ref l), some (V.int one), some (V.int two), some (V.int z), some (V.int r), v6] ∧ H2 = H' := ⟨_, fun _ _ => Iff.rfl⟩
      refine ⟨Mid, ?_, ?_⟩
      · walk_at "rd"
        refine ⟨⟨by decide, by decide, by decide⟩, ?_⟩
        split
        · exact (hM _ _).mpr ⟨_, _, _, _, rfl, rfl⟩
        · exact (hM _ _).mpr ⟨_, _, _, _, rfl, rfl⟩
      · intro σ' H2 h2
        obtain ⟨one', two', r, v6', rfl, rfl⟩ := (hM _ _).mp h2
        walk_at "rd"
        refine ⟨by decide, by decide, ?_⟩
        obtain ⟨Pj, hJ⟩ : ∃ Pj : Nat → St → Hp → Prop, ∀ j σ H', Pj j σ H' ↔ ∃ (r : Int) (v6 : Option V) (ds : List Int), σ = [some (V.ref a), some (V.ref l), some (V.int one'), some (V.int two'), some (V.int z), some (V.int r), v6] ∧ Same H H' ∧ H' l = some (.lst (ds.map V.int)) ∧ ds.length ≤ 60 * i + j := ⟨_, fun _ _ _ => Iff.rfl⟩
        refine forJ_by (reg_range _ _) Pj ?_ ?_ ?_ ?_
        · intros; trivial
        · exact (hJ _ _ _).mpr ⟨_, _, ds, rfl, sm, hL, by omega⟩
        · intro j b σ H' hj h
          obtain ⟨r, v6, ds, rfl, sm, hL, hlen⟩ := (hJ _ _ _).mp h
          have hj2 : j < 60 := by
            have := (List.getElem?_eq_some_iff.mp hj).1
            rw [List.length_range] at this; exact this
          walk_at "rd"
          split
          · have hsz : (ds.map V.int).length < sizeLine := by
              rw [List.length_map]
              have h1 : 60 * i + j ≤ 60 * 63 + 60 := by omega
              exact Nat.lt_of_le_of_lt (Nat.le_trans hlen h1) (by decide)
            refine ⟨.inl ⟨rfl, _, .inl (.inl hL)⟩, ?_⟩
            walk_at "go"
            refine (hJ _ _ _).mpr ⟨_, _, ds ++ [r % 5040], rfl, ?_, ?_, ?_⟩
            · intro b o e
              rw [upd_ne (ne_of_none e hl)]
              exact sm _ _ e
            · rw [upd_same, List.map_append]; rfl
            · rw [List.length_append]; simp; omega
          · exact (hJ _ _ _).mpr ⟨_, _, ds, rfl, sm, hL, by omega⟩
        · intro σ H' h
          obtain ⟨r, v6, ds, rfl, sm, hL, hlen⟩ := (hJ _ _ _).mp h
          rw [List.length_range] at hlen
          have e60 : (60 : Int).toNat = 60 := rfl
          exact (hP _ _ _).mpr ⟨_, _, _, _, _, ds, rfl, sm, hL, by omega⟩
    · intro σ H' h
      obtain ⟨one, two, v4, v5, v6, ds, rfl, sm, hL, hlen⟩ := (hP _ _ _).mp h
      walk_at "rd"
      refine ⟨by decide, fun d hd => ?_⟩
      have nl : l ≠ d := ne_of_none hL hd
      exact q d l _ (sm.free hd) hl (sm.trans (same_upd hd)) ⟨0, _, _, ds, nl.symm, upd_same, (upd_ne nl).trans hL, by decide⟩
end
end My
namespace My
open PySem L2
local macro_rules | `(tactic| walk_at "rd") => `(tactic| simp only [tSeq, tNext, tAsg, tOp, tUn, tC, tVar, gName, gSub, tCons, tNil, tCB, tIfS, tIf, tTest, tB, tAnd, tOr, tNot, tAndV, tOrV, tNotV, tRet, tRetN, tDrop, tLst, tTup, tCall, tSl, tNoPart, tPart, tM0, tM1, tBM, tBM0, tYes, tFor_eq, tLc_eq, iList, iRng1, iRng2, iStr, sg_tx, c_empty, rstrip_sign, find_sign, cut_last, cut_to, cut_from, cut_mid, cut_to_lit, cut_from_lit, and_assoc, flat_rep, List.length_replicate, tx_len, tx_eq, tx_app, tx_cps, rI0, rI, rU, rEq, rNe, rIxL, rIxS, rIxT, rSetL, rAppend, rPopAt, rSlS, rSlL, rIn, rMulS, rLtD, rJoin, rLenQ, rListOf,  tRevS, 
  scal, L2.start, List.map_cons, List.map_nil, List.length_cons, List.length_nil, List.replicate, List.cons_append, List.nil_append, List.append_nil,
  List.getElem?_cons_zero, List.getElem?_cons_succ, List.set_cons_zero, List.set_cons_succ, Nat.sub_zero, Nat.reduceSub, Nat.reduceAdd, Nat.zero_add, id_eq, Int.reduceToNat, exists_or,
  V.int.injEq, V.str.injEq, V.bl.injEq, V.ref.injEq, Option.some.injEq, List.cons.injEq, exists_and_left, exists_eq_left', exists_eq_left, exists_eq, exists_eq', and_true, true_and, reduceCtorEq, false_and, and_false, exists_false, false_or, or_false, decide_eq_true_eq, Bool.not_eq_true', decide_eq_false_iff_not, Bool.not_not, Bool.false_eq_true, ↓reduceIte, if_true, if_false])

local macro_rules | `(tactic| walk_at "ne") => `(tactic| first | assumption | (refine Ne.symm ?_; assumption) | exact (ne_of_none (by assumption) (by assumption)) | exact (ne_of_none (by assumption) (by assumption)).symm)
local macro_rules | `(tactic| walk_at "hp") => `(tactic| first | assumption | exact upd_same | exact (upd_ne (by walk_at "ne")).trans (by walk_at "hp"))
local macro_rules | `(tactic| walk_at "st1") => `(tactic| first
  | refine ⟨_, Or.inl (Or.inl (by walk_at "hp")), ?_⟩
  | refine ⟨_, Or.inl (Or.inl (Or.inl (by walk_at "hp"))), ?_⟩
  | refine ⟨_, (show _ = some (HO.lst _) by walk_at "hp"), ?_⟩
  | refine ⟨_, rfl, ?_⟩
  | refine ⟨(rfl : ("str" : String) = "str"), ?_⟩
  | refine ⟨Or.inr ⟨by decide, by decide⟩, ?_⟩
  | refine ⟨⟨by decide, by decide⟩, ?_⟩
  | refine ⟨by decide, ?_⟩
  | refine ⟨by assumption, ?_⟩)
local macro_rules | `(tactic| walk_at "st") => `(tactic| repeat walk_at "st1")
local macro_rules | `(tactic| walk_at "go") => `(tactic| repeat first | walk_at "st1" | walk_at "rd")
section
variable {P : Program} {w : World} {K : PySem.W.Frag} {mg : Str → Option Value} {base : Heap}
def sp_precedes : Sp := fun vs H Q _ => ∃ (a b : List Nat), vs = [.str (tx a), .str (tx b)] ∧ a.length ≤ 10000 ∧ b.length ≤ 10000 ∧ ∀ H', Same H H' → Q (.bl (prec a b)) H'
theorem ok_precedes (T : Top K mg) : FnOk P w K mg base CX0 1 T.f_precedes T.fd_precedes ["text", "other"] sp_precedes := by
  refine T.F_precedes.ok sc_precedes (fun vs H Q E h => ?_) (fun cdv A outer s H vs Q E hr h => ?_)
  · obtain ⟨a, b, rfl, _⟩ := h
    rfl
  · obtain ⟨a, b, rfl, ha, hb, q⟩ := h
    refine ⟨_, (pss_one (ps_ret (pe_cmpR (r := rLtD K) (op_ltD hr.units) (pe_tup (pa_cons (pe_callB call_len_str (by rfl) T.b_len PySem.boot_len (pa_cons (pv 0) pa_nil)) (pa_cons (pv 0) pa_nil))) (pe_tup (pa_cons (pe_callB call_len_str (by rfl) T.b_len PySem.boot_len (pa_cons (pv 1) pa_nil)) (pa_cons (pv 1) pa_nil))) (nomark _)))), ?_⟩
    walk_at "rd"
    have la : a.length ≤ sizeLine := Nat.le_trans ha (by decide)
    have lb : b.length ≤ sizeLine := Nat.le_trans hb (by decide)
    refine ⟨la, by decide, fun p hp => ⟨lb, by decide, fun r hr' => ?_⟩⟩
    have npr : p ≠ r := ne_of_none upd_same hr'
    refine ⟨PyData.tuple [.int a.length, .str (tx a)], ?_, PyData.tuple [.int b.length, .str (tx b)], ?_, ?_, ?_, ?_, ?_⟩
    · exact .tup (.inl (.inl (by rw [upd_ne npr]; exact upd_same))) (.cons (.int _) (.cons (.str _) .nil))
    · exact .tup (.inl (.inl upd_same)) (.cons (.int _) (.cons (.str _) .nil))
    · simp [PySem.W.alike, PySem.W.alikeAll]
    · simp
    · simp [PyData.depth, PyData.depthAll]
    · rw [lt_pair]
      have e : (decide ((a.length : Int) < (b.length : Int)) || (decide ((a.length : Int) = (b.length : Int)) && decide ((tx a).cps.toList < (tx b).cps.toList))) = prec a b := by
        unfold prec
        rw [tx_cps, tx_cps]
        have e1 : ((a.length : Int) < (b.length : Int)) ↔ a.length < b.length := by omega
        have e2 : ((a.length : Int) = (b.length : Int)) ↔ a.length = b.length := by omega
        rw [decide_eq_decide.mpr e1, decide_eq_decide.mpr e2]
      rw [e]
      exact q _ (.trans (same_upd hp) (same_upd hr'))
def sp_next_text : Sp := fun vs H Q _ => ∃ (t s : List Nat), vs = [.str (tx t), .str (tx s)] ∧ s ≠ [] ∧ (∀ c ∈ t, c ∈ s) ∧ t.length ≤ 10000 ∧ s.length ≤ 100 ∧ Q (.str (tx (nxt t s))) H
theorem ok_next_text (T : Top K mg) : FnOk P w K mg base CX0 1 T.f_next_text T.fd_next_text ["text", "signs"] sp_next_text := by
  refine T.F_next_text.ok sc_next_text (fun vs H Q E h => ?_) (fun cdv A outer s H vs Q E hr h => ?_)
  · obtain ⟨a, b, rfl, _⟩ := h
    rfl
  · obtain ⟨t, s, rfl, hs, hsub, ht, hsl, q⟩ := h
    refine ⟨_, (pss_cons (ps_set (i := 2) sc_next_text.nd rfl (Or.inl rfl) (pe_bm PySem.F.plainAttrs_str PySem.F.slot_str_rstrip PySem.F.type_str_rstrip mt_rstripChars (pv 0) (pa_cons (pe_ix ix_str (pv 1) (pe_un un_neg pe_int) (fun _ _ => rfl)) pa_nil)))
       (pss_cons (ps_set (i := 3) sc_next_text.nd rfl (Or.inl rfl) (pe_op op_mul_str (pe_ix ix_str (pv 1) pe_int (fun _ _ => rfl)) (pe_op op_sub (pe_callB call_len_str (by rfl) T.b_len PySem.boot_len (pa_cons (pv 0) pa_nil)) (pe_callB call_len_str (by rfl) T.b_len PySem.boot_len (pa_cons (pv 2) pa_nil)))))
       (pss_cons (ps_if (pt_cmpR op_eq (pv 2) pe_str (nomark _)) (pss_one (ps_ret (pe_op op_add_str (pe_ix ix_str (pv 1) pe_int (fun _ _ => rfl)) (pv 3)))) pss_nil)
       (pss_one (ps_ret (pe_op op_add_str (pe_op op_add_str (pe_slice sl_str (pv 2) po_none (po_some (pe_un un_neg pe_int))) (pe_ix ix_str (pv 1) (pe_op op_add (pe_bm PySem.F.plainAttrs_str PySem.F.slot_str_index PySem.F.type_str_index mt_indexS (pv 1) (pa_cons (pe_ix ix_str (pv 2) (pe_un un_neg pe_int) (fun _ _ => rfl)) pa_nil)) pe_int) (fun _ _ => rfl))) (pv 3))))))), ?_⟩
    walk_at "rd"
    have l1 : ∀ {n : Nat}, n ≤ 20000 → n ≤ sizeLine := fun h => Nat.le_trans h (by decide)
    have hk := rs_le (s.getLast hs) t
    obtain ⟨c, r, rfl⟩ : ∃ c r, s = c :: r := by
      cases s with
      | nil => exact absurd rfl hs
      | cons c r => exact ⟨c, r, rfl⟩
    refine ⟨rfl, l1 (by omega), _, atI_neg1 hs, l1 (by omega), l1 (by omega), c, atI_zero rfl, l1 (by omega), ?_⟩
    walk_at "rd"
    have hk2 : t.length - (rs ((c :: r).getLast hs) t).length ≤ 10000 := by omega
    refine ⟨l1 (by omega), t.length - (rs ((c :: r).getLast hs) t).length, by omega, by omega, by decide, ?_⟩
    have eL : (c :: r).getLastD 0 = (c :: r).getLast hs := List.getLastD_eq_getLast? .. ▸ by rw [List.getLast?_eq_some_getLast hs]; rfl
    have eH : (c :: r).headD 0 = c := rfl
    unfold nxt at q
    rw [eL, eH] at q
    split
    · rename_i h0
      rw [if_pos h0] at q
      refine ⟨l1 (by simp at hsl; omega), c, atI_zero rfl, l1 (by omega), q⟩
    · rename_i h0
      rw [if_neg h0] at q
      have hm : (rs ((c :: r).getLast hs) t).getLast h0 ∈ c :: r := hsub _ (rs_sub (List.getLast_mem h0))
      have hf := fi_next hm hs (rs_last h0)
      have eK : (rs ((c :: r).getLast hs) t).getLastD 0 = (rs ((c :: r).getLast hs) t).getLast h0 := List.getLastD_eq_getLast? .. ▸ by rw [List.getLast?_eq_some_getLast h0]; rfl
      rw [eK] at q
      refine ⟨l1 (by omega), rfl, l1 (by omega), _, atI_neg1 h0, hm, l1 (by simp at hsl; omega), (c :: r).getD (fi ((rs ((c :: r).getLast hs) t).getLast h0) (c :: r) + 1) 0, ?_, l1 ?_, l1 ?_, q⟩
      · have : atI (c :: r) ((fi ((rs ((c :: r).getLast hs) t).getLast h0) (c :: r) + 1 : Nat) : Int) = some ((c :: r).getD (fi ((rs ((c :: r).getLast hs) t).getLast h0) (c :: r) + 1) 0) := atI_nat (by
          rw [List.getElem?_eq_getElem hf, List.getD_eq_getElem?_getD, List.getElem?_eq_getElem hf]
          rfl)
        exact this
      · rw [List.length_dropLast]; omega
      · rw [List.length_append, List.length_dropLast]
        simp
        omega
end
end My
namespace My
open PySem L2
local macro_rules | `(tactic| walk_at "rd") => `(tactic| simp only [sp_Lnext, sp_Lsigns, tSeq, tNext, tAsg, tOp, tUn, tC, tVar, gName, gSub, tCons, tNil, tCB, tIfS, tIf, tTest, tB, tAnd, tOr, tNot, tAndV, tOrV, tNotV, tRet, tRetN, tDrop, tLst, tTup, tCall, tSl, tNoPart, tPart, tM0, tM1, tBM, tBM0, tYes, tFor_eq, tLc_eq, iList, iRng1, iRng2, iStr, sg_tx, c_empty, rstrip_sign, find_sign, cut_last, cut_to, cut_from, cut_mid, cut_to_lit, cut_from_lit, and_assoc, flat_rep, List.length_replicate, tx_len, tx_eq, tx_app, tx_cps, rI0, rI, rU, rEq, rNe, rIxL, rIxS, rIxT, rSetL, rAppend, rPopAt, rSlS, rSlL, rIn, rMulS, rLtD, rJoin, rLenQ, rListOf,  tRevS, 
  scal, L2.start, List.map_cons, List.map_nil, List.length_cons, List.length_nil, List.replicate, List.cons_append, List.nil_append, List.append_nil,
  List.getElem?_cons_zero, List.getElem?_cons_succ, List.set_cons_zero, List.set_cons_succ, Nat.sub_zero, Nat.reduceSub, Nat.reduceAdd, Nat.zero_add, id_eq, Int.reduceToNat, exists_or,
  V.int.injEq, V.str.injEq, V.bl.injEq, V.ref.injEq, Option.some.injEq, List.cons.injEq, exists_and_left, exists_eq_left', exists_eq_left, exists_eq, exists_eq', and_true, true_and, reduceCtorEq, false_and, and_false, exists_false, false_or, or_false, decide_eq_true_eq, Bool.not_eq_true', decide_eq_false_iff_not, Bool.not_not, Bool.false_eq_true, ↓reduceIte, if_true, if_false])

local macro_rules | `(tactic| walk_at "ne") => `(tactic| first | assumption | (refine Ne.symm ?_; assumption) | exact (ne_of_none (by assumption) (by assumption)) | exact (ne_of_none (by assumption) (by assumption)).symm)
local macro_rules | `(tactic| walk_at "hp") => `(tactic| first | assumption | exact upd_same | exact (upd_ne (by walk_at "ne")).trans (by walk_at "hp"))
local macro_rules | `(tactic| walk_at "st1") => `(tactic| first
  | refine ⟨_, Or.inl (Or.inl (by walk_at "hp")), ?_⟩
  | refine ⟨_, Or.inl (Or.inl (Or.inl (by walk_at "hp"))), ?_⟩
  | refine ⟨_, (show _ = some (HO.lst _) by walk_at "hp"), ?_⟩
  | refine ⟨_, rfl, ?_⟩
  | refine ⟨(rfl : ("str" : String) = "str"), ?_⟩
  | refine ⟨Or.inr ⟨by decide, by decide⟩, ?_⟩
  | refine ⟨⟨by decide, by decide⟩, ?_⟩
  | refine ⟨by decide, ?_⟩
  | refine ⟨by assumption, ?_⟩)
local macro_rules | `(tactic| walk_at "st") => `(tactic| repeat walk_at "st1")
local macro_rules | `(tactic| walk_at "go") => `(tactic| repeat first | walk_at "st1" | walk_at "rd")
section
variable {P : Program} {w : World} {K : PySem.W.Frag} {mg : Str → Option Value} {base : Heap}
def sp_Lsubset : Sp := fun vs H Q _ => ∃ d l, vs = [.ref d] ∧ Drw H d l ∧ ∀ (cs : List Nat) (H' : Hp), cs.Sublist SG → Drw H' d l → But d H H' → Q (.str (tx cs)) H'
theorem ok_Lsubset (T : Top K mg) : FnOk P w K mg base CX0 2 T.f_Lsubset T.fd_Lsubset ["_law_draw_here"] sp_Lsubset := by
  refine T.F_Lsubset.ok sc_Lsubset (fun vs H Q E h => ?_) (fun cdv A outer s H vs Q E hr h => ?_)
  · obtain ⟨d, l, rfl, _⟩ := h
    rfl
  · obtain ⟨d, l, rfl, hD, q⟩ := h
    refine ⟨_, (pss_cons (ps_set (i := 1) sc_Lsubset.nd rfl (Or.inr rfl) (pe_call0 (ok_Lsigns T) (hr.mono (by decide)) (by rfl) T.g_Lsigns T.F_Lsigns.kp T.B_Lsigns .nil pass0))
       (pss_cons (ps_set (i := 2) sc_Lsubset.nd rfl (Or.inl rfl) (pe_call (ok_Lnext T) (hr.mono (by decide)) (by rfl) T.g_Lnext T.F_Lnext.kp T.B_Lnext .nil pass0 (pa_cons (pv 0) (pa_cons pe_int pa_nil))))
       (pss_cons (ps_if (pt_cmpR op_eq (pv 2) pe_int (nomark _)) (pss_one (ps_ret (pe_ix (r := rIxL K) ix_list (pe_lst (pa_cons pe_str (pa_cons (pv 1) (pa_cons (pe_slice sl_str (pv 1) po_none (po_some pe_int)) (pa_cons (pe_slice sl_str (pv 1) (po_some pe_int) po_none) (pa_cons (pe_slice sl_str (pv 1) (po_some pe_int) po_none) (pa_cons (pe_slice sl_str (pv 1) po_none (po_some pe_int)) pa_nil))))))) (pe_call (ok_Lnext T) (hr.mono (by decide)) (by rfl) T.g_Lnext T.F_Lnext.kp T.B_Lnext .nil pass0 (pa_cons (pv 0) (pa_cons pe_int pa_nil))) (fun _ _ => rfl)))) pss_nil)
       (pss_cons (ps_if (pt_cmpR op_lt (pv 2) pe_int (nomark _)) (pss_cons (ps_set (i := 3) sc_Lsubset.nd rfl (Or.inl rfl) (pe_call (ok_Lnext T) (hr.mono (by decide)) (by rfl) T.g_Lnext T.F_Lnext.kp T.B_Lnext .nil pass0 (pa_cons (pv 0) (pa_cons pe_int pa_nil))))
       (pss_one (ps_ret (pe_slice sl_str (pv 1) (po_some (pv 3)) (po_some (pe_op op_add (pe_op op_add (pv 3) pe_int) (pe_call (ok_Lnext T) (hr.mono (by decide)) (by rfl) T.g_Lnext T.F_Lnext.kp T.B_Lnext .nil pass0 (pa_cons (pv 0) (pa_cons pe_int pa_nil))))))))) pss_nil)
       (pss_cons (ps_if (pt_cmpR op_lt (pv 2) pe_int (nomark _)) (pss_cons (ps_set (i := 4) sc_Lsubset.nd rfl (Or.inr rfl) (pe_lc (own := [("_law_k", 6)]) (g := gName 6) (by rfl) sc_Lsubset.nd (pi_range1 rfl T.b_range (pa_cons (pe_op op_add pe_int (pe_call (ok_Lnext T) (hr.mono (by decide)) (by rfl) T.g_Lnext T.F_Lnext.kp T.B_Lnext .nil pass0 (pa_cons (pv 0) (pa_cons pe_int pa_nil)))) pa_nil)) (blkOk_by (own := [("_law_k", 6)]) (N := n_Lsubset) (sc := defScope s_Lsubset) (by decide +kernel)) (fun _ _ _ _ _ => pg_name (i := 6) sc_Lsubset.nd rfl (Or.inl rfl)) (fun _ _ _ _ _ => pts_nil) (fun _ _ _ _ _ => (pe_ix ix_str (pv 1) (pe_call (ok_Lnext T) (hr.mono (by decide)) (by rfl) T.g_Lnext T.F_Lnext.kp T.B_Lnext .nil pass0 (pa_cons (pv 0) (pa_cons pe_int pa_nil))) (fun _ _ => rfl)))))
       (pss_one (ps_ret (pe_m1 (r := rJoin K) PySem.F.slot_str_join PySem.F.type_str_join mt_joinQ pe_str (pe_lc (own := [("_law_sign", 7)]) (g := gName 7) (by rfl) sc_Lsubset.nd (pi_str (pv 1)) (blkOk_by (own := [("_law_sign", 7)]) (N := n_Lsubset) (sc := defScope s_Lsubset) (by decide +kernel)) (fun _ _ _ _ _ => pg_name (i := 7) sc_Lsubset.nd rfl (Or.inl rfl)) (fun _ _ _ _ _ => (pts_one (pt_cmpR (r := rIn K false) op_in_seq (pv 7) (pv 4) (by rfl)))) (fun _ _ _ _ _ => (pv 7))))))) pss_nil)
       (pss_cons (ps_set (i := 5) sc_Lsubset.nd rfl (Or.inr rfl) (pe_op op_sub (pv 2) pe_int))
       (pss_one (ps_ret (pe_m1 (r := rJoin K) PySem.F.slot_str_join PySem.F.type_str_join mt_joinQ pe_str (pe_lc (own := [("_law_sign", 7)]) (g := gName 7) (by rfl) sc_Lsubset.nd (pi_str (pv 1)) (blkOk_by (own := [("_law_sign", 7)]) (N := n_Lsubset) (sc := defScope s_Lsubset) (by decide +kernel)) (fun _ _ _ _ _ => pg_name (i := 7) sc_Lsubset.nd rfl (Or.inl rfl)) (fun _ _ _ _ _ => (pts_one (pt_cmpR op_eq (pe_call (ok_Lnext T) (hr.mono (by decide)) (by rfl) T.g_Lnext T.F_Lnext.kp T.B_Lnext .nil pass0 (pa_cons (pv 0) (pa_cons (pv 5) pa_nil))) pe_int (nomark _)))) (fun _ _ _ _ _ => (pv 7)))))))))))), ?_⟩
    have lS : SG.length ≤ sizeLine := line20 (by rw [SG_len]; decide)
    walk_at "rd"
    refine ⟨l, hD, by decide, fun r0 H1 a0 b0 D1 B1 => ?_⟩
    split
    · refine ⟨lS, lS, lS, lS, by decide, fun p hp => ⟨l, D1.new hp, by decide, fun r H2 a b D2 B2 => ?_⟩⟩
      obtain ⟨v, e, hv⟩ := atI_six a b
      have hp2 := B2 _ _ (D1.ne hp) (upd_same)
      refine ⟨_, .inl (.inl hp2), _, e, ?_⟩
      have B := (B1.new hp).trans B2
      rcases hv with rfl | rfl | rfl | rfl | rfl | rfl
      · exact q _ _ (List.nil_sublist _) D2 B
      · exact q _ _ (List.Sublist.refl _) D2 B
      · rw [cut_to_lit]; exact q _ _ (List.take_sublist _ _) D2 B
      · rw [cut_from_lit]; exact q _ _ (List.drop_sublist _ _) D2 B
      · rw [cut_from_lit]; exact q _ _ (List.drop_sublist _ _) D2 B
      · rw [cut_to_lit]; exact q _ _ (List.take_sublist _ _) D2 B
    · split
      · refine ⟨l, D1, by decide, fun r1 H2 a1 b1 D2 B2 => ⟨l, D2, by decide, fun r2 H3 a2 b2 D3 B3 => ⟨lS, ?_⟩⟩⟩
        obtain ⟨i, rfl⟩ := Int.eq_ofNat_of_zero_le a1
        obtain ⟨j, rfl⟩ := Int.eq_ofNat_of_zero_le a2
        have e : ((i : Int) + 1 + (j : Int)) = ((i + 1 + j : Nat) : Int) := by omega
        rw [e, cut_mid]
        exact q _ _ ((List.take_sublist _ _).trans (List.drop_sublist _ _)) D3 ((B1.trans B2).trans B3)
      · split
        · refine ⟨l, D1, by decide, fun r1 H2 a1 b1 D2 B2 => ⟨by omega, by omega, ?_⟩⟩
          have e0 : (1 + r1).toNat ≤ 6 := by omega
          refine lc_any (reg_range 0 (1 + r1).toNat) (fun c => c ∈ SG) (by rw [List.length_range]; omega) D2 (fun a H Q _ hD' hq => ?_) (fun D H3 es hD0 he _ D3 B3 eD => ?_)
          · walk_at "rd"
            refine ⟨l, hD', by decide, fun r H' ra rb hD2 hB => ⟨lS, ?_⟩⟩
            obtain ⟨j, rfl, hj, e⟩ := atI_pos (s := SG) ra (by rw [SG_len]; omega)
            exact ⟨_, e, hq _ _ (List.getElem_mem hj) hD2 hB⟩
          · have hs : ∀ D' acc, H3 D' = none → SqL K (upd H3 D' (.lst acc)) D (es.map fun c => V.str (tx [c])) := fun D' acc h0 => .inl (.inl ((upd_ne (ne_of_none eD h0)).trans eD))
            refine lcJ_pure (reg_text SG) (fun c => decide (c ∈ es)) (fun c => V.str (tx [c])) lS (fun _ _ _ => trivial) (fun c D' acc Q _ h0 hq => ?_) (fun c D' acc Q _ _ h0 hq => ?_) (fun D' h0 => ?_)
            · walk_at "rd"
              refine ⟨_, .inl (hs D' acc h0), rfl, flat_signs es, ?_⟩
              rw [inV_signs]
              exact hq
            · walk_at "rd"
              exact hq
            · refine ⟨D', rfl, join_go sq_upd (by have := sub_len (List.filter_sublist (l := SG) (p := fun c => decide (c ∈ es))); omega) ?_⟩
              exact q _ _ List.filter_sublist (D3.new h0) (((B1.trans B2).trans B3).new h0)
        · refine lc_draws (by rw [SG_len]; decide) D1 (fun c H Q _ hD' hq => ?_) (fun c H Q _ hq => ?_) (fun D H2 es h0 he D2 B2 eD => ?_)
          · walk_at "rd"
            refine ⟨l, hD', by omega, fun r H' ra rb hD2 hB => hq _ _ hD2 hB⟩
          · walk_at "rd"
            exact hq
          · refine ⟨D, rfl, join_go (.inl (.inl eD)) (by have := sub_len he; omega) ?_⟩
            exact q _ _ he D2 (B1.trans B2)
end
end My
namespace My
open PySem L2
local macro_rules | `(tactic| walk_at "rd") => `(tactic| simp only [sp_Lnext, sp_Lsigns, tSeq, tNext, tAsg, tOp, tUn, tC, tVar, gName, gSub, tCons, tNil, tCB, tIfS, tIf, tTest, tB, tAnd, tOr, tNot, tAndV, tOrV, tNotV, tRet, tRetN, tDrop, tLst, tTup, tCall, tSl, tNoPart, tPart, tM0, tM1, tBM, tBM0, tYes, tFor_eq, tLc_eq, iList, iRng1, iRng2, iStr, sg_tx, c_empty, rstrip_sign, find_sign, cut_last, cut_to, cut_from, cut_mid, cut_to_lit, cut_from_lit, and_assoc, flat_rep, List.length_replicate, tx_len, tx_eq, tx_app, tx_cps, rI0, rI, rU, rEq, rNe, rIxL, rIxS, rIxT, rSetL, rAppend, rPopAt, rSlS, rSlL, rIn, rMulS, rLtD, rJoin, rLenQ, rListOf,  tRevS, 
  scal, L2.start, List.map_cons, List.map_nil, List.length_cons, List.length_nil, List.replicate, List.cons_append, List.nil_append, List.append_nil,
  List.getElem?_cons_zero, List.getElem?_cons_succ, List.set_cons_zero, List.set_cons_succ, Nat.sub_zero, Nat.reduceSub, Nat.reduceAdd, Nat.zero_add, id_eq, Int.reduceToNat, exists_or,
  V.int.injEq, V.str.injEq, V.bl.injEq, V.ref.injEq, Option.some.injEq, List.cons.injEq, exists_and_left, exists_eq_left', exists_eq_left, exists_eq, exists_eq', and_true, true_and, reduceCtorEq, false_and, and_false, exists_false, false_or, or_false, decide_eq_true_eq, Bool.not_eq_true', decide_eq_false_iff_not, Bool.not_not, Bool.false_eq_true, ↓reduceIte, if_true, if_false])

local macro_rules | `(tactic| walk_at "ne") => `(tactic| first | assumption | (refine Ne.symm ?_; assumption) | exact (ne_of_none (by assumption) (by assumption)) | exact (ne_of_none (by assumption) (by assumption)).symm)
local macro_rules | `(tactic| walk_at "hp") => `(tactic| first | assumption | exact upd_same | exact (upd_ne (by walk_at "ne")).trans (by walk_at "hp"))
local macro_rules | `(tactic| walk_at "st1") => `(tactic| first
  | refine ⟨_, Or.inl (Or.inl (by walk_at "hp")), ?_⟩
  | refine ⟨_, Or.inl (Or.inl (Or.inl (by walk_at "hp"))), ?_⟩
  | refine ⟨_, (show _ = some (HO.lst _) by walk_at "hp"), ?_⟩
  | refine ⟨_, rfl, ?_⟩
  | refine ⟨(rfl : ("str" : String) = "str"), ?_⟩
  | refine ⟨Or.inr ⟨by decide, by decide⟩, ?_⟩
  | refine ⟨⟨by decide, by decide⟩, ?_⟩
  | refine ⟨by decide, ?_⟩
  | refine ⟨by assumption, ?_⟩)
local macro_rules | `(tactic| walk_at "st") => `(tactic| repeat walk_at "st1")
local macro_rules | `(tactic| walk_at "go") => `(tactic| repeat first | walk_at "st1" | walk_at "rd")
section
variable {P : Program} {w : World} {K : PySem.W.Frag} {mg : Str → Option Value} {base : Heap}
theorem c_nab : Str.ofString "\nab" = tx [10, 97, 98] := by decide +kernel
theorem c_sab : Str.ofString " ab" = tx [32, 97, 98] := by decide +kernel
theorem c_abc : Str.ofString "abc" = tx [97, 98, 99] := by decide +kernel
theorem pick_sub (p : Nat → Bool) : (((List.range 96).filter p).map fun k => SG.getD k 0).Sublist SG := by
  have h := (List.filter_sublist (l := List.range 96) (p := p)).map (fun k => SG.getD k 0)
  have e : (List.range 96).map (fun k => SG.getD k 0) = SG := by
    have := range_map_getD SG
    rw [SG_len] at this
    exact this
  rw [e] at h
  exact h
def sp_Lletters : Sp := fun vs H Q _ => ∃ d l, vs = [.ref d] ∧ Drw H d l ∧ ∀ (cs : List Nat) (H' : Hp), cs.Sublist SG → cs ≠ [] → Drw H' d l → But d H H' → Q (.str (tx cs)) H'
theorem ok_Lletters (T : Top K mg) : FnOk P w K mg base CX0 2 T.f_Lletters T.fd_Lletters ["_law_draw_here"] sp_Lletters := by
  refine T.F_Lletters.ok sc_Lletters (fun vs H Q E h => ?_) (fun cdv A outer s H vs Q E hr h => ?_)
  · obtain ⟨d, l, rfl, _⟩ := h
    rfl
  · obtain ⟨d, l, rfl, hD, q⟩ := h
    refine ⟨_, (pss_cons (ps_set (i := 1) sc_Lletters.nd rfl (Or.inl rfl) (pe_call (ok_Lnext T) (hr.mono (by decide)) (by rfl) T.g_Lnext T.F_Lnext.kp T.B_Lnext .nil pass0 (pa_cons (pv 0) (pa_cons pe_int pa_nil))))
       (pss_cons (ps_if (pt_cmpR op_eq (pv 1) pe_int (nomark _)) (pss_one (ps_ret pe_str)) pss_nil)
       (pss_cons (ps_if (pt_cmpR op_eq (pv 1) pe_int (nomark _)) (pss_one (ps_ret pe_str)) pss_nil)
       (pss_cons (ps_if (pt_cmpR op_eq (pv 1) pe_int (nomark _)) (pss_one (ps_ret pe_str)) pss_nil)
       (pss_cons (ps_set (i := 2) sc_Lletters.nd rfl (Or.inr rfl) (pe_call0 (ok_Lsigns T) (hr.mono (by decide)) (by rfl) T.g_Lsigns T.F_Lsigns.kp T.B_Lsigns .nil pass0))
       (pss_cons (ps_set (i := 3) sc_Lletters.nd rfl (Or.inr rfl) (pe_call (ok_Lnext T) (hr.mono (by decide)) (by rfl) T.g_Lnext T.F_Lnext.kp T.B_Lnext .nil pass0 (pa_cons (pv 0) (pa_cons pe_int pa_nil))))
       (pss_cons (ps_set (i := 4) sc_Lletters.nd rfl (Or.inr rfl) (pe_op op_mod (pe_callTy call_int1 (by rfl) T.b_int (by decide +kernel) (pa_cons (pe_op op_add (pe_op op_add (pv 3) pe_int) (pe_call (ok_Lnext T) (hr.mono (by decide)) (by rfl) T.g_Lnext T.F_Lnext.kp T.B_Lnext .nil pass0 (pa_cons (pv 0) (pa_cons pe_int pa_nil)))) pa_nil)) pe_int))
       (pss_cons (ps_set (i := 5) sc_Lletters.nd rfl (Or.inr rfl) (pe_op op_mod (pe_callTy call_int1 (by rfl) T.b_int (by decide +kernel) (pa_cons (pe_op op_add (pe_op op_add (pv 3) pe_int) (pe_call (ok_Lnext T) (hr.mono (by decide)) (by rfl) T.g_Lnext T.F_Lnext.kp T.B_Lnext .nil pass0 (pa_cons (pv 0) (pa_cons pe_int pa_nil)))) pa_nil)) pe_int))
       (pss_cut (ps_if (pt_cmpR op_eq (pv 5) (pv 4) (nomark _)) (pss_one (ps_set (i := 5) sc_Lletters.nd rfl (Or.inr rfl) (pe_op op_mod (pe_callTy call_int1 (by rfl) T.b_int (by decide +kernel) (pa_cons (pe_op op_add (pv 5) pe_int) pa_nil)) pe_int))) pss_nil)
       (pss_cut (ps_if (pt_cmpR op_eq (pv 5) (pv 3) (nomark _)) (pss_one (ps_set (i := 5) sc_Lletters.nd rfl (Or.inr rfl) (pe_op op_mod (pe_callTy call_int1 (by rfl) T.b_int (by decide +kernel) (pa_cons (pe_op op_add (pv 5) pe_int) pa_nil)) pe_int))) pss_nil)
       (pss_one (ps_ret (pe_m1 (r := rJoin K) PySem.F.slot_str_join PySem.F.type_str_join mt_joinQ pe_str (pe_lc (own := [("_law_k", 6)]) (g := gName 6) (by rfl) sc_Lletters.nd (pi_range1 rfl T.b_range (pa_cons pe_int pa_nil)) (blkOk_by (own := [("_law_k", 6)]) (N := n_Lletters) (sc := defScope s_Lletters) (by decide +kernel)) (fun _ _ _ _ _ => pg_name (i := 6) sc_Lletters.nd rfl (Or.inl rfl)) (fun _ _ _ _ _ => (pts_one (PW.pt (pw_or (pt_cmpR op_eq (pv 6) (pv 3) (nomark _)) (pw_or (pt_cmpR op_eq (pv 6) (pv 4) (nomark _)) (pw_or1 (pt_cmpR op_eq (pv 6) (pv 5) (nomark _)))))))) (fun _ _ _ _ _ => (pe_ix ix_str (pv 2) (pv 6) (fun _ _ => rfl))))))))))))))))), ?_⟩
    have lS : SG.length ≤ sizeLine := line20 (by rw [SG_len]; decide)
    walk_at "rd"
    refine ⟨l, hD, by decide, fun r0 H1 a0 b0 D1 B1 => ?_⟩
    rw [c_nab, c_sab, c_abc]
    split
    · exact q _ _ (by decide) (by simp) D1 B1
    split
    · exact q _ _ (by decide) (by simp) D1 B1
    split
    · exact q _ _ (by decide) (by simp) D1 B1
    refine ⟨l, D1, by decide, fun r1 H2 a1 b1 D2 B2 => ⟨l, D2, by decide, fun r2 H3 a2 b2 D3 B3 => ⟨by decide, l, D3, by decide, fun r3 H4 a3 b3 D4 B4 => ⟨by decide, ?_⟩⟩⟩⟩
    obtain ⟨M1, hM1⟩ : ∃ M : St → Hp → Prop, ∀ σ' H', M σ' H' ↔ ∃ (z : Int) (v6 : Option V), σ' = [some (V.ref d), some (V.int r0), some (V.str (tx SG)), some (V.int r1), some (V.int ((r1 + 1 + r2) % 96)), some (V.int z), v6] ∧ H' = H4 := ⟨_, fun _ _ => Iff.rfl⟩
    refine ⟨M1, ?_, fun σ' H' hm => ?_⟩
    · walk_at "rd"
      split
      · exact ⟨by decide, (hM1 _ _).mpr ⟨_, _, rfl, rfl⟩⟩
      · exact (hM1 _ _).mpr ⟨_, _, rfl, rfl⟩
    · obtain ⟨z, v6, rfl, rfl⟩ := (hM1 _ _).mp hm
      refine ⟨M1, ?_, fun σ' H' hm => ?_⟩
      · walk_at "rd"
        split
        · exact ⟨by decide, (hM1 _ _).mpr ⟨_, _, rfl, rfl⟩⟩
        · exact (hM1 _ _).mpr ⟨_, _, rfl, rfl⟩
      · obtain ⟨y, v6, rfl, rfl⟩ := (hM1 _ _).mp hm
        walk_at "rd"
        refine ⟨by decide, by decide, ?_⟩
        refine lcJ_pure (reg_range 0 (96 : Int).toNat) (fun k => decide ((0 + (k : Int)) = r1) || (decide ((0 + (k : Int)) = (r1 + 1 + r2) % 96) || decide ((0 + (k : Int)) = y))) (fun k => V.str (tx [SG.getD k 0])) (by rw [List.length_range]; decide) (fun _ _ _ => trivial) (fun k D acc Q _ h0 hq => ?_) (fun k D acc Q hk _ h0 hq => ?_) (fun D h0 => ?_)
        · walk_at "rd"
          by_cases e1 : (0 + (k : Int)) = r1
          · rw [if_pos e1]
            rw [decide_eq_true e1, Bool.true_or] at hq
            exact hq
          · rw [if_neg e1]
            rw [decide_eq_false e1, Bool.false_or] at hq
            by_cases e2 : (0 + (k : Int)) = (r1 + 1 + r2) % 96
            · rw [if_pos e2]
              rw [decide_eq_true e2, Bool.true_or] at hq
              exact hq
            · rw [if_neg e2]
              rw [decide_eq_false e2, Bool.false_or] at hq
              exact hq
        · have hk2 : k < 96 := by
            have := List.mem_range.mp hk
            exact this
          walk_at "rd"
          have e : atI SG (0 + (k : Int)) = some (SG.getD k 0) := by
            rw [Int.zero_add]
            refine atI_nat ?_
            rw [List.getElem?_eq_getElem (by rw [SG_len]; exact hk2)]
            simp [List.getD, hk2, SG_len]
          exact ⟨lS, _, e, hq⟩
        · have hl := sub_len (pick_sub (fun k => decide ((0 + (k : Int)) = r1) || (decide ((0 + (k : Int)) = (r1 + 1 + r2) % 96) || decide ((0 + (k : Int)) = y))))
          rw [List.length_map] at hl
          refine ⟨D, rfl, join_go2 sq_upd (Nat.le_trans hl (by decide)) ?_⟩
          refine q _ _ (pick_sub _) ?_ (D4.new h0) (((B1.trans (B2.trans B3)).trans B4).new h0)
          intro hnil
          have hm1 : r1.toNat ∈ (List.range 96).filter (fun k : Nat => decide ((0 + (k : Int)) = r1) || (decide ((0 + (k : Int)) = (r1 + 1 + r2) % 96) || decide ((0 + (k : Int)) = y))) := by
            rw [List.mem_filter]
            refine ⟨List.mem_range.mpr (by omega), ?_⟩
            rw [decide_eq_true (show 0 + ((r1.toNat : Nat) : Int) = r1 by omega), Bool.true_or]
          have hm2 := List.mem_map_of_mem (f := fun k => SG.getD k 0) hm1
          have hnil2 : (List.map (fun k => SG.getD k 0) ((List.range 96).filter (fun k : Nat => decide ((0 + (k : Int)) = r1) || (decide ((0 + (k : Int)) = (r1 + 1 + r2) % 96) || decide ((0 + (k : Int)) = y))))) = [] := hnil
          rw [hnil2] at hm2
          cases hm2
end
end My
namespace My
open PySem L2
local macro_rules | `(tactic| walk_at "rd") => `(tactic| simp only [sp_Lnext, sp_Lsigns, tSeq, tNext, tAsg, tOp, tUn, tC, tVar, gName, gSub, tCons, tNil, tCB, tIfS, tIf, tTest, tB, tAnd, tOr, tNot, tAndV, tOrV, tNotV, tRet, tRetN, tDrop, tLst, tTup, tCall, tSl, tNoPart, tPart, tM0, tM1, tBM, tBM0, tYes, tFor_eq, tLc_eq, iList, iRng1, iRng2, iStr, sg_tx, c_empty, rstrip_sign, find_sign, cut_last, cut_to, cut_from, cut_mid, cut_to_lit, cut_from_lit, and_assoc, flat_rep, List.length_replicate, tx_len, tx_eq, tx_app, tx_cps, rI0, rI, rU, rEq, rNe, rIxL, rIxS, rIxT, rSetL, rAppend, rPopAt, rSlS, rSlL, rIn, rMulS, rLtD, rJoin, rLenQ, rListOf,  tRevS, 
  scal, L2.start, List.map_cons, List.map_nil, List.length_cons, List.length_nil, List.replicate, List.cons_append, List.nil_append, List.append_nil,
  List.getElem?_cons_zero, List.getElem?_cons_succ, List.set_cons_zero, List.set_cons_succ, Nat.sub_zero, Nat.reduceSub, Nat.reduceAdd, Nat.zero_add, id_eq, Int.reduceToNat, exists_or,
  V.int.injEq, V.str.injEq, V.bl.injEq, V.ref.injEq, Option.some.injEq, List.cons.injEq, exists_and_left, exists_eq_left', exists_eq_left, exists_eq, exists_eq', and_true, true_and, reduceCtorEq, false_and, and_false, exists_false, false_or, or_false, decide_eq_true_eq, Bool.not_eq_true', decide_eq_false_iff_not, Bool.not_not, Bool.false_eq_true, ↓reduceIte, if_true, if_false])

local macro_rules | `(tactic| walk_at "ne") => `(tactic| first | assumption | (refine Ne.symm ?_; assumption) | exact (ne_of_none (by assumption) (by assumption)) | exact (ne_of_none (by assumption) (by assumption)).symm)
local macro_rules | `(tactic| walk_at "hp") => `(tactic| first | assumption | exact upd_same | exact (upd_ne (by walk_at "ne")).trans (by walk_at "hp"))
local macro_rules | `(tactic| walk_at "st1") => `(tactic| first
  | refine ⟨_, Or.inl (Or.inl (by walk_at "hp")), ?_⟩
  | refine ⟨_, Or.inl (Or.inl (Or.inl (by walk_at "hp"))), ?_⟩
  | refine ⟨_, (show _ = some (HO.lst _) by walk_at "hp"), ?_⟩
  | refine ⟨_, rfl, ?_⟩
  | refine ⟨(rfl : ("str" : String) = "str"), ?_⟩
  | refine ⟨Or.inr ⟨by decide, by decide⟩, ?_⟩
  | refine ⟨⟨by decide, by decide⟩, ?_⟩
  | refine ⟨by decide, ?_⟩
  | refine ⟨by assumption, ?_⟩)
local macro_rules | `(tactic| walk_at "st") => `(tactic| repeat walk_at "st1")
local macro_rules | `(tactic| walk_at "go") => `(tactic| repeat first | walk_at "st1" | walk_at "rd")
section
variable {P : Program} {w : World} {K : PySem.W.Frag} {mg : Str → Option Value} {base : Heap}
def sp_Lover : Sp := fun vs H Q _ => ∃ (d l : Addr) (s : List Nat) (m : Nat), vs = [.ref d, .str (tx s), .int (m : Int)] ∧ Drw H d l ∧ s ≠ [] ∧ s.length ≤ 100 ∧ m ≤ 1000 ∧ ∀ (cs : List Nat) (H' : Hp), (∀ c ∈ cs, c ∈ s) → cs.length ≤ m + 3 → Drw H' d l → But d H H' → Q (.str (tx cs)) H'
theorem ok_Lover (T : Top K mg) : FnOk P w K mg base CX0 2 T.f_Lover T.fd_Lover ["_law_draw_here", "_law_signs_here", "_law_most"] sp_Lover := by
  refine T.F_Lover.ok sc_Lover (fun vs H Q E h => ?_) (fun cdv A outer s H vs Q E hr h => ?_)
  · obtain ⟨d, l, s, m, rfl, _⟩ := h
    rfl
  · obtain ⟨d, l, s, m, rfl, hD, hs, hl, hm, q⟩ := h
    refine ⟨_, (pss_cons (ps_set (i := 3) sc_Lover.nd rfl (Or.inl rfl) (pe_m1 (r := rJoin K) PySem.F.slot_str_join PySem.F.type_str_join mt_joinQ pe_str (pe_lc (own := [("_law_k", 4)]) (g := gName 4) (by rfl) sc_Lover.nd (pi_range1 rfl T.b_range (pa_cons (pe_call (ok_Lnext T) (hr.mono (by decide)) (by rfl) T.g_Lnext T.F_Lnext.kp T.B_Lnext .nil pass0 (pa_cons (pv 0) (pa_cons (pe_op op_add (pv 2) pe_int) pa_nil))) pa_nil)) (blkOk_by (own := [("_law_k", 4)]) (N := n_Lover) (sc := defScope s_Lover) (by decide +kernel)) (fun _ _ _ _ _ => pg_name (i := 4) sc_Lover.nd rfl (Or.inl rfl)) (fun _ _ _ _ _ => pts_nil) (fun _ _ _ _ _ => (pe_ix ix_str (pv 1) (pe_call (ok_Lnext T) (hr.mono (by decide)) (by rfl) T.g_Lnext T.F_Lnext.kp T.B_Lnext .nil pass0 (pa_cons (pv 0) (pa_cons (pe_callB call_len_str (by rfl) T.b_len PySem.boot_len (pa_cons (pv 1) pa_nil)) pa_nil))) (fun _ _ => rfl))))))
       (pss_one (ps_ret (pe_op op_add_str (pv 3) (pe_op op_mul_str (pe_ix ix_str (pv 1) (pe_un un_neg pe_int) (fun _ _ => rfl)) (pe_call (ok_Lnext T) (hr.mono (by decide)) (by rfl) T.g_Lnext T.F_Lnext.kp T.B_Lnext .nil pass0 (pa_cons (pv 0) (pa_cons pe_int pa_nil)))))))), ?_⟩
    have lS : s.length ≤ sizeLine := line20 (by omega)
    have s1 : 1 ≤ s.length := List.length_pos_iff.mpr hs
    walk_at "rd"
    refine ⟨l, hD, by omega, fun r0 H1 a0 b0 D1 B1 => ⟨by omega, by omega, ?_⟩⟩
    refine lc_any (reg_range 0 r0.toNat) (fun c => c ∈ s) (by rw [List.length_range]; omega) D1 (fun a H Q _ hD' hq => ?_) (fun D H2 es h0 he hlen D2 B2 eD => ?_)
    · walk_at "rd"
      refine ⟨lS, l, hD', by omega, fun r H' ra rb hD2 hB => ⟨lS, ?_⟩⟩
      obtain ⟨j, rfl, hj, e⟩ := atI_pos (s := s) ra (by omega)
      exact ⟨_, e, hq _ _ (List.getElem_mem hj) hD2 hB⟩
    · rw [List.length_range] at hlen
      obtain ⟨ys, j1, j2, j3⟩ := join_w (K := K) (.inl (.inl eD)) (by omega : es.length ≤ 10000)
      refine ⟨D, rfl, ys, j1, j2, ?_⟩
      rw [j3]
      walk_at "rd"
      refine ⟨lS, _, atI_neg1 hs, l, D2, by decide, fun r H' ra rb hD2 hB => ?_⟩
      refine ⟨r.toNat, by omega, by omega, by decide, ?_⟩
      refine ⟨line20 (by omega), q _ _ (fun c hc => ?_) ?_ hD2 ((B1.trans B2).trans hB)⟩
      · rcases List.mem_append.mp hc with h1 | h1
        · exact he c h1
        · rw [List.eq_of_mem_replicate h1]
          exact List.getLast_mem hs
      · rw [List.length_append, List.length_replicate]
        omega
def sp_Lnear_text : Sp := fun vs H Q _ => ∃ (d l : Addr) (t s : List Nat), vs = [.ref d, .str (tx t), .str (tx s)] ∧ Drw H d l ∧ s ≠ [] ∧ s.length ≤ 100 ∧ t.length ≤ 1000 ∧ ∀ (cs : List Nat) (H' : Hp), (∀ c ∈ cs, c ∈ t ∨ c ∈ s) → cs.length ≤ t.length + 1 → Drw H' d l → But d H H' → Q (.str (tx cs)) H'
theorem ok_Lnear_text (T : Top K mg) : FnOk P w K mg base CX0 2 T.f_Lnear_text T.fd_Lnear_text ["_law_draw_here", "_law_text", "_law_signs_here"] sp_Lnear_text := by
  refine T.F_Lnear_text.ok sc_Lnear_text (fun vs H Q E h => ?_) (fun cdv A outer s H vs Q E hr h => ?_)
  · obtain ⟨d, l, t, s, rfl, _⟩ := h
    rfl
  · obtain ⟨d, l, t, s, rfl, hD, hs, hl, ht, q⟩ := h
    refine ⟨_, (pss_cons (ps_set (i := 3) sc_Lnear_text.nd rfl (Or.inl rfl) (pe_call (ok_Lnext T) (hr.mono (by decide)) (by rfl) T.g_Lnext T.F_Lnext.kp T.B_Lnext .nil pass0 (pa_cons (pv 0) (pa_cons pe_int pa_nil))))
       (pss_cons (ps_set (i := 4) sc_Lnear_text.nd rfl (Or.inl rfl) (pe_call (ok_Lnext T) (hr.mono (by decide)) (by rfl) T.g_Lnext T.F_Lnext.kp T.B_Lnext .nil pass0 (pa_cons (pv 0) (pa_cons (pe_op op_add (pe_callB call_len_str (by rfl) T.b_len PySem.boot_len (pa_cons (pv 1) pa_nil)) pe_int) pa_nil))))
       (pss_cons (ps_set (i := 5) sc_Lnear_text.nd rfl (Or.inl rfl) (pe_ix ix_str (pv 2) (pe_call (ok_Lnext T) (hr.mono (by decide)) (by rfl) T.g_Lnext T.F_Lnext.kp T.B_Lnext .nil pass0 (pa_cons (pv 0) (pa_cons (pe_callB call_len_str (by rfl) T.b_len PySem.boot_len (pa_cons (pv 2) pa_nil)) pa_nil))) (fun _ _ => rfl)))
       (pss_cons (ps_if (pt_cmpR op_eq (pv 3) pe_int (nomark _)) (pss_one (ps_ret (pv 1))) pss_nil)
       (pss_cons (ps_if (pt_cmpR op_eq (pv 3) pe_int (nomark _)) (pss_one (ps_ret (pe_op op_add_str (pe_slice sl_str (pv 1) po_none (po_some (pv 4))) (pe_slice sl_str (pv 1) (po_some (pe_op op_add (pv 4) pe_int)) po_none)))) pss_nil)
       (pss_cons (ps_if (pt_cmpR op_eq (pv 3) pe_int (nomark _)) (pss_one (ps_ret (pe_op op_add_str (pe_op op_add_str (pe_slice sl_str (pv 1) po_none (po_some (pv 4))) (pv 5)) (pe_slice sl_str (pv 1) (po_some (pv 4)) po_none)))) pss_nil)
       (pss_cons (ps_if (pt_cmpR op_eq (pv 3) pe_int (nomark _)) (pss_one (ps_ret (pe_revS (pv 1)))) pss_nil)
       (pss_one (ps_ret (pe_op op_add_str (pe_op op_add_str (pe_slice sl_str (pv 1) po_none (po_some (pv 4))) (pv 5)) (pe_slice sl_str (pv 1) (po_some (pe_op op_add (pv 4) pe_int)) po_none))))))))))), ?_⟩
    have lS : s.length ≤ sizeLine := line20 (by omega)
    have lT : t.length ≤ sizeLine := line20 (by omega)
    have s1 : 1 ≤ s.length := List.length_pos_iff.mpr hs
    walk_at "rd"
    refine ⟨l, hD, by decide, fun r0 H1 a0 b0 D1 B1 => ⟨lT, l, D1, by omega, fun r1 H2 a1 b1 D2 B2 => ⟨lS, l, D2, by omega, fun r2 H3 a2 b2 D3 B3 => ⟨lS, ?_⟩⟩⟩⟩
    obtain ⟨j, rfl, hj, e⟩ := atI_pos (s := s) a2 (by omega)
    obtain ⟨i, rfl⟩ := Int.eq_ofNat_of_zero_le a1
    refine ⟨_, e, ?_⟩
    have hc := List.getElem_mem hj
    have B := B1.trans (B2.trans B3)
    have ei : ((i : Int) + 1) = ((i + 1 : Nat) : Int) := by omega
    rw [ei]
    walk_at "rd"
    have m1 : ∀ c, c ∈ t.take i → c ∈ t := fun c h => List.mem_of_mem_take h
    have m2 : ∀ k c, c ∈ t.drop k → c ∈ t := fun k c h => List.mem_of_mem_drop h
    split
    · exact q _ _ (fun c h => .inl h) (by omega) D3 B
    split
    · refine ⟨lT, lT, line20 (by simp; omega), q _ _ (fun c h => .inl ?_) (by simp; omega) D3 B⟩
      rcases List.mem_append.mp h with h1 | h1
      · exact m1 c h1
      · exact m2 _ c h1
    split
    · refine ⟨lT, line20 (by simp; omega), lT, line20 (by simp; omega), q _ _ (fun c h => ?_) (by simp; omega) D3 B⟩
      rcases List.mem_append.mp h with h1 | h1
      · rcases List.mem_append.mp h1 with h2 | h2
        · exact .inl (m1 c h2)
        · rw [List.mem_singleton.mp h2]; exact .inr hc
      · exact .inl (m2 _ c h1)
    split
    · exact ⟨lT, q _ _ (fun c h => .inl (List.mem_reverse.mp h)) (by simp) D3 B⟩
    · refine ⟨lT, line20 (by simp; omega), lT, line20 (by simp; omega), q _ _ (fun c h => ?_) (by simp; omega) D3 B⟩
      rcases List.mem_append.mp h with h1 | h1
      · rcases List.mem_append.mp h1 with h2 | h2
        · exact .inl (m1 c h2)
        · rw [List.mem_singleton.mp h2]; exact .inr hc
      · exact .inl (m2 _ c h1)
end
end My
namespace My
open PySem L2
local macro_rules | `(tactic| walk_at "rd") => `(tactic| simp only [sp_Lnext, sp_Lsigns, tSeq, tNext, tAsg, tOp, tUn, tC, tVar, gName, gSub, tCons, tNil, tCB, tIfS, tIf, tTest, tB, tAnd, tOr, tNot, tAndV, tOrV, tNotV, tRet, tRetN, tDrop, tLst, tTup, tCall, tSl, tNoPart, tPart, tM0, tM1, tBM, tBM0, tYes, tFor_eq, tLc_eq, iList, iRng1, iRng2, iStr, sg_tx, c_empty, rstrip_sign, find_sign, cut_last, cut_to, cut_from, cut_mid, cut_to_lit, cut_from_lit, and_assoc, flat_rep, List.length_replicate, tx_len, tx_eq, tx_app, tx_cps, rI0, rI, rU, rEq, rNe, rIxL, rIxS, rIxT, rSetL, rAppend, rPopAt, rSlS, rSlL, rIn, rMulS, rLtD, rJoin, rLenQ, rListOf,  tRevS, 
  scal, L2.start, List.map_cons, List.map_nil, List.length_cons, List.length_nil, List.replicate, List.cons_append, List.nil_append, List.append_nil,
  List.getElem?_cons_zero, List.getElem?_cons_succ, List.set_cons_zero, List.set_cons_succ, Nat.sub_zero, Nat.reduceSub, Nat.reduceAdd, Nat.zero_add, id_eq, Int.reduceToNat, exists_or,
  V.int.injEq, V.str.injEq, V.bl.injEq, V.ref.injEq, Option.some.injEq, List.cons.injEq, exists_and_left, exists_eq_left', exists_eq_left, exists_eq, exists_eq', and_true, true_and, reduceCtorEq, false_and, and_false, exists_false, false_or, or_false, decide_eq_true_eq, Bool.not_eq_true', decide_eq_false_iff_not, Bool.not_not, Bool.false_eq_true, ↓reduceIte, if_true, if_false])

local macro_rules | `(tactic| walk_at "ne") => `(tactic| first | assumption | (refine Ne.symm ?_; assumption) | exact (ne_of_none (by assumption) (by assumption)) | exact (ne_of_none (by assumption) (by assumption)).symm)
local macro_rules | `(tactic| walk_at "hp") => `(tactic| first | assumption | exact upd_same | exact (upd_ne (by walk_at "ne")).trans (by walk_at "hp"))
local macro_rules | `(tactic| walk_at "st1") => `(tactic| first
  | refine ⟨_, Or.inl (Or.inl (by walk_at "hp")), ?_⟩
  | refine ⟨_, Or.inl (Or.inl (Or.inl (by walk_at "hp"))), ?_⟩
  | refine ⟨_, (show _ = some (HO.lst _) by walk_at "hp"), ?_⟩
  | refine ⟨_, rfl, ?_⟩
  | refine ⟨(rfl : ("str" : String) = "str"), ?_⟩
  | refine ⟨Or.inr ⟨by decide, by decide⟩, ?_⟩
  | refine ⟨⟨by decide, by decide⟩, ?_⟩
  | refine ⟨by decide, ?_⟩
  | refine ⟨by assumption, ?_⟩)
local macro_rules | `(tactic| walk_at "st") => `(tactic| repeat walk_at "st1")
local macro_rules | `(tactic| walk_at "go") => `(tactic| repeat first | walk_at "st1" | walk_at "rd")
section
variable {P : Program} {w : World} {K : PySem.W.Frag} {mg : Str → Option Value} {base : Heap}
theorem lt_app {p a b : List Nat} {x y : Nat} (h : x ≠ y) : (p ++ x :: a < p ++ y :: b) ↔ x < y := by
  induction p with
  | nil =>
    show (x :: a < y :: b) ↔ x < y
    rw [List.cons_lt_cons_iff]
    constructor
    · rintro (q | ⟨q, _⟩)
      · exact q
      · exact absurd q h
    · exact .inl
  | cons z r ih =>
    show (z :: (r ++ x :: a) < z :: (r ++ y :: b)) ↔ x < y
    rw [List.cons_lt_cons_iff]
    constructor
    · rintro (q | ⟨_, q⟩)
      · exact absurd q (Nat.lt_irrefl _)
      · exact ih.mp q
    · exact fun q => .inr ⟨rfl, ih.mpr q⟩
theorem lt_app2 {p a b a' b' : List Nat} {x y : Nat} (e1 : a = p ++ x :: a') (e2 : b = p ++ y :: b') (h : x ≠ y) : (a < b) ↔ x < y := by
  subst e1 e2
  exact lt_app h
def sp_Lbefore : Sp := fun vs H Q _ => ∃ (a b : List Nat), vs = [.str (tx a), .str (tx b)] ∧ a.length ≤ 10000 ∧ b.length ≤ 10000 ∧ (∀ c ∈ a, c ∈ SG) ∧ (∀ c ∈ b, c ∈ SG) ∧ Q (.bl (prec a b)) H
theorem ok_Lbefore (T : Top K mg) : FnOk P w K mg base CX0 2 T.f_Lbefore T.fd_Lbefore ["_law_one", "_law_two"] sp_Lbefore := by
  refine T.F_Lbefore.ok sc_Lbefore (fun vs H Q E h => ?_) (fun cdv A outer s H vs Q E hr h => ?_)
  · obtain ⟨a, b, rfl, _⟩ := h
    rfl
  · obtain ⟨a, b, rfl, ha, hb, sa, sb, q⟩ := h
    refine ⟨_, (pss_cons (ps_set (i := 2) sc_Lbefore.nd rfl (Or.inl rfl) (pe_call0 (ok_Lsigns T) (hr.mono (by decide)) (by rfl) T.g_Lsigns T.F_Lsigns.kp T.B_Lsigns .nil pass0))
       (pss_cons (ps_if (pt_cmpR op_ne (pe_callB call_len_str (by rfl) T.b_len PySem.boot_len (pa_cons (pv 0) pa_nil)) (pe_callB call_len_str (by rfl) T.b_len PySem.boot_len (pa_cons (pv 1) pa_nil)) (nomark _)) (pss_one (ps_ret (pe_cmpR op_lt (pe_callB call_len_str (by rfl) T.b_len PySem.boot_len (pa_cons (pv 0) pa_nil)) (pe_callB call_len_str (by rfl) T.b_len PySem.boot_len (pa_cons (pv 1) pa_nil)) (nomark _)))) pss_nil)
       (pss_cons (ps_for PassesOwn.never rfl (pi_range1 rfl T.b_range (pa_cons (pe_callB call_len_str (by rfl) T.b_len PySem.boot_len (pa_cons (pv 0) pa_nil)) pa_nil)) (pg_name (i := 3) sc_Lbefore.nd rfl (Or.inl rfl))
       (pss_one (ps_if (pt_cmpR op_ne (pe_ix ix_str (pv 0) (pv 3) (fun _ _ => rfl)) (pe_ix ix_str (pv 1) (pv 3) (fun _ _ => rfl)) (nomark _)) (pss_one (ps_ret (pe_cmpR op_lt (pe_m1 PySem.F.slot_str_find PySem.F.type_str_find mt_find (pv 2) (pe_ix ix_str (pv 0) (pv 3) (fun _ _ => rfl))) (pe_m1 PySem.F.slot_str_find PySem.F.type_str_find mt_find (pv 2) (pe_ix ix_str (pv 1) (pv 3) (fun _ _ => rfl))) (nomark _)))) pss_nil)))
       (pss_one (ps_ret pe_bl))))), ?_⟩
    have la : a.length ≤ sizeLine := line20 (by omega)
    have lb : b.length ≤ sizeLine := line20 (by omega)
    walk_at "rd"
    refine ⟨la, lb, ?_⟩
    unfold prec at q
    split
    · rename_i hne
      have hne2 : ¬ a.length = b.length := fun e => hne (by rw [e])
      rw [decide_eq_false hne2, Bool.false_and, Bool.or_false] at q
      refine ⟨la, lb, ?_⟩
      have e : decide ((a.length : Int) < (b.length : Int)) = decide (a.length < b.length) := decide_eq_decide.mpr (by omega)
      rw [e]
      exact q
    · rename_i heq
      have hl : a.length = b.length := by omega
      rw [decide_eq_true hl, Bool.true_and, decide_eq_false (show ¬ a.length < b.length by omega), Bool.false_or] at q
      refine ⟨la, by omega, by omega, ?_⟩
      obtain ⟨Pv, hP⟩ : ∃ Pv : Nat → St → Hp → Prop, ∀ i σ H', Pv i σ H' ↔ ∃ (v : Option V), σ = [some (V.str (tx a)), some (V.str (tx b)), some (V.str (tx SG)), v] ∧ H' = H ∧ a.take i = b.take i := ⟨_, fun _ _ _ => Iff.rfl⟩
      rw [Int.toNat_natCast]
      refine forJ_by (reg_range 0 a.length) Pv (fun _ _ _ _ => trivial) ?_ ?_ ?_
      · exact (hP _ _ _).mpr ⟨_, rfl, rfl, rfl⟩
      · intro i k σ H' hi h
        obtain ⟨v, rfl, rfl, ht⟩ := (hP _ _ _).mp h
        have hk := List.mem_range.mp (List.mem_of_getElem? hi)
        have hik : i < a.length ∧ k = i := by
          have h1 := (List.getElem?_eq_some_iff.mp hi).1
          rw [List.length_range] at h1
          rw [List.getElem?_range h1] at hi
          exact ⟨h1, (Option.some.inj hi).symm⟩
        obtain ⟨hia, rfl⟩ := hik
        have hkb : k < b.length := by omega
        have e1 : atI a (0 + (k : Int)) = some a[k] := by rw [Int.zero_add]; exact atI_nat (List.getElem?_eq_getElem hia)
        have e2 : atI b (0 + (k : Int)) = some b[k] := by rw [Int.zero_add]; exact atI_nat (List.getElem?_eq_getElem hkb)
        have m1 : a[k] ∈ SG := sa _ (List.getElem_mem hia)
        have m2 : b[k] ∈ SG := sb _ (List.getElem_mem hkb)
        have t1 : a.take (k + 1) = a.take k ++ [a[k]] := by rw [List.take_add_one, List.getElem?_eq_getElem hia]; rfl
        have t2 : b.take (k + 1) = b.take k ++ [b[k]] := by rw [List.take_add_one, List.getElem?_eq_getElem hkb]; rfl
        walk_at "rd"
        refine ⟨la, _, e1, lb, _, e2, ?_⟩
        split
        · rename_i hne
          have hne2 : a[k] ≠ b[k] := fun e => hne e
          refine ⟨la, _, e1, lb, _, e2, ?_⟩
          rw [if_pos m1, if_pos m2]
          have d1 : a = a.take k ++ a[k] :: a.drop (k + 1) := by
            rw [← List.drop_eq_getElem_cons hia, List.take_append_drop]
          have d2 : b = a.take k ++ b[k] :: b.drop (k + 1) := by
            rw [ht, ← List.drop_eq_getElem_cons hkb, List.take_append_drop]
          have key : (a < b) ↔ a[k] < b[k] := lt_app2 d1 d2 hne2
          have e3 : decide ((fi a[k] SG : Int) < (fi b[k] SG : Int)) = decide (a < b) := by
            refine decide_eq_decide.mpr ?_
            rw [key]
            have := fi_asc SG_asc m1 m2
            omega
          rw [e3]
          exact q
        · rename_i heq2
          have : a[k] = b[k] := by
            apply Classical.byContradiction
            intro hh
            exact heq2 hh
          exact (hP _ _ _).mpr ⟨_, rfl, rfl, by rw [t1, t2, ht, this]⟩
      · intro σ H' h
        obtain ⟨v, rfl, rfl, ht⟩ := (hP _ _ _).mp h
        rw [List.length_range, List.take_length] at ht
        have : b.take a.length = b := by rw [hl, List.take_length]
        rw [this] at ht
        walk_at "rd"
        subst ht
        rw [decide_eq_false (List.lt_irrefl _)] at q
        exact q
def sp_Lplace : Sp := fun vs H Q _ => ∃ (t s : List Nat), vs = [.str (tx t), .str (tx s)] ∧ t.length ≤ 10000 ∧ s.length ≤ 100 ∧ (∀ c ∈ t, c ∈ s) ∧ Q (.int (place t s)) H
theorem ok_Lplace (T : Top K mg) : FnOk P w K mg base CX0 1 T.f_Lplace T.fd_Lplace ["_law_text", "_law_signs_here"] sp_Lplace := by
  refine T.F_Lplace.ok sc_Lplace (fun vs H Q E h => ?_) (fun cdv A outer s H vs Q E hr h => ?_)
  · obtain ⟨a, b, rfl, _⟩ := h
    rfl
  · obtain ⟨t, s, rfl, ht, hs, hsub, q⟩ := h
    refine ⟨_, (pss_cons (ps_set (i := 2) sc_Lplace.nd rfl (Or.inl rfl) pe_int)
       (pss_cons (ps_for PassesOwn.never rfl (pi_str (pv 0)) (pg_name (i := 3) sc_Lplace.nd rfl (Or.inl rfl))
       (pss_one (ps_set (i := 2) sc_Lplace.nd rfl (Or.inl rfl) (pe_op op_add (pe_op op_add (pe_op op_mul (pv 2) (pe_callB call_len_str (by rfl) T.b_len PySem.boot_len (pa_cons (pv 1) pa_nil))) (pe_m1 PySem.F.slot_str_find PySem.F.type_str_find mt_find (pv 1) (pv 3))) pe_int))))
       (pss_one (ps_ret (pv 2))))), ?_⟩
    have ls : s.length ≤ sizeLine := line20 (by omega)
    walk_at "rd"
    obtain ⟨Pv, hP⟩ : ∃ Pv : Nat → St → Hp → Prop, ∀ i σ H', Pv i σ H' ↔ ∃ (v : Option V), σ = [some (V.str (tx t)), some (V.str (tx s)), some (V.int (place (t.take i) s)), v] ∧ H' = H := ⟨_, fun _ _ _ => Iff.rfl⟩
    refine forJ_by (reg_text t) Pv (fun _ _ _ _ => trivial) ?_ ?_ ?_
    · exact (hP _ _ _).mpr ⟨_, rfl, rfl⟩
    · intro i c σ H' hi h
      obtain ⟨v, rfl, rfl⟩ := (hP _ _ _).mp h
      have hm : c ∈ s := hsub c (List.mem_of_getElem? hi)
      walk_at "rd"
      rw [if_pos hm]
      refine ⟨ls, .inr ⟨by omega, by omega⟩, (hP _ _ _).mpr ⟨some (V.str (tx [c])), ?_, rfl⟩⟩
      have e : t.take (i + 1) = t.take i ++ [c] := by rw [List.take_add_one, hi]; rfl
      rw [e]
      unfold place
      rw [pl_app]
      rfl
    · intro σ H' h
      obtain ⟨v, rfl, rfl⟩ := (hP _ _ _).mp h
      rw [List.take_length]
      walk_at "rd"
      exact q
def sp_Ltold (K : PySem.W.Frag) : Sp := fun vs H Q _ => ∃ (a b : Bool), vs = [.bl a, .bl b] ∧ Q (.bl (decide (a = b))) H
theorem ok_Ltold (T : Top K mg) : FnOk P w K mg base CX0 1 T.f_Ltold T.fd_Ltold ["_law_found", "_law_due"] (sp_Ltold K) := by
  refine T.F_Ltold.ok sc_Ltold (fun vs H Q E h => ?_) (fun cdv A outer s H vs Q E hr h => ?_)
  · obtain ⟨a, b, rfl, _⟩ := h
    rfl
  · obtain ⟨a, b, rfl, q⟩ := h
    refine ⟨_, (pss_one (ps_ret (pe_and (pe_callB (r := rIsi K) call_isi (by rfl) T.b_isinstance (by decide +kernel) (pa_cons (pv 0) (pa_cons (pe_bltn (v := .ty "bool") (u := .type "bool") (by rfl) T.b_bool (by decide +kernel) rfl) pa_nil))) (pe_one (pe_cmpR op_eq (pv 0) (pv 1) (nomark _)))))), ?_⟩
    walk_at "rd"
    refine isi_bl_bool ?_
    walk_at "rd"
    exact q
def sp_rank : Sp := fun vs H Q _ => ∃ (c : Nat), vs = [.str (tx [c])] ∧ c ∈ SG ∧ Q (.int (fi c SG : Nat)) H
theorem ok_rank (T : Top K mg) : FnOk P w K mg base CX0 1 T.f_rank T.fd_rank ["sign"] sp_rank := by
  refine T.F_rank.ok sc_rank (fun vs H Q E h => ?_) (fun cdv A outer s H vs Q E hr h => ?_)
  · obtain ⟨a, rfl, _⟩ := h
    rfl
  · obtain ⟨c, rfl, hc, q⟩ := h
    refine ⟨_, (pss_one (ps_ret (pe_bm PySem.F.plainAttrs_str PySem.F.slot_str_index PySem.F.type_str_index mt_indexS (pe_glob (v := .str _) rfl T.g_SIGNS ⟨_, rfl⟩) (pa_cons (pv 0) pa_nil)))), ?_⟩
    walk_at "rd"
    exact ⟨rfl, SG, sgs_tx2, hc, q⟩
def sp_Lconstants : Sp := fun vs H Q _ => vs = [] ∧ Q (.bl true) H
theorem ok_Lconstants (T : Top K mg) : FnOk P w K mg base CX0 2 T.f_Lconstants T.fd_Lconstants [] sp_Lconstants := by
  refine T.F_Lconstants.ok sc_Lconstants (fun vs H Q E h => ?_) (fun cdv A outer s H vs Q E hr h => ?_)
  · obtain ⟨rfl, _⟩ := h
    rfl
  · obtain ⟨rfl, q⟩ := h
    refine ⟨_, (pss_cons (ps_set (i := 0) sc_Lconstants.nd rfl (Or.inl rfl) (pe_call0 (ok_Lsigns T) (hr.mono (by decide)) (by rfl) T.g_Lsigns T.F_Lsigns.kp T.B_Lsigns .nil pass0))
       (pss_cons (ps_set (i := 1) sc_Lconstants.nd rfl (Or.inl rfl) pe_str)
       (pss_cons (ps_set (i := 2) sc_Lconstants.nd rfl (Or.inl rfl) pe_str)
       (pss_cons (ps_if (PW.pt (pw_or (pt_cmpR op_ne (pe_glob (v := .str _) rfl T.g_SIGNS ⟨_, rfl⟩) (pv 0) (nomark _)) (pw_or (pt_cmpR op_ne (pe_glob (v := .str _) rfl T.g_DIGITS ⟨_, rfl⟩) pe_str (nomark _)) (pw_or (pt_cmpR op_ne (pe_glob (v := .str _) rfl T.g_LETTERS ⟨_, rfl⟩) (pv 1) (nomark _)) (pw_or (pt_cmpR op_ne (pe_glob (v := .str _) rfl T.g_BLANKS ⟨_, rfl⟩) pe_str (nomark _)) (pw_or1 (pt_cmpR op_ne (pe_glob (v := .str _) rfl T.g_WORD_SIGNS ⟨_, rfl⟩) (pv 2) (nomark _)))))))) (pss_one (ps_ret pe_bl)) pss_nil)
       (pss_cons (ps_for PassesOwn.never rfl (pi_range1 rfl T.b_range (pa_cons pe_int pa_nil)) (pg_name (i := 3) sc_Lconstants.nd rfl (Or.inl rfl))
       (pss_cons (ps_set (i := 4) sc_Lconstants.nd rfl (Or.inl rfl) (pe_call (ok_rank T) (hr.mono (by decide)) (by rfl) T.g_rank T.F_rank.kp T.B_rank .nil pass0 (pa_cons (pe_ix ix_str (pv 0) (pv 3) (fun _ _ => rfl)) pa_nil)))
       (pss_one (ps_if (PW.pt (pw_or (pt_not (pt_val (pe_callB (r := rIsi K) call_isi (by rfl) T.b_isinstance (by decide +kernel) (pa_cons (pv 4) (pa_cons (pe_bltn (v := .ty "int") (u := .type "int") (by rfl) T.b_int (by decide +kernel) rfl) pa_nil))))) (pw_or (pt_val (pe_callB (r := rIsi K) call_isi (by rfl) T.b_isinstance (by decide +kernel) (pa_cons (pv 4) (pa_cons (pe_bltn (v := .ty "bool") (u := .type "bool") (by rfl) T.b_bool (by decide +kernel) rfl) pa_nil)))) (pw_or1 (pt_cmpR op_ne (pv 4) (pv 3) (nomark _)))))) (pss_one (ps_ret pe_bl)) pss_nil))))
       (pss_one (ps_ret pe_bl))))))), ?_⟩
    walk_at "rd"
    rw [if_neg (fun h => h sgs_tx2), if_neg (fun h => h trivial), if_neg (fun h => h trivial), if_neg (fun h => h trivial), if_neg (fun h => h trivial)]
    refine ⟨by decide, by decide, ?_⟩
    obtain ⟨Pv, hP⟩ : ∃ Pv : Nat → St → Hp → Prop, ∀ i σ H', Pv i σ H' ↔ ∃ (v w : Option V), σ = [some (V.str (tx SG)), some (V.str (Str.ofString "ABCDEFGHIJKLMNOPQRSTUVWXYZabcdefghijklmnopqrstuvwxyz")), some (V.str (Str.ofString "0123456789ABCDEFGHIJKLMNOPQRSTUVWXYZ_abcdefghijklmnopqrstuvwxyz")), v, w] ∧ H' = H := ⟨_, fun _ _ _ => Iff.rfl⟩
    refine forJ_by (reg_range 0 96) Pv (fun _ _ _ _ => trivial) ?_ ?_ ?_
    · exact (hP _ _ _).mpr ⟨_, _, rfl, rfl⟩
    · intro i k σ H' hi h
      obtain ⟨v, w', rfl, rfl⟩ := (hP _ _ _).mp h
      have hk := List.mem_range.mp (List.mem_of_getElem? hi)
      have hk2 : k < SG.length := by rw [SG_len]; exact hk
      have e1 : atI SG (0 + (k : Int)) = some SG[k] := by rw [Int.zero_add]; exact atI_nat (List.getElem?_eq_getElem hk2)
      walk_at "rd"
      refine ⟨line20 (by rw [SG_len]; decide), _, e1, _, rfl, List.getElem_mem hk2, ?_⟩
      rw [fi_getD SG_asc hk2]
      refine isi_int_int ?_
      walk_at "rd"
      refine isi_int_bool ?_
      walk_at "rd"
      rw [if_neg (fun h => h (by omega))]
      exact (hP _ _ _).mpr ⟨_, _, rfl, rfl⟩
    · intro σ H' h
      obtain ⟨v, w', rfl, rfl⟩ := (hP _ _ _).mp h
      walk_at "rd"
      exact q
end
end My
namespace My
open PySem L2
local macro_rules | `(tactic| walk_at "rd") => `(tactic| simp only [sp_Lnext, sp_Lsigns, sp_Ldraw, sp_Lsubset, sp_Lletters, sp_Lover, sp_Lnear_text, sp_Lbefore, sp_Lplace, sp_Ltold, sp_Lconstants, sp_precedes, sp_next_text, tSeq, tNext, tAsg, tOp, tUn, tC, tVar, gName, gSub, tCons, tNil, tCB, tIfS, tIf, tTest, tB, tAnd, tOr, tNot, tAndV, tOrV, tNotV, tRet, tRetN, tDrop, tLst, tTup, tCall, tSl, tNoPart, tPart, tM0, tM1, tBM, tBM0, tYes, tFor_eq, tLc_eq, iList, iRng1, iRng2, iStr, sg_tx, c_empty, rstrip_sign, find_sign, cut_last, cut_to, cut_from, cut_mid, cut_to_lit, cut_from_lit, and_assoc, flat_rep, List.length_replicate, tx_len, tx_eq, tx_app, tx_cps, rI0, rI, rU, rEq, rNe, rIxL, rIxS, rIxT, rSetL, rAppend, rPopAt, rSlS, rSlL, rIn, rMulS, rLtD, rJoin, rLenQ, rListOf,  tRevS, 
  scal, L2.start, List.map_cons, List.map_nil, List.length_cons, List.length_nil, List.replicate, List.cons_append, List.nil_append, List.append_nil,
  List.getElem?_cons_zero, List.getElem?_cons_succ, List.set_cons_zero, List.set_cons_succ, Nat.sub_zero, Nat.reduceSub, Nat.reduceAdd, Nat.zero_add, id_eq, Int.reduceToNat, exists_or,
  V.int.injEq, V.str.injEq, V.bl.injEq, V.ref.injEq, Option.some.injEq, List.cons.injEq, exists_and_left, exists_eq_left', exists_eq_left, exists_eq, exists_eq', and_true, true_and, reduceCtorEq, false_and, and_false, exists_false, false_or, or_false, decide_eq_true_eq, Bool.not_eq_true', decide_eq_false_iff_not, Bool.not_not, Bool.false_eq_true, ↓reduceIte, if_true, if_false])

local macro_rules | `(tactic| walk_at "ne") => `(tactic| first | assumption | (refine Ne.symm ?_; assumption) | exact (ne_of_none (by assumption) (by assumption)) | exact (ne_of_none (by assumption) (by assumption)).symm)
local macro_rules | `(tactic| walk_at "hp") => `(tactic| first | assumption | exact upd_same | exact (upd_ne (by walk_at "ne")).trans (by walk_at "hp"))
local macro_rules | `(tactic| walk_at "st1") => `(tactic| first
  | refine ⟨_, Or.inl (Or.inl (by walk_at "hp")), ?_⟩
  | refine ⟨_, Or.inl (Or.inl (Or.inl (by walk_at "hp"))), ?_⟩
  | refine ⟨_, (show _ = some (HO.lst _) by walk_at "hp"), ?_⟩
  | refine ⟨_, rfl, ?_⟩
  | refine ⟨(rfl : ("str" : String) = "str"), ?_⟩
  | refine ⟨Or.inr ⟨by decide, by decide⟩, ?_⟩
  | refine ⟨⟨by decide, by decide⟩, ?_⟩
  | refine ⟨by decide, ?_⟩
  | refine ⟨by assumption, ?_⟩)
local macro_rules | `(tactic| walk_at "st") => `(tactic| repeat walk_at "st1")
local macro_rules | `(tactic| walk_at "go") => `(tactic| repeat first | walk_at "st1" | walk_at "rd")
section
variable {P : Program} {w : World} {K : PySem.W.Frag} {mg : Str → Option Value} {base : Heap}
def sp_law (K : PySem.W.Frag) : Sp := fun vs H Q _ => ∃ (a : Addr) (ns : List Int), vs = [.ref a] ∧ SqL K H a (ns.map V.int) ∧ ns.length ≤ 63 ∧ ∀ H', Q (.bl true) H'
theorem ok_law (T : Top K mg) : FnOk P w K mg base CX0 3 T.f_law T.fd_law ["_law_script"] (sp_law K) := by
  refine T.F_law.ok sc_law (fun vs H Q E h => ?_) (fun cdv A outer s H vs Q E hr h => ?_)
  · obtain ⟨a, ns, rfl, _⟩ := h
    rfl
  · obtain ⟨a, ns, rfl, hS, hn, q⟩ := h
    refine ⟨_, (pss_cons (ps_set (i := 1) sc_law.nd rfl (Or.inl rfl) (pe_call (ok_Ldraw T) (hr.mono (by decide)) (by rfl) T.g_Ldraw T.F_Ldraw.kp T.B_Ldraw .nil pass0 (pa_cons (pv 0) pa_nil)))
       (pss_cons (ps_set (i := 2) sc_law.nd rfl (Or.inr rfl) (pe_call (ok_Lsubset T) (hr.mono (by decide)) (by rfl) T.g_Lsubset T.F_Lsubset.kp T.B_Lsubset .nil pass0 (pa_cons (pv 1) pa_nil)))
       (pss_cut (ps_if (PW.pt (pw_or (pt_cmpR op_eq (pe_call (ok_Lnext T) (hr.mono (by decide)) (by rfl) T.g_Lnext T.F_Lnext.kp T.B_Lnext .nil pass0 (pa_cons (pv 1) (pa_cons pe_int pa_nil))) pe_int (nomark _)) (pw_or1 (pt_cmpR op_eq (pv 2) pe_str (nomark _))))) (pss_one (ps_set (i := 2) sc_law.nd rfl (Or.inr rfl) (pe_call (ok_Lletters T) (hr.mono (by decide)) (by rfl) T.g_Lletters T.F_Lletters.kp T.B_Lletters .nil pass0 (pa_cons (pv 1) pa_nil)))) pss_nil)
       (pss_cons (ps_set (i := 3) sc_law.nd rfl (Or.inl rfl) pe_int)
       (pss_cut (ps_if (pt_cmpR op_eq (pe_call (ok_Lnext T) (hr.mono (by decide)) (by rfl) T.g_Lnext T.F_Lnext.kp T.B_Lnext .nil pass0 (pa_cons (pv 1) (pa_cons pe_int pa_nil))) pe_int (nomark _)) (pss_one (ps_set (i := 3) sc_law.nd rfl (Or.inl rfl) pe_int)) pss_nil)
       (pss_cons (ps_set (i := 4) sc_law.nd rfl (Or.inl rfl) (pe_call (ok_Lover T) (hr.mono (by decide)) (by rfl) T.g_Lover T.F_Lover.kp T.B_Lover .nil pass0 (pa_cons (pv 1) (pa_cons (pv 2) (pa_cons (pv 3) pa_nil)))))
       (pss_cut (ps_if (pt_cmpR op_eq (pe_call (ok_Lnext T) (hr.mono (by decide)) (by rfl) T.g_Lnext T.F_Lnext.kp T.B_Lnext .nil pass0 (pa_cons (pv 1) (pa_cons pe_int pa_nil))) pe_int (nomark _)) (pss_one (ps_set (i := 4) sc_law.nd rfl (Or.inl rfl) (pe_op op_add_str (pv 4) (pe_op op_mul_str (pe_ix ix_str (pv 2) (pe_un un_neg pe_int) (fun _ _ => rfl)) (pe_call (ok_Lnext T) (hr.mono (by decide)) (by rfl) T.g_Lnext T.F_Lnext.kp T.B_Lnext .nil pass0 (pa_cons (pv 1) (pa_cons (pe_op op_sub pe_int (pe_callB call_len_str (by rfl) T.b_len PySem.boot_len (pa_cons (pv 4) pa_nil))) pa_nil))))))) pss_nil)
       (pss_cons (ps_set (i := 5) sc_law.nd rfl (Or.inl rfl) (pe_call (ok_Lover T) (hr.mono (by decide)) (by rfl) T.g_Lover T.F_Lover.kp T.B_Lover .nil pass0 (pa_cons (pv 1) (pa_cons (pe_call0 (ok_Lsigns T) (hr.mono (by decide)) (by rfl) T.g_Lsigns T.F_Lsigns.kp T.B_Lsigns .nil pass0) (pa_cons pe_int pa_nil)))))
       (pss_cons (ps_set (i := 6) sc_law.nd rfl (Or.inl rfl) (pe_lst (pa_cons (pv 4) (pa_cons (pe_call (ok_Lover T) (hr.mono (by decide)) (by rfl) T.g_Lover T.F_Lover.kp T.B_Lover .nil pass0 (pa_cons (pv 1) (pa_cons (pv 2) (pa_cons pe_int pa_nil)))) (pa_cons (pv 5) (pa_cons (pe_call (ok_Lnear_text T) (hr.mono (by decide)) (by rfl) T.g_Lnear_text T.F_Lnear_text.kp T.B_Lnear_text .nil pass0 (pa_cons (pv 1) (pa_cons (pv 4) (pa_cons (pv 2) pa_nil)))) (pa_cons (pe_call (ok_Lnear_text T) (hr.mono (by decide)) (by rfl) T.g_Lnear_text T.F_Lnear_text.kp T.B_Lnear_text .nil pass0 (pa_cons (pv 1) (pa_cons (pv 5) (pa_cons (pv 2) pa_nil)))) pa_nil)))))))
       (pss_cons (ps_if (pt_not (pt_val (pe_call0 (ok_Lconstants T) (hr.mono (by decide)) (by rfl) T.g_Lconstants T.F_Lconstants.kp T.B_Lconstants .nil pass0))) (pss_one (ps_ret pe_bl)) pss_nil)
       (pss_cons (ps_for PassesOwn.never rfl (pi_list (pv 6)) (pg_name (i := 7) sc_law.nd rfl (Or.inl rfl))
       (pss_one (ps_for PassesOwn.never rfl (pi_list (pv 6)) (pg_name (i := 8) sc_law.nd rfl (Or.inl rfl))
       (pss_one (ps_if (pt_not (pt_val (pe_call (ok_Ltold T) (hr.mono (by decide)) (by rfl) T.g_Ltold T.F_Ltold.kp T.B_Ltold .nil pass0 (pa_cons (pe_call (ok_precedes T) (hr.mono (by decide)) (by rfl) T.g_precedes T.F_precedes.kp T.B_precedes .nil pass0 (pa_cons (pv 7) (pa_cons (pv 8) pa_nil))) (pa_cons (pe_call (ok_Lbefore T) (hr.mono (by decide)) (by rfl) T.g_Lbefore T.F_Lbefore.kp T.B_Lbefore .nil pass0 (pa_cons (pv 7) (pa_cons (pv 8) pa_nil))) pa_nil))))) (pss_one (ps_ret pe_bl)) pss_nil)))))
       (pss_cons (ps_set (i := 9) sc_law.nd rfl (Or.inl rfl) (pv 4))
       (pss_cons (ps_set (i := 10) sc_law.nd rfl (Or.inl rfl) (pe_call (ok_next_text T) (hr.mono (by decide)) (by rfl) T.g_next_text T.F_next_text.kp T.B_next_text .nil pass0 (pa_cons (pv 4) (pa_cons (pv 2) pa_nil))))
       (pss_cons (ps_for PassesOwn.never rfl (pi_range1 rfl T.b_range (pa_cons (pe_op op_add pe_int (pe_call (ok_Lnext T) (hr.mono (by decide)) (by rfl) T.g_Lnext T.F_Lnext.kp T.B_Lnext .nil pass0 (pa_cons (pv 1) (pa_cons pe_int pa_nil)))) pa_nil)) (pg_name (i := 11) sc_law.nd rfl (Or.inl rfl))
       (pss_cons (ps_set (i := 12) sc_law.nd rfl (Or.inl rfl) (pe_call (ok_next_text T) (hr.mono (by decide)) (by rfl) T.g_next_text T.F_next_text.kp T.B_next_text .nil pass0 (pa_cons (pv 9) (pa_cons (pv 2) pa_nil))))
       (pss_cons (ps_if (PW.pt (pw_or (pt_not (pt_val (pe_callB (r := rIsi K) call_isi (by rfl) T.b_isinstance (by decide +kernel) (pa_cons (pv 12) (pa_cons (pe_bltn (v := .ty "str") (u := .type "str") (by rfl) T.b_str (by decide +kernel) rfl) pa_nil))))) (pw_or1 (pt_cmpR op_gt (pe_callB (r := rLenQ K) call_lenQ (by rfl) T.b_len PySem.boot_len (pa_cons (pe_lc (own := [("_law_sign", 13)]) (g := gName 13) (by rfl) sc_law.nd (pi_str (pv 12)) (blkOk_by (own := [("_law_sign", 13)]) (N := n_law) (sc := defScope s_law) (by decide +kernel)) (fun _ _ _ _ _ => pg_name (i := 13) sc_law.nd rfl (Or.inl rfl)) (fun _ _ _ _ _ => (pts_one (pt_cmpR op_notIn_sign (pv 13) (pv 2) (by rfl)))) (fun _ _ _ _ _ => (pv 13))) pa_nil)) pe_int (nomark _))))) (pss_one (ps_ret pe_bl)) pss_nil)
       (pss_cons (ps_if (pt_cmpR op_ne (pe_call (ok_Lplace T) (hr.mono (by decide)) (by rfl) T.g_Lplace T.F_Lplace.kp T.B_Lplace .nil pass0 (pa_cons (pv 12) (pa_cons (pv 2) pa_nil))) (pe_op op_add (pe_call (ok_Lplace T) (hr.mono (by decide)) (by rfl) T.g_Lplace T.F_Lplace.kp T.B_Lplace .nil pass0 (pa_cons (pv 9) (pa_cons (pv 2) pa_nil))) pe_int) (nomark _)) (pss_one (ps_ret pe_bl)) pss_nil)
       (pss_cons (ps_if (PW.pt (pw_or (pt_not (pt_val (pe_call (ok_Ltold T) (hr.mono (by decide)) (by rfl) T.g_Ltold T.F_Ltold.kp T.B_Ltold .nil pass0 (pa_cons (pe_call (ok_precedes T) (hr.mono (by decide)) (by rfl) T.g_precedes T.F_precedes.kp T.B_precedes .nil pass0 (pa_cons (pv 9) (pa_cons (pv 12) pa_nil))) (pa_cons pe_bl pa_nil))))) (pw_or1 (pt_not (pt_val (pe_call (ok_Ltold T) (hr.mono (by decide)) (by rfl) T.g_Ltold T.F_Ltold.kp T.B_Ltold .nil pass0 (pa_cons (pe_call (ok_precedes T) (hr.mono (by decide)) (by rfl) T.g_precedes T.F_precedes.kp T.B_precedes .nil pass0 (pa_cons (pv 12) (pa_cons (pv 9) pa_nil))) (pa_cons pe_bl pa_nil)))))))) (pss_one (ps_ret pe_bl)) pss_nil)
       (pss_cons (ps_if (PW.pt (pw_and (pt_val (pe_call (ok_precedes T) (hr.mono (by decide)) (by rfl) T.g_precedes T.F_precedes.kp T.B_precedes .nil pass0 (pa_cons (pv 9) (pa_cons (pe_ix (r := rIxL K) ix_list (pv 6) pe_int (fun _ _ => rfl)) pa_nil)))) (pw_and1 (pt_val (pe_call (ok_precedes T) (hr.mono (by decide)) (by rfl) T.g_precedes T.F_precedes.kp T.B_precedes .nil pass0 (pa_cons (pe_ix (r := rIxL K) ix_list (pv 6) pe_int (fun _ _ => rfl)) (pa_cons (pv 12) pa_nil))))))) (pss_one (ps_ret pe_bl)) pss_nil)
       (pss_one (ps_set (i := 9) sc_law.nd rfl (Or.inl rfl) (pv 12)))))))))
       (pss_one (ps_ret (pe_and (pe_cmpR op_eq (pe_call (ok_Lplace T) (hr.mono (by decide)) (by rfl) T.g_Lplace T.F_Lplace.kp T.B_Lplace .nil pass0 (pa_cons (pv 10) (pa_cons (pv 2) pa_nil))) (pe_op op_add (pe_call (ok_Lplace T) (hr.mono (by decide)) (by rfl) T.g_Lplace T.F_Lplace.kp T.B_Lplace .nil pass0 (pa_cons (pv 4) (pa_cons (pv 2) pa_nil))) pe_int) (nomark _)) (pe_one (pe_cmpR op_eq (pe_call (ok_next_text T) (hr.mono (by decide)) (by rfl) T.g_next_text T.F_next_text.kp T.B_next_text .nil pass0 (pa_cons (pv 4) (pa_cons (pv 2) pa_nil))) (pv 10) (nomark _)))))))))))))))))))), ?_⟩
    walk_at "rd"
    refine ⟨ns, hS, hn, fun d l H1 hd hl sm D1 => ⟨l, D1, fun s0 H2 hs0 D2 _ => ?_⟩⟩
    obtain ⟨M1, hM1⟩ : ∃ M : St → Hp → Prop, ∀ σ' H', M σ' H' ↔ ∃ (sg : List Nat), σ' = [some (V.ref a), some (V.ref d), some (V.str (tx sg)), none, none, none, none, none, none, none, none, none, none, none] ∧ Drw H' d l ∧ sg.Sublist SG ∧ sg ≠ [] := ⟨_, fun _ _ => Iff.rfl⟩
    refine ⟨M1, ?_, fun σ' H' hm => ?_⟩
    · walk_at "rd"
      refine ⟨l, D2, by decide, fun r H3 r0 r1 D3 _ => ?_⟩
      split
      · exact ⟨l, D3, fun cs H4 c1 c2 D4 _ => (hM1 _ _).mpr ⟨cs, rfl, D4, c1, c2⟩⟩
      · split
        · exact ⟨l, D3, fun cs H4 c1 c2 D4 _ => (hM1 _ _).mpr ⟨cs, rfl, D4, c1, c2⟩⟩
        · rename_i hne
          exact (hM1 _ _).mpr ⟨s0, rfl, D3, hs0, hne⟩
    · obtain ⟨sg, rfl, D3, ssub, sne⟩ := (hM1 _ _).mp hm
      have slen := sub_len ssub
      have sasc := sub_asc ssub
      have sall : ∀ c ∈ sg, c ∈ SG := fun c hc => ssub.subset hc
      walk_at "rd"
      obtain ⟨M2, hM2⟩ : ∃ M : St → Hp → Prop, ∀ σ' H', M σ' H' ↔ ∃ (m : Nat), σ' = [some (V.ref a), some (V.ref d), some (V.str (tx sg)), some (V.int (m : Int)), none, none, none, none, none, none, none, none, none, none] ∧ Drw H' d l ∧ m ≤ 117 := ⟨_, fun _ _ => Iff.rfl⟩
      refine ⟨M2, ?_, fun σ' H' hm => ?_⟩
      · walk_at "rd"
        refine ⟨l, D3, by decide, fun r H3 r0 r1 D3 _ => ?_⟩
        split
        · exact (hM2 _ _).mpr ⟨117, rfl, D3, by decide⟩
        · exact (hM2 _ _).mpr ⟨9, rfl, D3, by decide⟩
      · obtain ⟨m, rfl, D4, hm117⟩ := (hM2 _ _).mp hm
        walk_at "rd"
        refine ⟨l, m, rfl, D4, sne, by omega, by omega, fun t0 H5 ht0 lt0 D5 _ => ?_⟩
        have slS : sg.length ≤ sizeLine := line20 (by omega)
        have lS : SG.length ≤ 100 := by rw [SG_len]; decide
        have SGne : SG ≠ [] := by decide
        obtain ⟨M3, hM3⟩ : ∃ M : St → Hp → Prop, ∀ σ' H', M σ' H' ↔ ∃ (t : List Nat), σ' = [some (V.ref a), some (V.ref d), some (V.str (tx sg)), some (V.int (m : Int)), some (V.str (tx t)), none, none, none, none, none, none, none, none, none] ∧ Drw H' d l ∧ t.length ≤ 400 ∧ (∀ c ∈ t, c ∈ sg) := ⟨_, fun _ _ => Iff.rfl⟩
        refine ⟨M3, ?_, fun σ' H' hm => ?_⟩
        · walk_at "rd"
          refine ⟨l, D5, by decide, fun r H6 r0 r1 D6 _ => ?_⟩
          split
          · refine ⟨slS, _, atI_neg1 sne, line20 (by omega), l, D6, by omega, fun r2 H7 r3 r4 D7 _ => ?_⟩
            refine ⟨r2.toNat, by omega, by omega, by decide, line20 (by omega), (hM3 _ _).mpr ⟨_, rfl, D7, ?_, fun c hc => ?_⟩⟩
            · rw [List.length_append, List.length_replicate]; omega
            · rcases List.mem_append.mp hc with h1 | h1
              · exact ht0 c h1
              · rw [List.eq_of_mem_replicate h1]; exact List.getLast_mem sne
          · exact (hM3 _ _).mpr ⟨t0, rfl, D6, by omega, ht0⟩
        · obtain ⟨t, rfl, D6, lt, ht⟩ := (hM3 _ _).mp hm
          walk_at "rd"
          refine ⟨l, 9, rfl, D6, SGne, lS, by decide, fun t3 H7 h3 l3 D7 _ => ?_⟩
          refine ⟨l, 9, rfl, D7, sne, by omega, by decide, fun u1 H8 hu lu D8 _ => ?_⟩
          refine ⟨l, D8, sne, by omega, by omega, fun n1 H9 hn1 ln1 D9 _ => ?_⟩
          refine ⟨l, D9, sne, by omega, by omega, fun n2 H10 hn2 ln2 D10 _ => ⟨by decide, fun p hp => ?_⟩⟩
          have D11 : Drw (upd H10 p (HO.lst [V.str (tx t), V.str (tx u1), V.str (tx t3), V.str (tx n1), V.str (tx n2)])) d l := D10.new hp
          have pnd : p ≠ d := D10.ne hp
          generalize hH : upd H10 p (HO.lst [V.str (tx t), V.str (tx u1), V.str (tx t3), V.str (tx n1), V.str (tx n2)]) = Hx at *
          have hL : Hx p = some (HO.lst [V.str (tx t), V.str (tx u1), V.str (tx t3), V.str (tx n1), V.str (tx n2)]) := by rw [← hH]; exact upd_same
          have good : ∀ x ∈ [V.str (tx t), V.str (tx u1), V.str (tx t3), V.str (tx n1), V.str (tx n2)], ∃ cs, x = V.str (tx cs) ∧ cs.length ≤ 10000 ∧ ∀ c ∈ cs, c ∈ SG := by
            intro x hx
            simp only [List.mem_cons, List.not_mem_nil, or_false] at hx
            rcases hx with rfl | rfl | rfl | rfl | rfl
            · exact ⟨t, rfl, by omega, fun c hc => sall c (ht c hc)⟩
            · exact ⟨u1, rfl, by omega, fun c hc => sall c (hu c hc)⟩
            · exact ⟨t3, rfl, by omega, h3⟩
            · exact ⟨n1, rfl, by omega, fun c hc => (hn1 c hc).elim (fun h => sall c (ht c h)) (sall c)⟩
            · exact ⟨n2, rfl, by omega, fun c hc => (hn2 c hc).elim (h3 c) (sall c)⟩
          refine ⟨⟨_, .inl (.inl hL)⟩, ?_⟩
          obtain ⟨Pv, hP⟩ : ∃ Pv : Nat → St → Hp → Prop, ∀ i σ H', Pv i σ H' ↔ ∃ (v7 v8 : Option V), σ = [some (V.ref a), some (V.ref d), some (V.str (tx sg)), some (V.int (m : Int)), some (V.str (tx t)), some (V.str (tx t3)), some (V.ref p), v7, v8, none, none, none, none, none] ∧ Same Hx H' := ⟨_, fun _ _ _ => Iff.rfl⟩
          refine forJ_by (reg_list _ p [V.str (tx t), V.str (tx u1), V.str (tx t3), V.str (tx n1), V.str (tx n2)]) Pv ?_ ?_ ?_ ?_
          · intro i σ H' h
            obtain ⟨_, _, _, sm'⟩ := (hP _ _ _).mp h
            exact .inl (.inl (sm' _ _ hL))
          · exact (hP _ _ _).mpr ⟨_, _, rfl, Same.refl _⟩
          · intro i x σ H' hi h
            obtain ⟨v7, v8, rfl, sm1⟩ := (hP _ _ _).mp h
            obtain ⟨cx, rfl, lcx, scx⟩ := good x (List.mem_of_getElem? hi)
            walk_at "rd"
            refine ⟨⟨_, .inl (.inl (sm1 _ _ hL))⟩, ?_⟩
            obtain ⟨Pj, hJ⟩ : ∃ Pj : Nat → St → Hp → Prop, ∀ i σ H', Pj i σ H' ↔ ∃ (v8 : Option V), σ = [some (V.ref a), some (V.ref d), some (V.str (tx sg)), some (V.int (m : Int)), some (V.str (tx t)), some (V.str (tx t3)), some (V.ref p), some (V.str (tx cx)), v8, none, none, none, none, none] ∧ Same Hx H' := ⟨_, fun _ _ _ => Iff.rfl⟩
            refine forJ_by (reg_list _ p [V.str (tx t), V.str (tx u1), V.str (tx t3), V.str (tx n1), V.str (tx n2)]) Pj ?_ ?_ ?_ ?_
            · intro i σ H' h
              obtain ⟨_, _, sm'⟩ := (hJ _ _ _).mp h
              exact .inl (.inl (sm' _ _ hL))
            · exact (hJ _ _ _).mpr ⟨_, rfl, sm1⟩
            · intro j y σ H' hj h
              obtain ⟨v8, rfl, sm2⟩ := (hJ _ _ _).mp h
              obtain ⟨cy, rfl, lcy, scy⟩ := good y (List.mem_of_getElem? hj)
              walk_at "rd"
              refine ⟨lcx, lcy, fun H2' s2 => ⟨lcx, lcy, scx, scy, ?_⟩⟩
              exact (hJ _ _ _).mpr ⟨_, rfl, sm2.trans s2⟩
            · intro σ H' h
              obtain ⟨v8, rfl, sm2⟩ := (hJ _ _ _).mp h
              exact (hP _ _ _).mpr ⟨_, _, rfl, sm2⟩
          · intro σ H' h
            obtain ⟨v7, v8, rfl, sm1⟩ := (hP _ _ _).mp h
            have D12 : Drw H' d l := D11.same sm1
            have N0 := nxt_ok sne sasc ht
            walk_at "rd"
            refine ⟨sne, ht, by omega, by omega, l, D12, by decide, fun r H12 r0 r1 D13 B13 => ⟨by omega, by omega, ?_⟩⟩
            have hL2 : H12 p = some (HO.lst [V.str (tx t), V.str (tx u1), V.str (tx t3), V.str (tx n1), V.str (tx n2)]) := B13 _ _ pnd (sm1 _ _ hL)
            obtain ⟨Pk, hK⟩ : ∃ Pk : Nat → St → Hp → Prop, ∀ i σ H', Pk i σ H' ↔ ∃ (v : List Nat) (v11 v12 v13 : Option V), σ = [some (V.ref a), some (V.ref d), some (V.str (tx sg)), some (V.int (m : Int)), some (V.str (tx t)), some (V.str (tx t3)), some (V.ref p), v7, v8, some (V.str (tx v)), some (V.str (tx (nxt t sg))), v11, v12, v13] ∧ Same H12 H' ∧ v.length ≤ 400 + i ∧ (∀ c ∈ v, c ∈ sg) := ⟨_, fun _ _ _ => Iff.rfl⟩
            refine forJ_by (reg_range 0 (1 + r).toNat) Pk (fun _ _ _ _ => trivial) ?_ ?_ ?_
            · exact (hK _ _ _).mpr ⟨t, _, _, _, rfl, Same.refl _, by omega, ht⟩
            · intro i k σ H' hi h
              obtain ⟨v, v11, v12, v13, rfl, sm2, lv, hv⟩ := (hK _ _ _).mp h
              have hi2 : i < 13 := by
                have := (List.getElem?_eq_some_iff.mp hi).1
                rw [List.length_range] at this
                omega
              have N := nxt_ok sne sasc hv
              walk_at "rd"
              refine ⟨sne, hv, by omega, by omega, isi_str_str ?_⟩
              walk_at "rd"
              refine lcJ_pure (reg_text (nxt v sg)) (fun c => !decide (c ∈ sg)) (fun c => V.str (tx [c])) (line20 (by have := N.len; omega)) (fun _ _ _ => trivial) (fun c D acc Q _ h0 hq => ?_) (fun c D acc Q _ _ h0 hq => ?_) (fun D h0 => ?_)
              · walk_at "rd"
                exact hq
              · walk_at "rd"
                exact hq
              · have enil : (nxt v sg).filter (fun c => !decide (c ∈ sg)) = [] := by
                  rw [List.filter_eq_nil_iff]
                  intro c hc
                  simp [N.sub c hc]
                rw [enil]
                have hN := N.len
                have p1 : prec v (nxt v sg) = true := (prec_iff sasc hv N.sub).mpr (by rw [N.place]; omega)
                have p2 : prec (nxt v sg) v = false := by
                  cases e : prec (nxt v sg) v with
                  | false => rfl
                  | true =>
                    have := (prec_iff sasc N.sub hv).mp e
                    rw [N.place] at this
                    omega
                refine ⟨D, rfl, [], .inl sq_upd, ?_⟩
                rw [if_neg (by simp)]
                refine ⟨by omega, by omega, N.sub, by omega, by omega, hv, ?_⟩
                rw [if_neg (fun h => h N.place)]
                refine ⟨by omega, by omega, fun H2' s2 => ?_⟩
                rw [if_neg (fun h => h p1)]
                refine ⟨by omega, by omega, fun H3' s3 => ?_⟩
                rw [if_neg (fun h => h p2)]
                have sA : Same H12 H3' := sm2.trans ((same_upd h0).trans (s2.trans s3))
                refine ⟨_, .inl (.inl (sA _ _ hL2)), _, rfl, u1, rfl, by omega, by omega, fun H4' s4 => ?_⟩
                have done : ∀ H5', Same H4' H5' → Pk (i + 1) [some (V.ref a), some (V.ref d), some (V.str (tx sg)), some (V.int (m : Int)), some (V.str (tx t)), some (V.str (tx t3)), some (V.ref p), v7, v8, some (V.str (tx (nxt v sg))), some (V.str (tx (nxt t sg))), some (V.int (0 + (k : Int))), some (V.str (tx (nxt v sg))), v13] H5' := fun H5' s5 =>
                  (hK _ _ _).mpr ⟨nxt v sg, _, _, _, rfl, (sA.trans s4).trans s5, by omega, N.sub⟩
                split
                · rename_i hp1
                  refine ⟨_, .inl (.inl (s4 _ _ (sA _ _ hL2))), _, rfl, u1, rfl, by omega, by omega, fun H5' s5 => ?_⟩
                  rw [if_neg ?_]
                  · exact done _ s5
                  · intro hp2
                    have a1 := (prec_iff sasc hv hu).mp hp1
                    have a2 := (prec_iff sasc hu N.sub).mp hp2
                    rw [N.place] at a2
                    omega
                · exact done _ (Same.refl _)
            · intro σ H' h
              obtain ⟨v, v11, v12, v13, rfl, sm2, lv, hv⟩ := (hK _ _ _).mp h
              walk_at "rd"
              have hN := N0.len
              refine ⟨by omega, by omega, N0.sub, by omega, by omega, ht, ?_⟩
              rw [if_pos N0.place]
              refine ⟨sne, ht, by omega, by omega, ?_⟩
              rw [decide_eq_true trivial]
              exact q _
end
end My
namespace My
open PySem L2
theorem all_mk {l : PySem.W.OpenLaw} {w : World} {K : PySem.W.Frag} {h : Heap} {mg : Str → Option Value} {fa : Addr} (X : K.In h) (G : h.Ns mainGlobals mg) (hfa : mg "law" = some (.ref fa))
    {f_rank : Addr} {od_rank an_rank : Option Addr} {sl_rank : Array (Option Value)} {oc_rank kV_rank dc_rank pm_rank cd_rank ct_rank : Value} (a_rank : PySem.W.nsIn K mainGlobals "rank" = some (some (.ref f_rank))) (l_rank : K.lookup f_rank = some ⟨oc_rank, od_rank, .func (PySem.W.fnOf "rank" "rank" (defArgs s_rank) (defBody s_rank) (defScope s_rank) .none kV_rank dc_rank pm_rank an_rank cd_rank ct_rank), sl_rank⟩) (c_rank : PySem.W.codeIn K cd_rank "rank" = true) (k_rank : PySem.W.keepIn K (.ref f_rank) = true)
    {f_precedes : Addr} {od_precedes an_precedes : Option Addr} {sl_precedes : Array (Option Value)} {oc_precedes kV_precedes dc_precedes pm_precedes cd_precedes ct_precedes : Value} (a_precedes : PySem.W.nsIn K mainGlobals "precedes" = some (some (.ref f_precedes))) (l_precedes : K.lookup f_precedes = some ⟨oc_precedes, od_precedes, .func (PySem.W.fnOf "precedes" "precedes" (defArgs s_precedes) (defBody s_precedes) (defScope s_precedes) .none kV_precedes dc_precedes pm_precedes an_precedes cd_precedes ct_precedes), sl_precedes⟩) (c_precedes : PySem.W.codeIn K cd_precedes "precedes" = true) (k_precedes : PySem.W.keepIn K (.ref f_precedes) = true)
    {f_next_text : Addr} {od_next_text an_next_text : Option Addr} {sl_next_text : Array (Option Value)} {oc_next_text kV_next_text dc_next_text pm_next_text cd_next_text ct_next_text : Value} (a_next_text : PySem.W.nsIn K mainGlobals "next_text" = some (some (.ref f_next_text))) (l_next_text : K.lookup f_next_text = some ⟨oc_next_text, od_next_text, .func (PySem.W.fnOf "next_text" "next_text" (defArgs s_next_text) (defBody s_next_text) (defScope s_next_text) .none kV_next_text dc_next_text pm_next_text an_next_text cd_next_text ct_next_text), sl_next_text⟩) (c_next_text : PySem.W.codeIn K cd_next_text "next_text" = true) (k_next_text : PySem.W.keepIn K (.ref f_next_text) = true)
    {f_Ldraw : Addr} {od_Ldraw an_Ldraw : Option Addr} {sl_Ldraw : Array (Option Value)} {oc_Ldraw kV_Ldraw dc_Ldraw pm_Ldraw cd_Ldraw ct_Ldraw : Value} (a_Ldraw : PySem.W.nsIn K mainGlobals "_law_draw" = some (some (.ref f_Ldraw))) (l_Ldraw : K.lookup f_Ldraw = some ⟨oc_Ldraw, od_Ldraw, .func (PySem.W.fnOf "_law_draw" "_law_draw" (defArgs s_Ldraw) (defBody s_Ldraw) (defScope s_Ldraw) .none kV_Ldraw dc_Ldraw pm_Ldraw an_Ldraw cd_Ldraw ct_Ldraw), sl_Ldraw⟩) (c_Ldraw : PySem.W.codeIn K cd_Ldraw "_law_draw" = true) (k_Ldraw : PySem.W.keepIn K (.ref f_Ldraw) = true)
    {f_Lnext : Addr} {od_Lnext an_Lnext : Option Addr} {sl_Lnext : Array (Option Value)} {oc_Lnext kV_Lnext dc_Lnext pm_Lnext cd_Lnext ct_Lnext : Value} (a_Lnext : PySem.W.nsIn K mainGlobals "_law_next" = some (some (.ref f_Lnext))) (l_Lnext : K.lookup f_Lnext = some ⟨oc_Lnext, od_Lnext, .func (PySem.W.fnOf "_law_next" "_law_next" (defArgs s_Lnext) (defBody s_Lnext) (defScope s_Lnext) .none kV_Lnext dc_Lnext pm_Lnext an_Lnext cd_Lnext ct_Lnext), sl_Lnext⟩) (c_Lnext : PySem.W.codeIn K cd_Lnext "_law_next" = true) (k_Lnext : PySem.W.keepIn K (.ref f_Lnext) = true)
    {f_Lsigns : Addr} {od_Lsigns an_Lsigns : Option Addr} {sl_Lsigns : Array (Option Value)} {oc_Lsigns kV_Lsigns dc_Lsigns pm_Lsigns cd_Lsigns ct_Lsigns : Value} (a_Lsigns : PySem.W.nsIn K mainGlobals "_law_signs" = some (some (.ref f_Lsigns))) (l_Lsigns : K.lookup f_Lsigns = some ⟨oc_Lsigns, od_Lsigns, .func (PySem.W.fnOf "_law_signs" "_law_signs" (defArgs s_Lsigns) (defBody s_Lsigns) (defScope s_Lsigns) .none kV_Lsigns dc_Lsigns pm_Lsigns an_Lsigns cd_Lsigns ct_Lsigns), sl_Lsigns⟩) (c_Lsigns : PySem.W.codeIn K cd_Lsigns "_law_signs" = true) (k_Lsigns : PySem.W.keepIn K (.ref f_Lsigns) = true)
    {f_Lletters : Addr} {od_Lletters an_Lletters : Option Addr} {sl_Lletters : Array (Option Value)} {oc_Lletters kV_Lletters dc_Lletters pm_Lletters cd_Lletters ct_Lletters : Value} (a_Lletters : PySem.W.nsIn K mainGlobals "_law_letters" = some (some (.ref f_Lletters))) (l_Lletters : K.lookup f_Lletters = some ⟨oc_Lletters, od_Lletters, .func (PySem.W.fnOf "_law_letters" "_law_letters" (defArgs s_Lletters) (defBody s_Lletters) (defScope s_Lletters) .none kV_Lletters dc_Lletters pm_Lletters an_Lletters cd_Lletters ct_Lletters), sl_Lletters⟩) (c_Lletters : PySem.W.codeIn K cd_Lletters "_law_letters" = true) (k_Lletters : PySem.W.keepIn K (.ref f_Lletters) = true)
    {f_Lsubset : Addr} {od_Lsubset an_Lsubset : Option Addr} {sl_Lsubset : Array (Option Value)} {oc_Lsubset kV_Lsubset dc_Lsubset pm_Lsubset cd_Lsubset ct_Lsubset : Value} (a_Lsubset : PySem.W.nsIn K mainGlobals "_law_subset" = some (some (.ref f_Lsubset))) (l_Lsubset : K.lookup f_Lsubset = some ⟨oc_Lsubset, od_Lsubset, .func (PySem.W.fnOf "_law_subset" "_law_subset" (defArgs s_Lsubset) (defBody s_Lsubset) (defScope s_Lsubset) .none kV_Lsubset dc_Lsubset pm_Lsubset an_Lsubset cd_Lsubset ct_Lsubset), sl_Lsubset⟩) (c_Lsubset : PySem.W.codeIn K cd_Lsubset "_law_subset" = true) (k_Lsubset : PySem.W.keepIn K (.ref f_Lsubset) = true)
    {f_Lover : Addr} {od_Lover an_Lover : Option Addr} {sl_Lover : Array (Option Value)} {oc_Lover kV_Lover dc_Lover pm_Lover cd_Lover ct_Lover : Value} (a_Lover : PySem.W.nsIn K mainGlobals "_law_over" = some (some (.ref f_Lover))) (l_Lover : K.lookup f_Lover = some ⟨oc_Lover, od_Lover, .func (PySem.W.fnOf "_law_over" "_law_over" (defArgs s_Lover) (defBody s_Lover) (defScope s_Lover) .none kV_Lover dc_Lover pm_Lover an_Lover cd_Lover ct_Lover), sl_Lover⟩) (c_Lover : PySem.W.codeIn K cd_Lover "_law_over" = true) (k_Lover : PySem.W.keepIn K (.ref f_Lover) = true)
    {f_Lnear_text : Addr} {od_Lnear_text an_Lnear_text : Option Addr} {sl_Lnear_text : Array (Option Value)} {oc_Lnear_text kV_Lnear_text dc_Lnear_text pm_Lnear_text cd_Lnear_text ct_Lnear_text : Value} (a_Lnear_text : PySem.W.nsIn K mainGlobals "_law_near_text" = some (some (.ref f_Lnear_text))) (l_Lnear_text : K.lookup f_Lnear_text = some ⟨oc_Lnear_text, od_Lnear_text, .func (PySem.W.fnOf "_law_near_text" "_law_near_text" (defArgs s_Lnear_text) (defBody s_Lnear_text) (defScope s_Lnear_text) .none kV_Lnear_text dc_Lnear_text pm_Lnear_text an_Lnear_text cd_Lnear_text ct_Lnear_text), sl_Lnear_text⟩) (c_Lnear_text : PySem.W.codeIn K cd_Lnear_text "_law_near_text" = true) (k_Lnear_text : PySem.W.keepIn K (.ref f_Lnear_text) = true)
    {f_Lbefore : Addr} {od_Lbefore an_Lbefore : Option Addr} {sl_Lbefore : Array (Option Value)} {oc_Lbefore kV_Lbefore dc_Lbefore pm_Lbefore cd_Lbefore ct_Lbefore : Value} (a_Lbefore : PySem.W.nsIn K mainGlobals "_law_before" = some (some (.ref f_Lbefore))) (l_Lbefore : K.lookup f_Lbefore = some ⟨oc_Lbefore, od_Lbefore, .func (PySem.W.fnOf "_law_before" "_law_before" (defArgs s_Lbefore) (defBody s_Lbefore) (defScope s_Lbefore) .none kV_Lbefore dc_Lbefore pm_Lbefore an_Lbefore cd_Lbefore ct_Lbefore), sl_Lbefore⟩) (c_Lbefore : PySem.W.codeIn K cd_Lbefore "_law_before" = true) (k_Lbefore : PySem.W.keepIn K (.ref f_Lbefore) = true)
    {f_Lplace : Addr} {od_Lplace an_Lplace : Option Addr} {sl_Lplace : Array (Option Value)} {oc_Lplace kV_Lplace dc_Lplace pm_Lplace cd_Lplace ct_Lplace : Value} (a_Lplace : PySem.W.nsIn K mainGlobals "_law_place" = some (some (.ref f_Lplace))) (l_Lplace : K.lookup f_Lplace = some ⟨oc_Lplace, od_Lplace, .func (PySem.W.fnOf "_law_place" "_law_place" (defArgs s_Lplace) (defBody s_Lplace) (defScope s_Lplace) .none kV_Lplace dc_Lplace pm_Lplace an_Lplace cd_Lplace ct_Lplace), sl_Lplace⟩) (c_Lplace : PySem.W.codeIn K cd_Lplace "_law_place" = true) (k_Lplace : PySem.W.keepIn K (.ref f_Lplace) = true)
    {f_Ltold : Addr} {od_Ltold an_Ltold : Option Addr} {sl_Ltold : Array (Option Value)} {oc_Ltold kV_Ltold dc_Ltold pm_Ltold cd_Ltold ct_Ltold : Value} (a_Ltold : PySem.W.nsIn K mainGlobals "_law_told" = some (some (.ref f_Ltold))) (l_Ltold : K.lookup f_Ltold = some ⟨oc_Ltold, od_Ltold, .func (PySem.W.fnOf "_law_told" "_law_told" (defArgs s_Ltold) (defBody s_Ltold) (defScope s_Ltold) .none kV_Ltold dc_Ltold pm_Ltold an_Ltold cd_Ltold ct_Ltold), sl_Ltold⟩) (c_Ltold : PySem.W.codeIn K cd_Ltold "_law_told" = true) (k_Ltold : PySem.W.keepIn K (.ref f_Ltold) = true)
    {f_Lconstants : Addr} {od_Lconstants an_Lconstants : Option Addr} {sl_Lconstants : Array (Option Value)} {oc_Lconstants kV_Lconstants dc_Lconstants pm_Lconstants cd_Lconstants ct_Lconstants : Value} (a_Lconstants : PySem.W.nsIn K mainGlobals "_law_constants" = some (some (.ref f_Lconstants))) (l_Lconstants : K.lookup f_Lconstants = some ⟨oc_Lconstants, od_Lconstants, .func (PySem.W.fnOf "_law_constants" "_law_constants" (defArgs s_Lconstants) (defBody s_Lconstants) (defScope s_Lconstants) .none kV_Lconstants dc_Lconstants pm_Lconstants an_Lconstants cd_Lconstants ct_Lconstants), sl_Lconstants⟩) (c_Lconstants : PySem.W.codeIn K cd_Lconstants "_law_constants" = true) (k_Lconstants : PySem.W.keepIn K (.ref f_Lconstants) = true)
    {f_law : Addr} {od_law an_law : Option Addr} {sl_law : Array (Option Value)} {oc_law kV_law dc_law pm_law cd_law ct_law : Value} (a_law : PySem.W.nsIn K mainGlobals "law" = some (some (.ref f_law))) (l_law : K.lookup f_law = some ⟨oc_law, od_law, .func (PySem.W.fnOf "law" "law" (defArgs s_law) (defBody s_law) (defScope s_law) .none kV_law dc_law pm_law an_law cd_law ct_law), sl_law⟩) (c_law : PySem.W.codeIn K cd_law "law" = true) (k_law : PySem.W.keepIn K (.ref f_law) = true)
    {t_SIGNS : Tok} (v_SIGNS : PySem.W.nsIn K mainGlobals "SIGNS" = some (some (.str "\t\n !\"#$&'()*+,-./0123456789:;<=>?@ABCDEFGHIJKLMNOPQRSTUVWXYZ[\\]^_`abcdefghijklmnopqrstuvwxyz{|}~" t_SIGNS)))
    {t_DIGITS : Tok} (v_DIGITS : PySem.W.nsIn K mainGlobals "DIGITS" = some (some (.str "0123456789" t_DIGITS)))
    {t_LETTERS : Tok} (v_LETTERS : PySem.W.nsIn K mainGlobals "LETTERS" = some (some (.str "ABCDEFGHIJKLMNOPQRSTUVWXYZabcdefghijklmnopqrstuvwxyz" t_LETTERS)))
    {t_BLANKS : Tok} (v_BLANKS : PySem.W.nsIn K mainGlobals "BLANKS" = some (some (.str "\t\n " t_BLANKS)))
    {t_WORD_SIGNS : Tok} (v_WORD_SIGNS : PySem.W.nsIn K mainGlobals "WORD_SIGNS" = some (some (.str "0123456789ABCDEFGHIJKLMNOPQRSTUVWXYZ_abcdefghijklmnopqrstuvwxyz" t_WORD_SIGNS)))
    (z_bool : PySem.W.nsIn K mainGlobals "bool" = some none)
    (z_int : PySem.W.nsIn K mainGlobals "int" = some none)
    (z_isinstance : PySem.W.nsIn K mainGlobals "isinstance" = some none)
    (z_len : PySem.W.nsIn K mainGlobals "len" = some none)
    (z_range : PySem.W.nsIn K mainGlobals "range" = some none)
    (z_str : PySem.W.nsIn K mainGlobals "str" = some none)
    : ∃ fd : FuncData, (∀ (s : Shared) (v : Value), BindsTo s fd ⟨[v], []⟩ [("_law_script", v)]) ∧ ∀ base : Heap, K.In base → base.Ns mainGlobals mg → FnOk l.prog w K mg base CX0 3 fa fd ["_law_script"] (sp_law K) := by
  have e := hfa.symm.trans (PySem.W.mg_of X G a_law)
  cases e
  have F_rank := fun_mk (st := s_rank) l_rank c_rank k_rank
  have B_rank := F_rank.binds (ps := ["sign"]) fun _ _ _ _ _ _ us hl => match us, hl with | [_], _ => rfl
  have F_precedes := fun_mk (st := s_precedes) l_precedes c_precedes k_precedes
  have B_precedes := F_precedes.binds (ps := ["text", "other"]) fun _ _ _ _ _ _ us hl => match us, hl with | [_, _], _ => rfl
  have F_next_text := fun_mk (st := s_next_text) l_next_text c_next_text k_next_text
  have B_next_text := F_next_text.binds (ps := ["text", "signs"]) fun _ _ _ _ _ _ us hl => match us, hl with | [_, _], _ => rfl
  have F_Ldraw := fun_mk (st := s_Ldraw) l_Ldraw c_Ldraw k_Ldraw
  have B_Ldraw := F_Ldraw.binds (ps := ["_law_script"]) fun _ _ _ _ _ _ us hl => match us, hl with | [_], _ => rfl
  have F_Lnext := fun_mk (st := s_Lnext) l_Lnext c_Lnext k_Lnext
  have B_Lnext := F_Lnext.binds (ps := ["_law_draw_here", "_law_many"]) fun _ _ _ _ _ _ us hl => match us, hl with | [_, _], _ => rfl
  have F_Lsigns := fun_mk (st := s_Lsigns) l_Lsigns c_Lsigns k_Lsigns
  have B_Lsigns := F_Lsigns.binds (ps := []) fun _ _ _ _ _ _ us hl => match us, hl with | [], _ => rfl
  have F_Lletters := fun_mk (st := s_Lletters) l_Lletters c_Lletters k_Lletters
  have B_Lletters := F_Lletters.binds (ps := ["_law_draw_here"]) fun _ _ _ _ _ _ us hl => match us, hl with | [_], _ => rfl
  have F_Lsubset := fun_mk (st := s_Lsubset) l_Lsubset c_Lsubset k_Lsubset
  have B_Lsubset := F_Lsubset.binds (ps := ["_law_draw_here"]) fun _ _ _ _ _ _ us hl => match us, hl with | [_], _ => rfl
  have F_Lover := fun_mk (st := s_Lover) l_Lover c_Lover k_Lover
  have B_Lover := F_Lover.binds (ps := ["_law_draw_here", "_law_signs_here", "_law_most"]) fun _ _ _ _ _ _ us hl => match us, hl with | [_, _, _], _ => rfl
  have F_Lnear_text := fun_mk (st := s_Lnear_text) l_Lnear_text c_Lnear_text k_Lnear_text
  have B_Lnear_text := F_Lnear_text.binds (ps := ["_law_draw_here", "_law_text", "_law_signs_here"]) fun _ _ _ _ _ _ us hl => match us, hl with | [_, _, _], _ => rfl
  have F_Lbefore := fun_mk (st := s_Lbefore) l_Lbefore c_Lbefore k_Lbefore
  have B_Lbefore := F_Lbefore.binds (ps := ["_law_one", "_law_two"]) fun _ _ _ _ _ _ us hl => match us, hl with | [_, _], _ => rfl
  have F_Lplace := fun_mk (st := s_Lplace) l_Lplace c_Lplace k_Lplace
  have B_Lplace := F_Lplace.binds (ps := ["_law_text", "_law_signs_here"]) fun _ _ _ _ _ _ us hl => match us, hl with | [_, _], _ => rfl
  have F_Ltold := fun_mk (st := s_Ltold) l_Ltold c_Ltold k_Ltold
  have B_Ltold := F_Ltold.binds (ps := ["_law_found", "_law_due"]) fun _ _ _ _ _ _ us hl => match us, hl with | [_, _], _ => rfl
  have F_Lconstants := fun_mk (st := s_Lconstants) l_Lconstants c_Lconstants k_Lconstants
  have B_Lconstants := F_Lconstants.binds (ps := []) fun _ _ _ _ _ _ us hl => match us, hl with | [], _ => rfl
  have F_law := fun_mk (st := s_law) l_law c_law k_law
  have B_law := F_law.binds (ps := ["_law_script"]) fun _ _ _ _ _ _ us hl => match us, hl with | [_], _ => rfl
  let T : Top K mg := ⟨_, _, F_rank, B_rank, PySem.W.mg_of X G a_rank, _, _, F_precedes, B_precedes, PySem.W.mg_of X G a_precedes, _, _, F_next_text, B_next_text, PySem.W.mg_of X G a_next_text, _, _, F_Ldraw, B_Ldraw, PySem.W.mg_of X G a_Ldraw, _, _, F_Lnext, B_Lnext, PySem.W.mg_of X G a_Lnext, _, _, F_Lsigns, B_Lsigns, PySem.W.mg_of X G a_Lsigns, _, _, F_Lletters, B_Lletters, PySem.W.mg_of X G a_Lletters, _, _, F_Lsubset, B_Lsubset, PySem.W.mg_of X G a_Lsubset, _, _, F_Lover, B_Lover, PySem.W.mg_of X G a_Lover, _, _, F_Lnear_text, B_Lnear_text, PySem.W.mg_of X G a_Lnear_text, _, _, F_Lbefore, B_Lbefore, PySem.W.mg_of X G a_Lbefore, _, _, F_Lplace, B_Lplace, PySem.W.mg_of X G a_Lplace, _, _, F_Ltold, B_Ltold, PySem.W.mg_of X G a_Ltold, _, _, F_Lconstants, B_Lconstants, PySem.W.mg_of X G a_Lconstants, _, _, F_law, B_law, PySem.W.mg_of X G a_law, _, PySem.W.mg_of X G v_SIGNS, _, PySem.W.mg_of X G v_DIGITS, _, PySem.W.mg_of X G v_LETTERS, _, PySem.W.mg_of X G v_BLANKS, _, PySem.W.mg_of X G v_WORD_SIGNS, PySem.W.mg_none_of X G z_bool, PySem.W.mg_none_of X G z_int, PySem.W.mg_none_of X G z_isinstance, PySem.W.mg_none_of X G z_len, PySem.W.mg_none_of X G z_range, PySem.W.mg_none_of X G z_str⟩
  exact ⟨PySem.W.fnOf "law" "law" (defArgs s_law) (defBody s_law) (defScope s_law) .none kV_law dc_law pm_law an_law cd_law ct_law, fun s v => .of_eq rfl, fun base _ _ => ok_law T⟩
end My
open PySem PySem.W PyProof.Rows in
set_option maxRecDepth 100000 in
set_option maxHeartbeats 0 in
theorem PySem.Challenge.cw_surespan_k03_text_order_holds : PySem.Challenge.rw_surespan_k03_text_order.Holds := by
  w_on; o_law; k_head; (case hw => w_witness2)
  k_fill
  refine L2.walk_of (l := PySem.Challenge.rw_surespan_k03_text_order) (n := 63) (k := 3) (x := "_law_script") (CX := fun _ => L2.CX0) (sp := fun w => My.sp_law _) rfl (by decide) rfl ⟨rfl, by decide, by decide⟩ (fun w h Y => PySem.W.kIn_of Y) ?F (fun _ _ a ns hl _ hS => ⟨a, ns, rfl, hS, hl, fun _ => rfl⟩) (fun _ _ _ _ _ h => h)
  case F =>
    intro w mg fa h KX G hmg
    refine' My.all_mk KX G hmg ?a_rank ?l_rank ?c_rank ?k_rank ?a_precedes ?l_precedes ?c_precedes ?k_precedes ?a_next_text ?l_next_text ?c_next_text ?k_next_text ?a_Ldraw ?l_Ldraw ?c_Ldraw ?k_Ldraw ?a_Lnext ?l_Lnext ?c_Lnext ?k_Lnext ?a_Lsigns ?l_Lsigns ?c_Lsigns ?k_Lsigns ?a_Lletters ?l_Lletters ?c_Lletters ?k_Lletters ?a_Lsubset ?l_Lsubset ?c_Lsubset ?k_Lsubset ?a_Lover ?l_Lover ?c_Lover ?k_Lover ?a_Lnear_text ?l_Lnear_text ?c_Lnear_text ?k_Lnear_text ?a_Lbefore ?l_Lbefore ?c_Lbefore ?k_Lbefore ?a_Lplace ?l_Lplace ?c_Lplace ?k_Lplace ?a_Ltold ?l_Ltold ?c_Ltold ?k_Ltold ?a_Lconstants ?l_Lconstants ?c_Lconstants ?k_Lconstants ?a_law ?l_law ?c_law ?k_law ?v_SIGNS ?v_DIGITS ?v_LETTERS ?v_BLANKS ?v_WORD_SIGNS ?z_bool ?z_int ?z_isinstance ?z_len ?z_range ?z_str
    (case a_rank => k_is)
    (case l_rank => k_is)
    (case c_rank => k_is)
    (case k_rank => k_is)
    (case a_precedes => k_is)
    (case l_precedes => k_is)
    (case c_precedes => k_is)
    (case k_precedes => k_is)
    (case a_next_text => k_is)
    (case l_next_text => k_is)
    (case c_next_text => k_is)
    (case k_next_text => k_is)
    (case a_Ldraw => k_is)
    (case l_Ldraw => k_is)
    (case c_Ldraw => k_is)
    (case k_Ldraw => k_is)
    (case a_Lnext => k_is)
    (case l_Lnext => k_is)
    (case c_Lnext => k_is)
    (case k_Lnext => k_is)
    (case a_Lsigns => k_is)
    (case l_Lsigns => k_is)
    (case c_Lsigns => k_is)
    (case k_Lsigns => k_is)
    (case a_Lletters => k_is)
    (case l_Lletters => k_is)
    (case c_Lletters => k_is)
    (case k_Lletters => k_is)
    (case a_Lsubset => k_is)
    (case l_Lsubset => k_is)
    (case c_Lsubset => k_is)
    (case k_Lsubset => k_is)
    (case a_Lover => k_is)
    (case l_Lover => k_is)
    (case c_Lover => k_is)
    (case k_Lover => k_is)
    (case a_Lnear_text => k_is)
    (case l_Lnear_text => k_is)
    (case c_Lnear_text => k_is)
    (case k_Lnear_text => k_is)
    (case a_Lbefore => k_is)
    (case l_Lbefore => k_is)
    (case c_Lbefore => k_is)
    (case k_Lbefore => k_is)
    (case a_Lplace => k_is)
    (case l_Lplace => k_is)
    (case c_Lplace => k_is)
    (case k_Lplace => k_is)
    (case a_Ltold => k_is)
    (case l_Ltold => k_is)
    (case c_Ltold => k_is)
    (case k_Ltold => k_is)
    (case a_Lconstants => k_is)
    (case l_Lconstants => k_is)
    (case c_Lconstants => k_is)
    (case k_Lconstants => k_is)
    (case a_law => k_is)
    (case l_law => k_is)
    (case c_law => k_is)
    (case k_law => k_is)
    (case v_SIGNS => k_is)
    (case v_DIGITS => k_is)
    (case v_LETTERS => k_is)
    (case v_BLANKS => k_is)
    (case v_WORD_SIGNS => k_is)
    (case z_bool => k_is)
    (case z_int => k_is)
    (case z_isinstance => k_is)
    (case z_len => k_is)
    (case z_range => k_is)
    (case z_str => k_is)
