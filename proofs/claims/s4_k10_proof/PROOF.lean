import PyProof.Rows.All
import Wide.All
import OpenK.AllK
import Wide.FinOn
import HandS.ForMost
import HandS.Wide
import HandS.StrMore
import HandS.IsInst
import HandS.Style
import HandS.EndBits
import HandS.Codes
import KE.LtData
import HandS.Replace
import HandS.Set
import HandS.SetTxt0
import HandS.SetFor
import KE.SortData
import HandS.Strs
import HandS.Property
import HandS.Defaults
import HandS.IterVal
import HandS.ClsMeth
import HandS.OwnIter
import HandS.More
import HandS.Walk
import KE.GoesMore
import HandS.Steps
import HandS.Exc
import HandS.ExcOwn
import HandS.ExcInit
import HandS.ExcField
import HandS.WordsExc
import HandS.ExcCtx
import HandS.ExcIs
import HandS.HotCalls
import HandS.ExcInitHot
import KE.KExcIs
import HandS.FStr
import HandS.Flt
import PySem.Challenge.RW_surespan_k10_written_pattern
set_option Elab.async false
set_option linter.all false
set_option maxRecDepth 100000
namespace My
open PySem L2
/-! ### normal forms of readings -/
theorem ex_some {α : Type} {a : α} {p : α → Prop} : (∃ v, (some (some a) : Option (Option α)) = some (some v) ∧ p v) ↔ p a :=
  ⟨fun ⟨_, e, h⟩ => by cases e; exact h, fun h => ⟨a, rfl, h⟩⟩
theorem ex_int {a : Int} {p : Int → Prop} : (∃ v, V.int a = V.int v ∧ p v) ↔ p a :=
  ⟨fun ⟨_, e, h⟩ => by cases e; exact h, fun h => ⟨a, rfl, h⟩⟩
/-- all that is tracked but at d stands -/
def But (d : Addr) (H H' : Hp) : Prop := ∀ b o, b ≠ d → H b = some o → H' b = some o
theorem But.refl (d : Addr) (H : Hp) : But d H H := fun _ _ _ h => h
theorem But.trans {d : Addr} {H H1 H2 : Hp} (a : But d H H1) (b : But d H1 H2) : But d H H2 := fun c o n h => b c o n (a c o n h)
theorem But.of {d : Addr} {H H' : Hp} (a : Same H H') : But d H H' := fun c o _ h => a c o h
theorem same_upd {H : Hp} {p : Addr} {o : HO} (h : H p = none) : Same H (upd H p o) := fun b x e => by
  rw [upd_ne (ne_of_none e h)]; exact e
theorem But.put {d : Addr} {H : Hp} {o : HO} : But d H (upd H d o) := fun c u n h => by rw [upd_ne n]; exact h
theorem But.new {d : Addr} {H H1 : Hp} {p : Addr} {o : HO} (a : But d H H1) (h : H1 p = none) : But d H (upd H1 p o) := a.trans (.of (same_upd h))
/-- the draw list at d, its digits at l -/
def Drw (H : Hp) (d l : Addr) : Prop := ∃ (a b c : Int) (ds : List Int), d ≠ l ∧ H d = some (.lst [.int a, .int b, .int c, .ref l, .int 3]) ∧ H l = some (.lst (ds.map V.int)) ∧ 0 ≤ a
theorem Drw.same {H H' : Hp} {d l : Addr} (h : Drw H d l) (s : Same H H') : Drw H' d l := by
  obtain ⟨a, b, c, ds, n, h1, h2, h3⟩ := h
  exact ⟨a, b, c, ds, n, s _ _ h1, s _ _ h2, h3⟩
theorem Drw.new {H : Hp} {d l p : Addr} {o : HO} (h : Drw H d l) (n : H p = none) : Drw (upd H p o) d l := h.same (same_upd n)
theorem Drw.ne {H : Hp} {d l p : Addr} (h : Drw H d l) (n : H p = none) : p ≠ d := by
  obtain ⟨a, b, c, ds, n', h1, h2, h3⟩ := h
  exact fun q => by rw [q, h1] at n; cases n
theorem Drw.nel {H : Hp} {d l p : Addr} (h : Drw H d l) (n : H p = none) : p ≠ l := by
  obtain ⟨a, b, c, ds, n', h1, h2, h3⟩ := h
  exact fun q => by rw [q, h2] at n; cases n
/-- another object than the draw's is written -/
theorem Drw.put {H : Hp} {d l p : Addr} {o : HO} (h : Drw H d l) (n1 : p ≠ d) (n2 : p ≠ l) : Drw (upd H p o) d l := by
  obtain ⟨a, b, c, ds, n', h1, h2, h3⟩ := h
  exact ⟨a, b, c, ds, n', (upd_ne n1.symm).trans h1, (upd_ne n2.symm).trans h2, h3⟩
/-! ### texts by their signs -/
def tx (cs : List Nat) : Str := ⟨cs.toArray⟩
theorem tx_cps (cs : List Nat) : (tx cs).cps.toList = cs := rfl
theorem tx_len (cs : List Nat) : (tx cs).length = cs.length := by simp [tx, Str.length]
theorem tx_of (s : Str) : tx s.cps.toList = s := by cases s; simp [tx]
theorem tx_eq {a b : List Nat} : (tx a = tx b) = (a = b) := by
  apply propext
  constructor
  · intro h
    have := congrArg (fun s : Str => s.cps.toList) h
    simpa [tx] using this
  · intro h; rw [h]
theorem sg_tx (c : Nat) : (⟨#[c]⟩ : Str) = tx [c] := rfl
theorem tx_app (a b : List Nat) : tx a ++ tx b = tx (a ++ b) := by
  show (⟨(tx a).cps ++ (tx b).cps⟩ : Str) = tx (a ++ b)
  simp [tx]
theorem tx_cut (cs : List Nat) (lo hi : Option Int) : cutS (tx cs) lo hi = tx ((cs.drop (HT.sIx cs.length 0 lo)).take (HT.sIx cs.length cs.length hi - HT.sIx cs.length 0 lo)) := by
  unfold cutS
  rw [tx_len, tx_cps]
  rfl
theorem join_tx (ps : List (List Nat)) : Txt.join (tx []) (ps.map tx) = tx ps.flatten := by
  rw [TL.join_eq]
  have h : ∀ ps : List (List Nat), Str.join (tx []) (ps.map tx) = tx ps.flatten := by
    intro ps
    induction ps with
    | nil => rfl
    | cons p r ih =>
      cases r with
      | nil => simp [Str.join]
      | cons q r =>
        show tx p ++ tx [] ++ Str.join (tx []) ((q :: r).map tx) = _
        rw [ih, tx_app, tx_app]
        simp
  exact h ps
theorem join_signs (cs : List Nat) : Txt.join (tx []) (cs.map fun c => tx [c]) = tx cs := by
  have h := join_tx (cs.map fun c => [c])
  rw [List.map_map] at h
  have e : (cs.map fun c => [c]).flatten = cs := by
    clear h
    induction cs with
    | nil => rfl
    | cons c r ih => rw [List.map_cons, List.flatten_cons, ih]; rfl
  rw [e] at h
  exact h
/-- a statement and the rest, with a word between -/
abbrev tCut (t u : TS) : TS := C8.tCut t u
theorem pss_cut {X : Cx} {st : Stmt} {rest : List Stmt} {t u : TS} (h1 : PS X st t) (h2 : PSs X rest u) : PSs X (st :: rest) (tCut t u) := C8.pss_cut h1 h2
/-! ### loops and comprehensions -/
def ForJ (J : It) (g : TG) (tb : TS) (D : Ends) (σ : St) (H1 : Hp) : Prop := ∃ W : Nat → Nat → St → Hp → Prop, (∃ m, W 0 m σ H1) ∧ ∀ i m σ H, W i m σ H →
  (J.stop i H ∧ D.nx σ H) ∨ (J.go i H ∧ ∃ N : St → Hp → Prop, (∀ σ' H', N σ' H' → ∃ m', m' < m ∧ W (i + 1) m' σ' H') ∧ ∀ x H', J.yld i H x H' → g x σ H' fun σ2 H2 => tb { D with nx := N, ct := N, bk := D.nx } σ2 H2)
theorem tFor_eq (wi : TI) (g : TG) (tb : TS) (D : Ends) (σ : St) (H : Hp) : tFor wi g tb D σ H = wi σ H fun J H1 => ForJ J g tb D σ H1 := rfl
def LcJ (J : It) (g : TG) (tt : TT) (te : TE) (vs : List Nat) (σ : St) (H1 : Hp) (Q : VK) : Prop := ∀ D, H1 D = none → ∃ W : Nat → Nat → Hp → Prop, (∃ m, W 0 m (upd H1 D (.lst []))) ∧ ∀ i m H, W i m H →
  (J.stop i H ∧ Q (.ref D) H) ∨ (J.go i H ∧ ∃ Nx : Hp → Prop, (∀ H', Nx H' → ∃ m', m' < m ∧ W (i + 1) m' H') ∧ ∀ x H', J.yld i H x H' → g x (wipe σ vs) H' fun σ2 H2 => wipe σ2 vs = wipe σ vs ∧ tt σ2 H2 fun b H3 =>
    if b = true then te σ2 H3 fun y H4 => ∃ acc, H4 D = some (.lst acc) ∧ acc.length < sizeLine ∧ Nx (upd H4 D (.lst (acc ++ [y]))) else Nx H3)
theorem tLc_eq (wi : TI) (g : TG) (tt : TT) (te : TE) (vs : List Nat) (σ : St) (H : Hp) (Q : VK) : tLc wi g tt te vs σ H Q = wi σ H fun J H1 => LcJ J g tt te vs σ H1 Q := rfl
/-- an iterator that goes through a fixed list -/
structure Reg {α : Type} (J : It) (its : List α) (item : α → V) (G : Hp → Prop) : Prop where
  go : ∀ i H, i < its.length → G H → J.go i H
  stop : ∀ i H, its.length ≤ i → G H → J.stop i H
  yld : ∀ i a H x H', its[i]? = some a → G H → J.yld i H x H' → H' = H ∧ x = item a
theorem reg_text (cs : List Nat) : Reg (Its (tx cs)) cs (fun c => .str (tx [c])) (fun _ => True) := by
  have hs : (tx cs).cps.size = cs.length := by simp [tx]
  refine ⟨fun i H h _ => ?_, fun i H h _ => ?_, fun i a H x H' h _ hy => ?_⟩
  · show i < (tx cs).cps.size; rw [hs]; exact h
  · show (tx cs).cps.size ≤ i; rw [hs]; exact h
  · obtain ⟨rfl, c, hc, rfl⟩ := hy
    refine ⟨rfl, ?_⟩
    have : (tx cs).cps[i]? = cs[i]? := by simp [tx]
    rw [this, h] at hc
    cases hc
    rfl
theorem reg_range (lo : Int) (n : Nat) : Reg (Itr lo n) (List.range n) (fun i => .int (lo + (i : Nat))) (fun _ => True) := by
  refine ⟨fun i H h _ => ?_, fun i H h _ => ?_, fun i a H x H' h _ hy => ?_⟩
  · rw [List.length_range] at h; exact h
  · rw [List.length_range] at h; exact h
  · obtain ⟨rfl, rfl⟩ := hy
    refine ⟨rfl, ?_⟩
    have : i < n := by
      have := (List.getElem?_eq_some_iff.mp h).1
      rw [List.length_range] at this; exact this
    rw [List.getElem?_range this] at h
    cases h
    rfl
theorem reg_list (K : PySem.W.Frag) (a : Addr) (xs : List V) : Reg (Itl K a) xs id (fun H => SqL K H a xs) := by
  refine ⟨fun i H h hq => ⟨xs, xs[i], hq, by simp [h]⟩, fun i H h hq => ⟨xs, hq, h⟩, fun i v H x H' h hq hy => ?_⟩
  obtain ⟨rfl, f⟩ := hy
  have := f xs hq
  rw [h] at this
  cases this
  exact ⟨rfl, rfl⟩
theorem forJ_by {α : Type} {J : It} {its : List α} {item : α → V} {G : Hp → Prop} (R : Reg J its item G) {g : TG} {tb : TS} {D : Ends} {σ : St} {H : Hp} (Pv : Nat → St → Hp → Prop) (hG : ∀ i σ H, Pv i σ H → G H) (h0 : Pv 0 σ H)
    (hs : ∀ i a σ H, its[i]? = some a → Pv i σ H → g (item a) σ H fun σ2 H2 => tb { D with nx := Pv (i + 1), ct := Pv (i + 1), bk := D.nx } σ2 H2) (hd : ∀ σ H, Pv its.length σ H → D.nx σ H) : ForJ J g tb D σ H := by
  refine ⟨fun i m σ H => m = its.length - i ∧ i ≤ its.length ∧ Pv i σ H, ⟨its.length, by simp, Nat.zero_le _, h0⟩, ?_⟩
  rintro i m σ H ⟨rfl, hi, p⟩
  by_cases hlt : i < its.length
  · refine .inr ⟨R.go i H hlt (hG _ _ _ p), Pv (i + 1), fun σ' H' p' => ⟨its.length - (i + 1), by omega, rfl, hlt, p'⟩, fun x H' y => ?_⟩
    obtain ⟨rfl, rfl⟩ := R.yld i its[i] H x H' (List.getElem?_eq_getElem hlt) (hG _ _ _ p) y
    exact hs i _ σ _ (List.getElem?_eq_getElem hlt) p
  · have e : i = its.length := by omega
    subst e
    exact .inl ⟨R.stop _ H (Nat.le_refl _) (hG _ _ _ p), hd σ H p⟩
theorem lcJ_by {α : Type} {J : It} {its : List α} {item : α → V} {G : Hp → Prop} (R : Reg J its item G) {k : Nat} {tt : TT} {te : TE} {σ : St} {H1 : Hp} {Q : VK} (Pv : Addr → Nat → Hp → Prop) (hG : ∀ D i H, H1 D = none → Pv D i H → G H) (h0 : ∀ D, H1 D = none → Pv D 0 (upd H1 D (.lst [])))
    (hs : ∀ D i a H, H1 D = none → its[i]? = some a → Pv D i H → tt ((σ.set k none).set k (some (item a))) H fun b H3 =>
      if b = true then te ((σ.set k none).set k (some (item a))) H3 fun y H4 => ∃ acc, H4 D = some (.lst acc) ∧ acc.length < sizeLine ∧ Pv D (i + 1) (upd H4 D (.lst (acc ++ [y]))) else Pv D (i + 1) H3)
    (hd : ∀ D H, H1 D = none → Pv D its.length H → Q (.ref D) H) : LcJ J (gName k) tt te [k] σ H1 Q := by
  intro D hD
  refine ⟨fun i m H => m = its.length - i ∧ i ≤ its.length ∧ Pv D i H, ⟨its.length, by simp, Nat.zero_le _, h0 D hD⟩, ?_⟩
  rintro i m H ⟨rfl, hi, p⟩
  by_cases hlt : i < its.length
  · refine .inr ⟨R.go i H hlt (hG _ _ _ hD p), Pv D (i + 1), fun H' p' => ⟨its.length - (i + 1), by omega, rfl, hlt, p'⟩, fun x H' y => ?_⟩
    obtain ⟨rfl, rfl⟩ := R.yld i its[i] H x H' (List.getElem?_eq_getElem hlt) (hG _ _ _ hD p) y
    refine ⟨?_, hs D i _ _ hD (List.getElem?_eq_getElem hlt) p⟩
    show ((σ.set k none).set k _).set k none = σ.set k none
    rw [List.set_set, List.set_set]
  · have e : i = its.length := by omega
    subst e
    exact .inl ⟨R.stop _ H (Nat.le_refl _) (hG _ _ _ hD p), hd D H hD p⟩
/-- a comprehension that reads and makes values alone -/
theorem lcJ_pure {α : Type} {J : It} {its : List α} {item : α → V} {G : Hp → Prop} (R : Reg J its item G) {k : Nat} {tt : TT} {te : TE} {σ : St} {H1 : Hp} {Q : VK} (p : α → Bool) (f : α → V) (hn : its.length ≤ sizeLine)
    (hG : ∀ D acc, H1 D = none → G (upd H1 D (.lst acc)))
    (hT : ∀ a D acc Q, a ∈ its → H1 D = none → Q (p a) (upd H1 D (.lst acc)) → tt ((σ.set k none).set k (some (item a))) (upd H1 D (.lst acc)) Q)
    (hE : ∀ a D acc Q, a ∈ its → p a = true → H1 D = none → Q (f a) (upd H1 D (.lst acc)) → te ((σ.set k none).set k (some (item a))) (upd H1 D (.lst acc)) Q)
    (h : ∀ D, H1 D = none → Q (.ref D) (upd H1 D (.lst ((its.filter p).map f)))) : LcJ J (gName k) tt te [k] σ H1 Q := by
  refine lcJ_by R (fun D i H => H = upd H1 D (.lst (((its.take i).filter p).map f))) ?_ ?_ ?_ ?_
  · rintro D i H hD rfl; exact hG D _ hD
  · intro D hD; simp
  · rintro D i a H hD hi rfl
    have hlt : i < its.length := (List.getElem?_eq_some_iff.mp hi).1
    have hm : a ∈ its := List.mem_of_getElem? hi
    have ht : its.take (i + 1) = its.take i ++ [a] := by rw [List.take_add_one, hi]; rfl
    refine hT a D _ _ hm hD ?_
    by_cases hp : p a = true
    · rw [hp, if_pos rfl]
      refine hE a D _ _ hm hp hD ⟨_, upd_same, ?_, ?_⟩
      · rw [List.length_map]
        refine Nat.lt_of_le_of_lt (List.length_filter_le _ _) ?_
        rw [List.length_take]
        omega
      · rw [upd_upd, ht, List.filter_append, List.map_append]
        simp [hp]
    · rw [if_neg hp, ht, List.filter_append]
      simp [hp]
  · rintro D H hD rfl
    rw [List.take_length]
    exact h D hD
theorem sq_upd {K : PySem.W.Frag} {H : Hp} {D : Addr} {xs : List V} : SqL K (upd H D (.lst xs)) D xs := .inl (.inl upd_same)
end My
namespace My
open PySem L2
/-! ### one sign in a text -/
/-- the first place of a sign -/
def fi (c : Nat) : List Nat → Nat
  | [] => 0
  | a :: r => if a = c then 0 else fi c r + 1
theorem fi_lt {c : Nat} : ∀ {cs : List Nat}, c ∈ cs → fi c cs < cs.length
  | [], h => by cases h
  | a :: r, h => by
    unfold fi
    by_cases e : a = c
    · rw [if_pos e]; simp
    · rw [if_neg e]
      have : c ∈ r := by
        rcases List.mem_cons.mp h with q | q
        · exact absurd q.symm e
        · exact q
      have := fi_lt this
      simp; exact this
theorem fi_get {c : Nat} : ∀ {cs : List Nat}, c ∈ cs → cs[fi c cs]? = some c
  | [], h => by cases h
  | a :: r, h => by
    unfold fi
    by_cases e : a = c
    · rw [if_pos e, e]; rfl
    · rw [if_neg e]
      have : c ∈ r := by
        rcases List.mem_cons.mp h with q | q
        · exact absurd q.symm e
        · exact q
      rw [List.getElem?_cons_succ]
      exact fi_get this
theorem fi_before {c : Nat} : ∀ {cs : List Nat} {i : Nat}, i < fi c cs → cs[i]? ≠ some c
  | [], i, h => by simp [fi] at h
  | a :: r, i, h => by
    unfold fi at h
    by_cases e : a = c
    · rw [if_pos e] at h; omega
    · rw [if_neg e] at h
      cases i with
      | zero => simpa using e
      | succ i => rw [List.getElem?_cons_succ]; exact fi_before (by omega)
theorem occ_full (s sub : Str) (hi : Nat) : ∀ (l : List Nat) (st : Array Nat × Nat), st.fst.size = 1 → (forIn l st (StrLaws.occBody s sub hi 1)).run.fst = st.fst
  | [], st, h => rfl
  | a :: l, st, h => by
    rw [List.forIn_cons]
    unfold StrLaws.occBody
    have hn : ¬ (((st.fst.size < 1 ∧ st.snd ≤ a) ∧ a + sub.length ≤ hi) ∧ Builtin.Str.subAt s sub a = true) := fun q => by omega
    rw [if_neg hn]
    exact occ_full s sub hi l _ h
theorem occ_first (cs : List Nat) (c : Nat) : ∀ (m a free : Nat), free ≤ a → (∀ i, a ≤ i → i < a + m → cs[i]? ≠ some c) ∧ (forIn (List.range' a m) ((#[] : Array Nat), free) (StrLaws.occBody (tx cs) (tx [c]) (tx cs).length 1)).run.fst = #[] ∨
    ∃ k, a ≤ k ∧ k < a + m ∧ cs[k]? = some c ∧ (∀ i, a ≤ i → i < k → cs[i]? ≠ some c) ∧ (forIn (List.range' a m) ((#[] : Array Nat), free) (StrLaws.occBody (tx cs) (tx [c]) (tx cs).length 1)).run.fst = #[k]
  | 0, a, free, hf => .inl ⟨fun i h1 h2 => by omega, rfl⟩
  | m + 1, a, free, hf => by
    have one := StrLaws.subAt_one (tx cs) c a
    rw [List.range'_succ, List.forIn_cons]
    unfold StrLaws.occBody
    by_cases hc : cs[a]? = some c
    · have q := one.mpr hc
      have c1 : ((((#[] : Array Nat), free).fst.size < 1 ∧ ((#[] : Array Nat), free).snd ≤ a) ∧ a + (tx [c]).length ≤ (tx cs).length) ∧ Builtin.Str.subAt (tx cs) (tx [c]) a = true := ⟨⟨⟨by simp, hf⟩, q.1⟩, q.2⟩
      rw [if_pos c1]
      refine .inr ⟨a, Nat.le_refl _, by omega, hc, fun i h1 h2 => by omega, ?_⟩
      exact occ_full _ _ _ _ _ rfl
    · have c2 : ¬ (((((#[] : Array Nat), free).fst.size < 1 ∧ ((#[] : Array Nat), free).snd ≤ a) ∧ a + (tx [c]).length ≤ (tx cs).length) ∧ Builtin.Str.subAt (tx cs) (tx [c]) a = true) := fun h => hc (one.mp ⟨h.1.2, h.2⟩)
      rw [if_neg c2]
      rcases occ_first cs c m (a + 1) free (by omega) with ⟨h1, h2⟩ | ⟨k, k1, k2, k3, k4, k5⟩
      · refine .inl ⟨fun i i1 i2 => ?_, h2⟩
        by_cases e : i = a
        · rw [e]; exact hc
        · exact h1 i (by omega) (by omega)
      · refine .inr ⟨k, by omega, by omega, k3, fun i i1 i2 => ?_, k5⟩
        by_cases e : i = a
        · rw [e]; exact hc
        · exact k4 i (by omega) i2
theorem occ_sign (cs : List Nat) (c : Nat) : Builtin.Str.occurrences (tx cs) (tx [c]) 0 (tx cs).length 1 = if c ∈ cs then [fi c cs] else [] := by
  rw [StrLaws.occ_eq]
  have hl : (tx cs).length = cs.length := tx_len cs
  rcases occ_first cs c ((tx cs).length + 1 - 0) 0 0 (Nat.le_refl _) with ⟨h1, h2⟩ | ⟨k, k1, k2, k3, k4, k5⟩
  · rw [h2]
    have hn : c ∉ cs := fun hm => by
      have := fi_lt hm
      exact h1 (fi c cs) (Nat.zero_le _) (by omega) (fi_get hm)
    rw [if_neg hn]
  · rw [k5]
    have hm : c ∈ cs := List.mem_of_getElem? k3
    rw [if_pos hm]
    have e : k = fi c cs := by
      rcases Nat.lt_trichotomy k (fi c cs) with q | q | q
      · exact absurd k3 (fi_before q)
      · exact q
      · exact absurd (fi_get hm) (k4 _ (Nat.zero_le _) q)
    rw [e]
theorem find_sign (cs : List Nat) (c : Nat) : Txt.find (tx cs) (tx [c]) = if c ∈ cs then (fi c cs : Int) else -1 := by
  unfold Txt.find
  rw [occ_sign]
  by_cases h : c ∈ cs
  · rw [if_pos h, if_pos h]
  · rw [if_neg h, if_neg h]
/-! ### rstrip by one sign -/
def rs (c : Nat) (cs : List Nat) : List Nat := (cs.reverse.dropWhile (fun a => a == c)).reverse
theorem rs_take (c : Nat) (cs : List Nat) : cs.take (cs.length - (cs.reverse.takeWhile (fun a => a == c)).length) = rs c cs := by
  unfold rs
  have h : cs.reverse.takeWhile (fun a => a == c) ++ cs.reverse.dropWhile (fun a => a == c) = cs.reverse := List.takeWhile_append_dropWhile
  have h2 : cs = (cs.reverse.dropWhile (fun a => a == c)).reverse ++ (cs.reverse.takeWhile (fun a => a == c)).reverse := by
    rw [← List.reverse_append, h, List.reverse_reverse]
  have hl : cs.length = ((cs.reverse.dropWhile (fun a => a == c)).reverse).length + (cs.reverse.takeWhile (fun a => a == c)).length := by
    have := congrArg List.length h2
    rw [List.length_append, List.length_reverse (as := List.takeWhile _ _)] at this
    exact this
  have e : cs.length - (cs.reverse.takeWhile (fun a => a == c)).length = ((cs.reverse.dropWhile (fun a => a == c)).reverse).length := by omega
  rw [e]
  generalize (cs.reverse.dropWhile (fun a => a == c)).reverse = A at h2 ⊢
  generalize (cs.reverse.takeWhile (fun a => a == c)).reverse = B at h2
  rw [h2, List.take_left]
theorem rstrip_sign (cs : List Nat) (c : Nat) : Txt.rstripChars (tx cs) (tx [c]) = tx (rs c cs) := by
  unfold Txt.rstripChars
  rw [PyProof.Rows.stripBy_eq]
  refine TL.ext_tl ?_
  rw [TL.tl_strSub]
  show List.take ((tx cs).length - (((tx cs).cps.toList.drop 0).reverse.takeWhile (tx [c]).cps.contains).length - 0) (List.drop 0 (tx cs).cps.toList) = rs c cs
  rw [Nat.sub_zero, List.drop_zero]
  have hg : (tx [c]).cps.contains = fun a => a == c := by
    funext a
    show (#[c] : Array Nat).contains a = (a == c)
    simp [Array.contains, BEq.comm]
  rw [hg, tx_cps, tx_len]
  exact rs_take c cs
end My
namespace My
open PySem PySem.Spec PyProof.Rows L2
section
variable {X : Cx}
/-- a short text times an int -/
def rMulS : R2 := fun x y H Q => ∃ (cs : List Nat) (n : Nat), x = .str (tx cs) ∧ y = .int (n : Int) ∧ n ≤ 1000000 ∧ cs.length ≤ 16 ∧ Q (.str (tx (List.replicate n cs).flatten)) H
theorem rep_fold (cs : List Nat) (n : Nat) (a : Array Nat) : ((List.replicate n cs.toArray).foldl (· ++ ·) a) = a ++ (List.replicate n cs).flatten.toArray := by
  induction n generalizing a with
  | zero => simp
  | succ n ih =>
    rw [List.replicate_succ, List.foldl_cons, ih, List.replicate_succ, List.flatten_cons]
    simp [Array.append_assoc]
theorem line_of {n : Nat} (h : n ≤ 16777216) : n ≤ sizeLine := Nat.le_trans h (by decide)
theorem op_mul_str : OpR X (binaryOp .Mult) rMulS := by
  intro pins s σ H x y v u Q I rx ry h
  obtain ⟨cs, n, rfl, rfl, h0, hz, q⟩ := h
  obtain ⟨t, rfl⟩ := rx
  obtain ⟨t', rfl⟩ := ry
  have hL : (tx cs).length = cs.length := tx_len cs
  have hp : cs.length * n ≤ 16000000 := Nat.mul_le_mul hz h0
  have hp2 : (cs.length : Int) * (n : Int) ≤ 16000000 := by
    rw [← Int.natCast_mul]
    exact Int.ofNat_le.mpr hp
  refine PySem.P.mul_str ?_ ?_ ?_ ?_
  · rw [decide_eq_false (by omega), decide_eq_false (by omega)]; rfl
  · intro hn _ hb
    have h3 : ((cs.length : Nat) : Int) ≤ (2 ^ 63 - 1) / (n : Int) := by
      refine (Int.le_ediv_iff_mul_le (by omega)).mpr ?_
      omega
    rw [hL] at hb
    omega
  · intro _ _
    show decide (_ > sizeLine) = false
    rw [hL, Int.toNat_natCast]
    exact decide_eq_false (Nat.not_lt.mpr (line_of (by omega)))
  · by_cases hn : (n : Int) < 1
    · rw [if_pos hn]
      have e0 : n = 0 := by omega
      subst e0
      have e : tx (List.replicate 0 cs).flatten = Str.empty := rfl
      rw [e] at q
      exact ⟨line_of (by decide), ⟨.str Str.empty, H, I.tok _, ⟨_, rfl⟩, q⟩⟩
    · rw [if_neg hn]
      by_cases h2 : ((n : Int) == 1 || (tx cs).length == 0) = true
      · rw [if_pos h2]
        have e : tx (List.replicate n cs).flatten = tx cs := by
          rw [tx_eq]
          rcases Bool.or_eq_true _ _ ▸ h2 with q1 | q1
          · have : n = 1 := by
              have := eq_of_beq q1
              omega
            subst this
            simp
          · have : cs = [] := by
              have q2 := eq_of_beq q1
              rw [hL] at q2
              exact List.length_eq_zero_iff.mp q2
            subst this
            simp
        rw [e] at q
        exact ⟨.str (tx cs), H, I, ⟨_, rfl⟩, q⟩
      · rw [if_neg h2]
        have e : (⟨(List.replicate (n : Int).toNat (tx cs).cps).foldl (· ++ ·) #[]⟩ : Str) = tx (List.replicate n cs).flatten := by
          show (⟨(List.replicate (n : Int).toNat cs.toArray).foldl (· ++ ·) #[]⟩ : Str) = _
          rw [rep_fold, Int.toNat_natCast]
          simp [tx]
        rw [e]
        have hlen : (tx (List.replicate n cs).flatten).length ≤ sizeLine := by
          rw [tx_len]
          refine line_of ?_
          simp
          rw [Nat.mul_comm]
          omega
        exact ⟨hlen, ⟨.str (tx (List.replicate n cs).flatten), H, I.tok _, ⟨_, rfl⟩, q⟩⟩
/-- < of data at any depth, alike -/
def rLtD (K : PySem.W.Frag) : R2 := fun x y H Q => ∃ d e, Dp K H x d ∧ Dp K H y e ∧ PySem.W.alike d e = true ∧ d ≠ .none ∧ min d.depth e.depth ≤ 60 ∧ Q (.bl (PySem.W.dataLt d e)) H
theorem op_ltD (hu : X.A.units + 64 < cLine) : OpR X (compareOp .Lt) (rLtD X.K) := by
  intro pins s σ H x y v u Q I rx ry h
  obtain ⟨d, e, hd, he, al, hn, hdp, q⟩ := h
  obtain ⟨as, r1⟩ := Dp.reads I d x v hd rx
  obtain ⟨bs, r2⟩ := Dp.reads I e y u he ry
  exact PySem.W.rcLt_alike d e X.A s v u as bs r1 r2 al hn (by omega) _ _ _ _ ⟨.bl (PySem.W.dataLt d e), H, I, rfl, q⟩
/-- text[::-1] -/
def tRevS (te : TE) : TE := fun σ H Q => te σ H fun x H1 => ∃ cs : List Nat, x = .str (tx cs) ∧ cs.length ≤ sizeLine ∧ Q (.str (tx cs.reverse)) H1
theorem rev_pick (cs : List Nat) : ((Builtin.Str.strSliceIndices none none (-1) cs.length).filterMap (cs.toArray[·]?)) = cs.reverse := by
  have e : Builtin.Str.strSliceIndices none none (-1) cs.length = (List.range cs.length).map fun k => cs.length - 1 - k := by
    show sliceRange ((cs.length : Int) - 1) (-1) (-1) = _
    exact PySem.W.krv_sliceRange cs.length
  rw [e]
  apply List.ext_getElem?
  intro i
  rw [List.filterMap_map]
  have h2 : (List.range cs.length).filterMap (((fun x => cs.toArray[x]?) ∘ fun k => cs.length - 1 - k)) = (List.range cs.length).map (fun k => cs.getD (cs.length - 1 - k) 0) := by
    have h3 : ∀ l : List Nat, (∀ k ∈ l, k < cs.length) → l.filterMap (((fun x => cs.toArray[x]?) ∘ fun k => cs.length - 1 - k)) = l.map (fun k => cs.getD (cs.length - 1 - k) 0) := by
      intro l
      induction l with
      | nil => intro _; rfl
      | cons k r ih =>
        intro hk
        have hlt : cs.length - 1 - k < cs.length := by
          have := hk k (List.mem_cons_self ..)
          omega
        have e1 : (((fun x => cs.toArray[x]?) ∘ fun k => cs.length - 1 - k)) k = some (cs.getD (cs.length - 1 - k) 0) := by
          show cs.toArray[cs.length - 1 - k]? = _
          simp [List.getD, hlt]
        rw [List.filterMap_cons_some e1, List.map_cons, ih fun j hj => hk j (List.mem_cons_of_mem _ hj)]
    exact h3 _ fun k hk => List.mem_range.mp hk
  rw [h2, List.getElem?_map]
  by_cases hi : i < cs.length
  · rw [List.getElem?_range hi, List.getElem?_reverse hi]
    have hlt : cs.length - 1 - i < cs.length := by omega
    simp [List.getD, hlt]
  · rw [List.getElem?_eq_none (by simp; omega), List.getElem?_eq_none (by simp; omega)]
    rfl
theorem pe_revS {e : Expr} {te : TE} {k : Nat} {p1 p2 p3 pos : Pos} (he : PE X e te) : PE X (.Subscript e (.Slice none none (some (.UnaryOp .USub (.Constant (.int 1) k p1) p2)) p3) pos) (tRevS te) := by
  refine ⟨fun pins s σ H Q I h => ?_⟩
  refine Subscript_ (thn (he.run pins s σ H _ I h) fun v s1 ⟨x, H1, I1, r1, q1⟩ => ?_)
  obtain ⟨cs, ex, hx, q⟩ := q1
  subst ex
  obtain ⟨t, rfl⟩ := r1
  have hst : PO X (some (.UnaryOp .USub (.Constant (.int 1) k p1) p2)) (tPart (tUn (rU fun i => .int (-i)) (tC (.int 1)))) := po_some (pe_un un_neg pe_int)
  refine wpAny_Slice (thn (po_none.run pins s1 σ H1 (fun o H2 => o = none ∧ H2 = H1) I1 ⟨rfl, rfl⟩) fun vl s2 ⟨l, H2, I2, pl, el, e2⟩ => ?_)
  subst el e2
  refine thn (po_none.run pins s2 σ H2 (fun o H3 => o = none ∧ H3 = H2) I2 ⟨rfl, rfl⟩) fun vu s3 ⟨u, H3, I3, pu, eu, e3⟩ => ?_
  subst eu e3
  refine thn (hst.run pins s3 σ H3 (fun o H4 => o = some (-1) ∧ H4 = H3) I3 ⟨1, rfl, -1, rfl, rfl, rfl⟩) fun vs s4 ⟨o, H4, I4, ps, eo, e4⟩ => ?_
  subst eo e4
  have I5 : Inv X pins σ H4 { s4 with heap := s4.heap.push { cls := .type "slice", data := .fields #[vl, vu, vs] } } := I4.kept (t' := s4.toks) fun b ob q => Heap.get?_push_of_some _ q
  obtain ⟨l', rfl, hl⟩ := IsPart.raw pl
  obtain ⟨u', rfl, hu⟩ := IsPart.raw pu
  obtain ⟨st', rfl, hst'⟩ := IsPart.raw ps
  show wpAny (model X.prog X.w) X.A (subscriptTail e (.Slice none none (some (.UnaryOp .USub (.Constant (.int 1) k p1) p2)) p3) (.str (tx cs) t) (.ref s4.heap.objs.size)) (EP X pins σ Q) X.xe { s4 with heap := s4.heap.push { cls := .type "slice", data := .fields #[partValue l', partValue u', partValue st'] } }
  refine tail_any (T := "str") (ops := [.str (tx cs) t, .ref s4.heap.objs.size]) (typeIs_str _ _ _) (PySem.F.slot_str_getitem.lookup) ?_ (by with_unfolding_all rfl)
  refine wpAny_getItem_str_slice (l := l') (u := u') (st := st') ⟨_, Heap.get?_push_size _ rfl, rfl, rfl⟩ (by rw [hst']; rfl) ?_
  unfold sliceMade
  rw [hst']
  rw [if_neg (by simp)]
  have e9 : slicePicked (tx cs) l' u' st' = Builtin.Str.strSliceIndices none none (-1) cs.length := by
    unfold slicePicked
    rw [hl, hu, hst', tx_len]
    rfl
  rw [e9]
  have e10 : (⟨((Builtin.Str.strSliceIndices none none (-1) cs.length).filterMap ((tx cs).cps[·]?)).toArray⟩ : Str) = tx cs.reverse := by
    show (⟨((Builtin.Str.strSliceIndices none none (-1) cs.length).filterMap (cs.toArray[·]?)).toArray⟩ : Str) = _
    rw [rev_pick]
    rfl
  rw [e10]
  refine ⟨by rw [tx_len, List.length_reverse]; exact hx, ⟨.str (tx cs.reverse), H4, I5.tok _, ⟨_, rfl⟩, q⟩⟩
/-- text.index(sign), a sign that stands there -/
theorem mt_indexS : MtR X "str.index" (fun x xs H Q => ∃ (cs : List Nat) (c : Nat), x = .str (tx cs) ∧ xs = [.str (tx [c])] ∧ c ∈ cs ∧ Q (.int (fi c cs : Nat)) H) := by
  intro pins s σ H x xs v us Q I rx rs h
  obtain ⟨cs, c, rfl, rfl, hm, q⟩ := h
  refine mt_sindex pins s σ H _ _ v us Q I rx rs ⟨tx cs, tx [c], fi c cs, [], rfl, rfl, ?_, q⟩
  rw [occ_sign, if_pos hm]
end
end My
namespace My
open PySem L2
/-! ### text order -/
def prec (a b : List Nat) : Bool := decide (a.length < b.length) || (decide (a.length = b.length) && decide (a < b))
theorem lt_pair (i j : Int) (x y : Str) : PySem.W.dataLt (.tuple [.int i, .str x]) (.tuple [.int j, .str y]) = (decide (i < j) || (decide (i = j) && decide (x.cps.toList < y.cps.toList))) := by
  rw [PySem.W.dataLt_tuple]
  by_cases e : i = j
  · subst e
    have h1 : PyData.eqv (.int i) (.int i) = true := by simp [PyData.eqv]
    rw [PySem.W.dataLt_all_yes (by simp [PySem.W.alike]) h1]
    have n1 : decide (i < i) = false := decide_eq_false (by omega)
    rw [n1, Bool.false_or, decide_eq_true rfl, Bool.true_and]
    by_cases e2 : x = y
    · subst e2
      have h2 : PyData.eqv (.str x) (.str x) = true := by simp [PyData.eqv]
      rw [PySem.W.dataLt_all_yes (by simp [PySem.W.alike]) h2, decide_eq_false (List.lt_irrefl _)]
      exact PyProof.Rows.lex_irrefl _
    · have h2 : PyData.eqv (.str x) (.str y) = false := by simp [PyData.eqv, e2]
      rw [PySem.W.dataLt_all_no (by simp [PySem.W.alike]) h2, PySem.W.dataLt_str]
  · have h1 : PyData.eqv (.int i) (.int j) = false := by simp [PyData.eqv, e]
    rw [PySem.W.dataLt_all_no (by simp [PySem.W.alike]) h1, PySem.W.dataLt_int, decide_eq_false e, Bool.false_and, Bool.or_false]
theorem atI_neg1 {α : Type} {s : List α} (h : s ≠ []) : atI s (-1) = some (s.getLast h) := by
  have := atI_last s.dropLast (s.getLast h)
  rw [List.dropLast_concat_getLast h] at this
  exact this
theorem atI_zero {α : Type} {s : List α} {c : α} {r : List α} (h : s = c :: r) : atI s 0 = some c := by
  subst h
  exact atI_nat (j := 0) rfl
theorem sIx_neg1 (n d : Nat) : HT.sIx n d (some (-1)) = n - 1 := by
  show (if (-1 : Int) < 0 then ((-1 : Int) + (n : Int)).toNat else min (-1 : Int).toNat n) = n - 1
  rw [if_pos (by decide)]
  omega
theorem cut_last (cs : List Nat) : cutS (tx cs) none (some (-1)) = tx cs.dropLast := by
  rw [tx_cut, sIx_neg1, HT.sIx_none, List.drop_zero, Nat.sub_zero, List.dropLast_eq_take]
theorem cut_to (cs : List Nat) (k : Nat) : cutS (tx cs) none (some (k : Int)) = tx (cs.take k) := by
  rw [tx_cut, HT.sIx_nat, HT.sIx_none, List.drop_zero, Nat.sub_zero]
  by_cases h : k ≤ cs.length
  · rw [Nat.min_eq_left h]
  · rw [Nat.min_eq_right (by omega), List.take_of_length_le (by omega), List.take_of_length_le (by omega)]
theorem cut_from (cs : List Nat) (k : Nat) : cutS (tx cs) (some (k : Int)) none = tx (cs.drop k) := by
  rw [tx_cut, HT.sIx_nat, HT.sIx_none]
  by_cases h : k ≤ cs.length
  · rw [Nat.min_eq_left h, List.take_of_length_le (by simp)]
  · rw [Nat.min_eq_right (by omega), List.drop_of_length_le (by omega), List.drop_of_length_le (by omega)]
    simp
theorem cut_mid (cs : List Nat) (i j : Nat) : cutS (tx cs) (some (i : Int)) (some (j : Int)) = tx ((cs.drop i).take (j - i)) := by
  rw [tx_cut, HT.sIx_nat, HT.sIx_nat, tx_eq]
  apply List.ext_getElem?
  intro k
  by_cases hi : i ≤ cs.length
  · rw [Nat.min_eq_left hi, List.getElem?_take, List.getElem?_take]
    by_cases hj : j ≤ cs.length
    · rw [Nat.min_eq_left hj]
    · rw [Nat.min_eq_right (by omega)]
      by_cases h1 : k < cs.length - i
      · rw [if_pos h1, if_pos (by omega)]
      · rw [if_neg h1]
        by_cases h2 : k < j - i
        · rw [if_pos h2, List.getElem?_eq_none (by simp; omega)]
        · rw [if_neg h2]
  · have e1 : cs.drop i = [] := List.drop_of_length_le (by omega)
    have e2 : cs.drop (min i cs.length) = [] := List.drop_of_length_le (by omega)
    rw [e1, e2]
    simp
theorem c_empty : Str.ofString "" = tx [] := by decide +kernel
theorem flat_rep (k c : Nat) : (List.replicate k [c]).flatten = List.replicate k c := by
  induction k with
  | zero => rfl
  | succ k ih => rw [List.replicate_succ, List.flatten_cons, ih, List.replicate_succ]; rfl
theorem cut_to_lit (cs : List Nat) (n : Nat) : cutS (tx cs) none (some (@OfNat.ofNat Int n instOfNat)) = tx (cs.take n) := cut_to cs n
theorem cut_from_lit (cs : List Nat) (n : Nat) : cutS (tx cs) (some (@OfNat.ofNat Int n instOfNat)) none = tx (cs.drop n) := cut_from cs n
/-! ### the following text -/
def nxt (t s : List Nat) : List Nat :=
  let kept := rs (s.getLastD 0) t
  let tail := List.replicate (t.length - kept.length) (s.headD 0)
  if kept = [] then s.headD 0 :: tail else kept.dropLast ++ [s.getD (fi (kept.getLastD 0) s + 1) 0] ++ tail
theorem rs_le (c : Nat) (t : List Nat) : (rs c t).length ≤ t.length := by
  rw [← rs_take, List.length_take]
  omega
theorem rs_sub {c a : Nat} {t : List Nat} (h : a ∈ rs c t) : a ∈ t := by
  rw [← rs_take] at h
  exact List.mem_of_mem_take h
theorem rs_last {c : Nat} {t : List Nat} (h : rs c t ≠ []) : (rs c t).getLast h ≠ c := by
  unfold rs at h ⊢
  rw [List.getLast_reverse]
  have h2 : t.reverse.dropWhile (fun a => a == c) ≠ [] := fun q => h (by rw [q]; rfl)
  have := List.head_dropWhile_not (fun a => a == c) h2
  intro q
  rw [q] at this
  simp at this
theorem fi_next {c : Nat} {s : List Nat} (hm : c ∈ s) (hs : s ≠ []) (hl : c ≠ s.getLast hs) : fi c s + 1 < s.length := by
  have h1 := fi_lt hm
  have h2 := fi_get hm
  rcases Nat.lt_or_ge (fi c s + 1) s.length with h | h
  · exact h
  · have e : fi c s = s.length - 1 := by omega
    rw [e] at h2
    have : s.getLast hs = c := by
      rw [List.getLast_eq_getElem]
      rw [List.getElem?_eq_getElem (by omega)] at h2
      exact Option.some.inj h2
    exact absurd this.symm hl
end My
namespace My
open PySem L2
/-! ### the 96 signs -/
def SG : List Nat := [9, 10, 32, 33, 34, 35, 36, 38, 39, 40, 41, 42, 43, 44, 45, 46, 47, 48, 49, 50, 51, 52, 53, 54, 55, 56, 57, 58, 59, 60, 61, 62, 63, 64, 65, 66, 67, 68, 69, 70, 71, 72, 73, 74, 75, 76, 77, 78, 79, 80, 81, 82, 83, 84, 85, 86, 87, 88, 89, 90, 91, 92, 93, 94, 95, 96, 97, 98, 99, 100, 101, 102, 103, 104, 105, 106, 107, 108, 109, 110, 111, 112, 113, 114, 115, 116, 117, 118, 119, 120, 121, 122, 123, 124, 125, 126]
theorem SG_len : SG.length = 96 := by decide +kernel
theorem SG_asc : SG.Pairwise (· < ·) := by decide +kernel
theorem sgs_tx : (("\t\n !\"#$&'()*+,-./0123456789:;<=>?@ABCDEFGHIJKLMNOPQRSTUVWXYZ[\\]^_`" : Str) ++ ("abcdefghijklmnopqrstuvwxyz{|}~" : Str)) = tx SG := by decide +kernel
theorem sgs_tx2 : ("\t\n !\"#$&'()*+,-./0123456789:;<=>?@ABCDEFGHIJKLMNOPQRSTUVWXYZ[\\]^_`abcdefghijklmnopqrstuvwxyz{|}~" : Str) = tx SG := by decide +kernel
theorem sub_len {cs : List Nat} (h : cs.Sublist SG) : cs.length ≤ 96 := by
  have := h.length_le
  rw [SG_len] at this
  exact this
theorem sub_asc {cs : List Nat} (h : cs.Sublist SG) : cs.Pairwise (· < ·) := SG_asc.sublist h
theorem line20 {n : Nat} (h : n ≤ 20000) : n ≤ sizeLine := Nat.le_trans h (by decide)
theorem toLine {n : Nat} (h : n ≤ 20000) : n < sizeLine := Nat.lt_of_le_of_lt h (by decide)
/-- the text of a list of sign texts -/
theorem sum_one (cs : List Nat) : ((cs.map fun c => tx [c]).map (·.length)).sum = cs.length := by
  induction cs with
  | nil => rfl
  | cons c r ih => rw [List.map_cons, List.map_cons, List.sum_cons, ih, tx_len, List.length_cons]; simp; omega
theorem map_signs (cs : List Nat) : cs.map (fun c => V.str (tx [c])) = (cs.map fun c => tx [c]).map V.str := by rw [List.map_map]; rfl
theorem join_room (cs : List Nat) (h : cs.length ≤ 10000) : ((cs.map fun c => tx [c]).map (·.length)).sum + (cs.map fun c => tx [c]).length * 0 ≤ 16777216 := by
  rw [sum_one]
  simp
  omega
/-- the reading of ''.join at a list of sign texts -/
theorem join_go {K : PySem.W.Frag} {H : Hp} {D : Addr} {cs : List Nat} {Q : VK} (hD : SqL K H D (cs.map fun c => V.str (tx [c]))) (h : cs.length ≤ 10000) (q : Q (.str (tx cs)) H) :
    ∃ ys : List Str, (SqL K H D (ys.map V.str) ∨ SqT K H D (ys.map V.str)) ∧ (ys.map (·.length)).sum + ys.length * 0 ≤ 16777216 ∧ Q (.str (Txt.join (tx []) ys)) H := by
  refine ⟨cs.map fun c => tx [c], .inl ?_, join_room cs h, ?_⟩
  · rw [← map_signs]; exact hD
  · rw [join_signs]; exact q
theorem join_w {K : PySem.W.Frag} {H : Hp} {D : Addr} {cs : List Nat} (hD : SqL K H D (cs.map fun c => V.str (tx [c]))) (h : cs.length ≤ 10000) :
    ∃ ys : List Str, (SqL K H D (ys.map V.str) ∨ SqT K H D (ys.map V.str)) ∧ (ys.map (·.length)).sum + ys.length * 0 ≤ 16777216 ∧ Txt.join (tx []) ys = tx cs :=
  ⟨cs.map fun c => tx [c], .inl (by rw [← map_signs]; exact hD), join_room cs h, join_signs cs⟩
theorem join_go2 {α : Type} {K : PySem.W.Frag} {H : Hp} {D : Addr} {ks : List α} {g : α → Nat} {Q : VK} (hD : SqL K H D (ks.map fun k => V.str (tx [g k]))) (h : ks.length ≤ 10000) (q : Q (.str (tx (ks.map g))) H) :
    ∃ ys : List Str, (SqL K H D (ys.map V.str) ∨ SqT K H D (ys.map V.str)) ∧ (ys.map (·.length)).sum + ys.length * 0 ≤ 16777216 ∧ Q (.str (Txt.join (tx []) ys)) H := by
  refine join_go (cs := ks.map g) ?_ (by rw [List.length_map]; exact h) q
  rw [List.map_map]
  exact hD
theorem range_map_getD (cs : List Nat) : (List.range cs.length).map (fun k => cs.getD k 0) = cs := by
  apply List.ext_getElem?
  intro i
  rw [List.getElem?_map]
  by_cases h : i < cs.length
  · rw [List.getElem?_range h, List.getElem?_eq_getElem h]
    simp [List.getD, h]
  · rw [List.getElem?_eq_none (by simp; omega), List.getElem?_eq_none (by omega)]
    rfl
theorem atI_pos {α : Type} {s : List α} {i : Int} (h0 : 0 ≤ i) (h1 : i < s.length) : ∃ j : Nat, i = (j : Int) ∧ ∃ h : j < s.length, atI s i = some s[j] := by
  obtain ⟨j, rfl⟩ := Int.eq_ofNat_of_zero_le h0
  have hj : j < s.length := by omega
  exact ⟨j, rfl, hj, atI_nat (List.getElem?_eq_getElem hj)⟩
theorem fi_asc : ∀ {s : List Nat}, s.Pairwise (· < ·) → ∀ {a b : Nat}, a ∈ s → b ∈ s → (fi a s < fi b s ↔ a < b)
  | [], _, _, _, h, _ => by cases h
  | x :: r, hp, a, b, ha, hb => by
    obtain ⟨h1, h2⟩ := List.pairwise_cons.mp hp
    unfold fi
    by_cases ea : x = a
    · rw [if_pos ea]
      by_cases eb : x = b
      · rw [if_pos eb]; omega
      · rw [if_neg eb]
        have : b ∈ r := by
          rcases List.mem_cons.mp hb with q | q
          · exact absurd q.symm eb
          · exact q
        have := h1 b this
        omega
    · rw [if_neg ea]
      have har : a ∈ r := by
        rcases List.mem_cons.mp ha with q | q
        · exact absurd q.symm ea
        · exact q
      by_cases eb : x = b
      · rw [if_pos eb]
        have := h1 a har
        omega
      · rw [if_neg eb]
        have hbr : b ∈ r := by
          rcases List.mem_cons.mp hb with q | q
          · exact absurd q.symm eb
          · exact q
        have := fi_asc h2 har hbr
        omega
/-! ### isinstance against built-in classes -/
section
variable {K : PySem.W.Frag} {H : Hp} {Q : VK}
theorem isi_bl_bool {a : Bool} (q : Q (.bl true) H) : rIsi K [.bl a, .ty "bool"] H Q := ⟨.bl a, .ty "bool", .type "bool", .type "bool", true, rfl, .ty _, .base (.bl a), kit_ty (by decide +kernel), q⟩
theorem isi_int_int {a : Int} (q : Q (.bl true) H) : rIsi K [.int a, .ty "int"] H Q := ⟨.int a, .ty "int", .type "int", .type "int", true, rfl, .ty _, .base (.int a), kit_ty (by decide +kernel), q⟩
theorem isi_int_bool {a : Int} (q : Q (.bl false) H) : rIsi K [.int a, .ty "bool"] H Q := ⟨.int a, .ty "bool", .type "int", .type "bool", false, rfl, .ty _, .base (.int a), kit_ty (by decide +kernel), q⟩
theorem isi_str_str {a : Str} (q : Q (.bl true) H) : rIsi K [.str a, .ty "str"] H Q := ⟨.str a, .ty "str", .type "str", .type "str", true, rfl, .ty _, .base (.str a), kit_ty (by decide +kernel), q⟩
end
/-! ### rules with the written part named -/
section
variable {X : Cx}
def rLenQ (K : PySem.W.Frag) : List V → Hp → VK → Prop := fun xs H Q => ∃ p ys, xs = [.ref p] ∧ (SqL K H p ys ∨ SqT K H p ys) ∧ Q (.int ys.length) H
theorem call_lenQ : CallR X (.builtin "len") (rLenQ X.K) := call_len_seq
def rListOf (K : PySem.W.Frag) : List V → Hp → VK → Prop := fun xs H Q => ∃ p ys, xs = [.ref p] ∧ (SqL K H p ys ∨ SqT K H p ys) ∧ ∀ l, H l = none → Q (.ref l) (upd H l (.lst ys))
theorem call_listOf : CallR X (.type "list") (rListOf X.K) := call_list_of
def rJoin (K : PySem.W.Frag) : V → List V → Hp → VK → Prop := fun x xs H Q => ∃ a, x = .str a ∧ ∃ p, xs = [.ref p] ∧ ∃ ys : List Str, (SqL K H p (ys.map V.str) ∨ SqT K H p (ys.map V.str)) ∧ (ys.map (·.length)).sum + ys.length * a.length ≤ 16777216 ∧ Q (.str (Txt.join a ys)) H
theorem mt_joinQ : MtR X "str.join" (rJoin X.K) := by
  intro pins s σ H x xs v us Q I rx rs h
  obtain ⟨a, e1, p, e2, ys, h1, h2, q⟩ := h
  exact mt_join pins s σ H x xs v us Q I rx rs ⟨a, p, ys, e1, e2, h1, h2, q⟩
end
end My
namespace My
open PySem L2
theorem atI_six {a0 a1 a2 a3 a4 a5 : V} {r : Int} (h0 : 0 ≤ r) (h1 : r < 6) : ∃ v, atI [a0, a1, a2, a3, a4, a5] r = some v ∧ (v = a0 ∨ v = a1 ∨ v = a2 ∨ v = a3 ∨ v = a4 ∨ v = a5) := by
  have : r = 0 ∨ r = 1 ∨ r = 2 ∨ r = 3 ∨ r = 4 ∨ r = 5 := by omega
  rcases this with rfl | rfl | rfl | rfl | rfl | rfl
  · exact ⟨a0, rfl, .inl rfl⟩
  · exact ⟨a1, rfl, .inr (.inl rfl)⟩
  · exact ⟨a2, rfl, .inr (.inr (.inl rfl))⟩
  · exact ⟨a3, rfl, .inr (.inr (.inr (.inl rfl)))⟩
  · exact ⟨a4, rfl, .inr (.inr (.inr (.inr (.inl rfl))))⟩
  · exact ⟨a5, rfl, .inr (.inr (.inr (.inr (.inr rfl))))⟩
/-- signs of a text, each by its own draw -/
theorem lc_draws {cs : List Nat} {d l : Addr} {k : Nat} {tt : TT} {te : TE} {σ : St} {H1 : Hp} {Q : VK} (hn : cs.length ≤ 20000) (hD : Drw H1 d l)
    (hT : ∀ c H (Q : Bool → Hp → Prop), c ∈ cs → Drw H d l → (∀ b H', Drw H' d l → But d H H' → Q b H') → tt ((σ.set k none).set k (some (.str (tx [c])))) H Q)
    (hE : ∀ c H (Q : VK), c ∈ cs → Q (.str (tx [c])) H → te ((σ.set k none).set k (some (.str (tx [c])))) H Q)
    (h : ∀ D H (es : List Nat), H1 D = none → es.Sublist cs → Drw H d l → But d H1 H → H D = some (.lst (es.map fun c => V.str (tx [c]))) → Q (.ref D) H) :
    LcJ (Its (tx cs)) (gName k) tt te [k] σ H1 Q := by
  obtain ⟨Pv, hP⟩ : ∃ Pv : Addr → Nat → Hp → Prop, ∀ D i H, Pv D i H ↔ ∃ es : List Nat, es.Sublist (cs.take i) ∧ Drw H d l ∧ But d H1 H ∧ H D = some (.lst (es.map fun c => V.str (tx [c]))) := ⟨_, fun _ _ _ => Iff.rfl⟩
  refine lcJ_by (reg_text cs) Pv (fun _ _ _ _ _ => trivial) (fun D hD1 => ?_) (fun D i c H hD1 hi hp => ?_) (fun D H hD1 hp => ?_)
  · exact (hP _ _ _).mpr ⟨[], List.nil_sublist _, hD.new hD1, (But.refl d H1).new hD1, upd_same⟩
  · obtain ⟨es, e1, e2, e3, e4⟩ := (hP _ _ _).mp hp
    have hm : c ∈ cs := List.mem_of_getElem? hi
    have ht : cs.take (i + 1) = cs.take i ++ [c] := by rw [List.take_add_one, hi]; rfl
    have hDd : D ≠ d := hD.ne hD1
    refine hT c H _ hm e2 fun b H' d' b' => ?_
    have hl : H' D = some (.lst (es.map fun c => V.str (tx [c]))) := b' _ _ hDd e4
    cases b with
    | false =>
      rw [if_neg Bool.false_ne_true]
      refine (hP _ _ _).mpr ⟨es, ?_, d', e3.trans b', hl⟩
      rw [ht]
      exact e1.trans (List.sublist_append_left _ _)
    | true =>
      rw [if_pos rfl]
      refine hE c H' _ hm ⟨_, hl, ?_, ?_⟩
      · rw [List.length_map]
        have h1 := e1.length_le
        have h2 : (cs.take i).length ≤ cs.length := by rw [List.length_take]; omega
        exact toLine (by omega)
      · refine (hP _ _ _).mpr ⟨es ++ [c], ?_, ?_, ?_, ?_⟩
        · rw [ht]; exact e1.append (List.Sublist.refl _)
        · exact d'.put hDd (hD.nel hD1)
        · intro b o nb e
          rw [upd_ne (ne_of_none e hD1)]
          exact b' _ _ nb (e3 _ _ nb e)
        · rw [upd_same, List.map_append]; rfl
  · obtain ⟨es, e1, e2, e3, e4⟩ := (hP _ _ _).mp hp
    rw [List.take_length] at e1
    exact h D H es hD1 e1 e2 e3 e4
/-- texts of one sign, each by its own draw -/
theorem lc_any {α : Type} {J : It} {its : List α} {item : α → V} (R : Reg J its item (fun _ => True)) {d l : Addr} {k : Nat} {te : TE} {σ : St} {H1 : Hp} {Q : VK} (S : Nat → Prop) (hn : its.length ≤ 20000) (hD : Drw H1 d l)
    (hE : ∀ a H (Q : VK), a ∈ its → Drw H d l → (∀ c H', S c → Drw H' d l → But d H H' → Q (.str (tx [c])) H') → te ((σ.set k none).set k (some (item a))) H Q)
    (h : ∀ D H (es : List Nat), H1 D = none → (∀ c ∈ es, S c) → es.length = its.length → Drw H d l → But d H1 H → H D = some (.lst (es.map fun c => V.str (tx [c]))) → Q (.ref D) H) :
    LcJ J (gName k) tYes te [k] σ H1 Q := by
  obtain ⟨Pv, hP⟩ : ∃ Pv : Addr → Nat → Hp → Prop, ∀ D i H, Pv D i H ↔ ∃ es : List Nat, (∀ c ∈ es, S c) ∧ es.length = i ∧ Drw H d l ∧ But d H1 H ∧ H D = some (.lst (es.map fun c => V.str (tx [c]))) := ⟨_, fun _ _ _ => Iff.rfl⟩
  refine lcJ_by R Pv (fun _ _ _ _ _ => trivial) (fun D hD1 => ?_) (fun D i c H hD1 hi hp => ?_) (fun D H hD1 hp => ?_)
  · exact (hP _ _ _).mpr ⟨[], by simp, rfl, hD.new hD1, (But.refl d H1).new hD1, upd_same⟩
  · obtain ⟨es, e1, e2, e3, e4, e5⟩ := (hP _ _ _).mp hp
    have hm : c ∈ its := List.mem_of_getElem? hi
    have hlt := (List.getElem?_eq_some_iff.mp hi).1
    have hDd : D ≠ d := hD.ne hD1
    simp only [tYes, ↓reduceIte]
    refine hE c H _ hm e3 fun c' H' hc d' b' => ?_
    have hl : H' D = some (.lst (es.map fun c => V.str (tx [c]))) := b' _ _ hDd e5
    refine ⟨_, hl, ?_, ?_⟩
    · rw [List.length_map]
      exact toLine (by omega)
    · refine (hP _ _ _).mpr ⟨es ++ [c'], ?_, ?_, d'.put hDd (hD.nel hD1), ?_, ?_⟩
      · intro x hx
        rcases List.mem_append.mp hx with q | q
        · exact e1 x q
        · rw [List.mem_singleton.mp q]; exact hc
      · rw [List.length_append, e2]; rfl
      · intro b o nb e
        rw [upd_ne (ne_of_none e hD1)]
        exact b' _ _ nb (e4 _ _ nb e)
      · rw [upd_same, List.map_append]; rfl
  · obtain ⟨es, e1, e2, e3, e4, e5⟩ := (hP _ _ _).mp hp
    exact h D H es hD1 e1 e2 e3 e4 e5
theorem inV_signs (c : Nat) (es : List Nat) : inV (V.str (tx [c])) (es.map fun c => V.str (tx [c])) = decide (c ∈ es) := by
  unfold inV
  rw [List.any_map]
  have h : ∀ a, ((fun y => eqV y (V.str (tx [c]))) ∘ fun c => V.str (tx [c])) a = (a == c) := by
    intro a
    show eqV (V.str (tx [a])) (V.str (tx [c])) = (a == c)
    unfold eqV
    by_cases e : a = c
    · subst e; simp
    · have e2 : ¬ tx [a] = tx [c] := fun q => e (by rw [tx_eq] at q; exact (List.cons.inj q).1)
      have e3 : (a == c) = false := beq_eq_false_iff_ne.mpr e
      rw [e3]
      simp [e2]
  induction es with
  | nil => rfl
  | cons x r ih =>
    rw [List.any_cons, h, ih, Bool.eq_iff_iff]
    simp only [Bool.or_eq_true, beq_iff_eq, decide_eq_true_eq, List.mem_cons]
    constructor
    · rintro (q | q)
      · exact .inl q.symm
      · exact .inr q
    · rintro (q | q)
      · exact .inl q.symm
      · exact .inr q
theorem flat_signs (es : List Nat) : (es.map fun c => V.str (tx [c])).all flatV = true := by
  induction es with
  | nil => rfl
  | cons x r ih => rw [List.map_cons, List.all_cons, ih]; rfl
end My
namespace My
open PySem L2
/-! ### the place of a text among all texts over a set text -/
def pl (s : List Nat) (p : Int) (t : List Nat) : Int := t.foldl (fun p c => p * (s.length : Int) + (fi c s : Int) + 1) p
def place (t s : List Nat) : Int := pl s 0 t
theorem pl_cons (s : List Nat) (p : Int) (c : Nat) (t : List Nat) : pl s p (c :: t) = pl s (p * (s.length : Int) + (fi c s : Int) + 1) t := rfl
theorem pl_app (s : List Nat) (p : Int) (a b : List Nat) : pl s p (a ++ b) = pl s (pl s p a) b := List.foldl_append ..
theorem pl_lt {s : List Nat} : ∀ {a b : List Nat} {p q : Int}, (∀ c ∈ a, c ∈ s) → a.length = b.length → p < q → pl s p a < pl s q b
  | [], [], p, q, _, _, h => h
  | [], _ :: _, _, _, _, h, _ => by simp at h
  | _ :: _, [], _, _, _, h, _ => by simp at h
  | x :: a, y :: b, p, q, ha, hl, h => by
    rw [pl_cons, pl_cons]
    refine pl_lt (fun c hc => ha c (List.mem_cons_of_mem _ hc)) (by simpa using hl) ?_
    have h1 := fi_lt (ha x (List.mem_cons_self ..))
    have h2 : (p + 1) * (s.length : Int) ≤ q * (s.length : Int) := Int.mul_le_mul_of_nonneg_right (by omega) (by omega)
    rw [Int.add_mul, Int.one_mul] at h2
    omega
theorem pl_lex {s : List Nat} (hs : s.Pairwise (· < ·)) : ∀ {a b : List Nat} (p : Int), (∀ c ∈ a, c ∈ s) → (∀ c ∈ b, c ∈ s) → a.length = b.length → a < b → pl s p a < pl s p b
  | [], [], _, _, _, _, h => absurd h (List.lt_irrefl _)
  | [], _ :: _, _, _, _, h, _ => by simp at h
  | _ :: _, [], _, _, _, h, _ => by simp at h
  | x :: a, y :: b, p, ha, hb, hl, h => by
    rw [pl_cons, pl_cons]
    have ha' : ∀ c ∈ a, c ∈ s := fun c hc => ha c (List.mem_cons_of_mem _ hc)
    have hb' : ∀ c ∈ b, c ∈ s := fun c hc => hb c (List.mem_cons_of_mem _ hc)
    have hl' : a.length = b.length := by simpa using hl
    rcases List.cons_lt_cons_iff.mp h with q | ⟨q, r⟩
    · have := (fi_asc hs (ha x (List.mem_cons_self ..)) (hb y (List.mem_cons_self ..))).mpr q
      exact pl_lt ha' hl' (by omega)
    · subst q
      exact pl_lex hs _ ha' hb' hl' r
theorem pl_pos {s : List Nat} : ∀ {a : List Nat} {p : Int}, 0 ≤ p → 0 ≤ pl s p a ∧ (a ≠ [] → 0 < pl s p a)
  | [], p, h => ⟨h, fun q => absurd rfl q⟩
  | x :: a, p, h => by
    rw [pl_cons]
    have h2 : 0 ≤ p * (s.length : Int) := Int.mul_nonneg h (by omega)
    have h3 : 0 < p * (s.length : Int) + (fi x s : Int) + 1 := by omega
    obtain ⟨i1, i2⟩ := pl_pos (s := s) (a := a) (Int.le_of_lt h3)
    refine ⟨i1, fun _ => ?_⟩
    cases a with
    | nil => exact h3
    | cons y r => exact i2 (by simp)
theorem place_shorter {s a b : List Nat} (ha : ∀ c ∈ a, c ∈ s) (h : a.length < b.length) : place a s < place b s := by
  unfold place
  have e : b = b.take (b.length - a.length) ++ b.drop (b.length - a.length) := (List.take_append_drop ..).symm
  rw [e, pl_app]
  refine pl_lt ha (by rw [List.length_drop]; omega) ?_
  refine (pl_pos (Int.le_refl 0)).2 ?_
  intro q
  have := congrArg List.length q
  rw [List.length_take] at this
  simp at this
  omega
theorem lt_tri (a b : List Nat) : a < b ∨ a = b ∨ b < a := by
  induction a generalizing b with
  | nil =>
    cases b with
    | nil => exact .inr (.inl rfl)
    | cons y r => exact .inl (List.nil_lt_cons ..)
  | cons x a ih =>
    cases b with
    | nil => exact .inr (.inr (List.nil_lt_cons ..))
    | cons y b =>
      rcases Nat.lt_trichotomy x y with h | h | h
      · exact .inl (List.cons_lt_cons_iff.mpr (.inl h))
      · subst h
        rcases ih b with q | q | q
        · exact .inl (List.cons_lt_cons_iff.mpr (.inr ⟨rfl, q⟩))
        · exact .inr (.inl (by rw [q]))
        · exact .inr (.inr (List.cons_lt_cons_iff.mpr (.inr ⟨rfl, q⟩)))
      · exact .inr (.inr (List.cons_lt_cons_iff.mpr (.inl h)))
theorem prec_iff {s a b : List Nat} (hs : s.Pairwise (· < ·)) (ha : ∀ c ∈ a, c ∈ s) (hb : ∀ c ∈ b, c ∈ s) : prec a b = true ↔ place a s < place b s := by
  have fwd : ∀ {a b : List Nat}, (∀ c ∈ a, c ∈ s) → (∀ c ∈ b, c ∈ s) → prec a b = true → place a s < place b s := by
    intro a b ha hb h
    unfold prec at h
    rw [Bool.or_eq_true, Bool.and_eq_true, decide_eq_true_eq, decide_eq_true_eq, decide_eq_true_eq] at h
    rcases h with h | ⟨h1, h2⟩
    · exact place_shorter ha h
    · exact pl_lex hs 0 ha hb h1 h2
  refine ⟨fwd ha hb, fun h => ?_⟩
  have tri : prec a b = true ∨ a = b ∨ prec b a = true := by
    unfold prec
    simp only [Bool.or_eq_true, Bool.and_eq_true, decide_eq_true_eq]
    rcases Nat.lt_trichotomy a.length b.length with q | q | q
    · exact .inl (.inl q)
    · rcases lt_tri a b with r | r | r
      · exact .inl (.inr ⟨q, r⟩)
      · exact .inr (.inl r)
      · exact .inr (.inr (.inr ⟨q.symm, r⟩))
    · exact .inr (.inr (.inl q))
  rcases tri with q | q | q
  · exact q
  · subst q; omega
  · have := fwd hb ha q
    omega
/-! ### the following text is the next in place -/
theorem fi_getD : ∀ {s : List Nat} {k : Nat}, s.Pairwise (· < ·) → (h : k < s.length) → fi s[k] s = k
  | [], _, _, h => by cases h
  | x :: r, 0, _, _ => by show (if x = x then 0 else _) = 0; rw [if_pos rfl]
  | x :: r, k + 1, hp, h => by
    obtain ⟨h1, h2⟩ := List.pairwise_cons.mp hp
    have hk : k < r.length := by simpa using h
    have hm := List.getElem_mem hk
    have hlt := h1 _ hm
    show (if x = r[k] then 0 else fi r[k] r + 1) = k + 1
    rw [if_neg (by omega), fi_getD h2 hk]
theorem pl_rep {s : List Nat} {x y : Nat} (hx : (fi x s : Int) + 1 = s.length) (hy : fi y s = 0) : ∀ (k : Nat) (p : Int), pl s (p + 1) (List.replicate k y) = pl s p (List.replicate k x) + 1
  | 0, p => rfl
  | k + 1, p => by
    rw [List.replicate_succ, List.replicate_succ, pl_cons, pl_cons]
    have e : (p + 1) * (s.length : Int) + (fi y s : Int) + 1 = (p * (s.length : Int) + (fi x s : Int) + 1) + 1 := by
      rw [hy, Int.add_mul, Int.one_mul]
      omega
    rw [e]
    exact pl_rep hx hy k _
theorem rs_split (c : Nat) (t : List Nat) : t = rs c t ++ List.replicate (t.length - (rs c t).length) c := by
  have h : t.reverse.takeWhile (fun a => a == c) ++ t.reverse.dropWhile (fun a => a == c) = t.reverse := List.takeWhile_append_dropWhile
  have h2 : t = (t.reverse.dropWhile (fun a => a == c)).reverse ++ (t.reverse.takeWhile (fun a => a == c)).reverse := by
    rw [← List.reverse_append, h, List.reverse_reverse]
  have h3 : ∀ l : List Nat, l.takeWhile (fun a => a == c) = List.replicate (l.takeWhile (fun a => a == c)).length c := by
    intro l
    induction l with
    | nil => rfl
    | cons a r ih =>
      rw [List.takeWhile_cons]
      by_cases e : (a == c) = true
      · rw [if_pos e, List.length_cons, List.replicate_succ, ← ih]
        rw [eq_of_beq e]
      · rw [if_neg e]; rfl
  have h4 := congrArg List.length h2
  rw [List.length_append, List.length_reverse (as := List.takeWhile _ _)] at h4
  have e5 : t.length - (rs c t).length = (t.reverse.takeWhile (fun a => a == c)).length := by
    unfold rs
    omega
  rw [e5]
  have h6 : (t.reverse.takeWhile (fun a => a == c)).reverse = List.replicate (t.reverse.takeWhile (fun a => a == c)).length c := by
    rw [h3 t.reverse, List.reverse_replicate, List.length_replicate]
  rw [← h6]
  exact h2
structure NxtOk (N t s : List Nat) : Prop where
  sub : ∀ c ∈ N, c ∈ s
  len : N.length ≤ t.length + 1
  place : place N s = place t s + 1
theorem nxt_ok {t s : List Nat} (hs : s ≠ []) (asc : s.Pairwise (· < ·)) (ht : ∀ c ∈ t, c ∈ s) : NxtOk (nxt t s) t s := by
  have eL : s.getLastD 0 = s.getLast hs := List.getLastD_eq_getLast? .. ▸ by rw [List.getLast?_eq_some_getLast hs]; rfl
  obtain ⟨c0, r0, es⟩ : ∃ c r, s = c :: r := by
    cases s with
    | nil => exact absurd rfl hs
    | cons c r => exact ⟨c, r, rfl⟩
  have eH : s.headD 0 = c0 := by rw [es]; rfl
  have m0 : c0 ∈ s := by rw [es]; exact List.mem_cons_self ..
  have y0 : fi c0 s = 0 := by rw [es]; show (if c0 = c0 then 0 else _) = 0; rw [if_pos rfl]
  have hpos : 0 < s.length := List.length_pos_iff.mpr hs
  have xL : (fi (s.getLast hs) s : Int) + 1 = s.length := by
    have h1 : s.getLast hs = s[s.length - 1] := List.getLast_eq_getElem ..
    rw [h1, fi_getD asc (by omega)]
    omega
  have sp := rs_split (s.getLast hs) t
  have hk := rs_le (s.getLast hs) t
  unfold nxt
  rw [eL, eH]
  generalize hkd : t.length - (rs (s.getLast hs) t).length = k at *
  by_cases h0 : rs (s.getLast hs) t = []
  · simp only [h0, ↓reduceIte]
    rw [h0, List.nil_append] at sp
    have hk0 : k = t.length := by rw [← hkd, h0]; simp
    subst hk0
    refine ⟨fun c hc => ?_, ?_, ?_⟩
    · rcases List.mem_cons.mp hc with q | q
      · rw [q]; exact m0
      · rw [List.eq_of_mem_replicate q]; exact m0
    · simp
    · unfold My.place
      rw [pl_cons, y0]
      have := pl_rep xL y0 t.length 0
      rw [← sp] at this
      simpa using this
  · have hm : (rs (s.getLast hs) t).getLast h0 ∈ s := ht _ (rs_sub (List.getLast_mem h0))
    have hf := fi_next hm hs (rs_last h0)
    have eK : (rs (s.getLast hs) t).getLastD 0 = (rs (s.getLast hs) t).getLast h0 := List.getLastD_eq_getLast? .. ▸ by rw [List.getLast?_eq_some_getLast h0]; rfl
    have eG : s.getD (fi ((rs (s.getLast hs) t).getLast h0) s + 1) 0 = s[fi ((rs (s.getLast hs) t).getLast h0) s + 1] := by
      rw [List.getD_eq_getElem?_getD, List.getElem?_eq_getElem hf]; rfl
    simp only [h0, ↓reduceIte, eK, eG, hkd]
    have dk : rs (s.getLast hs) t = (rs (s.getLast hs) t).dropLast ++ [(rs (s.getLast hs) t).getLast h0] := (List.dropLast_concat_getLast h0).symm
    refine ⟨fun c hc => ?_, ?_, ?_⟩
    · rcases List.mem_append.mp hc with q | q
      · rcases List.mem_append.mp q with q | q
        · exact ht _ (rs_sub (List.dropLast_subset _ q))
        · rw [List.mem_singleton.mp q]; exact List.getElem_mem hf
      · rw [List.eq_of_mem_replicate q]; exact m0
    · rw [List.length_append, List.length_append, List.length_dropLast, List.length_replicate]
      simp
      omega
    · unfold My.place
      have key : pl s 0 t = pl s (pl s (pl s 0 (rs (s.getLast hs) t).dropLast) [(rs (s.getLast hs) t).getLast h0]) (List.replicate k (s.getLast hs)) := by
        rw [← pl_app, ← pl_app, ← List.append_assoc, ← dk, ← sp]
      rw [key, pl_app, pl_app]
      have e1 : ∀ P : Int, pl s P [s[fi ((rs (s.getLast hs) t).getLast h0) s + 1]] = pl s P [(rs (s.getLast hs) t).getLast h0] + 1 := by
        intro P
        show P * (s.length : Int) + (fi s[fi ((rs (s.getLast hs) t).getLast h0) s + 1] s : Int) + 1 = P * (s.length : Int) + (fi ((rs (s.getLast hs) t).getLast h0) s : Int) + 1 + 1
        rw [fi_getD asc hf]
        omega
      rw [e1]
      exact pl_rep xL y0 k _
end My
namespace My
open PySem PySem.Spec PyProof.Rows PySem.Froz L2
/-! ### a set of texts: its payload, with all that a walk asks -/
def kt (e : Int × Value) : Str := match e.2 with | .str x _ => x | _ => Str.empty
structure SOk (w : World) (D : SD) (l : List Str) : Prop where
  good : ∀ e ∈ D.1.toList, ∃ x u, e = (hashStr w x, Value.str x u)
  keys : (D.1.toList.map kt).Perm l
  fit : D.2.2.fits D.1.size = true
  ris : Ris D.2.2.place.toList
  led : w.params.followText "set-order" = true ∨ D.2.2.led = true
section
variable {P : Program} {w : World} {D : SD} {l : List Str}
theorem SOk.size (F : SOk w D l) : D.1.size = l.length := by
  have := F.keys.length_eq
  rw [List.length_map, Array.length_toList] at this
  exact this
theorem SOk.tx (F : SOk w D l) : TxOk P w D l where
  el := fun e he => by
    obtain ⟨x, u, rfl⟩ := F.good e he
    exact ⟨⟨x, is_str x u, rfl⟩, rfl⟩
  mem := fun k => by
    rw [← F.keys.mem_iff, List.mem_map]
    constructor
    · rintro ⟨e, he, rfl⟩
      obtain ⟨x, u, rfl⟩ := F.good e he
      exact ⟨_, he, is_str x u⟩
    · rintro ⟨e, he, q⟩
      obtain ⟨x, u, rfl⟩ := F.good e he
      refine ⟨_, he, ?_⟩
      show x = k
      have q2 : Value.isStrOf k (.str x u) = true := q
      simpa [Value.isStrOf] using q2
  sz := F.size
  fit := F.fit
theorem SOk.nil {t : SetTable} {ep : Nat} (hf : t.fits 0 = true) (hr : Ris t.place.toList) (hl : w.params.followText "set-order" = true ∨ t.led = true) : SOk w (#[], ep, t) [] :=
  ⟨fun e he => by simp at he, List.Perm.refl _, hf, hr, hl⟩
/-- the payload behind one more text -/
theorem SOk.add (F : SOk w D l) (k : Str) (u : Tok) : SOk w (addTx (hashStr w k) (.str k u) D) (k :: l) := by
  obtain ⟨es, ep, t⟩ := D
  have pm := layNew_perm t es (hashStr w k) (.str k u)
  have f1 := layNew_fits t es (hashStr w k) (.str k u)
  have r1 := layNew_ris t es (hashStr w k) (.str k u) F.ris
  have l1 := layNew_led t es (hashStr w k) (.str k u)
  show SOk w (tailTx ep (layNew t es (hashStr w k) (.str k u)).1 (if (layNew t es (hashStr w k) (.str k u)).2.1.plain = true then { (layNew t es (hashStr w k) (.str k u)).2.1 with plain := false } else (layNew t es (hashStr w k) (.str k u)).2.1) (layNew t es (hashStr w k) (.str k u)).2.2.1) (k :: l)
  generalize layNew t es (hashStr w k) (.str k u) = Z at pm f1 r1 l1
  obtain ⟨es1, t1, wd, gv⟩ := Z
  dsimp only at pm f1 r1 l1 ⊢
  rw [Array.toList_push] at pm
  have pc : es1.toList.Perm ((hashStr w k, Value.str k u) :: es.toList) := pm.trans (List.perm_append_singleton _ _)
  have base : ∀ (es2 : Array (Int × Value)) (t2 : SetTable) (ep2 : Nat), es2.toList.Perm es1.toList → t2.fits es2.size = true → Ris t2.place.toList → (w.params.followText "set-order" = true ∨ t2.led = true) → SOk w (es2, ep2, t2) (k :: l) := by
    intro es2 t2 ep2 p2 hf2 hr2 hl2
    have p3 := p2.trans pc
    refine ⟨fun e he => ?_, ?_, hf2, hr2, hl2⟩
    · rcases List.mem_cons.mp (p3.mem_iff.mp he) with z | z
      · exact ⟨k, u, z⟩
      · exact F.good e z
    · exact (p3.map kt).trans (List.Perm.cons k F.keys)
  have ledD : w.params.followText "set-order" = true ∨ t.led = true := F.led
  have led1 : w.params.followText "set-order" = true ∨ t1.led = true := by
    rw [l1]; exact ledD
  generalize ht : (if t1.plain = true then { t1 with plain := false } else t1) = t2
  have fT : t2.fits es1.size = true := by
    rw [← ht]; split
    · exact SetTable.fits_plain_off f1
    · exact f1
  have rT : Ris t2.place.toList := by
    rw [← ht]; split <;> exact r1
  have lT : w.params.followText "set-order" = true ∨ t2.led = true := by
    rw [← ht]; split <;> exact led1
  unfold tailTx
  split
  · refine base _ _ _ (relayAll_perm _ _ _) (relayAll_fits _ _ _) (relayAll_ris _ _ _) ?_
    rw [relayAll_led]; exact lT
  · exact base _ _ _ (List.Perm.refl _) fT rT lT
end
section
variable {P : Program} {w : World} {A : Around} {E : Value → Shared → Prop} {s : Shared} {a : Addr} {D : SD} {l : List Str} {k : Str} {u : Tok}
/-- a text that is in already -/
theorem add_there {Q : Bool → Shared → Prop} (ho : s.heap.get? a = some (sObj "set" D)) (F : SOk w D l) (hk : k ∈ l) (hb : l.length < scanBound) (q : Q false s) :
    wpAny (model P w) A (setAddHashed a (.str k u) (hashStr w k)) Q E s := by
  have T : TxOk P w D l := F.tx
  have hsz := F.size
  obtain ⟨es, ep, t⟩ := D
  obtain ⟨e0, he0, z0⟩ := (T.mem k).mp hk
  unfold setAddHashed setAddHashedIn
  refine wpAny_holding (wpAny_bind (wpAny_setState_of ho rfl T.fit ?_))
  dsimp only
  rw [byScan_of (knd := strKind P w) (x := .str k u) rfl (by show es.size < scanBound; rw [show es.size = l.length from hsz]; exact hb) T.el]
  simp only [↓reduceIte]
  unfold setAddByScan
  refine wpAny_bind (wpAny_bind (wpAny_rule (wpAny_bind (wpAny_setScan_of (knd := strKind P w) (k := k) (is_str k u) ho rfl T.fit T.el ?_))))
  cases hfi : List.findIdx? (fun e => (strKind P w).is k e.2) es.toList with
  | none => exact absurd z0 (by rw [List.findIdx?_eq_none_iff.mp hfi e0 he0]; exact Bool.false_ne_true)
  | some j => exact wpAny_pure (wpAny_pure q)
/-- the set at a holds the signs of cs -/
def SX (w : World) (h : Heap) (a : Addr) (cs : List Nat) : Prop :=
  ∃ D l, h.get? a = some (sObj "set" D) ∧ SOk w D l ∧ l.Nodup ∧ (∀ x, x ∈ l ↔ ∃ c ∈ cs, x = tx [c]) ∧ l.length < scanBound
end
end My
namespace My
open PySem PySem.Spec PyProof.Rows PySem.Froz L2
section
variable {P : Program} {w : World} {A : Around} {E : Value → Shared → Prop} {s : Shared}
theorem SX.at {h h' : Heap} {a : Addr} {cs : List Nat} (R : SX w h a cs) (k : ∀ o, h.get? a = some o → h'.get? a = some o) : SX w h' a cs := by
  obtain ⟨D, l, ho, r⟩ := R
  exact ⟨D, l, k _ ho, r⟩
/-- one more sign -/
theorem SX.add {a : Addr} {cs : List Nat} {c : Nat} {u : Tok} {Q : Bool → Shared → Prop} (R : SX w s.heap a cs) (hb : cs.length + 1 < scanBound)
    (q : ∀ b h', Heap.SameBut a s.heap h' → SX w h' a (cs ++ [c]) → Q b { s with heap := h' }) : wpAny (model P w) A (setAddHashed a (.str (tx [c]) u) (hashStr w (tx [c]))) Q E s := by
  obtain ⟨D, l, ho, F, nd, hm, hl⟩ := R
  have lle : l.length ≤ cs.length := by
    have h1 : ∀ (cs : List Nat) (l : List Str), l.Nodup → (∀ x ∈ l, ∃ c ∈ cs, x = tx [c]) → l.length ≤ cs.length := by
      intro cs
      induction cs with
      | nil =>
        intro l _ h
        cases l with
        | nil => exact Nat.le_refl _
        | cons x r => obtain ⟨c, hc, _⟩ := h x (List.mem_cons_self ..); cases hc
      | cons c r ih =>
        intro l nd h
        have h2 := ih (l.erase (tx [c])) (nd.erase _) fun x hx => by
          obtain ⟨hx1, hx2⟩ := (nd.mem_erase_iff).mp hx
          obtain ⟨d, hd, e⟩ := h x hx2
          rcases List.mem_cons.mp hd with z | z
          · exact absurd (by rw [e, z]) hx1
          · exact ⟨d, z, e⟩
        have h3 := List.length_erase (a := tx [c]) (l := l)
        rw [List.length_cons]
        split at h3 <;> omega
    exact h1 cs l nd fun x hx => (hm x).mp hx
  by_cases hk : tx [c] ∈ l
  · refine add_there ho F hk hl (q _ _ (Heap.SameBut.refl a s.heap) ⟨D, l, ho, F, nd, fun x => ?_, hl⟩)
    rw [hm x]
    constructor
    · rintro ⟨d, hd, e⟩; exact ⟨d, List.mem_append_left _ hd, e⟩
    · rintro ⟨d, hd, e⟩
      rcases List.mem_append.mp hd with z | z
      · exact ⟨d, z, e⟩
      · rw [List.mem_singleton.mp z] at e
        rw [e]
        exact (hm _).mp hk
  · have room : l.length + 1 < scanBound := by omega
    refine add_x ho F.tx hk room (q _ _ ?_ ⟨_, tx [c] :: l, get_upd _ ho rfl, F.add _ _, List.nodup_cons.mpr ⟨hk, nd⟩, fun x => ?_, by rw [List.length_cons]; exact room⟩)
    · exact Heap.SameBut.update _ _ _
    · rw [List.mem_cons, hm x]
      constructor
      · rintro (z | ⟨d, hd, e⟩)
        · exact ⟨c, List.mem_append_right _ (List.mem_singleton.mpr rfl), z⟩
        · exact ⟨d, List.mem_append_left _ hd, e⟩
      · rintro ⟨d, hd, e⟩
        rcases List.mem_append.mp hd with z | z
        · exact .inr ⟨d, z, e⟩
        · rw [List.mem_singleton.mp z] at e
          exact .inl e
end
end My
namespace My
open PySem PySem.Spec PyProof.Rows PySem.Froz L2
section
variable {P : Program} {w : World} {A : Around} {E : Value → Shared → Prop} {s : Shared}
/-- the loop that takes the rest of a text's signs into the set at S -/
theorem update_text {I : Addr} {fp wr : List Addr} {G : Array GenState → Array GenState → Prop} {cs : List Nat} {St : Nat → Shared → Prop} {R : Result → Shared → Prop}
    (W : WalksS P w A.in1 I fp wr G cs.length (SignAt (tx cs)) St) (S : Addr) (hS : S ∉ fp) (hb : cs.length + 1 < scanBound) :
    ∀ (m i : Nat) (s : Shared), i + m = cs.length → St i s → SX w s.heap S (cs.take i) →
      (∀ s', Moved (S :: wr) G s s' → SX w s'.heap S cs → R (.ok (.ret .none)) s') →
      codeAny (model P w) A (.builtin "set.update.loop" ⟨[.ref S, .ref I], []⟩) R s
  | 0, i, s, hm, hst, hx, hR => by
    have hi : i = cs.length := by omega
    subst hi
    have hw : S ∉ wr := fun h => hS (W.sub _ h)
    refine codeAny_builtin PyProof.Rows.F.entry_set_update_loop ?_
    rw [Around.under_plainId PyProof.Rows.F.plain_set_update_loop _]
    refine wpAny_bind (m := pyNext (.ref I)) (W.done s _ _ hst fun s' mv => wpAny_pure (hR s' (mv.mono fun b hb => List.mem_cons_of_mem _ hb) ?_))
    rw [List.take_length] at hx
    exact hx.at fun o e => mv.heap S o hw e
  | m + 1, i, s, hm, hst, hx, hR => by
    have hi : i < cs.length := by omega
    have hw : S ∉ wr := fun h => hS (W.sub _ h)
    refine codeAny_builtin PyProof.Rows.F.entry_set_update_loop ?_
    rw [Around.under_plainId PyProof.Rows.F.plain_set_update_loop _]
    refine wpAny_bind (m := pyNext (.ref I)) (W.item i s _ _ hi hst fun v s' hv hst' mv => ?_)
    obtain ⟨c, u, hc, rfl⟩ := hv
    have hc2 : cs[i]? = some c := by
      have : (tx cs).cps[i]? = cs[i]? := by simp [tx]
      rw [← this]; exact hc
    have hx' : SX w s'.heap S (cs.take i) := hx.at fun o e => mv.heap S o hw e
    have et : cs.take (i + 1) = cs.take i ++ [c] := by rw [List.take_add_one, hc2]; rfl
    show wpAny _ A.in1 (holding [Value.str (tx [c]) u] (setAdd S (.str (tx [c]) u)) >>= _) _ _ s'
    refine wpAny_bind (wpAny_holding ?_)
    unfold setAdd
    refine wpAny_holding (wpAny_bind ((strKind P w).pyHash (k := tx [c]) (is_str _ _) ?_))
    have hlen : (cs.take i).length + 1 < scanBound := by rw [List.length_take]; omega
    refine SX.add (s := { s' with toks := s'.toks + 1 }) hx' hlen fun b h' sb hx2 => ?_
    rw [← et] at hx2
    have hst2 : St (i + 1) { s' with heap := h', toks := s'.toks + 1 } := W.frame _ s' _ _ hst' (Nat.le_succ _) fun b hb o e => by
      rw [sb.2 b fun q => hS (q ▸ hb)]; exact e
    refine wpAny_pure ⟨plainId_quiet PyProof.Rows.F.plain_set_update_loop _, update_text W S hS hb m (i + 1) _ (by omega) hst2 hx2 fun s'' mv2 hx3 => hR s'' ?_ hx3⟩
    refine Moved.trans W.gtrans ((mv.mono fun b hb => List.mem_cons_of_mem _ hb).then_heap (Nat.le_succ _) fun b o hb e => ?_) mv2
    rw [sb.2 b fun q => hb (by rw [q]; exact List.mem_cons_self ..)]
    exact e
end
end My
namespace My
open PySem PySem.Spec PyProof.Rows PySem.Froz L2
section
variable {P : Program} {w : World} {A : Around} {E : Value → Shared → Prop} {s : Shared}
/-- an empty set, as it is laid -/
abbrev set0 (w : World) : Obj := { cls := .type "set", dict := none, data := .set #[] 0 (.fresh 0 0 (!w.params.followText "set-order")) }
theorem set0_ok {h : Heap} {a : Addr} (ho : h.get? a = some (set0 w)) : SX w h a [] := by
  refine ⟨(#[], 0, .fresh 0 0 (!w.params.followText "set-order")), [], ho, SOk.nil rfl List.Pairwise.nil ?_, List.nodup_nil, fun x => by simp, by decide⟩
  show _ ∨ (!w.params.followText "set-order") = true
  cases w.params.followText "set-order"
  · exact .inr rfl
  · exact .inl rfl
/-- set(text): what the update leaves -/
def Upd (w : World) (s s' : Shared) (cs : List Nat) : Prop :=
  ∃ h' tk, s' = { s with heap := h', toks := tk } ∧ SX w h' s.heap.objs.size cs ∧ ∀ b o, s.heap.get? b = some o → h'.get? b = some o
set_option maxHeartbeats 3200000 in
theorem init_text {cs : List Nat} {t : Tok} (hh : A.handled = none) (hb : cs.length + 1 < scanBound) :
    codeAny (model P w) A (.call (.builtin "set.__init__") ⟨[.ref s.heap.objs.size, .str (tx cs) t], []⟩) (wants (fun r s₂ => r = .none ∧ Upd w s s₂ cs) E) { s with heap := s.heap.push (set0 w) } := by
  have hS : (s.heap.push (set0 w)).get? s.heap.objs.size = some (set0 w) := Heap.get?_push_size _ rfl
  have hT : Shared.TypeIs { s with heap := s.heap.push (set0 w) } (.ref s.heap.objs.size) "set" := ⟨_, hS, rfl⟩
  refine codeAny_call_builtin F.called_set.init.plain F.entry_set_init (check_set_init_1 hT ?_)
  have hs1 := F.sub_str_set
  have hs2 := F.sub_str_frozenset
  have hne : (Value.type "str" == Value.type "dict") = false := by decide
  unfold Builtin.«set.__init__» noKeywords Builtin.Frozenset.updateFrom
  generalize hPI : pyIter = PI
  wp_walk
  subst hPI
  have fin : ∀ (ty : String) (A2 : Around) (R : Result → Shared → Prop), A2.in1.handled = none → (∀ A' : Around, A'.handled = none → Walks P w A' (s.heap.push (set0 w)).objs.size [(s.heap.push (set0 w)).objs.size] [(s.heap.push (set0 w)).objs.size] (tx cs).cps.size (SignAt (tx cs)) (fun i h => h.IsStrIter (s.heap.push (set0 w)).objs.size ty (tx cs) t i)) →
      (∀ s', Upd w s s' cs → R (.ok (.ret .none)) s') → codeAny (model P w) A2 (.builtin "set.update.loop" ⟨[.ref s.heap.objs.size, .ref (s.heap.push (set0 w)).objs.size], []⟩) R
        { s with heap := (s.heap.push (set0 w)).push { cls := .type ty, data := .fields #[.str (tx cs) t, .int 0 0] } } := by
    intro ty A2 R h2 W hR
    have hz : (s.heap.push (set0 w)).objs.size = s.heap.objs.size + 1 := Heap.size_push ..
    have hcs : (tx cs).cps.size = cs.length := by simp [tx]
    have W1 := (W A2.in1 h2).toS
    rw [hcs] at W1
    refine update_text W1 s.heap.objs.size (by rw [hz]; simp) hb cs.length 0 _ (by omega) ⟨_, Heap.get?_push_size _ rfl, rfl, rfl⟩ (set0_ok (Heap.get?_push_of_some _ hS)) fun s' mv hx => ?_
    obtain ⟨h', g2, d', tk', os'⟩ := s'
    have eg : g2 = s.gens := mv.gens
    have ed : d' = s.drawn := mv.drawn
    have eo : os' = s.os := mv.os
    subst eg ed eo
    refine hR _ ⟨h', tk', rfl, hx, fun b o e => ?_⟩
    have hlt := Heap.lt_size e
    refine mv.heap b o ?_ (Heap.get?_push_of_some _ (Heap.get?_push_of_some _ e))
    rw [hz]
    simp only [List.mem_cons, List.not_mem_nil, or_false, not_or]
    exact ⟨Nat.ne_of_lt hlt, Nat.ne_of_lt (Nat.lt_succ_of_lt hlt)⟩
  cases ha : (tx cs).cps.all (· < 128)
  · refine wpAny_pyIter_wide ha (wpAny_bind (wpAny_runValue (fin "str_iterator" _ _ (by simp [hh]) (fun A' h => Walks.strWide h _ _ _) fun s' hu => ?_)))
    exact wpAny_pure (wpAny_pure ⟨rfl, hu⟩)
  · refine wpAny_pyIter_ascii ha (wpAny_bind (wpAny_runValue (fin "str_ascii_iterator" _ _ (by simp [hh]) (fun A' h => Walks.strAscii h _ _ _) fun s' hu => ?_)))
    exact wpAny_pure (wpAny_pure ⟨rfl, hu⟩)
set_option maxHeartbeats 3200000 in
theorem call_set_text {cs : List Nat} {t : Tok} {Q : Value → Shared → Prop} (hh : A.handled = none) (hb : cs.length + 1 < scanBound) (q : ∀ s', Upd w s s' cs → Q (.ref s.heap.objs.size) s') :
    wpAny (model P w) A (call (.type "set") [.str (tx cs) t]) Q E s := by
  obtain ⟨c, tl, hmro⟩ := F.called_set.mro
  have hmade := F.called_set.made
  have hsub := F.called_set.sub
  have h1 := F.called_set.notType
  have h2 := F.called_set.canCreate
  have hct := F.typeCall_set_1 (.str (tx cs) t)
  refine wpAny_call (codeAny_of_tree ?_)
  show wpAny _ _ (callAny (.type "set") _) _ _ _
  refine wpAny_pure ⟨Code.quiet_builtin _ (by decide +kernel), codeAny_builtin F.entry_type_call ?_⟩
  rw [Around.under_plain (weight_type_call_type "set" [.str (tx cs) t] []) rfl]
  repeat (any_goals (first | assumption | wp_step))
  refine codeAny_mono (code_set_led1 (.str (tx cs) t) (E := E) (Q₁ := fun obj s₁ => obj = .ref s.heap.objs.size ∧ s₁ = { s with heap := s.heap.push (set0 w) }) ⟨rfl, rfl⟩) fun r s₁ hr => ?_
  match r, hr with
  | .error e, hr => exact hr
  | .ok (.ret obj), hr =>
    obtain ⟨rfl, rfl⟩ := hr
    have hT : Shared.TypeIs { s with heap := s.heap.push (set0 w) } (.ref s.heap.objs.size) "set" := ⟨_, Heap.get?_push_size _ rfl, rfl⟩
    have hli := F.called_set.init.lookup
    have hbi := F.called_set.init.bind (.ref s.heap.objs.size)
    repeat (any_goals (first | assumption | wp_step))
    refine codeAny_mono (init_text (E := E) (t := t) (by simp [hh]) hb) fun r₂ s₂ hr₂ => ?_
    match r₂, hr₂ with
    | .error e, hr₂ => exact hr₂
    | .ok (.ret r), hr₂ =>
      obtain ⟨rfl, hu⟩ := hr₂
      repeat (any_goals (first | assumption | wp_step))
      exact q _ hu
end
end My
namespace My
open PySem PySem.Spec PyProof.Rows PySem.Froz L2
theorem each_of_mem {α β : Type} {R : α → β → Prop} {f : α → β} : ∀ {l : List α}, (∀ a ∈ l, R a (f a)) → PySem.W.EachIs R l (l.map f)
  | [], _ => .nil
  | x :: l, h => .cons (h x List.mem_cons_self) (each_of_mem fun a ha => h a (List.mem_cons_of_mem _ ha))
theorem lex_single (a b : Nat) : (([a] : List Nat) ≤ [b]) ↔ a ≤ b := by
  rw [← List.not_lt, List.cons_lt_cons_iff]
  constructor
  · intro h
    have : ¬ b < a := fun z => h (.inl z)
    omega
  · rintro h (z | ⟨_, z⟩)
    · omega
    · exact absurd z (List.not_lt_nil _)
def hd0 (x : Str) : Nat := x.cps.toList.headD 0
theorem hd0_tx (c : Nat) : hd0 (tx [c]) = c := rfl
theorem strs_of : ∀ {vs : List Value} {ks : List Str}, PySem.W.EachIs (fun v k => ∃ u, v = Value.str k u) vs ks → StrsAre vs ks
  | _, _, .nil => .nil
  | _, _, .cons ⟨u, h⟩ t => by subst h; exact .cons _ u (strs_of t)
theorem signs_lt : ∀ (ks : List Str), (∀ k ∈ ks, ∃ c, k = tx [c]) → ks.Nodup → ks.Pairwise (fun a b => a.cps.toList ≤ b.cps.toList) → (ks.map hd0).Pairwise (· < ·)
  | [], _, _, _ => List.Pairwise.nil
  | k :: r, h, nd, p => by
    obtain ⟨n1, n2⟩ := List.nodup_cons.mp nd
    obtain ⟨p1, p2⟩ := List.pairwise_cons.mp p
    refine List.pairwise_cons.mpr ⟨fun y hy => ?_, signs_lt r (fun k hk => h k (List.mem_cons_of_mem _ hk)) n2 p2⟩
    obtain ⟨z, hz, rfl⟩ := List.mem_map.mp hy
    have q := p1 z hz
    obtain ⟨c, rfl⟩ := h k List.mem_cons_self
    obtain ⟨d, rfl⟩ := h z (List.mem_cons_of_mem _ hz)
    rw [tx_cps, tx_cps, lex_single] at q
    have : c ≠ d := fun e => n1 (e ▸ hz)
    rw [hd0_tx, hd0_tx]
    omega
def vstr (v : Value) : Str := match v with | .str x _ => x | _ => Str.empty
section
variable {P : Program} {w : World} {A : Around} {E : Value → Shared → Prop} {s : Shared} {a : Addr}
theorem sorted_setTx {cs : List Nat} {Q : Value → Shared → Prop} (R : SX w s.heap a cs) (hh : A.handled = none) (hu : A.units + 16 < cLine)
    (hQ : ∀ s' p (out : Array Value) (c : Nat) (ns : List Nat), (∀ b o, s.heap.get? b = some o → s'.heap.get? b = some o) → s'.gens = s.gens → s'.os = s.os → s.heap.objs.size ≤ p →
      s'.heap.get? p = some (seqObj "list" out c) → StrsAre out.toList (ns.map fun c => tx [c]) → ns.Pairwise (· < ·) → (∀ k, k ∈ ns ↔ k ∈ cs) → ns.length < scanBound → Q (.ref p) s') :
    wpAny (model P w) A (call (.builtin "sorted") [.ref a]) Q E s := by
  obtain ⟨⟨es, ep, t⟩, l, ho, F, nd, hm, hl⟩ := R
  refine Calls.call_function_entry kind_sorted plain_sorted entry_sorted (args_sorted1 _) ?_
  unfold Builtin.«sorted»
  refine wpAny_bind (m := checkCount "sorted" 1 1 _) (wpAny_pure ?_)
  refine wpAny_bind (collect_set (A := A.in1) hh ⟨_, ho, rfl, rfl⟩ F.fit (by rw [show es.size = l.length from F.size]; exact hl) F.ris F.led fun s1 vs k1 hz g1 o1 pm => ?_)
  have hg : ∀ v ∈ vs, ∃ x u, v = Value.str x u := fun v hv => by
    obtain ⟨e, he, q⟩ := List.mem_map.mp (pm.mem_iff.mp hv)
    obtain ⟨x, u, rfl⟩ := F.good e he
    exact ⟨x, u, q.symm⟩
  have pk : (vs.map vstr).Perm l := by
    have q := pm.map vstr
    rw [List.map_map] at q
    exact q.trans F.keys
  have hvl : vs.length = l.length := by
    have := pk.length_eq
    rwa [List.length_map] at this
  have hsl : l.length ≤ sizeLine := by
    rw [sizeLine_eq]
    have : scanBound = 4096 := by rfl
    omega
  refine wpAny_bind (wpAny_newList ?_ (by rw [hvl]; exact hsl))
  have hoL : (s1.heap.push (seqObj "list" vs.toArray 0)).get? s1.heap.objs.size = some (seqObj "list" vs.toArray 0) := Heap.get?_push_size _ rfl
  refine wpAny_bind (wpAny_holding (PySem.W.list_sort_data (enc := PyData.str) (bs := vs.map vstr) (R := fun v k => ∃ u, v = Value.str k u) hoL
    (each_of_mem fun v hv => by obtain ⟨x, u, rfl⟩ := hg v hv; exact ⟨u, rfl⟩)
    (each_of_mem fun v hv => by obtain ⟨x, u, rfl⟩ := hg v hv; exact ⟨[], .str x u, by simp⟩)
    (PySem.W.AllAlike.of fun b b' => by simp [PySem.W.alike]) (PySem.W.Sortable.others fun b => ⟨by simp, by simp⟩) (by rw [List.length_map, hvl]; exact hsl) (fun b _ => by simp [PyData.depth]; omega) fun out ho2 eo => ?_))
  have et := PySem.W.dataLe_str (fun k : Str => k)
  have eo2 : PySem.W.EachIs (fun v k => ∃ u, v = Value.str k u) out ((vs.map vstr).mergeSort fun a b => decide (a.cps.toList ≤ b.cps.toList)) := by rw [← et]; exact eo
  have pw : ((vs.map vstr).mergeSort fun a b => decide (a.cps.toList ≤ b.cps.toList)).Pairwise (fun a b => decide (a.cps.toList ≤ b.cps.toList) = true) :=
    List.pairwise_mergeSort (fun a b c h1 h2 => by
      simp only [decide_eq_true_eq] at h1 h2 ⊢
      exact List.le_trans h1 h2) (fun a b => by
      simp only [Bool.or_eq_true, decide_eq_true_eq]
      exact List.le_total _ _) _
  have pm2 : ((vs.map vstr).mergeSort fun a b => decide (a.cps.toList ≤ b.cps.toList)).Perm l := (List.mergeSort_perm _ _).trans pk
  generalize ((vs.map vstr).mergeSort fun a b => decide (a.cps.toList ≤ b.cps.toList)) = ks at eo2 pw pm2
  have each : ∀ k ∈ ks, ∃ c ∈ cs, k = tx [c] := fun k hk => (hm k).mp (pm2.mem_iff.mp hk)
  have pw2 : ks.Pairwise (fun a b => a.cps.toList ≤ b.cps.toList) := pw.imp fun h => by simpa using h
  have hlt := signs_lt ks (fun k hk => by obtain ⟨c, _, e⟩ := each k hk; exact ⟨c, e⟩) (pm2.nodup_iff.mpr nd) pw2
  have emap : (ks.map hd0).map (fun c => tx [c]) = ks := by
    rw [List.map_map]
    conv => rhs; rw [← List.map_id ks]
    refine List.map_congr_left fun k hk => ?_
    obtain ⟨c, _, rfl⟩ := each k hk
    rfl
  obtain ⟨c, hc⟩ := sortedHeap_at (vs := vs) (out := out.toArray) hoL
  refine wpAny_pure ⟨_, rfl, hQ _ s1.heap.objs.size out.toArray c (ks.map hd0) (fun b u e => ?_) g1 o1 hz hc ?_ hlt (fun k => ?_) ?_⟩
  · have q := k1 b u e
    have hlt := Heap.lt_size q
    show (sortedHeap (s1.heap.push (seqObj "list" vs.toArray 0)) s1.heap.objs.size vs out.toArray).get? b = some u
    rw [sortedHeap_old (Nat.ne_of_lt hlt) (by rw [size_push']; exact Nat.lt_succ_of_lt hlt)]
    exact Heap.get?_push_of_some _ q
  · rw [emap]
    exact strs_of eo2
  · constructor
    · intro h
      obtain ⟨x, hx, e⟩ := List.mem_map.mp h
      obtain ⟨d, hd, e2⟩ := each x hx
      rw [← e, e2]
      exact hd
    · intro h
      exact List.mem_map.mpr ⟨tx [k], pm2.mem_iff.mpr ((hm _).mpr ⟨k, h, rfl⟩), rfl⟩
  · rw [List.length_map, pm2.length_eq]
    exact hl
end
end My
namespace My
open PySem PySem.Spec PyProof.Rows PySem.Froz L2
/-- the set of the signs cs, at a -/
def SetTx (w : World) (a : Addr) (cs : List Nat) : HO := .ext fun h => SX w h a cs
section
variable {X : Cx}
theorem setTx_new {w : World} {P : Program} {H : Hp} {h : Heap} {a : Addr} {cs : List Nat} (R : SX w h a cs) : ObjOk P w H h a (SetTx w a cs) := by
  have ⟨_, _, ho, _⟩ := R
  exact ⟨R, ⟨_, ho⟩, fun h1 h2 p k => SX.at p k⟩
theorem setTx_get {pins : List (Addr × Obj)} {σ : L2.St} {H : Hp} {s : Shared} {a : Addr} {cs : List Nat} (I : Inv X pins σ H s) (ha : H a = some (SetTx X.w a cs)) : SX X.w s.heap a cs := (I.hok a _ ha).1
/-- set(text) -/
def rSetTx (w : World) : List V → Hp → VK → Prop := fun xs H Q => ∃ cs : List Nat, xs = [V.str (tx cs)] ∧ cs.length + 1 < scanBound ∧ ∀ p, H p = none → Q (.ref p) (upd H p (SetTx w p cs))
theorem cr_setTx (hc : X.calm = true) : CallR X (.type "set") (rSetTx X.w) := by
  intro pins s σ H xs us Q I r h
  obtain ⟨cs, rfl, hb, q⟩ := h
  cases r with
  | cons ry rt =>
    cases rt
    obtain ⟨tk, rfl⟩ := ry
    refine call_set_text (I.ok.hd hc) hb fun s' hu => ?_
    obtain ⟨h', tk', rfl, hx, hk⟩ := hu
    exact ⟨.ref _, upd H s.heap.objs.size (SetTx X.w s.heap.objs.size cs), I.laid (t' := tk') (fun b u e => hk b u e) (Nat.le_refl _) (setTx_new hx), rfl, q _ (I.hok.fresh (Nat.le_refl _))⟩
/-- sorted(set of signs) -/
def rSortedTx (w : World) : List V → Hp → VK → Prop := fun vs H Q => ∃ (a : Addr) (cs : List Nat), vs = [V.ref a] ∧ H a = some (SetTx w a cs) ∧
  ∀ (ns : List Nat) (p : Addr), ns.Pairwise (· < ·) → (∀ k, k ∈ ns ↔ k ∈ cs) → H p = none → Q (.ref p) (upd H p (.lst (ns.map fun c => V.str (tx [c]))))
theorem cr_sortedTx (hc : X.calm = true) (hu : X.A.units + 16 < cLine) : CallR X (.builtin "sorted") (rSortedTx X.w) := by
  intro pins s σ H vs us Q I r h
  obtain ⟨a, cs, rfl, ha, q⟩ := h
  have R := setTx_get I ha
  rw [Vals.ref1 r]
  refine sorted_setTx R (I.ok.hd hc) hu fun s' p out c ns k g o hp hg hi hs hm hl => ?_
  have hlen : (ns.map fun c => V.str (tx [c])).length ≤ sizeLine := by
    rw [List.length_map, sizeLine_eq]
    have : scanBound = 4096 := by rfl
    omega
  have hn : H p = none := I.hok.fresh hp
  have hv : Vals (ns.map fun c => V.str (tx [c])) out.toList := by
    have := vals_of_strs hi
    rwa [List.map_map] at this
  have J : Inv X pins σ (upd H p (.lst (ns.map fun c => V.str (tx [c])))) { s with heap := s'.heap, gens := s'.gens, drawn := s'.drawn, toks := s'.toks } :=
    I.call (ch := []) (Un.laid k hp hn) (I.hok.laid k hp ⟨hlen, out.toList, c, hv, hg⟩) (by rw [g]; exact I.bare) (fun _ z => nomatch z)
  have e : s' = { s with heap := s'.heap, gens := s'.gens, drawn := s'.drawn, toks := s'.toks } := by
    cases s'
    cases s
    cases o
    rfl
  rw [e]
  exact ⟨.ref p, _, J, rfl, q ns p hs hm hn⟩
end
end My
namespace My
open PySem PySem.Spec PyProof.Rows PySem.Froz L2
/-! ### operators of an own class -/
theorem back_of {P : Value → Shared → Prop} {z : V} {v : Value} {s' : Shared} (r : RelV z v) (h : P v s') : PySem.W.CmpBack P v s' := by
  cases z with
  | non => cases (show v = Value.none from r); exact h
  | bl b => cases (show v = Value.bool b from r); exact h
  | int i => obtain ⟨t, rfl⟩ := (show ∃ t, v = Value.int i t from r); exact h
  | str i => obtain ⟨t, rfl⟩ := (show ∃ t, v = Value.str i t from r); exact h
  | byt i => obtain ⟨t, rfl⟩ := (show ∃ t, v = Value.bytes i t from r); exact h
  | flt i => obtain ⟨t, rfl⟩ := (show ∃ t, v = Value.float i t from r); exact h
  | ref b => cases (show v = Value.ref b from r); exact h
  | ty b => cases (show v = Value.type b from r); exact h
section
variable {X : Cx} {CX : CXT} {k : Nat} {C f : Addr} {fd : FuncData} {ps : List Str} {sp : Sp} {E : XK}
/-- a op b, both of the class at C -/
def rOwn2 (C : Addr) (sp : Sp) (E : XK) : R2 := fun x y H Q => ∃ a dx fs b dy gs, x = .ref a ∧ y = .ref b ∧ H a = some (.ins C dx fs) ∧ H b = some (.ins C dy gs) ∧ sp [.ref a, .ref b] H Q E
theorem op_own {op : Operator} (F : FnOk X.prog X.w X.K X.mg X.base CX k f fd ps sp) (hr : Room k X.A) (hc : PySem.W.selfFirst X.K C = true) (hs : PySem.W.findIn X.K (.ref C) (PySem.dunder op.info.2) = some (some (.ref f)))
    (hf : PySem.W.isFn X.K (.ref f) = true) (hb : Binds X.K fd ps []) (hx : Passes CX X E) : OpR X (binaryOp op) (rOwn2 C sp E) := by
  intro pins s σ H x y v u Q I rx ry h
  obtain ⟨a, dx, fs, b, dy, gs, rfl, rfl, ha, hb', q⟩ := h
  cases rx
  cases ry
  obtain ⟨mA, J, _⟩ := ins_get I.hok ha
  obtain ⟨mB, J', _⟩ := ins_get I.hok hb'
  obtain ⟨od, J, _⟩ := J.look
  obtain ⟨od', J', _⟩ := J'.look
  obtain ⟨m, hF⟩ := I.fr
  refine PySem.W.binop_K hF I.ok.mod.kin J J'.type hc hs hf ?_
  refine thn (run_fn (us := [.ref a, .ref b]) (vs := [.ref a, .ref b]) F hr hb .nil hx I (.cons rfl (.cons rfl .nil)) q) fun v s' hq => ?_
  obtain ⟨z, H', I', rz, q2⟩ := hq
  exact back_of rz ⟨z, H', I', rz, q2⟩
/-- x in b, x not in b -/
def rOwnIn (C : Addr) (sp : Sp) (E : XK) (neg : Bool) : R2 := fun x y H Q => ∃ b dy gs, y = .ref b ∧ H b = some (.ins C dy gs) ∧ sp [.ref b, x] H (fun v H' => ∃ r, v = .bl r ∧ Q (.bl (xor neg r)) H') E
theorem op_ownIn (F : FnOk X.prog X.w X.K X.mg X.base CX k f fd ps sp) (hr : Room k X.A) (hs : PySem.W.findIn X.K (.ref C) "__contains__" = some (some (.ref f)))
    (hf : PySem.W.isFn X.K (.ref f) = true) (hb : Binds X.K fd ps []) (hx : Passes CX X E) : OpR X (compareOp .In) (rOwnIn C sp E false) := by
  intro pins s σ H x y v u Q I rx ry h
  obtain ⟨b, dy, gs, rfl, hb', q⟩ := h
  cases ry
  obtain ⟨mB, J', _⟩ := ins_get I.hok hb'
  obtain ⟨od', J', _⟩ := J'.look
  obtain ⟨m, hF⟩ := I.fr
  refine PySem.W.in_K hF I.ok.mod.kin J' hs hf ?_
  refine thn (run_fn (us := [.ref b, v]) (vs := [.ref b, x]) F hr hb .nil hx I (.cons rfl (.cons rx .nil)) q) fun v s' hq => ?_
  obtain ⟨z, H', I', rz, r, rfl, q2⟩ := hq
  cases rz
  exact wpAny_truthy_bool ⟨.bl _, H', I', rfl, by simpa using q2⟩
theorem op_ownNotIn (F : FnOk X.prog X.w X.K X.mg X.base CX k f fd ps sp) (hr : Room k X.A) (hs : PySem.W.findIn X.K (.ref C) "__contains__" = some (some (.ref f)))
    (hf : PySem.W.isFn X.K (.ref f) = true) (hb : Binds X.K fd ps []) (hx : Passes CX X E) : OpR X (compareOp .NotIn) (rOwnIn C sp E true) := by
  intro pins s σ H x y v u Q I rx ry h
  obtain ⟨b, dy, gs, rfl, hb', q⟩ := h
  cases ry
  obtain ⟨mB, J', _⟩ := ins_get I.hok hb'
  obtain ⟨od', J', _⟩ := J'.look
  obtain ⟨m, hF⟩ := I.fr
  refine PySem.W.notIn_K hF I.ok.mod.kin J' hs hf ?_
  refine thn (run_fn (us := [.ref b, v]) (vs := [.ref b, x]) F hr hb .nil hx I (.cons rfl (.cons rx .nil)) q) fun v s' hq => ?_
  obtain ⟨z, H', I', rz, r, rfl, q2⟩ := hq
  cases rz
  exact wpAny_truthy_bool ⟨.bl _, H', I', rfl, by simpa using q2⟩
/-- ~a -/
def rOwn1 (C : Addr) (sp : Sp) (E : XK) : V → Hp → VK → Prop := fun x H Q => ∃ a dx fs, x = .ref a ∧ H a = some (.ins C dx fs) ∧ sp [.ref a] H Q E
theorem un_ownInv (F : FnOk X.prog X.w X.K X.mg X.base CX k f fd ps sp) (hr : Room k X.A) (hs : PySem.W.findIn X.K (.ref C) "__invert__" = some (some (.ref f)))
    (hf : PySem.W.isFn X.K (.ref f) = true) (hb : Binds X.K fd ps []) (hx : Passes CX X E) : UnR X (unaryOp .Invert) (rOwn1 C sp E) := by
  intro pins s σ H x v Q I rx h
  obtain ⟨b, dy, gs, rfl, hb', q⟩ := h
  cases rx
  obtain ⟨mB, J', _⟩ := ins_get I.hok hb'
  obtain ⟨od', J', _⟩ := J'.look
  obtain ⟨m, hF⟩ := I.fr
  refine PySem.W.ksp_inv hF I.ok.mod.kin J' hs hf ?_
  exact run_fn (us := [.ref b]) (vs := [.ref b]) F hr hb .nil hx I (.cons rfl .nil) q
end
end My
namespace My
open PySem PySem.Spec PyProof.Rows PySem.Froz L2
section
variable {X : Cx} {CX : CXT} {k : Nat} {C f : Addr} {fd : FuncData} {ps : List Str} {sp : Sp} {E : XK}
/-- len(a) by an own def -/
def rOwnLen (C : Addr) (sp : Sp) (E : XK) : List V → Hp → VK → Prop := fun xs H Q => ∃ a dx fs, xs = [.ref a] ∧ H a = some (.ins C dx fs) ∧ sp [.ref a] H (fun v H' => ∃ n : Int, v = .int n ∧ 0 ≤ n ∧ n < 2 ^ 63 ∧ Q (.int n) H') E
theorem call_ownLen (F : FnOk X.prog X.w X.K X.mg X.base CX k f fd ps sp) (hr : Room (k + 1) X.A) (hs : PySem.W.findIn X.K (.ref C) "__len__" = some (some (.ref f)))
    (hf : PySem.W.isFn X.K (.ref f) = true) (hb : Binds X.K fd ps []) (hx : Passes CX X E) : CallR X (.builtin "len") (rOwnLen C sp E) := by
  intro pins s σ H xs us Q I r h
  obtain ⟨a, dx, fs, rfl, ha, q⟩ := h
  rw [Vals.ref1 r]
  obtain ⟨mA, J, _⟩ := ins_get I.hok ha
  obtain ⟨od, J, _⟩ := J.look
  obtain ⟨m, hF⟩ := I.fr
  have hl := F.len _ _ _ _ q
  refine PySem.W.len_K hF I.ok.mod.kin J hs hf (wpAny_call (codeAny_mono (F.run X.A.in1 X.stack s H ⟨[.ref a], []⟩ [.ref a] [.ref a] _ E hr.in1 I.env0.in1 (hb s [.ref a] I.kIn (by simpa using hl)) (.cons rfl .nil) q) fun r s' hq => ?_))
  cases r with
  | error e => exact hx pins σ H s e s' I hq
  | ok fl =>
    cases fl with
    | ret u =>
      obtain ⟨v, H', I3, rv, n, rfl, h0, h1, q3⟩ := I.after hq
      obtain ⟨t, rfl⟩ := rv
      exact ⟨⟨h0, h1⟩, .int n, H', I3.tok _, ⟨_, rfl⟩, q3⟩
    | next => exact False.elim hq
    | brk => exact False.elim hq
    | cont => exact False.elim hq
/-- a == y by an own def: y an instance of the class, a text, a list -/
def rOwnEq (C : Addr) (sp : Sp) (E : XK) : R2 := fun x y H Q => ∃ a dx fs, x = .ref a ∧ H a = some (.ins C dx fs) ∧ ((∃ b dy gs, y = .ref b ∧ H b = some (.ins C dy gs)) ∨ (∃ z, y = .str z) ∨ (∃ b zs, y = .ref b ∧ H b = some (.lst zs))) ∧ sp [.ref a, y] H Q E
theorem op_ownEq (F : FnOk X.prog X.w X.K X.mg X.base CX k f fd ps sp) (hr : Room k X.A) (hs : PySem.W.findIn X.K (.ref C) "__eq__" = some (some (.ref f)))
    (hf : PySem.W.isFn X.K (.ref f) = true) (h1 : PySem.W.notFirst X.K C (.type "str") = true) (h2 : PySem.W.notFirst X.K C (.type "list") = true) (hb : Binds X.K fd ps []) (hx : Passes CX X E) : OpR X (compareOp .Eq) (rOwnEq C sp E) := by
  intro pins s σ H x y v u Q I rx ry h
  obtain ⟨a, dx, fs, rfl, ha, hy, q⟩ := h
  cases rx
  obtain ⟨mA, J, _⟩ := ins_get I.hok ha
  obtain ⟨od, J, _⟩ := J.look
  obtain ⟨m, hF⟩ := I.fr
  have go : wpAny (model X.prog X.w) X.A (call (.ref f) [.ref a, u]) (PySem.W.CmpBack (EP X pins σ Q)) X.xe s := by
    refine thn (run_fn (us := [.ref a, u]) (vs := [.ref a, y]) F hr hb .nil hx I (.cons rfl (.cons ry .nil)) q) fun v s' hq => ?_
    obtain ⟨z, H', I', rz, q2⟩ := hq
    exact back_of rz ⟨z, H', I', rz, q2⟩
  show wpAny (model X.prog X.w) X.A (richCompare .Eq (.ref a) u) (EP X pins σ Q) X.xe s
  have hu : X.A.units < cLine := hr.units0
  rcases hy with ⟨b, dy, gs, rfl, hb'⟩ | ⟨z, rfl⟩ | ⟨b, zs, rfl, hb'⟩
  · cases ry
    obtain ⟨mB, J', _⟩ := ins_get I.hok hb'
    obtain ⟨od', J', _⟩ := J'.look
    exact PySem.W.cmp_K (op := .Eq) (tb := .ref C) hu hF I.ok.mod.kin J J'.type (by simp [PySem.W.notFirst]) hs hf go
  · obtain ⟨t, rfl⟩ := ry
    exact PySem.W.cmp_K (op := .Eq) (tb := .type "str") hu hF I.ok.mod.kin J (PySem.W.Looks.of_pure rfl) h1 hs hf go
  · cases ry
    obtain ⟨_, its, n, _, e⟩ := (show ObjOk X.prog X.w H s.heap b (.lst zs) from I.hok b _ hb')
    exact PySem.W.cmp_K (op := .Eq) (tb := .type "list") hu hF I.ok.mod.kin J ((PySem.W.Looks.ld e).andThen .now) h2 hs hf go
end
end My
namespace My
open PySem PySem.Spec PyProof.Rows PySem.Froz L2
/-! ### a def run at one state alone -/
theorem run_at {CX : CXT} {P : Program} {w : World} {K : PySem.W.Frag} {mg : Str → Option Value} {base : Heap} {k : Nat} {f : Addr} {x qual : Str} {st : Stmt} {fd : FuncData} {N ps : List Str}
    (D : Fun K x qual st f fd) (sc : FnScope N ps (defScope st)) {A : Around} {outer : List Env} {s : Shared} {H : Hp} {args : Args} {us : List Value} {vs : List V} {Q : VK} {E : XK}
    (room : Room (k + 1) A) (env : Env0 P w K mg base A outer s H) (bd : BindsTo s fd args (ps.zip us)) (rel : Vals vs us) (len : vs.length = ps.length)
    (body : ∀ cdv : Value, Room k (A.deeper (envOfC qual (defScope st) s.heap.objs.size f cdv)) → ∃ t, PSs (cxOf CX P w K mg base N qual (defScope st) f cdv A outer s H E) (defBody st) t ∧ t { nx := fun _ H' => Q .non H', rt := Q } (start N vs) H) :
    codeAny (model P w) A (.call (.ref f) args) (CR CX outer P w H s Q E) s := by
  obtain ⟨oc, od, kV, doc, pm, an, cdv, ct, osl, rfl, rec, cod⟩ := D.ex
  have inK : K.In s.heap := env.mod.kin.keeps fun b u e => (env.bs b u e).1
  have noLim : s.heap.NoLimit := env.mod.nolimit.keeps fun b u e => (env.bs b u e).1
  refine codeAny_call_function room.depth (inK _ _ rec) rfl sc.co sc.gen rfl (PySem.W.codeRec_of inK cod) (bd _ _ _ _ ?_)
  refine wpAny_newFunctionEnv_cells sc.kind (fun y hy => (sc.par y.1 (List.of_mem_zip (a := y.1) (b := y.2) hy).1).elim Or.inl fun q => Or.inr ⟨q, PySem.W.cellsFrom_some _ _ _ (.inl q)⟩) fun env1 he s1 new => ?_
  subst he
  refine ⟨noLim.keeps new.toInCall.keep, codeAny_func ?_⟩
  obtain ⟨t, term, read⟩ := body cdv (room.deeper _)
  have I : L2.Inv (cxOf CX P w K mg base N qual (defScope st) f cdv A outer s H E) [] (start N vs) H s1 := inv_start sc room.hd env len rel new
  refine wpAny_mono (term.run [] s1 (start N vs) H _ I read) (fun fl s' out => ?_) fun _ _ z => z
  match fl, out with
  | .ret u, ⟨v, σ', H', J, rv, q⟩ => exact ⟨v, H', J.os, J.bare, J.base, J.hok, rv, q⟩
  | .next, ⟨σ', H', J, q⟩ => exact ⟨V.non, H', J.os, J.bare, J.base, J.hok, rfl, q⟩
  | .brk, ⟨_, _, _, q⟩ => exact q.elim
  | .cont, ⟨_, _, _, q⟩ => exact q.elim
end My
namespace My
open PySem PySem.Spec PyProof.Rows PySem.Froz L2
/-- an iterator over a text, at its start -/
def StrIt (it : Addr) (x : Str) : HO := .ext fun h => ∃ (ty : String) (t : Tok), (ty = "str_ascii_iterator" ∨ ty = "str_iterator") ∧ h.IsStrIter it ty x t 0
theorem strIt_new {P : Program} {w : World} {H : Hp} {h : Heap} {it : Addr} {x : Str} {ty : String} {t : Tok} (hty : ty = "str_ascii_iterator" ∨ ty = "str_iterator") (st : h.IsStrIter it ty x t 0) : ObjOk P w H h it (StrIt it x) := by
  have ⟨o, ho, _⟩ := st
  refine ⟨⟨ty, t, hty, st⟩, ⟨o, ho⟩, fun h1 h2 ⟨ty', t', e, o', ho', r⟩ k => ⟨ty', t', e, o', k _ ho', r⟩⟩
/-! ### iter(text) -/
def rIterS (n : Nat) : List V → Hp → VK → Prop := fun xs H Q => ∃ x : Str, xs = [.str x] ∧ ∀ it, H it = none → n ≤ it → Q (.ref it) (upd H it (StrIt it x))
theorem call_iterS {X : Cx} : CallR X (.builtin "iter") (rIterS X.s_0.heap.objs.size) := by
  intro pins s σ H xs us Q I r h
  obtain ⟨x, rfl, q⟩ := h
  cases r with
  | cons ry rt =>
    cases rt
    obtain ⟨t, rfl⟩ := ry
    have fin : ∀ (ty : String), (ty = "str_ascii_iterator" ∨ ty = "str_iterator") → EP X pins σ Q (.ref s.heap.objs.size) { s with heap := s.heap.push { cls := .type ty, data := .fields #[.str x t, .int 0 0] } } := fun ty hty =>
      ⟨.ref _, _, I.laid (t' := s.toks) (fun b u e => Heap.get?_push_of_some _ e) (Nat.le_refl _) (strIt_new (x := x) (t := t) hty ⟨_, Heap.get?_push_size _ rfl, rfl, rfl⟩), rfl, q _ (I.hok.fresh (Nat.le_refl _)) I.sz⟩
    refine Calls.call_function_entry (by decide +kernel) (by decide +kernel) PySem.W.kdk_entry_iter (PySem.W.kdk_args_iter (.str x t)) ?_
    unfold Builtin.«iter»
    refine wpAny_bind (m := someArgs "iter" 1 2 _) (wpAny_of_eq (a := [Value.str x t]) (by first | rfl | kernel_rfl!) ?_)
    show wpAny _ _ (pyIter (.str x t) >>= _) _ _ s
    cases ha : x.cps.all (· < 128)
    · exact wpAny_bind (wpAny_pyIter_wide ha (wpAny_pure ⟨_, rfl, fin _ (.inr rfl)⟩))
    · exact wpAny_bind (wpAny_pyIter_ascii ha (wpAny_pure ⟨_, rfl, fin _ (.inl rfl)⟩))
/-! ### for over an own class whose __iter__ gives an iterator over a text -/
/-- what the def at f does at one entry: a new iterator over the text of the instance, everything else kept -/
def IterOk (P : Program) (w : World) (K : PySem.W.Frag) (mg : Str → Option Value) (base : Heap) (k : Nat) (C f : Addr) (S : Hp → Addr → Str → Prop) : Prop :=
  ∀ (A : Around) (outer : List Env) (s : Shared) (H : Hp) (a : Addr) (x : Str), Room k A → Env0 P w K mg base A outer s H → S H a x →
    codeAny (model P w) A (.call (.ref f) ⟨[.ref a], []⟩) (CR CX0 outer P w H s (fun v H' => ∃ it, v = .ref it ∧ H it = none ∧ s.heap.objs.size ≤ it ∧ H' = upd H it (StrIt it x)) E0) s
def iOwn (C : Addr) (S : Hp → Addr → Str → Prop) (te : TE) : TI := fun σ H R => te σ H fun v H1 => ∃ a dx fs x, v = .ref a ∧ H1 a = some (.ins C dx fs) ∧ S H1 a x ∧ R (Its x) H1
theorem pi_own {X : Cx} {k : Nat} {C f : Addr} {S : Hp → Addr → Str → Prop} {tg e : Expr} {te : TE} (he : PE X e te) (hit : IterOk X.prog X.w X.K X.mg X.base k C f S) (hr : Room k X.A) (hs : PySem.W.findIn X.K (.ref C) "__iter__" = some (some (.ref f)))
    (hf : PySem.W.isFn X.K (.ref f) = true) (hx : Passes CX0 X E0) : PI X tg e (iOwn C S te) := by
  refine ⟨fun pins s σ H R I h => ?_⟩
  refine thn (he.run pins s σ H _ I h) fun v s1 ⟨y, H1, I1, r1, a, dx, fs, x, ey, ha, hS, q⟩ => ?_
  subst ey
  cases r1
  obtain ⟨mA, J, _⟩ := ins_get I1.hok ha
  obtain ⟨od, J, _⟩ := J.look
  obtain ⟨m, hF⟩ := I1.fr
  refine PySem.W.owit_iter hF I1.ok.mod.kin J hs hf (wpAny_call (codeAny_mono (hit X.A X.stack s1 H1 a x hr I1.env0 hS) fun r s' hq => ?_))
  cases r with
  | error er => exact hx pins σ H1 s1 er s' I1 hq
  | ok fl =>
    cases fl with
    | ret u =>
      obtain ⟨v, H', I3, rv, it, rfl, hn, hsz, rfl⟩ := I1.after hq
      cases rv
      obtain ⟨⟨ty, t, hty, st⟩, _⟩ := I3.hok it _ upd_same
      have I4 := ItX.inv_drop I3 (a := it) upd_same
      have fp := ItX.inv_fp I3 (a := it) upd_same (Nat.le_trans I1.sz hsz)
      rw [ItX.dropH_upd hn] at I4 fp
      have pie : PIE X pins σ tg R (.ref it) s' := ⟨it, [it], _, _, H1, rfl, I4, turn_str it x t ty hty, st, fun b hb => by rw [List.mem_singleton.mp hb]; exact fp, q⟩
      have hT : s'.TypeIs (.ref it) ty := by
        obtain ⟨o, ho, c, _⟩ := st
        exact ⟨o, ho, c⟩
      unfold PySem.W.OwitIt
      rcases hty with rfl | rfl
      · exact wpAny_specialOf (name := Str.ofString "__next__") hT PySem.F.slot_str_ascii_iterator_next.lookup pie
      · exact wpAny_specialOf (name := Str.ofString "__next__") hT PySem.F.slot_str_iterator_next.lookup pie
    | next => exact False.elim hq
    | brk => exact False.elim hq
    | cont => exact False.elim hq
end My
namespace My
open PySem PySem.Spec PyProof.Rows PySem.Froz L2
/-! ### C.m(..), m a staticmethod of the class at C -/
structure SMet (K : PySem.W.Frag) (C : Addr) (mc : Value) (m : Str) (p g : Addr) : Prop where
  at_ : PySem.W.findCls K (.ref C) mc m = some (.get (.builtin "staticmethod.__get__") (.ref p) .none (.ref C))
  rc : ∃ rest, PySem.W.recIn K p "staticmethod" = some (.ref g :: rest)
  kp : PySem.W.keepIn K (.ref g) = true
  hd : PySem.W.handedIn (.ref g) = true
def tSMeth (C : Addr) (sp : Sp) (E : XK) (ta : TE) (t : TA) : TE := fun σ H Q => ta σ H fun x H1 => x = .ref C ∧ t σ H1 fun vs H2 => sp vs H2 Q E
section
variable {X : Cx} {CX : CXT} {k : Nat} {C p g : Addr} {mc : Value} {fd : FuncData} {ps : List Str} {sp : Sp} {E : XK} {o e : Expr} {es : List Expr} {m : Str} {pos apos : Pos} {ta : TE} {t : TA} {pl : Sem Bool}
theorem pe_smeth (he : PE X o ta) (r : ClX.CRead X.K C mc) (c : SMet X.K C mc m p g) (F : FnOk X.prog X.w X.K X.mg X.base CX k g fd ps sp) (hr : Room k X.A) (hb : Binds X.K fd ps []) (hx : Passes CX X E) (ha : PA X (e :: es) t)
    (hst : starEach (e :: es) X.env = (false, eval e X.env) :: starEach es X.env := by rfl) (hpl : (backTo pos (starEach es X.env)).any (·.1) = false := by rfl)
    (ht : eval (.Call (.Attribute o m apos) (e :: es) [] pos) X.env = (do
      let ov ← eval o X.env
      standAt apos.atName
      let (f, first) ← holding [ov] (getMethod ov m pl)
      callWith pos f first (backTo pos (starEach (e :: es) X.env)) (backToKw pos (keywordEach [] X.env))) := by rfl) :
    PE X (.Call (.Attribute o m apos) (e :: es) [] pos) (tSMeth C sp E ta t) := by
  constructor
  intro pins s σ H Q I h
  refine PySem.W.methodCall_KW (pl := pl) (thn (he.run pins s σ H _ I h) fun u s1 ⟨x, H1, I1, rx, ex, q⟩ => ?_) ht
  subst ex
  cases (show u = Value.ref C from rx)
  obtain ⟨rest, hp⟩ := c.rc
  have I2 : Inv X pins σ H1 { s1 with toks := s1.toks + 1 } := I1.tok _
  refine PySem.W.method_cls I1.kIn r.ga (PySem.W.cls_bind I1.kIn r.rd c.at_ (wpAny_call (PySem.W.sm_get (s := { s1 with toks := s1.toks + 1 }) I1.kIn hp (PySem.W.handed_on c.hd ?_))))
  refine PySem.W.callWith_K (h₀ := X.base) I2.ok.mod.kin c.kp (thn (ha.run pos pins _ σ H1 _ I2 q) fun us s2 ⟨vs, H2, I3, rv, q2⟩ => ⟨I3.kIn, ?_⟩) hst hpl
  exact run_fn F hr hb .nil hx I3 rv (by rw [List.append_nil]; exact q2)
end
end My
namespace My
open PySem PySem.Spec PyProof.Rows PySem.Froz L2
/-! ### list(a), a an instance with __len__ and with an __iter__ that gives an iterator over a text -/
def signV (x : Str) : List V := x.cps.toList.map fun c => V.str ⟨#[c]⟩
theorem line20' {n : Nat} (h : n ≤ 20000) : n ≤ sizeLine := Nat.le_trans h (by decide)
theorem signV_at {x : Str} {i : Nat} {c : Nat} (h : x.cps[i]? = some c) : (signV x).take (i + 1) = (signV x).take i ++ [V.str ⟨#[c]⟩] := by
  have e : (signV x)[i]? = some (V.str ⟨#[c]⟩) := by
    unfold signV
    rw [List.getElem?_map, Array.getElem?_toList, h]
    rfl
  rw [List.take_add_one, e]
  rfl
section
variable {X : Cx} {pins : List (Addr × Obj)} {σ : L2.St} {s : Shared} {q it : Addr} {x : Str} {ty : String} {t : Tok} {A1 : Around} {Rs : Result → Shared → Prop}
theorem sgs_loop (hty : ty = "str_ascii_iterator" ∨ ty = "str_iterator") (hh : A1.in1.handled = none) (hx : x.length ≤ 1000)
    (H0 : Hp) (hne : q ≠ it) (hH0 : H0 it = none)
    (hfin : ∀ s, L2.Inv X pins σ (upd H0 q (.lst (signV x))) s → Rs (.ok (.ret .none)) s) :
    ∀ (k i : Nat) (s : Shared), x.cps.size - i = k → i ≤ x.cps.size → L2.Inv X pins σ (upd H0 q (.lst ((signV x).take i))) s → FpOk X pins (upd H0 q (.lst ((signV x).take i))) it → s.heap.IsStrIter it ty x t i →
      codeAny (model X.prog X.w) A1 (.builtin "list.extend.loop" ⟨[.ref q, .ref it, .none], []⟩) Rs s := by
  have W : Walks X.prog X.w A1.in1 it [it] [it] x.cps.size (SignAt x) (fun i h => h.IsStrIter it ty x t i) := by
    rcases hty with e | e
    · rw [e]; exact Walks.strAscii hh it x t
    · rw [e]; exact Walks.strWide hh it x t
  intro k
  induction k with
  | zero =>
    intro i s hk hi I fp st
    have ei : i = x.cps.size := by omega
    subst ei
    refine codeAny_builtin PySem.F.entry_extend_loop ?_
    rw [Around.under_plainId PySem.F.plain_extend_loop _]
    show wpAny _ A1.in1 (pyNext (.ref it) >>= _) _ _ s
    refine wpAny_bind (W.done s _ _ st fun h' tk kk => wpAny_pure (hfin _ ?_))
    have e : (signV x).take x.cps.size = signV x := by
      rw [List.take_of_length_le]
      unfold signV
      simp
    rw [e] at I fp
    obtain ⟨f0, f1, f2, f3, f4, f5⟩ := fp
    exact I.turned (fun b o hb e => kk b o (by simpa using hb) e) f0 f1 f3 f4 f5
  | succ k ih =>
    intro i s hk hi I fp st
    have hlt : i < x.cps.size := by omega
    refine codeAny_builtin PySem.F.entry_extend_loop ?_
    rw [Around.under_plainId PySem.F.plain_extend_loop _]
    show wpAny _ A1.in1 (pyNext (.ref it) >>= _) _ _ s
    refine wpAny_bind (W.item i s _ _ hlt st fun v h' tk hv st' kk => ?_)
    obtain ⟨c, u, hc, rfl⟩ := hv
    obtain ⟨f0, f1, f2, f3, f4, f5⟩ := fp
    have I1 : L2.Inv X pins σ (upd H0 q (.lst ((signV x).take i))) { s with heap := h', toks := tk } := I.turned (fun b o hb e => kk b o (by simpa using hb) e) f0 f1 f3 f4 f5
    obtain ⟨z, its, k2, r2, hl, e⟩ := I1.lstM upd_same
    have lz : ((signV x).take i).length ≤ 1000 := by
      rw [List.length_take]
      unfold signV
      rw [List.length_map]
      have : x.cps.toList.length = x.length := by simp [Str.length]
      omega
    have hs : (1000 : Nat) + 1 ≤ sizeLine := line20' (by decide)
    show wpAny _ A1.in1 (updateSeq q (·.push (.str ⟨#[c]⟩ u)) >>= _) _ _ _
    refine wpAny_bind (wpAny_updateSeq e rfl (wpAny_pure ⟨plainId_quiet PySem.F.plain_extend_loop _, ?_⟩) (by rw [List.size_toArray]; omega) (by show (its.toArray.push (.str ⟨#[c]⟩ u)).size ≤ sizeLine + 1; rw [Array.size_push, List.size_toArray]; omega))
    have I2 := I1.lset (its' := its ++ [.str ⟨#[c]⟩ u]) (f := (·.push (.str ⟨#[c]⟩ u))) (t' := tk) upd_same e (by simp) (r2.append (.cons (show RelV (V.str ⟨#[c]⟩) (.str ⟨#[c]⟩ u) from ⟨u, rfl⟩) .nil)) (by rw [List.length_append, List.length_singleton]; omega)
    rw [L2.upd_upd, ← signV_at hc] at I2
    refine ih (i + 1) _ (by omega) (by omega) I2 ⟨?_, f1, f2, f3, f4, f5⟩ ?_
    · rw [upd_ne hne.symm]; exact hH0
    · obtain ⟨o, ho, r⟩ := st'
      exact ⟨o, (Heap.get?_update_other _ _ hne).trans ho, r⟩
end
section
variable {X : Cx} {pins : List (Addr × Obj)} {σ : L2.St} {H : Hp} {s : Shared} {a : Addr} {x : Str} {A : Around} {kL : Nat} {C fL : Addr} {fdL : FuncData} {psL : List Str} {spL : Sp}
/-- the hint of an instance with an own __len__ -/
theorem sgs_hint (sb : Sub X kL A.in1) (FL : FnOk X.prog X.w X.K X.mg X.base CX0 kL fL fdL psL spL) (hsL : PySem.W.findIn X.K (.ref C) "__len__" = some (some (.ref fL))) (hfL : PySem.W.isFn X.K (.ref fL) = true) (bL : Binds X.K fdL psL []) (hx : Passes CX0 X E0)
    (I : L2.Inv X pins σ H s) {dx : Addr} {fs : List (Str × V)} (ha : H a = some (.ins C dx fs)) (hl : x.length ≤ 1000) (hsp : spL [.ref a] H (fun v H' => v = .int (x.length : Nat) ∧ H' = H) E0) {Q : Bool → Shared → Prop} {E : Value → Shared → Prop}
    (hQ : ∀ b s', L2.Inv X pins σ H s' → Q b s') : wpAny (model X.prog X.w) A (Builtin.List.listLengthHint (.ref a)) Q E s := by
  obtain ⟨mA, J, _⟩ := ins_get I.hok ha
  obtain ⟨od, J, _⟩ := J.look
  obtain ⟨m, hF⟩ := I.fr
  unfold Builtin.List.listLengthHint
  refine wpAny_bind (wpAny_bind (J.type.here ((PySem.W.looks_findIn I.kIn hsL).here ?_)))
  refine PySem.W.KFB.if_not rfl ?_
  refine PySem.W.KFB.if_so rfl ?_
  refine wpAny_bind (wpAny_rule ?_)
  have len := FL.len _ _ _ _ hsp
  have e0 : Env0 X.prog X.w X.K X.mg X.base A.in1 X.stack s H := by
    have e := I.env0
    exact ⟨by rw [sb.fr]; exact e.frames, e.mod, e.bs, e.bsz, e.funs, e.frf, e.hok, e.bare⟩
  refine wpAny_bind (wpAny_attempt (PySem.W.len_K hF I.ok.mod.kin J hsL hfL (wpAny_call (codeAny_mono (FL.run A.in1 X.stack s H ⟨[.ref a], []⟩ [.ref a] [.ref a] _ E0 sb.room e0 (bL s [.ref a] I.kIn (by simpa using len)) (.cons rfl .nil) hsp) fun r s' hq => ?_))))
  cases r with
  | error e => exact hq.elim
  | ok fl =>
    cases fl with
    | ret u =>
      obtain ⟨v, H', I3, rv, ev, eH⟩ := I.after hq
      subst ev eH
      obtain ⟨t, rfl⟩ := rv
      refine ⟨⟨by omega, by omega⟩, ?_⟩
      refine wpAny_bind (wpAny_pure ?_)
      have hz : (((x.length : Nat) : Int).toNat) ≤ sizeLine := line20' (by omega)
      refine PySem.W.KFB.if_not (notLongL hz) (wpAny_pure (hQ _ _ (I3.tok _)))
    | next => exact False.elim hq
    | brk => exact False.elim hq
    | cont => exact False.elim hq
theorem upd_self {H : Hp} {q : Addr} {o : HO} (h : H q = some o) : upd H q o = H := by
  funext b
  by_cases hb : b = q
  · rw [hb, upd_same, h]
  · rw [upd_ne hb]
theorem sgs_extend {n kI : Nat} {fI q dx : Addr} {fs : List (Str × V)} {S : Hp → Addr → Str → Prop} {A1 : Around} {Rs : Result → Shared → Prop} (hc : X.calm = true) (hA : A1.in1.handled = none) (sb : L2.Sub X n A1.in1) (nI : kI ≤ n) (nL : kL + 1 ≤ n) (hit : IterOk X.prog X.w X.K X.mg X.base kI C fI S)
    (hsI : PySem.W.findIn X.K (.ref C) "__iter__" = some (some (.ref fI))) (hfI : PySem.W.isFn X.K (.ref fI) = true)
    (FL : FnOk X.prog X.w X.K X.mg X.base CX0 kL fL fdL psL spL) (hsL : PySem.W.findIn X.K (.ref C) "__len__" = some (some (.ref fL))) (hfL : PySem.W.isFn X.K (.ref fL) = true) (bL : Binds X.K fdL psL []) (hx : Passes CX0 X E0)
    (I : L2.Inv X pins σ H s) (ha : H a = some (.ins C dx fs)) (hq : H q = some (.lst [])) (hS : S H a x) (hl : x.length ≤ 1000) (hsp : ∀ H', Same H H' → spL [.ref a] H' (fun v H2 => v = .int (x.length : Nat) ∧ H2 = H') E0)
    (hfin : ∀ s, L2.Inv X pins σ (upd H q (.lst (signV x))) s → Rs (.ok (.ret .none)) s) (herr : ∀ e s, X.xe e s → Rs (.error e) s) :
    wpAny (model X.prog X.w) A1.in1 (Builtin.List.listExtendWith (.ref q) (.ref a) .none)
      (fun fin s' => match fin with | .done f => Rs (.ok f) s' | .again c' => c'.quiet = true ∧ codeAny (model X.prog X.w) A1 c' Rs s') (fun e s' => Rs (.error e) s') s := by
  have hne : q ≠ a := ne_of hq ha (fun z => nomatch z)
  obtain ⟨mA, J, _⟩ := ins_get I.hok ha
  obtain ⟨od, J, _⟩ := J.look
  obtain ⟨m0, hF⟩ := I.fr
  unfold Builtin.List.listExtendWith
  refine wpAny_bind (J.type.here ?_)
  have h1 : Builtin.List.listSameRef (.ref q) (.ref a) = false := by simp [Builtin.List.listSameRef, hne]
  have h2 : (Value.ref C == Value.type "list") = false := rfl
  have h3 : (Value.ref C == Value.type "tuple") = false := rfl
  simp only [h1, h2, h3, Bool.or_false, Bool.false_eq_true, if_false]
  have e0 : Env0 X.prog X.w X.K X.mg X.base A1.in1 X.stack s H := by
    have e := I.env0
    exact ⟨by rw [sb.fr]; exact e.frames, e.mod, e.bs, e.bsz, e.funs, e.frf, e.hok, e.bare⟩
  refine wpAny_bind (PySem.W.owit_iter hF I.ok.mod.kin J hsI hfI (wpAny_call (codeAny_mono (hit A1.in1 X.stack s H a x (sb.mono nI).room e0 hS) fun r s' hq' => ?_)))
  cases r with
  | error er => exact hq'.elim
  | ok fl =>
    cases fl with
    | next => exact False.elim hq'
    | brk => exact False.elim hq'
    | cont => exact False.elim hq'
    | ret u =>
      obtain ⟨v, H', I3, rv, it, rfl, hn, hsz, rfl⟩ := I.after hq'
      cases rv
      have hsz0 : X.s_0.heap.objs.size ≤ it := Nat.le_trans I.sz hsz
      have hqi : q ≠ it := fun z => by rw [z, hn] at hq; cases hq
      have hai : a ≠ it := fun z => by rw [z, hn] at ha; cases ha
      obtain ⟨⟨ty, t, hty, st⟩, _⟩ := I3.hok it _ upd_same
      have hT : s'.TypeIs (.ref it) ty := by
        obtain ⟨o, ho, c, _⟩ := st
        exact ⟨o, ho, c⟩
      unfold PySem.W.OwitIt
      rcases hty with rfl | rfl
      · refine wpAny_specialOf (name := Str.ofString "__next__") hT PySem.F.slot_str_ascii_iterator_next.lookup ?_
        refine wpAny_bind (wpAny_holding (sgs_hint (C := C) (sb.mono nL).in1 FL hsL hfL bL hx I3 (by rw [upd_ne hai]; exact ha) hl (hsp _ (fun b o e => by rw [upd_ne (ne_of_none e hn)]; exact e)) fun b s2 I4 => ?_))
        obtain ⟨⟨ty2, t2, hty2, st2⟩, _⟩ := I4.hok it _ upd_same
        have I5 := ItX.inv_drop I4 (a := it) upd_same
        have fp := ItX.inv_fp I4 (a := it) upd_same hsz0
        rw [ItX.dropH_upd hn] at I5 fp
        have go : ∀ s3, L2.Inv X pins σ H s3 → s3.heap.IsStrIter it ty2 x t2 0 → codeAny (model X.prog X.w) A1 (.builtin "list.extend.loop" ⟨[.ref q, .ref it, .none], []⟩) Rs s3 := by
          intro s3 I6 st3
          have e : upd H q (.lst ((signV x).take 0)) = H := upd_self hq
          exact sgs_loop hty2 hA hl H hqi hn hfin x.cps.size 0 s3 (by omega) (Nat.zero_le _) (by rw [e]; exact I6) (by rw [e]; exact fp) st3
        obtain ⟨z, its, k, r3, hl3, e3⟩ := I5.lstM hq
        cases r3
        refine wpAny_ite_split (fun _ => ?_) (fun _ => wpAny_pure ⟨plainId_quiet PySem.F.plain_extend_loop _, go _ I5 st2⟩)
        refine wpAny_bind (wpAny_rule ?_)
        refine wpAny_bind ?_
        show wpAny _ _ (updateSeq q (·.push .none) >>= fun _ => updateSeq q (·.pop)) _ _ _
        refine wpAny_bind (wpAny_updateSeq e3 rfl ?_)
        have I7 := I5.lset (f := (·.push Value.none)) (its' := [Value.none]) (ys := [.non]) (t' := s2.toks) hq e3 (by simp) (.cons rfl .nil) (by rw [List.length_singleton]; exact line20' (by decide))
        obtain ⟨z4, its4, k4, r4, hl4, e4⟩ := I7.lstM upd_same
        obtain ⟨u4, rfl, ru4⟩ := r4.one
        refine wpAny_updateSeq e4 rfl ?_ (by show 1 ≤ sizeLine; exact line20' (by decide)) (by show 0 ≤ sizeLine + 1; exact Nat.zero_le _)
        have I8 := I7.lset (f := (·.pop)) (its := [u4]) (its' := []) (ys := []) (t' := s2.toks) upd_same e4 (by rfl) .nil (Nat.zero_le _)
        rw [L2.upd_upd, upd_self hq] at I8
        refine wpAny_pure ⟨plainId_quiet PySem.F.plain_extend_loop _, go _ I8 ?_⟩
        obtain ⟨o, ho, r⟩ := st2
        exact ⟨o, (Heap.get?_update_other _ _ hqi).trans ((Heap.get?_update_other _ _ hqi).trans ho), r⟩
      · refine wpAny_specialOf (name := Str.ofString "__next__") hT PySem.F.slot_str_iterator_next.lookup ?_
        refine wpAny_bind (wpAny_holding (sgs_hint (C := C) (sb.mono nL).in1 FL hsL hfL bL hx I3 (by rw [upd_ne hai]; exact ha) hl (hsp _ (fun b o e => by rw [upd_ne (ne_of_none e hn)]; exact e)) fun b s2 I4 => ?_))
        obtain ⟨⟨ty2, t2, hty2, st2⟩, _⟩ := I4.hok it _ upd_same
        have I5 := ItX.inv_drop I4 (a := it) upd_same
        have fp := ItX.inv_fp I4 (a := it) upd_same hsz0
        rw [ItX.dropH_upd hn] at I5 fp
        have go : ∀ s3, L2.Inv X pins σ H s3 → s3.heap.IsStrIter it ty2 x t2 0 → codeAny (model X.prog X.w) A1 (.builtin "list.extend.loop" ⟨[.ref q, .ref it, .none], []⟩) Rs s3 := by
          intro s3 I6 st3
          have e : upd H q (.lst ((signV x).take 0)) = H := upd_self hq
          exact sgs_loop hty2 hA hl H hqi hn hfin x.cps.size 0 s3 (by omega) (Nat.zero_le _) (by rw [e]; exact I6) (by rw [e]; exact fp) st3
        obtain ⟨z, its, k, r3, hl3, e3⟩ := I5.lstM hq
        cases r3
        refine wpAny_ite_split (fun _ => ?_) (fun _ => wpAny_pure ⟨plainId_quiet PySem.F.plain_extend_loop _, go _ I5 st2⟩)
        refine wpAny_bind (wpAny_rule ?_)
        refine wpAny_bind ?_
        show wpAny _ _ (updateSeq q (·.push .none) >>= fun _ => updateSeq q (·.pop)) _ _ _
        refine wpAny_bind (wpAny_updateSeq e3 rfl ?_)
        have I7 := I5.lset (f := (·.push Value.none)) (its' := [Value.none]) (ys := [.non]) (t' := s2.toks) hq e3 (by simp) (.cons rfl .nil) (by rw [List.length_singleton]; exact line20' (by decide))
        obtain ⟨z4, its4, k4, r4, hl4, e4⟩ := I7.lstM upd_same
        obtain ⟨u4, rfl, ru4⟩ := r4.one
        refine wpAny_updateSeq e4 rfl ?_ (by show 1 ≤ sizeLine; exact line20' (by decide)) (by show 0 ≤ sizeLine + 1; exact Nat.zero_le _)
        have I8 := I7.lset (f := (·.pop)) (its := [u4]) (its' := []) (ys := []) (t' := s2.toks) upd_same e4 (by rfl) .nil (Nat.zero_le _)
        rw [L2.upd_upd, upd_self hq] at I8
        refine wpAny_pure ⟨plainId_quiet PySem.F.plain_extend_loop _, go _ I8 ?_⟩
        obtain ⟨o, ho, r⟩ := st2
        exact ⟨o, (Heap.get?_update_other _ _ hqi).trans ((Heap.get?_update_other _ _ hqi).trans ho), r⟩
/-- list(a) -/
def rListSgs (C : Addr) (S : Hp → Addr → Str → Prop) : List V → Hp → VK → Prop := fun xs H Q => ∃ a dx fs x, xs = [.ref a] ∧ H a = some (.ins C dx fs) ∧ S H a x ∧ x.length ≤ 1000 ∧ ∀ q, H q = none → Q (.ref q) (upd H q (.lst (signV x)))
theorem call_listSgs {n kI : Nat} {fI : Addr} {S : Hp → Addr → Str → Prop} (hc : X.calm = true) (nI : kI ≤ n) (nL : kL + 1 ≤ n) (hr : Room (n + 2) X.A) (hit : IterOk X.prog X.w X.K X.mg X.base kI C fI S) (mono : ∀ H H' a x, S H a x → Same H H' → S H' a x)
    (hsI : PySem.W.findIn X.K (.ref C) "__iter__" = some (some (.ref fI))) (hfI : PySem.W.isFn X.K (.ref fI) = true)
    (FL : FnOk X.prog X.w X.K X.mg X.base CX0 kL fL fdL psL spL) (hsL : PySem.W.findIn X.K (.ref C) "__len__" = some (some (.ref fL))) (hfL : PySem.W.isFn X.K (.ref fL) = true) (bL : Binds X.K fdL psL []) (hx : Passes CX0 X E0)
    (hsp : ∀ H a x, S H a x → x.length ≤ 1000 → spL [.ref a] H (fun v H2 => v = .int (x.length : Nat) ∧ H2 = H) E0) : CallR X (.type "list") (rListSgs C S) := by
  intro pins s σ H xs us Q I rv h
  obtain ⟨a, dx, fs, x, rfl, ha, hS, hl, hq⟩ := h
  obtain ⟨u, rfl, ru⟩ := rv.one
  cases ru
  have sb : L2.Sub X n X.A.in1.in1 := L2.Sub.in1 (L2.Sub.in1 ⟨hr, rfl⟩)
  apply callType_codes (Q₁ := fun obj s₁ => obj = .ref s.heap.objs.size ∧ s₁ = { s with heap := s.heap.push { cls := .type "list", data := .seq #[] } }) PySem.F.called_list (PySem.F.typeCall_list_1 _) PySem.F.entry_list_init (code_list_new _ ⟨rfl, rfl⟩)
  rintro obj s₁ ⟨rfl, rfl⟩
  have hN : (s.heap.push { cls := .type "list", data := .seq #[] }).get? s.heap.objs.size = some { cls := .type "list", data := .seq #[] } := Heap.get?_push_size _ rfl
  refine ⟨⟨_, hN, rfl⟩, PySem.F.args_list_init_2 _ _, ?_⟩
  have fr : H s.heap.objs.size = none := I.fresh
  have I1 : L2.Inv X pins σ (upd H s.heap.objs.size (.lst [])) { s with heap := s.heap.push { cls := .type "list", data := .seq #[] } } := I.lnew (its := []) (t' := s.toks) .nil (Nat.zero_le _)
  show wpAny _ _ (Builtin.List.listItems (.ref s.heap.objs.size) >>= fun old => Builtin.List.listUpdate (.ref s.heap.objs.size) (fun _ => #[]) >>= fun _ => letGo old.toList.reverse >>= fun _ => Builtin.List.listExtendWith (.ref s.heap.objs.size) (.ref a) .none) _ _ _
  apply wpAny_bind
  unfold Builtin.List.listItems
  apply wpAny_bind
  apply wpAny_seqItems hN rfl
  apply wpAny_pure
  show wpAny _ _ (updateSeq s.heap.objs.size (fun _ => #[]) >>= fun _ => letGo (#[] : Array Value).toList.reverse >>= fun _ => Builtin.List.listExtendWith (.ref s.heap.objs.size) (.ref a) .none) _ _ _
  apply wpAny_bind
  apply wpAny_updateSeq hN rfl
  have I2 := I1.lset (f := fun _ => #[]) (its := []) (its' := []) (ys := []) (t' := s.toks) upd_same hN rfl .nil (Nat.zero_le _)
  rw [L2.upd_upd] at I2
  apply wpAny_bind
  apply wpAny_letGo
  have sm : Same H (upd H s.heap.objs.size (.lst [])) := fun b o e => by rw [upd_ne (ne_of_none e fr)]; exact e
  refine sgs_extend (A1 := X.A.in1) (Rs := wants (fun r s₂ => r = .none ∧ EP X pins σ Q (.ref s.heap.objs.size) s₂) X.xe) hc (I.ok.hd hc) sb nI nL hit hsI hfI FL hsL hfL bL hx I2 (sm _ _ ha) upd_same (mono _ _ _ _ hS sm) hl (fun H' s' => hsp _ _ _ (mono _ _ _ _ hS (sm.trans s')) hl) (fun s3 I3 => ?_) (fun e s' he => he)
  rw [L2.upd_upd] at I3
  exact ⟨rfl, .ref s.heap.objs.size, _, I3, rfl, hq _ fr⟩
end
end My
namespace My
open PySem PySem.Spec PyProof.Rows L2
/-- statements that are never reached -/
theorem pss_no {X : Cx} {ss : List Stmt} : PSs X ss (fun _ _ _ => False) := ⟨fun _ _ _ _ _ _ h => h.elim⟩
/-- a dict of the module: texts at texts -/
structure KTab (K : PySem.W.Frag) (w : World) (d : Addr) (kvs : List (Str × Str)) : Prop where
  ex : ∃ es n, KDict K w d es n
  look : ∀ z, ∃ r, PySem.W.nsIn K d z = some r ∧ (match kvs.lookup z with | some x => ∃ t, r = some (Value.str x t) | none => r = none)
def ktAt (kvs : List (Str × Str)) (k : Str) (z : V) : V := match kvs.lookup k with | some x => .str x | none => z
def tKGet (d : Addr) (kvs : List (Str × Str)) (td ty tx : TE) : TE := fun σ H Q => td σ H fun x H1 => x = .ref d ∧ ty σ H1 fun y H2 => tx σ H2 fun z H3 => ∃ k, y = .str k ∧ Q (ktAt kvs k z) H3
section
variable {X : Cx} {o e f : Expr} {apos cpos : Pos} {td ty tx : TE} {d : Addr} {kvs : List (Str × Str)}
theorem pe_kget (D : KTab X.K X.w d kvs) (ho : PE X o td) (he : PE X e ty) (hf : PE X f tx) (m : M2 X o "get" apos e f cpos) : PE X (.Call (.Attribute o "get" apos) [e, f] [] cpos) (tKGet d kvs td ty tx) := by
  refine ⟨fun pins s σ H Q I h => ?_⟩
  obtain ⟨es, n, KD⟩ := D.ex
  refine wpAny_Call_method m.base m.few m.line PySem.F.plainAttrs_dict PySem.F.slot_dict_get PySem.F.type_dict_get (thn (ho.run pins s σ H _ I h) fun u s1 ⟨x, H1, I1, rx, ex, q1⟩ => ?_)
  subst ex
  obtain rfl : u = Value.ref d := rx
  refine ⟨kd_type KD I1, fun b q => ?_, ?_⟩
  · cases q
    exact ⟨_, I1.kIn _ _ KD.at_, rfl⟩
  rw [m.trees]
  refine Calls.callWith_builtin rfl (Calls.evalArgs_plain (Calls.spliced_cons (thn (he.run pins s1 σ H1 _ I1 q1) fun iv s2 ⟨y, H2, I2, ry, q2⟩ =>
    Calls.spliced_cons (thn (hf.run pins s2 σ H2 _ I2 q2) fun fv s3 ⟨z, H3, I3, rz, k, ek, q3⟩ => Calls.spliced_nil ?_))))
  subst ek
  obtain ⟨t, rfl⟩ := ry
  obtain ⟨r, er, hr⟩ := D.look k
  have mp := PySem.W.mapOf_K (prog := X.prog) (w := X.w) I3.kIn KD.at_ KD.lit
  refine call_meetsIn PySem.F.slot_dict_get mp.typeIs PySem.F.entry_dict_get (PySem.F.args_dict_get_3 _ _ _) (meets_dict_get_default (strKind X.prog X.w) d (strKind_is X.prog X.w k t) KD.low _) ⟨_, mp, ?_⟩
  rw [PySem.W.find_K KD.at_ er]
  unfold ktAt at q3
  cases hl : kvs.lookup k with
  | none =>
    rw [hl] at hr q3
    subst hr
    exact ⟨_, H3, I3.tok _, rz, q3⟩
  | some x =>
    rw [hl] at hr q3
    obtain ⟨t2, rfl⟩ := hr
    exact ⟨.str x, H3, I3.tok _, ⟨t2, rfl⟩, q3⟩
end
theorem kt_two {K : PySem.W.Frag} {w : World} {d : Addr} {k1 x1 k2 x2 : Str} {t1 t2 u1 u2 : Tok} {h1 h2 : Int} {n : Nat} (l : K.lookup d = some ⟨.type "dict", none, .dict #[⟨h1, .str k1 t1, .str x1 u1⟩, ⟨h2, .str k2 t2, .str x2 u2⟩] n, #[]⟩)
    (e1 : h1 = PyData.keyHash w.params k1) (e2 : h2 = PyData.keyHash w.params k2) (lo : (d == sysModules) = false) : KTab K w d [(k1, x1), (k2, x2)] := by
  refine ⟨⟨_, _, l, ⟨⟨_, _, rfl, e1⟩, ⟨_, _, rfl, e2⟩, trivial⟩, lo⟩, fun z => ?_⟩
  unfold PySem.W.nsIn
  rw [l]
  dsimp only
  by_cases q1 : z = k1
  · subst q1
    have c1 : (Value.str z t1).isStr z = true := by simp [Value.isStr]
    refine ⟨_, by rw [List.find?_cons_of_pos (by exact c1)], ?_⟩
    rw [List.lookup_cons, beq_self_eq_true]
    exact ⟨_, rfl⟩
  · have c1 : ¬ (Value.str k1 t1).isStr z = true := by simp [Value.isStr]; exact fun e => q1 e.symm
    have b1 : (z == k1) = false := by
      cases h : z == k1 with
      | false => rfl
      | true => exact absurd (eq_of_beq h) q1
    rw [List.find?_cons_of_neg (by exact c1)]
    rw [List.lookup_cons, b1]
    by_cases q2 : z = k2
    · subst q2
      have c2 : (Value.str z t2).isStr z = true := by simp [Value.isStr]
      refine ⟨_, by rw [List.find?_cons_of_pos (by exact c2)], ?_⟩
      dsimp only
      rw [List.lookup_cons, beq_self_eq_true]
      exact ⟨_, rfl⟩
    · have c2 : ¬ (Value.str k2 t2).isStr z = true := by simp [Value.isStr]; exact fun e => q2 e.symm
      have b2 : (z == k2) = false := by
        cases h : z == k2 with
        | false => rfl
        | true => exact absurd (eq_of_beq h) q2
      rw [List.find?_cons_of_neg (by exact c2)]
      dsimp only
      rw [List.lookup_cons, b2]
      exact ⟨_, rfl, rfl⟩
end My
namespace My
open PySem L2
/-! ### the set text of some signs -/
def asc (cs : List Nat) : List Nat := SG.filter fun c => decide (c ∈ cs)
theorem asc_sub (cs : List Nat) : (asc cs).Sublist SG := List.filter_sublist
theorem mem_asc {cs : List Nat} (h : ∀ c ∈ cs, c ∈ SG) (c : Nat) : c ∈ asc cs ↔ c ∈ cs := by
  unfold asc
  rw [List.mem_filter, decide_eq_true_eq]
  exact ⟨fun q => q.2, fun q => ⟨h c q, q⟩⟩
theorem asc_uniq : ∀ {a b : List Nat}, a.Pairwise (· < ·) → b.Pairwise (· < ·) → (∀ c, c ∈ a ↔ c ∈ b) → a = b
  | [], [], _, _, _ => rfl
  | [], y :: b, _, _, h => absurd ((h y).mpr List.mem_cons_self) (by simp)
  | x :: a, [], _, _, h => absurd ((h x).mp List.mem_cons_self) (by simp)
  | x :: a, y :: b, pa, pb, h => by
    obtain ⟨a1, a2⟩ := List.pairwise_cons.mp pa
    obtain ⟨b1, b2⟩ := List.pairwise_cons.mp pb
    have e : x = y := by
      rcases List.mem_cons.mp ((h x).mp List.mem_cons_self) with q | q
      · exact q
      · rcases List.mem_cons.mp ((h y).mpr List.mem_cons_self) with q2 | q2
        · exact q2.symm
        · have := b1 x q; have := a1 y q2; omega
    subst e
    rw [asc_uniq a2 b2 fun c => ?_]
    constructor
    · intro q
      rcases List.mem_cons.mp ((h c).mp (List.mem_cons_of_mem _ q)) with z | z
      · have := a1 c q; omega
      · exact z
    · intro q
      rcases List.mem_cons.mp ((h c).mpr (List.mem_cons_of_mem _ q)) with z | z
      · have := b1 c q; omega
      · exact z
theorem asc_pw (cs : List Nat) : (asc cs).Pairwise (· < ·) := sub_asc (asc_sub cs)
theorem asc_of {ns cs : List Nat} (h : ∀ c ∈ cs, c ∈ SG) (p : ns.Pairwise (· < ·)) (m : ∀ c, c ∈ ns ↔ c ∈ cs) : ns = asc cs :=
  asc_uniq p (asc_pw cs) fun c => by rw [m, mem_asc h]
theorem asc_self {cs : List Nat} (h : cs.Sublist SG) : asc cs = cs := (asc_of (fun c hc => h.subset hc) (sub_asc h) fun _ => Iff.rfl).symm
theorem asc_congr {a b : List Nat} (h : ∀ c, c ∈ a ↔ c ∈ b) : asc a = asc b := by
  unfold asc
  refine List.filter_congr fun c _ => ?_
  exact decide_eq_decide.mpr (h c)
theorem filter_asc (p : Nat → Bool) : SG.filter p = asc (SG.filter p) := (asc_self List.filter_sublist).symm
/-- the four combinations -/
def cOr (a b : List Nat) : List Nat := SG.filter fun c => decide (c ∈ a) || decide (c ∈ b)
def cAnd (a b : List Nat) : List Nat := SG.filter fun c => decide (c ∈ a) && decide (c ∈ b)
def cSub (a b : List Nat) : List Nat := SG.filter fun c => decide (c ∈ a) && !decide (c ∈ b)
def cNot (a : List Nat) : List Nat := SG.filter fun c => !decide (c ∈ a)
theorem asc_app {a b : List Nat} (ha : a.Sublist SG) (hb : b.Sublist SG) : asc (a ++ b) = cOr a b := by
  unfold asc cOr
  refine List.filter_congr fun c _ => ?_
  rw [← Bool.decide_or]
  exact decide_eq_decide.mpr List.mem_append
theorem asc_filt {a : List Nat} (ha : a.Sublist SG) (p : Nat → Bool) : asc (a.filter p) = SG.filter fun c => decide (c ∈ a) && p c := by
  unfold asc
  refine List.filter_congr fun c _ => ?_
  rw [Bool.eq_iff_iff]
  simp [List.mem_filter]
theorem asc_filtS (p : Nat → Bool) : asc (SG.filter p) = SG.filter p := asc_self List.filter_sublist
/-! ### an instance that holds a set text -/
def Sgs (C : Addr) (H : Hp) (a : Addr) (cs : List Nat) : Prop := ∃ dx, H a = some (.ins C dx [("_members", .str (tx cs))])
theorem Sgs.at {C : Addr} {H H' : Hp} {a : Addr} {cs : List Nat} (h : Sgs C H a cs) (s : Same H H') : Sgs C H' a cs := by
  obtain ⟨dx, e⟩ := h
  exact ⟨dx, s _ _ e⟩
theorem Sgs.but {C d : Addr} {H H' : Hp} {a : Addr} {cs : List Nat} (h : Sgs C H a cs) (n : a ≠ d) (s : But d H H') : Sgs C H' a cs := by
  obtain ⟨dx, e⟩ := h
  exact ⟨dx, s _ _ n e⟩
theorem mem_lk (cs : List Nat) : ([(("_members" : Str), V.str (tx cs))] : List (Str × V)).lookup ("_members" : Str) = some (V.str (tx cs)) := rfl
end My
namespace My
open PySem L2
theorem c_nl : Str.ofString "\n" = tx [10] := by decide +kernel
def EN : List Nat := [9, 32, 33, 36, 38, 47, 48, 57, 58, 64, 65, 90, 91, 94, 95, 96, 97, 122, 123, 126]
theorem c_ends : Str.ofString "\t !$&/09:@AZ[^_`az{~" = tx EN := by decide +kernel
theorem one_of {c : Nat} {r : List Nat} (h : (c :: r).length ≤ 1) : r = [] := by
  cases r with
  | nil => rfl
  | cons a r => simp at h
end My
namespace My
open PySem L2
/-- a list whose items are made of other things -/
theorem reg_map {α : Type} (K : PySem.W.Frag) (a : Addr) (F : α → V) (xs : List α) : Reg (Itl K a) xs F (fun H => SqL K H a (xs.map F)) := by
  refine ⟨fun i H h hq => ⟨xs.map F, F xs[i], hq, by simp [h]⟩, fun i H h hq => ⟨xs.map F, hq, by rw [List.length_map]; exact h⟩, fun i v H x H' h hq hy => ?_⟩
  obtain ⟨rfl, f⟩ := hy
  have := f _ hq
  rw [List.getElem?_map, h] at this
  exact ⟨rfl, (Option.some.inj this).symm⟩
theorem filter_yes {α : Type} (l : List α) : (l.filter fun _ => true) = l := List.filter_eq_self.mpr fun _ _ => rfl
theorem asc_getD {l : List Nat} (h : l.Pairwise (· < ·)) {i j : Nat} (hj : j < l.length) (hij : i < j) : l[i] < l[j] := List.pairwise_iff_getElem.mp h i j (by omega) hj hij
/-- isinstance of a list -/
theorem isi_list {K : PySem.W.Frag} {H : Hp} {Q : VK} {a : Addr} {xs : List V} (e : H a = some (.lst xs)) (q : Q (.bl true) H) : rIsi K [.ref a, .ty "list"] H Q :=
  ⟨.ref a, .ty "list", .type "list", .type "list", true, rfl, .ty _, .base (.lst e), kit_ty (by decide +kernel), q⟩
/-- data of a list of texts -/
def dTx (ss : List (List Nat)) : PyData := .list (ss.map fun s => .str (tx s))
theorem depth_tx (ss : List (List Nat)) : PyData.depthAll (ss.map fun s => PyData.str (tx s)) = 0 := by
  induction ss with
  | nil => rfl
  | cons s r ih => rw [List.map_cons, PyData.depthAll, PyData.depth, ih]; rfl
theorem ok_tx {s : List Nat} (h : ∀ c ∈ s, c ∈ SG) : PyData.strOk (tx s) = true := by
  unfold PyData.strOk
  have e : (tx s).cps = s.toArray := rfl
  rw [e, List.all_toArray, List.all_eq_true]
  intro c hc
  have h2 : ∀ x ∈ SG, x < 0x110000 := by decide +kernel
  exact decide_eq_true (h2 c (h c hc))
theorem lay_tx {ss : List (List Nat)} (h : ∀ s ∈ ss, ∀ c ∈ s, c ∈ SG) : PyData.canLayAll0 (ss.map fun s => PyData.str (tx s)) = true := by
  induction ss with
  | nil => rfl
  | cons s r ih =>
    rw [List.map_cons, PyData.canLayAll0, PyData.canLay0, ok_tx (h s List.mem_cons_self), ih fun x hx => h x (List.mem_cons_of_mem _ hx)]
    rfl
theorem shaped_tx {ss : List (List Nat)} (h : ∀ s ∈ ss, ∀ c ∈ s, c ∈ SG) : SeqAt.shaped (dTx ss) = true := by
  unfold SeqAt.shaped dTx
  rw [PyData.canLay0, lay_tx h, PyData.depth, depth_tx]
  rfl
theorem eqv_str (a b : List Nat) : PyData.eqv (.str (tx a)) (.str (tx b)) = decide (a = b) := by
  rw [PyData.eqv, Bool.eq_iff_iff, beq_iff_eq, decide_eq_true_eq, tx_eq]
theorem eqvAll_tx : ∀ a b : List (List Nat), PyData.eqvAll (a.map fun s => .str (tx s)) (b.map fun s => .str (tx s)) = decide (a = b)
  | [], [] => rfl
  | [], _ :: _ => rfl
  | _ :: _, [] => rfl
  | x :: a, y :: b => by
    rw [List.map_cons, List.map_cons, PyData.eqvAll, eqv_str, eqvAll_tx a b, ← Bool.decide_and]
    exact decide_eq_decide.mpr List.cons_eq_cons.symm
theorem eqv_tx (a b : List (List Nat)) : PyData.eqv (dTx a) (dTx b) = decide (a = b) := by
  unfold dTx
  rw [PyData.eqv, eqvAll_tx]
theorem dp_all {K : PySem.W.Frag} {H : Hp} : ∀ ss : List (List Nat), DpAll K H (ss.map fun s => V.str (tx s)) (ss.map fun s => PyData.str (tx s))
  | [] => .nil
  | _ :: ss => .cons (.str _) (dp_all ss)
theorem dp_tx {K : PySem.W.Frag} {H : Hp} {a : Addr} {ss : List (List Nat)} (h : SqL K H a (ss.map fun s => V.str (tx s))) : Dp K H (.ref a) (dTx ss) := .lst h (dp_all ss)
/-- == and != of lists of texts over the signs -/
theorem eqD_tx {K : PySem.W.Frag} {H : Hp} {p q : Addr} {a b : List (List Nat)} {Q : VK} (ha : SqL K H p (a.map fun s => V.str (tx s))) (hb : SqL K H q (b.map fun s => V.str (tx s))) (sa : ∀ s ∈ a, ∀ c ∈ s, c ∈ SG) (sb : ∀ s ∈ b, ∀ c ∈ s, c ∈ SG) (h : Q (.bl (decide (a = b))) H) : rEqD K (.ref p) (.ref q) H Q :=
  ⟨dTx a, dTx b, dp_tx ha, dp_tx hb, shaped_tx sa, shaped_tx sb, by rw [eqv_tx]; exact h⟩
theorem neD_tx {K : PySem.W.Frag} {H : Hp} {p q : Addr} {a b : List (List Nat)} {Q : VK} (ha : SqL K H p (a.map fun s => V.str (tx s))) (hb : SqL K H q (b.map fun s => V.str (tx s))) (sa : ∀ s ∈ a, ∀ c ∈ s, c ∈ SG) (sb : ∀ s ∈ b, ∀ c ∈ s, c ∈ SG) (h : Q (.bl (!decide (a = b))) H) : rNeD K (.ref p) (.ref q) H Q :=
  ⟨dTx a, dTx b, dp_tx ha, dp_tx hb, shaped_tx sa, shaped_tx sb, by rw [eqv_tx]; exact h⟩
/-- a comprehension that may lay new objects -/
theorem lcJ_same {α : Type} {J : It} {its : List α} {item : α → V} {G : Hp → Prop} (R : Reg J its item G) {k : Nat} {tt : TT} {te : TE} {σ : St} {H1 : Hp} {Q : VK} (p : α → Bool) (f : α → V) (hn : its.length ≤ sizeLine)
    (hG : ∀ H', Same H1 H' → G H')
    (hT : ∀ a H' (Q : Bool → Hp → Prop), a ∈ its → Same H1 H' → (∀ H2, Same H' H2 → Q (p a) H2) → tt ((σ.set k none).set k (some (item a))) H' Q)
    (hE : ∀ a H' (Q : VK), a ∈ its → p a = true → Same H1 H' → (∀ H2, Same H' H2 → Q (f a) H2) → te ((σ.set k none).set k (some (item a))) H' Q)
    (h : ∀ D H', H1 D = none → Same H1 H' → H' D = some (.lst ((its.filter p).map f)) → Q (.ref D) H') : LcJ J (gName k) tt te [k] σ H1 Q := by
  obtain ⟨Pv, hP⟩ : ∃ Pv : Addr → Nat → Hp → Prop, ∀ D i H, Pv D i H ↔ (Same H1 H ∧ H D = some (.lst (((its.take i).filter p).map f))) := ⟨_, fun _ _ _ => Iff.rfl⟩
  refine lcJ_by R Pv (fun D i H hD hp => hG H ((hP _ _ _).mp hp).1) (fun D hD => ?_) (fun D i a H hD hi hp => ?_) (fun D H hD hp => ?_)
  · exact (hP _ _ _).mpr ⟨same_upd hD, upd_same⟩
  · obtain ⟨sm, hl⟩ := (hP _ _ _).mp hp
    have hlt : i < its.length := (List.getElem?_eq_some_iff.mp hi).1
    have hm : a ∈ its := List.mem_of_getElem? hi
    have ht : its.take (i + 1) = its.take i ++ [a] := by rw [List.take_add_one, hi]; rfl
    refine hT a H _ hm sm fun H2 s2 => ?_
    by_cases hp : p a = true
    · rw [hp, if_pos rfl]
      refine hE a H2 _ hm hp (sm.trans s2) fun H3 s3 => ⟨_, s3 _ _ (s2 _ _ hl), ?_, ?_⟩
      · rw [List.length_map]
        refine Nat.lt_of_le_of_lt (List.length_filter_le _ _) ?_
        rw [List.length_take]
        omega
      · refine (hP _ _ _).mpr ⟨fun b o e => ?_, ?_⟩
        · rw [upd_ne (ne_of_none e hD)]
          exact s3 _ _ (s2 _ _ (sm _ _ e))
        · rw [upd_same, ht, List.filter_append, List.map_append]
          simp [hp]
    · rw [if_neg hp]
      refine (hP _ _ _).mpr ⟨sm.trans s2, ?_⟩
      rw [s2 _ _ hl, ht, List.filter_append]
      simp [hp]
  · obtain ⟨sm, hl⟩ := (hP _ _ _).mp hp
    rw [List.take_length] at hl
    exact h D H hD sm hl
theorem in_tx (x : List Nat) (L : List (List Nat)) : inV (V.str (tx x)) (L.map fun s => V.str (tx s)) = decide (x ∈ L) := by
  unfold inV
  rw [List.any_map]
  induction L with
  | nil => rfl
  | cons y L ih =>
    rw [List.any_cons, ih, Bool.eq_iff_iff]
    simp only [Bool.or_eq_true, decide_eq_true_eq, List.mem_cons]
    have e : ((fun z => eqV z (V.str (tx x))) ∘ fun s => V.str (tx s)) y = true ↔ x = y := by
      show (tx y == tx x) = true ↔ x = y
      rw [beq_iff_eq, tx_eq]
      exact eq_comm
    rw [e]
theorem flat_tx (L : List (List Nat)) : (L.map fun s => V.str (tx s)).all flatV = true := by
  induction L with
  | nil => rfl
  | cons x r ih => rw [List.map_cons, List.all_cons, ih]; rfl
theorem flat_bl {α : Type} (g : α → Bool) (L : List α) : (L.map fun s => V.bl (g s)).all flatV = true := by
  induction L with
  | nil => rfl
  | cons x r ih => rw [List.map_cons, List.all_cons, ih]; rfl
theorem count_tx (cs : List Nat) (c : Nat) : Txt.count (tx cs) (tx [c]) = (cs.count c : Nat) := by
  show Txt.count (tx cs) ⟨#[c]⟩ = _
  rw [PyProof.Rows.count_cnt, tx_cps]
  have h : ∀ l : List Nat, PyProof.Rows.cnt c l = (l.count c : Nat) := by
    intro l
    induction l with
    | nil => rfl
    | cons a r ih =>
      rw [List.count_cons, PyProof.Rows.cnt_cons, ih]
      by_cases e : a = c
      · simp [e]; omega
      · simp [e]
  exact h cs
theorem range_at {n i k : Nat} (h : (List.range n)[i]? = some k) : k = i ∧ i < n := by
  have h1 := (List.getElem?_eq_some_iff.mp h).1
  rw [List.length_range] at h1
  rw [List.getElem?_range h1] at h
  exact ⟨(Option.some.inj h).symm, h1⟩
theorem map_at {α β : Type} {F : α → β} {L : List α} {i : Int} (h0 : 0 ≤ i) (h1 : i < L.length) : ∃ (j : Nat) (h : j < L.length), i = (j : Int) ∧ atI (L.map F) i = some (F L[j]) := by
  obtain ⟨j, rfl⟩ := Int.eq_ofNat_of_zero_le h0
  have hj : j < L.length := by omega
  refine ⟨j, hj, rfl, atI_nat ?_⟩
  rw [List.getElem?_map, List.getElem?_eq_getElem hj]
  rfl
end My
namespace My
open PySem L2
theorem snoc_ind2 {P : List Nat → Prop} (h0 : P []) (hs : ∀ p c, P p → P (p ++ [c])) : ∀ p, P p := by
  intro p
  rw [← List.reverse_reverse p]
  generalize p.reverse = q
  induction q with
  | nil => exact h0
  | cons a q ih => rw [List.reverse_cons]; exact hs _ _ ih
/-! ### the runs of a set text -/
abbrev Run := Nat × Nat
def lst (R : List Run) : Run := R.getLastD (0, 0)
/-- the last run goes on to c -/
def ext (R : List Run) (c : Nat) : List Run := R.dropLast ++ [((lst R).1, c)]
def stepL (R : List Run) (c : Nat) : List Run := if R ≠ [] ∧ fi (lst R).2 SG + 1 = fi c SG then ext R c else R ++ [(c, c)]
def runsL (ds : List Nat) : List Run := ds.foldl stepL []
theorem runs_snoc (ds : List Nat) (c : Nat) : runsL (ds ++ [c]) = stepL (runsL ds) c := by
  unfold runsL
  rw [List.foldl_append]
  rfl
theorem lst_snoc (R : List Run) (q : Run) : lst (R ++ [q]) = q := by
  unfold lst
  rw [List.getLastD_eq_getLast?, List.getLast?_append]
  rfl
theorem lst_step (R : List Run) (c : Nat) : (lst (stepL R c)).2 = c ∧ stepL R c ≠ [] := by
  unfold stepL
  split
  · unfold ext
    rw [lst_snoc]
    exact ⟨rfl, by simp⟩
  · rw [lst_snoc]
    exact ⟨rfl, by simp⟩
theorem runs_last : ∀ ds : List Nat, (runsL ds = [] ↔ ds = []) ∧ ∀ c, ds.getLast? = some c → (lst (runsL ds)).2 = c := by
  refine snoc_ind2 ⟨by simp [runsL], by simp⟩ fun p c ih => ?_
  rw [runs_snoc]
  obtain ⟨h1, h2⟩ := lst_step (runsL p) c
  refine ⟨⟨fun h => absurd h h2, fun h => by simp at h⟩, fun d hd => ?_⟩
  rw [List.getLast?_append] at hd
  rw [h1]
  exact Option.some.inj hd
theorem runs_mem : ∀ ds : List Nat, ∀ q ∈ runsL ds, q.1 ∈ ds ∧ q.2 ∈ ds := by
  refine snoc_ind2 (by simp [runsL]) fun p c ih => ?_
  intro q hq
  rw [runs_snoc] at hq
  unfold stepL at hq
  split at hq
  · rename_i hc
    unfold ext at hq
    rcases List.mem_append.mp hq with h | h
    · have := ih q (List.dropLast_subset _ h)
      exact ⟨List.mem_append_left _ this.1, List.mem_append_left _ this.2⟩
    · rw [List.mem_singleton.mp h]
      have hl : lst (runsL p) ∈ runsL p := by
        unfold lst
        rw [List.getLastD_eq_getLast?, List.getLast?_eq_some_getLast hc.1]
        exact List.getLast_mem hc.1
      exact ⟨List.mem_append_left _ (ih _ hl).1, List.mem_append_right _ List.mem_cons_self⟩
  · rcases List.mem_append.mp hq with h | h
    · have := ih q h
      exact ⟨List.mem_append_left _ this.1, List.mem_append_left _ this.2⟩
    · rw [List.mem_singleton.mp h]
      exact ⟨List.mem_append_right _ List.mem_cons_self, List.mem_append_right _ List.mem_cons_self⟩
theorem runs_len (ds : List Nat) : (runsL ds).length ≤ ds.length := by
  revert ds
  refine snoc_ind2 (by simp [runsL]) fun p c ih => ?_
  rw [runs_snoc, List.length_append]
  unfold stepL
  split
  · rename_i hc
    unfold ext
    rw [List.length_append, List.length_dropLast]
    have := List.length_pos_iff.mpr hc.1
    simp
    omega
  · rw [List.length_append]
    simp
    omega
/-! ### sign by sign over all signs -/
def bit (cs : List Nat) (i : Nat) : Bool := match i with
  | 0 => false
  | k + 1 => decide (SG.getD k 0 ∈ cs)
def part (cs : List Nat) (i : Nat) : List Nat := (SG.take i).filter fun c => decide (c ∈ cs)
theorem part_succ {cs : List Nat} {i c : Nat} (h : SG[i]? = some c) : part cs (i + 1) = part cs i ++ if c ∈ cs then [c] else [] := by
  unfold part
  rw [List.take_add_one, h, List.filter_append]
  by_cases hc : c ∈ cs
  · simp [hc]
  · simp [hc]
theorem fi_at {i c : Nat} (h : SG[i]? = some c) : fi c SG = i := by
  obtain ⟨h1, h2⟩ := List.getElem?_eq_some_iff.mp h
  rw [← h2]
  exact fi_getD SG_asc h1
/-- what the run goes on from -/
theorem bit_yes {cs : List Nat} {i c : Nat} (h : SG[i]? = some c) (hb : bit cs i = true) : runsL (part cs i) ≠ [] ∧ fi (lst (runsL (part cs i))).2 SG + 1 = fi c SG := by
  cases i with
  | zero => cases hb
  | succ k =>
    have hk : k < SG.length := by
      have := (List.getElem?_eq_some_iff.mp h).1
      omega
    have ek : SG[k]? = some (SG.getD k 0) := by
      rw [List.getElem?_eq_getElem hk]
      simp [List.getD, hk]
    have hm : SG.getD k 0 ∈ cs := of_decide_eq_true hb
    have e : part cs (k + 1) = part cs k ++ [SG.getD k 0] := by rw [part_succ ek, if_pos hm]
    have l1 := (runs_last (part cs (k + 1))).2 (SG.getD k 0) (by rw [e, List.getLast?_append]; rfl)
    refine ⟨fun h2 => ?_, ?_⟩
    · have := (runs_last _).1.mp h2
      rw [e] at this
      simp at this
    · rw [l1, fi_at ek, fi_at h]
theorem bit_no {cs : List Nat} {i c : Nat} (h : SG[i]? = some c) (hb : bit cs i = false) : ¬ (runsL (part cs i) ≠ [] ∧ fi (lst (runsL (part cs i))).2 SG + 1 = fi c SG) := by
  rintro ⟨h1, h2⟩
  have hne : part cs i ≠ [] := fun e => h1 ((runs_last _).1.mpr e)
  obtain ⟨d, hd⟩ : ∃ d, (part cs i).getLast? = some d := ⟨_, List.getLast?_eq_some_getLast hne⟩
  rw [(runs_last _).2 d hd, fi_at h] at h2
  have hm : d ∈ part cs i := List.mem_of_getLast? hd
  unfold part at hm
  rw [List.mem_filter] at hm
  obtain ⟨m1, m2⟩ := hm
  obtain ⟨j, hj, ej⟩ := List.mem_iff_getElem.mp m1
  rw [List.length_take] at hj
  rw [List.getElem_take] at ej
  have fd : fi d SG = j := fi_at (by rw [List.getElem?_eq_getElem (by omega), ej])
  have ij : i = j + 1 := by omega
  subst ij
  have e : SG.getD j 0 = d := by
    rw [← ej]
    have : j < SG.length := by omega
    simp [List.getD, this]
  have hb2 : decide (SG.getD j 0 ∈ cs) = false := hb
  rw [e] at hb2
  exact of_decide_eq_false hb2 (of_decide_eq_true m2)
theorem part_all {cs : List Nat} (h : cs.Sublist SG) : part cs 96 = cs := by
  unfold part
  have e : SG.take 96 = SG := List.take_of_length_le (by rw [SG_len]; exact Nat.le_refl _)
  rw [e]
  exact asc_self h
/-! ### runs as a list of pairs of texts -/
def runV (q : Run) : List V := [V.str (tx [q.1]), V.str (tx [q.2])]
structure RunsAt (H : Hp) (m : Addr) (R : List Run) (rs : List Addr) : Prop where
  lst : H m = some (.lst (rs.map V.ref))
  len : rs.length = R.length
  tup : ∀ (i : Nat) t q, rs[i]? = some t → R[i]? = some q → H t = some (.tup (runV q))
theorem RunsAt.same {H H' : Hp} {m : Addr} {R : List Run} {rs : List Addr} (h : RunsAt H m R rs) (s : Same H H') : RunsAt H' m R rs :=
  ⟨s _ _ h.lst, h.len, fun i t q a b => s _ _ (h.tup i t q a b)⟩
theorem RunsAt.nil {H : Hp} {m : Addr} (h : H m = some (.lst [])) : RunsAt H m [] [] := ⟨h, rfl, fun i t q a => by simp at a⟩
theorem RunsAt.push {H H' : Hp} {m t : Addr} {R : List Run} {rs : List Addr} {q : Run} (h : RunsAt H m R rs) (s : Same H H') (ht : H' t = some (.tup (runV q))) : RunsAt (upd H' m (.lst (rs.map V.ref ++ [V.ref t]))) m (R ++ [q]) (rs ++ [t]) := by
  have nm : ∀ b xs, H' b = some (.tup xs) → b ≠ m := fun b xs e z => by rw [z, s _ _ h.lst] at e; cases e
  refine ⟨by rw [upd_same, List.map_append]; rfl, by rw [List.length_append, List.length_append, h.len]; rfl, fun i u q' a b => ?_⟩
  by_cases hi : i < rs.length
  · rw [List.getElem?_append_left hi] at a
    rw [List.getElem?_append_left (by rw [← h.len]; exact hi)] at b
    have e := s _ _ (h.tup i u q' a b)
    rw [upd_ne (nm _ _ e)]
    exact e
  · have h1 := (List.getElem?_eq_some_iff.mp a).1
    rw [List.length_append] at h1
    have ei : i = rs.length := by simp at h1; omega
    subst ei
    rw [List.getElem?_append_right (Nat.le_refl _), Nat.sub_self] at a
    rw [h.len, List.getElem?_append_right (Nat.le_refl _), Nat.sub_self] at b
    cases Option.some.inj a
    cases Option.some.inj b
    rw [upd_ne (nm _ _ ht)]
    exact ht
theorem RunsAt.init {H H' : Hp} {m : Addr} {R : List Run} {rs : List Addr} (h : RunsAt H m R rs) : ∀ (i : Nat) t q, rs.dropLast[i]? = some t → R.dropLast[i]? = some q → H t = some (.tup (runV q)) := by
  intro i t q a b
  rw [List.dropLast_eq_take, List.getElem?_take] at a b
  split at a
  · split at b
    · exact h.tup i t q a b
    · cases b
  · cases a
theorem RunsAt.turn {H H' : Hp} {m t : Addr} {R : List Run} {rs : List Addr} {q : Run} (h : RunsAt H m R rs) (s : Same H H') (ht : H' t = some (.tup (runV q))) : RunsAt (upd H' m (.lst (rs.dropLast.map V.ref ++ [V.ref t]))) m (R.dropLast ++ [q]) (rs.dropLast ++ [t]) := by
  have nm : ∀ b xs, H' b = some (.tup xs) → b ≠ m := fun b xs e z => by rw [z, s _ _ h.lst] at e; cases e
  have hl : rs.dropLast.length = R.dropLast.length := by rw [List.length_dropLast, List.length_dropLast, h.len]
  refine ⟨by rw [upd_same, List.map_append]; rfl, by rw [List.length_append, List.length_append, hl]; rfl, fun i u q' a b => ?_⟩
  by_cases hi : i < rs.dropLast.length
  · rw [List.getElem?_append_left hi] at a
    rw [List.getElem?_append_left (by rw [← hl]; exact hi)] at b
    have e := s _ _ (h.init (H' := H) i u q' a b)
    rw [upd_ne (nm _ _ e)]
    exact e
  · have h1 := (List.getElem?_eq_some_iff.mp a).1
    rw [List.length_append] at h1
    have ei : i = rs.dropLast.length := by simp at h1 ⊢; simp at hi; omega
    subst ei
    rw [List.getElem?_append_right (Nat.le_refl _), Nat.sub_self] at a
    rw [hl, List.getElem?_append_right (Nat.le_refl _), Nat.sub_self] at b
    cases Option.some.inj a
    cases Option.some.inj b
    rw [upd_ne (nm _ _ ht)]
    exact ht
/-- the last pair -/
theorem RunsAt.last {H : Hp} {m : Addr} {R : List Run} {rs : List Addr} (h : RunsAt H m R rs) (hne : R ≠ []) : ∃ t, atI (rs.map V.ref) (-1) = some (V.ref t) ∧ H t = some (.tup (runV (My.lst R))) := by
  have hn : rs ≠ [] := fun e => hne (List.length_eq_zero_iff.mp (by rw [← h.len, e]; rfl))
  refine ⟨rs.getLast hn, ?_, ?_⟩
  · rw [atI_neg1 (by simp [hn])]
    congr 1
    exact List.getLast_map ..
  · have hp : 0 < rs.length := List.length_pos_iff.mpr hn
    refine h.tup (rs.length - 1) _ _ ?_ ?_
    · rw [List.getLast_eq_getElem, List.getElem?_eq_getElem (by omega)]
    · unfold My.lst
      rw [List.getLastD_eq_getLast?, List.getLast?_eq_getElem?, h.len, List.getElem?_eq_getElem (by have := h.len; omega)]
      rfl
theorem set_last {xs : List V} {v : V} (h : xs ≠ []) : ∃ j, ixN xs.length (-1) = some j ∧ xs.set j v = xs.dropLast ++ [v] := by
  have hp : 0 < xs.length := List.length_pos_iff.mpr h
  refine ⟨xs.length - 1, ?_, ?_⟩
  · unfold ixN
    rw [if_neg (by decide), if_pos (by omega)]
    congr 1
    omega
  · obtain ⟨ys, y, rfl⟩ : ∃ ys y, xs = ys ++ [y] := ⟨xs.dropLast, xs.getLast h, (List.dropLast_concat_getLast h).symm⟩
    rw [List.length_append, List.dropLast_concat]
    simp
end My
namespace My
open PySem L2
/-- a comprehension with any target -/
theorem lcJ_byG {α : Type} {J : It} {its : List α} {item : α → V} {G : Hp → Prop} (R : Reg J its item G) {g : TG} {vs : List Nat} {tt : TT} {te : TE} {σ : St} {H1 : Hp} {Q : VK} (Pv : Addr → Nat → Hp → Prop) (hG : ∀ D i H, H1 D = none → Pv D i H → G H) (h0 : ∀ D, H1 D = none → Pv D 0 (upd H1 D (.lst [])))
    (hs : ∀ D i a H, H1 D = none → its[i]? = some a → Pv D i H → g (item a) (wipe σ vs) H fun σ2 H2 => wipe σ2 vs = wipe σ vs ∧ tt σ2 H2 fun b H3 =>
      if b = true then te σ2 H3 fun y H4 => ∃ acc, H4 D = some (.lst acc) ∧ acc.length < sizeLine ∧ Pv D (i + 1) (upd H4 D (.lst (acc ++ [y]))) else Pv D (i + 1) H3)
    (hd : ∀ D H, H1 D = none → Pv D its.length H → Q (.ref D) H) : LcJ J g tt te vs σ H1 Q := by
  intro D hD
  refine ⟨fun i m H => m = its.length - i ∧ i ≤ its.length ∧ Pv D i H, ⟨its.length, by simp, Nat.zero_le _, h0 D hD⟩, ?_⟩
  rintro i m H ⟨rfl, hi, p⟩
  by_cases hlt : i < its.length
  · refine .inr ⟨R.go i H hlt (hG _ _ _ hD p), Pv D (i + 1), fun H' p' => ⟨its.length - (i + 1), by omega, rfl, hlt, p'⟩, fun x H' y => ?_⟩
    obtain ⟨rfl, rfl⟩ := R.yld i its[i] H x H' (List.getElem?_eq_getElem hlt) (hG _ _ _ hD p) y
    exact hs D i _ _ hD (List.getElem?_eq_getElem hlt) p
  · have e : i = its.length := by omega
    subst e
    exact .inl ⟨R.stop _ H (Nat.le_refl _) (hG _ _ _ hD p), hd D H hD p⟩
/-- the join of texts -/
theorem join_txs {K : PySem.W.Frag} {H : Hp} {D : Addr} {ss : List (List Nat)} {R : List Str → Prop} (hD : SqL K H D (ss.map fun s => V.str (tx s))) (h : (ss.map (·.length)).sum ≤ 16777216) (q : ∀ ys, Txt.join (tx []) ys = tx ss.flatten → R ys) :
    ∃ ys : List Str, (SqL K H D (ys.map V.str) ∨ SqT K H D (ys.map V.str)) ∧ (ys.map (·.length)).sum + ys.length * 0 ≤ 16777216 ∧ R ys := by
  refine ⟨ss.map tx, .inl (by rw [List.map_map]; exact hD), ?_, q _ (join_tx ss)⟩
  rw [List.map_map, Nat.mul_zero, Nat.add_zero]
  have e : ((fun x : Str => x.length) ∘ tx) = fun s : List Nat => s.length := funext fun s => tx_len s
  rw [e]
  exact h
/-! ### the written form of a set -/
theorem c_spec : Str.ofString "\\|*+?<>()[]{}.~^" = tx [92, 124, 42, 43, 63, 60, 62, 40, 41, 91, 93, 123, 125, 46, 126, 94] := by decide +kernel
def SPc : List Nat := [92, 124, 42, 43, 63, 60, 62, 40, 41, 91, 93, 123, 125, 46, 126, 94]
theorem c_brack : Str.ofString "\\[]^-" = tx [92, 91, 93, 94, 45] := by decide +kernel
def BPc : List Nat := [92, 91, 93, 94, 45]
theorem c_bs : Str.ofString "\\" = tx [92] := by decide +kernel
theorem c_tab : Str.ofString "\t" = tx [9] := by decide +kernel
theorem c_en : Str.ofString "\\n" = tx [92, 110] := by decide +kernel
theorem c_et : Str.ofString "\\t" = tx [92, 116] := by decide +kernel
theorem c_dash : Str.ofString "-" = tx [45] := by decide +kernel
theorem c_open : Str.ofString "[" = tx [91] := by decide +kernel
theorem c_openc : Str.ofString "[^" = tx [91, 94] := by decide +kernel
theorem c_close : Str.ofString "]" = tx [93] := by decide +kernel
theorem c_dot : Str.ofString "." = tx [46] := by decide +kernel
def esc (sp : List Nat) (c : Nat) : List Nat := if c ∈ sp then [92, c] else if c = 10 then [92, 110] else if c = 9 then [92, 116] else [c]
theorem esc_len (sp : List Nat) (c : Nat) : (esc sp c).length ≤ 2 := by
  unfold esc
  split
  · exact Nat.le_refl _
  · split
    · exact Nat.le_refl _
    · split
      · exact Nat.le_refl _
      · exact Nat.le_succ _
def fl (r : List Nat) : List Nat := if 2 < r.length then esc BPc (r.headD 0) ++ [45] ++ esc BPc (r.getLastD 0) else r.flatMap (esc BPc)
theorem fl_nil : fl [] = [] := rfl
theorem fl_len (r : List Nat) : (fl r).length ≤ 5 := by
  unfold fl
  split
  · rw [List.length_append, List.length_append]
    have a := esc_len BPc (r.headD 0)
    have b := esc_len BPc (r.getLastD 0)
    simp only [List.length_cons, List.length_nil]
    omega
  · rename_i h
    match r, h with
    | [], _ => simp
    | [a], _ => have := esc_len BPc a; simp; omega
    | [a, b], _ => have := esc_len BPc a; have := esc_len BPc b; simp; omega
    | a :: b :: c :: r, h => simp at h
theorem fl_long {r : List Nat} (h : 2 < r.length) : ∃ a b, a ∈ r ∧ b ∈ r ∧ r[0]? = some a ∧ r.getLast? = some b ∧ fl r = (esc BPc a ++ [45]) ++ esc BPc b := by
  match r, h with
  | a :: t, h =>
    refine ⟨a, (a :: t).getLast (by simp), List.mem_cons_self, List.getLast_mem _, rfl, List.getLast?_eq_some_getLast (by simp), ?_⟩
    unfold fl
    rw [if_pos h]
    congr 2
theorem fl_short {r : List Nat} (h : ¬ 2 < r.length) : fl r = (r.map (esc BPc)).flatten := by
  unfold fl
  rw [if_neg h, List.flatMap_def]
def btw (a b : Nat) : List Nat := (SG.drop (fi a SG)).take (fi b SG + 1 - fi a SG)
theorem btw_sub (a b : Nat) : (btw a b).Sublist SG := (List.take_sublist _ _).trans (List.drop_sublist _ _)
def wrs (R : List Run) : List Nat := (R.map fun q => fl (btw q.1 q.2)).flatten
theorem btw_one {i c : Nat} (h : SG[i]? = some c) : btw c c = [c] := by
  unfold btw
  rw [fi_at h, show i + 1 - i = 0 + 1 by omega, List.take_add_one, List.take_zero, List.getElem?_drop, Nat.add_zero, h]
  rfl
theorem btw_snoc {i a d c : Nat} (h : SG[i]? = some c) (hd : fi d SG + 1 = i) (ha : fi a SG ≤ fi d SG) : btw a d ++ [c] = btw a c := by
  unfold btw
  rw [fi_at h, show i + 1 - fi a SG = (fi d SG + 1 - fi a SG) + 1 by omega, List.take_add_one, List.getElem?_drop, show fi a SG + (fi d SG + 1 - fi a SG) = i by omega, h]
  rfl
theorem wrs_snoc (R : List Run) (q : Run) : wrs (R ++ [q]) = wrs R ++ fl (btw q.1 q.2) := by
  unfold wrs
  rw [List.map_append, List.flatten_append]
  simp
structure In9 (cs : List Nat) (i : Nat) (wr run : List Nat) : Prop where
  ok : (run = [] ∧ bit cs i = false ∧ wr = wrs (runsL (part cs i))) ∨ (bit cs i = true ∧ ∃ R0 a d, runsL (part cs i) = R0 ++ [(a, d)] ∧ wr = wrs R0 ∧ fi d SG + 1 = i ∧ fi a SG ≤ fi d SG ∧ run = btw a d)
theorem In9.zero (cs : List Nat) : In9 cs 0 [] [] := ⟨.inl ⟨rfl, rfl, rfl⟩⟩
theorem In9.flush {cs : List Nat} {i : Nat} {wr run : List Nat} (h : In9 cs i wr run) : wr ++ fl run = wrs (runsL (part cs i)) := by
  rcases h.ok with ⟨rfl, _, e⟩ | ⟨_, R0, a, d, e1, e2, _, _, e3⟩
  · rw [e, fl_nil, List.append_nil]
  · rw [e1, wrs_snoc, e2, e3]
theorem In9.sub {cs : List Nat} {i : Nat} {wr run : List Nat} (h : In9 cs i wr run) : run.Sublist SG := by
  rcases h.ok with ⟨rfl, _, e⟩ | ⟨_, R0, a, d, e1, e2, _, _, e3⟩
  · exact List.nil_sublist _
  · rw [e3]; exact btw_sub _ _
theorem wrs_len (R : List Run) : (wrs R).length ≤ 5 * R.length := by
  induction R with
  | nil => simp [wrs]
  | cons q R ih =>
    have e : wrs (q :: R) = fl (btw q.1 q.2) ++ wrs R := rfl
    rw [e, List.length_append, List.length_cons]
    have := fl_len (btw q.1 q.2)
    omega
theorem In9.len {cs : List Nat} {i : Nat} {wr run : List Nat} (h : In9 cs i wr run) : wr.length ≤ 480 := by
  have h1 : (runsL (part cs i)).length ≤ 96 := Nat.le_trans (runs_len _) (sub_len (List.filter_sublist.trans (List.take_sublist _ _)))
  have h2 := congrArg List.length h.flush
  rw [List.length_append] at h2
  have := wrs_len (runsL (part cs i))
  omega
theorem bit_succ {cs : List Nat} {i c : Nat} (h : SG[i]? = some c) : bit cs (i + 1) = decide (c ∈ cs) := by
  show decide (SG.getD i 0 ∈ cs) = _
  obtain ⟨h1, h2⟩ := List.getElem?_eq_some_iff.mp h
  rw [← h2]
  simp [List.getD, h1]
theorem In9.yes {cs : List Nat} {i c : Nat} {wr run : List Nat} (hi : SG[i]? = some c) (hc : c ∈ cs) (h : In9 cs i wr run) : In9 cs (i + 1) wr (run ++ [c]) := by
  have hp : part cs (i + 1) = part cs i ++ [c] := by rw [part_succ hi, if_pos hc]
  have hb : bit cs (i + 1) = true := by rw [bit_succ hi, decide_eq_true hc]
  refine ⟨.inr ⟨hb, ?_⟩⟩
  rw [hp, runs_snoc]
  rcases h.ok with ⟨rfl, b, e⟩ | ⟨b, R0, a, d, e1, e2, e3, e4, e5⟩
  · refine ⟨runsL (part cs i), c, c, ?_, e, by rw [fi_at hi], Nat.le_refl _, ?_⟩
    · unfold stepL
      rw [if_neg (bit_no hi b)]
    · rw [btw_one hi]; rfl
  · refine ⟨R0, a, c, ?_, e2, by rw [fi_at hi], by rw [fi_at hi]; omega, ?_⟩
    · unfold stepL
      rw [if_pos (bit_yes hi b)]
      unfold ext
      rw [e1, lst_snoc, List.dropLast_concat]
    · rw [e5, btw_snoc hi e3 e4]
theorem In9.no {cs : List Nat} {i c : Nat} {wr run : List Nat} (hi : SG[i]? = some c) (hc : ¬ c ∈ cs) (h : In9 cs i wr run) : In9 cs (i + 1) (wr ++ fl run) [] := by
  have hp : part cs (i + 1) = part cs i := by rw [part_succ hi, if_neg hc, List.append_nil]
  refine ⟨.inl ⟨rfl, by rw [bit_succ hi, decide_eq_false hc], ?_⟩⟩
  rw [hp, h.flush]
end My
namespace My
open PySem L2
def wset (cs : List Nat) : List Nat := if cs.length = 1 then esc SPc (cs.headD 0) else if cNot cs = [10] then [46] else
  if (wrs (runsL (cNot cs)) ++ [93]).length + 1 + 1 < (wrs (runsL cs) ++ [93]).length + 1 then 91 :: 94 :: (wrs (runsL (cNot cs)) ++ [93]) else 91 :: (wrs (runsL cs) ++ [93])
def sp_wsign : Sp := fun vs H Q _ => ∃ (c : Nat) (sp : List Nat), vs = [.str (tx [c]), .str (tx sp)] ∧ Q (.str (tx (esc sp c))) H
def sp_wrun : Sp := fun vs H Q _ => ∃ (a b : Nat), vs = [.str (tx [a]), .str (tx [b])] ∧ a ∈ SG ∧ b ∈ SG ∧ ∀ H', Same H H' → Q (.str (tx (fl (btw a b)))) H'
def sp_wmem (C : Addr) : Sp := fun vs H Q _ => ∃ (x : Addr) (cs : List Nat), vs = [.ref x] ∧ Sgs C H x cs ∧ cs.Sublist SG ∧ ∀ H', Same H H' → Q (.str (tx (wrs (runsL cs)))) H'
def sp_wset : Sp := fun vs H Q _ => ∃ (cs : List Nat), vs = [.str (tx cs)] ∧ cs.Sublist SG ∧ ∀ H', Same H H' → Q (.str (tx (wset cs))) H'
def sp_wpat (K : PySem.W.Frag) : Sp := fun vs H Q _ => ∃ (t : Addr) (cs : List Nat), vs = [.ref t] ∧ SqT K H t [.str (Str.ofString "set"), .str (tx cs)] ∧ cs.Sublist SG ∧ ∀ H', Same H H' → Q (.str (tx (wset cs))) H'
def sp_Lesc : Sp := fun vs H Q _ => ∃ (c : Nat) (sp : List Nat), vs = [.str (tx [c]), .str (tx sp)] ∧ ¬ 10 ∈ sp ∧ ¬ 9 ∈ sp ∧ Q (.str (tx (esc sp c))) H
def sp_Lins : Sp := fun vs H Q _ => ∃ (cs : List Nat), vs = [.str (tx cs)] ∧ cs.Sublist SG ∧ ∀ H', Same H H' → Q (.str (tx (wrs (runsL cs)))) H'
def sp_Ldset : Sp := fun vs H Q _ => ∃ (d l : Addr), vs = [.ref d] ∧ Drw H d l ∧ ∀ (cs : List Nat) (H' : Hp), cs.Sublist SG → Drw H' d l → But d H H' → Q (.str (tx cs)) H'
end My
namespace My
open PySem L2
/-! ### the draw list, whatever its last number -/
def Dry (H : Hp) (d l : Addr) : Prop := ∃ (a b c e : Int) (ds : List Int), d ≠ l ∧ H d = some (.lst [.int a, .int b, .int c, .ref l, .int e]) ∧ H l = some (.lst (ds.map V.int)) ∧ 0 ≤ a
theorem Drw.y {H : Hp} {d l : Addr} (h : Drw H d l) : Dry H d l := by
  obtain ⟨a, b, c, ds, n, h1, h2, h3⟩ := h
  exact ⟨a, b, c, 3, ds, n, h1, h2, h3⟩
theorem Dry.same {H H' : Hp} {d l : Addr} (h : Dry H d l) (s : Same H H') : Dry H' d l := by
  obtain ⟨a, b, c, e, ds, n, h1, h2, h3⟩ := h
  exact ⟨a, b, c, e, ds, n, s _ _ h1, s _ _ h2, h3⟩
theorem Dry.new {H : Hp} {d l p : Addr} {o : HO} (h : Dry H d l) (n : H p = none) : Dry (upd H p o) d l := h.same (same_upd n)
theorem Dry.ne {H : Hp} {d l p : Addr} (h : Dry H d l) (n : H p = none) : p ≠ d := by
  obtain ⟨a, b, c, e, ds, n', h1, h2, h3⟩ := h
  exact fun q => by rw [q, h1] at n; cases n
theorem Dry.nel {H : Hp} {d l p : Addr} (h : Dry H d l) (n : H p = none) : p ≠ l := by
  obtain ⟨a, b, c, e, ds, n', h1, h2, h3⟩ := h
  exact fun q => by rw [q, h2] at n; cases n
theorem Dry.put {H : Hp} {d l p : Addr} {o : HO} (h : Dry H d l) (n1 : p ≠ d) (n2 : p ≠ l) : Dry (upd H p o) d l := by
  obtain ⟨a, b, c, e, ds, n', h1, h2, h3⟩ := h
  exact ⟨a, b, c, e, ds, n', (upd_ne n1.symm).trans h1, (upd_ne n2.symm).trans h2, h3⟩
theorem Dry.tup {H : Hp} {d l p : Addr} {xs : List V} (h : Dry H d l) (e : H p = some (.tup xs)) : p ≠ d := by
  obtain ⟨_, _, _, _, _, _, h1, _⟩ := h
  exact fun q => by rw [q, h1] at e; cases e
/-! ### trees -/
inductive Tr where
  | empty
  | set (cs : List Nat)
  | edge (k : List Nat)
  | same (n : List Nat)
  | seq (ts : List Tr)
  | alt (ts : List Tr)
  | rep (t : Tr) (lo : Int) (hi : Option Int) (lazy : Bool)
  | grp (n : List Nat) (t : Tr)
  | look (side : List Nat) (w : Bool) (t : Tr)
def hiV : Option Int → V
  | none => .non
  | some i => .int i
mutual
inductive TrAt (K : PySem.W.Frag) (H : Hp) : Tr → V → Prop where
  | empty {a : Addr} (h : SqT K H a [.str (Str.ofString "empty")]) : TrAt K H .empty (.ref a)
  | set {a : Addr} {cs : List Nat} (h : SqT K H a [.str (Str.ofString "set"), .str (tx cs)]) : TrAt K H (.set cs) (.ref a)
  | edge {a : Addr} {k : List Nat} (h : SqT K H a [.str (Str.ofString "edge"), .str (tx k)]) : TrAt K H (.edge k) (.ref a)
  | same {a : Addr} {n : List Nat} (h : SqT K H a [.str (Str.ofString "same"), .str (tx n)]) : TrAt K H (.same n) (.ref a)
  | seq {a b : Addr} {ts : List Tr} {vs : List V} (h : SqT K H a [.str (Str.ofString "seq"), .ref b]) (h2 : SqT K H b vs) (hk : TrsAt K H ts vs) : TrAt K H (.seq ts) (.ref a)
  | alt {a b : Addr} {ts : List Tr} {vs : List V} (h : SqT K H a [.str (Str.ofString "alt"), .ref b]) (h2 : SqT K H b vs) (hk : TrsAt K H ts vs) : TrAt K H (.alt ts) (.ref a)
  | rep {a : Addr} {t : Tr} {v : V} {lo : Int} {hi : Option Int} {lz : Bool} (h : SqT K H a [.str (Str.ofString "repeat"), v, .int lo, hiV hi, .bl lz]) (ht : TrAt K H t v) : TrAt K H (.rep t lo hi lz) (.ref a)
  | grp {a : Addr} {n : List Nat} {t : Tr} {v : V} (h : SqT K H a [.str (Str.ofString "group"), .str (tx n), v]) (ht : TrAt K H t v) : TrAt K H (.grp n t) (.ref a)
  | look {a : Addr} {sd : List Nat} {w : Bool} {t : Tr} {v : V} (h : SqT K H a [.str (Str.ofString "look"), .str (tx sd), .bl w, v]) (ht : TrAt K H t v) : TrAt K H (.look sd w t) (.ref a)
inductive TrsAt (K : PySem.W.Frag) (H : Hp) : List Tr → List V → Prop where
  | nil : TrsAt K H [] []
  | cons {t : Tr} {v : V} {ts : List Tr} {vs : List V} (h : TrAt K H t v) (r : TrsAt K H ts vs) : TrsAt K H (t :: ts) (v :: vs)
end
/-- the tuples stand -/
def Tk (K : PySem.W.Frag) (H H' : Hp) : Prop := ∀ a xs, SqT K H a xs → SqT K H' a xs
mutual
theorem TrAt.keep {K : PySem.W.Frag} {H H' : Hp} (k : Tk K H H') : ∀ {t : Tr} {v : V}, TrAt K H t v → TrAt K H' t v
  | _, _, .empty h => .empty (k _ _ h)
  | _, _, .set h => .set (k _ _ h)
  | _, _, .edge h => .edge (k _ _ h)
  | _, _, .same h => .same (k _ _ h)
  | _, _, .seq h h2 hk => .seq (k _ _ h) (k _ _ h2) (TrsAt.keep k hk)
  | _, _, .alt h h2 hk => .alt (k _ _ h) (k _ _ h2) (TrsAt.keep k hk)
  | _, _, .rep h ht => .rep (k _ _ h) (TrAt.keep k ht)
  | _, _, .grp h ht => .grp (k _ _ h) (TrAt.keep k ht)
  | _, _, .look h ht => .look (k _ _ h) (TrAt.keep k ht)
theorem TrsAt.keep {K : PySem.W.Frag} {H H' : Hp} (k : Tk K H H') : ∀ {ts : List Tr} {vs : List V}, TrsAt K H ts vs → TrsAt K H' ts vs
  | _, _, .nil => .nil
  | _, _, .cons h r => .cons (TrAt.keep k h) (TrsAt.keep k r)
end
theorem TrsAt.snoc {K : PySem.W.Frag} {H : Hp} : ∀ {ts : List Tr} {vs : List V} {t : Tr} {v : V}, TrsAt K H ts vs → TrAt K H t v → TrsAt K H (ts ++ [t]) (vs ++ [v])
  | _, _, _, _, .nil, h => .cons h .nil
  | _, _, _, _, .cons h r, h2 => .cons h (TrsAt.snoc r h2)
theorem TrsAt.len {K : PySem.W.Frag} {H : Hp} : ∀ {ts : List Tr} {vs : List V}, TrsAt K H ts vs → vs.length = ts.length
  | _, _, .nil => rfl
  | _, _, .cons _ r => by rw [List.length_cons, List.length_cons, r.len]
theorem Tk.refl (K : PySem.W.Frag) (H : Hp) : Tk K H H := fun _ _ h => h
theorem Tk.trans {K : PySem.W.Frag} {H H1 H2 : Hp} (a : Tk K H H1) (b : Tk K H1 H2) : Tk K H H2 := fun _ _ h => b _ _ (a _ _ h)
theorem Tk.same {K : PySem.W.Frag} {H H' : Hp} (s : Same H H') : Tk K H H' := fun a xs h =>
  h.elim (fun h => .inl (h.elim (fun h => .inl (s _ _ h)) fun ⟨o, h⟩ => .inr ⟨o, s _ _ h⟩)) fun h => .inr h
/-- all that is tracked stands, but lists at some places -/
def Bl (H H' : Hp) : Prop := ∀ b o, H b = some o → H' b = some o ∨ ∃ xs ys, o = .lst xs ∧ H' b = some (.lst ys)
theorem Tk.bl {K : PySem.W.Frag} {H H' : Hp} (s : Bl H H') : Tk K H H' := fun a xs h => by
  rcases h with (h | ⟨o, h⟩) | h
  · rcases s _ _ h with h2 | ⟨_, _, e, _⟩
    · exact .inl (.inl h2)
    · cases e
  · rcases s _ _ h with h2 | ⟨_, _, e, _⟩
    · exact .inl (.inr ⟨o, h2⟩)
    · cases e
  · exact .inr h
theorem Bl.refl (H : Hp) : Bl H H := fun _ _ h => .inl h
theorem Bl.same {H H' : Hp} (s : Same H H') : Bl H H' := fun _ _ h => .inl (s _ _ h)
theorem Bl.trans {H H1 H2 : Hp} (a : Bl H H1) (b : Bl H1 H2) : Bl H H2 := fun c o h => by
  rcases a c o h with h1 | ⟨xs, ys, e, h1⟩
  · exact b c o h1
  · subst e
    rcases b c _ h1 with h2 | ⟨xs2, ys2, e2, h2⟩
    · exact .inr ⟨_, _, rfl, h2⟩
    · exact .inr ⟨_, _, rfl, h2⟩
theorem Bl.put {H : Hp} {a : Addr} {xs ys : List V} (h : H a = some (.lst xs)) : Bl H (upd H a (.lst ys)) := fun b o e => by
  by_cases hb : b = a
  · subst hb
    rw [h] at e
    cases e
    exact .inr ⟨_, _, rfl, upd_same⟩
  · exact .inl (by rw [upd_ne hb]; exact e)
/-- a list of texts, all among L -/
def Kn (H : Hp) (k : Addr) (L : List (List Nat)) (m : Nat) : Prop := ∃ ns : List (List Nat), H k = some (.lst (ns.map fun n => V.str (tx n))) ∧ (∀ n ∈ ns, n ∈ L) ∧ ns.length ≤ m
theorem Kn.same {H H' : Hp} {k : Addr} {L : List (List Nat)} {m : Nat} (h : Kn H k L m) (s : Same H H') : Kn H' k L m := by
  obtain ⟨ns, a, b, c⟩ := h
  exact ⟨ns, s _ _ a, b, c⟩
theorem Kn.but {H H' : Hp} {k d : Addr} {L : List (List Nat)} {m : Nat} (h : Kn H k L m) (n : k ≠ d) (s : But d H H') : Kn H' k L m := by
  obtain ⟨ns, a, b, c⟩ := h
  exact ⟨ns, s _ _ n a, b, c⟩
/-- all but the lists at d and k stands -/
def Bt (d k : Addr) (H H' : Hp) : Prop := ∀ b o, b ≠ d → b ≠ k → H b = some o → H' b = some o
theorem Bt.refl (d k : Addr) (H : Hp) : Bt d k H H := fun _ _ _ _ h => h
theorem Bt.trans {d k : Addr} {H H1 H2 : Hp} (a : Bt d k H H1) (b : Bt d k H1 H2) : Bt d k H H2 := fun c o n m h => b c o n m (a c o n m h)
theorem Bt.but {d k : Addr} {H H' : Hp} (a : But d H H') : Bt d k H H' := fun c o n _ h => a c o n h
theorem Bt.same {d k : Addr} {H H' : Hp} (a : Same H H') : Bt d k H H' := fun c o _ _ h => a c o h
theorem Bt.put {d k : Addr} {H : Hp} {o : HO} : Bt d k H (upd H k o) := fun c u n m h => by rw [upd_ne m]; exact h
/-- nothing but the lists at d and k changes: the tuples stand -/
theorem Bt.tk {K : PySem.W.Frag} {d k : Addr} {H H' : Hp} (s : Bt d k H H') (hd : ∃ xs, H d = some (.lst xs)) (hk : ∃ xs, H k = some (.lst xs)) : Tk K H H' := fun a xs h => by
  obtain ⟨ds, hd⟩ := hd
  obtain ⟨ks, hk⟩ := hk
  have ne : ∀ o, H a = some o → (∀ xs, o ≠ .lst xs) → a ≠ d ∧ a ≠ k := fun o e n => ⟨fun z => by rw [z, hd] at e; cases e; exact n _ rfl, fun z => by rw [z, hk] at e; cases e; exact n _ rfl⟩
  rcases h with (h | ⟨o, h⟩) | h
  · obtain ⟨n1, n2⟩ := ne _ h (fun _ z => by cases z)
    exact .inl (.inl (s _ _ n1 n2 h))
  · obtain ⟨n1, n2⟩ := ne _ h (fun _ z => by cases z)
    exact .inl (.inr ⟨o, s _ _ n1 n2 h⟩)
  · exact .inr h
theorem But.tk {K : PySem.W.Frag} {d l : Addr} {H H' : Hp} (s : But d H H') (h : Dry H d l) : Tk K H H' := by
  obtain ⟨a, b, c, e, ds, n, h1, _⟩ := h
  exact Bt.tk (k := d) (fun b o n _ h => s b o n h) ⟨_, h1⟩ ⟨_, h1⟩
theorem join_goW {K : PySem.W.Frag} {H : Hp} {D : Addr} {cs : List Nat} {R : List Str → Prop} (hD : SqL K H D (cs.map fun c => V.str (tx [c]))) (h : cs.length ≤ 10000) (q : ∀ ys, Txt.join (tx []) ys = tx cs → R ys) :
    ∃ ys : List Str, (SqL K H D (ys.map V.str) ∨ SqT K H D (ys.map V.str)) ∧ (ys.map (·.length)).sum + ys.length * 0 ≤ 16777216 ∧ R ys := by
  obtain ⟨ys, a, b, c⟩ := join_w (cs := cs) hD h
  exact ⟨ys, a, b, q ys c⟩
/-- l.insert(i, y) -/
def rIns : V → List V → Hp → VK → Prop := fun x vs H Q => ∃ (p : Addr) (ys : List V) (k : Int) (z : V),
  x = .ref p ∧ vs = [.int k, z] ∧ H p = some (.lst ys) ∧
    ys.length < sizeLine ∧ 0 ≤ k ∧ k < 2 ^ 63 ∧ Q .non (upd H p (.lst (ys.take k.toNat ++ [z] ++ ys.drop k.toNat)))
theorem mt_insertM {X : Cx} : MtR X "list.insert" rIns := mt_insert
def rTupOf (K : PySem.W.Frag) : List V → Hp → VK → Prop := fun xs H Q => ∃ p ys, xs = [.ref p] ∧ ((SqL K H p ys ∧ ∀ l, H l = none → Q (.ref l) (upd H l (.tup ys))) ∨ (SqT K H p ys ∧ Q (.ref p) H))
theorem call_tupO {X : Cx} : CallR X (.type "tuple") (rTupOf X.K) := call_tuple_of
end My
namespace My
open PySem L2
def kids : Tr → List Tr
  | .seq ts => ts
  | .alt ts => ts
  | .rep t _ _ _ => [t]
  | .grp _ t => [t]
  | .look _ _ t => [t]
  | .empty => []
  | .set _ => []
  | .edge _ => []
  | .same _ => []
/-- not deeper than n -/
inductive Dp : Nat → Tr → Prop where
  | mk {n : Nat} {t : Tr} (h : ∀ c ∈ kids t, Dp n c) : Dp (n + 1) t
theorem Dp.zero' {t : Tr} (h : Dp 0 t) : False := by cases h
theorem Dp.kid {n : Nat} {t c : Tr} (h : Dp (n + 1) t) (hc : c ∈ kids t) : Dp n c := by
  cases h with
  | mk h => exact h c hc
mutual
def sz : Tr → Nat
  | .seq ts => 1 + szs ts
  | .alt ts => 1 + szs ts
  | .rep t _ _ _ => 1 + sz t
  | .grp _ t => 1 + sz t
  | .look _ _ t => 1 + sz t
  | _ => 1
def szs : List Tr → Nat
  | [] => 0
  | t :: ts => sz t + szs ts
end
theorem sz_kids (t : Tr) : sz t = 1 + szs (kids t) := by
  cases t <;> simp [sz, szs, kids]
theorem szs_app : ∀ a b : List Tr, szs (a ++ b) = szs a + szs b
  | [], b => by simp [szs]
  | t :: a, b => by rw [List.cons_append, szs, szs, szs_app a b]; omega
theorem szs_mem {t : Tr} : ∀ {ts : List Tr}, t ∈ ts → sz t ≤ szs ts
  | x :: ts, h => by
    rw [szs]
    rcases List.mem_cons.mp h with rfl | h
    · omega
    · have := szs_mem h
      omega
theorem sz_pos (t : Tr) : 1 ≤ sz t := by rw [sz_kids]; omega
theorem len_szs : ∀ ts : List Tr, ts.length ≤ szs ts
  | [] => by simp [szs]
  | t :: ts => by
    have := len_szs ts
    have := sz_pos t
    rw [List.length_cons, szs]
    omega
theorem szs_take (ts : List Tr) (i : Nat) : szs (ts.take i) ≤ szs ts := by
  conv => rhs; rw [← List.take_append_drop i ts]
  rw [szs_app]
  omega
mutual
def pathsT : Tr → List (List Int)
  | .seq ts => [] :: pathsK 0 ts
  | .alt ts => [] :: pathsK 0 ts
  | .rep t _ _ _ => [] :: (pathsT t).map (fun p => (0 : Int) :: p)
  | .grp _ t => [] :: (pathsT t).map (fun p => (0 : Int) :: p)
  | .look _ _ t => [] :: (pathsT t).map (fun p => (0 : Int) :: p)
  | _ => [[]]
def pathsK : Nat → List Tr → List (List Int)
  | _, [] => []
  | i, t :: ts => (pathsT t).map (fun p => (i : Int) :: p) ++ pathsK (i + 1) ts
end
theorem paths_kids (t : Tr) : pathsT t = [] :: pathsK 0 (kids t) := by
  cases t <;> simp [pathsT, pathsK, kids]
theorem pathsK_snoc : ∀ (i : Nat) (ts : List Tr) (t : Tr), pathsK i (ts ++ [t]) = pathsK i ts ++ (pathsT t).map (fun p => ((i + ts.length : Nat) : Int) :: p)
  | i, [], t => by simp [pathsK]
  | i, x :: ts, t => by
    rw [List.cons_append, pathsK, pathsK, pathsK_snoc (i + 1) ts t, List.append_assoc, List.length_cons, show i + 1 + ts.length = i + (ts.length + 1) by omega]
mutual
theorem paths_len : ∀ t : Tr, (pathsT t).length = sz t
  | .seq ts => by rw [pathsT, List.length_cons, pathsK_len 0 ts, sz]; omega
  | .alt ts => by rw [pathsT, List.length_cons, pathsK_len 0 ts, sz]; omega
  | .rep t _ _ _ => by rw [pathsT, List.length_cons, List.length_map, paths_len t, sz]; omega
  | .grp _ t => by rw [pathsT, List.length_cons, List.length_map, paths_len t, sz]; omega
  | .look _ _ t => by rw [pathsT, List.length_cons, List.length_map, paths_len t, sz]; omega
  | .empty => rfl
  | .set _ => rfl
  | .edge _ => rfl
  | .same _ => rfl
theorem pathsK_len : ∀ (i : Nat) (ts : List Tr), (pathsK i ts).length = szs ts
  | _, [] => rfl
  | i, t :: ts => by rw [pathsK, List.length_append, List.length_map, paths_len t, pathsK_len (i + 1) ts, szs]
end
theorem pathsK_mem {p : List Int} : ∀ {i : Nat} {ts : List Tr}, p ∈ pathsK i ts → ∃ c ∈ ts, ∃ (j : Nat) (p' : List Int), p' ∈ pathsT c ∧ p = (j : Int) :: p'
  | _, [], h => by simp [pathsK] at h
  | i, t :: ts, h => by
    rw [pathsK] at h
    rcases List.mem_append.mp h with h | h
    · obtain ⟨p', h1, rfl⟩ := List.mem_map.mp h
      exact ⟨t, List.mem_cons_self, i, p', h1, rfl⟩
    · obtain ⟨c, hc, j, p', h1, h2⟩ := pathsK_mem h
      exact ⟨c, List.mem_cons_of_mem _ hc, j, p', h1, h2⟩
theorem path_short : ∀ {n : Nat} {t : Tr} {p : List Int}, Dp (n + 1) t → p ∈ pathsT t → p.length ≤ n
  | n, t, p, hd, hp => by
    rw [paths_kids] at hp
    rcases List.mem_cons.mp hp with rfl | hp
    · exact Nat.zero_le _
    · obtain ⟨c, hc, j, p', h1, rfl⟩ := pathsK_mem hp
      have hk := hd.kid hc
      cases n with
      | zero => cases hk
      | succ n =>
        have := path_short hk h1
        rw [List.length_cons]
        omega
/-- the node at a path -/
def nodeT : Tr → List Int → Option Tr
  | t, [] => some t
  | t, i :: p => if 0 ≤ i then ((kids t)[i.toNat]?).bind fun c => nodeT c p else none
theorem pathsK_at {p : List Int} : ∀ {i : Nat} {ts : List Tr}, p ∈ pathsK i ts → ∃ (j : Nat) (c : Tr) (p' : List Int), ts[j]? = some c ∧ p' ∈ pathsT c ∧ p = ((i + j : Nat) : Int) :: p'
  | _, [], h => by simp [pathsK] at h
  | i, t :: ts, h => by
    rw [pathsK] at h
    rcases List.mem_append.mp h with h | h
    · obtain ⟨p', h1, rfl⟩ := List.mem_map.mp h
      exact ⟨0, t, p', rfl, h1, rfl⟩
    · obtain ⟨j, c, p', h0, h1, h2⟩ := pathsK_at h
      exact ⟨j + 1, c, p', h0, h1, by rw [h2, show i + 1 + j = i + (j + 1) by omega]⟩
theorem node_of : ∀ {p : List Int} {t : Tr}, p ∈ pathsT t → ∃ u, nodeT t p = some u
  | [], t, _ => ⟨t, rfl⟩
  | i :: p, t, h => by
    rw [paths_kids] at h
    rcases List.mem_cons.mp h with h | h
    · cases h
    · obtain ⟨j, c, p', h0, h1, h2⟩ := pathsK_at h
      rw [Nat.zero_add] at h2
      obtain ⟨rfl, rfl⟩ := List.cons.inj h2
      obtain ⟨u, hu⟩ := node_of h1
      refine ⟨u, ?_⟩
      rw [nodeT, if_pos (Int.natCast_nonneg j), Int.toNat_natCast, h0]
      exact hu
/-- a tuple whose items are made of other things -/
theorem reg_tupM {α : Type} (K : PySem.W.Frag) (a : Addr) (F : α → V) (xs : List α) : Reg (Itt K a) xs F (fun H => SqT K H a (xs.map F)) := by
  refine ⟨fun i H h hq => ⟨xs.map F, F xs[i], hq, by simp [h]⟩, fun i H h hq => ⟨xs.map F, hq, by rw [List.length_map]; exact h⟩, fun i v H x H' h hq hy => ?_⟩
  obtain ⟨rfl, f⟩ := hy
  have := f _ hq
  rw [List.getElem?_map, h] at this
  exact ⟨rfl, (Option.some.inj this).symm⟩
theorem iTup_at {K : PySem.W.Frag} {σ : St} {H : Hp} {R : It → Hp → Prop} {r : Addr} {i : Nat} {xs : List V} (hσ : σ[i]? = some (some (.ref r))) (h : SqT K H r xs) (q : R (Itt K r) H) : iTup K (tVar i) σ H R := ⟨_, hσ, r, rfl, ⟨xs, h⟩, q⟩
/-- a list of tuples of numbers -/
structure PathsAt (K : PySem.W.Frag) (H : Hp) (m : Addr) (ps : List (List Int)) (rs : List Addr) : Prop where
  lst : H m = some (.lst (rs.map V.ref))
  len : rs.length = ps.length
  tup : ∀ (i : Nat) r p, rs[i]? = some r → ps[i]? = some p → SqT K H r (p.map V.int)
theorem PathsAt.same {K : PySem.W.Frag} {H H' : Hp} {m : Addr} {ps : List (List Int)} {rs : List Addr} (h : PathsAt K H m ps rs) (s : Same H H') : PathsAt K H' m ps rs :=
  ⟨s _ _ h.lst, h.len, fun i r p a b => Tk.same s _ _ (h.tup i r p a b)⟩
/-- one more, the list at m written anew -/
theorem PathsAt.push {K : PySem.W.Frag} {H H' : Hp} {m r : Addr} {ps : List (List Int)} {rs : List Addr} {p : List Int} (h : PathsAt K H m ps rs) (s : Same H H') (ht : SqT K H' r (p.map V.int)) : PathsAt K (upd H' m (.lst (rs.map V.ref ++ [V.ref r]))) m (ps ++ [p]) (rs ++ [r]) := by
  have tk : Tk K H' (upd H' m (.lst (rs.map V.ref ++ [V.ref r]))) := .bl (.put (s _ _ h.lst))
  refine ⟨by rw [upd_same, List.map_append]; rfl, by rw [List.length_append, List.length_append, h.len]; rfl, fun i u q a b => ?_⟩
  by_cases hi : i < rs.length
  · rw [List.getElem?_append_left hi] at a
    rw [List.getElem?_append_left (by rw [← h.len]; exact hi)] at b
    exact tk _ _ (Tk.same s _ _ (h.tup i u q a b))
  · have h1 := (List.getElem?_eq_some_iff.mp a).1
    rw [List.length_append] at h1
    have ei : i = rs.length := by simp at h1; omega
    subst ei
    rw [List.getElem?_append_right (Nat.le_refl _), Nat.sub_self] at a
    rw [h.len, List.getElem?_append_right (Nat.le_refl _), Nat.sub_self] at b
    cases Option.some.inj a
    cases Option.some.inj b
    exact tk _ _ ht
theorem TrsAt.at {K : PySem.W.Frag} {H : Hp} : ∀ {ts : List Tr} {vs : List V}, TrsAt K H ts vs → ∀ {i : Nat} {t : Tr}, ts[i]? = some t → ∃ v, vs[i]? = some v ∧ TrAt K H t v
  | _, _, .cons h r, 0, t, e => by
    cases Option.some.inj e
    exact ⟨_, rfl, h⟩
  | _, _, .cons h r, i + 1, t, e => TrsAt.at (i := i) r e
end My
namespace My
open PySem L2
/-- plain nested data -/
inductive Da where
  | non
  | bl (b : Bool)
  | int (i : Int)
  | str (s : Str)
  | tup (l : List Da)
mutual
inductive DaAt (K : PySem.W.Frag) (H : Hp) : Da → V → Prop where
  | non : DaAt K H .non .non
  | bl (b : Bool) : DaAt K H (.bl b) (.bl b)
  | int (i : Int) : DaAt K H (.int i) (.int i)
  | str (s : Str) : DaAt K H (.str s) (.str s)
  | tup {a : Addr} {l : List Da} {vs : List V} (h : SqT K H a vs) (r : DasAt K H l vs) : DaAt K H (.tup l) (.ref a)
inductive DasAt (K : PySem.W.Frag) (H : Hp) : List Da → List V → Prop where
  | nil : DasAt K H [] []
  | cons {d : Da} {v : V} {l : List Da} {vs : List V} (h : DaAt K H d v) (r : DasAt K H l vs) : DasAt K H (d :: l) (v :: vs)
end
mutual
theorem DaAt.keep {K : PySem.W.Frag} {H H' : Hp} (k : Tk K H H') : ∀ {d : Da} {v : V}, DaAt K H d v → DaAt K H' d v
  | _, _, .non => .non
  | _, _, .bl b => .bl b
  | _, _, .int i => .int i
  | _, _, .str s => .str s
  | _, _, .tup h r => .tup (k _ _ h) (DasAt.keep k r)
theorem DasAt.keep {K : PySem.W.Frag} {H H' : Hp} (k : Tk K H H') : ∀ {l : List Da} {vs : List V}, DasAt K H l vs → DasAt K H' l vs
  | _, _, .nil => .nil
  | _, _, .cons h r => .cons (DaAt.keep k h) (DasAt.keep k r)
end
theorem DasAt.len {K : PySem.W.Frag} {H : Hp} : ∀ {l : List Da} {vs : List V}, DasAt K H l vs → vs.length = l.length
  | _, _, .nil => rfl
  | _, _, .cons _ r => by rw [List.length_cons, List.length_cons, r.len]
theorem DasAt.at {K : PySem.W.Frag} {H : Hp} : ∀ {l : List Da} {vs : List V}, DasAt K H l vs → ∀ {i : Nat} {d : Da}, l[i]? = some d → ∃ v, vs[i]? = some v ∧ DaAt K H d v
  | _, _, .cons h r, 0, d, e => by
    cases Option.some.inj e
    exact ⟨_, rfl, h⟩
  | _, _, .cons h r, i + 1, d, e => DasAt.at (i := i) r e
/-- not deeper than n, not too wide -/
inductive Dd : Nat → Da → Prop where
  | atom {n : Nat} {d : Da} (h : ∀ l, d ≠ .tup l) : Dd (n + 1) d
  | tup {n : Nat} {l : List Da} (h : ∀ d ∈ l, Dd n d) (w : l.length ≤ 16000000) : Dd (n + 1) (.tup l)
def hiD : Option Int → Da
  | none => .non
  | some i => .int i
mutual
def toDa : Tr → Da
  | .empty => .tup [.str (Str.ofString "empty")]
  | .set cs => .tup [.str (Str.ofString "set"), .str (tx cs)]
  | .edge k => .tup [.str (Str.ofString "edge"), .str (tx k)]
  | .same n => .tup [.str (Str.ofString "same"), .str (tx n)]
  | .seq ts => .tup [.str (Str.ofString "seq"), .tup (toDas ts)]
  | .alt ts => .tup [.str (Str.ofString "alt"), .tup (toDas ts)]
  | .rep t lo hi lz => .tup [.str (Str.ofString "repeat"), toDa t, .int lo, hiD hi, .bl lz]
  | .grp n t => .tup [.str (Str.ofString "group"), .str (tx n), toDa t]
  | .look sd b t => .tup [.str (Str.ofString "look"), .str (tx sd), .bl b, toDa t]
def toDas : List Tr → List Da
  | [] => []
  | t :: ts => toDa t :: toDas ts
end
theorem hi_at {K : PySem.W.Frag} {H : Hp} : ∀ hi : Option Int, DaAt K H (hiD hi) (hiV hi)
  | none => .non
  | some i => .int i
mutual
theorem TrAt.da {K : PySem.W.Frag} {H : Hp} : ∀ {t : Tr} {v : V}, TrAt K H t v → DaAt K H (toDa t) v
  | _, _, .empty h => by rw [toDa]; exact .tup h (.cons (.str _) .nil)
  | _, _, .set h => by rw [toDa]; exact .tup h (.cons (.str _) (.cons (.str _) .nil))
  | _, _, .edge h => by rw [toDa]; exact .tup h (.cons (.str _) (.cons (.str _) .nil))
  | _, _, .same h => by rw [toDa]; exact .tup h (.cons (.str _) (.cons (.str _) .nil))
  | _, _, .seq h h2 hk => by rw [toDa]; exact .tup h (.cons (.str _) (.cons (.tup h2 (TrsAt.das hk)) .nil))
  | _, _, .alt h h2 hk => by rw [toDa]; exact .tup h (.cons (.str _) (.cons (.tup h2 (TrsAt.das hk)) .nil))
  | _, _, .rep (hi := hi) h ht => by rw [toDa]; exact .tup h (.cons (.str _) (.cons (TrAt.da ht) (.cons (.int _) (.cons (hi_at hi) (.cons (.bl _) .nil)))))
  | _, _, .grp h ht => by rw [toDa]; exact .tup h (.cons (.str _) (.cons (.str _) (.cons (TrAt.da ht) .nil)))
  | _, _, .look h ht => by rw [toDa]; exact .tup h (.cons (.str _) (.cons (.str _) (.cons (.bl _) (.cons (TrAt.da ht) .nil))))
theorem TrsAt.das {K : PySem.W.Frag} {H : Hp} : ∀ {ts : List Tr} {vs : List V}, TrsAt K H ts vs → DasAt K H (toDas ts) vs
  | _, _, .nil => by rw [toDas]; exact .nil
  | _, _, .cons h r => by rw [toDas]; exact .cons (TrAt.da h) (TrsAt.das r)
end
/-- isinstance of such data -/
def tyDa : Da → String
  | .non => "NoneType"
  | .bl _ => "bool"
  | .int _ => "int"
  | .str _ => "str"
  | .tup _ => "tuple"
theorem sqt_ty {K : PySem.W.Frag} {H : Hp} {a : Addr} {xs : List V} (h : SqT K H a xs) : TyX K H (.ref a) (.type "tuple") := by
  rcases h with (e | ⟨o, e⟩) | ⟨o, its, n, e, c, _⟩
  · exact .base (.tup e)
  · exact .fTuple e
  · exact .kTuple e c
theorem da_ty {K : PySem.W.Frag} {H : Hp} {d : Da} {v : V} (h : DaAt K H d v) : TyX K H v (.type (tyDa d)) := by
  cases h with
  | non => exact .base .non
  | bl b => exact .base (.bl b)
  | int i => exact .base (.int i)
  | str s => exact .base (.str s)
  | tup h r => exact sqt_ty h
theorem isi_da {K : PySem.W.Frag} {H : Hp} {Q : VK} {d : Da} {v : V} {T : String} {b : Bool} (h : DaAt K H d v) (k : PySem.W.kitOne K (.type (tyDa d)) (.type T) = some b) (q : Q (.bl b) H) : rIsi K [v, .ty T] H Q :=
  ⟨v, .ty T, .type (tyDa d), .type T, b, rfl, .ty _, da_ty h, k, q⟩
end My
namespace My
open PySem L2
mutual
/-- the names of the groups, in preorder -/
def gn : Tr → List (List Nat)
  | .seq ts => gns ts
  | .alt ts => gns ts
  | .rep t _ _ _ => gn t
  | .grp n t => n :: gn t
  | .look _ _ t => gn t
  | .empty => []
  | .set _ => []
  | .edge _ => []
  | .same _ => []
def gns : List Tr → List (List Nat)
  | [] => []
  | t :: ts => gn t ++ gns ts
end
mutual
/-- each same has its group before it, or among ns -/
def wf : List (List Nat) → Tr → Prop
  | ns, .same n => n ∈ ns
  | ns, .seq ts => wfs ns ts
  | ns, .alt ts => wfs ns ts
  | ns, .rep t _ _ _ => wf ns t
  | ns, .grp n t => wf (ns ++ [n]) t
  | ns, .look _ _ t => wf ns t
  | _, .empty => True
  | _, .set _ => True
  | _, .edge _ => True
def wfs : List (List Nat) → List Tr → Prop
  | _, [] => True
  | ns, t :: ts => wf ns t ∧ wfs (ns ++ gn t) ts
end
mutual
/-- the names of the sames -/
def sm : Tr → List (List Nat)
  | .same n => [n]
  | .seq ts => sms ts
  | .alt ts => sms ts
  | .rep t _ _ _ => sm t
  | .grp _ t => sm t
  | .look _ _ t => sm t
  | .empty => []
  | .set _ => []
  | .edge _ => []
def sms : List Tr → List (List Nat)
  | [] => []
  | t :: ts => sm t ++ sms ts
end
theorem gns_app : ∀ a b : List Tr, gns (a ++ b) = gns a ++ gns b
  | [], b => by simp [gns]
  | t :: a, b => by rw [List.cons_append, gns, gns, gns_app a b, List.append_assoc]
theorem sms_app : ∀ a b : List Tr, sms (a ++ b) = sms a ++ sms b
  | [], b => by simp [sms]
  | t :: a, b => by rw [List.cons_append, sms, sms, sms_app a b, List.append_assoc]
theorem wfs_app : ∀ (ns : List (List Nat)) (a b : List Tr), wfs ns (a ++ b) ↔ wfs ns a ∧ wfs (ns ++ gns a) b
  | ns, [], b => by simp [wfs, gns]
  | ns, t :: a, b => by rw [List.cons_append, wfs, wfs, wfs_app _ a b, gns, List.append_assoc, and_assoc]
theorem wfs_one {ns : List (List Nat)} {t : Tr} : wfs ns [t] ↔ wf ns t := by simp [wfs]
theorem gns_one {t : Tr} : gns [t] = gn t := by simp [gns]
mutual
theorem wf_sm : ∀ {t : Tr} {ns : List (List Nat)}, wf ns t → ∀ n ∈ sm t, n ∈ ns ++ gn t
  | .same n, ns, h, m, hm => by
    rw [sm, List.mem_singleton] at hm
    rw [wf] at h
    rw [hm, gn, List.append_nil]
    exact h
  | .seq ts, ns, h, m, hm => by
    rw [wf] at h
    rw [sm] at hm
    rw [gn]
    exact wfs_sms h m hm
  | .alt ts, ns, h, m, hm => by
    rw [wf] at h
    rw [sm] at hm
    rw [gn]
    exact wfs_sms h m hm
  | .rep t _ _ _, ns, h, m, hm => by
    rw [wf] at h
    rw [sm] at hm
    rw [gn]
    exact wf_sm h m hm
  | .look _ _ t, ns, h, m, hm => by
    rw [wf] at h
    rw [sm] at hm
    rw [gn]
    exact wf_sm h m hm
  | .grp n t, ns, h, m, hm => by
    rw [wf] at h
    rw [sm] at hm
    rw [gn]
    have := wf_sm h m hm
    rw [List.append_assoc] at this
    exact this
  | .empty, ns, h, m, hm => by simp [sm] at hm
  | .set _, ns, h, m, hm => by simp [sm] at hm
  | .edge _, ns, h, m, hm => by simp [sm] at hm
theorem wfs_sms : ∀ {ts : List Tr} {ns : List (List Nat)}, wfs ns ts → ∀ n ∈ sms ts, n ∈ ns ++ gns ts
  | [], ns, h, m, hm => by simp [sms] at hm
  | t :: ts, ns, h, m, hm => by
    rw [wfs] at h
    rw [sms] at hm
    rw [gns, ← List.append_assoc]
    rcases List.mem_append.mp hm with h2 | h2
    · exact List.mem_append_left _ (wf_sm h.1 m h2)
    · exact wfs_sms h.2 m h2
end
mutual
theorem wf_mono : ∀ {t : Tr} {ns ms : List (List Nat)}, (∀ n ∈ ns, n ∈ ms) → wf ns t → wf ms t
  | .same n, ns, ms, s, h => by rw [wf] at h ⊢; exact s _ h
  | .seq ts, ns, ms, s, h => by rw [wf] at h ⊢; exact wfs_mono s h
  | .alt ts, ns, ms, s, h => by rw [wf] at h ⊢; exact wfs_mono s h
  | .rep t _ _ _, ns, ms, s, h => by rw [wf] at h ⊢; exact wf_mono s h
  | .look _ _ t, ns, ms, s, h => by rw [wf] at h ⊢; exact wf_mono s h
  | .grp n t, ns, ms, s, h => by
    rw [wf] at h ⊢
    exact wf_mono (fun x hx => by
      rcases List.mem_append.mp hx with h | h
      · exact List.mem_append_left _ (s _ h)
      · exact List.mem_append_right _ h) h
  | .empty, ns, ms, s, h => by rw [wf]; trivial
  | .set _, ns, ms, s, h => by rw [wf]; trivial
  | .edge _, ns, ms, s, h => by rw [wf]; trivial
theorem wfs_mono : ∀ {ts : List Tr} {ns ms : List (List Nat)}, (∀ n ∈ ns, n ∈ ms) → wfs ns ts → wfs ms ts
  | [], ns, ms, s, h => by rw [wfs]; trivial
  | t :: ts, ns, ms, s, h => by
    rw [wfs] at h ⊢
    exact ⟨wf_mono s h.1, wfs_mono (fun x hx => by
      rcases List.mem_append.mp hx with h | h
      · exact List.mem_append_left _ (s _ h)
      · exact List.mem_append_right _ h) h.2⟩
end
mutual
/-- the forms that a kind of draw lets in: 0 plain, 1 regular, 2 any, 3 inside a look -/
def kdOk : Int → Tr → Prop
  | _, .empty => True
  | _, .set _ => True
  | kd, .edge _ => 0 < kd
  | kd, .same _ => kd = 2
  | kd, .seq ts => kdsOk kd ts
  | kd, .alt ts => kdsOk kd ts
  | kd, .rep t _ _ _ => kdOk kd t
  | kd, .grp _ t => kd < 3 ∧ kdOk kd t
  | kd, .look _ _ t => (kd = 1 ∨ kd = 2) ∧ kdOk 3 t
def kdsOk : Int → List Tr → Prop
  | _, [] => True
  | kd, t :: ts => kdOk kd t ∧ kdsOk kd ts
end
theorem kdsOk_app (kd : Int) : ∀ a b : List Tr, kdsOk kd (a ++ b) ↔ kdsOk kd a ∧ kdsOk kd b
  | [], b => by simp [kdsOk]
  | t :: a, b => by rw [List.cons_append, kdsOk, kdsOk, kdsOk_app kd a b, and_assoc]
theorem kdsOk_one {kd : Int} {t : Tr} : kdsOk kd [t] ↔ kdOk kd t := by simp [kdsOk]
/-- the list of the known names -/
def Ks (H : Hp) (k : Addr) (L ns : List (List Nat)) : Prop := H k = some (.lst (ns.map fun n => V.str (tx n))) ∧ (∀ n ∈ ns, n ∈ L) ∧ ns.length ≤ 10
theorem Ks.same {H H' : Hp} {k : Addr} {L ns : List (List Nat)} (h : Ks H k L ns) (s : Same H H') : Ks H' k L ns := ⟨s _ _ h.1, h.2⟩
theorem Ks.but {H H' : Hp} {k d : Addr} {L ns : List (List Nat)} (h : Ks H k L ns) (n : k ≠ d) (s : But d H H') : Ks H' k L ns := ⟨s _ _ n h.1, h.2⟩
theorem Ks.put {H : Hp} {k p : Addr} {o : HO} {L ns : List (List Nat)} (h : Ks H k L ns) (n : k ≠ p) : Ks (upd H p o) k L ns := ⟨by rw [upd_ne n]; exact h.1, h.2⟩
end My
namespace My
open PySem L2
def isLook : Tr → Bool
  | .look _ _ _ => true
  | _ => false
def isSame : Tr → Bool
  | .same _ => true
  | _ => false
def isEdge : Tr → Bool
  | .edge _ => true
  | _ => false
/-- the numbers of a repeat are small -/
def repOk : Tr → Prop
  | .rep _ lo hi _ => 0 ≤ lo ∧ lo ≤ 9 ∧ ∀ h, hi = some h → 0 ≤ h ∧ h ≤ 9
  | _ => True
abbrev Pl := List Int × Tr × Bool
mutual
/-- the places of a tree in preorder: path, node, whether a look is above -/
def placesT : Tr → List Int → Bool → List Pl
  | .seq ts, p, b => (p, .seq ts, b) :: placesK 0 ts p b
  | .alt ts, p, b => (p, .alt ts, b) :: placesK 0 ts p b
  | .rep t lo hi lz, p, b => (p, .rep t lo hi lz, b) :: placesT t (p ++ [0]) b
  | .grp n t, p, b => (p, .grp n t, b) :: placesT t (p ++ [0]) b
  | .look s w t, p, b => (p, .look s w t, b) :: placesT t (p ++ [0]) true
  | .empty, p, b => [(p, .empty, b)]
  | .set c, p, b => [(p, .set c, b)]
  | .edge k, p, b => [(p, .edge k, b)]
  | .same n, p, b => [(p, .same n, b)]
def placesK : Nat → List Tr → List Int → Bool → List Pl
  | _, [], _, _ => []
  | i, t :: ts, p, b => placesT t (p ++ [(i : Int)]) b ++ placesK (i + 1) ts p b
end
theorem places_kids (t : Tr) (p : List Int) (b : Bool) : placesT t p b = (p, t, b) :: placesK 0 (kids t) p (b || isLook t) := by
  cases t <;> simp [placesT, placesK, kids, isLook]
theorem placesK_snoc : ∀ (i : Nat) (ts : List Tr) (t : Tr) (p : List Int) (b : Bool), placesK i (ts ++ [t]) p b = placesK i ts p b ++ placesT t (p ++ [((i + ts.length : Nat) : Int)]) b
  | i, [], t, p, b => by simp [placesK]
  | i, x :: ts, t, p, b => by
    rw [List.cons_append, placesK, placesK, placesK_snoc (i + 1) ts t, List.append_assoc, List.length_cons, show i + 1 + ts.length = i + (ts.length + 1) by omega]
theorem placesK_step {ts : List Tr} {k : Nat} {c : Tr} {p : List Int} {b : Bool} (h : ts[k]? = some c) : placesK 0 (ts.take (k + 1)) p b = placesK 0 (ts.take k) p b ++ placesT c (p ++ [((k : Nat) : Int)]) b := by
  have hl := (List.getElem?_eq_some_iff.mp h).1
  have e : ts.take (k + 1) = ts.take k ++ [c] := by rw [List.take_succ, h]; rfl
  rw [e, placesK_snoc, List.length_take, Nat.min_eq_left (by omega), Nat.zero_add]
mutual
theorem places_paths : ∀ (t : Tr) (p : List Int) (b : Bool), (placesT t p b).map (·.1) = (pathsT t).map (p ++ ·)
  | .seq ts, p, b => by rw [placesT, pathsT, List.map_cons, List.map_cons, placesK_paths, List.append_nil]
  | .alt ts, p, b => by rw [placesT, pathsT, List.map_cons, List.map_cons, placesK_paths, List.append_nil]
  | .rep t lo hi lz, p, b => by rw [placesT, pathsT, List.map_cons, List.map_cons, places_paths t, List.append_nil, List.map_map]; simp [Function.comp_def]
  | .grp n t, p, b => by rw [placesT, pathsT, List.map_cons, List.map_cons, places_paths t, List.append_nil, List.map_map]; simp [Function.comp_def]
  | .look s w t, p, b => by rw [placesT, pathsT, List.map_cons, List.map_cons, places_paths t, List.append_nil, List.map_map]; simp [Function.comp_def]
  | .empty, p, b => by simp [placesT, pathsT]
  | .set c, p, b => by simp [placesT, pathsT]
  | .edge k, p, b => by simp [placesT, pathsT]
  | .same n, p, b => by simp [placesT, pathsT]
theorem placesK_paths : ∀ (i : Nat) (ts : List Tr) (p : List Int) (b : Bool), (placesK i ts p b).map (·.1) = (pathsK i ts).map (p ++ ·)
  | _, [], _, _ => by simp [placesK, pathsK]
  | i, t :: ts, p, b => by
    rw [placesK, pathsK, List.map_append, List.map_append, places_paths t, placesK_paths (i + 1) ts, List.map_map]
    simp [Function.comp_def]
end
mutual
/-- the nodes in preorder -/
def nodesT : Tr → List Tr
  | .seq ts => .seq ts :: nodesK ts
  | .alt ts => .alt ts :: nodesK ts
  | .rep t lo hi lz => .rep t lo hi lz :: nodesT t
  | .grp n t => .grp n t :: nodesT t
  | .look s w t => .look s w t :: nodesT t
  | .empty => [.empty]
  | .set c => [.set c]
  | .edge k => [.edge k]
  | .same n => [.same n]
def nodesK : List Tr → List Tr
  | [] => []
  | t :: ts => nodesT t ++ nodesK ts
end
theorem nodes_kids (t : Tr) : nodesT t = t :: nodesK (kids t) := by
  cases t <;> simp [nodesT, nodesK, kids]
theorem nodesK_app : ∀ a b : List Tr, nodesK (a ++ b) = nodesK a ++ nodesK b
  | [], b => by simp [nodesK]
  | t :: a, b => by rw [List.cons_append, nodesK, nodesK, nodesK_app a b, List.append_assoc]
mutual
theorem places_nodes : ∀ (t : Tr) (p : List Int) (b : Bool), (placesT t p b).map (·.2.1) = nodesT t
  | .seq ts, p, b => by rw [placesT, nodesT, List.map_cons, placesK_nodes]
  | .alt ts, p, b => by rw [placesT, nodesT, List.map_cons, placesK_nodes]
  | .rep t lo hi lz, p, b => by rw [placesT, nodesT, List.map_cons, places_nodes t]
  | .grp n t, p, b => by rw [placesT, nodesT, List.map_cons, places_nodes t]
  | .look s w t, p, b => by rw [placesT, nodesT, List.map_cons, places_nodes t]
  | .empty, p, b => by simp [placesT, nodesT]
  | .set c, p, b => by simp [placesT, nodesT]
  | .edge k, p, b => by simp [placesT, nodesT]
  | .same n, p, b => by simp [placesT, nodesT]
theorem placesK_nodes : ∀ (i : Nat) (ts : List Tr) (p : List Int) (b : Bool), (placesK i ts p b).map (·.2.1) = nodesK ts
  | _, [], _, _ => by simp [placesK, nodesK]
  | i, t :: ts, p, b => by rw [placesK, nodesK, List.map_append, places_nodes t, placesK_nodes (i + 1) ts]
end
theorem places_len (t : Tr) (p : List Int) (b : Bool) : (placesT t p b).length = sz t := by
  have := congrArg List.length (places_paths t p b)
  rw [List.length_map, List.length_map, paths_len] at this
  exact this
theorem placesK_len (i : Nat) (ts : List Tr) (p : List Int) (b : Bool) : (placesK i ts p b).length = szs ts := by
  have := congrArg List.length (placesK_paths i ts p b)
  rw [List.length_map, List.length_map, pathsK_len] at this
  exact this
theorem nodes_len (t : Tr) : (nodesT t).length = sz t := by
  have := congrArg List.length (places_nodes t [] false)
  rw [List.length_map, places_len] at this
  exact this.symm
end My
namespace My
open PySem L2
/-- the tree with other children -/
def setK : Tr → List Tr → Option Tr
  | .seq _, ks => some (.seq ks)
  | .alt _, ks => some (.alt ks)
  | .rep _ lo hi lz, [t] => some (.rep t lo hi lz)
  | .grp n _, [t] => some (.grp n t)
  | .look sd b _, [t] => some (.look sd b t)
  | _, _ => none
theorem path_lt : ∀ {p : List Int} {t : Tr}, p ∈ pathsT t → p.length < sz t
  | [], t, _ => sz_pos t
  | i :: p, t, h => by
    rw [paths_kids] at h
    rcases List.mem_cons.mp h with h | h
    · cases h
    · obtain ⟨j, c, p', h0, h1, h2⟩ := pathsK_at h
      obtain ⟨_, rfl⟩ := List.cons.inj h2
      have := path_lt h1
      have := szs_mem (List.mem_of_getElem? h0)
      rw [sz_kids, List.length_cons]
      omega
/-- the tree with another one at a path -/
def withT : Tr → List Int → Tr → Option Tr
  | _, [], u => some u
  | .rep t lo hi lz, _ :: p, u => (withT t p u).map fun t' => .rep t' lo hi lz
  | .grp n t, _ :: p, u => (withT t p u).map fun t' => .grp n t'
  | .look sd b t, _ :: p, u => (withT t p u).map fun t' => .look sd b t'
  | .seq ts, i :: p, u => if 0 ≤ i then (ts[i.toNat]?).bind fun c => (withT c p u).map fun c' => .seq (ts.set i.toNat c') else none
  | .alt ts, i :: p, u => if 0 ≤ i then (ts[i.toNat]?).bind fun c => (withT c p u).map fun c' => .alt (ts.set i.toNat c') else none
  | .empty, _ :: _, _ => none
  | .set _, _ :: _, _ => none
  | .edge _, _ :: _, _ => none
  | .same _, _ :: _, _ => none
theorem with_kids : ∀ {t t' u : Tr} {i : Int} {p : List Int}, i :: p ∈ pathsT t → withT t (i :: p) u = some t' → ∃ (j : Nat) (c c' : Tr), i = (j : Nat) ∧ (kids t)[j]? = some c ∧ p ∈ pathsT c ∧ withT c p u = some c' ∧ setK t ((kids t).set j c') = some t' := by
  intro t t' u i p hp h
  rw [paths_kids] at hp
  rcases List.mem_cons.mp hp with hp | hp
  · cases hp
  obtain ⟨j, c, p', h0, h1, h2⟩ := pathsK_at hp
  rw [Nat.zero_add] at h2
  obtain ⟨rfl, rfl⟩ := List.cons.inj h2
  have one : ∀ {x : Tr}, [x][j]? = some c → j = 0 ∧ x = c := fun {x} hx => by
    cases j with
    | zero => exact ⟨rfl, Option.some.inj hx⟩
    | succ j => simp at hx
  cases t with
  | seq ts =>
    rw [withT, if_pos (Int.natCast_nonneg j), Int.toNat_natCast] at h
    obtain ⟨c2, hc, h3⟩ := Option.bind_eq_some_iff.mp h
    obtain ⟨c', h4, rfl⟩ := Option.map_eq_some_iff.mp h3
    rw [kids] at h0
    rw [h0] at hc
    cases hc
    exact ⟨j, c, c', rfl, h0, h1, h4, rfl⟩
  | alt ts =>
    rw [withT, if_pos (Int.natCast_nonneg j), Int.toNat_natCast] at h
    obtain ⟨c2, hc, h3⟩ := Option.bind_eq_some_iff.mp h
    obtain ⟨c', h4, rfl⟩ := Option.map_eq_some_iff.mp h3
    rw [kids] at h0
    rw [h0] at hc
    cases hc
    exact ⟨j, c, c', rfl, h0, h1, h4, rfl⟩
  | rep x lo hi lz =>
    rw [withT] at h
    obtain ⟨c', h4, rfl⟩ := Option.map_eq_some_iff.mp h
    obtain ⟨rfl, rfl⟩ := one h0
    exact ⟨0, x, c', rfl, rfl, h1, h4, rfl⟩
  | grp n x =>
    rw [withT] at h
    obtain ⟨c', h4, rfl⟩ := Option.map_eq_some_iff.mp h
    obtain ⟨rfl, rfl⟩ := one h0
    exact ⟨0, x, c', rfl, rfl, h1, h4, rfl⟩
  | look sd b x =>
    rw [withT] at h
    obtain ⟨c', h4, rfl⟩ := Option.map_eq_some_iff.mp h
    obtain ⟨rfl, rfl⟩ := one h0
    exact ⟨0, x, c', rfl, rfl, h1, h4, rfl⟩
  | empty => simp [kids] at h0
  | set _ => simp [kids] at h0
  | edge _ => simp [kids] at h0
  | same _ => simp [kids] at h0

theorem setK_kids : ∀ {t t' : Tr} {ks : List Tr}, setK t ks = some t' → kids t' = ks ∧ isLook t' = isLook t := by
  intro t t' ks h
  cases t with
  | seq ts => cases Option.some.inj h; exact ⟨rfl, rfl⟩
  | alt ts => cases Option.some.inj h; exact ⟨rfl, rfl⟩
  | rep x lo hi lz =>
    match ks, h with
    | [c], h => cases Option.some.inj h; exact ⟨rfl, rfl⟩
  | grp n x =>
    match ks, h with
    | [c], h => cases Option.some.inj h; exact ⟨rfl, rfl⟩
  | look sd b x =>
    match ks, h with
    | [c], h => cases Option.some.inj h; exact ⟨rfl, rfl⟩
  | empty => cases ks <;> simp [setK] at h
  | set cs => cases ks <;> simp [setK] at h
  | edge k => cases ks <;> simp [setK] at h
  | same nn => cases ks <;> simp [setK] at h
theorem setK_back : ∀ {t t' : Tr} {ks : List Tr}, ks.length = (kids t).length → setK t ks = some t' → setK t' (kids t) = some t := by
  intro t t' ks hl h
  cases t with
  | seq ts => cases Option.some.inj h; rfl
  | alt ts => cases Option.some.inj h; rfl
  | rep x lo hi lz =>
    match ks, h with
    | [c], h => cases Option.some.inj h; rfl
  | grp n x =>
    match ks, h with
    | [c], h => cases Option.some.inj h; rfl
  | look sd b x =>
    match ks, h with
    | [c], h => cases Option.some.inj h; rfl
  | empty => cases ks <;> simp [setK] at h
  | set cs => cases ks <;> simp [setK] at h
  | edge k => cases ks <;> simp [setK] at h
  | same nn => cases ks <;> simp [setK] at h
theorem setK_some {t c' : Tr} {j : Nat} {c : Tr} (h : (kids t)[j]? = some c) : ∃ t', setK t ((kids t).set j c') = some t' := by
  have one : ∀ {x : Tr}, [x][j]? = some c → j = 0 := fun {x} hx => by
    cases j with
    | zero => rfl
    | succ j => simp at hx
  cases t with
  | seq ts => exact ⟨_, rfl⟩
  | alt ts => exact ⟨_, rfl⟩
  | rep x lo hi lz => cases one h; exact ⟨_, rfl⟩
  | grp n x => cases one h; exact ⟨_, rfl⟩
  | look sd b x => cases one h; exact ⟨_, rfl⟩
  | empty => simp [kids] at h
  | set _ => simp [kids] at h
  | edge _ => simp [kids] at h
  | same _ => simp [kids] at h
theorem with_cons {t t' c c' u : Tr} {j : Nat} {p : List Int} (h : (kids t)[j]? = some c) (hw : withT c p u = some c') (hs : setK t ((kids t).set j c') = some t') : withT t (((j : Nat) : Int) :: p) u = some t' := by
  have one : ∀ {x : Tr}, [x][j]? = some c → j = 0 ∧ x = c := fun {x} hx => by
    cases j with
    | zero => exact ⟨rfl, Option.some.inj hx⟩
    | succ j => simp at hx
  cases t with
  | seq ts =>
    rw [withT, if_pos (Int.natCast_nonneg j), Int.toNat_natCast]
    rw [kids] at h
    rw [h, Option.bind_some, hw]
    exact hs
  | alt ts =>
    rw [withT, if_pos (Int.natCast_nonneg j), Int.toNat_natCast]
    rw [kids] at h
    rw [h, Option.bind_some, hw]
    exact hs
  | rep x lo hi lz =>
    obtain ⟨rfl, rfl⟩ := one h
    rw [withT, hw]
    exact hs
  | grp n x =>
    obtain ⟨rfl, rfl⟩ := one h
    rw [withT, hw]
    exact hs
  | look sd b x =>
    obtain ⟨rfl, rfl⟩ := one h
    rw [withT, hw]
    exact hs
  | empty => simp [kids] at h
  | set _ => simp [kids] at h
  | edge _ => simp [kids] at h
  | same _ => simp [kids] at h
theorem with_nil {t u : Tr} : withT t [] u = some u := by cases t <;> rw [withT]
theorem mem_paths_kid {t c : Tr} {j : Nat} {p : List Int} (h : (kids t)[j]? = some c) (hp : p ∈ pathsT c) : ((j : Nat) : Int) :: p ∈ pathsT t := by
  rw [paths_kids]
  refine List.mem_cons_of_mem _ ?_
  have go : ∀ (ts : List Tr) (i j : Nat), ts[j]? = some c → (((i + j : Nat) : Int) :: p) ∈ pathsK i ts := fun ts => by
    induction ts with
    | nil => intro i j h; simp at h
    | cons x r ih =>
      intro i j h
      rw [pathsK]
      cases j with
      | zero =>
        cases Option.some.inj h
        exact List.mem_append_left _ (List.mem_map.mpr ⟨p, hp, rfl⟩)
      | succ j =>
        have := ih (i + 1) j h
        rw [show i + 1 + j = i + (j + 1) by omega] at this
        exact List.mem_append_right _ this
  have := go (kids t) 0 j h
  rwa [Nat.zero_add] at this
theorem with_some {u : Tr} : ∀ {p : List Int} {t : Tr}, p ∈ pathsT t → ∃ t', withT t p u = some t'
  | [], t, _ => ⟨u, with_nil⟩
  | i :: p, t, h => by
    rw [paths_kids] at h
    rcases List.mem_cons.mp h with h | h
    · cases h
    · obtain ⟨j, c, p', h0, h1, h2⟩ := pathsK_at h
      rw [Nat.zero_add] at h2
      obtain ⟨rfl, rfl⟩ := List.cons.inj h2
      obtain ⟨c', hc'⟩ := with_some (u := u) h1
      obtain ⟨t', ht'⟩ := setK_some (c' := c') h0
      exact ⟨t', with_cons h0 hc' ht'⟩
theorem Dp.mono : ∀ {n : Nat} {t : Tr}, Dp n t → ∀ m, n ≤ m → Dp m t
  | 0, _, h, _, _ => h.zero'.elim
  | n + 1, t, h, m, hm => by
    obtain ⟨k, rfl⟩ : ∃ k, m = k + 1 := ⟨m - 1, by omega⟩
    exact .mk fun c hc => (h.kid hc).mono k (by omega)
theorem szs_set : ∀ {ts : List Tr} {j : Nat} {c c' : Tr}, ts[j]? = some c → szs (ts.set j c') + sz c = szs ts + sz c'
  | [], _, _, _, h => by simp at h
  | x :: ts, 0, c, c', h => by
    cases Option.some.inj h
    rw [List.set_cons_zero, szs, szs]
    omega
  | x :: ts, j + 1, c, c', h => by
    have := szs_set (ts := ts) (j := j) (c' := c') h
    rw [List.set_cons_succ, szs, szs]
    omega
/-- what replacing keeps -/
theorem with_keeps {u : Tr} : ∀ {p : List Int} {t t' : Tr} {n m : Nat}, p ∈ pathsT t → withT t p u = some t' → Dp n t → Dp m u → p ∈ pathsT t' ∧ Dp (n + m) t' ∧ sz t' ≤ sz t + sz u ∧ (∀ c, nodeT t p = some c → withT t' p c = some t)
  | [], t, t', n, m, _, hw, hd, hu => by
    rw [with_nil] at hw
    cases Option.some.inj hw
    refine ⟨?_, hu.mono _ (by omega), by omega, fun c hc => ?_⟩
    · rw [paths_kids]
      exact List.mem_cons_self ..
    · rw [nodeT] at hc
      cases Option.some.inj hc
      exact with_nil
  | i :: p, t, t', n, m, hp, hw, hd, hu => by
    obtain ⟨j, c, c', rfl, hj, hpc, hwc, hsk⟩ := with_kids hp hw
    obtain ⟨n', rfl⟩ : ∃ n', n = n' + 1 := by
      cases n with
      | zero => exact hd.zero'.elim
      | succ n => exact ⟨n, rfl⟩
    have hcm := List.mem_of_getElem? hj
    have hjl := (List.getElem?_eq_some_iff.mp hj).1
    obtain ⟨k1, k2, k3, k4⟩ := with_keeps hpc hwc (hd.kid hcm) hu
    obtain ⟨hk, _⟩ := setK_kids hsk
    have hj' : (kids t')[j]? = some c' := by rw [hk, List.getElem?_set_self hjl]
    refine ⟨mem_paths_kid hj' k1, ?_, ?_, fun x hx => ?_⟩
    · rw [show n' + 1 + m = (n' + m) + 1 by omega]
      refine .mk fun y hy => ?_
      rw [hk] at hy
      rcases List.mem_or_eq_of_mem_set hy with hy | rfl
      · exact (hd.kid hy).mono _ (by omega)
      · exact k2
    · rw [sz_kids t', sz_kids t, hk]
      have := szs_set (c' := c') hj
      omega
    · rw [nodeT, if_pos (Int.natCast_nonneg j), Int.toNat_natCast, hj] at hx
      have hb := k4 x hx
      refine with_cons hj' hb ?_
      rw [hk, List.set_set, show (kids t).set j c = kids t from ?_]
      · exact setK_back (by rw [List.length_set]) hsk
      · refine List.ext_getElem? fun q => ?_
        by_cases e : j = q
        · subst e
          rw [List.getElem?_set_self hjl, hj]
        · rw [List.getElem?_set_ne e]
end My
namespace My
open PySem L2
/-! ### enumerate over a tuple -/
/-- the tuple at a, each item beside its number in a new pair -/
def Itu (K : PySem.W.Frag) (a : Addr) : It where
  go := fun i H => ∃ xs x, SqT K H a xs ∧ xs[i]? = some x
  yld := fun i H v H' => ∃ T x, (v = .ref T ∧ H T = none) ∧ H' = upd H T (.tup [.int (i : Nat), x]) ∧ ∀ xs, SqT K H a xs → xs[i]? = some x
  stop := fun i H => ∃ xs : List V, SqT K H a xs ∧ xs.length = i
def EnT (e it a : Addr) (i : Nat) (h : Heap) : Prop := (∃ old, IsEnum h e it (i : Int) old) ∧ Heap.IsTupleIter h it a i ∧ e ≠ it
theorem two_of {b e it : Addr} (h : b ∈ [e, it]) : b = e ∨ b = it := by simpa using h
theorem turn_enumT {P : Program} {w : World} {K : PySem.W.Frag} {es : List Expr} {kk : Nat} {tp : Pos} (a e it : Addr) : Turn P w K (.Tuple es kk tp) (Itu K a) [e, it] e (EnT e it a) := by
  refine { mem := List.mem_cons_self .., obj := ?_, keep := ?_, item := ?_, done := ?_, self := fun A i s Q E st h => by obtain ⟨⟨_, z⟩, _⟩ := st; exact wpAny_pyIter_enum z h }
  · intro i h st b hb
    obtain ⟨⟨old, he⟩, ⟨o, ho, _, hd⟩, _⟩ := st
    rcases two_of hb with rfl | rfl
    · exact ⟨_, he, fun v q => by cases q⟩
    · exact ⟨o, ho, fun v q => by rw [hd] at q; cases q⟩
  · intro i h h' st k
    obtain ⟨⟨old, he⟩, hi, ne⟩ := st
    exact ⟨⟨old, k e (List.mem_cons_self ..) _ he⟩, hi.at fun o q => k it (List.mem_cons_of_mem _ (List.mem_cons_self ..)) o q, ne⟩
  · intro X hP hw hK hc i pins s σ H E I hf st hg
    subst hP hw hK
    obtain ⟨⟨old, he⟩, hit, ne⟩ := st
    obtain ⟨xs, x, hq, hx⟩ := hg
    obtain ⟨its, rv, p, _⟩ := I.tuple hq
    obtain ⟨u, hu, ru⟩ := rv.get hx
    have hat : s.heap.IsTuple a its.toArray := p
    have el := Heap.lt_size he
    have il : it < s.heap.objs.size := by
      obtain ⟨_, q, _⟩ := hit
      exact Heap.lt_size q
    have ai : a ≠ it := fun z => by
      obtain ⟨o1, h1, h2, _⟩ := hit
      obtain ⟨o2, h3, h4, _⟩ := hat
      rw [z, h1] at h3
      rw [← Option.some.inj h3, h2] at h4
      simp at h4
    have ae : a ≠ e := fun z => by
      obtain ⟨o2, h3, h4, _⟩ := hat
      rw [z, he] at h3
      rw [← Option.some.inj h3] at h4
      simp at h4
    have hlt : i < its.toArray.size := by
      rw [List.size_toArray]
      exact (List.getElem?_eq_some_iff.mp hu).1
    refine wpAny_pyNext_enum_itemD (Draws.tuple (A := X.A.in1) (I.ok.hd hc) it a ai its.toArray) he ⟨hit, hat⟩ hlt ne (by simp [ne, Ne.symm ae]) fun y h' tk hy ho hst hT hz hk => ⟨_, rfl, ?_⟩
    have yu : y = u := by
      rw [List.getElem?_toArray, hu] at hy
      exact (Option.some.inj hy).symm
    subst yu
    refine wpAny_letOwnedTupleGo_enum (s := { s with heap := h', toks := tk + 1 }) ho fun h2 he2 sb => ?_
    obtain ⟨N, eN⟩ : ∃ N, N = s.heap.objs.size := ⟨_, rfl⟩
    rw [← eN] at hT hz ho ⊢
    rw [← eN] at el il
    have gone : H N = none := I.hok.fresh (Nat.le_of_eq eN.symm)
    have hT2 : h2.get? N = some { cls := .type "tuple", data := .seq #[.int i tk, y] } := (sb.2 N (Nat.ne_of_gt el)).trans hT
    have new : ObjOk X.prog X.w (upd H N (.tup [.int (i : Nat), x])) h2 N (.tup [.int (i : Nat), x]) := ⟨(by decide : 2 ≤ sizeLine), _, .cons ⟨_, rfl⟩ (.cons ru .nil), ⟨_, hT2, rfl, _, rfl⟩⟩
    have I1 := I.turnedNew (t' := tk + 1) (ch := [e, it]) (fun b ob hb q => (sb.2 b fun z => hb (by simp [z])).trans (hk b ob (fun z => hb (by simp [z])) (fun z => hb (by simp [z])) q)) hf (Nat.le_of_eq eN.symm) new
    refine ⟨.ref N, _, I1, rfl, ⟨N, x, ⟨rfl, gone⟩, rfl, fun ys hy => ?_⟩, ⟨⟨y, ?_⟩, hst.1.at fun o q => (sb.2 it (Ne.symm ne)).trans q, ne⟩, fun b hb => ?_⟩
    · rw [I.tuple_inj hy hq]
      exact hx
    · rw [show ((i + 1 : Nat) : Int) = (i : Int) + 1 from rfl]
      exact he2
    · have lt : b < N := by
        rcases two_of hb with h | h
        · rw [h]; exact el
        · rw [h]; exact il
      rw [upd_ne (Nat.ne_of_lt lt)]
      exact (hf b hb).1
  · intro X hP hw hK hc i pins s σ H E I hf st hg
    subst hP hw hK
    obtain ⟨⟨old, he⟩, hit, ne⟩ := st
    obtain ⟨xs, hq, hx⟩ := hg
    obtain ⟨its, rv, p, _⟩ := I.tuple hq
    have hat : s.heap.IsTuple a its.toArray := p
    have ai : a ≠ it := fun z => by
      obtain ⟨o1, h1, h2, _⟩ := hit
      obtain ⟨o2, h3, h4, _⟩ := hat
      rw [z, h1] at h3
      rw [← Option.some.inj h3, h2] at h4
      simp at h4
    have hn : its.toArray.size = i := by rw [List.size_toArray, ← rv.length, hx]
    obtain ⟨f0, f1, f2, f3, f4, f5⟩ := hf it (List.mem_cons_of_mem _ (List.mem_cons_self ..))
    exact wpAny_pyNext_enum_endD (Draws.tuple (A := X.A.in1) (I.ok.hd hc) it a ai its.toArray) he ⟨by rw [hn]; exact hit, hat⟩ fun h' eb => ⟨rfl, I.turned (t' := s.toks) (fun b o hb q => eb b o hb q) f0 f1 f3 f4 f5⟩
theorem meets_enumT (t : Addr) (items : Array Value) : Meets (Builtin.«enumerate.__new__» ⟨[.type "enumerate", .ref t], []⟩) (fun _ R s => s.heap.IsTuple t items ∧ R (.ok (.ret (.ref (s.heap.objs.size + 1)))) { s with heap := (s.heap.push { cls := .type "tuple_iterator", data := .fields #[.ref t, .int 0 0] }).push { cls := .type "enumerate", data := .fields #[.none, .bool false, .ref s.heap.objs.size, rawInt 0, .none, .none] } }) := .of_wp fun prog w A R s h => by
  obtain ⟨hp, g, d, tk, os⟩ := s
  obtain ⟨hT, h⟩ := h
  have hz : (hp.push { cls := .type "tuple_iterator", data := .fields #[.ref t, .int 0 0] }).objs.size = hp.objs.size + 1 := Heap.size_push ..
  have hh := sub_enumerate
  dsimp only at h
  rw [← hz] at h
  wp_walk using wpAny_pyIter_tuple hT
  refine wpAny_stack_any fun st => wpAny_pure ?_
  split
  · rename_i c _ _ _ _ _
    cases (c == Value.type "enumerate") <;> (wp_walk using wpAny_pyIter_tuple hT; exact ⟨_, rfl, h⟩)
  · wp_walk using wpAny_pyIter_tuple hT
    exact ⟨_, rfl, h⟩
theorem call_enumT {prog : Program} {w : World} {A : Around} {E : Value → Shared → Prop} {s : Shared} {t : Addr} {items : Array Value} {Q : Value → Shared → Prop} (hT : s.heap.IsTuple t items)
    (h : ∀ h', EnT (s.heap.objs.size + 1) s.heap.objs.size t 0 h' → (∀ b o, s.heap.get? b = some o → h'.get? b = some o) → Q (.ref (s.heap.objs.size + 1)) { s with heap := h' }) : wpAny (model prog w) A (call (.type "enumerate") [.ref t]) Q E s := by
  have hz : (s.heap.push { cls := .type "tuple_iterator", data := .fields #[.ref t, .int 0 0] }).objs.size = s.heap.objs.size + 1 := Heap.size_push ..
  refine callType_new F.called_enumerate (by decide) (F.typeCall_enumerate_1 _) (F.newCall_enumerate_1 _) (fun obj => F.args_object_init_2 obj _) F.entry_enumerate_new (meets_enumT t items) ⟨hT, ?_⟩
  have e1 := Heap.get?_push_size (s.heap.push { cls := .type "tuple_iterator", data := .fields #[.ref t, .int 0 0] }) (o := { cls := .type "enumerate", data := .fields #[.none, .bool false, .ref s.heap.objs.size, rawInt 0, .none, .none] }) rfl
  rw [hz] at e1
  have hE : EnT (s.heap.objs.size + 1) s.heap.objs.size t 0 ((s.heap.push { cls := .type "tuple_iterator", data := .fields #[.ref t, .int 0 0] }).push { cls := .type "enumerate", data := .fields #[.none, .bool false, .ref s.heap.objs.size, rawInt 0, .none, .none] }) :=
    ⟨⟨.none, e1⟩, ⟨_, Heap.get?_push_of_some _ (Heap.get?_push_size _ rfl), rfl, rfl⟩, Nat.succ_ne_self _⟩
  exact ⟨⟨_, e1, rfl⟩, h _ hE fun b o x => Heap.get?_push_of_some _ (Heap.get?_push_of_some _ x)⟩
def iEnumT (K : PySem.W.Frag) (ta : TA) : TI := fun σ H R => ta σ H fun vs H1 => ∃ a xs, vs = [.ref a] ∧ SqT K H1 a xs ∧ R (Itu K a) H1
theorem pi_enumT {X : Cx} {e : Expr} {ta : TA} {p pos tp : Pos} {es : List Expr} {kk : Nat} (hg : Gl X "enumerate") (hm : X.mg "enumerate" = none) (ha : PA X [e] ta) (hs : starEach [e] X.env = [(false, eval e X.env)] := by rfl) : PI X (.Tuple es kk tp) (.Call (.Name "enumerate" p) [e] [] pos) (iEnumT X.K ta) := by
  constructor
  intro pins s σ H R I h
  refine PyProof.Rows.Call_ (ld_blt I hg hm PyProof.Rows.boot_enumerate (PyProof.Rows.callWith_type1 (thn (ha.run pos pins s σ H _ I h) fun us s1 w1 => ?_) hs rfl))
  obtain ⟨vs, H1, I1, r1, a, xs, rfl, hq, q⟩ := w1
  rw [Vals.ref1 r1]
  obtain ⟨its, rv, p', _⟩ := I1.tuple hq
  have hat : s1.heap.IsTuple a its.toArray := p'
  refine call_enumT hat fun h' st hk => ?_
  obtain ⟨N, eN⟩ : ∃ N, N = s1.heap.objs.size := ⟨_, rfl⟩
  rw [← eN] at st ⊢
  refine wpAny_pyIter_enum st.1.choose_spec ⟨N + 1, [N + 1, N], EnT (N + 1) N a, Itu X.K a, H1, rfl, I1.kept (t' := s1.toks) hk, turn_enumT a (N + 1) N, st, fun b hb => ?_, q⟩
  have le : s1.heap.objs.size ≤ b := by
    rw [← eN]
    rcases two_of hb with h | h
    · rw [h]; exact Nat.le_succ N
    · rw [h]; exact Nat.le_refl N
  exact I1.fpOk le (I1.hok.fresh le)
/-- a loop over it: at each turn a new pair -/
theorem forJ_enumT {K : PySem.W.Frag} {a : Addr} {xs : List V} {g : TG} {tb : TS} {D : Ends} {σ : St} {H : Hp} (Pv : Nat → St → Hp → Prop) (hG : ∀ i σ H, Pv i σ H → SqT K H a xs) (h0 : Pv 0 σ H)
    (hs : ∀ i x σ H T, xs[i]? = some x → Pv i σ H → H T = none → g (.ref T) σ (upd H T (.tup [.int (i : Nat), x])) fun σ2 H2 => tb { D with nx := Pv (i + 1), ct := Pv (i + 1), bk := D.nx } σ2 H2) (hd : ∀ σ H, Pv xs.length σ H → D.nx σ H) : ForJ (Itu K a) g tb D σ H := by
  have wk : Walk (Itu K a) xs.length (fun H => SqT K H a xs) (YPair (fun i => some (.int (i : Nat))) (fun i => xs[i]?)) := by
    refine ⟨fun i _ hi q => ⟨xs, xs[i], q, by simp [hi]⟩, fun _ q => ⟨xs, q, rfl⟩, fun i H v H' _ q y => ?_⟩
    obtain ⟨T, x, ⟨h1, h2⟩, h3, h4⟩ := y
    exact ⟨T, _, x, h1, h2, h3, rfl, h4 xs q⟩
  refine for_it wk Pv h0 (fun i σ H _ h => hG i σ H h) (fun i v σ H H' hi hp y => ?_) hd
  obtain ⟨T, y1, x, rfl, hn, rfl, e1, e2⟩ := y
  cases Option.some.inj e1
  exact hs i x σ H T e2 hp hn
end My
namespace My
open PySem L2 HT
/-- t + u of any two tuples -/
def rCatU (K : PySem.W.Frag) : R2 := fun x y H Q => ∃ (a b : Addr) (xs ys : List V), x = .ref a ∧ y = .ref b ∧ SqT K H a xs ∧ SqT K H b ys ∧ xs.length + ys.length ≤ sizeLine ∧ ∀ (q : Addr) (H' : Hp), Same H H' → SqT K H' q (xs ++ ys) → Q (.ref q) H'
theorem op_catU {X : Cx} : OpR X (binaryOp .Add) (rCatU X.K) := by
  intro pins s σ H x y v u Q I rx ry h
  obtain ⟨a, b, xs, ys, rfl, rfl, ha, hb, hz, q⟩ := h
  by_cases hx : xs = []
  · subst hx
    cases rx
    cases ry
    obtain ⟨its, r1, p1, _⟩ := I.tuple ha
    obtain ⟨its2, r2, p2, _⟩ := I.tuple hb
    obtain ⟨⟨cls, dd, data, sl⟩, ho, hc, n, hd⟩ := id p1
    obtain ⟨⟨cls2, dd2, data2, sl2⟩, ho2, hc2, n2, hd2⟩ := id p2
    simp only at hc hd hc2 hd2
    subst hc hd hc2 hd2
    have e0 : its = [] := r1.nil_iff.mpr rfl
    exact concat_meets ⟨_, ho, rfl⟩ ⟨_, ho2, rfl⟩ noFill_tuple_add seq_tuple_add PySem.F.slot_tuple_add PySem.F.entry_tuple_add (PySem.F.args_tuple_add_2 _ _) (PyProof.Rows.tuple_addW0 a b its.toArray its2.toArray n n2 dd dd2 sl sl2 (by simp [e0])) ⟨ho, ho2, ⟨.ref b, H, I, rfl, q b H (Same.refl _) hb⟩⟩
  · exact op_catT pins s σ H _ _ v u Q I rx ry ⟨a, b, xs, ys, rfl, rfl, ha, hb, hx, hz, fun e => q a H (Same.refl _) (by rw [e, List.append_nil]; exact ha), fun e p hp => q p _ (same_upd hp) (SqT.of upd_same)⟩
end My
namespace My
open PySem L2
/-! ### reading a def over plain data: no heap, no addresses -/
/-- a value: data, or a list of data that is read -/
inductive Vl where
  | da (d : Da)
  | ls (l : List Da)
/-- a slot: data; a list that is held; a list of one's own; the draw -/
inductive Sl where
  | vl (d : Da)
  | ls (a : Addr) (l : List Da)
  | own (a : Addr) (l : List Da)
  | dr
abbrev Evn := List (Option Sl)
abbrev Dl := Option (Addr × Addr)
/-- a list that stands -/
def Lq (K : PySem.W.Frag) (H : Hp) (a : Addr) (vs : List V) : Prop := H a = some (.lst vs)
theorem Lq.sq {K : PySem.W.Frag} {H : Hp} {a : Addr} {vs : List V} (h : Lq K H a vs) : SqL K H a vs := .inl (.inl h)
def VlAt (K : PySem.W.Frag) (dl : Dl) (H : Hp) : Vl → V → Prop
  | .da d, v => DaAt K H d v
  | .ls l, v => ∃ a vs, v = .ref a ∧ Lq K H a vs ∧ DasAt K H l vs ∧ ∀ d e, dl = some (d, e) → a ≠ d
/-- all but the draw stands -/
def Mv (dl : Dl) (H H' : Hp) : Prop := ∀ b o, (∀ d l, dl = some (d, l) → b ≠ d) → H b = some o → H' b = some o
def DlAt (dl : Dl) (H : Hp) : Prop := ∀ d l, dl = some (d, l) → Dry H d l
theorem Mv.refl (dl : Dl) (H : Hp) : Mv dl H H := fun _ _ _ h => h
theorem Mv.trans {dl : Dl} {H H1 H2 : Hp} (a : Mv dl H H1) (b : Mv dl H1 H2) : Mv dl H H2 := fun c o n h => b c o n (a c o n h)
theorem Mv.same {dl : Dl} {H H' : Hp} (s : Same H H') : Mv dl H H' := fun c o _ h => s c o h
theorem Mv.toSame {H H' : Hp} (m : Mv none H H') : Same H H' := fun c o h => m c o (fun _ _ e => by cases e) h
theorem Mv.but {d l : Addr} {H H' : Hp} (m : Mv (some (d, l)) H H') : But d H H' := fun c o n h => m c o (fun _ _ e => by cases e; exact n) h
theorem Mv.ofBut {d l : Addr} {H H' : Hp} (m : But d H H') : Mv (some (d, l)) H H' := fun c o n h => m c o (n _ _ rfl) h
theorem Mv.tk {K : PySem.W.Frag} {dl : Dl} {H H' : Hp} (m : Mv dl H H') (q : DlAt dl H) : Tk K H H' := by
  cases dl with
  | none => exact .same m.toSame
  | some p => exact m.but.tk (q _ _ rfl)
theorem Mv.sql {K : PySem.W.Frag} {dl : Dl} {H H' : Hp} {a : Addr} {vs : List V} (m : Mv dl H H') (n : ∀ d e, dl = some (d, e) → a ≠ d) (h : Lq K H a vs) : Lq K H' a vs := m _ _ n h
theorem DlAt.same {dl : Dl} {H H' : Hp} (q : DlAt dl H) (s : Same H H') : DlAt dl H' := fun d l e => (q d l e).same s
theorem DlAt.ne {dl : Dl} {H : Hp} {p : Addr} (q : DlAt dl H) (n : H p = none) : ∀ d e, dl = some (d, e) → p ≠ d := fun d e h => (q d e h).ne n
theorem VlAt.keep {K : PySem.W.Frag} {dl : Dl} {H H' : Hp} (m : Mv dl H H') (q : DlAt dl H) : ∀ {x : Vl} {v : V}, VlAt K dl H x v → VlAt K dl H' x v
  | .da _, _, h => DaAt.keep (m.tk q) h
  | .ls _, _, ⟨a, vs, e, h, r, n⟩ => ⟨a, vs, e, m.sql n h, r.keep (m.tk q), n⟩
inductive VlsAt (K : PySem.W.Frag) (dl : Dl) (H : Hp) : List Vl → List V → Prop where
  | nil : VlsAt K dl H [] []
  | cons {x : Vl} {v : V} {xs : List Vl} {vs : List V} (h : VlAt K dl H x v) (r : VlsAt K dl H xs vs) : VlsAt K dl H (x :: xs) (v :: vs)
theorem VlsAt.keep {K : PySem.W.Frag} {dl : Dl} {H H' : Hp} (m : Mv dl H H') (q : DlAt dl H) : ∀ {xs : List Vl} {vs : List V}, VlsAt K dl H xs vs → VlsAt K dl H' xs vs
  | _, _, .nil => .nil
  | _, _, .cons h r => .cons (h.keep m q) (VlsAt.keep m q r)
theorem VlsAt.len {K : PySem.W.Frag} {dl : Dl} {H : Hp} : ∀ {xs : List Vl} {vs : List V}, VlsAt K dl H xs vs → vs.length = xs.length
  | _, _, .nil => rfl
  | _, _, .cons _ r => by rw [List.length_cons, List.length_cons, r.len]
abbrev Hs := List (Addr × List Da)
def SlAt (K : PySem.W.Frag) (H0 : Hp) (dl : Dl) (hs : Hs) (H : Hp) : Sl → V → Prop
  | .vl d, v => DaAt K H d v
  | .ls a l, v => v = .ref a ∧ (a, l) ∈ hs
  | .own a l, v => v = .ref a ∧ ∃ vs, H a = some (.lst vs) ∧ DasAt K H l vs ∧ H0 a = none ∧ ∀ p ∈ hs, p.1 ≠ a
  | .dr, v => ∃ d l, dl = some (d, l) ∧ v = .ref d
structure EnvAt (K : PySem.W.Frag) (H0 : Hp) (dl : Dl) (hs : Hs) (H : Hp) (σ : St) (env : Evn) : Prop where
  len : σ.length = env.length
  dlat : DlAt dl H
  dl0 : DlAt dl H0
  mv : Mv dl H0 H
  held : ∀ p ∈ hs, ∃ vs, Lq K H p.1 vs ∧ DasAt K H p.2 vs ∧ ∀ d e, dl = some (d, e) → p.1 ≠ d
  slot : ∀ (i : Nat) (s : Sl), env[i]? = some (some s) → ∃ v, σ[i]? = some (some v) ∧ SlAt K H0 dl hs H s v
  apart : ∀ (i j : Nat) (a b : Addr) (l l' : List Da), i ≠ j → env[i]? = some (some (.own a l)) → env[j]? = some (some (.own b l')) → a ≠ b
section
variable {K : PySem.W.Frag} {H0 H H' : Hp} {dl : Dl} {hs : Hs} {σ : St} {env : Evn}
theorem EnvAt.go (E : EnvAt K H0 dl hs H σ env) (m : Mv dl H H') (q : DlAt dl H') : EnvAt K H0 dl hs H' σ env := by
  have tk := m.tk (K := K) E.dlat
  refine ⟨E.len, q, E.dl0, E.mv.trans m, fun p hp => ?_, fun i s h => ?_, E.apart⟩
  · obtain ⟨vs, h1, h2, h3⟩ := E.held p hp
    exact ⟨vs, m.sql h3 h1, h2.keep tk, h3⟩
  · obtain ⟨v, h1, h2⟩ := E.slot i s h
    refine ⟨v, h1, ?_⟩
    cases s with
    | vl d => exact DaAt.keep tk h2
    | ls a l => exact h2
    | own a l =>
      obtain ⟨e, vs, ha, hd, h0, hn⟩ := h2
      exact ⟨e, vs, m _ _ (E.dl0.ne h0) ha, hd.keep tk, h0, hn⟩
    | dr => exact h2
theorem set_self {i : Nat} {s : Option Sl} {t : Sl} (h : (env.set i s)[i]? = some (some t)) : i < env.length ∧ s = some t := by
  have hl : i < env.length := by
    have := (List.getElem?_eq_some_iff.mp h).1
    rwa [List.length_set] at this
  rw [List.getElem?_set_self hl] at h
  exact ⟨hl, Option.some.inj h⟩
/-- a slot written -/
theorem EnvAt.put (E : EnvAt K H0 dl hs H σ env) {i : Nat} {o : Option Sl} {v : V} (h : ∀ s, o = some s → SlAt K H0 dl hs H s v) (ap : ∀ (a : Addr) (l : List Da), o = some (.own a l) → ∀ (j : Nat) (b : Addr) (l' : List Da), j ≠ i → env[j]? = some (some (.own b l')) → b ≠ a) :
    EnvAt K H0 dl hs H (σ.set i (some v)) (env.set i o) := by
  refine ⟨by rw [List.length_set, List.length_set, E.len], E.dlat, E.dl0, E.mv, E.held, fun j s hj => ?_, fun j k a b l l' n hj hk => ?_⟩
  · by_cases e : i = j
    · subst e
      obtain ⟨hl, ho⟩ := set_self hj
      exact ⟨v, List.getElem?_set_self (by rw [E.len]; exact hl), h s ho⟩
    · rw [List.getElem?_set_ne e] at hj
      rw [List.getElem?_set_ne e]
      exact E.slot j s hj
  · by_cases ej : i = j
    · subst ej
      obtain ⟨_, ho⟩ := set_self hj
      rw [List.getElem?_set_ne n] at hk
      exact (ap a l ho k b l' (Ne.symm n) hk).symm
    · rw [List.getElem?_set_ne ej] at hj
      by_cases ek : i = k
      · subst ek
        obtain ⟨_, ho⟩ := set_self hk
        exact ap b l' ho j a l (Ne.symm ej) hj
      · rw [List.getElem?_set_ne ek] at hk
        exact E.apart j k a b l l' n hj hk
theorem EnvAt.set (E : EnvAt K H0 dl hs H σ env) {i : Nat} {d : Da} {v : V} (h : DaAt K H d v) : EnvAt K H0 dl hs H (σ.set i (some v)) (env.set i (some (.vl d))) :=
  E.put (fun s e => by cases e; exact h) (fun a l e => by cases e)
/-- a slot forgotten -/
theorem EnvAt.drop (E : EnvAt K H0 dl hs H σ env) (i : Nat) (o : Option V) : EnvAt K H0 dl hs H (σ.set i o) (env.set i none) := by
  refine ⟨by rw [List.length_set, List.length_set, E.len], E.dlat, E.dl0, E.mv, E.held, fun j s hj => ?_, fun j k a b l l' n hj hk => ?_⟩
  · have nj : i ≠ j := fun e => by
      subst e
      have := (set_self hj).2
      cases this
    rw [List.getElem?_set_ne nj] at hj ⊢
    exact E.slot j s hj
  · have nj : i ≠ j := fun e => by
      subst e
      have := (set_self hj).2
      cases this
    have nk : i ≠ k := fun e => by
      subst e
      have := (set_self hk).2
      cases this
    rw [List.getElem?_set_ne nj] at hj
    rw [List.getElem?_set_ne nk] at hk
    exact E.apart j k a b l l' n hj hk
/-- less is known -/
theorem EnvAt.weak {env' : Evn} (E : EnvAt K H0 dl hs H σ env) (hl : env'.length = env.length) (h : ∀ (i : Nat) (s : Sl), env'[i]? = some (some s) → env[i]? = some (some s)) : EnvAt K H0 dl hs H σ env' :=
  ⟨by rw [E.len, hl], E.dlat, E.dl0, E.mv, E.held, fun i s e => E.slot i s (h i s e), fun i j a b l l' n hi hj => E.apart i j a b l l' n (h _ _ hi) (h _ _ hj)⟩
/-- a new list, held while it is walked -/
theorem EnvAt.hold (E : EnvAt K H0 dl hs H σ env) {a : Addr} {l : List Da} {vs : List V} (h1 : Lq K H a vs) (h2 : DasAt K H l vs) (h3 : ∀ d e, dl = some (d, e) → a ≠ d) (hn : ∀ (i : Nat) (b : Addr) (l' : List Da), env[i]? = some (some (.own b l')) → a ≠ b) :
    EnvAt K H0 dl ((a, l) :: hs) H σ env := by
  refine ⟨E.len, E.dlat, E.dl0, E.mv, fun p hp => ?_, fun i s h => ?_, E.apart⟩
  · rcases List.mem_cons.mp hp with rfl | hp
    · exact ⟨vs, h1, h2, h3⟩
    · exact E.held p hp
  · obtain ⟨v, e, hv⟩ := E.slot i s h
    refine ⟨v, e, ?_⟩
    cases s with
    | vl d => exact hv
    | ls b l' => exact ⟨hv.1, List.mem_cons_of_mem _ hv.2⟩
    | own b l' =>
      obtain ⟨e1, vs', x1, x2, x3, x4⟩ := hv
      exact ⟨e1, vs', x1, x2, x3, fun p hp => by
        rcases List.mem_cons.mp hp with rfl | hp
        · exact hn i b l' h
        · exact x4 p hp⟩
    | dr => exact hv
/-- what does not mention the held list stands without it -/
theorem EnvAt.unhold {a : Addr} {l : List Da} (E : EnvAt K H0 dl ((a, l) :: hs) H σ env) (h : ∀ (i : Nat) (b : Addr) (l' : List Da), env[i]? = some (some (.ls b l')) → (b, l') ∈ hs) : EnvAt K H0 dl hs H σ env := by
  refine ⟨E.len, E.dlat, E.dl0, E.mv, fun p hp => E.held p (List.mem_cons_of_mem _ hp), fun i s e => ?_, E.apart⟩
  obtain ⟨v, e1, hv⟩ := E.slot i s e
  refine ⟨v, e1, ?_⟩
  cases s with
  | vl d => exact hv
  | ls b l' => exact ⟨hv.1, h i b l' e⟩
  | own b l' =>
    obtain ⟨e1, vs', x1, x2, x3, x4⟩ := hv
    exact ⟨e1, vs', x1, x2, x3, fun p hp => x4 p (List.mem_cons_of_mem _ hp)⟩
  | dr => exact hv
end
end My
namespace My
open PySem L2
section
variable {K : PySem.W.Frag} {H0 H H' : Hp} {dl : Dl} {hs : Hs} {σ : St} {env : Evn}
theorem EnvAt.write (E : EnvAt K H0 dl hs H σ env) {i : Nat} {l l' : List Da} {a : Addr} {vs' : List V} (hi : env[i]? = some (some (.own a l))) (hd : DasAt K (upd H a (.lst vs')) l' vs') :
    EnvAt K H0 dl hs (upd H a (.lst vs')) σ (env.set i (some (.own a l'))) := by
  obtain ⟨v, e1, rfl, vs, ha, _, h0, hn⟩ := E.slot i _ hi
  have tk : Tk K H (upd H a (.lst vs')) := .bl (.put ha)
  have n0 : ∀ b o, H0 b = some o → a ≠ b := fun b o e z => by rw [← z, h0] at e; cases e
  have hil := (List.getElem?_eq_some_iff.mp hi).1
  refine ⟨by rw [List.length_set, E.len], fun d l e => ?_, E.dl0, fun b o n e => by rw [upd_ne (fun z => n0 b o e z.symm)]; exact E.mv b o n e, fun p hp => ?_, fun j s hj => ?_, fun j k b c l1 l2 n hj hk => ?_⟩
  · obtain ⟨_, _, _, _, _, _, q1, q2, _⟩ := E.dl0 d l e
    exact (E.dlat d l e).put (n0 _ _ q1) (n0 _ _ q2)
  · obtain ⟨ws, h1, h2, h3⟩ := E.held p hp
    have na : p.1 ≠ a := hn p hp
    refine ⟨ws, (upd_ne na).trans h1, h2.keep tk, h3⟩
  · by_cases e : i = j
    · subst e
      obtain ⟨_, hs⟩ := set_self hj
      cases hs
      exact ⟨_, e1, rfl, vs', upd_same, hd, h0, hn⟩
    · rw [List.getElem?_set_ne e] at hj
      obtain ⟨v, h1, h2⟩ := E.slot j s hj
      refine ⟨v, h1, ?_⟩
      cases s with
      | vl d => exact DaAt.keep tk h2
      | ls b l => exact h2
      | own b l1 =>
        obtain ⟨rfl, ws, hb, hd2, b0, bn⟩ := h2
        have nb : b ≠ a := (E.apart i j a b l l1 e hi hj).symm
        exact ⟨rfl, ws, by rw [upd_ne nb]; exact hb, hd2.keep tk, b0, bn⟩
      | dr => exact h2
  · have own : ∀ (m : Nat) (c : Addr) (l3 : List Da), (env.set i (some (Sl.own a l')))[m]? = some (some (Sl.own c l3)) → ∃ l4, env[m]? = some (some (Sl.own c l4)) := fun m c l3 hm => by
      by_cases e : i = m
      · subst e
        obtain ⟨_, hs⟩ := set_self hm
        cases hs
        exact ⟨l, hi⟩
      · rw [List.getElem?_set_ne e] at hm; exact ⟨l3, hm⟩
    obtain ⟨l4, h4⟩ := own j b l1 hj
    obtain ⟨l5, h5⟩ := own k c l2 hk
    exact E.apart j k b c l4 l5 n h4 h5
end
theorem Mv.fresh {dl : Dl} {H H1 : Hp} {p : Addr} (m : Mv dl H H1) (q : DlAt dl H1) (hp : H1 p = none) : H p = none := by
  cases hq : H p with
  | none => rfl
  | some o =>
    rw [m p o (q.ne hp) hq] at hp
    cases hp
/-! ### the judgements -/
/-- the expression gives data, or a list that may be read -/
def Ev (K : PySem.W.Frag) (env : Evn) (t : TE) (S : Vl → Prop) : Prop := ∀ (H0 : Hp) (dl : Dl) (hs : Hs) (σ : St) (H : Hp) (Q : VK), EnvAt K H0 dl hs H σ env →
  (∀ x v H', S x → Mv dl H H' → DlAt dl H' → VlAt K dl H' x v → Q v H') → t σ H Q
/-- the expression gives a new list -/
def Eln (K : PySem.W.Frag) (env : Evn) (t : TE) (S : List Da → Prop) : Prop := ∀ (H0 : Hp) (dl : Dl) (hs : Hs) (σ : St) (H : Hp) (Q : VK), EnvAt K H0 dl hs H σ env →
  (∀ l a vs H', S l → Mv dl H H' → DlAt dl H' → H a = none → H' a = some (.lst vs) → DasAt K H' l vs → Q (.ref a) H') → t σ H Q
def Es (K : PySem.W.Frag) (env : Evn) (t : TA) (S : List Vl → Prop) : Prop := ∀ (H0 : Hp) (dl : Dl) (hs : Hs) (σ : St) (H : Hp) (Q : List V → Hp → Prop), EnvAt K H0 dl hs H σ env →
  (∀ xs vs H', S xs → Mv dl H H' → DlAt dl H' → VlsAt K dl H' xs vs → Q vs H') → t σ H Q
def Tv (K : PySem.W.Frag) (env : Evn) (t : TT) (S : Bool → Prop) : Prop := ∀ (H0 : Hp) (dl : Dl) (hs : Hs) (σ : St) (H : Hp) (Q : Bool → Hp → Prop), EnvAt K H0 dl hs H σ env →
  (∀ b H', S b → Mv dl H H' → DlAt dl H' → Q b H') → t σ H Q
/-- how a statement ends -/
inductive Out where
  | nx (e : Evn)
  | bk (e : Evn)
  | ct (e : Evn)
  | rt (x : Vl)
  | rn (l : List Da)
def Sv (K : PySem.W.Frag) (env : Evn) (t : TS) (O : Out → Prop) : Prop := ∀ (H0 : Hp) (dl : Dl) (hs : Hs) (σ : St) (H : Hp) (D : Ends), EnvAt K H0 dl hs H σ env →
  (∀ e σ' H', O (.nx e) → Tk K H H' → EnvAt K H0 dl hs H' σ' e → D.nx σ' H') → (∀ e σ' H', O (.bk e) → Tk K H H' → EnvAt K H0 dl hs H' σ' e → D.bk σ' H') → (∀ e σ' H', O (.ct e) → Tk K H H' → EnvAt K H0 dl hs H' σ' e → D.ct σ' H') →
  (∀ x v H', O (.rt x) → Mv dl H0 H' → DlAt dl H' → VlAt K dl H' x v → D.rt v H') →
  (∀ l a vs H', O (.rn l) → Mv dl H0 H' → DlAt dl H' → H0 a = none → H' a = some (.lst vs) → DasAt K H' l vs → D.rt (.ref a) H') → t D σ H
section
variable {K : PySem.W.Frag} {env : Evn}
theorem Ev.imp {t : TE} {S S' : Vl → Prop} (h : Ev K env t S) (q : ∀ x, S x → S' x) : Ev K env t S' := fun H0 dl hs σ H Q E k => h H0 dl hs σ H Q E fun x v H' s => k x v H' (q x s)
theorem Tv.imp {t : TT} {S S' : Bool → Prop} (h : Tv K env t S) (q : ∀ x, S x → S' x) : Tv K env t S' := fun H0 dl hs σ H Q E k => h H0 dl hs σ H Q E fun x H' s => k x H' (q x s)
theorem Eln.imp {t : TE} {S S' : List Da → Prop} (h : Eln K env t S) (q : ∀ x, S x → S' x) : Eln K env t S' := fun H0 dl hs σ H Q E k => h H0 dl hs σ H Q E fun x a vs H' s => k x a vs H' (q x s)
theorem Sv.imp {t : TS} {O O' : Out → Prop} (h : Sv K env t O) (q : ∀ x, O x → O' x) : Sv K env t O' := fun H0 dl hs σ H D E a b c d e => h H0 dl hs σ H D E (fun x y z s => a x y z (q _ s)) (fun x y z s => b x y z (q _ s)) (fun x y z s => c x y z (q _ s)) (fun x y z s => d x y z (q _ s)) (fun x y z u s => e x y z u (q _ s))
/-- a new list is a list that may be read -/
theorem Ev.ofNew {t : TE} {S : Vl → Prop} (h : Eln K env t fun l => S (.ls l)) : Ev K env t S := fun H0 dl hs σ H Q E k =>
  h H0 dl hs σ H Q E fun l a vs H' s m q n e r => k _ _ H' s m q ⟨a, vs, rfl, e, r, E.dlat.ne n⟩
/-! ### expressions -/
theorem ev_var {i : Nat} {d : Da} {S : Vl → Prop} (h : env[i]? = some (some (.vl d))) (s : S (.da d)) : Ev K env (tVar i) S := fun H0 dl hs σ H Q E k => by
  obtain ⟨v, h1, h2⟩ := E.slot i _ h
  exact ⟨v, h1, k _ v H s (.refl _ _) E.dlat h2⟩
theorem ev_varL {i : Nat} {a : Addr} {l : List Da} {S : Vl → Prop} (h : env[i]? = some (some (.ls a l))) (s : S (.ls l)) : Ev K env (tVar i) S := fun H0 dl hs σ H Q E k => by
  obtain ⟨v, h1, rfl, h2⟩ := E.slot i _ h
  obtain ⟨vs, h3, h4, h5⟩ := E.held _ h2
  exact ⟨_, h1, k _ _ H s (.refl _ _) E.dlat ⟨a, vs, rfl, h3, h4, h5⟩⟩
theorem ev_varO {i : Nat} {a : Addr} {l : List Da} {S : Vl → Prop} (h : env[i]? = some (some (.own a l))) (s : S (.ls l)) : Ev K env (tVar i) S := fun H0 dl hs σ H Q E k => by
  obtain ⟨v, h1, rfl, vs, h2, h3, h4, _⟩ := E.slot i _ h
  exact ⟨_, h1, k _ _ H s (.refl _ _) E.dlat ⟨a, vs, rfl, h2, h3, E.dl0.ne h4⟩⟩
theorem ev_str {x : Str} {S : Vl → Prop} (s : S (.da (.str x))) : Ev K env (tC (.str x)) S := fun H0 dl hs σ H Q E k => k _ _ H s (.refl _ _) E.dlat (.str x)
theorem ev_int {x : Int} {S : Vl → Prop} (s : S (.da (.int x))) : Ev K env (tC (.int x)) S := fun H0 dl hs σ H Q E k => k _ _ H s (.refl _ _) E.dlat (.int x)
theorem ev_bl {x : Bool} {S : Vl → Prop} (s : S (.da (.bl x))) : Ev K env (tC (.bl x)) S := fun H0 dl hs σ H Q E k => k _ _ H s (.refl _ _) E.dlat (.bl x)
theorem ev_non {S : Vl → Prop} (s : S (.da .non)) : Ev K env (tC .non) S := fun H0 dl hs σ H Q E k => k _ _ H s (.refl _ _) E.dlat .non
theorem es_nil {S : List Vl → Prop} (s : S []) : Es K env tNil S := fun H0 dl hs σ H Q E k => k [] [] H s (.refl _ _) E.dlat .nil
theorem es_cons {t : TE} {u : TA} {S : List Vl → Prop} (h : Ev K env t fun x => Es K env u fun xs => S (x :: xs)) : Es K env (tCons t u) S := fun H0 dl hs σ H Q E k =>
  h H0 dl hs σ H _ E fun x v H1 hx m q r => hx H0 dl hs σ H1 _ (E.go m q) fun xs vs H2 hx2 m2 q2 r2 => k _ _ H2 hx2 (m.trans m2) q2 (.cons (r.keep m2 q) r2)
/-- all data -/
def das : List Vl → Option (List Da)
  | [] => some []
  | .da d :: r => (das r).map (d :: ·)
  | .ls _ :: _ => none
theorem das_at {dl : Dl} {H : Hp} : ∀ {xs : List Vl} {ds : List Da} {vs : List V}, VlsAt K dl H xs vs → das xs = some ds → DasAt K H ds vs
  | _, _, _, .nil, e => by cases e; exact .nil
  | _, _, _, .cons (x := .da d) h r, e => by
    rw [das] at e
    obtain ⟨ds, h1, rfl⟩ := Option.map_eq_some_iff.mp e
    exact .cons h (das_at r h1)
  | _, _, _, .cons (x := .ls d) h r, e => by cases e
structure KDas (xs : List Vl) (S : List Da → Prop) : Prop where
  h : ∃ ds, das xs = some ds ∧ ds.length ≤ sizeLine ∧ S ds
theorem k_das {xs : List Vl} {ds : List Da} {S : List Da → Prop} (h : das xs = some ds) (n : ds.length ≤ sizeLine) (s : S ds) : KDas xs S := ⟨ds, h, n, s⟩
theorem ev_tup {t : TA} {S : Vl → Prop} (h : Es K env t fun xs => KDas xs fun ds => S (.da (.tup ds))) : Ev K env (tTup t) S := fun H0 dl hs σ H Q E k =>
  h H0 dl hs σ H _ E fun xs vs H1 hx m q r => by
    obtain ⟨ds, e, n, s⟩ := hx
    have r2 := das_at r e
    exact ⟨by rw [r2.len]; exact n, fun p hp => k _ _ _ s (m.trans (.same (same_upd hp))) (q.same (same_upd hp)) (.tup (SqT.of upd_same) (r2.keep (.same (same_upd hp))))⟩
theorem el_lst {t : TA} {S : List Da → Prop} (h : Es K env t fun xs => KDas xs S) : Eln K env (tLst t) S := fun H0 dl hs σ H Q E k =>
  h H0 dl hs σ H _ E fun xs vs H1 hx m q r => by
    obtain ⟨ds, e, n, s⟩ := hx
    have r2 := das_at r e
    refine ⟨by rw [r2.len]; exact n, fun p hp => ?_⟩
    have hn : H p = none := m.fresh q hp
    exact k _ _ _ _ s (m.trans (.same (same_upd hp))) (q.same (same_upd hp)) hn upd_same (r2.keep (.same (same_upd hp)))
end
end My
namespace My
open PySem L2
/-! ### atoms -/
def atm : Da → Option V
  | .non => some .non
  | .bl b => some (.bl b)
  | .int i => some (.int i)
  | .str s => some (.str s)
  | .tup _ => none
theorem atm_at {K : PySem.W.Frag} {H : Hp} {d : Da} {v a : V} (h : DaAt K H d v) (e : atm d = some a) : v = a := by
  cases h <;> cases e <;> rfl
def atms : List Da → Option (List V)
  | [] => some []
  | d :: r => (atm d).bind fun a => (atms r).map (a :: ·)
theorem atms_at {K : PySem.W.Frag} {H : Hp} : ∀ {ds : List Da} {vs as : List V}, DasAt K H ds vs → atms ds = some as → vs = as
  | _, _, _, .nil, e => by cases e; rfl
  | _, _, _, .cons h r, e => by
    rw [atms] at e
    obtain ⟨a, e1, e2⟩ := Option.bind_eq_some_iff.mp e
    obtain ⟨as, e3, rfl⟩ := Option.map_eq_some_iff.mp e2
    rw [atm_at h e1, atms_at r e3]
theorem atm_flat {d : Da} {a : V} (e : atm d = some a) : flatV a = true := by
  cases d <;> cases e <;> rfl
theorem atms_flat : ∀ {ds : List Da} {as : List V}, atms ds = some as → as.all flatV = true
  | [], _, e => by cases e; rfl
  | d :: r, _, e => by
    rw [atms] at e
    obtain ⟨a, e1, e2⟩ := Option.bind_eq_some_iff.mp e
    obtain ⟨as, e3, rfl⟩ := Option.map_eq_some_iff.mp e2
    rw [List.all_cons, atm_flat e1, atms_flat e3]
    rfl
section
variable {K : PySem.W.Frag} {env : Evn} {S : Vl → Prop}
/-! ### two operands -/
structure KEq (x y : Vl) (R : Bool → Prop) : Prop where
  h : ∃ d e a b, x = .da d ∧ y = .da e ∧ atm d = some a ∧ atm e = some b ∧ scal a b = true ∧ R (decide (a = b))
theorem k_eqS {s t : Str} {R : Bool → Prop} (h : R (decide (s = t))) : KEq (.da (.str s)) (.da (.str t)) R := ⟨_, _, _, _, rfl, rfl, rfl, rfl, rfl, by simpa using h⟩
theorem k_eqI {s t : Int} {R : Bool → Prop} (h : R (decide (s = t))) : KEq (.da (.int s)) (.da (.int t)) R := ⟨_, _, _, _, rfl, rfl, rfl, rfl, rfl, by simpa using h⟩
theorem k_eqB {s t : Bool} {R : Bool → Prop} (h : R (decide (s = t))) : KEq (.da (.bl s)) (.da (.bl t)) R := ⟨_, _, _, _, rfl, rfl, rfl, rfl, rfl, by simpa using h⟩
theorem k_eqO {d e : Da} {a b : V} {R : Bool → Prop} (h1 : atm d = some a) (h2 : atm e = some b) (hs : scal a b = true) (hn : decide (a = b) = false) (h : R false) : KEq (.da d) (.da e) R := ⟨_, _, _, _, rfl, rfl, h1, h2, hs, by rw [hn]; exact h⟩
theorem ev_eq {ta tb : TE} (h : Ev K env ta fun x => Ev K env tb fun y => KEq x y fun b => S (.da (.bl b))) : Ev K env (tOp rEq ta tb) S := fun H0 dl hs σ H Q E k =>
  h H0 dl hs σ H _ E fun x v H1 hx m q r => hx H0 dl hs σ H1 _ (E.go m q) fun y u H2 hy m2 q2 r2 => by
    obtain ⟨d, e, a, b, rfl, rfl, e1, e2, hs, s⟩ := hy
    have h1 := atm_at (show DaAt K H1 d v from r) e1
    have h2 := atm_at (show DaAt K H2 e u from r2) e2
    subst h1 h2
    exact ⟨hs, k _ _ H2 s (m.trans m2) q2 (.bl _)⟩
theorem ev_ne {ta tb : TE} (h : Ev K env ta fun x => Ev K env tb fun y => KEq x y fun b => S (.da (.bl (!b)))) : Ev K env (tOp rNe ta tb) S := fun H0 dl hs σ H Q E k =>
  h H0 dl hs σ H _ E fun x v H1 hx m q r => hx H0 dl hs σ H1 _ (E.go m q) fun y u H2 hy m2 q2 r2 => by
    obtain ⟨d, e, a, b, rfl, rfl, e1, e2, hs, s⟩ := hy
    have h1 := atm_at (show DaAt K H1 d v from r) e1
    have h2 := atm_at (show DaAt K H2 e u from r2) e2
    subst h1 h2
    exact ⟨hs, k _ _ H2 s (m.trans m2) q2 (.bl _)⟩
structure KI2 (x y : Vl) (R : Int → Int → Prop) : Prop where
  h : ∃ i j, x = .da (.int i) ∧ y = .da (.int j) ∧ R i j
theorem k_i2 {i j : Int} {R : Int → Int → Prop} (h : R i j) : KI2 (.da (.int i)) (.da (.int j)) R := ⟨i, j, rfl, rfl, h⟩
theorem ev_i0 {ta tb : TE} {f : Int → Int → Int} (h : Ev K env ta fun x => Ev K env tb fun y => KI2 x y fun i j => S (.da (.int (f i j)))) : Ev K env (tOp (rI0 fun i j => .int (f i j)) ta tb) S := fun H0 dl hs σ H Q E k =>
  h H0 dl hs σ H _ E fun x v H1 hx m q r => hx H0 dl hs σ H1 _ (E.go m q) fun y u H2 hy m2 q2 r2 => by
    obtain ⟨i, j, rfl, rfl, s⟩ := hy
    have h1 := atm_at (show DaAt K H1 (.int i) v from r) rfl
    have h2 := atm_at (show DaAt K H2 (.int j) u from r2) rfl
    subst h1 h2
    exact ⟨i, j, rfl, rfl, k _ _ H2 s (m.trans m2) q2 (.int _)⟩
theorem ev_ib {ta tb : TE} {f : Int → Int → Bool} (h : Ev K env ta fun x => Ev K env tb fun y => KI2 x y fun i j => S (.da (.bl (f i j)))) : Ev K env (tOp (rI0 fun i j => .bl (f i j)) ta tb) S := fun H0 dl hs σ H Q E k =>
  h H0 dl hs σ H _ E fun x v H1 hx m q r => hx H0 dl hs σ H1 _ (E.go m q) fun y u H2 hy m2 q2 r2 => by
    obtain ⟨i, j, rfl, rfl, s⟩ := hy
    have h1 := atm_at (show DaAt K H1 (.int i) v from r) rfl
    have h2 := atm_at (show DaAt K H2 (.int j) u from r2) rfl
    subst h1 h2
    exact ⟨i, j, rfl, rfl, k _ _ H2 s (m.trans m2) q2 (.bl _)⟩
theorem ev_iC {ta tb : TE} {C : Int → Int → Prop} {f : Int → Int → Int} (h : Ev K env ta fun x => Ev K env tb fun y => KI2 x y fun i j => C i j ∧ S (.da (.int (f i j)))) : Ev K env (tOp (rI C fun i j => .int (f i j)) ta tb) S := fun H0 dl hs σ H Q E k =>
  h H0 dl hs σ H _ E fun x v H1 hx m q r => hx H0 dl hs σ H1 _ (E.go m q) fun y u H2 hy m2 q2 r2 => by
    obtain ⟨i, j, rfl, rfl, c, s⟩ := hy
    have h1 := atm_at (show DaAt K H1 (.int i) v from r) rfl
    have h2 := atm_at (show DaAt K H2 (.int j) u from r2) rfl
    subst h1 h2
    exact ⟨i, j, rfl, rfl, c, k _ _ H2 s (m.trans m2) q2 (.int _)⟩
structure KI1 (x : Vl) (R : Int → Prop) : Prop where
  h : ∃ i, x = .da (.int i) ∧ R i
theorem k_i1 {i : Int} {R : Int → Prop} (h : R i) : KI1 (.da (.int i)) R := ⟨i, rfl, h⟩
theorem ev_u {ta : TE} {f : Int → Int} (h : Ev K env ta fun x => KI1 x fun i => S (.da (.int (f i)))) : Ev K env (tUn (rU fun i => .int (f i)) ta) S := fun H0 dl hs σ H Q E k =>
  h H0 dl hs σ H _ E fun x v H1 hx m q r => by
    obtain ⟨i, rfl, s⟩ := hx
    have h1 := atm_at (show DaAt K H1 (.int i) v from r) rfl
    subst h1
    exact ⟨i, rfl, k _ _ H1 s m q (.int _)⟩
/-! ### texts -/
structure KS2 (x y : Vl) (R : Str → Str → Prop) : Prop where
  h : ∃ i j, x = .da (.str i) ∧ y = .da (.str j) ∧ i.length + j.length ≤ sizeLine ∧ R i j
theorem k_s2 {i j : Str} {R : Str → Str → Prop} (n : i.length + j.length ≤ sizeLine) (h : R i j) : KS2 (.da (.str i)) (.da (.str j)) R := ⟨i, j, rfl, rfl, n, h⟩
theorem ev_catS {ta tb : TE} (h : Ev K env ta fun x => Ev K env tb fun y => KS2 x y fun i j => S (.da (.str (i ++ j)))) : Ev K env (tOp (fun x y H Q => ∃ i j, x = .str i ∧ y = .str j ∧ i.length + j.length ≤ sizeLine ∧ Q (.str (i ++ j)) H) ta tb) S := fun H0 dl hs σ H Q E k =>
  h H0 dl hs σ H _ E fun x v H1 hx m q r => hx H0 dl hs σ H1 _ (E.go m q) fun y u H2 hy m2 q2 r2 => by
    obtain ⟨i, j, rfl, rfl, n, s⟩ := hy
    have h1 := atm_at (show DaAt K H1 (.str i) v from r) rfl
    have h2 := atm_at (show DaAt K H2 (.str j) u from r2) rfl
    subst h1 h2
    exact ⟨i, j, rfl, rfl, n, k _ _ H2 s (m.trans m2) q2 (.str _)⟩
/-! ### tuples -/
theorem das_len {H : Hp} : ∀ {l : List Da} {vs : List V}, DasAt K H l vs → vs.length = l.length := fun h => h.len
theorem das_atI {H : Hp} {l : List Da} {vs : List V} {i : Int} {d : Da} (h : DasAt K H l vs) (e : atI l i = some d) : ∃ v, atI vs i = some v ∧ DaAt K H d v := by
  unfold atI at e ⊢
  obtain ⟨j, e1, e2⟩ := Option.bind_eq_some_iff.mp e
  obtain ⟨v, e3, e4⟩ := h.at e2
  exact ⟨v, by rw [h.len, e1]; exact e3, e4⟩
structure KIx (x y : Vl) (R : Da → Prop) : Prop where
  h : ∃ l i d, (x = .da (.tup l) ∨ x = .ls l) ∧ y = .da (.int i) ∧ atI l i = some d ∧ R d
theorem k_ixT {l : List Da} {i : Int} {d : Da} {R : Da → Prop} (e : atI l i = some d) (h : R d) : KIx (.da (.tup l)) (.da (.int i)) R := ⟨l, i, d, .inl rfl, rfl, e, h⟩
theorem k_ixL {l : List Da} {i : Int} {d : Da} {R : Da → Prop} (e : atI l i = some d) (h : R d) : KIx (.ls l) (.da (.int i)) R := ⟨l, i, d, .inr rfl, rfl, e, h⟩
structure KT (x : Vl) (R : List Da → Prop) : Prop where
  h : ∃ l, x = .da (.tup l) ∧ R l
theorem k_t {l : List Da} {R : List Da → Prop} (h : R l) : KT (.da (.tup l)) R := ⟨l, rfl, h⟩
theorem da_tup {H : Hp} {l : List Da} {v : V} (h : DaAt K H (.tup l) v) : ∃ a vs, v = .ref a ∧ SqT K H a vs ∧ DasAt K H l vs := by
  cases h with
  | tup h r => exact ⟨_, _, rfl, h, r⟩
theorem ev_ixT {ta tb : TE} (h : Ev K env ta fun x => KT x fun l => Ev K env tb fun y => KI1 y fun i => ∃ d, atI l i = some d ∧ S (.da d)) : Ev K env (tOp (rIxT K) ta tb) S := fun H0 dl hs σ H Q E k =>
  h H0 dl hs σ H _ E fun x v H1 hx m q r => by
    obtain ⟨l, rfl, hx⟩ := hx
    refine hx H0 dl hs σ H1 _ (E.go m q) fun y u H2 hy m2 q2 r2 => ?_
    obtain ⟨i, rfl, d, e, s⟩ := hy
    obtain ⟨a, vs, rfl, h1, h2⟩ := da_tup (DaAt.keep (m2.tk q) r)
    have h3 := atm_at (show DaAt K H2 (.int i) u from r2) rfl
    subst h3
    obtain ⟨w, e2, hw⟩ := das_atI h2 e
    exact ⟨a, vs, i, w, rfl, rfl, h1, e2, k _ _ H2 s (m.trans m2) q2 hw⟩
structure KL (x : Vl) (R : List Da → Prop) : Prop where
  h : ∃ l, x = .ls l ∧ R l
theorem k_l {l : List Da} {R : List Da → Prop} (h : R l) : KL (.ls l) R := ⟨l, rfl, h⟩
theorem ev_ixL {ta tb : TE} (h : Ev K env ta fun x => KL x fun l => Ev K env tb fun y => KI1 y fun i => ∃ d, atI l i = some d ∧ S (.da d)) : Ev K env (tOp (rIxL K) ta tb) S := fun H0 dl hs σ H Q E k =>
  h H0 dl hs σ H _ E fun x v H1 hx m q r => by
    obtain ⟨l, rfl, hx⟩ := hx
    refine hx H0 dl hs σ H1 _ (E.go m q) fun y u H2 hy m2 q2 r2 => ?_
    obtain ⟨i, rfl, d, e, s⟩ := hy
    obtain ⟨a, vs, rfl, h1, h2, n⟩ := r.keep m2 q
    have h3 := atm_at (show DaAt K H2 (.int i) u from r2) rfl
    subst h3
    obtain ⟨w, e2, hw⟩ := das_atI h2 e
    exact ⟨a, vs, i, w, rfl, rfl, h1.sq, e2, k _ _ H2 s (m.trans m2) q2 hw⟩
def cutD (xs : List Da) (lo hi : Option Int) : List Da := (xs.drop (HT.sIx xs.length 0 lo)).take (HT.sIx xs.length xs.length hi - HT.sIx xs.length 0 lo)
theorem das_take {H : Hp} : ∀ {l : List Da} {vs : List V}, DasAt K H l vs → ∀ n, DasAt K H (l.take n) (vs.take n)
  | _, _, _, 0 => .nil
  | _, _, .nil, _ + 1 => .nil
  | _, _, .cons h r, n + 1 => .cons h (das_take r n)
theorem das_drop {H : Hp} : ∀ {l : List Da} {vs : List V}, DasAt K H l vs → ∀ n, DasAt K H (l.drop n) (vs.drop n)
  | _, _, h, 0 => h
  | _, _, .nil, _ + 1 => .nil
  | _, _, .cons h r, n + 1 => das_drop r n
theorem das_app {H : Hp} : ∀ {l l2 : List Da} {vs us : List V}, DasAt K H l vs → DasAt K H l2 us → DasAt K H (l ++ l2) (vs ++ us)
  | _, _, _, _, .nil, h => h
  | _, _, _, _, .cons h r, h2 => .cons h (das_app r h2)
theorem das_cut {H : Hp} {l : List Da} {vs : List V} (h : DasAt K H l vs) (lo hi : Option Int) : DasAt K H (cutD l lo hi) (cutV vs lo hi) := by
  unfold cutD cutV
  rw [h.len]
  exact das_take (das_drop h _) _
/-- a slice's bound -/
def Eo (K : PySem.W.Frag) (env : Evn) (t : TO) (S : Option Int → Prop) : Prop := ∀ (H0 : Hp) (dl : Dl) (hs : Hs) (σ : St) (H : Hp) (Q : Option Int → Hp → Prop), EnvAt K H0 dl hs H σ env →
  (∀ x H', S x → Mv dl H H' → DlAt dl H' → Q x H') → t σ H Q
theorem eo_no {R : Option Int → Prop} (s : R none) : Eo K env tNoPart R := fun H0 dl hs σ H Q E k => k _ H s (.refl _ _) E.dlat
theorem eo_some {t : TE} {R : Option Int → Prop} (h : Ev K env t fun x => KI1 x fun i => R (some i)) : Eo K env (tPart t) R := fun H0 dl hs σ H Q E k =>
  h H0 dl hs σ H _ E fun x v H1 hx m q r => by
    obtain ⟨i, rfl, s⟩ := hx
    have h3 := atm_at (show DaAt K H1 (.int i) v from r) rfl
    exact ⟨i, h3, k _ H1 s m q⟩
theorem ev_slT {te : TE} {tl th : TO} (h : Ev K env te fun x => KT x fun l => Eo K env tl fun lo => Eo K env th fun hi => ¬ (HT.sIx l.length 0 lo = 0 ∧ HT.sIx l.length l.length hi = l.length) ∧ S (.da (.tup (cutD l lo hi)))) : Ev K env (tSl (rSlT K) te tl th) S := fun H0 dl hs σ H Q E k =>
  h H0 dl hs σ H _ E fun x v H1 hx m q r => by
    obtain ⟨l, rfl, hx⟩ := hx
    refine hx H0 dl hs σ H1 _ (E.go m q) fun lo H2 hy m2 q2 => hy H0 dl hs σ H2 _ (E.go (m.trans m2) q2) fun hi H3 hz m3 q3 => ?_
    obtain ⟨nw, s⟩ := hz
    obtain ⟨a, vs, rfl, h1, h2⟩ := da_tup (DaAt.keep ((m2.trans m3).tk q) r)
    refine ⟨a, vs, rfl, h1, by rw [h2.len]; exact nw, fun p hp => ?_⟩
    exact k _ _ _ s ((m.trans (m2.trans m3)).trans (.same (same_upd hp))) (q3.same (same_upd hp)) (.tup (SqT.of upd_same) ((das_cut h2 lo hi).keep (.same (same_upd hp))))
theorem ev_catT {ta tb : TE} (h : Ev K env ta fun x => KT x fun l => Ev K env tb fun y => KT y fun l2 => l ≠ [] ∧ l.length + l2.length ≤ sizeLine ∧ S (.da (.tup (l ++ l2)))) : Ev K env (tOp (rCatT K) ta tb) S := fun H0 dl hs σ H Q E k =>
  h H0 dl hs σ H _ E fun x v H1 hx m q r => by
    obtain ⟨l, rfl, hx⟩ := hx
    refine hx H0 dl hs σ H1 _ (E.go m q) fun y u H2 hy m2 q2 r2 => ?_
    obtain ⟨l2, rfl, ne, n, s⟩ := hy
    obtain ⟨a, vs, rfl, h1, h2⟩ := da_tup (DaAt.keep (m2.tk q) r)
    obtain ⟨b, us, rfl, h3, h4⟩ := da_tup r2
    refine ⟨a, b, vs, us, rfl, rfl, h1, h3, fun e => ne ?_, by rw [h2.len, h4.len]; exact n, fun e => ?_, fun e p hp => ?_⟩
    · have := h2.len
      rw [e] at this
      exact List.eq_nil_of_length_eq_zero this.symm
    · have e2 : l2 = [] := by
        have := h4.len
        rw [e] at this
        exact List.eq_nil_of_length_eq_zero this.symm
      subst e2
      exact k _ _ H2 s (m.trans m2) q2 (by rw [List.append_nil]; exact .tup h1 h2)
    · exact k _ _ _ s ((m.trans m2).trans (.same (same_upd hp))) (q2.same (same_upd hp)) (.tup (SqT.of upd_same) ((das_app h2 h4).keep (.same (same_upd hp))))
end
end My
namespace My
open PySem L2
section
variable {K : PySem.W.Frag} {env : Evn} {S : Vl → Prop}
/-! ### in, is, len -/
structure KIn (x y : Vl) (R : Bool → Prop) : Prop where
  h : ∃ d l a as, x = .da d ∧ (y = .da (.tup l) ∨ y = .ls l) ∧ atm d = some a ∧ atms l = some as ∧ R (inV a as)
theorem k_inT {d : Da} {l : List Da} {a : V} {as : List V} {R : Bool → Prop} (h1 : atm d = some a) (h2 : atms l = some as) (h : R (inV a as)) : KIn (.da d) (.da (.tup l)) R := ⟨d, l, a, as, rfl, .inl rfl, h1, h2, h⟩
theorem k_inL {d : Da} {l : List Da} {a : V} {as : List V} {R : Bool → Prop} (h1 : atm d = some a) (h2 : atms l = some as) (h : R (inV a as)) : KIn (.da d) (.ls l) R := ⟨d, l, a, as, rfl, .inr rfl, h1, h2, h⟩
theorem ev_in {ng : Bool} {ta tb : TE} (h : Ev K env ta fun x => Ev K env tb fun y => KIn x y fun b => S (.da (.bl (if ng then !b else b)))) : Ev K env (tOp (rIn K ng) ta tb) S := fun H0 dl hs σ H Q E k =>
  h H0 dl hs σ H _ E fun x v H1 hx m q r => hx H0 dl hs σ H1 _ (E.go m q) fun y u H2 hy m2 q2 r2 => by
    obtain ⟨d, l, a, as, rfl, hl, e1, e2, s⟩ := hy
    have h1 := atm_at (show DaAt K H1 d v from r) e1
    subst h1
    rcases hl with rfl | rfl
    · obtain ⟨p, vs, rfl, h3, h4⟩ := da_tup r2
      rw [atms_at h4 e2] at h3
      exact ⟨p, as, rfl, .inr h3, atm_flat e1, atms_flat e2, k _ _ H2 s (m.trans m2) q2 (.bl _)⟩
    · obtain ⟨p, vs, rfl, h3, h4, _⟩ := r2
      rw [atms_at h4 e2] at h3
      exact ⟨p, as, rfl, .inl h3.sq, atm_flat e1, atms_flat e2, k _ _ H2 s (m.trans m2) q2 (.bl _)⟩
def isN : Da → Bool
  | .non => true
  | _ => false
theorem isN_at {H : Hp} {d : Da} {v : V} (h : DaAt K H d v) : decide (v = .non) = isN d := by
  cases h <;> rfl
structure KN (x : Vl) (R : Bool → Prop) : Prop where
  h : (∃ d, x = .da d ∧ R (isN d)) ∨ ∃ l, x = .ls l ∧ R false
theorem k_n {d : Da} {R : Bool → Prop} (h : R (isN d)) : KN (.da d) R := ⟨.inl ⟨d, rfl, h⟩⟩
theorem k_nL {l : List Da} {R : Bool → Prop} (h : R false) : KN (.ls l) R := ⟨.inr ⟨l, rfl, h⟩⟩
theorem ev_isN {ta : TE} (h : Ev K env ta fun x => KN x fun b => S (.da (.bl b))) : Ev K env (tOp rIsN ta (tC .non)) S := fun H0 dl hs σ H Q E k =>
  h H0 dl hs σ H _ E fun x v H1 hx m q r => by
    rcases hx.h with ⟨d, rfl, s⟩ | ⟨l, rfl, s⟩
    · refine ⟨rfl, ?_⟩
      rw [isN_at r]
      exact k _ _ H1 s m q (.bl _)
    · obtain ⟨a, vs, rfl, _⟩ := r
      refine ⟨rfl, ?_⟩
      rw [show decide (V.ref a = V.non) = false from decide_eq_false (fun z => by cases z)]
      exact k _ _ H1 s m q (.bl _)
theorem ev_notN {ta : TE} (h : Ev K env ta fun x => KN x fun b => S (.da (.bl (!b)))) : Ev K env (tOp rNotN ta (tC .non)) S := fun H0 dl hs σ H Q E k =>
  h H0 dl hs σ H _ E fun x v H1 hx m q r => by
    rcases hx.h with ⟨d, rfl, s⟩ | ⟨l, rfl, s⟩
    · refine ⟨rfl, ?_⟩
      rw [isN_at r]
      exact k _ _ H1 s m q (.bl _)
    · obtain ⟨a, vs, rfl, _⟩ := r
      refine ⟨rfl, ?_⟩
      rw [show decide (V.ref a = V.non) = false from decide_eq_false (fun z => by cases z)]
      exact k _ _ H1 s m q (.bl _)
structure KB (x : Vl) (R : Bool → Prop) : Prop where
  h : ∃ b, x = .da (.bl b) ∧ R b
theorem k_b {b : Bool} {R : Bool → Prop} (h : R b) : KB (.da (.bl b)) R := ⟨b, rfl, h⟩
theorem ev_isB {ta tb : TE} (h : Ev K env ta fun x => KB x fun a => Ev K env tb fun y => KB y fun b => S (.da (.bl (decide (a = b))))) : Ev K env (tOp rIsB ta tb) S := fun H0 dl hs σ H Q E k =>
  h H0 dl hs σ H _ E fun x v H1 hx m q r => by
    obtain ⟨a, rfl, hx⟩ := hx
    refine hx H0 dl hs σ H1 _ (E.go m q) fun y u H2 hy m2 q2 r2 => ?_
    obtain ⟨b, rfl, s⟩ := hy
    have h1 := atm_at (show DaAt K H1 (.bl a) v from r) rfl
    have h2 := atm_at (show DaAt K H2 (.bl b) u from r2) rfl
    exact ⟨a, b, h1, h2, k _ _ H2 s (m.trans m2) q2 (.bl _)⟩
theorem ev_notB {ta tb : TE} (h : Ev K env ta fun x => KB x fun a => Ev K env tb fun y => KB y fun b => S (.da (.bl (!decide (a = b))))) : Ev K env (tOp rNotB ta tb) S := fun H0 dl hs σ H Q E k =>
  h H0 dl hs σ H _ E fun x v H1 hx m q r => by
    obtain ⟨a, rfl, hx⟩ := hx
    refine hx H0 dl hs σ H1 _ (E.go m q) fun y u H2 hy m2 q2 r2 => ?_
    obtain ⟨b, rfl, s⟩ := hy
    have h1 := atm_at (show DaAt K H1 (.bl a) v from r) rfl
    have h2 := atm_at (show DaAt K H2 (.bl b) u from r2) rfl
    exact ⟨a, b, h1, h2, k _ _ H2 s (m.trans m2) q2 (.bl _)⟩
/-- isinstance -/
def tyVl : Vl → String
  | .da d => tyDa d
  | .ls _ => "list"
theorem tyVl_at {dl : Dl} {H : Hp} : ∀ {x : Vl} {v : V}, VlAt K dl H x v → TyX K H v (.type (tyVl x))
  | .da _, _, h => da_ty h
  | .ls _, _, ⟨a, vs, e, h, _⟩ => by
    subst e
    exact .base (.lst h)
structure KTy (x : Vl) (T : String) (R : Bool → Prop) : Prop where
  h : ∃ b, kitB (tyVl x) T = some b ∧ R b
theorem k_ty {x : Vl} {T : String} {b : Bool} {R : Bool → Prop} (h : kitB (tyVl x) T = some b) (r : R b) : KTy x T R := ⟨b, h, r⟩
theorem ev_isi {ta : TE} {T : String} (h : Ev K env ta fun x => KTy x T fun b => S (.da (.bl b))) : Ev K env (tCB (rIsi K) (tCons ta (tCons (tC (.ty T)) tNil))) S := fun H0 dl hs σ H Q E k =>
  h H0 dl hs σ H _ E fun x v H1 hx m q r => by
    obtain ⟨b, e, s⟩ := hx
    exact ⟨v, .ty T, _, _, b, rfl, .ty _, tyVl_at r, kit_ty e, k _ _ H1 s m q (.bl _)⟩
end
end My
namespace My
open PySem L2
section
variable {K : PySem.W.Frag} {env : Evn} {S : Vl → Prop}
/-! ### and, or, not, if -/
structure KIf (b : Bool) (A B : Prop) : Prop where
  h : if b = true then A else B
theorem k_ift {b : Bool} {A B : Prop} (e : b = true) (h : A) : KIf b A B := ⟨by rw [if_pos e]; exact h⟩
theorem k_iff {b : Bool} {A B : Prop} (e : b = false) (h : B) : KIf b A B := ⟨by rw [e]; exact h⟩
theorem k_if {b : Bool} {A B : Prop} (h1 : b = true → A) (h2 : b = false → B) : KIf b A B := ⟨by
  cases b
  · exact h2 rfl
  · exact h1 rfl⟩
theorem ev_andV {ta tb : TE} (h : Ev K env ta fun x => KB x fun a => KIf a (Ev K env tb S) (S (.da (.bl false)))) : Ev K env (tAndV ta tb) S := fun H0 dl hs σ H Q E k =>
  h H0 dl hs σ H _ E fun x v H1 hx m q r => by
    obtain ⟨a, rfl, ⟨hx⟩⟩ := hx
    have h1 := atm_at (show DaAt K H1 (.bl a) v from r) rfl
    refine ⟨a, h1, ?_⟩
    cases a
    · exact k _ _ H1 hx m q (.bl _)
    · exact hx H0 dl hs σ H1 Q (E.go m q) fun y u H2 s m2 q2 r2 => k y u H2 s (m.trans m2) q2 r2
theorem ev_orV {ta tb : TE} (h : Ev K env ta fun x => KB x fun a => KIf a (S (.da (.bl true))) (Ev K env tb S)) : Ev K env (tOrV ta tb) S := fun H0 dl hs σ H Q E k =>
  h H0 dl hs σ H _ E fun x v H1 hx m q r => by
    obtain ⟨a, rfl, ⟨hx⟩⟩ := hx
    have h1 := atm_at (show DaAt K H1 (.bl a) v from r) rfl
    refine ⟨a, h1, ?_⟩
    cases a
    · exact hx H0 dl hs σ H1 Q (E.go m q) fun y u H2 s m2 q2 r2 => k y u H2 s (m.trans m2) q2 r2
    · exact k _ _ H1 hx m q (.bl _)
theorem ev_notV {ta : TE} (h : Ev K env ta fun x => KB x fun a => S (.da (.bl (!a)))) : Ev K env (tNotV ta) S := fun H0 dl hs σ H Q E k =>
  h H0 dl hs σ H _ E fun x v H1 hx m q r => by
    obtain ⟨a, rfl, s⟩ := hx
    have h1 := atm_at (show DaAt K H1 (.bl a) v from r) rfl
    exact ⟨a, h1, k _ _ H1 s m q (.bl _)⟩
variable {R : Bool → Prop}
theorem tv_test {t : TE} (h : Ev K env t fun x => KB x R) : Tv K env (tTest t) R := fun H0 dl hs σ H Q E k =>
  h H0 dl hs σ H _ E fun x v H1 hx m q r => by
    obtain ⟨a, rfl, s⟩ := hx
    exact ⟨a, atm_at (show DaAt K H1 (.bl a) v from r) rfl, k _ H1 s m q⟩
theorem tv_b {t : TE} (h : Ev K env t fun x => KB x R) : Tv K env (tB t) R := fun H0 dl hs σ H Q E k =>
  h H0 dl hs σ H _ E fun x v H1 hx m q r => by
    obtain ⟨a, rfl, s⟩ := hx
    exact ⟨a, atm_at (show DaAt K H1 (.bl a) v from r) rfl, k _ H1 s m q⟩
theorem tv_yes (h : R true) : Tv K env tYes R := fun H0 dl hs σ H Q E k => k _ H h (.refl _ _) E.dlat
theorem tv_not {t : TT} (h : Tv K env t fun a => R (!a)) : Tv K env (tNot t) R := fun H0 dl hs σ H Q E k => h H0 dl hs σ H _ E fun a H1 s m q => k _ H1 s m q
theorem tv_and {t u : TT} (h : Tv K env t fun a => KIf a (Tv K env u R) (R false)) : Tv K env (tAnd t u) R := fun H0 dl hs σ H Q E k =>
  h H0 dl hs σ H _ E fun a H1 hx m q => by
    obtain ⟨hx⟩ := hx
    cases a
    · exact k _ H1 hx m q
    · exact hx H0 dl hs σ H1 Q (E.go m q) fun b H2 s m2 q2 => k b H2 s (m.trans m2) q2
theorem tv_or {t u : TT} (h : Tv K env t fun a => KIf a (R true) (Tv K env u R)) : Tv K env (tOr t u) R := fun H0 dl hs σ H Q E k =>
  h H0 dl hs σ H _ E fun a H1 hx m q => by
    obtain ⟨hx⟩ := hx
    cases a
    · exact hx H0 dl hs σ H1 Q (E.go m q) fun b H2 s m2 q2 => k b H2 s (m.trans m2) q2
    · exact k _ H1 hx m q
theorem ev_if {t : TT} {ta tb : TE} (h : Tv K env t fun a => KIf a (Ev K env ta S) (Ev K env tb S)) : Ev K env (tIf t ta tb) S := fun H0 dl hs σ H Q E k =>
  h H0 dl hs σ H _ E fun a H1 hx m q => by
    obtain ⟨hx⟩ := hx
    cases a
    · exact hx H0 dl hs σ H1 Q (E.go m q) fun y u H2 s m2 q2 r2 => k y u H2 s (m.trans m2) q2 r2
    · exact hx H0 dl hs σ H1 Q (E.go m q) fun y u H2 s m2 q2 r2 => k y u H2 s (m.trans m2) q2 r2
/-! ### builtins -/
structure KLen (xs : List Vl) (R : Int → Prop) : Prop where
  h : (∃ l, (xs = [.da (.tup l)] ∨ xs = [.ls l]) ∧ R (l.length : Nat))
theorem k_lenT {l : List Da} {R : Int → Prop} (h : R (l.length : Nat)) : KLen [.da (.tup l)] R := ⟨l, .inl rfl, h⟩
theorem k_lenL {l : List Da} {R : Int → Prop} (h : R (l.length : Nat)) : KLen [.ls l] R := ⟨l, .inr rfl, h⟩
theorem vls_one {dl : Dl} {H : Hp} {x : Vl} {vs : List V} (h : VlsAt K dl H [x] vs) : ∃ v, vs = [v] ∧ VlAt K dl H x v := by
  cases h with
  | cons h r => cases r; exact ⟨_, rfl, h⟩
theorem vls_two {dl : Dl} {H : Hp} {x y : Vl} {vs : List V} (h : VlsAt K dl H [x, y] vs) : ∃ v u, vs = [v, u] ∧ VlAt K dl H x v ∧ VlAt K dl H y u := by
  cases h with
  | cons h r =>
    obtain ⟨u, rfl, r2⟩ := vls_one r
    exact ⟨_, _, rfl, h, r2⟩
theorem vls_three {dl : Dl} {H : Hp} {x y z : Vl} {vs : List V} (h : VlsAt K dl H [x, y, z] vs) : ∃ v u w, vs = [v, u, w] ∧ VlAt K dl H x v ∧ VlAt K dl H y u ∧ VlAt K dl H z w := by
  cases h with
  | cons h r =>
    obtain ⟨u, w, rfl, r2⟩ := vls_two r
    exact ⟨_, _, _, rfl, h, r2⟩
theorem vls_four {dl : Dl} {H : Hp} {x y z z2 : Vl} {vs : List V} (h : VlsAt K dl H [x, y, z, z2] vs) : ∃ v u w w2, vs = [v, u, w, w2] ∧ VlAt K dl H x v ∧ VlAt K dl H y u ∧ VlAt K dl H z w ∧ VlAt K dl H z2 w2 := by
  cases h with
  | cons h r =>
    obtain ⟨u, w, w2, rfl, r2⟩ := vls_three r
    exact ⟨_, _, _, _, rfl, h, r2⟩
theorem ev_len {t : TA} (h : Es K env t fun xs => KLen xs fun i => S (.da (.int i))) : Ev K env (tCB (rLenQ K) t) S := fun H0 dl hs σ H Q E k =>
  h H0 dl hs σ H _ E fun xs vs H1 hx m q r => by
    obtain ⟨l, hl, s⟩ := hx
    rcases hl with rfl | rfl
    · obtain ⟨v, rfl, r1⟩ := vls_one r
      obtain ⟨a, us, rfl, h1, h2⟩ := da_tup r1
      exact ⟨a, us, rfl, .inr h1, by rw [h2.len]; exact k _ _ H1 s m q (.int _)⟩
    · obtain ⟨v, rfl, r1⟩ := vls_one r
      obtain ⟨a, us, rfl, h1, h2, _⟩ := r1
      exact ⟨a, us, rfl, .inl h1.sq, by rw [h2.len]; exact k _ _ H1 s m q (.int _)⟩
structure KLs (xs : List Vl) (R : Str → Prop) : Prop where
  h : ∃ z, xs = [.da (.str z)] ∧ z.length ≤ sizeLine ∧ R z
theorem k_ls {z : Str} {R : Str → Prop} (n : z.length ≤ sizeLine) (h : R z) : KLs [.da (.str z)] R := ⟨z, rfl, n, h⟩
theorem ev_lenS {t : TA} (h : Es K env t fun xs => KLs xs fun z => S (.da (.int z.length))) : Ev K env (tCB (fun xs H Q => ∃ z, xs = [.str z] ∧ z.length ≤ sizeLine ∧ Q (.int z.length) H) t) S := fun H0 dl hs σ H Q E k =>
  h H0 dl hs σ H _ E fun xs vs H1 hx m q r => by
    obtain ⟨z, rfl, n, s⟩ := hx
    obtain ⟨v, rfl, r1⟩ := vls_one r
    have h1 := atm_at (show DaAt K H1 (.str z) v from r1) rfl
    exact ⟨z, by rw [h1], n, k _ _ H1 s m q (.int _)⟩
/-- list(x), tuple(x) of a list or tuple -/
structure KSq (xs : List Vl) (R : List Da → Prop) : Prop where
  h : ∃ l, (xs = [.da (.tup l)] ∨ xs = [.ls l]) ∧ R l
theorem k_sqT {l : List Da} {R : List Da → Prop} (h : R l) : KSq [.da (.tup l)] R := ⟨l, .inl rfl, h⟩
theorem k_sqL {l : List Da} {R : List Da → Prop} (h : R l) : KSq [.ls l] R := ⟨l, .inr rfl, h⟩
theorem el_list {t : TA} {R : List Da → Prop} (h : Es K env t fun xs => KSq xs R) : Eln K env (tCB (rListOf K) t) R := fun H0 dl hs σ H Q E k =>
  h H0 dl hs σ H _ E fun xs vs H1 hx m q r => by
    obtain ⟨l, hl, s⟩ := hx
    have fin : ∀ (a : Addr) us, (SqL K H1 a us ∨ SqT K H1 a us) → DasAt K H1 l us → rListOf K [.ref a] H1 Q := fun a us h1 h2 => ⟨a, us, rfl, h1, fun p hp => k _ _ _ _ s (m.trans (.same (same_upd hp))) (q.same (same_upd hp)) (m.fresh q hp) upd_same (h2.keep (.same (same_upd hp)))⟩
    rcases hl with rfl | rfl
    · obtain ⟨v, rfl, r1⟩ := vls_one r
      obtain ⟨a, us, rfl, h1, h2⟩ := da_tup r1
      exact fin a us (.inr h1) h2
    · obtain ⟨v, rfl, r1⟩ := vls_one r
      obtain ⟨a, us, rfl, h1, h2, _⟩ := r1
      exact fin a us (.inl h1.sq) h2
theorem ev_tuple {t : TA} (h : Es K env t fun xs => KSq xs fun l => S (.da (.tup l))) : Ev K env (tCB (rTupOf K) t) S := fun H0 dl hs σ H Q E k =>
  h H0 dl hs σ H _ E fun xs vs H1 hx m q r => by
    obtain ⟨l, hl, s⟩ := hx
    rcases hl with rfl | rfl
    · obtain ⟨v, rfl, r1⟩ := vls_one r
      obtain ⟨a, us, rfl, h1, h2⟩ := da_tup r1
      exact ⟨a, us, rfl, .inr ⟨h1, k _ _ H1 s m q (.tup h1 h2)⟩⟩
    · obtain ⟨v, rfl, r1⟩ := vls_one r
      obtain ⟨a, us, rfl, h1, h2, _⟩ := r1
      exact ⟨a, us, rfl, .inl ⟨h1.sq, fun p hp => k _ _ _ s (m.trans (.same (same_upd hp))) (q.same (same_upd hp)) (.tup (SqT.of upd_same) (h2.keep (.same (same_upd hp))))⟩⟩
/-- all(list of bools) -/
structure KAll (xs : List Vl) (R : Bool → Prop) : Prop where
  h : ∃ bs : List Bool, xs = [.ls (bs.map Da.bl)] ∧ R (bs.all id)
theorem k_all {bs : List Bool} {R : Bool → Prop} (h : R (bs.all id)) : KAll [.ls (bs.map Da.bl)] R := ⟨bs, rfl, h⟩
theorem das_bls {H : Hp} : ∀ {bs : List Bool} {vs : List V}, DasAt K H (bs.map Da.bl) vs → vs = bs.map V.bl
  | [], _, .nil => rfl
  | b :: bs, _, .cons h r => by cases h; rw [das_bls r]; rfl
theorem ev_all {t : TA} (h : Es K env t fun xs => KAll xs fun b => S (.da (.bl b))) : Ev K env (tCB (rAll K) t) S := fun H0 dl hs σ H Q E k =>
  h H0 dl hs σ H _ E fun xs vs H1 hx m q r => by
    obtain ⟨bs, rfl, s⟩ := hx
    obtain ⟨v, rfl, r1⟩ := vls_one r
    obtain ⟨a, us, rfl, h1, h2, _⟩ := r1
    rw [das_bls h2] at h1
    exact ⟨a, bs, rfl, h1.sq, k _ _ H1 s m q (.bl _)⟩
theorem ev_any {t : TA} (h : Es K env t fun xs => ∃ bs : List Bool, xs = [.ls (bs.map Da.bl)] ∧ S (.da (.bl (bs.any id)))) : Ev K env (tCB (rAny K) t) S := fun H0 dl hs σ H Q E k =>
  h H0 dl hs σ H _ E fun xs vs H1 hx m q r => by
    obtain ⟨bs, rfl, s⟩ := hx
    obtain ⟨v, rfl, r1⟩ := vls_one r
    obtain ⟨a, us, rfl, h1, h2, _⟩ := r1
    rw [das_bls h2] at h1
    exact ⟨a, bs, rfl, h1.sq, k _ _ H1 s m q (.bl _)⟩
/-! ### calls of defs over data -/
/-- the promise: from data, data; nothing but new objects -/
def sp_pu (K : PySem.W.Frag) (pre : List Vl → (Vl → Prop) → Prop) : Sp := fun vs H Q _ => ∃ xs R, VlsAt K none H xs vs ∧ pre xs R ∧ ∀ x v H', R x → Same H H' → VlAt K none H' x v → Q v H'
/-- the promise: from data, a new list -/
def sp_pn (K : PySem.W.Frag) (pre : List Vl → (List Da → Prop) → Prop) : Sp := fun vs H Q _ => ∃ xs R, VlsAt K none H xs vs ∧ pre xs R ∧ ∀ l a us H', R l → Same H H' → H a = none → H' a = some (.lst us) → DasAt K H' l us → Q (.ref a) H'
theorem VlAt.bare {dl : Dl} {H : Hp} : ∀ {x : Vl} {v : V}, VlAt K dl H x v → VlAt K none H x v
  | .da _, _, h => h
  | .ls _, _, ⟨a, vs, e, h, r, _⟩ => ⟨a, vs, e, h, r, fun _ _ z => by cases z⟩
theorem VlsAt.bare {dl : Dl} {H : Hp} : ∀ {xs : List Vl} {vs : List V}, VlsAt K dl H xs vs → VlsAt K none H xs vs
  | _, _, .nil => .nil
  | _, _, .cons h r => .cons h.bare (VlsAt.bare r)
/-- data alone, no list -/
def isDa : Vl → Prop
  | .da _ => True
  | .ls _ => False
theorem ev_call {pre : List Vl → (Vl → Prop) → Prop} {X : XK} {t : TA} (h : Es K env t fun xs => pre xs fun x => isDa x ∧ S x) : Ev K env (tCall (sp_pu K pre) [] X t) S := fun H0 dl hs σ H Q E k =>
  h H0 dl hs σ H _ E fun xs vs H1 hx m q r => by
    refine ⟨xs, _, by rw [List.append_nil]; exact r.bare, hx, fun x v H2 hx s hv => ?_⟩
    obtain ⟨hd, s2⟩ := hx
    cases x with
    | da d => exact k _ v H2 s2 (m.trans (.same s)) (q.same s) hv
    | ls l => exact hd.elim
theorem el_call {pre : List Vl → (List Da → Prop) → Prop} {X : XK} {t : TA} {R : List Da → Prop} (h : Es K env t fun xs => pre xs R) : Eln K env (tCall (sp_pn K pre) [] X t) R := fun H0 dl hs σ H Q E k =>
  h H0 dl hs σ H _ E fun xs vs H1 hx m q r => ⟨xs, _, by rw [List.append_nil]; exact r.bare, hx, fun l a us H2 hl s hn ha hd => k l a us H2 hl (m.trans (.same s)) (q.same s) (m.fresh q hn) ha hd⟩
end
end My
namespace My
open PySem L2
section
variable {K : PySem.W.Frag} {env : Evn} {O : Out → Prop}
/-! ### statements -/
def seqO (K : PySem.W.Frag) (u : TS) (O : Out → Prop) : Out → Prop
  | .nx e => Sv K e u O
  | o => O o
theorem o_nx {u : TS} {e : Evn} (h : Sv K e u O) : seqO K u O (.nx e) := h
theorem o_bk {u : TS} {e : Evn} (h : O (.bk e)) : seqO K u O (.bk e) := h
theorem o_ct {u : TS} {e : Evn} (h : O (.ct e)) : seqO K u O (.ct e) := h
theorem o_rt {u : TS} {x : Vl} (h : O (.rt x)) : seqO K u O (.rt x) := h
theorem o_rn {u : TS} {l : List Da} (h : O (.rn l)) : seqO K u O (.rn l) := h
theorem sv_nil (h : O (.nx env)) : Sv K env tNext O := fun H0 dl hs σ H D E a b c d e => a env σ H h (.refl _ _) E
theorem sv_seq {t u : TS} (h : Sv K env t (seqO K u O)) : Sv K env (tSeq t u) O := fun H0 dl hs σ H D E a b c d e =>
  h H0 dl hs σ H _ E (fun e1 σ' H' (s : Sv K e1 u O) tk E' => s H0 dl hs σ' H' D E' (fun x y z s t2 => a x y z s (tk.trans t2)) (fun x y z s t2 => b x y z s (tk.trans t2)) (fun x y z s t2 => c x y z s (tk.trans t2)) d e) (fun x y z s => b x y z s) (fun x y z s => c x y z s) (fun x y z s => d x y z s) (fun x y z w s => e x y z w s)
theorem sv_cut {t u : TS} (h : Sv K env t (seqO K u O)) : Sv K env (tCut t u) O := fun H0 dl hs σ H D E a b c d e => by
  refine ⟨fun σ' H' => ∃ e1, Sv K e1 u O ∧ Tk K H H' ∧ EnvAt K H0 dl hs H' σ' e1, ?_, fun σ' H' ⟨e1, s, tk, E'⟩ => s H0 dl hs σ' H' D E' (fun x y z s t2 => a x y z s (tk.trans t2)) (fun x y z s t2 => b x y z s (tk.trans t2)) (fun x y z s t2 => c x y z s (tk.trans t2)) d e⟩
  exact h H0 dl hs σ H _ E (fun e1 σ' H' (s : Sv K e1 u O) tk E' => ⟨e1, s, tk, E'⟩) (fun x y z s => b x y z s) (fun x y z s => c x y z s) (fun x y z s => d x y z s) (fun x y z w s => e x y z w s)
structure KD (x : Vl) (R : Da → Prop) : Prop where
  h : ∃ d, x = .da d ∧ R d
theorem k_d {d : Da} {R : Da → Prop} (h : R d) : KD (.da d) R := ⟨d, rfl, h⟩
theorem sv_set {i : Nat} {te : TE} (h : Ev K env te fun x => KD x fun d => O (.nx (env.set i (some (.vl d))))) : Sv K env (tAsg te (gName i)) O := fun H0 dl hs σ H D E a b c d e =>
  h H0 dl hs σ H _ E fun x v H1 hx m q r => by
    obtain ⟨y, rfl, s⟩ := hx
    exact a _ _ H1 s (m.tk E.dlat) ((E.go m q).set r)
theorem sv_setN {i : Nat} {te : TE} (h : Eln K env te fun l => ∀ p : Addr, O (.nx (env.set i (some (.own p l))))) : Sv K env (tAsg te (gName i)) O := fun H0 dl hs σ H D E a b c d e =>
  h H0 dl hs σ H _ E fun l p vs H1 hl m q n hp r => by
    have h0 : H0 p = none := E.mv.fresh E.dlat n
    have E1 := E.go m q
    refine a _ _ H1 (hl p) (m.tk E.dlat) (E1.put (fun s es => ?_) (fun b l1 es j c l2 nj hj z => ?_))
    · cases es
      refine ⟨rfl, vs, hp, r, h0, fun g hg z => ?_⟩
      obtain ⟨ws, h1, _⟩ := E.held g hg
      rw [show g.1 = p from z] at h1
      rw [show H p = some (.lst ws) from h1] at n
      cases n
    · cases es
      obtain ⟨v, e1, _, ws, h1, _⟩ := E.slot j _ hj
      rw [z, n] at h1
      cases h1
theorem sv_app {i : Nat} {p : Addr} {l : List Da} {te : TE} (hi : env[i]? = some (some (.own p l))) (h : Ev K env te fun x => KD x fun d => l.length < sizeLine ∧ O (.nx (env.set i (some (.own p (l ++ [d])))))) : Sv K env (tDrop (tBM K "list" rAppend (tVar i) (tCons te tNil))) O := fun H0 dl hs σ H D E a b c d e => by
  obtain ⟨v, h1, rfl, vs, h2, h3, _⟩ := E.slot i _ hi
  refine ⟨_, h1, .inl ⟨rfl, vs, .inl (.inl h2)⟩, ?_⟩
  refine h H0 dl hs σ H _ E fun x v H1 hx m q r => ?_
  obtain ⟨y, rfl, n, s⟩ := hx
  have E1 := E.go m q
  obtain ⟨w, e1, rfl, vs1, g2, g3, _⟩ := E1.slot i _ hi
  have tk : Tk K H1 (upd H1 p (.lst (vs1 ++ [v]))) := .bl (.put g2)
  exact ⟨p, vs1, v, rfl, rfl, g2, by rw [g3.len]; exact n, a _ _ _ s ((m.tk E.dlat).trans tk) (E1.write hi (das_app (g3.keep tk) (.cons (DaAt.keep tk r) .nil)))⟩
theorem sv_if {t : TT} {u u' : TS} (h : Tv K env t fun x => KIf x (Sv K env u O) (Sv K env u' O)) : Sv K env (tIfS t u u') O := fun H0 dl hs σ H D E a b c d e =>
  h H0 dl hs σ H _ E fun x H1 hx m q => by
    obtain ⟨hx⟩ := hx
    cases x
    · exact hx H0 dl hs σ H1 D (E.go m q) (fun x y z s t2 => a x y z s ((m.tk E.dlat).trans t2)) (fun x y z s t2 => b x y z s ((m.tk E.dlat).trans t2)) (fun x y z s t2 => c x y z s ((m.tk E.dlat).trans t2)) d e
    · exact hx H0 dl hs σ H1 D (E.go m q) (fun x y z s t2 => a x y z s ((m.tk E.dlat).trans t2)) (fun x y z s t2 => b x y z s ((m.tk E.dlat).trans t2)) (fun x y z s t2 => c x y z s ((m.tk E.dlat).trans t2)) d e
theorem sv_ret {te : TE} (h : Ev K env te fun x => O (.rt x)) : Sv K env (tRet te) O := fun H0 dl hs σ H D E a b c d e =>
  h H0 dl hs σ H _ E fun x v H1 hx m q r => d x v H1 hx (E.mv.trans m) q r
theorem sv_retN {te : TE} (h : Eln K env te fun l => O (.rn l)) : Sv K env (tRet te) O := fun H0 dl hs σ H D E a b c d e =>
  h H0 dl hs σ H _ E fun l p vs H1 hx m q n hp r => e l p vs H1 hx (E.mv.trans m) q (E.mv.fresh E.dlat n) hp r
theorem sv_retO {i : Nat} {p : Addr} {l : List Da} (hi : env[i]? = some (some (.own p l))) (h : O (.rn l)) : Sv K env (tRet (tVar i)) O := fun H0 dl hs σ H D E a b c d e => by
  obtain ⟨v, h1, rfl, vs, h2, h3, h4, _⟩ := E.slot i _ hi
  exact ⟨_, h1, e l p vs H h E.mv E.dlat h4 h2 h3⟩
theorem sv_retNone (h : O (.rt (.da .non))) : Sv K env tRetN O := fun H0 dl hs σ H D E a b c d e => d _ _ H h E.mv E.dlat .non
theorem sv_drop {te : TE} (h : Ev K env te fun _ => O (.nx env)) : Sv K env (tDrop te) O := fun H0 dl hs σ H D E a b c d e =>
  h H0 dl hs σ H _ E fun x v H1 hx m q r => a _ _ H1 hx (m.tk E.dlat) (E.go m q)
end
end My
namespace My
open PySem L2
/-! ### what is walked -/
structure Wd (K : PySem.W.Frag) (J : It) (l : List Da) (G : Hp → Prop) : Prop where
  go : ∀ i H, i < l.length → G H → J.go i H
  stop : ∀ H, G H → J.stop l.length H
  yld : ∀ i H x H', i < l.length → G H → J.yld i H x H' → Same H H' ∧ ∃ d, l[i]? = some d ∧ DaAt K H' d x
def Iv (K : PySem.W.Frag) (env : Evn) (wi : TI) (S : List Da → (Evn → Prop) → Prop) : Prop := ∀ (H0 : Hp) (dl : Dl) (hs : Hs) (σ : St) (H : Hp) (R : It → Hp → Prop), EnvAt K H0 dl hs H σ env →
  (∀ (l : List Da) (kp : Evn → Prop) (J : It) (H1 : Hp) (hs1 : Hs) (G : Hp → Prop), S l kp → Mv dl H H1 → DlAt dl H1 → Wd K J l G → EnvAt K H0 dl hs1 H1 σ env → (hs1 = hs ∨ ∃ p, hs1 = p :: hs) →
    (∀ (σ' : St) (H2 : Hp) (e : Evn), kp e → Tk K H1 H2 → EnvAt K H0 dl hs1 H2 σ' e → G H2) → R J H1) → wi σ H R
section
variable {K : PySem.W.Frag} {env : Evn} {S : List Da → (Evn → Prop) → Prop}
theorem wd_tup {H : Hp} {a : Addr} {l : List Da} : Wd K (Itt K a) l (fun H => ∃ vs, SqT K H a vs ∧ DasAt K H l vs) := by
  refine ⟨fun i H hi ⟨vs, h, r⟩ => ⟨vs, vs[i]'(by rw [r.len]; exact hi), h, by simp⟩, fun H ⟨vs, h, r⟩ => ⟨vs, h, by rw [r.len]; exact Nat.le_refl _⟩, fun i H x H' hi ⟨vs, h, r⟩ y => ?_⟩
  obtain ⟨rfl, f⟩ := y
  have e : l[i]? = some l[i] := by simp [hi]
  obtain ⟨v, e1, e2⟩ := r.at e
  have := f vs h
  rw [e1] at this
  cases this
  exact ⟨Same.refl _, _, e, e2⟩
theorem wd_list {a : Addr} {l : List Da} : Wd K (Itl K a) l (fun H => ∃ vs, SqL K H a vs ∧ DasAt K H l vs) := by
  refine ⟨fun i H hi ⟨vs, h, r⟩ => ⟨vs, vs[i]'(by rw [r.len]; exact hi), h, by simp⟩, fun H ⟨vs, h, r⟩ => ⟨vs, h, by rw [r.len]; exact Nat.le_refl _⟩, fun i H x H' hi ⟨vs, h, r⟩ y => ?_⟩
  obtain ⟨rfl, f⟩ := y
  have e : l[i]? = some l[i] := by simp [hi]
  obtain ⟨v, e1, e2⟩ := r.at e
  have := f vs h
  rw [e1] at this
  cases this
  exact ⟨Same.refl _, _, e, e2⟩
theorem iv_tup {tl : TE} (h : Ev K env tl fun x => KT x fun l => S l fun _ => True) : Iv K env (iTup K tl) S := fun H0 dl hs σ H R E k =>
  h H0 dl hs σ H _ E fun x v H1 hx m q r => by
    obtain ⟨l, rfl, s⟩ := hx
    obtain ⟨a, vs, rfl, h1, h2⟩ := da_tup r
    exact ⟨a, rfl, ⟨vs, h1⟩, k l _ _ H1 hs _ s m q (wd_tup (H := H1)) (E.go m q) (.inl rfl) fun σ' H2 e _ tk _ => ⟨vs, tk _ _ h1, h2.keep tk⟩⟩
theorem iv_listV {j : Nat} {a : Addr} {l : List Da} (hj : env[j]? = some (some (.ls a l))) (s : S l fun _ => True) : Iv K env (iList K (tVar j)) S := fun H0 dl hs σ H R E k => by
  obtain ⟨v, h1, rfl, h2⟩ := E.slot j _ hj
  obtain ⟨vs, h3, _⟩ := E.held _ h2
  refine ⟨_, h1, a, rfl, ⟨vs, h3.sq⟩, k l _ _ H hs _ s (.refl _ _) E.dlat wd_list E (.inl rfl) fun σ' H2 e _ tk E2 => ?_⟩
  obtain ⟨us, h4, h5, _⟩ := E2.held _ h2
  exact ⟨us, h4.sq, h5⟩
theorem iv_listO {j : Nat} {a : Addr} {l : List Da} (hj : env[j]? = some (some (.own a l))) (s : S l fun e => e[j]? = some (some (.own a l))) : Iv K env (iList K (tVar j)) S := fun H0 dl hs σ H R E k => by
  obtain ⟨v, h1, rfl, vs, h2, h3, _⟩ := E.slot j _ hj
  refine ⟨_, h1, a, rfl, ⟨vs, .inl (.inl h2)⟩, k l _ _ H hs _ s (.refl _ _) E.dlat wd_list E (.inl rfl) fun σ' H2 e he tk E2 => ?_⟩
  obtain ⟨_, _, _, us, h4, h5, _⟩ := E2.slot j _ he
  exact ⟨us, .inl (.inl h4), h5⟩
theorem iv_listN {tl : TE} (h : Eln K env tl fun l => S l fun _ => True) : Iv K env (iList K tl) S := fun H0 dl hs σ H R E k =>
  h H0 dl hs σ H _ E fun l a vs H1 s m q n ha r => by
    refine ⟨a, rfl, ⟨vs, .inl (.inl ha)⟩, k l _ _ H1 ((a, l) :: hs) _ s m q wd_list ((E.go m q).hold ha r (E.dlat.ne n) fun i b l' hb z => ?_) (.inr ⟨_, rfl⟩) fun σ' H2 e _ tk E2 => ?_⟩
    · obtain ⟨_, _, _, ws, h4, _⟩ := E.slot i _ hb
      rw [← z, n] at h4
      cases h4
    · obtain ⟨us, h4, h5, _⟩ := E2.held _ (List.mem_cons_self ..)
      exact ⟨us, h4.sq, h5⟩
structure KR1 (xs : List Vl) (R : Int → Prop) : Prop where
  h : ∃ j : Int, xs = [.da (.int j)] ∧ (-(2 ^ 62) ≤ j ∧ j < 2 ^ 62) ∧ R j
theorem k_r1 {j : Int} {R : Int → Prop} (b : -(2 ^ 62) ≤ j ∧ j < 2 ^ 62) (h : R j) : KR1 [.da (.int j)] R := ⟨j, rfl, b, h⟩
theorem iv_range1 {ta : TA} (h : Es K env ta fun xs => KR1 xs fun j => S ((List.range j.toNat).map fun i => .int (i : Nat)) fun _ => True) : Iv K env (iRng1 ta) S := fun H0 dl hs σ H R E k =>
  h H0 dl hs σ H _ E fun xs vs H1 hx m q r => by
    obtain ⟨j, rfl, ⟨j1, j2⟩, s⟩ := hx
    obtain ⟨v, rfl, r1⟩ := vls_one r
    have h1 := atm_at (show DaAt K H1 (.int j) v from r1) rfl
    refine ⟨j, by rw [h1], j1, j2, k _ _ _ H1 hs (fun _ => True) s m q ⟨fun i H hi _ => ?_, fun H _ => ?_, fun i H x H' hi _ y => ?_⟩ (E.go m q) (.inl rfl) fun _ _ _ _ _ _ => trivial⟩
    · rw [List.length_map, List.length_range] at hi; exact hi
    · rw [List.length_map, List.length_range]; exact Nat.le_refl _
    · obtain ⟨rfl, rfl⟩ := y
      rw [List.length_map, List.length_range] at hi
      exact ⟨Same.refl _, _, by rw [List.getElem?_map, List.getElem?_range hi]; rfl, by rw [Int.zero_add]; exact .int _⟩
theorem iv_range2 {ta : TA} (h : Es K env ta fun xs => ∃ i j : Int, xs = [.da (.int i), .da (.int j)] ∧ (-(2 ^ 62) ≤ i ∧ i < 2 ^ 62 ∧ -(2 ^ 62) ≤ j ∧ j < 2 ^ 62) ∧ S ((List.range (j - i).toNat).map fun n => .int (i + (n : Nat))) fun _ => True) : Iv K env (iRng2 ta) S := fun H0 dl hs σ H R E k =>
  h H0 dl hs σ H _ E fun xs vs H1 hx m q r => by
    obtain ⟨a, j, rfl, jj, s⟩ := hx
    obtain ⟨v, u, rfl, r1, r2⟩ := vls_two r
    have h1 := atm_at (show DaAt K H1 (.int a) v from r1) rfl
    have h2 := atm_at (show DaAt K H1 (.int j) u from r2) rfl
    refine ⟨a, j, by rw [h1, h2], jj, k _ _ _ H1 hs (fun _ => True) s m q ⟨fun i H hi _ => ?_, fun H _ => ?_, fun i H x H' hi _ y => ?_⟩ (E.go m q) (.inl rfl) fun _ _ _ _ _ _ => trivial⟩
    · rw [List.length_map, List.length_range] at hi; exact hi
    · rw [List.length_map, List.length_range]; exact Nat.le_refl _
    · obtain ⟨rfl, rfl⟩ := y
      rw [List.length_map, List.length_range] at hi
      exact ⟨Same.refl _, _, by rw [List.getElem?_map, List.getElem?_range hi]; rfl, .int _⟩
structure KTx (x : Vl) (R : List Nat → Prop) : Prop where
  h : ∃ cs : List Nat, x = .da (.str (tx cs)) ∧ R cs
theorem k_tx {cs : List Nat} {R : List Nat → Prop} (h : R cs) : KTx (.da (.str (tx cs))) R := ⟨cs, rfl, h⟩
theorem iv_str {te : TE} (h : Ev K env te fun x => KTx x fun cs => S (cs.map fun c => .str (tx [c])) fun _ => True) : Iv K env (iStr te) S := fun H0 dl hs σ H R E k =>
  h H0 dl hs σ H _ E fun x v H1 hx m q r => by
    obtain ⟨cs, rfl, s⟩ := hx
    have h1 := atm_at (show DaAt K H1 (.str (tx cs)) v from r) rfl
    have hz : (tx cs).cps.size = cs.length := by simp [tx]
    refine ⟨tx cs, h1, k _ _ _ H1 hs (fun _ => True) s m q ⟨fun i H hi _ => ?_, fun H _ => ?_, fun i H x H' hi _ y => ?_⟩ (E.go m q) (.inl rfl) fun _ _ _ _ _ _ => trivial⟩
    · rw [List.length_map] at hi
      show i < (tx cs).cps.size
      rw [hz]; exact hi
    · rw [List.length_map]
      show (tx cs).cps.size ≤ _
      rw [hz]; exact Nat.le_refl _
    · obtain ⟨rfl, c, hc, rfl⟩ := y
      have e : (tx cs).cps[i]? = cs[i]? := by simp [tx]
      rw [e] at hc
      exact ⟨Same.refl _, _, by rw [List.getElem?_map, hc]; rfl, .str _⟩
def pairs (l : List Da) : List Da := l.mapIdx fun i d => .tup [.int (i : Nat), d]
structure KT1 (xs : List Vl) (R : List Da → Prop) : Prop where
  h : ∃ l, xs = [.da (.tup l)] ∧ R l
theorem k_t1 {l : List Da} {R : List Da → Prop} (h : R l) : KT1 [.da (.tup l)] R := ⟨l, rfl, h⟩
theorem iv_enumT {ta : TA} (h : Es K env ta fun xs => KT1 xs fun l => S (pairs l) fun _ => True) : Iv K env (iEnumT K ta) S := fun H0 dl hs σ H R E k =>
  h H0 dl hs σ H _ E fun xs vs H1 hx m q r => by
    obtain ⟨l, rfl, s⟩ := hx
    obtain ⟨v, rfl, r1⟩ := vls_one r
    obtain ⟨a, us, rfl, h1, h2⟩ := da_tup r1
    have hl : (pairs l).length = l.length := by simp [pairs]
    refine ⟨a, us, rfl, h1, k _ _ _ H1 hs (fun H => SqT K H a us ∧ DasAt K H l us) s m q ⟨fun i H hi ⟨g, r⟩ => ?_, fun H ⟨g, r⟩ => ?_, fun i H x H' hi ⟨g, r⟩ y => ?_⟩ (E.go m q) (.inl rfl) fun σ' H2 e _ tk _ => ⟨tk _ _ h1, h2.keep tk⟩⟩
    · rw [hl] at hi
      exact ⟨us, us[i]'(by rw [r.len]; exact hi), g, by simp⟩
    · exact ⟨us, g, by rw [r.len, hl]⟩
    · obtain ⟨T, x, ⟨rfl, hT⟩, rfl, f⟩ := y
      rw [hl] at hi
      have e : l[i]? = some l[i] := by simp [hi]
      obtain ⟨v, e1, e2⟩ := r.at e
      have := f us g
      rw [e1] at this
      cases this
      refine ⟨same_upd hT, _, by simp [pairs, hi], .tup (SqT.of upd_same) (.cons (.int _) (.cons (DaAt.keep (.same (same_upd hT)) e2) .nil))⟩
end
end My
namespace My
open PySem L2
/-! ### targets -/
def Gv (K : PySem.W.Frag) (env : Evn) (g : TG) (ts : List Nat) (d : Da) (P : Evn → Prop) : Prop := ∀ (H0 : Hp) (dl : Dl) (hs : Hs) (σ : St) (H : Hp) (R : St → Hp → Prop) (v : V), EnvAt K H0 dl hs H σ env → DaAt K H d v →
  (∀ e σ', P e → EnvAt K H0 dl hs H σ' e → (∀ vs : List Nat, (∀ i ∈ ts, i ∈ vs) → wipe σ' vs = wipe σ vs) → R σ' H) → g v σ H R
theorem wipe_set2 {k : Nat} {o : Option V} {s : St} : ∀ vs : List Nat, (wipe (s.set k o) vs).set k none = (wipe s vs).set k none
  | [] => by
    show (s.set k o).set k none = s.set k none
    rw [List.set_set]
  | v :: r => by
    show ((wipe (s.set k o) r).set v none).set k none = ((wipe s r).set v none).set k none
    by_cases e : v = k
    · subst e
      rw [List.set_set, List.set_set]
      exact wipe_set2 r
    · rw [List.set_comm _ _ e, List.set_comm _ _ e, wipe_set2 r]
theorem wipe_set {k : Nat} {o : Option V} {s : St} : ∀ {vs : List Nat}, k ∈ vs → wipe (s.set k o) vs = wipe s vs
  | [], h => by cases h
  | v :: r, h => by
    show (wipe (s.set k o) r).set v none = (wipe s r).set v none
    by_cases e : k = v
    · subst e
      exact wipe_set2 r
    · rw [wipe_set ((List.mem_cons.mp h).resolve_left e)]
/-- the slots of a comprehension forgotten -/
def ewipe (env : Evn) : List Nat → Evn
  | [] => env
  | v :: vs => (ewipe env vs).set v none
theorem EnvAt.wipe {K : PySem.W.Frag} {H0 H : Hp} {dl : Dl} {hs : Hs} {σ : St} {env : Evn} (E : EnvAt K H0 dl hs H σ env) : ∀ vs : List Nat, EnvAt K H0 dl hs H (L2.wipe σ vs) (ewipe env vs)
  | [] => E
  | v :: r => (EnvAt.wipe E r).drop v none
section
variable {K : PySem.W.Frag} {env : Evn} {P : Evn → Prop}
theorem gv_name {i : Nat} {d : Da} (h : P (env.set i (some (.vl d)))) : Gv K env (gName i) [i] d P := fun H0 dl hs σ H R v E r k =>
  k _ _ h (E.set r) fun vs hv => wipe_set (hv i (by simp))
theorem gv_tup2 {i j : Nat} {a b : Da} (h : P ((env.set i (some (.vl a))).set j (some (.vl b)))) : Gv K env (gTup K 2 (gCons (gName i) (gCons (gName j) gNil))) [i, j] (.tup [a, b]) P := fun H0 dl hs σ H R v E r k => by
  obtain ⟨p, us, rfl, h1, h2⟩ := da_tup r
  cases h2 with
  | cons x1 r1 =>
    cases r1 with
    | cons x2 r2 =>
      cases r2
      exact ⟨p, _, rfl, h1, rfl, _, _, rfl, _, _, rfl, rfl, k _ _ h ((E.set x1).set x2) fun vs hv => by rw [wipe_set (hv j (by simp)), wipe_set (hv i (by simp))]⟩
theorem gv_tup3 {i j l : Nat} {a b c : Da} (h : P (((env.set i (some (.vl a))).set j (some (.vl b))).set l (some (.vl c)))) : Gv K env (gTup K 3 (gCons (gName i) (gCons (gName j) (gCons (gName l) gNil)))) [i, j, l] (.tup [a, b, c]) P := fun H0 dl hs σ H R v E r k => by
  obtain ⟨p, us, rfl, h1, h2⟩ := da_tup r
  cases h2 with
  | cons x1 r1 =>
    cases r1 with
    | cons x2 r2 =>
      cases r2 with
      | cons x3 r3 =>
        cases r3
        exact ⟨p, _, rfl, h1, rfl, _, _, rfl, _, _, rfl, _, _, rfl, rfl, k _ _ h (((E.set x1).set x2).set x3) fun vs hv => by rw [wipe_set (hv l (by simp)), wipe_set (hv j (by simp)), wipe_set (hv i (by simp))]⟩
theorem gx_name {i : Nat} {d : Da} (h : P (env.set i (some (.vl d)))) : ∃ ts, Gv K env (gName i) ts d P := ⟨_, gv_name h⟩
theorem gx_tup2 {i j : Nat} {a b : Da} (h : P ((env.set i (some (.vl a))).set j (some (.vl b)))) : ∃ ts, Gv K env (gTup K 2 (gCons (gName i) (gCons (gName j) gNil))) ts (.tup [a, b]) P := ⟨_, gv_tup2 h⟩
theorem gx_tup3 {i j l : Nat} {a b c : Da} (h : P (((env.set i (some (.vl a))).set j (some (.vl b))).set l (some (.vl c)))) : ∃ ts, Gv K env (gTup K 3 (gCons (gName i) (gCons (gName j) (gCons (gName l) gNil)))) ts (.tup [a, b, c]) P := ⟨_, gv_tup3 h⟩
/-! ### loops -/
/-- no held list is named that was not -/
def LsIn (env e : Evn) : Prop := ∀ (i : Nat) (b : Addr) (l : List Da), e[i]? = some (some (.ls b l)) → ∃ j : Nat, env[j]? = some (some (.ls b l))
def lsOf : Evn → List (Addr × List Da)
  | [] => []
  | some (.ls a l) :: r => (a, l) :: lsOf r
  | _ :: r => lsOf r
theorem lsOf_mem : ∀ {e : Evn} {i : Nat} {b : Addr} {l : List Da}, e[i]? = some (some (.ls b l)) → (b, l) ∈ lsOf e
  | [], _, _, _, h => by simp at h
  | o :: r, 0, b, l, h => by
    cases Option.some.inj h
    exact List.mem_cons_self ..
  | o :: r, i + 1, b, l, h => by
    have := lsOf_mem (e := r) (i := i) h
    rcases o with _ | s
    · exact this
    · cases s with
      | ls a l => exact List.mem_cons_of_mem _ this
      | _ => exact this
theorem mem_lsOf : ∀ {e : Evn} {b : Addr} {l : List Da}, (b, l) ∈ lsOf e → ∃ i : Nat, e[i]? = some (some (.ls b l))
  | [], _, _, h => by simp [lsOf] at h
  | o :: r, b, l, h => by
    have go : (b, l) ∈ lsOf r → ∃ i : Nat, (o :: r)[i]? = some (some (.ls b l)) := fun h => by
      obtain ⟨i, hi⟩ := mem_lsOf h
      exact ⟨i + 1, hi⟩
    rcases o with _ | s
    · exact go h
    · cases s with
      | ls a l2 =>
        rcases List.mem_cons.mp h with h | h
        · cases h
          exact ⟨0, rfl⟩
        · exact go h
      | _ => exact go h
theorem LsIn.of {env e : Evn} (h : lsOf e = lsOf env) : LsIn env e := fun i b l hi => mem_lsOf (by rw [← h]; exact lsOf_mem hi)
/-- e' knows less -/
inductive Wk : Evn → Evn → Prop where
  | nil : Wk [] []
  | no {o : Option Sl} {e e' : Evn} (h : Wk e e') : Wk (o :: e) (none :: e')
  | yes {o : Option Sl} {e e' : Evn} (h : Wk e e') : Wk (o :: e) (o :: e')
theorem Wk.refl : ∀ e : Evn, Wk e e
  | [] => .nil
  | _ :: e => .yes (Wk.refl e)
theorem Wk.len : ∀ {e e' : Evn}, Wk e e' → e'.length = e.length
  | _, _, .nil => rfl
  | _, _, .no h => by rw [List.length_cons, List.length_cons, h.len]
  | _, _, .yes h => by rw [List.length_cons, List.length_cons, h.len]
theorem Wk.le : ∀ {e e' : Evn}, Wk e e' → ∀ (i : Nat) (s : Sl), e'[i]? = some (some s) → e[i]? = some (some s)
  | _, _, .nil, i, s, h => h
  | _, _, .no h, 0, s, hi => by cases hi
  | _, _, .no h, i + 1, s, hi => h.le i s hi
  | _, _, .yes h, 0, s, hi => hi
  | _, _, .yes h, i + 1, s, hi => h.le i s hi
def lpO (env : Evn) (J : Evn → Prop) (O : Out → Prop) : Out → Prop
  | .nx e => J e
  | .ct e => J e
  | .bk e => LsIn env e ∧ O (.nx e)
  | o => O o
theorem l_nx {J : Evn → Prop} {O : Out → Prop} {e : Evn} (h : J e) : lpO env J O (.nx e) := h
theorem l_ct {J : Evn → Prop} {O : Out → Prop} {e : Evn} (h : J e) : lpO env J O (.ct e) := h
theorem l_bk {J : Evn → Prop} {O : Out → Prop} {e : Evn} (h1 : LsIn env e) (h : O (.nx e)) : lpO env J O (.bk e) := ⟨h1, h⟩
theorem l_rt {J : Evn → Prop} {O : Out → Prop} {x : Vl} (h : O (.rt x)) : lpO env J O (.rt x) := h
theorem l_rn {J : Evn → Prop} {O : Out → Prop} {x : List Da} (h : O (.rn x)) : lpO env J O (.rn x) := h
structure KFor (K : PySem.W.Frag) (env : Evn) (g : TG) (body : TS) (O : Out → Prop) (l : List Da) (kp : Evn → Prop) : Prop where
  h : ∃ I : Nat → Evn → Prop, (∃ e, Wk env e ∧ I 0 e) ∧ (∀ k e, I k e → kp e) ∧ (∀ k d e, l[k]? = some d → I k e → ∃ ts, Gv K e g ts d fun e' => Sv K e' body (lpO env (fun e => ∃ e2, Wk e e2 ∧ I (k + 1) e2) O)) ∧ ∀ e, I l.length e → LsIn env e ∧ O (.nx e)
/-- the slots by the number of turns -/
theorem k_for {g : TG} {body : TS} {O : Out → Prop} {l : List Da} {kp : Evn → Prop} (F : Nat → Evn) (h0 : Wk env (F 0)) (hk : ∀ k, kp (F k)) (hs : ∀ k d, l[k]? = some d → ∃ ts, Gv K (F k) g ts d fun e' => Sv K e' body (lpO env (fun e => ∃ e2, Wk e e2 ∧ e2 = F (k + 1)) O)) (hl : LsIn env (F l.length)) (hd : O (.nx (F l.length))) : KFor K env g body O l kp :=
  ⟨fun k e => e = F k, ⟨_, h0, rfl⟩, fun k e h => by rw [h]; exact hk k, fun k d e hd h => by rw [h]; exact hs k d hd, fun e h => by rw [h]; exact ⟨hl, hd⟩⟩
theorem k_forI {g : TG} {body : TS} {O : Out → Prop} {l : List Da} {kp : Evn → Prop} (I : Nat → Evn → Prop) (h0 : ∃ e, Wk env e ∧ I 0 e) (hk : ∀ k e, I k e → kp e) (hs : ∀ k d e, l[k]? = some d → I k e → ∃ ts, Gv K e g ts d fun e' => Sv K e' body (lpO env (fun e => ∃ e2, Wk e e2 ∧ I (k + 1) e2) O)) (hd : ∀ e, I l.length e → LsIn env e ∧ O (.nx e)) : KFor K env g body O l kp := ⟨I, h0, hk, hs, hd⟩
/-- the end of a turn -/
theorem l_nx' {O : Out → Prop} {e e2 : Evn} (w : Wk e e2) : lpO env (fun e => ∃ e3, Wk e e3 ∧ e3 = e2) O (.nx e) := ⟨_, w, rfl⟩
theorem sv_for {wi : TI} {g : TG} {body : TS} {O : Out → Prop} (h : Iv K env wi fun l kp => KFor K env g body O l kp) : Sv K env (tFor wi g body) O := fun H0 dl hs σ H D E a b c d_rt e_rn => by
  rw [tFor_eq]
  refine h H0 dl hs σ H _ E fun l kp J H1 hs1 G hk m q wd E1 hhs hG => ?_
  obtain ⟨I, i0, ik, is, ie⟩ := hk
  have wk : Walk J l.length G (fun i H x H' => Same H H' ∧ ∃ d, l[i]? = some d ∧ DaAt K H' d x) := ⟨fun i H hi g => wd.go i H hi g, fun H g => wd.stop H g, fun i H x H' hi g y => wd.yld i H x H' hi g y⟩
  have drop : ∀ (e' : Evn) (σ' : St) (H' : Hp), LsIn env e' → EnvAt K H0 dl hs1 H' σ' e' → EnvAt K H0 dl hs H' σ' e' := fun e' σ' H' hl E' => by
    rcases hhs with rfl | ⟨⟨p, pl⟩, rfl⟩
    · exact E'
    · refine E'.unhold fun i b l' hb => ?_
      obtain ⟨j, hj⟩ := hl i b l' hb
      obtain ⟨_, _, _, h2⟩ := E.slot j _ hj
      exact h2
  have fin : ForJ J g body D σ H1 := by
    refine for_it wk (fun i σ H => ∃ e1, I i e1 ∧ EnvAt K H0 dl hs1 H σ e1 ∧ Tk K H1 H) (by obtain ⟨e0, w0, i0⟩ := i0; exact ⟨e0, i0, E1.weak w0.len w0.le, .refl _ _⟩) (fun i σ' H' _ ⟨e1, h1, E', tk⟩ => hG σ' H' e1 (ik i e1 h1) tk E') (fun i x σ' H' H'' hi ⟨e1, h1, E', tk⟩ y => ?_) (fun σ' H' ⟨e1, h1, E', tk⟩ => ?_)
    · obtain ⟨sm, d, hd, hx⟩ := y
      have E2 : EnvAt K H0 dl hs1 H'' σ' e1 := E'.go (.same sm) (E'.dlat.same sm)
      have tk2 : Tk K H1 H'' := tk.trans (.same sm)
      obtain ⟨ts, hg⟩ := is i d e1 hd h1
      refine hg H0 dl hs1 σ' H'' _ x E2 hx fun e2 σ2 hb E3 _ => ?_
      refine hb H0 dl hs1 σ2 H'' _ E3 (fun e3 σ3 H3 s t E4 => by obtain ⟨e4, w4, s⟩ := s; exact ⟨e4, s, E4.weak w4.len w4.le, tk2.trans t⟩) (fun e3 σ3 H3 s t E4 => ?_) (fun e3 σ3 H3 s t E4 => by obtain ⟨e4, w4, s⟩ := s; exact ⟨e4, s, E4.weak w4.len w4.le, tk2.trans t⟩) (fun x v H3 s => d_rt x v H3 s) (fun l2 p vs H3 s => e_rn l2 p vs H3 s)
      exact a e3 σ3 H3 s.2 ((m.tk E.dlat).trans (tk2.trans t)) (drop e3 σ3 H3 s.1 E4)
    · obtain ⟨hl, ho⟩ := ie e1 h1
      exact a e1 σ' H' ho ((m.tk E.dlat).trans tk) (drop e1 σ' H' hl E')
  exact fin
end
end My
namespace My
open PySem L2
section
variable {K : PySem.W.Frag} {env : Evn}
/-- another list is written -/
theorem EnvAt.other {H0 H : Hp} {dl : Dl} {hs : Hs} {σ : St} (E : EnvAt K H0 dl hs H σ env) {p : Addr} {vs vs' : List V} (hp : H p = some (.lst vs)) (h0 : H0 p = none) (hh : ∀ q ∈ hs, q.1 ≠ p) (ho : ∀ (i : Nat) (b : Addr) (l : List Da), env[i]? = some (some (.own b l)) → b ≠ p) :
    EnvAt K H0 dl hs (upd H p (.lst vs')) σ env := by
  have tk : Tk K H (upd H p (.lst vs')) := .bl (.put hp)
  have n0 : ∀ b o, H0 b = some o → p ≠ b := fun b o e z => by rw [← z, h0] at e; cases e
  refine ⟨E.len, fun d l e => ?_, E.dl0, fun b o n e => by rw [upd_ne (fun z => n0 b o e z.symm)]; exact E.mv b o n e, fun q hq => ?_, fun j s hj => ?_, E.apart⟩
  · obtain ⟨_, _, _, _, _, _, q1, q2, _⟩ := E.dl0 d l e
    exact (E.dlat d l e).put (n0 _ _ q1) (n0 _ _ q2)
  · obtain ⟨ws, h1, h2, h3⟩ := E.held q hq
    exact ⟨ws, (upd_ne (hh q hq)).trans h1, h2.keep tk, h3⟩
  · obtain ⟨v, h1, h2⟩ := E.slot j s hj
    refine ⟨v, h1, ?_⟩
    cases s with
    | vl d => exact DaAt.keep tk h2
    | ls b l => exact h2
    | own b l1 =>
      obtain ⟨e, ws, hb, hd2, b0, bn⟩ := h2
      exact ⟨e, ws, by rw [upd_ne (ho j b l1 hj)]; exact hb, hd2.keep tk, b0, bn⟩
    | dr => exact h2
theorem ewipe_own : ∀ {vs : List Nat} {i : Nat} {s : Sl}, (ewipe env vs)[i]? = some (some s) → env[i]? = some (some s)
  | [], _, _, h => h
  | v :: r, i, s, h => by
    have ni : v ≠ i := fun e => by
      subst e
      have := (set_self h).2
      cases this
    rw [show ewipe env (v :: r) = (ewipe env r).set v none from rfl, List.getElem?_set_ne ni] at h
    exact ewipe_own h
theorem wipe_wipe {σ : St} : ∀ vs : List Nat, wipe (wipe σ vs) vs = wipe σ vs
  | [] => rfl
  | v :: r => by
    show (wipe ((wipe σ r).set v none) r).set v none = (wipe σ r).set v none
    rw [wipe_set2 r, wipe_wipe r]
structure KLc (K : PySem.W.Frag) (env : Evn) (g : TG) (vs : List Nat) (tt : TT) (te : TE) (S : List Da → Prop) (l : List Da) (kp : Evn → Prop) : Prop where
  h : kp (ewipe env vs) ∧ l.length ≤ sizeLine ∧ ∃ I : Nat → List Da → Prop, I 0 [] ∧
    (∀ k d acc, l[k]? = some d → I k acc → Gv K (ewipe env vs) g vs d fun e => Tv K e tt fun b => KIf b (Ev K e te fun y => KD y fun d' => I (k + 1) (acc ++ [d'])) (I (k + 1) acc)) ∧ ∀ acc, I l.length acc → S acc
theorem el_lc {wi : TI} {g : TG} {vs : List Nat} {tt : TT} {te : TE} {S : List Da → Prop} (h : Iv K env wi fun l kp => KLc K env g vs tt te S l kp) : Eln K env (tLc wi g tt te vs) S := fun H0 dl hs σ H Q E fin => by
  rw [tLc_eq]
  refine h H0 dl hs σ H _ E fun l kp J H1 hs1 G hk m q wd E1 hhs hG => ?_
  obtain ⟨hkp, hn, I, i0, is, ie⟩ := hk
  have wk : Walk J l.length G (fun i H x H' => Same H H' ∧ ∃ d, l[i]? = some d ∧ DaAt K H' d x) := ⟨fun i H hi g => wd.go i H hi g, fun H g => wd.stop H g, fun i H x H' hi g y => wd.yld i H x H' hi g y⟩
  intro D hD
  have h0 : H0 D = none := E1.mv.fresh E1.dlat hD
  have hh : ∀ p ∈ hs1, p.1 ≠ D := fun p hp z => by
    obtain ⟨ws, h1, _⟩ := E1.held p hp
    rw [z] at h1
    rw [show H1 D = some (.lst ws) from h1] at hD
    cases hD
  have E2 := E1.wipe vs
  have ho : ∀ (i : Nat) (b : Addr) (l' : List Da), (ewipe env vs)[i]? = some (some (.own b l')) → b ≠ D := fun i b l' hb z => by
    obtain ⟨_, _, _, ws, h1, _⟩ := E1.slot i _ (ewipe_own hb)
    rw [z, hD] at h1
    cases h1
  refine lc_it wk (fun i H => ∃ accD acc, I i accD ∧ accD.length ≤ i ∧ H D = some (.lst acc) ∧ DasAt K H accD acc ∧ EnvAt K H0 dl hs1 H (wipe σ vs) (ewipe env vs) ∧ Tk K H1 H ∧ Mv dl H1 H) ?_ ?_ ?_ ?_
  · refine ⟨[], [], i0, Nat.le_refl _, upd_same, .nil, E2.go (.same (same_upd hD)) (E2.dlat.same (same_upd hD)), .same (same_upd hD), .same (same_upd hD)⟩
  · rintro i H2 _ ⟨_, _, _, _, _, _, E3, tk, _⟩
    exact hG _ H2 _ hkp tk E3
  · rintro i x H2 H3 hi ⟨accD, acc, hI, ha, hDd, hr, E3, tk, mv⟩ ⟨sm, d, hd, hx⟩
    have E4 := E3.go (.same sm) (E3.dlat.same sm)
    have tk3 := tk.trans (.same sm)
    refine is i d accD hd hI H0 dl hs1 _ H3 _ x E4 hx fun e σ2 ht E5 hw => ⟨(hw vs fun _ h => h).trans (wipe_wipe vs), ?_⟩
    refine ht H0 dl hs1 σ2 H3 _ E5 fun b H4 hb m4 q4 => ?_
    have hD3 := sm _ _ hDd
    have nd : ∀ d l, dl = some (d, l) → D ≠ d := E1.dlat.ne hD
    have hD4 := m4 _ _ nd hD3
    have r3 : DasAt K H3 accD acc := hr.keep (.same sm)
    have mv3 := mv.trans (.same sm)
    obtain ⟨hb⟩ := hb
    cases b
    · exact ⟨accD, acc, hb, by omega, hD4, r3.keep (m4.tk E4.dlat), E4.go m4 q4, tk3.trans (m4.tk E4.dlat), mv3.trans m4⟩
    · refine hb H0 dl hs1 σ2 H4 _ (E5.go m4 q4) fun y v H5 hy m5 q5 rv => ?_
      obtain ⟨d', rfl, hI2⟩ := hy
      have hD5 := m5 _ _ nd hD4
      have m45 := m4.trans m5
      have r5 : DasAt K H5 accD acc := r3.keep (m45.tk E4.dlat)
      have tk5 : Tk K H5 (upd H5 D (.lst (acc ++ [v]))) := .bl (.put hD5)
      refine ⟨acc, hD5, by rw [r5.len]; omega, accD ++ [d'], acc ++ [v], hI2, by rw [List.length_append]; simp; omega, upd_same, das_app (r5.keep tk5) (.cons (DaAt.keep tk5 rv) .nil), (E4.go m45 q5).other hD5 h0 hh ho, (tk3.trans (m45.tk E4.dlat)).trans tk5, fun b o n e => ?_⟩
      rw [upd_ne (fun z => by rw [z, hD] at e; cases e)]
      exact (mv3.trans m45) b o n e
  · rintro H2 ⟨accD, acc, hI, _, hDd, hr, E3, tk, mv⟩
    exact fin accD D acc H2 (ie accD hI) (m.trans mv) E3.dlat (m.fresh q hD) hDd hr
/-! ### a def over data -/
def retO (S : Vl → Prop) : Out → Prop
  | .rt x => S x
  | .nx _ => S (.da .non)
  | _ => False
def rnO (S : List Da → Prop) : Out → Prop
  | .rn l => S l
  | _ => False
theorem r_rt {S : Vl → Prop} {x : Vl} (h : S x) : retO S (.rt x) := h
theorem r_nx {S : Vl → Prop} {e : Evn} (h : S (.da .non)) : retO S (.nx e) := h
theorem r_rn {S : List Da → Prop} {l : List Da} (h : S l) : rnO S (.rn l) := h
/-- the slots at a call: the lists by their addresses -/
inductive Ent : List Vl → Evn → Prop where
  | nil : Ent [] []
  | da {d : Da} {xs : List Vl} {e : Evn} (h : Ent xs e) : Ent (.da d :: xs) (some (.vl d) :: e)
  | ls {a : Addr} {l : List Da} {xs : List Vl} {e : Evn} (h : Ent xs e) : Ent (.ls l :: xs) (some (.ls a l) :: e)
theorem Ent.len : ∀ {xs : List Vl} {e : Evn}, Ent xs e → e.length = xs.length
  | _, _, .nil => rfl
  | _, _, .da h => by rw [List.length_cons, List.length_cons, h.len]
  | _, _, .ls h => by rw [List.length_cons, List.length_cons, h.len]
theorem ent_at {H : Hp} : ∀ {xs : List Vl} {vs : List V}, VlsAt K none H xs vs → ∃ (e : Evn) (hs : Hs), Ent xs e ∧ (∀ p ∈ hs, ∃ ws, Lq K H p.1 ws ∧ DasAt K H p.2 ws) ∧ ∀ (i : Nat) (s : Sl), e[i]? = some (some s) → ∃ v, vs[i]? = some v ∧ SlAt K H none hs H s v ∧ ∀ a l, s ≠ .own a l
  | _, _, .nil => ⟨[], [], .nil, fun p hp => (by cases hp), fun i s h => (by simp at h)⟩
  | .da d :: _, _, .cons (v := v) h r => by
    obtain ⟨e, hs, h1, h2, h3⟩ := ent_at r
    refine ⟨_, hs, .da h1, h2, fun i s hi => ?_⟩
    cases i with
    | zero =>
      cases Option.some.inj hi
      exact ⟨v, rfl, h, fun _ _ z => by cases z⟩
    | succ i => exact h3 i s hi
  | .ls l :: _, _, .cons (v := v) h r => by
    obtain ⟨e, hs, h1, h2, h3⟩ := ent_at r
    obtain ⟨a, us, rfl, g1, g2, _⟩ := h
    refine ⟨_, (a, l) :: hs, .ls (a := a) h1, fun p hp => ?_, fun i s hi => ?_⟩
    · rcases List.mem_cons.mp hp with rfl | hp
      · exact ⟨us, g1, g2⟩
      · exact h2 p hp
    · cases i with
      | zero =>
        cases Option.some.inj hi
        exact ⟨_, rfl, ⟨rfl, List.mem_cons_self ..⟩, fun _ _ z => by cases z⟩
      | succ i =>
        obtain ⟨v, e1, e2, e3⟩ := h3 i s hi
        refine ⟨v, e1, ?_, e3⟩
        cases s with
        | vl d => exact e2
        | ls b l' => exact ⟨e2.1, List.mem_cons_of_mem _ e2.2⟩
        | own b l' => exact absurd rfl (e3 b l')
        | dr => exact e2
theorem start_at {H : Hp} {N : List Str} {xs : List Vl} {vs : List V} (h : VlsAt K none H xs vs) : ∃ (e : Evn) (hs : Hs), Ent xs e ∧ EnvAt K H none hs H (L2.start N vs) (e ++ List.replicate (N.length - xs.length) none) := by
  obtain ⟨e, hs, h1, h2, h3⟩ := ent_at h
  have hv := h.len
  have he := h1.len
  have at_ : ∀ (i : Nat) (s : Sl), (e ++ List.replicate (N.length - xs.length) (none : Option Sl))[i]? = some (some s) → e[i]? = some (some s) := fun i s hi => by
    by_cases hl : i < e.length
    · rwa [List.getElem?_append_left hl] at hi
    · rw [List.getElem?_append_right (by omega), List.getElem?_replicate] at hi
      split at hi
      · cases hi
      · cases hi
  refine ⟨e, hs, h1, by unfold L2.start; rw [List.length_append, List.length_append, List.length_map, List.length_replicate, List.length_replicate, hv, he], fun d l z => (by cases z), fun d l z => (by cases z), .refl _ _, fun p hp => ?_, fun i s hi => ?_, fun i j a b l l' n hi hj => ?_⟩
  · obtain ⟨ws, q1, q2⟩ := h2 p hp
    exact ⟨ws, q1, q2, fun _ _ z => by cases z⟩
  · obtain ⟨v, e1, e2, _⟩ := h3 i s (at_ i s hi)
    refine ⟨v, ?_, e2⟩
    have hil := (List.getElem?_eq_some_iff.mp e1).1
    unfold L2.start
    rw [List.getElem?_append_left (by rw [List.length_map]; exact hil), List.getElem?_map, e1]
    rfl
  · obtain ⟨_, _, _, hno⟩ := h3 i _ (at_ i _ hi)
    exact absurd rfl (hno a l)
theorem fin_pu {pre : List Vl → (Vl → Prop) → Prop} {N : List Str} {t : TS} (h : ∀ xs R, pre xs R → ∀ e, Ent xs e → Sv K (e ++ List.replicate (N.length - xs.length) none) t (retO R)) {vs : List V} {H : Hp} {Q : VK} {E : XK} (hs : sp_pu K pre vs H Q E) :
    t { nx := fun _ H' => Q .non H', rt := Q } (L2.start N vs) H := by
  obtain ⟨xs, R, hx, hp, q⟩ := hs
  obtain ⟨e, hs, he, E⟩ := start_at (N := N) hx
  exact h xs R hp e he H none hs _ H _ E (fun e σ' H' o _ E' => q _ _ H' o E'.mv.toSame .non) (fun _ _ _ o => o.elim) (fun _ _ _ o => o.elim) (fun x v H' o m _ r => q x v H' o m.toSame r) (fun _ _ _ _ o => o.elim)
theorem fin_pn {pre : List Vl → (List Da → Prop) → Prop} {N : List Str} {t : TS} (h : ∀ xs R, pre xs R → ∀ e, Ent xs e → Sv K (e ++ List.replicate (N.length - xs.length) none) t (rnO R)) {vs : List V} {H : Hp} {Q : VK} {E : XK} (hs : sp_pn K pre vs H Q E) :
    t { nx := fun _ H' => Q .non H', rt := Q } (L2.start N vs) H := by
  obtain ⟨xs, R, hx, hp, q⟩ := hs
  obtain ⟨e, hs, he, E⟩ := start_at (N := N) hx
  exact h xs R hp e he H none hs _ H _ E (fun _ _ _ o => o.elim) (fun _ _ _ o => o.elim) (fun _ _ _ o => o.elim) (fun _ _ _ o => o.elim) (fun l a us H' o m _ h0 ha r => q l a us H' o m.toSame h0 ha r)
end
end My
namespace My
open PySem L2
section
variable {K : PySem.W.Frag} {env : Evn} {S : Vl → Prop}
theorem k_das_0 {S : List Da → Prop} (s : S []) : KDas [] S := ⟨_, rfl, by show (0 : Nat) ≤ sizeLine; decide, s⟩
theorem k_das_1 {a0 : Da} {S : List Da → Prop} (s : S [a0]) : KDas [.da a0] S := ⟨_, rfl, by show (1 : Nat) ≤ sizeLine; decide, s⟩
theorem k_das_2 {a0 a1 : Da} {S : List Da → Prop} (s : S [a0, a1]) : KDas [.da a0, .da a1] S := ⟨_, rfl, by show (2 : Nat) ≤ sizeLine; decide, s⟩
theorem k_das_3 {a0 a1 a2 : Da} {S : List Da → Prop} (s : S [a0, a1, a2]) : KDas [.da a0, .da a1, .da a2] S := ⟨_, rfl, by show (3 : Nat) ≤ sizeLine; decide, s⟩
theorem k_das_4 {a0 a1 a2 a3 : Da} {S : List Da → Prop} (s : S [a0, a1, a2, a3]) : KDas [.da a0, .da a1, .da a2, .da a3] S := ⟨_, rfl, by show (4 : Nat) ≤ sizeLine; decide, s⟩
theorem k_das_5 {a0 a1 a2 a3 a4 : Da} {S : List Da → Prop} (s : S [a0, a1, a2, a3, a4]) : KDas [.da a0, .da a1, .da a2, .da a3, .da a4] S := ⟨_, rfl, by show (5 : Nat) ≤ sizeLine; decide, s⟩
theorem k_das_6 {a0 a1 a2 a3 a4 a5 : Da} {S : List Da → Prop} (s : S [a0, a1, a2, a3, a4, a5]) : KDas [.da a0, .da a1, .da a2, .da a3, .da a4, .da a5] S := ⟨_, rfl, by show (6 : Nat) ≤ sizeLine; decide, s⟩
theorem k_das_7 {a0 a1 a2 a3 a4 a5 a6 : Da} {S : List Da → Prop} (s : S [a0, a1, a2, a3, a4, a5, a6]) : KDas [.da a0, .da a1, .da a2, .da a3, .da a4, .da a5, .da a6] S := ⟨_, rfl, by show (7 : Nat) ≤ sizeLine; decide, s⟩
theorem k_das_8 {a0 a1 a2 a3 a4 a5 a6 a7 : Da} {S : List Da → Prop} (s : S [a0, a1, a2, a3, a4, a5, a6, a7]) : KDas [.da a0, .da a1, .da a2, .da a3, .da a4, .da a5, .da a6, .da a7] S := ⟨_, rfl, by show (8 : Nat) ≤ sizeLine; decide, s⟩
theorem k_das_9 {a0 a1 a2 a3 a4 a5 a6 a7 a8 : Da} {S : List Da → Prop} (s : S [a0, a1, a2, a3, a4, a5, a6, a7, a8]) : KDas [.da a0, .da a1, .da a2, .da a3, .da a4, .da a5, .da a6, .da a7, .da a8] S := ⟨_, rfl, by show (9 : Nat) ≤ sizeLine; decide, s⟩
theorem k_das_10 {a0 a1 a2 a3 a4 a5 a6 a7 a8 a9 : Da} {S : List Da → Prop} (s : S [a0, a1, a2, a3, a4, a5, a6, a7, a8, a9]) : KDas [.da a0, .da a1, .da a2, .da a3, .da a4, .da a5, .da a6, .da a7, .da a8, .da a9] S := ⟨_, rfl, by show (10 : Nat) ≤ sizeLine; decide, s⟩
theorem k_das_11 {a0 a1 a2 a3 a4 a5 a6 a7 a8 a9 a10 : Da} {S : List Da → Prop} (s : S [a0, a1, a2, a3, a4, a5, a6, a7, a8, a9, a10]) : KDas [.da a0, .da a1, .da a2, .da a3, .da a4, .da a5, .da a6, .da a7, .da a8, .da a9, .da a10] S := ⟨_, rfl, by show (11 : Nat) ≤ sizeLine; decide, s⟩
theorem k_das_12 {a0 a1 a2 a3 a4 a5 a6 a7 a8 a9 a10 a11 : Da} {S : List Da → Prop} (s : S [a0, a1, a2, a3, a4, a5, a6, a7, a8, a9, a10, a11]) : KDas [.da a0, .da a1, .da a2, .da a3, .da a4, .da a5, .da a6, .da a7, .da a8, .da a9, .da a10, .da a11] S := ⟨_, rfl, by show (12 : Nat) ≤ sizeLine; decide, s⟩
theorem k_das_13 {a0 a1 a2 a3 a4 a5 a6 a7 a8 a9 a10 a11 a12 : Da} {S : List Da → Prop} (s : S [a0, a1, a2, a3, a4, a5, a6, a7, a8, a9, a10, a11, a12]) : KDas [.da a0, .da a1, .da a2, .da a3, .da a4, .da a5, .da a6, .da a7, .da a8, .da a9, .da a10, .da a11, .da a12] S := ⟨_, rfl, by show (13 : Nat) ≤ sizeLine; decide, s⟩
theorem k_das_14 {a0 a1 a2 a3 a4 a5 a6 a7 a8 a9 a10 a11 a12 a13 : Da} {S : List Da → Prop} (s : S [a0, a1, a2, a3, a4, a5, a6, a7, a8, a9, a10, a11, a12, a13]) : KDas [.da a0, .da a1, .da a2, .da a3, .da a4, .da a5, .da a6, .da a7, .da a8, .da a9, .da a10, .da a11, .da a12, .da a13] S := ⟨_, rfl, by show (14 : Nat) ≤ sizeLine; decide, s⟩
theorem k_das_15 {a0 a1 a2 a3 a4 a5 a6 a7 a8 a9 a10 a11 a12 a13 a14 : Da} {S : List Da → Prop} (s : S [a0, a1, a2, a3, a4, a5, a6, a7, a8, a9, a10, a11, a12, a13, a14]) : KDas [.da a0, .da a1, .da a2, .da a3, .da a4, .da a5, .da a6, .da a7, .da a8, .da a9, .da a10, .da a11, .da a12, .da a13, .da a14] S := ⟨_, rfl, by show (15 : Nat) ≤ sizeLine; decide, s⟩
theorem k_das_16 {a0 a1 a2 a3 a4 a5 a6 a7 a8 a9 a10 a11 a12 a13 a14 a15 : Da} {S : List Da → Prop} (s : S [a0, a1, a2, a3, a4, a5, a6, a7, a8, a9, a10, a11, a12, a13, a14, a15]) : KDas [.da a0, .da a1, .da a2, .da a3, .da a4, .da a5, .da a6, .da a7, .da a8, .da a9, .da a10, .da a11, .da a12, .da a13, .da a14, .da a15] S := ⟨_, rfl, by show (16 : Nat) ≤ sizeLine; decide, s⟩
theorem k_inT_0 {x : Str} {R : Bool → Prop} (h : R (inV (.str x) [])) : KIn (.da (.str x)) (.da (.tup [])) R := ⟨_, _, _, _, rfl, .inl rfl, rfl, rfl, h⟩
theorem k_inL_0 {x : Str} {R : Bool → Prop} (h : R (inV (.str x) [])) : KIn (.da (.str x)) (.ls []) R := ⟨_, _, _, _, rfl, .inr rfl, rfl, rfl, h⟩
theorem k_inT_1 {x : Str} {a0 : Str} {R : Bool → Prop} (h : R (inV (.str x) [.str a0])) : KIn (.da (.str x)) (.da (.tup [.str a0])) R := ⟨_, _, _, _, rfl, .inl rfl, rfl, rfl, h⟩
theorem k_inL_1 {x : Str} {a0 : Str} {R : Bool → Prop} (h : R (inV (.str x) [.str a0])) : KIn (.da (.str x)) (.ls [.str a0]) R := ⟨_, _, _, _, rfl, .inr rfl, rfl, rfl, h⟩
theorem k_inT_2 {x : Str} {a0 a1 : Str} {R : Bool → Prop} (h : R (inV (.str x) [.str a0, .str a1])) : KIn (.da (.str x)) (.da (.tup [.str a0, .str a1])) R := ⟨_, _, _, _, rfl, .inl rfl, rfl, rfl, h⟩
theorem k_inL_2 {x : Str} {a0 a1 : Str} {R : Bool → Prop} (h : R (inV (.str x) [.str a0, .str a1])) : KIn (.da (.str x)) (.ls [.str a0, .str a1]) R := ⟨_, _, _, _, rfl, .inr rfl, rfl, rfl, h⟩
theorem k_inT_3 {x : Str} {a0 a1 a2 : Str} {R : Bool → Prop} (h : R (inV (.str x) [.str a0, .str a1, .str a2])) : KIn (.da (.str x)) (.da (.tup [.str a0, .str a1, .str a2])) R := ⟨_, _, _, _, rfl, .inl rfl, rfl, rfl, h⟩
theorem k_inL_3 {x : Str} {a0 a1 a2 : Str} {R : Bool → Prop} (h : R (inV (.str x) [.str a0, .str a1, .str a2])) : KIn (.da (.str x)) (.ls [.str a0, .str a1, .str a2]) R := ⟨_, _, _, _, rfl, .inr rfl, rfl, rfl, h⟩
theorem k_inT_4 {x : Str} {a0 a1 a2 a3 : Str} {R : Bool → Prop} (h : R (inV (.str x) [.str a0, .str a1, .str a2, .str a3])) : KIn (.da (.str x)) (.da (.tup [.str a0, .str a1, .str a2, .str a3])) R := ⟨_, _, _, _, rfl, .inl rfl, rfl, rfl, h⟩
theorem k_inL_4 {x : Str} {a0 a1 a2 a3 : Str} {R : Bool → Prop} (h : R (inV (.str x) [.str a0, .str a1, .str a2, .str a3])) : KIn (.da (.str x)) (.ls [.str a0, .str a1, .str a2, .str a3]) R := ⟨_, _, _, _, rfl, .inr rfl, rfl, rfl, h⟩
theorem k_inT_5 {x : Str} {a0 a1 a2 a3 a4 : Str} {R : Bool → Prop} (h : R (inV (.str x) [.str a0, .str a1, .str a2, .str a3, .str a4])) : KIn (.da (.str x)) (.da (.tup [.str a0, .str a1, .str a2, .str a3, .str a4])) R := ⟨_, _, _, _, rfl, .inl rfl, rfl, rfl, h⟩
theorem k_inL_5 {x : Str} {a0 a1 a2 a3 a4 : Str} {R : Bool → Prop} (h : R (inV (.str x) [.str a0, .str a1, .str a2, .str a3, .str a4])) : KIn (.da (.str x)) (.ls [.str a0, .str a1, .str a2, .str a3, .str a4]) R := ⟨_, _, _, _, rfl, .inr rfl, rfl, rfl, h⟩
theorem k_inT_6 {x : Str} {a0 a1 a2 a3 a4 a5 : Str} {R : Bool → Prop} (h : R (inV (.str x) [.str a0, .str a1, .str a2, .str a3, .str a4, .str a5])) : KIn (.da (.str x)) (.da (.tup [.str a0, .str a1, .str a2, .str a3, .str a4, .str a5])) R := ⟨_, _, _, _, rfl, .inl rfl, rfl, rfl, h⟩
theorem k_inL_6 {x : Str} {a0 a1 a2 a3 a4 a5 : Str} {R : Bool → Prop} (h : R (inV (.str x) [.str a0, .str a1, .str a2, .str a3, .str a4, .str a5])) : KIn (.da (.str x)) (.ls [.str a0, .str a1, .str a2, .str a3, .str a4, .str a5]) R := ⟨_, _, _, _, rfl, .inr rfl, rfl, rfl, h⟩
theorem k_inT_7 {x : Str} {a0 a1 a2 a3 a4 a5 a6 : Str} {R : Bool → Prop} (h : R (inV (.str x) [.str a0, .str a1, .str a2, .str a3, .str a4, .str a5, .str a6])) : KIn (.da (.str x)) (.da (.tup [.str a0, .str a1, .str a2, .str a3, .str a4, .str a5, .str a6])) R := ⟨_, _, _, _, rfl, .inl rfl, rfl, rfl, h⟩
theorem k_inL_7 {x : Str} {a0 a1 a2 a3 a4 a5 a6 : Str} {R : Bool → Prop} (h : R (inV (.str x) [.str a0, .str a1, .str a2, .str a3, .str a4, .str a5, .str a6])) : KIn (.da (.str x)) (.ls [.str a0, .str a1, .str a2, .str a3, .str a4, .str a5, .str a6]) R := ⟨_, _, _, _, rfl, .inr rfl, rfl, rfl, h⟩
theorem k_inT_8 {x : Str} {a0 a1 a2 a3 a4 a5 a6 a7 : Str} {R : Bool → Prop} (h : R (inV (.str x) [.str a0, .str a1, .str a2, .str a3, .str a4, .str a5, .str a6, .str a7])) : KIn (.da (.str x)) (.da (.tup [.str a0, .str a1, .str a2, .str a3, .str a4, .str a5, .str a6, .str a7])) R := ⟨_, _, _, _, rfl, .inl rfl, rfl, rfl, h⟩
theorem k_inL_8 {x : Str} {a0 a1 a2 a3 a4 a5 a6 a7 : Str} {R : Bool → Prop} (h : R (inV (.str x) [.str a0, .str a1, .str a2, .str a3, .str a4, .str a5, .str a6, .str a7])) : KIn (.da (.str x)) (.ls [.str a0, .str a1, .str a2, .str a3, .str a4, .str a5, .str a6, .str a7]) R := ⟨_, _, _, _, rfl, .inr rfl, rfl, rfl, h⟩
theorem k_inT_9 {x : Str} {a0 a1 a2 a3 a4 a5 a6 a7 a8 : Str} {R : Bool → Prop} (h : R (inV (.str x) [.str a0, .str a1, .str a2, .str a3, .str a4, .str a5, .str a6, .str a7, .str a8])) : KIn (.da (.str x)) (.da (.tup [.str a0, .str a1, .str a2, .str a3, .str a4, .str a5, .str a6, .str a7, .str a8])) R := ⟨_, _, _, _, rfl, .inl rfl, rfl, rfl, h⟩
theorem k_inL_9 {x : Str} {a0 a1 a2 a3 a4 a5 a6 a7 a8 : Str} {R : Bool → Prop} (h : R (inV (.str x) [.str a0, .str a1, .str a2, .str a3, .str a4, .str a5, .str a6, .str a7, .str a8])) : KIn (.da (.str x)) (.ls [.str a0, .str a1, .str a2, .str a3, .str a4, .str a5, .str a6, .str a7, .str a8]) R := ⟨_, _, _, _, rfl, .inr rfl, rfl, rfl, h⟩
theorem k_inT_10 {x : Str} {a0 a1 a2 a3 a4 a5 a6 a7 a8 a9 : Str} {R : Bool → Prop} (h : R (inV (.str x) [.str a0, .str a1, .str a2, .str a3, .str a4, .str a5, .str a6, .str a7, .str a8, .str a9])) : KIn (.da (.str x)) (.da (.tup [.str a0, .str a1, .str a2, .str a3, .str a4, .str a5, .str a6, .str a7, .str a8, .str a9])) R := ⟨_, _, _, _, rfl, .inl rfl, rfl, rfl, h⟩
theorem k_inL_10 {x : Str} {a0 a1 a2 a3 a4 a5 a6 a7 a8 a9 : Str} {R : Bool → Prop} (h : R (inV (.str x) [.str a0, .str a1, .str a2, .str a3, .str a4, .str a5, .str a6, .str a7, .str a8, .str a9])) : KIn (.da (.str x)) (.ls [.str a0, .str a1, .str a2, .str a3, .str a4, .str a5, .str a6, .str a7, .str a8, .str a9]) R := ⟨_, _, _, _, rfl, .inr rfl, rfl, rfl, h⟩
theorem k_inT_11 {x : Str} {a0 a1 a2 a3 a4 a5 a6 a7 a8 a9 a10 : Str} {R : Bool → Prop} (h : R (inV (.str x) [.str a0, .str a1, .str a2, .str a3, .str a4, .str a5, .str a6, .str a7, .str a8, .str a9, .str a10])) : KIn (.da (.str x)) (.da (.tup [.str a0, .str a1, .str a2, .str a3, .str a4, .str a5, .str a6, .str a7, .str a8, .str a9, .str a10])) R := ⟨_, _, _, _, rfl, .inl rfl, rfl, rfl, h⟩
theorem k_inL_11 {x : Str} {a0 a1 a2 a3 a4 a5 a6 a7 a8 a9 a10 : Str} {R : Bool → Prop} (h : R (inV (.str x) [.str a0, .str a1, .str a2, .str a3, .str a4, .str a5, .str a6, .str a7, .str a8, .str a9, .str a10])) : KIn (.da (.str x)) (.ls [.str a0, .str a1, .str a2, .str a3, .str a4, .str a5, .str a6, .str a7, .str a8, .str a9, .str a10]) R := ⟨_, _, _, _, rfl, .inr rfl, rfl, rfl, h⟩
theorem k_inT_12 {x : Str} {a0 a1 a2 a3 a4 a5 a6 a7 a8 a9 a10 a11 : Str} {R : Bool → Prop} (h : R (inV (.str x) [.str a0, .str a1, .str a2, .str a3, .str a4, .str a5, .str a6, .str a7, .str a8, .str a9, .str a10, .str a11])) : KIn (.da (.str x)) (.da (.tup [.str a0, .str a1, .str a2, .str a3, .str a4, .str a5, .str a6, .str a7, .str a8, .str a9, .str a10, .str a11])) R := ⟨_, _, _, _, rfl, .inl rfl, rfl, rfl, h⟩
theorem k_inL_12 {x : Str} {a0 a1 a2 a3 a4 a5 a6 a7 a8 a9 a10 a11 : Str} {R : Bool → Prop} (h : R (inV (.str x) [.str a0, .str a1, .str a2, .str a3, .str a4, .str a5, .str a6, .str a7, .str a8, .str a9, .str a10, .str a11])) : KIn (.da (.str x)) (.ls [.str a0, .str a1, .str a2, .str a3, .str a4, .str a5, .str a6, .str a7, .str a8, .str a9, .str a10, .str a11]) R := ⟨_, _, _, _, rfl, .inr rfl, rfl, rfl, h⟩
structure KSl (l : List Da) (lo hi : Option Int) (R : List Da → Prop) : Prop where
  h : ¬ (HT.sIx l.length 0 lo = 0 ∧ HT.sIx l.length l.length hi = l.length) ∧ R (cutD l lo hi)
theorem ev_slT2 {te : TE} {tl th : TO} (h : Ev K env te fun x => KT x fun l => Eo K env tl fun lo => Eo K env th fun hi => KSl l lo hi fun r => S (.da (.tup r))) : Ev K env (tSl (rSlT K) te tl th) S :=
  ev_slT (h.imp fun x ⟨l, e, h⟩ => ⟨l, e, fun H0 dl hs σ H Q E k => h H0 dl hs σ H Q E fun lo H' hy => k lo H' fun H0 dl hs σ H Q E k => hy H0 dl hs σ H Q E fun hi H' hz => k hi H' hz.h⟩)
theorem cut_from' (k : Nat) (l : List Da) : cutD l (some (k : Int)) none = l.drop k := by
  unfold cutD
  rw [HT.sIx_nat, HT.sIx_none]
  by_cases h : k ≤ l.length
  · rw [Nat.min_eq_left h]
    exact List.take_of_length_le (by rw [List.length_drop]; exact Nat.le_refl _)
  · rw [Nat.min_eq_right (by omega), List.drop_of_length_le (by omega), List.drop_of_length_le (by omega)]
    simp
theorem k_sl_1 {a : Da} {l : List Da} {R : List Da → Prop} (h : R l) : KSl (a :: l) (some 1) none R := by
  refine ⟨fun ⟨z, _⟩ => ?_, ?_⟩
  · rw [show (some (1 : Int)) = some ((1 : Nat) : Int) from rfl, HT.sIx_nat, List.length_cons] at z
    omega
  · rw [show (some (1 : Int)) = some ((1 : Nat) : Int) from rfl, cut_from']
    exact h
theorem k_sl_2 {a b : Da} {l : List Da} {R : List Da → Prop} (h : R l) : KSl (a :: b :: l) (some 2) none R := by
  refine ⟨fun ⟨z, _⟩ => ?_, ?_⟩
  · rw [show (some (2 : Int)) = some ((2 : Nat) : Int) from rfl, HT.sIx_nat, List.length_cons, List.length_cons] at z
    omega
  · rw [show (some (2 : Int)) = some ((2 : Nat) : Int) from rfl, cut_from']
    exact h
theorem k_sl_m2 {a b : Da} {R : List Da → Prop} (h : R [a]) : KSl [a, b] none (some (-1)) R := ⟨by rintro ⟨_, z⟩; exact absurd z (by show (1 : Nat) ≠ 2; decide), h⟩
theorem k_sl_m3 {a b c : Da} {R : List Da → Prop} (h : R [a, b]) : KSl [a, b, c] none (some (-1)) R := ⟨by rintro ⟨_, z⟩; exact absurd z (by show (2 : Nat) ≠ 3; decide), h⟩
theorem k_sl_m4 {a b c d : Da} {R : List Da → Prop} (h : R [a, b, c]) : KSl [a, b, c, d] none (some (-1)) R := ⟨by rintro ⟨_, z⟩; exact absurd z (by show (3 : Nat) ≠ 4; decide), h⟩
theorem k_sl_m5 {a b c d e : Da} {R : List Da → Prop} (h : R [a, b, c, d]) : KSl [a, b, c, d, e] none (some (-1)) R := ⟨by rintro ⟨_, z⟩; exact absurd z (by show (4 : Nat) ≠ 5; decide), h⟩
structure KCat (l l2 : List Da) (R : List Da → Prop) : Prop where
  h : l.length + l2.length ≤ sizeLine ∧ R (l ++ l2)
theorem k_cat {l l2 : List Da} {R : List Da → Prop} (n : l.length + l2.length ≤ sizeLine) (h : R (l ++ l2)) : KCat l l2 R := ⟨n, h⟩
theorem k_cat1 {a b : Da} {R : List Da → Prop} (h : R [a, b]) : KCat [a] [b] R := ⟨by show (2 : Nat) ≤ sizeLine; decide, h⟩
theorem k_cat2 {a b c : Da} {R : List Da → Prop} (h : R [a, b, c]) : KCat [a, b] [c] R := ⟨by show (3 : Nat) ≤ sizeLine; decide, h⟩
theorem k_cat3 {a b c d : Da} {R : List Da → Prop} (h : R [a, b, c, d]) : KCat [a, b, c] [d] R := ⟨by show (4 : Nat) ≤ sizeLine; decide, h⟩
theorem k_cat23 {a b c d e : Da} {R : List Da → Prop} (h : R [a, b, c, d, e]) : KCat [a, b] [c, d, e] R := ⟨by show (5 : Nat) ≤ sizeLine; decide, h⟩
theorem ev_catU {ta tb : TE} (h : Ev K env ta fun x => KT x fun l => Ev K env tb fun y => KT y fun l2 => KCat l l2 fun r => S (.da (.tup r))) : Ev K env (tOp (rCatU K) ta tb) S := fun H0 dl hs σ H Q E k =>
  h H0 dl hs σ H _ E fun x v H1 hx m q r => by
    obtain ⟨l, rfl, hx⟩ := hx
    refine hx H0 dl hs σ H1 _ (E.go m q) fun y u H2 hy m2 q2 r2 => ?_
    obtain ⟨l2, rfl, n, s⟩ := hy
    obtain ⟨a, vs, rfl, h1, h2⟩ := da_tup (DaAt.keep (m2.tk q) r)
    obtain ⟨b, us, rfl, h3, h4⟩ := da_tup r2
    exact ⟨a, b, vs, us, rfl, rfl, h1, h3, by rw [h2.len, h4.len]; exact n, fun p H3 s3 hp => k _ _ H3 s ((m.trans m2).trans (.same s3)) (q2.same s3) (.tup hp ((das_app h2 h4).keep (.same s3)))⟩
theorem k_ix_0 {a : Da} {l : List Da} {S : Da → Prop} (h : S a) : ∃ d, atI (a :: l) 0 = some d ∧ S d := ⟨a, by
  unfold atI ixN
  rw [if_pos (Int.le_refl 0), if_pos (by rw [List.length_cons]; omega)]
  rfl, h⟩
theorem k_ix_1 {a b : Da} {l : List Da} {S : Da → Prop} (h : S b) : ∃ d, atI (a :: b :: l) 1 = some d ∧ S d := ⟨b, by
  unfold atI ixN
  rw [if_pos (by decide), if_pos (by rw [List.length_cons, List.length_cons]; omega)]
  rfl, h⟩
theorem range_da {m k : Nat} {d : Da} (h : ((List.range m).map fun i => Da.int (i : Nat))[k]? = some d) : k < m ∧ d = .int (k : Nat) := by
  rw [List.getElem?_map] at h
  obtain ⟨j, hj, rfl⟩ := Option.map_eq_some_iff.mp h
  have hl := (List.getElem?_eq_some_iff.mp hj).1
  rw [List.length_range] at hl
  rw [List.getElem?_range hl] at hj
  cases Option.some.inj hj
  exact ⟨hl, rfl⟩
theorem range_len {m : Nat} : ((List.range m).map fun i => Da.int (i : Nat)).length = m := by rw [List.length_map, List.length_range]
theorem toLineB {n : Nat} (h : n ≤ 16000000) : n < sizeLine := Nat.lt_of_le_of_lt h (by decide)
theorem sv_ext {O : Out → Prop} {i : Nat} {p : Addr} {l : List Da} {te : TE} (hi : env[i]? = some (some (.own p l))) (h : Eln K env te fun l2 => l.length + l2.length ≤ sizeLine ∧ O (.nx (env.set i (some (.own p (l ++ l2)))))) : Sv K env (tDrop (tBM K "list" rExtend (tVar i) (tCons te tNil))) O := fun H0 dl hs σ H D E a b c d e => by
  obtain ⟨v, h1, rfl, vs, h2, h3, _⟩ := E.slot i _ hi
  refine ⟨_, h1, .inl ⟨rfl, vs, .inl (.inl h2)⟩, ?_⟩
  refine h H0 dl hs σ H _ E fun l2 q2 vs2 H1 hx m q hn hq r => ?_
  obtain ⟨n, s⟩ := hx
  have E1 := E.go m q
  obtain ⟨w, e1, rfl, vs1, g2, g3, _⟩ := E1.slot i _ hi
  have tk : Tk K H1 (upd H1 p (.lst (vs1 ++ vs2))) := .bl (.put g2)
  exact ⟨p, q2, vs1, vs2, rfl, rfl, g2, hq, by rw [g3.len, r.len]; exact n, a _ _ _ s ((m.tk E.dlat).trans tk) (E1.write hi (das_app (g3.keep tk) (r.keep tk)))⟩
theorem pairs_at {l : List Da} {k : Nat} {d : Da} (h : (pairs l)[k]? = some d) : ∃ x, l[k]? = some x ∧ d = .tup [.int (k : Nat), x] := by
  unfold pairs at h
  rw [List.getElem?_mapIdx] at h
  obtain ⟨x, hx, rfl⟩ := Option.map_eq_some_iff.mp h
  exact ⟨x, hx, rfl⟩
theorem pairs_len {l : List Da} : (pairs l).length = l.length := by simp [pairs]
/-- a comprehension over what is given as a map -/
theorem k_lc {α : Type} {g : TG} {vs : List Nat} {tt : TT} {te : TE} {R : List Da → Prop} {kp : Evn → Prop} (L : List α) (f : α → Da) (p : α → Bool) (g' : α → Da) (hk : kp (ewipe env vs)) (hn : L.length ≤ sizeLine)
    (hs : ∀ x ∈ L, Gv K (ewipe env vs) g vs (f x) fun e => Tv K e tt fun b => b = p x ∧ (p x = true → Ev K e te fun y => y = .da (g' x))) (h : R ((L.filter p).map g')) : KLc K env g vs tt te R (L.map f) kp := by
  refine ⟨hk, by rw [List.length_map]; exact hn, fun k acc => acc = ((L.take k).filter p).map g', by simp, fun k d acc hd ha => ?_, fun acc ha => ?_⟩
  · rw [List.getElem?_map] at hd
    obtain ⟨x, hx, rfl⟩ := Option.map_eq_some_iff.mp hd
    subst ha
    have e : L.take (k + 1) = L.take k ++ [x] := by rw [List.take_succ, hx]; rfl
    intro H0 dl hs1 σ H Rr v E r fin
    refine hs x (List.mem_of_getElem? hx) H0 dl hs1 σ H Rr v E r fun e1 σ1 ht E1 hw => fin e1 σ1 (ht.imp fun b hb => ?_) E1 hw
    obtain ⟨rfl, hy⟩ := hb
    cases hp : p x
    · refine k_iff rfl ?_
      show _ = ((L.take (k + 1)).filter p).map g'
      rw [e, List.filter_append, List.map_append]
      simp [hp]
    · refine k_ift rfl ((hy hp).imp fun y hy => ?_)
      subst hy
      refine k_d ?_
      show _ = ((L.take (k + 1)).filter p).map g'
      rw [e, List.filter_append, List.map_append]
      simp [hp]
  · subst ha
    rw [List.length_map, List.take_length]
    exact h
theorem ev_orD {ta tb : TE} {a c : Bool} (ha : Ev K env ta fun x => x = .da (.bl a)) (hb : a = false → Ev K env tb fun y => y = .da (.bl c)) (s : S (.da (.bl (a || c)))) : Ev K env (tOrV ta tb) S := ev_orV (ha.imp fun x hx => by
  subst hx
  refine k_b ?_
  cases a
  · exact k_iff rfl ((hb rfl).imp fun y hy => by subst hy; exact s)
  · exact k_ift rfl s)
theorem ev_andD {ta tb : TE} {a c : Bool} (ha : Ev K env ta fun x => x = .da (.bl a)) (hb : a = true → Ev K env tb fun y => y = .da (.bl c)) (s : S (.da (.bl (a && c)))) : Ev K env (tAndV ta tb) S := ev_andV (ha.imp fun x hx => by
  subst hx
  refine k_b ?_
  cases a
  · exact k_iff rfl s
  · exact k_ift rfl ((hb rfl).imp fun y hy => by subst hy; exact s))
theorem cx_K {CX : CXT} {P : Program} {w : World} {mg : Str → Option Value} {base : Heap} {N : List Str} {q : Str} {sc : Scope} {f : Addr} {cd : Value} {A : Around} {o : List Env} {s : Shared} {H : Hp} {E : XK} : (cxOf CX P w K mg base N q sc f cd A o s H E).nox.K = K := rfl
theorem cx_K' {CX : CXT} {P : Program} {w : World} {mg : Str → Option Value} {base : Heap} {N : List Str} {q : Str} {sc : Scope} {f : Addr} {cd : Value} {A : Around} {o : List Env} {s : Shared} {H : Hp} {E : XK} : (cxOf CX P w K mg base N q sc f cd A o s H E).K = K := rfl
/-- the tests of a comprehension, where it has one -/
theorem k_ixT2 {l : List Da} {i : Int} {d : Da} {S : Da → Prop} (e : atI l i = some d) (h : S d) : ∃ d, atI l i = some d ∧ S d := ⟨d, e, h⟩
end
end My
namespace My
open PySem L2
mutual
def toPy : Da → PyData
  | .non => .none
  | .bl b => .bool b
  | .int i => .int i
  | .str s => .str s
  | .tup l => .tuple (toPys l)
def toPys : List Da → List PyData
  | [] => []
  | d :: l => toPy d :: toPys l
end
section
variable {K : PySem.W.Frag} {env : Evn} {S : Vl → Prop}
mutual
theorem dpy {H : Hp} : ∀ {d : Da} {v : V}, DaAt K H d v → L2.Dp K H v (toPy d)
  | _, _, .non => by rw [toPy]; exact .non
  | _, _, .bl b => by rw [toPy]; exact .bl b
  | _, _, .int i => by rw [toPy]; exact .int i
  | _, _, .str s => by rw [toPy]; exact .str s
  | _, _, .tup h r => by rw [toPy]; exact .tup h (dpys r)
theorem dpys {H : Hp} : ∀ {l : List Da} {vs : List V}, DasAt K H l vs → L2.DpAll K H vs (toPys l)
  | _, _, .nil => by rw [toPys]; exact .nil
  | _, _, .cons h r => by rw [toPys]; exact .cons (dpy h) (dpys r)
end
structure KEqD (x y : Vl) (R : Bool → Prop) : Prop where
  h : ∃ d e, x = .da d ∧ y = .da e ∧ SeqAt.shaped (toPy d) = true ∧ SeqAt.shaped (toPy e) = true ∧ R (PyData.eqv (toPy d) (toPy e))
theorem ev_eqD {ta tb : TE} (h : Ev K env ta fun x => Ev K env tb fun y => KEqD x y fun b => S (.da (.bl b))) : Ev K env (tOp (rEqD K) ta tb) S := fun H0 dl hs σ H Q E k =>
  h H0 dl hs σ H _ E fun x v H1 hx m q r => hx H0 dl hs σ H1 _ (E.go m q) fun y u H2 hy m2 q2 r2 => by
    obtain ⟨d, e, rfl, rfl, h1, h2, s⟩ := hy
    exact ⟨_, _, dpy (DaAt.keep (m2.tk q) r), dpy r2, h1, h2, k _ _ H2 s (m.trans m2) q2 (.bl _)⟩
theorem ev_neD {ta tb : TE} (h : Ev K env ta fun x => Ev K env tb fun y => KEqD x y fun b => S (.da (.bl (!b)))) : Ev K env (tOp (rNeD K) ta tb) S := fun H0 dl hs σ H Q E k =>
  h H0 dl hs σ H _ E fun x v H1 hx m q r => hx H0 dl hs σ H1 _ (E.go m q) fun y u H2 hy m2 q2 r2 => by
    obtain ⟨d, e, rfl, rfl, h1, h2, s⟩ := hy
    exact ⟨_, _, dpy (DaAt.keep (m2.tk q) r), dpy r2, h1, h2, k _ _ H2 s (m.trans m2) q2 (.bl _)⟩
theorem toPys_ints : ∀ p : List Int, toPys (p.map Da.int) = p.map PyData.int
  | [] => by rw [List.map_nil, toPys]; rfl
  | i :: p => by rw [List.map_cons, toPys, toPys_ints p, toPy]; rfl
theorem depthAll_ints : ∀ p : List Int, PyData.depthAll (p.map PyData.int) ≤ 1
  | [] => by simp [PyData.depthAll]
  | i :: p => by
    have := depthAll_ints p
    rw [List.map_cons, PyData.depthAll, PyData.depth]
    omega
theorem layAll_ints : ∀ p : List Int, PyData.canLayAll0 (p.map PyData.int) = true
  | [] => rfl
  | i :: p => by rw [List.map_cons, PyData.canLayAll0, PyData.canLay0, layAll_ints p]; rfl
theorem shaped_ints (p : List Int) : SeqAt.shaped (toPy (.tup (p.map Da.int))) = true := by
  unfold SeqAt.shaped
  rw [toPy, toPys_ints, PyData.canLay0, layAll_ints, PyData.depth]
  have := depthAll_ints p
  simp
  omega
theorem eqvAll_ints : ∀ p q : List Int, PyData.eqvAll (p.map PyData.int) (q.map PyData.int) = decide (p = q)
  | [], [] => rfl
  | [], _ :: _ => rfl
  | _ :: _, [] => rfl
  | i :: p, j :: q => by
    rw [List.map_cons, List.map_cons, PyData.eqvAll, eqvAll_ints p q, PyData.eqv, Bool.eq_iff_iff]
    simp
theorem k_eqInts {p q : List Int} {R : Bool → Prop} (h : R (decide (p = q))) : KEqD (.da (.tup (p.map Da.int))) (.da (.tup (q.map Da.int))) R :=
  ⟨_, _, rfl, rfl, shaped_ints p, shaped_ints q, by rw [toPy, toPy, toPys_ints, toPys_ints, PyData.eqv, eqvAll_ints]; exact h⟩
theorem k_eqInts0 {p : List Int} {R : Bool → Prop} (h : R (decide (p = []))) : KEqD (.da (.tup (p.map Da.int))) (.da (.tup [])) R := k_eqInts (q := []) h
theorem k_eqIntsC {i : Int} {p : List Int} {R : Bool → Prop} (h : R false) : KEqD (.da (.tup (Da.int i :: p.map Da.int))) (.da (.tup [])) R := k_eqInts (p := i :: p) (q := []) (by simpa using h)
/-- l[k] = v of one's own list -/
structure KPut (l : List Da) (k : Int) (R : Nat → Prop) : Prop where
  h : ∃ j, ixN l.length k = some j ∧ R j
theorem k_put {l : List Da} {j : Nat} {R : Nat → Prop} (hl : j < l.length) (h : R j) : KPut l ((j : Nat) : Int) R := ⟨j, by unfold ixN; rw [if_pos (Int.natCast_nonneg j), if_pos (by omega)]; rfl, h⟩
theorem k_put0 {a : Da} {l : List Da} {R : Nat → Prop} (h : R 0) : KPut (a :: l) 0 R := ⟨0, by unfold ixN; rw [if_pos (Int.le_refl 0), if_pos (by rw [List.length_cons]; omega)]; rfl, h⟩
theorem das_set {H : Hp} : ∀ {l : List Da} {vs : List V}, DasAt K H l vs → ∀ (j : Nat) {d : Da} {v : V}, DaAt K H d v → DasAt K H (l.set j d) (vs.set j v)
  | _, _, .nil, _, _, _, _ => .nil
  | _, _, .cons h r, 0, _, _, h2 => .cons h2 r
  | _, _, .cons h r, j + 1, _, _, h2 => .cons h (das_set r j h2)
theorem sv_put {O : Out → Prop} {i : Nat} {p : Addr} {l : List Da} {te ti : TE} (hi : env[i]? = some (some (.own p l))) (h : Ev K env te fun x => KD x fun d => Ev K env ti fun y => KI1 y fun k => KPut l k fun j => O (.nx (env.set i (some (.own p (l.set j d)))))) : Sv K env (tAsg te (gSub (tVar i) ti rSetL)) O := fun H0 dl hs σ H D E a b c d e =>
  h H0 dl hs σ H _ E fun x v H1 hx m q r => by
    obtain ⟨d, rfl, hx⟩ := hx
    have E1 := E.go m q
    obtain ⟨w, e1, rfl, vs, g2, g3, g4, _⟩ := E1.slot i _ hi
    refine ⟨_, e1, hx H0 dl hs σ H1 _ E1 fun y u H2 hy m2 q2 r2 => ?_⟩
    obtain ⟨k, rfl, j, hj, s⟩ := hy
    have h3 := atm_at (show DaAt K H2 (.int k) u from r2) rfl
    subst h3
    have E2 := E1.go m2 q2
    have gp := m2 _ _ (E.dl0.ne g4) g2
    have g5 : DasAt K H2 l vs := g3.keep (m2.tk q)
    have tk : Tk K H2 (upd H2 p (.lst (vs.set j v))) := .bl (.put gp)
    refine ⟨p, vs, k, j, rfl, rfl, gp, by rw [g5.len]; exact hj, a _ _ _ s (((m.trans m2).tk E.dlat).trans tk) (E2.write hi (das_set (g5.keep tk) j (DaAt.keep ((m2.tk q).trans tk) r)))⟩
end
end My
namespace My
open PySem L2
section
variable {K : PySem.W.Frag} {env : Evn} {S : Vl → Prop}
theorem k_ty_non_tuple {R : Bool → Prop} (h : R false) : KTy (.da .non) "tuple" R := ⟨false, (by decide +kernel : kitB "NoneType" "tuple" = some false), h⟩
theorem k_ty_non_bool {R : Bool → Prop} (h : R false) : KTy (.da .non) "bool" R := ⟨false, (by decide +kernel : kitB "NoneType" "bool" = some false), h⟩
theorem k_ty_non_int {R : Bool → Prop} (h : R false) : KTy (.da .non) "int" R := ⟨false, (by decide +kernel : kitB "NoneType" "int" = some false), h⟩
theorem k_ty_non_str {R : Bool → Prop} (h : R false) : KTy (.da .non) "str" R := ⟨false, (by decide +kernel : kitB "NoneType" "str" = some false), h⟩
theorem k_ty_non_list {R : Bool → Prop} (h : R false) : KTy (.da .non) "list" R := ⟨false, (by decide +kernel : kitB "NoneType" "list" = some false), h⟩
theorem k_ty_bl_tuple {a : Bool} {R : Bool → Prop} (h : R false) : KTy (.da (.bl a)) "tuple" R := ⟨false, (by decide +kernel : kitB "bool" "tuple" = some false), h⟩
theorem k_ty_bl_bool {a : Bool} {R : Bool → Prop} (h : R true) : KTy (.da (.bl a)) "bool" R := ⟨true, (by decide +kernel : kitB "bool" "bool" = some true), h⟩
theorem k_ty_bl_int {a : Bool} {R : Bool → Prop} (h : R true) : KTy (.da (.bl a)) "int" R := ⟨true, (by decide +kernel : kitB "bool" "int" = some true), h⟩
theorem k_ty_bl_str {a : Bool} {R : Bool → Prop} (h : R false) : KTy (.da (.bl a)) "str" R := ⟨false, (by decide +kernel : kitB "bool" "str" = some false), h⟩
theorem k_ty_bl_list {a : Bool} {R : Bool → Prop} (h : R false) : KTy (.da (.bl a)) "list" R := ⟨false, (by decide +kernel : kitB "bool" "list" = some false), h⟩
theorem k_ty_int_tuple {a : Int} {R : Bool → Prop} (h : R false) : KTy (.da (.int a)) "tuple" R := ⟨false, (by decide +kernel : kitB "int" "tuple" = some false), h⟩
theorem k_ty_int_bool {a : Int} {R : Bool → Prop} (h : R false) : KTy (.da (.int a)) "bool" R := ⟨false, (by decide +kernel : kitB "int" "bool" = some false), h⟩
theorem k_ty_int_int {a : Int} {R : Bool → Prop} (h : R true) : KTy (.da (.int a)) "int" R := ⟨true, (by decide +kernel : kitB "int" "int" = some true), h⟩
theorem k_ty_int_str {a : Int} {R : Bool → Prop} (h : R false) : KTy (.da (.int a)) "str" R := ⟨false, (by decide +kernel : kitB "int" "str" = some false), h⟩
theorem k_ty_int_list {a : Int} {R : Bool → Prop} (h : R false) : KTy (.da (.int a)) "list" R := ⟨false, (by decide +kernel : kitB "int" "list" = some false), h⟩
theorem k_ty_str_tuple {a : Str} {R : Bool → Prop} (h : R false) : KTy (.da (.str a)) "tuple" R := ⟨false, (by decide +kernel : kitB "str" "tuple" = some false), h⟩
theorem k_ty_str_bool {a : Str} {R : Bool → Prop} (h : R false) : KTy (.da (.str a)) "bool" R := ⟨false, (by decide +kernel : kitB "str" "bool" = some false), h⟩
theorem k_ty_str_int {a : Str} {R : Bool → Prop} (h : R false) : KTy (.da (.str a)) "int" R := ⟨false, (by decide +kernel : kitB "str" "int" = some false), h⟩
theorem k_ty_str_str {a : Str} {R : Bool → Prop} (h : R true) : KTy (.da (.str a)) "str" R := ⟨true, (by decide +kernel : kitB "str" "str" = some true), h⟩
theorem k_ty_str_list {a : Str} {R : Bool → Prop} (h : R false) : KTy (.da (.str a)) "list" R := ⟨false, (by decide +kernel : kitB "str" "list" = some false), h⟩
theorem k_ty_tup_tuple {a : List Da} {R : Bool → Prop} (h : R true) : KTy (.da (.tup a)) "tuple" R := ⟨true, (by decide +kernel : kitB "tuple" "tuple" = some true), h⟩
theorem k_ty_tup_bool {a : List Da} {R : Bool → Prop} (h : R false) : KTy (.da (.tup a)) "bool" R := ⟨false, (by decide +kernel : kitB "tuple" "bool" = some false), h⟩
theorem k_ty_tup_int {a : List Da} {R : Bool → Prop} (h : R false) : KTy (.da (.tup a)) "int" R := ⟨false, (by decide +kernel : kitB "tuple" "int" = some false), h⟩
theorem k_ty_tup_str {a : List Da} {R : Bool → Prop} (h : R false) : KTy (.da (.tup a)) "str" R := ⟨false, (by decide +kernel : kitB "tuple" "str" = some false), h⟩
theorem k_ty_tup_list {a : List Da} {R : Bool → Prop} (h : R false) : KTy (.da (.tup a)) "list" R := ⟨false, (by decide +kernel : kitB "tuple" "list" = some false), h⟩
theorem k_ty_ls_tuple {a : List Da} {R : Bool → Prop} (h : R false) : KTy (.ls a) "tuple" R := ⟨false, (by decide +kernel : kitB "list" "tuple" = some false), h⟩
theorem k_ty_ls_bool {a : List Da} {R : Bool → Prop} (h : R false) : KTy (.ls a) "bool" R := ⟨false, (by decide +kernel : kitB "list" "bool" = some false), h⟩
theorem k_ty_ls_int {a : List Da} {R : Bool → Prop} (h : R false) : KTy (.ls a) "int" R := ⟨false, (by decide +kernel : kitB "list" "int" = some false), h⟩
theorem k_ty_ls_str {a : List Da} {R : Bool → Prop} (h : R false) : KTy (.ls a) "str" R := ⟨false, (by decide +kernel : kitB "list" "str" = some false), h⟩
theorem k_ty_ls_list {a : List Da} {R : Bool → Prop} (h : R true) : KTy (.ls a) "list" R := ⟨true, (by decide +kernel : kitB "list" "list" = some true), h⟩
theorem ev_andAny {ta tb : TE} (ha : Ev K env ta fun x => KB x fun _ => True) (hb : Ev K env tb fun y => KB y fun _ => True) (s : ∀ b, S (.da (.bl b))) : Ev K env (tAndV ta tb) S := ev_andV (ha.imp fun x ⟨a, ea, _⟩ => by
  subst ea
  refine k_b ?_
  cases a
  · exact k_iff rfl (s _)
  · refine k_ift rfl (hb.imp fun y ⟨b, eb, _⟩ => ?_)
    subst eb
    exact s b)
/-- the ways of an if lead to slots of one kind -/
def jnI (I : Evn → Prop) (O : Out → Prop) : Out → Prop
  | .nx e => ∃ e', Wk e e' ∧ I e'
  | o => O o
theorem ji_nx {I : Evn → Prop} {O : Out → Prop} {e : Evn} (h : ∃ e', Wk e e' ∧ I e') : jnI I O (.nx e) := h
theorem ji_rt {O : Out → Prop} {I : Evn → Prop} {x : Vl} (h : O (.rt x)) : jnI I O (.rt x) := h
theorem ji_rn {O : Out → Prop} {I : Evn → Prop} {l : List Da} (h : O (.rn l)) : jnI I O (.rn l) := h
theorem ji_bk {O : Out → Prop} {I : Evn → Prop} {e : Evn} (h : O (.bk e)) : jnI I O (.bk e) := h
theorem ji_ct {O : Out → Prop} {I : Evn → Prop} {e : Evn} (h : O (.ct e)) : jnI I O (.ct e) := h
/-- both ways of an if lead to the same slots -/
def jnO (e' : Evn) (O : Out → Prop) : Out → Prop
  | .nx e => Wk e e'
  | o => O o
theorem j_nx {O : Out → Prop} {e e' : Evn} (h : Wk e e') : jnO e' O (.nx e) := h
theorem j_rt {O : Out → Prop} {e' : Evn} {x : Vl} (h : O (.rt x)) : jnO e' O (.rt x) := h
theorem j_rn {O : Out → Prop} {e' : Evn} {l : List Da} (h : O (.rn l)) : jnO e' O (.rn l) := h
theorem j_bk {O : Out → Prop} {e e' : Evn} (h : O (.bk e)) : jnO e' O (.bk e) := h
theorem j_ct {O : Out → Prop} {e e' : Evn} (h : O (.ct e)) : jnO e' O (.ct e) := h
theorem Sv.weak {t : TS} {O : Out → Prop} {e e' : Evn} (h : Sv K e' t O) (w : Wk e e') : Sv K e t O := fun H0 dl hs σ H D E => h H0 dl hs σ H D (E.weak w.len w.le)
theorem sv_join {st rest : TS} {O : Out → Prop} (e' : Evn) (h : Sv K env st (jnO e' O)) (hr : Sv K e' rest O) : Sv K env (tCut st rest) O := sv_cut (h.imp fun o ho => by
  cases o with
  | nx e => exact o_nx (hr.weak ho)
  | bk e => exact o_bk ho
  | ct e => exact o_ct ho
  | rt x => exact o_rt ho
  | rn l => exact o_rn ho)
theorem sv_joinI {st rest : TS} {O : Out → Prop} (I : Evn → Prop) (h : Sv K env st (jnI I O)) (hr : ∀ e, I e → Sv K e rest O) : Sv K env (tCut st rest) O := sv_cut (h.imp fun o ho => by
  cases o with
  | nx e =>
    obtain ⟨e', w, i⟩ := ho
    exact o_nx ((hr e' i).weak w)
  | bk e => exact o_bk ho
  | ct e => exact o_ct ho
  | rt x => exact o_rt ho
  | rn l => exact o_rn ho)
structure KI2s (xs : List Vl) (R : Int → Int → Prop) : Prop where
  h : ∃ i j, xs = [.da (.int i), .da (.int j)] ∧ R i j
theorem k_i2s {i j : Int} {R : Int → Int → Prop} (h : R i j) : KI2s [.da (.int i), .da (.int j)] R := ⟨i, j, rfl, h⟩
theorem ev_max2 {t : TA} (h : Es K env t fun xs => KI2s xs fun i j => S (.da (.int (if j > i then j else i)))) : Ev K env (tCB (fun xs H Q => ∃ i j, xs = [.int i, .int j] ∧ Q (.int (if j > i then j else i)) H) t) S := fun H0 dl hs σ H Q E k =>
  h H0 dl hs σ H _ E fun xs vs H1 hx m q r => by
    obtain ⟨i, j, rfl, s⟩ := hx
    obtain ⟨v, u, rfl, r1, r2⟩ := vls_two r
    have h1 := atm_at (show DaAt K H1 (.int i) v from r1) rfl
    have h2 := atm_at (show DaAt K H1 (.int j) u from r2) rfl
    exact ⟨i, j, by rw [h1, h2], k _ _ H1 s m q (.int _)⟩
theorem ev_min2 {t : TA} (h : Es K env t fun xs => KI2s xs fun i j => S (.da (.int (if j < i then j else i)))) : Ev K env (tCB (fun xs H Q => ∃ i j, xs = [.int i, .int j] ∧ Q (.int (if j < i then j else i)) H) t) S := fun H0 dl hs σ H Q E k =>
  h H0 dl hs σ H _ E fun xs vs H1 hx m q r => by
    obtain ⟨i, j, rfl, s⟩ := hx
    obtain ⟨v, u, rfl, r1, r2⟩ := vls_two r
    have h1 := atm_at (show DaAt K H1 (.int i) v from r1) rfl
    have h2 := atm_at (show DaAt K H1 (.int j) u from r2) rfl
    exact ⟨i, j, by rw [h1, h2], k _ _ H1 s m q (.int _)⟩
structure KIdx (l : List Da) (d : Da) (R : Nat → Prop) : Prop where
  h : ∃ as a j z, atms l = some as ∧ atm d = some a ∧ as[j]? = some z ∧ eqV z a = true ∧ (∀ (m : Nat) (z' : V), m < j → as[m]? = some z' → eqV z' a = false) ∧ R j
theorem ev_index {to te : TE} (h : Ev K env to fun x => KL x fun l => Ev K env te fun y => KD y fun d => KIdx l d fun j => S (.da (.int (j : Nat)))) : Ev K env (tBM K "list" (rIndex K) to (tCons te tNil)) S := fun H0 dl hs σ H Q E k =>
  h H0 dl hs σ H _ E fun x v H1 hx m q r => by
    obtain ⟨l, rfl, hx⟩ := hx
    obtain ⟨a, vs, rfl, h1, h2, n⟩ := r
    refine ⟨.inl ⟨rfl, vs, h1.sq⟩, hx H0 dl hs σ H1 _ (E.go m q) fun y u H2 hy m2 q2 r2 => ?_⟩
    obtain ⟨d, rfl, as, b, j, z, e1, e2, e3, e4, e5, s⟩ := hy
    have hb := atm_at (show DaAt K H2 d u from r2) e2
    subst hb
    have g1 : Lq K H2 a vs := m2.sql n h1
    rw [atms_at (h2.keep (m2.tk q)) e1] at g1
    exact ⟨a, as, u, j, z, rfl, rfl, g1.sq, atm_flat e2, atms_flat e1, e3, e4, e5, k _ _ H2 s (m.trans m2) q2 (.int _)⟩
end
end My
namespace My
open PySem L2
section
variable {K : PySem.W.Frag} {env : Evn} {S : Vl → Prop}
/-! ### defs that draw -/
def sp_dr (K : PySem.W.Frag) (pre : List Vl → (Vl → Prop) → Prop) : Sp := fun vs H Q _ => ∃ (d l : Addr) (ws : List V) (xs : List Vl) (R : Vl → Prop), vs = .ref d :: ws ∧ Dry H d l ∧ VlsAt K (some (d, l)) H xs ws ∧ pre xs R ∧
  ∀ x v H', R x → Mv (some (d, l)) H H' → Dry H' d l → VlAt K (some (d, l)) H' x v → Q v H'
def sp_dn (K : PySem.W.Frag) (pre : List Vl → (List Da → Prop) → Prop) : Sp := fun vs H Q _ => ∃ (d l : Addr) (ws : List V) (xs : List Vl) (R : List Da → Prop), vs = .ref d :: ws ∧ Dry H d l ∧ VlsAt K (some (d, l)) H xs ws ∧ pre xs R ∧
  ∀ m a us H', R m → Mv (some (d, l)) H H' → Dry H' d l → H a = none → H' a = some (.lst us) → DasAt K H' m us → Q (.ref a) H'
theorem dr_at {H0 H : Hp} {dl : Dl} {hs : Hs} {σ : St} {i : Nat} (E : EnvAt K H0 dl hs H σ env) (hi : env[i]? = some (some .dr)) : ∃ d l, dl = some (d, l) ∧ σ[i]? = some (some (.ref d)) := by
  obtain ⟨v, h1, d, l, e, rfl⟩ := E.slot i _ hi
  exact ⟨d, l, e, h1⟩
theorem ev_callD {pre : List Vl → (Vl → Prop) → Prop} {X : XK} {i : Nat} {t : TA} (hi : env[i]? = some (some .dr)) (h : Es K env t fun xs => pre xs fun x => isDa x ∧ S x) : Ev K env (tCall (sp_dr K pre) [] X (tCons (tVar i) t)) S := fun H0 dl hs σ H Q E k => by
  obtain ⟨d, l, rfl, h1⟩ := dr_at E hi
  refine ⟨_, h1, h H0 _ hs σ H _ E fun xs vs H1 hx m q r => ?_⟩
  refine ⟨d, l, vs, xs, _, by rw [List.append_nil], q d l rfl, r, hx, fun x v H2 hx s dy hv => ?_⟩
  obtain ⟨hd, s2⟩ := hx
  exact k x v H2 s2 (m.trans s) (fun d' l' e => by cases e; exact dy) hv
theorem el_callD {pre : List Vl → (List Da → Prop) → Prop} {X : XK} {i : Nat} {t : TA} {R : List Da → Prop} (hi : env[i]? = some (some .dr)) (h : Es K env t fun xs => pre xs R) : Eln K env (tCall (sp_dn K pre) [] X (tCons (tVar i) t)) R := fun H0 dl hs σ H Q E k => by
  obtain ⟨d, l, rfl, h1⟩ := dr_at E hi
  refine ⟨_, h1, h H0 _ hs σ H _ E fun xs vs H1 hx m q r => ?_⟩
  exact ⟨d, l, vs, xs, _, by rw [List.append_nil], q d l rfl, r, hx, fun m2 a us H2 hl s dy hn ha hd => k m2 a us H2 hl (m.trans s) (fun d' l' e => by cases e; exact dy) (m.fresh q hn) ha hd⟩
theorem ent_atD {d0 l0 : Addr} {H : Hp} : ∀ {xs : List Vl} {vs : List V}, VlsAt K (some (d0, l0)) H xs vs → ∃ (e : Evn) (hs : Hs), Ent xs e ∧ (∀ p ∈ hs, ∃ ws, Lq K H p.1 ws ∧ DasAt K H p.2 ws ∧ p.1 ≠ d0) ∧ ∀ (i : Nat) (s : Sl), e[i]? = some (some s) → ∃ v, vs[i]? = some v ∧ SlAt K H (some (d0, l0)) hs H s v ∧ ∀ a l, s ≠ .own a l
  | _, _, .nil => ⟨[], [], .nil, fun p hp => (by cases hp), fun i s h => (by simp at h)⟩
  | .da d :: _, _, .cons (v := v) h r => by
    obtain ⟨e, hs, h1, h2, h3⟩ := ent_atD r
    refine ⟨_, hs, .da h1, h2, fun i s hi => ?_⟩
    cases i with
    | zero =>
      cases Option.some.inj hi
      exact ⟨v, rfl, h, fun _ _ z => by cases z⟩
    | succ i => exact h3 i s hi
  | .ls l :: _, _, .cons (v := v) h r => by
    obtain ⟨e, hs, h1, h2, h3⟩ := ent_atD r
    obtain ⟨a, us, rfl, g1, g2, g3⟩ := h
    refine ⟨_, (a, l) :: hs, .ls (a := a) h1, fun p hp => ?_, fun i s hi => ?_⟩
    · rcases List.mem_cons.mp hp with rfl | hp
      · exact ⟨us, g1, g2, g3 _ _ rfl⟩
      · exact h2 p hp
    · cases i with
      | zero =>
        cases Option.some.inj hi
        exact ⟨_, rfl, ⟨rfl, List.mem_cons_self ..⟩, fun _ _ z => by cases z⟩
      | succ i =>
        obtain ⟨v, e1, e2, e3⟩ := h3 i s hi
        refine ⟨v, e1, ?_, e3⟩
        cases s with
        | vl d => exact e2
        | ls b l' => exact ⟨e2.1, List.mem_cons_of_mem _ e2.2⟩
        | own b l' => exact absurd rfl (e3 b l')
        | dr => exact e2
theorem start_atD {d l : Addr} {H : Hp} {N : List Str} {xs : List Vl} {vs : List V} (hD : Dry H d l) (h : VlsAt K (some (d, l)) H xs vs) : ∃ (e : Evn) (hs : Hs), Ent xs e ∧ EnvAt K H (some (d, l)) hs H (L2.start N (.ref d :: vs)) (some .dr :: e ++ List.replicate (N.length - (xs.length + 1)) none) := by
  obtain ⟨e, hs, h1, h2, h3⟩ := ent_atD h
  have hv := h.len
  have he := h1.len
  have dl0 : DlAt (some (d, l)) H := fun d' l' z => by cases z; exact hD
  have at_ : ∀ (i : Nat) (s : Sl), (e ++ List.replicate (N.length - (xs.length + 1)) (none : Option Sl))[i]? = some (some s) → e[i]? = some (some s) := fun i s hi => by
    by_cases hl : i < e.length
    · rwa [List.getElem?_append_left hl] at hi
    · rw [List.getElem?_append_right (by omega), List.getElem?_replicate] at hi
      split at hi
      · cases hi
      · cases hi
  have hst : L2.start N (.ref d :: vs) = some (.ref d) :: (vs.map some ++ List.replicate (N.length - (xs.length + 1)) none) := by
    unfold L2.start
    rw [List.map_cons, List.length_cons, hv]
    rfl
  rw [hst]
  refine ⟨e, hs, h1, by rw [List.cons_append, List.length_cons, List.length_cons, List.length_append, List.length_append, List.length_map, List.length_replicate, List.length_replicate, hv, he], dl0, dl0, .refl _ _, fun p hp => ?_, fun i s hi => ?_, fun i j a b l1 l' n hi hj => ?_⟩
  · obtain ⟨ws, q1, q2, q3⟩ := h2 p hp
    exact ⟨ws, q1, q2, fun _ _ z => by cases z; exact q3⟩
  · cases i with
    | zero =>
      cases Option.some.inj hi
      exact ⟨_, rfl, d, l, rfl, rfl⟩
    | succ i =>
      obtain ⟨v, e1, e2, _⟩ := h3 i s (at_ i s hi)
      refine ⟨v, ?_, e2⟩
      have hil := (List.getElem?_eq_some_iff.mp e1).1
      rw [List.getElem?_cons_succ, List.getElem?_append_left (by rw [List.length_map]; exact hil), List.getElem?_map, e1]
      rfl
  · cases i with
    | zero => cases hi
    | succ i =>
      obtain ⟨_, _, _, hno⟩ := h3 i _ (at_ i _ hi)
      exact absurd rfl (hno a l1)
theorem fin_dr {pre : List Vl → (Vl → Prop) → Prop} {N : List Str} {t : TS} (h : ∀ xs R, pre xs R → ∀ e, Ent xs e → Sv K (some .dr :: e ++ List.replicate (N.length - (xs.length + 1)) none) t (retO R)) {vs : List V} {H : Hp} {Q : VK} {E : XK} (hs : sp_dr K pre vs H Q E) :
    t { nx := fun _ H' => Q .non H', rt := Q } (L2.start N vs) H := by
  obtain ⟨d, l, ws, xs, R, rfl, hD, hx, hp, q⟩ := hs
  obtain ⟨e, hs, he, E⟩ := start_atD (N := N) hD hx
  exact h xs R hp e he H _ hs _ H _ E (fun e σ' H' o _ E' => q _ _ H' o E'.mv (E'.dlat _ _ rfl) .non) (fun _ _ _ o => o.elim) (fun _ _ _ o => o.elim) (fun x v H' o m dy r => q x v H' o m (dy _ _ rfl) r) (fun _ _ _ _ o => o.elim)
theorem fin_dn {pre : List Vl → (List Da → Prop) → Prop} {N : List Str} {t : TS} (h : ∀ xs R, pre xs R → ∀ e, Ent xs e → Sv K (some .dr :: e ++ List.replicate (N.length - (xs.length + 1)) none) t (rnO R)) {vs : List V} {H : Hp} {Q : VK} {E : XK} (hs : sp_dn K pre vs H Q E) :
    t { nx := fun _ H' => Q .non H', rt := Q } (L2.start N vs) H := by
  obtain ⟨d, l, ws, xs, R, rfl, hD, hx, hp, q⟩ := hs
  obtain ⟨e, hs, he, E⟩ := start_atD (N := N) hD hx
  exact h xs R hp e he H _ hs _ H _ E (fun _ _ _ o => o.elim) (fun _ _ _ o => o.elim) (fun _ _ _ o => o.elim) (fun _ _ _ o => o.elim) (fun m a us H' o mv dy h0 ha r => q m a us H' o mv (dy _ _ rfl) h0 ha r)
/-- a drawn number -/
structure KNx (m : Int) (R : Int → Prop) : Prop where
  h : 0 < m ∧ ∀ r, 0 ≤ r → r < m → R r
theorem k_nx {m : Int} {R : Int → Prop} (h : 0 < m) (q : ∀ r, 0 ≤ r → r < m → R r) : KNx m R := ⟨h, q⟩
/-- text[i], text[a:b] -/
structure KIS (x y : Vl) (R : Nat → Prop) : Prop where
  h : ∃ (cs : List Nat) (i : Int) (c : Nat), x = .da (.str (tx cs)) ∧ y = .da (.int i) ∧ cs.length ≤ sizeLine ∧ atI cs i = some c ∧ R c
theorem k_is' {cs : List Nat} {i : Int} {c : Nat} {R : Nat → Prop} (n : cs.length ≤ sizeLine) (e : atI cs i = some c) (h : R c) : KIS (.da (.str (tx cs))) (.da (.int i)) R := ⟨cs, i, c, rfl, rfl, n, e, h⟩
theorem ev_ixS {ta tb : TE} (h : Ev K env ta fun x => Ev K env tb fun y => KIS x y fun c => S (.da (.str (tx [c])))) : Ev K env (tOp rIxS ta tb) S := fun H0 dl hs σ H Q E k =>
  h H0 dl hs σ H _ E fun x v H1 hx m q r => hx H0 dl hs σ H1 _ (E.go m q) fun y u H2 hy m2 q2 r2 => by
    obtain ⟨cs, i, c, rfl, rfl, n, e, s⟩ := hy
    have h1 := atm_at (show DaAt K H1 (.str (tx cs)) v from r) rfl
    have h2 := atm_at (show DaAt K H2 (.int i) u from r2) rfl
    subst h1 h2
    exact ⟨tx cs, i, c, rfl, rfl, by rw [tx_len]; exact n, e, k _ _ H2 s (m.trans m2) q2 (.str _)⟩
structure KTs (x : Vl) (R : Str → Prop) : Prop where
  h : ∃ z, x = .da (.str z) ∧ R z
theorem k_ts {z : Str} {R : Str → Prop} (h : R z) : KTs (.da (.str z)) R := ⟨z, rfl, h⟩
end
end My
namespace My
open PySem L2
def hdT : Tr → Str
  | .empty => Str.ofString "empty"
  | .set _ => Str.ofString "set"
  | .edge _ => Str.ofString "edge"
  | .same _ => Str.ofString "same"
  | .seq _ => Str.ofString "seq"
  | .alt _ => Str.ofString "alt"
  | .rep _ _ _ _ => Str.ofString "repeat"
  | .grp _ _ => Str.ofString "group"
  | .look _ _ _ => Str.ofString "look"
def tlT : Tr → List Da
  | .empty => []
  | .set cs => [.str (tx cs)]
  | .edge k => [.str (tx k)]
  | .same n => [.str (tx n)]
  | .seq ts => [.tup (toDas ts)]
  | .alt ts => [.tup (toDas ts)]
  | .rep t lo hi lz => [toDa t, .int lo, hiD hi, .bl lz]
  | .grp n t => [.str (tx n), toDa t]
  | .look sd b t => [.str (tx sd), .bl b, toDa t]
theorem toDa_hd (t : Tr) : toDa t = .tup (.str (hdT t) :: tlT t) := by
  cases t <;> rw [toDa, hdT, tlT]
theorem k_tT {t : Tr} {R : List Da → Prop} (h : R (.str (hdT t) :: tlT t)) : KT (.da (toDa t)) R := ⟨_, by rw [toDa_hd], h⟩
theorem fl_all {α : Type} (L : List α) : (L.filter fun _ => true) = L := by simp
theorem hd_same (t : Tr) : decide (hdT t = Str.ofString "same") = isSame t := by
  cases t <;> rw [hdT, isSame] <;> first | decide +kernel | (intro _ e; cases e)
theorem hd_look (t : Tr) : decide (hdT t = Str.ofString "look") = isLook t := by
  cases t <;> rw [hdT, isLook] <;> first | decide +kernel | (intro _ _ _ e; cases e)
theorem hd_edge (t : Tr) : decide (hdT t = Str.ofString "edge") = isEdge t := by
  cases t <;> rw [hdT, isEdge] <;> first | decide +kernel | (intro _ e; cases e)
theorem List.reverseRecOn' {α : Type} {motive : List α → Prop} (l : List α) (nil : motive []) (snoc : ∀ (L : List α) (x : α), motive L → motive (L ++ [x])) : motive l := by
  have h : ∀ l : List α, motive l.reverse := fun l => by
    induction l with
    | nil => exact nil
    | cons x l ih => rw [List.reverse_cons]; exact snoc _ _ ih
  have := h l.reverse
  rwa [List.reverse_reverse] at this
/-- names gathered, each at its first place -/
def addN (acc : List (List Nat)) (n : List Nat) : List (List Nat) := if n ∈ acc then acc else acc ++ [n]
def ddN (L : List (List Nat)) : List (List Nat) := L.foldl addN []
theorem mem_addN {acc : List (List Nat)} {n m : List Nat} : m ∈ addN acc n ↔ m ∈ acc ∨ m = n := by
  unfold addN
  split
  · rename_i h
    exact ⟨.inl, fun h2 => h2.elim id fun e => e ▸ h⟩
  · rw [List.mem_append, List.mem_singleton]
theorem mem_foldN : ∀ {L acc : List (List Nat)} {m : List Nat}, m ∈ L.foldl addN acc ↔ m ∈ acc ∨ m ∈ L
  | [], acc, m => by simp
  | n :: L, acc, m => by
    rw [List.foldl_cons, mem_foldN, mem_addN, List.mem_cons, or_assoc]
theorem foldN_dd (acc : List (List Nat)) : ∀ L : List (List Nat), (ddN L).foldl addN acc = L.foldl addN acc := by
  intro L
  induction L using List.reverseRecOn' with
  | nil => rfl
  | snoc L x ih =>
    have e : ddN (L ++ [x]) = addN (ddN L) x := by unfold ddN; rw [List.foldl_append]; rfl
    have hx : (L ++ [x]).foldl addN acc = addN (L.foldl addN acc) x := by rw [List.foldl_append]; rfl
    rw [e, hx]
    by_cases h : x ∈ ddN L
    · have h2 : x ∈ L.foldl addN acc := by rw [← ih]; exact mem_foldN.mpr (.inr h)
      have e1 : addN (ddN L) x = ddN L := if_pos h
      have e2 : addN (L.foldl addN acc) x = L.foldl addN acc := if_pos h2
      rw [e1, e2]
      exact ih
    · have e1 : addN (ddN L) x = ddN L ++ [x] := if_neg h
      rw [e1, List.foldl_append, ih]
      rfl
theorem foldN_len : ∀ {L acc : List (List Nat)}, (L.foldl addN acc).length ≤ acc.length + L.length
  | [], acc => by simp
  | n :: L, acc => by
    rw [List.foldl_cons]
    have := foldN_len (L := L) (acc := addN acc n)
    have h : (addN acc n).length ≤ acc.length + 1 := by
      unfold addN
      split
      · omega
      · rw [List.length_append]; simp
    rw [List.length_cons]
    omega
theorem atms_tx : ∀ ns : List (List Nat), atms (ns.map fun n => Da.str (tx n)) = some (ns.map fun n => V.str (tx n))
  | [] => rfl
  | n :: ns => by rw [List.map_cons, List.map_cons, atms, atms_tx ns]; rfl
theorem k_inN {n : List Nat} {ns : List (List Nat)} {R : Bool → Prop} (h : R (decide (n ∈ ns))) : KIn (.da (.str (tx n))) (.ls (ns.map fun n => Da.str (tx n))) R := k_inL rfl (atms_tx ns) (by rw [in_tx]; exact h)
theorem atms_strs : ∀ ns : List Str, atms (ns.map Da.str) = some (ns.map V.str)
  | [] => rfl
  | n :: ns => by rw [List.map_cons, List.map_cons, atms, atms_strs ns]; rfl
theorem inV_strs (s : Str) : ∀ ns : List Str, inV (V.str s) (ns.map V.str) = decide (s ∈ ns)
  | [] => by simp [inV]
  | n :: ns => by
    have ih := inV_strs s ns
    unfold inV at ih ⊢
    rw [List.map_cons, List.any_cons, ih, Bool.eq_iff_iff]
    simp only [Bool.or_eq_true, decide_eq_true_eq, List.mem_cons, eqV, beq_iff_eq]
    exact or_congr ⟨Eq.symm, Eq.symm⟩ Iff.rfl
theorem k_inStrs {s : Str} {ns : List Str} {R : Bool → Prop} (h : R (decide (s ∈ ns))) : KIn (.da (.str s)) (.ls (ns.map Da.str)) R := k_inL rfl (atms_strs ns) (by rw [inV_strs]; exact h)
/-- the name of a group -/
def gname : Tr → Option (List Nat)
  | .grp n _ => some n
  | _ => none
mutual
theorem gn_nodes : ∀ t : Tr, (nodesT t).filterMap gname = gn t
  | .seq ts => by rw [nodesT, gn, ← gns_nodes ts]; rfl
  | .alt ts => by rw [nodesT, gn, ← gns_nodes ts]; rfl
  | .rep t _ _ _ => by rw [nodesT, gn, ← gn_nodes t]; rfl
  | .grp n t => by rw [nodesT, gn, ← gn_nodes t]; rfl
  | .look _ _ t => by rw [nodesT, gn, ← gn_nodes t]; rfl
  | .empty => by rw [nodesT, gn]; rfl
  | .set _ => by rw [nodesT, gn]; rfl
  | .edge _ => by rw [nodesT, gn]; rfl
  | .same _ => by rw [nodesT, gn]; rfl
theorem gns_nodes : ∀ ts : List Tr, (nodesK ts).filterMap gname = gns ts
  | [] => by rw [nodesK, gns]; rfl
  | t :: ts => by rw [nodesK, gns, List.filterMap_append, gn_nodes t, gns_nodes ts]
end
theorem gn_kids (t : Tr) : gn t = (gname t).toList ++ gns (kids t) := by
  cases t <;> simp [gn, gname, kids, gns]
end My
namespace My
open PySem L2
/-! ### data back to trees -/
theorem da_strR {K : PySem.W.Frag} {H : Hp} {s : Str} {v : V} (h : DaAt K H (.str s) v) : v = .str s := by cases h; rfl
mutual
theorem TrAt.of {K : PySem.W.Frag} {H : Hp} : ∀ {t : Tr} {v : V}, DaAt K H (toDa t) v → TrAt K H t v
  | .empty, _, h => by
    rw [toDa] at h
    cases h with
    | tup h r => cases r with
      | cons a r => cases r; cases a; exact .empty h
  | .set _, _, h => by
    rw [toDa] at h
    cases h with
    | tup h r => cases r with
      | cons a r => cases r with
        | cons b r => cases r; cases a; cases b; exact .set h
  | .edge _, _, h => by
    rw [toDa] at h
    cases h with
    | tup h r => cases r with
      | cons a r => cases r with
        | cons b r => cases r; cases a; cases b; exact .edge h
  | .same _, _, h => by
    rw [toDa] at h
    cases h with
    | tup h r => cases r with
      | cons a r => cases r with
        | cons b r => cases r; cases a; cases b; exact .same h
  | .seq ts, _, h => by
    rw [toDa] at h
    cases h with
    | tup h r => cases r with
      | cons a r => cases r with
        | cons b r =>
          cases r; cases a
          cases b with
          | tup h2 r2 => exact .seq h h2 (TrsAt.of r2)
  | .alt ts, _, h => by
    rw [toDa] at h
    cases h with
    | tup h r => cases r with
      | cons a r => cases r with
        | cons b r =>
          cases r; cases a
          cases b with
          | tup h2 r2 => exact .alt h h2 (TrsAt.of r2)
  | .rep t lo hi lz, _, h => by
    rw [toDa] at h
    cases h with
    | tup h r => cases r with
      | cons a r => cases r with
        | cons b r => cases r with
          | cons c r => cases r with
            | cons d r => cases r with
              | cons e r =>
                cases r; cases a; cases c; cases e
                cases hi with
                | none => cases d; exact .rep h (TrAt.of b)
                | some i => cases d; exact .rep h (TrAt.of b)
  | .grp n t, _, h => by
    rw [toDa] at h
    cases h with
    | tup h r => cases r with
      | cons a r => cases r with
        | cons b r => cases r with
          | cons c r => cases r; cases a; cases b; exact .grp h (TrAt.of c)
  | .look sd b t, _, h => by
    rw [toDa] at h
    cases h with
    | tup h r => cases r with
      | cons a r => cases r with
        | cons b r => cases r with
          | cons c r => cases r with
            | cons d r => cases r; cases a; cases b; cases c; exact .look h (TrAt.of d)
theorem TrsAt.of {K : PySem.W.Frag} {H : Hp} : ∀ {ts : List Tr} {vs : List V}, DasAt K H (toDas ts) vs → TrsAt K H ts vs
  | [], _, h => by rw [toDas] at h; cases h; exact .nil
  | t :: ts, _, h => by
    rw [toDas] at h
    cases h with
    | cons h r => exact .cons (TrAt.of h) (TrsAt.of r)
end
section
variable {K : PySem.W.Frag} {env : Evn} {S : Vl → Prop}
/-! ### calls of defs that draw, whatever their promise says -/
def DrOk (K : PySem.W.Frag) (sp : Sp) (xs : List Vl) (S : Da → Prop) : Prop := ∀ (d l : Addr) (ws : List V) (H : Hp) (Q : VK) (E : XK), Dry H d l → VlsAt K (some (d, l)) H xs ws →
  (∀ x v H', S x → Dry H' d l → But d H H' → DaAt K H' x v → Q v H') → sp (.ref d :: ws) H Q E
theorem ev_dr {sp : Sp} {X : XK} {i : Nat} {t : TA} (hi : env[i]? = some (some .dr)) (h : Es K env t fun xs => DrOk K sp xs fun x => S (.da x)) : Ev K env (tCall sp [] X (tCons (tVar i) t)) S := fun H0 dl hs σ H Q E k => by
  obtain ⟨d, l, rfl, h1⟩ := dr_at E hi
  refine ⟨_, h1, h H0 _ hs σ H _ E fun xs vs H1 hx m q r => ?_⟩
  show sp ((V.ref d :: vs) ++ []) H1 Q X
  rw [List.append_nil]
  exact hx d l vs H1 _ _ (q _ _ rfl) r (fun x v H2 s dy b hv => k (.da x) v H2 s (m.trans (.ofBut b)) (fun d' l' e => by cases e; exact dy) hv)
theorem vls_nil {dl : Dl} {H : Hp} {vs : List V} (h : VlsAt K dl H [] vs) : vs = [] := by cases h; rfl
theorem vl_atm {dl : Dl} {H : Hp} {d : Da} {v a : V} (h : VlAt K dl H (.da d) v) (e : atm d = some a) : v = a := atm_at (show DaAt K H d v from h) e
/-- text[a:b] -/
theorem ev_slS {te : TE} {tl th : TO} (h : Ev K env te fun x => KTs x fun z => Eo K env tl fun lo => Eo K env th fun hi => z.length ≤ sizeLine ∧ S (.da (.str (cutS z lo hi)))) : Ev K env (tSl rSlS te tl th) S := fun H0 dl hs σ H Q E k =>
  h H0 dl hs σ H _ E fun x v H1 hx m q r => by
    obtain ⟨z, rfl, hx⟩ := hx
    have h1 := vl_atm r rfl
    subst h1
    refine hx H0 dl hs σ H1 _ (E.go m q) fun lo H2 hy m2 q2 => hy H0 dl hs σ H2 _ (E.go (m.trans m2) q2) fun hi H3 hz m3 q3 => ?_
    obtain ⟨n, s⟩ := hz
    exact ⟨z, rfl, n, k _ _ H3 s (m.trans (m2.trans m3)) q3 (.str _)⟩
/-- list + list: a new one -/
theorem el_cat {ta tb : TE} {R : List Da → Prop} (h : Ev K env ta fun x => KL x fun l => Ev K env tb fun y => KL y fun l2 => l.length + l2.length ≤ sizeLine ∧ R (l ++ l2)) : Eln K env (tOp rCat ta tb) R := fun H0 dl hs σ H Q E k =>
  h H0 dl hs σ H _ E fun x v H1 hx m q r => by
    obtain ⟨l, rfl, hx⟩ := hx
    refine hx H0 dl hs σ H1 _ (E.go m q) fun y u H2 hy m2 q2 r2 => ?_
    obtain ⟨l2, rfl, n, s⟩ := hy
    obtain ⟨a, vs, rfl, h1, h2, na⟩ := r
    obtain ⟨b, us, rfl, h3, h4, nb⟩ := r2
    have h5 : DasAt K H2 l vs := h2.keep (m2.tk q)
    refine ⟨a, b, vs, us, rfl, rfl, m2 _ _ na h1, h3, by rw [h5.len, h4.len]; exact n, fun p hp => ?_⟩
    have hn : H p = none := (m.trans m2).fresh q2 hp
    exact k _ _ _ _ s ((m.trans m2).trans (.same (same_upd hp))) (q2.same (same_upd hp)) hn upd_same ((das_app h5 h4).keep (.same (same_upd hp)))
/-- the draw's last number set -/
theorem sv_putD {O : Out → Prop} {i : Nat} {n : Int} (hi : env[i]? = some (some .dr)) (h : O (.nx env)) : Sv K env (tAsg (tC (.int n)) (gSub (tVar i) (tC (.int 4)) rSetL)) O := fun H0 dl hs σ H D E a b c d e => by
  obtain ⟨p, l, rfl, h1⟩ := dr_at E hi
  obtain ⟨x, y, z, w, ds, ne, g1, g2, g3⟩ := E.dlat _ _ rfl
  refine ⟨_, h1, p, _, 4, 4, rfl, rfl, g1, rfl, ?_⟩
  have m : Mv (some (p, l)) H (upd H p (.lst [.int x, .int y, .int z, .ref l, .int n])) := .ofBut .put
  have q : DlAt (some (p, l)) (upd H p (.lst [.int x, .int y, .int z, .ref l, .int n])) := fun d' l' e => by
    cases e
    exact ⟨x, y, z, n, ds, ne, upd_same, (upd_ne ne.symm).trans g2, g3⟩
  exact a _ _ _ h (m.tk E.dlat) (E.go m q)
end
end My
namespace My
open PySem L2
section
variable {K : PySem.W.Frag} {env : Evn} {S : Vl → Prop} {O : Out → Prop}
/-! ### while -/
def whO (m : Nat) (I : Nat → Evn → Prop) (O : Out → Prop) : Out → Prop
  | .nx e => ∃ j, j < m ∧ ∃ e2, Wk e e2 ∧ I j e2
  | .ct e => ∃ j, j < m ∧ ∃ e2, Wk e e2 ∧ I j e2
  | .bk e => O (.nx e)
  | .rt x => O (.rt x)
  | .rn l => O (.rn l)
theorem w_nx {m : Nat} {I : Nat → Evn → Prop} {e : Evn} (j : Nat) (h : j < m) (e2 : Evn) (w : Wk e e2) (i : I j e2) : whO m I O (.nx e) := ⟨j, h, e2, w, i⟩
theorem w_ct {m : Nat} {I : Nat → Evn → Prop} {e : Evn} (j : Nat) (h : j < m) (e2 : Evn) (w : Wk e e2) (i : I j e2) : whO m I O (.ct e) := ⟨j, h, e2, w, i⟩
theorem w_rt {m : Nat} {I : Nat → Evn → Prop} {x : Vl} (h : O (.rt x)) : whO m I O (.rt x) := h
theorem w_rn {m : Nat} {I : Nat → Evn → Prop} {l : List Da} (h : O (.rn l)) : whO m I O (.rn l) := h
/-- slots of which I speaks, with a number that falls -/
theorem sv_while {c : TT} {tb : TS} (I : Nat → Evn → Prop) (h0 : ∃ m e, Wk env e ∧ I m e) (hI : ∀ m e, I m e → Tv K e c fun b => KIf b (Sv K e tb (whO m I O)) (O (.nx e))) : Sv K env (tWhile c tb) O := fun H0 dl hs σ H D E a b c' d r => by
  obtain ⟨m, e0, w, i0⟩ := h0
  refine ⟨fun j σ' H' => ∃ e1, I j e1 ∧ Tk K H H' ∧ EnvAt K H0 dl hs H' σ' e1, ⟨m, e0, i0, .refl _ _, E.weak w.len w.le⟩, ?_⟩
  rintro j σ1 H1 ⟨e1, i1, tk, E1⟩
  refine hI j e1 i1 H0 dl hs σ1 H1 _ E1 fun x H2 hx mv q => ?_
  obtain ⟨hx⟩ := hx
  have tk2 := tk.trans (mv.tk E1.dlat)
  cases x
  · exact a e1 σ1 H2 hx tk2 (E1.go mv q)
  · refine ⟨fun σ' H' => ∃ j', j' < j ∧ ∃ e2, I j' e2 ∧ Tk K H H' ∧ EnvAt K H0 dl hs H' σ' e2, fun σ' H' ⟨j', l, e2, z⟩ => ⟨j', l, e2, z⟩, ?_⟩
    exact hx H0 dl hs σ1 H2 _ (E1.go mv q) (fun x σ' H' ⟨j', l, e2, w, i⟩ t2 E' => ⟨j', l, e2, i, tk2.trans t2, E'.weak w.len w.le⟩) (fun x σ' H' s t2 E' => a _ _ _ s (tk2.trans t2) E') (fun x σ' H' ⟨j', l, e2, w, i⟩ t2 E' => ⟨j', l, e2, i, tk2.trans t2, E'.weak w.len w.le⟩) d r
/-! ### a, b = .. -/
structure KD2 (x : Vl) (R : Da → Da → Prop) : Prop where
  h : ∃ a b, x = .da (.tup [a, b]) ∧ R a b
theorem k_d2 {a b : Da} {R : Da → Da → Prop} (h : R a b) : KD2 (.da (.tup [a, b])) R := ⟨a, b, rfl, h⟩
theorem sv_set2 {i j : Nat} {te : TE} (h : Ev K env te fun x => KD2 x fun a b => O (.nx ((env.set i (some (.vl a))).set j (some (.vl b))))) : Sv K env (tAsg te (gTup K 2 (gCons (gName i) (gCons (gName j) gNil)))) O := fun H0 dl hs σ H D E a b c d e =>
  h H0 dl hs σ H _ E fun x v H1 hx m q r => by
    obtain ⟨y, z, rfl, s⟩ := hx
    exact (gv_tup2 (P := fun e => O (.nx e)) s) H0 dl hs σ H1 _ v (E.go m q) r fun e1 σ' o E' _ => a _ _ H1 o (m.tk E.dlat) E'
/-! ### texts by their signs -/
theorem ev_lit {s : Str} {cs : List Nat} (e : s = tx cs) (h : S (.da (.str (tx cs)))) : Ev K env (tC (.str s)) S := ev_str (by rw [e]; exact h)
structure KX2 (x y : Vl) (R : List Nat → List Nat → Prop) : Prop where
  h : ∃ a b, x = .da (.str (tx a)) ∧ y = .da (.str (tx b)) ∧ a.length + b.length ≤ sizeLine ∧ R a b
theorem k_x2 {a b : List Nat} {R : List Nat → List Nat → Prop} (n : a.length + b.length ≤ sizeLine) (h : R a b) : KX2 (.da (.str (tx a))) (.da (.str (tx b))) R := ⟨a, b, rfl, rfl, n, h⟩
theorem ev_catX {ta tb : TE} (h : Ev K env ta fun x => Ev K env tb fun y => KX2 x y fun a b => S (.da (.str (tx (a ++ b))))) : Ev K env (tOp (fun x y H Q => ∃ i j, x = .str i ∧ y = .str j ∧ i.length + j.length ≤ sizeLine ∧ Q (.str (i ++ j)) H) ta tb) S :=
  ev_catS (h.imp fun x hx => hx.imp fun y ⟨a, b, e1, e2, n, s⟩ => by
    subst e1 e2
    exact k_s2 (by rw [tx_len, tx_len]; exact n) (by rw [tx_app]; exact s))
/-- a sign in a text -/
structure KSg (x y : Vl) (R : Nat → List Nat → Prop) : Prop where
  h : ∃ c cs, x = .da (.str (tx [c])) ∧ y = .da (.str (tx cs)) ∧ R c cs
theorem k_sg {c : Nat} {cs : List Nat} {R : Nat → List Nat → Prop} (h : R c cs) : KSg (.da (.str (tx [c]))) (.da (.str (tx cs))) R := ⟨c, cs, rfl, rfl, h⟩
theorem ev_inS {ta tb : TE} (h : Ev K env ta fun x => Ev K env tb fun y => KSg x y fun c cs => S (.da (.bl (decide (c ∈ cs))))) : Ev K env (tOp (fun x y H Q => ∃ (c : Nat) (z : Str), x = .str ⟨#[c]⟩ ∧ y = .str z ∧ Q (.bl (decide (c ∈ z.cps.toList))) H) ta tb) S := fun H0 dl hs σ H Q E k =>
  h H0 dl hs σ H _ E fun x v H1 hx m q r => hx H0 dl hs σ H1 _ (E.go m q) fun y u H2 hy m2 q2 r2 => by
    obtain ⟨c, cs, rfl, rfl, s⟩ := hy
    have h1 := vl_atm r rfl
    have h2 := vl_atm r2 rfl
    subst h1 h2
    exact ⟨c, tx cs, rfl, rfl, k _ _ H2 s (m.trans m2) q2 (.bl _)⟩
theorem ev_ninS {ta tb : TE} (h : Ev K env ta fun x => Ev K env tb fun y => KSg x y fun c cs => S (.da (.bl (!decide (c ∈ cs))))) : Ev K env (tOp (fun x y H Q => ∃ (c : Nat) (z : Str), x = .str ⟨#[c]⟩ ∧ y = .str z ∧ Q (.bl (!decide (c ∈ z.cps.toList))) H) ta tb) S := fun H0 dl hs σ H Q E k =>
  h H0 dl hs σ H _ E fun x v H1 hx m q r => hx H0 dl hs σ H1 _ (E.go m q) fun y u H2 hy m2 q2 r2 => by
    obtain ⟨c, cs, rfl, rfl, s⟩ := hy
    have h1 := vl_atm r rfl
    have h2 := vl_atm r2 rfl
    subst h1 h2
    exact ⟨c, tx cs, rfl, rfl, k _ _ H2 s (m.trans m2) q2 (.bl _)⟩
/-- a text as a test -/
structure KTt (x : Vl) (R : Bool → Prop) : Prop where
  h : ∃ cs : List Nat, x = .da (.str (tx cs)) ∧ cs.length ≤ sizeLine ∧ R (cs.length != 0)
theorem k_tt {cs : List Nat} {R : Bool → Prop} (n : cs.length ≤ sizeLine) (h : R (cs.length != 0)) : KTt (.da (.str (tx cs))) R := ⟨cs, rfl, n, h⟩
theorem tv_tru {ta : TE} {R : Bool → Prop} (h : Ev K env ta fun x => KTt x R) : Tv K env (fun σ H Q => ta σ H fun x H' => ∃ k, TruV K x H' k ∧ Q k H') R := fun H0 dl hs σ H Q E k =>
  h H0 dl hs σ H _ E fun x v H1 hx m q r => by
    obtain ⟨cs, rfl, n, s⟩ := hx
    have h1 := vl_atm r rfl
    subst h1
    refine ⟨cs.length != 0, ?_, k _ H1 s m q⟩
    exact ⟨by rw [tx_len]; exact n, by rw [tx_len, Bool.eq_iff_iff]; simp⟩
/-- "".join(texts) -/
structure KTL (x : Vl) (R : List (List Nat) → Prop) : Prop where
  h : ∃ ss : List (List Nat), x = .ls (ss.map fun s => .str (tx s)) ∧ (ss.map (·.length)).sum ≤ 16777216 ∧ R ss
theorem k_tl {ss : List (List Nat)} {R : List (List Nat) → Prop} (n : (ss.map (·.length)).sum ≤ 16777216) (h : R ss) : KTL (.ls (ss.map fun s => .str (tx s))) R := ⟨ss, rfl, n, h⟩
theorem das_txs {H : Hp} : ∀ {ss : List (List Nat)} {vs : List V}, DasAt K H (ss.map fun s => Da.str (tx s)) vs → vs = ss.map fun s => V.str (tx s)
  | [], _, .nil => rfl
  | b :: bs, _, .cons h r => by cases h; rw [das_txs r]; rfl
theorem flat_join (ss : List (List Nat)) : Txt.join (tx []) (ss.map tx) = tx ss.flatten := join_tx ss
theorem ev_join {tb : TE} (h : Ev K env tb fun y => KTL y fun ss => S (.da (.str (tx ss.flatten)))) : Ev K env (tM1 (rJoin K) (tC (.str (tx []))) tb) S := fun H0 dl hs σ H Q E k =>
  ⟨⟨_, rfl⟩, h H0 dl hs σ H _ E fun y u H2 hy m2 q2 r2 => by
    obtain ⟨ss, rfl, n, s⟩ := hy
    obtain ⟨p, vs, rfl, h1, h2, _⟩ := r2
    rw [das_txs h2] at h1
    refine ⟨tx [], rfl, p, rfl, ss.map tx, .inl ?_, ?_, ?_⟩
    · rw [List.map_map]; exact h1.sq
    · rw [List.map_map, show (tx []).length = 0 from rfl, Nat.mul_zero, Nat.add_zero]
      have e : ((fun x : Str => x.length) ∘ tx) = fun s : List Nat => s.length := funext fun s => tx_len s
      rw [e]; exact n
    · rw [flat_join]
      exact k _ _ H2 s m2 q2 (.str _)⟩
theorem ev_joinE {tb : TE} (h : Ev K env tb fun y => KTL y fun ss => S (.da (.str (tx ss.flatten)))) : Ev K env (tM1 (rJoin K) (tC (.str (Str.ofString ""))) tb) S := by
  rw [show Str.ofString "" = tx [] by decide +kernel]
  exact ev_join h
/-- get of a dict of the module -/
def ktS (kvs : List (Str × Str)) (k z : Str) : Str := match kvs.lookup k with | some x => x | none => z
theorem ev_kget {d : Addr} {kvs : List (Str × Str)} {ty tz : TE} (h : Ev K env ty fun x => KTs x fun k => Ev K env tz fun y => KTs y fun z => S (.da (.str (ktS kvs k z)))) : Ev K env (tKGet d kvs (tC (.ref d)) ty tz) S := fun H0 dl hs σ H Q E fin =>
  ⟨rfl, h H0 dl hs σ H _ E fun x v H1 hx m q r => by
    obtain ⟨k, rfl, hx⟩ := hx
    have h1 := vl_atm r rfl
    subst h1
    refine hx H0 dl hs σ H1 _ (E.go m q) fun y u H2 hy m2 q2 r2 => ?_
    obtain ⟨z, rfl, s⟩ := hy
    have h2 := vl_atm r2 rfl
    subst h2
    refine ⟨k, rfl, ?_⟩
    have e : ktAt kvs k (.str z) = .str (ktS kvs k z) := by
      unfold ktAt ktS
      cases kvs.lookup k <;> rfl
    rw [e]
    exact fin _ _ H2 s (m.trans m2) q2 (.str _)⟩
end
end My
namespace My
open PySem L2
/-! ### statements that may raise, and what is known at a return -/
inductive Oux where
  | nx (e : Evn)
  | bk (e : Evn)
  | ct (e : Evn)
  | rt (e : Evn) (x : Vl)
  | rn (e : Evn) (l : List Da)
/-- what is wished of errors of the class at C, with one field -/
def Wsh (K : PySem.W.Frag) (H0 : Hp) (dl : Dl) (C : Addr) (f : Str) (F : Da → Prop) (E : XK) : Prop := ∀ (d : Da) (v : V) (c : Addr) (H' : Hp), F d → Mv dl H0 H' → DlAt dl H' → DaAt K H' d v → H' c = some (.xd [(f, v)]) → E (.ref C) (some c) H'
def Sx (K : PySem.W.Frag) (C : Addr) (f : Str) (F : Da → Prop) (E : XK) (env : Evn) (t : TS) (O : Oux → Prop) : Prop := ∀ (H0 : Hp) (dl : Dl) (hs : Hs) (σ : St) (H : Hp) (D : Ends), EnvAt K H0 dl hs H σ env →
  (∀ e σ' H', O (.nx e) → Tk K H H' → EnvAt K H0 dl hs H' σ' e → D.nx σ' H') → (∀ e σ' H', O (.bk e) → Tk K H H' → EnvAt K H0 dl hs H' σ' e → D.bk σ' H') → (∀ e σ' H', O (.ct e) → Tk K H H' → EnvAt K H0 dl hs H' σ' e → D.ct σ' H') →
  (∀ e σ' x v H', O (.rt e x) → EnvAt K H0 dl hs H' σ' e → VlAt K dl H' x v → D.rt v H') →
  (∀ e σ' l a vs H', O (.rn e l) → EnvAt K H0 dl hs H' σ' e → H0 a = none → (∀ (i : Nat) (b : Addr) (l' : List Da), e[i]? = some (some (.own b l')) → a ≠ b) → H' a = some (.lst vs) → DasAt K H' l vs → D.rt (.ref a) H') →
  Wsh K H0 dl C f F E → t D σ H
def liO (O : Oux → Prop) : Out → Prop
  | .nx e => O (.nx e)
  | .bk e => O (.bk e)
  | .ct e => O (.ct e)
  | .rt _ => False
  | .rn _ => False
theorem li_nx {O : Oux → Prop} {e : Evn} (h : O (.nx e)) : liO O (.nx e) := h
theorem li_bk {O : Oux → Prop} {e : Evn} (h : O (.bk e)) : liO O (.bk e) := h
theorem li_ct {O : Oux → Prop} {e : Evn} (h : O (.ct e)) : liO O (.ct e) := h
section
variable {K : PySem.W.Frag} {C : Addr} {f : Str} {F : Da → Prop} {E : XK} {env : Evn} {O : Oux → Prop}
/-- a statement that neither raises nor returns -/
theorem sx_of {t : TS} (h : Sv K env t (liO O)) : Sx K C f F E env t O := fun H0 dl hs σ H D E' a b c d r w =>
  h H0 dl hs σ H D E' (fun e s H' o => a e s H' o) (fun e s H' o => b e s H' o) (fun e s H' o => c e s H' o) (fun _ _ _ o => o.elim) (fun _ _ _ _ o => o.elim)
theorem sx_ofA {te : TE} {g : TG} (h : Sv K env (tAsg te g) (liO O)) : Sx K C f F E env (tAsg te g) O := sx_of h
theorem sx_ofD {te : TE} (h : Sv K env (tDrop te) (liO O)) : Sx K C f F E env (tDrop te) O := sx_of h
theorem sx_ofN (h : Sv K env tNext (liO O)) : Sx K C f F E env tNext O := sx_of h
def sqX (K : PySem.W.Frag) (C : Addr) (f : Str) (F : Da → Prop) (E : XK) (u : TS) (O : Oux → Prop) : Oux → Prop
  | .nx e => Sx K C f F E e u O
  | .bk e => O (.bk e)
  | .ct e => O (.ct e)
  | .rt e x => O (.rt e x)
  | .rn e l => O (.rn e l)
theorem q_nx {u : TS} {e : Evn} (h : Sx K C f F E e u O) : sqX K C f F E u O (.nx e) := h
theorem q_bk {u : TS} {e : Evn} (h : O (.bk e)) : sqX K C f F E u O (.bk e) := h
theorem q_ct {u : TS} {e : Evn} (h : O (.ct e)) : sqX K C f F E u O (.ct e) := h
theorem q_rt {u : TS} {e : Evn} {x : Vl} (h : O (.rt e x)) : sqX K C f F E u O (.rt e x) := h
theorem q_rn {u : TS} {e : Evn} {l : List Da} (h : O (.rn e l)) : sqX K C f F E u O (.rn e l) := h
theorem sx_seq {t u : TS} (h : Sx K C f F E env t (sqX K C f F E u O)) : Sx K C f F E env (tSeq t u) O := fun H0 dl hs σ H D E' a b c d r w =>
  h H0 dl hs σ H _ E' (fun e1 σ' H' (s : Sx K C f F E e1 u O) tk E1 => s H0 dl hs σ' H' D E1 (fun x y z s t2 => a x y z s (tk.trans t2)) (fun x y z s t2 => b x y z s (tk.trans t2)) (fun x y z s t2 => c x y z s (tk.trans t2)) d r w) (fun x y z s => b x y z s) (fun x y z s => c x y z s) (fun e s x v H' o => d e s x v H' o) (fun e s l a v H' o => r e s l a v H' o) w
theorem sx_cut {t u : TS} (h : Sx K C f F E env t (sqX K C f F E u O)) : Sx K C f F E env (tCut t u) O := fun H0 dl hs σ H D E' a b c d r w => by
  refine ⟨fun σ' H' => ∃ e1, Sx K C f F E e1 u O ∧ Tk K H H' ∧ EnvAt K H0 dl hs H' σ' e1, ?_, fun σ' H' ⟨e1, s, tk, E1⟩ => s H0 dl hs σ' H' D E1 (fun x y z s t2 => a x y z s (tk.trans t2)) (fun x y z s t2 => b x y z s (tk.trans t2)) (fun x y z s t2 => c x y z s (tk.trans t2)) d r w⟩
  exact h H0 dl hs σ H _ E' (fun e1 σ' H' (s : Sx K C f F E e1 u O) tk E1 => ⟨e1, s, tk, E1⟩) (fun x y z s => b x y z s) (fun x y z s => c x y z s) (fun e s x v H' o => d e s x v H' o) (fun e s l a v H' o => r e s l a v H' o) w
theorem sx_if {t : TT} {u u' : TS} (h : Tv K env t fun x => KIf x (Sx K C f F E env u O) (Sx K C f F E env u' O)) : Sx K C f F E env (tIfS t u u') O := fun H0 dl hs σ H D E' a b c d r w =>
  h H0 dl hs σ H _ E' fun x H1 hx m q => by
    obtain ⟨hx⟩ := hx
    cases x
    · exact hx H0 dl hs σ H1 D (E'.go m q) (fun x y z s t2 => a x y z s ((m.tk E'.dlat).trans t2)) (fun x y z s t2 => b x y z s ((m.tk E'.dlat).trans t2)) (fun x y z s t2 => c x y z s ((m.tk E'.dlat).trans t2)) d r w
    · exact hx H0 dl hs σ H1 D (E'.go m q) (fun x y z s t2 => a x y z s ((m.tk E'.dlat).trans t2)) (fun x y z s t2 => b x y z s ((m.tk E'.dlat).trans t2)) (fun x y z s t2 => c x y z s ((m.tk E'.dlat).trans t2)) d r w
theorem sx_ret {te : TE} (h : Ev K env te fun x => O (.rt env x)) : Sx K C f F E env (tRet te) O := fun H0 dl hs σ H D E' a b c d r w =>
  h H0 dl hs σ H _ E' fun x v H1 hx m q hv => d env σ x v H1 hx (E'.go m q) hv
theorem sx_retN {te : TE} (h : Eln K env te fun l => O (.rn env l)) : Sx K C f F E env (tRet te) O := fun H0 dl hs σ H D E' a b c d r w =>
  h H0 dl hs σ H _ E' fun l p vs H1 hx m q n hp hv => r env σ l p vs H1 hx (E'.go m q) (E'.mv.fresh E'.dlat n) (fun i b l' hi z => by
    obtain ⟨v, e1, _, ws, h1, _⟩ := E'.slot i _ hi
    rw [z, h1] at n
    cases n) hp hv
theorem sx_retNone (h : O (.rt env (.da .non))) : Sx K C f F E env tRetN O := fun H0 dl hs σ H D E' a b c d r w => d env σ _ _ H h E' .non
def whX (m : Nat) (I : Nat → Evn → Prop) (O : Oux → Prop) : Oux → Prop
  | .nx e => ∃ j, j < m ∧ ∃ e2, Wk e e2 ∧ I j e2
  | .ct e => ∃ j, j < m ∧ ∃ e2, Wk e e2 ∧ I j e2
  | .bk e => O (.nx e)
  | .rt e x => O (.rt e x)
  | .rn e l => O (.rn e l)
theorem wx_nx {m : Nat} {I : Nat → Evn → Prop} {e : Evn} (j : Nat) (h : j < m) (e2 : Evn) (w : Wk e e2) (i : I j e2) : whX m I O (.nx e) := ⟨j, h, e2, w, i⟩
theorem wx_rt {m : Nat} {I : Nat → Evn → Prop} {e : Evn} {x : Vl} (h : O (.rt e x)) : whX m I O (.rt e x) := h
theorem sx_while {c : TT} {tb : TS} (I : Nat → Evn → Prop) (h0 : ∃ m e, Wk env e ∧ I m e) (hI : ∀ m e, I m e → Tv K e c fun b => KIf b (Sx K C f F E e tb (whX m I O)) (O (.nx e))) : Sx K C f F E env (tWhile c tb) O := fun H0 dl hs σ H D E' a b c' d r w' => by
  obtain ⟨m, e0, w, i0⟩ := h0
  refine ⟨fun j σ' H' => ∃ e1, I j e1 ∧ Tk K H H' ∧ EnvAt K H0 dl hs H' σ' e1, ⟨m, e0, i0, .refl _ _, E'.weak w.len w.le⟩, ?_⟩
  rintro j σ1 H1 ⟨e1, i1, tk, E1⟩
  refine hI j e1 i1 H0 dl hs σ1 H1 _ E1 fun x H2 hx mv q => ?_
  obtain ⟨hx⟩ := hx
  have tk2 := tk.trans (mv.tk E1.dlat)
  cases x
  · exact a e1 σ1 H2 hx tk2 (E1.go mv q)
  · refine ⟨fun σ' H' => ∃ j', j' < j ∧ ∃ e2, I j' e2 ∧ Tk K H H' ∧ EnvAt K H0 dl hs H' σ' e2, fun σ' H' ⟨j', l, e2, z⟩ => ⟨j', l, e2, z⟩, ?_⟩
    exact hx H0 dl hs σ1 H2 _ (E1.go mv q) (fun x σ' H' ⟨j', l, e2, w, i⟩ t2 E2 => ⟨j', l, e2, i, tk2.trans t2, E2.weak w.len w.le⟩) (fun x σ' H' s t2 E2 => a _ _ _ s (tk2.trans t2) E2) (fun x σ' H' ⟨j', l, e2, w, i⟩ t2 E2 => ⟨j', l, e2, i, tk2.trans t2, E2.weak w.len w.le⟩) (fun e s x v H' o => d e s x v H' o) (fun e s l a v H' o => r e s l a v H' o) w'
/-! ### calls of defs that may raise -/
def sp_px (K : PySem.W.Frag) (C : Addr) (f : Str) (pre : List Vl → (Vl → Prop) → (Da → Prop) → Prop) : Sp := fun vs H Q E => ∃ xs R F, VlsAt K none H xs vs ∧ pre xs R F ∧ (∀ x v H', R x → Same H H' → VlAt K none H' x v → Q v H') ∧
  ∀ (d : Da) (v : V) (c : Addr) (H' : Hp), F d → Same H H' → DaAt K H' d v → H' c = some (.xd [(f, v)]) → E (.ref C) (some c) H'
theorem ev_px {pre : List Vl → (Vl → Prop) → (Da → Prop) → Prop} {t : TA} {S : Vl → Prop} (h : Es K env t fun xs => pre xs (fun x => isDa x ∧ S x) F) {H0 : Hp} {dl : Dl} {hs : Hs} {σ : St} {H : Hp} {Q : VK} (E' : EnvAt K H0 dl hs H σ env) (w : Wsh K H0 dl C f F E)
    (k : ∀ x v H', S x → Mv dl H H' → DlAt dl H' → VlAt K dl H' x v → Q v H') : tCallS (sp_px K C f pre) (WE fun cls d _ H => E cls d H) t σ H Q :=
  h H0 dl hs σ H _ E' fun xs vs H1 hx m q r => ⟨xs, _, _, r.bare, hx, fun x v H2 ⟨hd, s2⟩ s hv => by
    cases x with
    | da d => exact k _ v H2 s2 (m.trans (.same s)) (q.same s) hv
    | ls l => exact hd.elim, fun d v c H2 hf s hv hc => w d v c H2 hf (E'.mv.trans (m.trans (.same s))) (q.same s) hv hc⟩
theorem sx_setX {pre : List Vl → (Vl → Prop) → (Da → Prop) → Prop} {t : TA} {i : Nat} (h : Es K env t fun xs => pre xs (fun x => isDa x ∧ KD x fun d => O (.nx (env.set i (some (.vl d))))) F) :
    Sx K C f F E env (tAsg (tCallS (sp_px K C f pre) (WE fun cls d _ H => E cls d H) t) (gName i)) O := fun H0 dl hs σ H D E' a b c d r w =>
  ev_px h E' w fun x v H1 hx m q hv => by
    obtain ⟨y, rfl, s⟩ := hx
    exact a _ _ H1 s (m.tk E'.dlat) ((E'.go m q).set hv)
theorem sx_set2X {pre : List Vl → (Vl → Prop) → (Da → Prop) → Prop} {t : TA} {i j : Nat} (h : Es K env t fun xs => pre xs (fun x => isDa x ∧ KD2 x fun y z => O (.nx ((env.set i (some (.vl y))).set j (some (.vl z))))) F) :
    Sx K C f F E env (tAsg (tCallS (sp_px K C f pre) (WE fun cls d _ H => E cls d H) t) (gTup K 2 (gCons (gName i) (gCons (gName j) gNil)))) O := fun H0 dl hs σ H D E' a b c d r w =>
  ev_px h E' w fun x v H1 hx m q hv => by
    obtain ⟨y, z, rfl, s⟩ := hx
    exact (gv_tup2 (P := fun e => O (.nx e)) s) H0 dl hs σ H1 _ v (E'.go m q) hv fun e1 σ' o E1 _ => a _ _ H1 o (m.tk E'.dlat) E1
theorem sx_dropX {pre : List Vl → (Vl → Prop) → (Da → Prop) → Prop} {t : TA} (h : Es K env t fun xs => pre xs (fun x => isDa x ∧ O (.nx env)) F) :
    Sx K C f F E env (tDrop (tCallS (sp_px K C f pre) (WE fun cls d _ H => E cls d H) t)) O := fun H0 dl hs σ H D E' a b c d r w =>
  ev_px h E' w fun x v H1 hx m q hv => a _ _ H1 hx (m.tk E'.dlat) (E'.go m q)
/-- the promise of an __init__ that keeps its one argument -/
def sp_init (C : Addr) (f : Str) : Sp := fun vs H Q _ => ∃ (a : Addr) (v : V), vs = [.ref a, v] ∧ H a = some (exo a C none) ∧ ∀ dx, H dx = none → dx ≠ a → Q .non (upd (upd H dx (exd dx [(f, v)])) a (exo a C (some dx)))
theorem sx_raise {t : TA} (h : Es K env t fun xs => ∃ d, xs = [.da d] ∧ F d) : Sx K C f F E env (fun _ σ H => tMkO C (sp_init C f) [] t σ H fun cls d H' => E cls d H') O := fun H0 dl hs σ H D E' a b c d r w =>
  h H0 dl hs σ H _ E' fun xs vs H1 hx m q hv => by
    obtain ⟨y, rfl, hF⟩ := hx
    obtain ⟨v, rfl, hv2⟩ := vls_one hv
    refine ⟨by simp, fun a' na => ⟨a', v, rfl, upd_same, fun dx nd hd => ⟨rfl, dx, [(f, v)], upd_same, ?_, ?_, ?_⟩⟩⟩
    · rw [upd_ne hd]; exact upd_same
    · rw [upd_ne hd] at nd; exact nd
    · have nd1 : H1 dx = none := by rw [upd_ne hd] at nd; exact nd
      have sm : Same H1 (upd (del (upd (upd (upd H1 a' (exo a' C none)) dx (exd dx [(f, v)])) a' (exo a' C (some dx))) a') dx (.xd [(f, v)])) := fun b o e => by
        have n1 : b ≠ a' := ne_of_none e na
        have n2 : b ≠ dx := ne_of_none e nd1
        rw [upd_ne n2, del_ne n1, upd_ne n1, upd_ne n2, upd_ne n1]
        exact e
      exact w y v dx _ hF (E'.mv.trans (m.trans (.same sm))) (q.same sm) (DaAt.keep (.same sm) hv2) upd_same
def retX (R : Vl → Prop) : Oux → Prop
  | .rt _ x => R x
  | .nx _ => R (.da .non)
  | _ => False
theorem fin_px {pre : List Vl → (Vl → Prop) → (Da → Prop) → Prop} {N : List Str} {t : TS} {vs : List V} {H : Hp} {Q : VK} (h : ∀ xs R F, pre xs R F → ∀ e, Ent xs e → Sx K C f F E (e ++ List.replicate (N.length - xs.length) none) t (retX R)) (hs : sp_px K C f pre vs H Q E) :
    t { nx := fun _ H' => Q .non H', rt := Q } (L2.start N vs) H := by
  obtain ⟨xs, R, F, hx, hp, q, w⟩ := hs
  obtain ⟨e, hs, he, E'⟩ := start_at (N := N) hx
  exact h xs R F hp e he H none hs _ H _ E' (fun e σ' H' o _ E' => q _ _ H' o E'.mv.toSame .non) (fun _ _ _ o => o.elim) (fun _ _ _ o => o.elim) (fun e σ' x v H' o E2 hv => q x v H' o E2.mv.toSame hv) (fun _ _ _ _ _ _ o => o.elim) (fun d v c H' hf m _ hv hc => w d v c H' hf m.toSame hv hc)
theorem rx_rt {R : Vl → Prop} {e : Evn} {x : Vl} (h : R x) : retX R (.rt e x) := h
end
/-! ### isinstance of an error in hand -/
structure XiC (K : PySem.W.Frag) (D : Addr) : Prop where
  hc : PySem.W.isClsIn K D = true
  hg : PySem.W.findIn K (.ref D) "__getattribute__" = some (some (.builtin "BaseException.__getattribute__"))
  hk : PySem.W.findIn K (.ref D) "__getattr__" = some none
  hs : PySem.W.subIn K (.ref D) (.type "BaseException") = some true
  ha : PySem.W.findIn K (.ref D) "__class__" = some (some (.builtin "object.__class__"))
  hn : PySem.W.specialIn K (.builtin "object.__class__") "__get__" = some (some (.builtin "getset_descriptor.__get__"))
  ht : PySem.W.takesIn K (.builtin "object.__class__") = some true
  hm : PySem.W.mroIn K D (.type "object") = some true
def rIsX (K : PySem.W.Frag) (D a : Addr) (cls : Value) (d : Option Addr) : List V → Hp → VK → Prop := fun xs H Q => ∃ (c : V) (b : Bool) (dd : Addr) (fs : List (Str × V)), xs = [.ref a, c] ∧ cls = .ref D ∧ d = some dd ∧ H dd = some (.xd fs) ∧
  ((∃ cv, ClsV c cv ∧ PySem.W.kitOne K (.ref D) cv = some b) ∨ ∃ (tp : Addr) (cs : List V) (us : List Value), c = .ref tp ∧ H tp = some (.tup cs) ∧ Paired ClsV cs us ∧ PySem.W.kitAny K (.ref D) us = some b) ∧ Q (.bl b) H
open PyProof.Rows PySem.Spec in
theorem call_isX {X : Cx} {a D : Addr} {oe : Obj} {cls : Value} {d : Option Addr} {pn : List (Addr × Obj)} (C : XiC X.K D) (hz : Zc cls d oe) (hf : ∃ vs, oe.data = .fields vs) : CallR (X.suite a ((a, oe) :: pn)) (.builtin "isinstance") (rIsX X.K D a cls d) := by
  intro pins s σ H xs us Q I r h
  obtain ⟨c, b, dd, fs, rfl, rfl, rfl, hd, hk, q⟩ := h
  obtain ⟨u1, u2, rfl, r1, r2⟩ := vals2 r
  obtain rfl : u1 = Value.ref a := r1
  obtain ⟨hget, _⟩ := I.pin (a, oe) (List.mem_append_left _ List.mem_cons_self)
  obtain ⟨vs, hv⟩ := hf
  obtain ⟨mA, hns, _⟩ := (show ObjOk X.prog X.w H s.heap dd (.xd fs) from I.hok dd _ hd)
  obtain ⟨od, ho, _⟩ := lookIn_ns hns
  have J : PySem.W.InstAt s.heap a oe D (some od) := ⟨hget, hz.1, by unfold PySem.W.notCls; rw [hv] <;> rfl, by rw [hz.2]; exact ho⟩
  have Z := PySem.W.kitx_exc (x := a) (ox := oe) (od := some od) C.hc C.hg C.hk C.hs C.ha C.hn C.ht C.hm
  rcases hk with ⟨cv, hcv, e⟩ | ⟨tp, cs, ws, rfl, hT, k, e⟩
  · have e2 := hcv.eq r2
    subst e2
    exact PySem.W.kia_one Z I.kIn J e (fun z => nomatch z) fun tk => ⟨.bl b, H, I.tok tk, rfl, q⟩
  · obtain rfl : u2 = Value.ref tp := r2
    obtain ⟨_, its, rv, o, h1, h2, n, h3⟩ := (show ObjOk X.prog X.w H s.heap tp (.tup cs) from I.hok tp _ hT)
    have e3 := ClsV.all k rv
    subst e3
    obtain ⟨oc, od, dt, sl⟩ := o
    simp only at h2 h3
    subst h2 h3
    exact PySem.W.kia_tup Z I.kIn J h1 e (fun z => nomatch z) fun tk => ⟨.bl b, H, I.tok tk, rfl, q⟩
/-! ### text.find(sign, index) -/
def fndFrom (a b : Str) (i : Int) : Int := match PySem.Builtin.Str.occurrences a b (PySem.fromIndex a.length i) a.length 1 with | k :: _ => (k : Int) | [] => -1
def rFind2 : V → List V → Hp → VK → Prop := fun x xs H Q => ∃ a b i, x = .str a ∧ xs = [.str b, .int i] ∧ Q (.int (fndFrom a b i)) H
theorem mt_find2 {X : Cx} : MtR X "str.find" rFind2 := by
  intro pins s σ H x xs v us Q I rx rs h
  obtain ⟨a, b, i, rfl, rfl, q⟩ := h
  obtain ⟨t, rfl⟩ := rx
  cases rs with
  | cons r1 rs =>
    cases rs with
    | cons r2 rs =>
      cases rs
      obtain ⟨u, rfl⟩ := r1
      obtain ⟨z, rfl⟩ := r2
      exact PySem.call_gives PySem.F.slot_str_find (PySem.typeIs_str _ _ _) PySem.F.entry_str_find (PySem.F.args_str_find_3 _ _ _) (PySem.gives_str_find_from a b i t u z) ⟨.int (fndFrom a b i), H, I.tok _, ⟨_, rfl⟩, q⟩
/-! ### the second layer of errors: their context is known -/
theorem takes0N {X : Cx} : L2N.Takes X (fun _ _ _ _ => False) := fun _ _ x => by
  obtain ⟨_, _, _, _, _, _, _, _, _, _, _, _, _, _, _, _, z⟩ := x
  exact z.elim
theorem okN {P : Program} {w : World} {K : PySem.W.Frag} {mg : Str → Option Value} {base : Heap} {x q : Str} {st : Stmt} {f : Addr} {fd : FuncData} {N ps : List Str} {k : Nat} {sp : Sp} (F : Fun K x q st f fd) (S : FnScope N ps (defScope st)) (hl : ∀ vs H Q E, sp vs H Q E → vs.length = ps.length)
    (hB : ∀ (c : Value) (A : Around) (out : List Env) (s : Shared) (H : Hp) (vs : List V) (Q : VK) (E : XK), Room k (A.deeper (PyProof.Rows.envOfC q (defScope st) s.heap.objs.size f c)) → sp vs H Q E → ∃ t, PSs (cxOf (L2N.CX P w) P w K mg base N q (defScope st) f c A out s H E) (defBody st) t ∧ t { nx := fun _ H' => Q .non H', rt := Q } (L2.start N vs) H) :
    FnOk P w K mg base (L2N.CX P w) (k + 1) f fd ps sp := by
  obtain ⟨_, _, _, _, _, _, c, _, _, e, lk, hc⟩ := F.ex
  subst e
  exact fn_of lk hc S hl fun A out s H vs Q E r h => hB c A out s H vs Q E r h
theorem okH {P : Program} {w : World} {K : PySem.W.Frag} {mg : Str → Option Value} {base : Heap} {x q : Str} {st : Stmt} {f : Addr} {fd : FuncData} {N ps : List Str} {k : Nat} {sp : Sp} (F : Fun K x q st f fd) (S : FnScope N ps (defScope st)) (hl : ∀ vs H Q E, sp vs H Q E → vs.length = ps.length)
    (hB : ∀ (c : Value) (A : Around) (out : List Env) (s : Shared) (H : Hp) (vs : List V) (Q : VK) (E : XK) (p : Addr × Obj), L2H.Hot1 A p → sp vs H Q E → ∃ t, PSs (L2H.cxH CX0 P w K mg base N q (defScope st) f c A out s H E p) (defBody st) t ∧ t { nx := fun _ H' => Q .non H', rt := Q } (L2.start N vs) H) :
    L2H.FnH P w K mg base CX0 (k + 1) f fd ps sp := by
  obtain ⟨_, _, _, _, _, _, c, _, _, e, lk, hc⟩ := F.ex
  subst e
  exact L2H.fn_ofH lk hc S hl fun A out s H vs Q E p hot _ h => hB c A out s H vs Q E p hot h
theorem passH {X : Cx} {σ : L2.St} {E : XK} : PassesAt CX0 X σ E := fun _ _ _ _ _ _ h => h.elim
theorem hot_of {X : Cx} {a : Addr} {oe : Obj} {cls : Value} {d : Option Addr} {pn : List (Addr × Obj)} (hz : L2N.Zn cls d oe) (hf : ∃ vs, oe.data = .fields vs) : L2H.HotC (X.suite a ((a, oe) :: pn)) := by
  obtain ⟨vs, hd⟩ := hf
  exact ⟨(a, oe), ⟨rfl, vs, hd, hz.2.2 vs hd⟩, List.mem_cons_self⟩
open PyProof.Rows PySem.Spec in
/-- C(v), its own __init__ a def -/
theorem pmkN {X : Cx} {CX : CXT} {x : Str} {e : Expr} {ta : TA} {p pos : Pos} {C fI : Addr} {k : Nat} {fd : FuncData} {ps : List Str} {sp : Sp} (T : OexC X.K C) (iC : PySem.W.findIn X.K (.ref C) "__init__" = some (some (.ref fI))) (tI : PySem.W.typeIn X.K (.ref fI) = some (.type "function"))
    (F : FnOk X.prog X.w X.K X.mg X.base CX k fI fd ps sp) (hr : Room (k + 1) X.A) (hb : Binds X.K fd ps []) (hx : Passes CX X (fun _ _ _ => False)) (hg : Gl X x) (hm : X.mg x = some (.ref C)) (ha : PA X [e] ta)
    (hdb : (x == ("__debug__" : Str)) = false := by decide) (he : starEach [e] X.env = (false, eval e X.env) :: starEach [] X.env := by rfl) (hpl : (backTo pos (starEach [] X.env)).any (·.1) = false := by rfl) :
    L2N.PMk X (.Call (.Name x p) [e] [] pos) (tMkO C sp [] ta) := by
  intro pins s σ H Q I h
  obtain ⟨_, _, _, _, bmro, _, _, _, _, _, _, _, _, _, _, lC, hbm⟩ := T.cls
  refine wpAny_Call_Name_kw (ld_glob I hg hm ?_ hdb)
  refine PySem.W.callWith_K (h₀ := X.base) I.ok.mod.kin T.kC (thn (ha.run pos pins s σ H _ I h) fun us s1 hh => ?_) he hpl
  obtain ⟨vs, H1, J, rv, hz, q1⟩ := hh
  refine ⟨J.kIn, ?_⟩
  show wpAny _ _ (call (.ref C) us) _ _ _
  obtain ⟨h0, gs, dw, tok, oss⟩ := s1
  have le : h0.objs.size ≤ h0.objs.size + 1 := Nat.le_succ _
  have nw : H1 (h0.objs.size + 1) = none := J.hok.fresh le
  have hq := q1 (h0.objs.size + 1) nw
  have st : ∀ b o, h0.get? b = some o → ((h0.push (PySem.W.kdv_tup us)).push (PySem.HandSPX.excO C h0.objs.size)).get? b = some o := fun b o z => Heap.get?_push_of_some _ (Heap.get?_push_of_some _ z)
  have at1 : ((h0.push (PySem.W.kdv_tup us)).push (PySem.HandSPX.excO C h0.objs.size)).get? (h0.objs.size + 1) = some (PySem.HandSPX.excO C h0.objs.size) := by heap_get
  have J2 : Inv X pins σ (upd H1 (h0.objs.size + 1) (exo (h0.objs.size + 1) C none)) ⟨(h0.push (PySem.W.kdv_tup us)).push (PySem.HandSPX.excO C h0.objs.size), gs, dw, tok, oss⟩ :=
    J.laid (t' := tok) (a := h0.objs.size + 1) (o := exo (h0.objs.size + 1) C none) (h' := (h0.push (PySem.W.kdv_tup us)).push (PySem.HandSPX.excO C h0.objs.size)) st le (exo_ok at1)
  rw [List.append_nil] at hq
  have rv2 : Vals (V.ref (h0.objs.size + 1) :: vs) (Value.ref (h0.objs.size + 1) :: us) := .cons rfl rv
  have ln : (Value.ref (h0.objs.size + 1) :: us ++ []).length = ps.length := by
    have z := rv2.length
    rw [F.len _ _ _ _ hq] at z
    rw [List.append_nil]
    exact z.symm
  have lu : us.length ≤ sizeLine := by
    rw [← Paired.length rv, sizeLine_eq]
    omega
  have bd := hb _ (Value.ref (h0.objs.size + 1) :: us) J2.kIn ln
  rw [List.append_nil] at bd
  have run1 := F.run _ X.stack _ _ ⟨Value.ref (h0.objs.size + 1) :: us, []⟩ (Value.ref (h0.objs.size + 1) :: us) _ _ (fun _ _ _ => False) (hr.make C us []) (J2.env0.make C us []) bd rv2 hq
  refine wpAny_call (PySem.HandSPX.call_own PySem.F.excBase_ValueError (fun Y => PySem.HandSPX.refsVE_contains Y bmro hbm) (J.kIn _ _ lC) (PySem.W.looks_findIn J.kIn iC) (fun self => PySem.W.bind_fn J.kIn self tI) lu (codeAny_mono run1 fun r s' hq' => ?_))
  cases r with
  | error er => exact hx pins σ _ _ er s' J2 hq'
  | ok fl =>
    cases fl with
    | next => exact hq'.elim
    | brk => exact hq'.elim
    | cont => exact hq'.elim
    | ret u =>
      obtain ⟨v, H2, os2, br, un, hk, rv3, ev, d, fs, ea, ed, hd1, q2⟩ := hq'
      subst ev
      obtain ⟨h2, g2, d2, t2, os'⟩ := s'
      obtain ⟨t0, G, L, kG, ge, hoe, na⟩ := mk_end0 (d2 := d2) (t2 := t2) J le st un hk os2 br ea ed hd1
      exact ⟨rv3, h0.objs.size + 1, _, _, ⟨G, g2, d2, t2, os'⟩, _, .ref C, some d, rfl, L, kG, ge, hoe, ⟨rfl, rfl, fun vs hv => by cases hv; rfl⟩, rfl, rfl, na, rfl, br, raises_own T.exC T.tyC, q2⟩
end My
namespace My
open PySem L2
/-! ### numbers as texts -/
def rStrIN : List V → Hp → VK → Prop := fun xs H Q => (∃ i : Int, xs = [.int i] ∧ i.natAbs.log2 < 1920 ∧ Q (.str (toString i)) H) ∨ (xs = [.non] ∧ Q (.str "None") H)
theorem call_strIN {X : Cx} : CallR X (.type "str") rStrIN := by
  intro pins s σ H xs us Q I r h
  rcases h with ⟨i, rfl, hz, q⟩ | ⟨rfl, q⟩
  · exact call_str_int pins s σ H _ us Q I r ⟨i, rfl, hz, q⟩
  · obtain ⟨u, rfl, e⟩ := vals1 r
    cases e
    exact PySem.P.str_of_none ⟨.str _, H, I.tok _, ⟨_, rfl⟩, q⟩
def dec (i : Int) : List Nat := (Str.ofString (toString i)).cps.toList
theorem dec_tx (i : Int) : (Str.ofString (toString i)) = tx (dec i) := (tx_of _).symm
section
variable {K : PySem.W.Frag} {env : Evn} {S : Vl → Prop}
/-- an int or None as text -/
structure KSt (xs : List Vl) (R : List Nat → Prop) : Prop where
  h : (∃ i : Int, xs = [.da (.int i)] ∧ i.natAbs.log2 < 1920 ∧ R (dec i)) ∨ (xs = [.da .non] ∧ R [78, 111, 110, 101])
theorem k_stI {i : Int} {R : List Nat → Prop} (n : i.natAbs.log2 < 1920) (h : R (dec i)) : KSt [.da (.int i)] R := ⟨.inl ⟨i, rfl, n, h⟩⟩
theorem k_stN {R : List Nat → Prop} (h : R [78, 111, 110, 101]) : KSt [.da .non] R := ⟨.inr ⟨rfl, h⟩⟩
theorem ev_strIN {t : TA} (h : Es K env t fun xs => KSt xs fun cs => S (.da (.str (tx cs)))) : Ev K env (tCB rStrIN t) S := fun H0 dl hs σ H Q E k =>
  h H0 dl hs σ H _ E fun xs vs H1 hx m q r => by
    rcases hx.h with ⟨i, rfl, n, s⟩ | ⟨rfl, s⟩
    · obtain ⟨v, rfl, r1⟩ := vls_one r
      have e1 := vl_atm r1 rfl
      subst e1
      exact .inl ⟨i, rfl, n, by
        have := k _ (.str (tx (dec i))) H1 s m q (.str _)
        rw [← dec_tx] at this
        exact this⟩
    · obtain ⟨v, rfl, r1⟩ := vls_one r
      have e1 := vl_atm r1 rfl
      subst e1
      exact .inr ⟨rfl, by
        have := k _ (.str (tx [78, 111, 110, 101])) H1 s m q (.str _)
        rw [show tx [78, 111, 110, 101] = (Str.ofString "None") by decide +kernel] at this
        exact this⟩
theorem ev_fmt {te : TE} (h : Ev K env te fun x => KI1 x fun i => i.natAbs.log2 < 1920 ∧ S (.da (.str (tx (dec i))))) : Ev K env (tFmt te) S := fun H0 dl hs σ H Q E k =>
  h H0 dl hs σ H _ E fun x v H1 hx m q r => by
    obtain ⟨i, rfl, n, s⟩ := hx
    have e1 := vl_atm r rfl
    subst e1
    exact .inr ⟨i, rfl, n, by
      have := k _ (.str (tx (dec i))) H1 s m q (.str _)
      rw [← dec_tx] at this
      exact this⟩
def Ej (K : PySem.W.Frag) (env : Evn) (ts : List TE) (acc : List Nat) (R : List Nat → Prop) : Prop := ∀ (H0 : Hp) (dl : Dl) (hs : Hs) (σ : L2.St) (H : Hp) (Q : Str → Hp → Prop), EnvAt K H0 dl hs H σ env →
  (∀ out H', R out → Mv dl H H' → DlAt dl H' → Q (tx out) H') → tJs ts (tx acc) σ H Q
theorem ej_nil {acc : List Nat} {R : List Nat → Prop} (h : R acc) : Ej K env [] acc R := fun H0 dl hs σ H Q E k => k acc H h (.refl _ _) E.dlat
theorem ej_cons {t : TE} {ts : List TE} {acc : List Nat} {R : List Nat → Prop} (h : Ev K env t fun x => KTx x fun y => (acc ++ y).length ≤ sizeLine ∧ Ej K env ts (acc ++ y) R) : Ej K env (t :: ts) acc R := fun H0 dl hs σ H Q E k =>
  h H0 dl hs σ H _ E fun x v H1 hx m q r => by
    obtain ⟨y, rfl, n, hj⟩ := hx
    have e1 := vl_atm r rfl
    subst e1
    refine ⟨tx y, rfl, by rw [tx_app, tx_len]; exact n, ?_⟩
    rw [tx_app]
    exact hj H0 dl hs σ H1 Q (E.go m q) fun out H' ho m2 q2 => k out H' ho (m.trans m2) q2
theorem ev_joined {ts : List TE} (h : Ej K env ts [] fun out => S (.da (.str (tx out)))) : Ev K env (fun σ H Q => tJs ts Str.empty σ H fun out H1 => Q (.str out) H1) S := fun H0 dl hs σ H Q E k =>
  h H0 dl hs σ H _ E fun out H' ho m q => k _ _ H' ho m q (.str _)
/-! ### expressions that change lists of one's own -/
def Em (K : PySem.W.Frag) (env : Evn) (t : TE) (S : Evn → Da → Prop) : Prop := ∀ (H0 : Hp) (dl : Dl) (hs : Hs) (σ : L2.St) (H : Hp) (Q : VK), EnvAt K H0 dl hs H σ env →
  (∀ e d v H', S e d → Tk K H H' → EnvAt K H0 dl hs H' σ e → DaAt K H' d v → Q v H') → t σ H Q
def Ems (K : PySem.W.Frag) (env : Evn) (t : TA) (S : Evn → List Da → Prop) : Prop := ∀ (H0 : Hp) (dl : Dl) (hs : Hs) (σ : L2.St) (H : Hp) (Q : List V → Hp → Prop), EnvAt K H0 dl hs H σ env →
  (∀ e ds vs H', S e ds → Tk K H H' → EnvAt K H0 dl hs H' σ e → DasAt K H' ds vs → Q vs H') → t σ H Q
theorem em_of {t : TE} {S : Evn → Da → Prop} (h : Ev K env t fun x => KD x fun d => S env d) : Em K env t S := fun H0 dl hs σ H Q E k =>
  h H0 dl hs σ H _ E fun x v H1 hx m q r => by
    obtain ⟨d, rfl, s⟩ := hx
    exact k env d v H1 s (m.tk E.dlat) (E.go m q) r
theorem ems_nil {S : Evn → List Da → Prop} (h : S env []) : Ems K env tNil S := fun H0 dl hs σ H Q E k => k env [] [] H h (.refl _ _) E .nil
theorem ems_cons {t : TE} {u : TA} {S : Evn → List Da → Prop} (h : Em K env t fun e d => Ems K e u fun e2 ds => S e2 (d :: ds)) : Ems K env (tCons t u) S := fun H0 dl hs σ H Q E k =>
  h H0 dl hs σ H _ E fun e d v H1 hx tk E1 r => hx H0 dl hs σ H1 _ E1 fun e2 ds vs H2 s tk2 E2 r2 => k e2 (d :: ds) (v :: vs) H2 s (tk.trans tk2) E2 (.cons (DaAt.keep tk2 r) r2)
theorem em_tup {t : TA} {S : Evn → Da → Prop} (h : Ems K env t fun e ds => ds.length ≤ sizeLine ∧ S e (.tup ds)) : Em K env (tTup t) S := fun H0 dl hs σ H Q E k =>
  h H0 dl hs σ H _ E fun e ds vs H1 ⟨n, s⟩ tk E1 r => ⟨by rw [r.len]; exact n, fun p hp => by
    have m : Mv dl H1 (upd H1 p (.tup vs)) := .same (same_upd hp)
    exact k e _ _ _ s (tk.trans (m.tk E1.dlat)) (E1.go m (E1.dlat.same (same_upd hp))) (.tup (SqT.of upd_same) (r.keep (.same (same_upd hp))))⟩
variable {C : Addr} {f : Str} {F : Da → Prop} {E : XK} {O : Oux → Prop}
theorem sx_setM {te : TE} {i : Nat} (h : Em K env te fun e d => O (.nx (e.set i (some (.vl d))))) : Sx K C f F E env (tAsg te (gName i)) O := fun H0 dl hs σ H D E' a b c d r w =>
  h H0 dl hs σ H _ E' fun e y v H1 s tk E1 hv => a _ _ H1 s tk (E1.set hv)
theorem sx_retM {te : TE} (h : Em K env te fun e d => O (.rt e (.da d))) : Sx K C f F E env (tRet te) O := fun H0 dl hs σ H D E' a b c d r w =>
  h H0 dl hs σ H _ E' fun e y v H1 s tk E1 hv => d e σ (.da y) v H1 s E1 hv
theorem sx_appM {te : TE} {i : Nat} {p : Addr} {l : List Da} (hi : env[i]? = some (some (.own p l))) (h : Em K env te fun e d => e[i]? = some (some (.own p l)) ∧ l.length < sizeLine ∧ O (.nx (e.set i (some (.own p (l ++ [d])))))) : Sx K C f F E env (tDrop (tBM K "list" rAppend (tVar i) (tCons te tNil))) O := fun H0 dl hs σ H D E' a b c d r w => by
  obtain ⟨v, h1, rfl, vs, h2, h3, _⟩ := E'.slot i _ hi
  refine ⟨_, h1, .inl ⟨rfl, vs, .inl (.inl h2)⟩, ?_⟩
  refine h H0 dl hs σ H _ E' fun e y v H1 ⟨he, n, s⟩ tk E1 hv => ?_
  obtain ⟨w2, e1, rfl, vs1, g2, g3, _⟩ := E1.slot i _ he
  have tk2 : Tk K H1 (upd H1 p (.lst (vs1 ++ [v]))) := .bl (.put g2)
  exact ⟨p, vs1, v, rfl, rfl, g2, by rw [g3.len]; exact n, a _ _ _ s (tk.trans tk2) (E1.write he (das_app (g3.keep tk2) (.cons (DaAt.keep tk2 hv) .nil)))⟩
end
/-! ### calls of defs that draw and add to a list of texts -/
abbrev tD (n : List Nat) : Da := .str (tx n)
theorem EnvAt.writeD {K : PySem.W.Frag} {H0 H H' : Hp} {dl : Dl} {hs : Hs} {σ : L2.St} {env : Evn} (E : EnvAt K H0 dl hs H σ env) {i : Nat} {l l' : List Da} {a : Addr} {vs' : List V} (hi : env[i]? = some (some (.own a l))) (hb : ∀ b o, b ≠ a → (∀ d e, dl = some (d, e) → b ≠ d) → H b = some o → H' b = some o) (hq : DlAt dl H') (ha' : H' a = some (.lst vs')) (hd : DasAt K H' l' vs') :
    Tk K H H' ∧ EnvAt K H0 dl hs H' σ (env.set i (some (.own a l'))) := by
  obtain ⟨v, e1, rfl, vs, ha, _, h0, hn⟩ := E.slot i _ hi
  have tk : Tk K H H' := .bl fun b o e => by
    by_cases z : b = a
    · subst z
      rw [ha] at e
      cases e
      exact .inr ⟨_, _, rfl, ha'⟩
    · by_cases z2 : ∀ d e, dl = some (d, e) → b ≠ d
      · exact .inl (hb b o z z2 e)
      · have : ∃ d e, dl = some (d, e) ∧ b = d := Classical.byContradiction fun w => z2 fun d e h1 h2 => w ⟨d, e, h1, h2⟩
        obtain ⟨d, e2, h1, rfl⟩ := this
        obtain ⟨_, _, _, _, _, _, g1, _⟩ := E.dlat _ _ h1
        obtain ⟨_, _, _, _, _, _, g2, _⟩ := hq _ _ h1
        rw [g1] at e
        cases e
        exact .inr ⟨_, _, rfl, g2⟩
  have n0 : ∀ b o, H0 b = some o → b ≠ a := fun b o e z => by rw [z, h0] at e; cases e
  have hil := (List.getElem?_eq_some_iff.mp hi).1
  refine ⟨tk, by rw [List.length_set, E.len], hq, E.dl0, fun b o n e => hb b o (n0 b o e) n (E.mv b o n e), fun p hp => ?_, fun j s hj => ?_, fun j k b c l1 l2 n hj hk => ?_⟩
  · obtain ⟨ws, h1, h2, h3⟩ := E.held p hp
    exact ⟨ws, hb _ _ (hn p hp) h3 h1, h2.keep tk, h3⟩
  · by_cases e : i = j
    · subst e
      obtain ⟨_, hs⟩ := set_self hj
      cases hs
      exact ⟨_, e1, rfl, vs', ha', hd, h0, hn⟩
    · rw [List.getElem?_set_ne e] at hj
      obtain ⟨v, h1, h2⟩ := E.slot j s hj
      refine ⟨v, h1, ?_⟩
      cases s with
      | vl d => exact DaAt.keep tk h2
      | ls b l => exact h2
      | own b l1 =>
        obtain ⟨rfl, ws, hb2, hd2, b0, bn⟩ := h2
        have nb : b ≠ a := (E.apart i j a b l l1 e hi hj).symm
        exact ⟨rfl, ws, hb _ _ nb (E.dl0.ne b0) hb2, hd2.keep tk, b0, bn⟩
      | dr => exact h2
  · have own : ∀ (m : Nat) (c : Addr) (l3 : List Da), (env.set i (some (Sl.own a l')))[m]? = some (some (Sl.own c l3)) → ∃ l4, env[m]? = some (some (Sl.own c l4)) := fun m c l3 hm => by
      by_cases e : i = m
      · subst e
        obtain ⟨_, hs⟩ := set_self hm
        cases hs
        exact ⟨l, hi⟩
      · rw [List.getElem?_set_ne e] at hm; exact ⟨l3, hm⟩
    obtain ⟨l4, h4⟩ := own j b l1 hj
    obtain ⟨l5, h5⟩ := own k c l2 hk
    exact E.apart j k b c l4 l5 n h4 h5
def sp_kn (K : PySem.W.Frag) (pre : List Da → List (List Nat) → (Da → List (List Nat) → Prop) → Prop) : Sp := fun vs H Q _ => ∃ (d l k : Addr) (ds : List Da) (ws us : List V) (ns : List (List Nat)) (R : Da → List (List Nat) → Prop), vs = .ref d :: (ws ++ [.ref k]) ∧ Dry H d l ∧ DasAt K H ds ws ∧ H k = some (.lst us) ∧ DasAt K H (ns.map tD) us ∧ k ≠ d ∧ k ≠ l ∧ pre ds ns R ∧
  ∀ x ns' v H' us', R x ns' → (∀ b o, b ≠ d → b ≠ k → H b = some o → H' b = some o) → Dry H' d l → H' k = some (.lst us') → DasAt K H' (ns'.map tD) us' → DaAt K H' x v → Q v H'
def Ek (K : PySem.W.Frag) (env : Evn) (t : TA) (k : Addr) (S : List Da → Prop) : Prop := ∀ (H0 : Hp) (dl : Dl) (hs : Hs) (σ : L2.St) (H : Hp) (Q : List V → Hp → Prop), EnvAt K H0 dl hs H σ env →
  (∀ ds ws H', S ds → Mv dl H H' → DlAt dl H' → DasAt K H' ds ws → Q (ws ++ [.ref k]) H') → t σ H Q
section
variable {K : PySem.W.Frag} {env : Evn}
theorem ek_last {j : Nat} {k : Addr} {l : List Da} {S : List Da → Prop} (hj : env[j]? = some (some (.own k l))) (s : S []) : Ek K env (tCons (tVar j) tNil) k S := fun H0 dl hs σ H Q E q => by
  obtain ⟨v, h1, rfl, _⟩ := E.slot j _ hj
  exact ⟨_, h1, q [] [] H s (.refl _ _) E.dlat .nil⟩
theorem ek_cons {t : TE} {u : TA} {k : Addr} {S : List Da → Prop} (h : Ev K env t fun x => KD x fun d => Ek K env u k fun ds => S (d :: ds)) : Ek K env (tCons t u) k S := fun H0 dl hs σ H Q E q =>
  h H0 dl hs σ H _ E fun x v H1 hx m dq r => by
    obtain ⟨d, rfl, hu⟩ := hx
    exact hu H0 dl hs σ H1 _ (E.go m dq) fun ds ws H2 s m2 q2 r2 => q (d :: ds) (v :: ws) H2 s (m.trans m2) q2 (.cons (DaAt.keep (m2.tk dq) r) r2)
theorem em_kn {pre : List Da → List (List Nat) → (Da → List (List Nat) → Prop) → Prop} {X : XK} {i j : Nat} {t : TA} {k : Addr} {ns : List (List Nat)} {S : Evn → Da → Prop} (hi : env[i]? = some (some .dr)) (hj : env[j]? = some (some (.own k (ns.map tD))))
    (h : Ek K env t k fun ds => pre ds ns fun x ns' => S (env.set j (some (.own k (ns'.map tD)))) x) : Em K env (tCall (sp_kn K pre) [] X (tCons (tVar i) t)) S := fun H0 dl hs σ H Q E q => by
  obtain ⟨d, l, rfl, h1⟩ := dr_at E hi
  refine ⟨_, h1, h H0 _ hs σ H _ E fun ds ws H1 hp m dq r => ?_⟩
  have E1 := E.go m dq
  obtain ⟨v, t1, rfl, us, u1, u2, u3, u4⟩ := E1.slot j _ hj
  have kd : k ≠ d := E1.dl0.ne u3 _ _ rfl
  have kl : k ≠ l := fun z => by
    obtain ⟨_, _, _, _, _, _, _, g, _⟩ := E1.dl0 _ _ rfl
    rw [← z, u3] at g
    cases g
  refine ⟨d, l, k, ds, ws, us, ns, _, by rw [List.append_nil], dq _ _ rfl, r, u1, u2, kd, kl, hp, fun x ns' v H' us' hs2 hb dy g1 g2 hv => ?_⟩
  obtain ⟨tk, E2⟩ := E1.writeD (H' := H') (l' := ns'.map tD) hj (fun b o nb nd e => hb b o (nd _ _ rfl) nb e) (fun d' l' e => by cases e; exact dy) g1 g2
  exact q _ x v H' hs2 ((m.tk E.dlat).trans tk) E2 hv
variable {C : Addr} {f : Str}
def retK (R : Da → List (List Nat) → Prop) (j : Nat) (k : Addr) : Oux → Prop
  | .rt e x => ∃ d ns', x = .da d ∧ e[j]? = some (some (.own k (ns'.map tD))) ∧ R d ns'
  | _ => False
theorem fin_kn {pre : List Da → List (List Nat) → (Da → List (List Nat) → Prop) → Prop} {N : List Str} {t : TS} {vs : List V} {H : Hp} {Q : VK} {E : XK} (h : ∀ ds ns R k, pre ds ns R → Sx K k f (fun _ => False) E (some .dr :: (ds.map (fun d => some (Sl.vl d)) ++ some (.own k (ns.map tD)) :: List.replicate (N.length - (ds.length + 2)) none)) t (retK R (ds.length + 1) k)) (hs : sp_kn K pre vs H Q E) :
    t { nx := fun _ H' => Q .non H', rt := Q } (L2.start N vs) H := by
  obtain ⟨d, l, k, ds, ws, us, ns, R, rfl, hD, hds, hk, hns, kd, kl, hp, q⟩ := hs
  have hl := hds.len
  have hst : L2.start N (.ref d :: (ws ++ [.ref k])) = some (.ref d) :: (ws.map some ++ some (.ref k) :: List.replicate (N.length - (ds.length + 2)) none) := by
    unfold L2.start
    rw [List.map_cons, List.map_append, List.length_cons, List.length_append, List.length_singleton, hl]
    simp [List.append_assoc]
  rw [hst]
  have D0 : Dry (fun b => if b = k then none else H b) d l := by
    obtain ⟨x, y, z, w, is, ne, g1, g2, g3⟩ := hD
    exact ⟨x, y, z, w, is, ne, (if_neg kd.symm).trans g1, (if_neg kl.symm).trans g2, g3⟩
  have q0 : DlAt (some (d, l)) (fun b => if b = k then none else H b) := fun d' l' e => by cases e; exact D0
  have q1 : DlAt (some (d, l)) H := fun d' l' e => by cases e; exact hD
  have at_ : ∀ (i : Nat) (s : Sl), (some Sl.dr :: (ds.map (fun d => some (Sl.vl d)) ++ some (.own k (ns.map tD)) :: List.replicate (N.length - (ds.length + 2)) none))[i]? = some (some s) → (i = 0 ∧ s = .dr) ∨ (∃ j x, i = j + 1 ∧ ds[j]? = some x ∧ s = .vl x) ∨ (i = ds.length + 1 ∧ s = .own k (ns.map tD)) := fun i s hi => by
    cases i with
    | zero => cases Option.some.inj hi; exact .inl ⟨rfl, rfl⟩
    | succ i =>
      rw [List.getElem?_cons_succ] at hi
      by_cases c : i < ds.length
      · rw [List.getElem?_append_left (by rw [List.length_map]; exact c), List.getElem?_map] at hi
        obtain ⟨x, hx, e⟩ := Option.map_eq_some_iff.mp hi
        cases e
        exact .inr (.inl ⟨i, x, rfl, hx, rfl⟩)
      · rw [List.getElem?_append_right (by rw [List.length_map]; omega), List.length_map] at hi
        by_cases c2 : i = ds.length
        · subst c2
          rw [Nat.sub_self] at hi
          cases Option.some.inj hi
          exact .inr (.inr ⟨rfl, rfl⟩)
        · rw [show i - ds.length = (i - ds.length - 1) + 1 by omega, List.getElem?_cons_succ, List.getElem?_replicate] at hi
          split at hi <;> cases hi
  have E0 : EnvAt K (fun b => if b = k then none else H b) (some (d, l)) [] H (some (.ref d) :: (ws.map some ++ some (.ref k) :: List.replicate (N.length - (ds.length + 2)) none)) (some .dr :: (ds.map (fun d => some (Sl.vl d)) ++ some (.own k (ns.map tD)) :: List.replicate (N.length - (ds.length + 2)) none)) := by
    refine ⟨by simp [hl], q1, q0, fun b o _ e => ?_, fun p hp => (by cases hp), fun i s hi => ?_, fun i j x y l1 l2 n hi hj => ?_⟩
    · by_cases c : b = k
      · rw [if_pos c] at e; cases e
      · rw [if_neg c] at e; exact e
    · rcases at_ i s hi with ⟨rfl, rfl⟩ | ⟨j, x, rfl, hx, rfl⟩ | ⟨rfl, rfl⟩
      · exact ⟨_, rfl, d, l, rfl, rfl⟩
      · obtain ⟨v, hv1, hv2⟩ := hds.at hx
        refine ⟨v, ?_, hv2⟩
        have c := (List.getElem?_eq_some_iff.mp hv1).1
        rw [List.getElem?_cons_succ, List.getElem?_append_left (by rw [List.length_map]; exact c), List.getElem?_map, hv1]
        rfl
      · refine ⟨.ref k, ?_, rfl, us, hk, hns, if_pos rfl, fun p hp => (by cases hp)⟩
        rw [List.getElem?_cons_succ, List.getElem?_append_right (by rw [List.length_map, hl]; omega), List.length_map, hl, Nat.sub_self]
        rfl
    · rcases at_ i _ hi with ⟨_, e⟩ | ⟨_, _, _, _, e⟩ | ⟨e1, e⟩
      · cases e
      · cases e
      · rcases at_ j _ hj with ⟨_, e⟩ | ⟨_, _, _, _, e⟩ | ⟨e2, e⟩
        · cases e
        · cases e
        · exact absurd (e1.trans e2.symm) n
  refine h ds ns R k hp _ _ _ _ H _ E0 (fun _ _ _ o => o.elim) (fun _ _ _ o => o.elim) (fun _ _ _ o => o.elim) (fun e σ' x v H' o E2 hv => ?_) (fun _ _ _ _ _ _ o => o.elim) (fun _ _ _ _ o => o.elim)
  obtain ⟨x, ns', rfl, he, hR⟩ := o
  obtain ⟨v2, _, rfl, us', g1, g2, _⟩ := E2.slot _ _ he
  exact q x ns' v H' us' hR (fun b o nd nk e => E2.mv b o (fun _ _ z => by cases z; exact nd) (by rw [if_neg nk]; exact e)) (E2.dlat _ _ rfl) g1 g2 hv
end
/-- a tuple of texts of the module -/
structure KTup (K : PySem.W.Frag) (a : Addr) (xs : List Str) : Prop where
  at_ : ∀ H, SqT K H a (xs.map V.str)
theorem das_strs {K : PySem.W.Frag} {H : Hp} : ∀ xs : List Str, DasAt K H (xs.map Da.str) (xs.map V.str)
  | [] => .nil
  | x :: xs => .cons (.str x) (das_strs xs)
theorem ev_ktup {K : PySem.W.Frag} {env : Evn} {S : Vl → Prop} {a : Addr} {xs : List Str} (h : KTup K a xs) (s : S (.da (.tup (xs.map Da.str)))) : Ev K env (tC (.ref a)) S := fun H0 dl hs σ H Q E k => k _ _ H s (.refl _ _) E.dlat (.tup (h.at_ H) (das_strs xs))
end My
namespace My
open PySem L2
section
variable {K : PySem.W.Frag} {env : Evn} {S : Vl → Prop}
/-- the draw's last number, whatever it is -/
theorem ev_ixD {i : Nat} (hi : env[i]? = some (some .dr)) (s : ∀ e : Int, S (.da (.int e))) : Ev K env (tOp (rIxL K) (tVar i) (tC (.int 4))) S := fun H0 dl hs σ H Q E k => by
  obtain ⟨p, l, rfl, h1⟩ := dr_at E hi
  obtain ⟨x, y, z, w, ds, ne, g1, g2, g3⟩ := E.dlat _ _ rfl
  exact ⟨_, h1, p, _, 4, .int w, rfl, rfl, .inl (.inl g1), rfl, k _ _ H (s w) (.refl _ _) E.dlat (.int w)⟩
theorem sv_putE {O : Out → Prop} {i : Nat} {te : TE} (hi : env[i]? = some (some .dr)) (h : Ev K env te fun x => KI1 x fun _ => O (.nx env)) : Sv K env (tAsg te (gSub (tVar i) (tC (.int 4)) rSetL)) O := fun H0 dl hs σ H D E a b c d e =>
  h H0 dl hs σ H _ E fun x v H1 hx m q r => by
    obtain ⟨n, rfl, h⟩ := hx
    have en := vl_atm r rfl
    subst en
    have E1 := E.go m q
    obtain ⟨p, l, rfl, h1⟩ := dr_at E1 hi
    obtain ⟨x, y, z, w, ds, ne, g1, g2, g3⟩ := E1.dlat _ _ rfl
    refine ⟨_, h1, p, _, 4, 4, rfl, rfl, g1, rfl, ?_⟩
    have m2 : Mv (some (p, l)) H1 (upd H1 p (.lst [.int x, .int y, .int z, .ref l, .int n])) := .ofBut .put
    have q2 : DlAt (some (p, l)) (upd H1 p (.lst [.int x, .int y, .int z, .ref l, .int n])) := fun d' l' e => by
      cases e
      exact ⟨x, y, z, n, ds, ne, upd_same, (upd_ne ne.symm).trans g2, g3⟩
    exact a _ _ _ h ((m.tk E.dlat).trans (m2.tk E1.dlat)) (E1.go m2 q2)
/-! ### join with a sign between -/
def jn (s : List Nat) : List (List Nat) → List Nat
  | [] => []
  | [x] => x
  | x :: y :: r => x ++ s ++ jn s (y :: r)
theorem tx_join (s : List Nat) : ∀ ps : List (List Nat), Str.join (tx s) (ps.map tx) = tx (jn s ps)
  | [] => rfl
  | [x] => rfl
  | x :: y :: r => by
    show tx x ++ tx s ++ Str.join (tx s) ((y :: r).map tx) = _
    rw [tx_join s (y :: r), tx_app, tx_app]
    rfl
structure KTJ (x : Vl) (s : List Nat) (R : List (List Nat) → Prop) : Prop where
  h : ∃ ss, x = .ls (ss.map fun s => .str (tx s)) ∧ (ss.map (·.length)).sum + ss.length * s.length ≤ 16777216 ∧ R ss
theorem k_tj {s : List Nat} {ss : List (List Nat)} {R : List (List Nat) → Prop} (n : (ss.map (·.length)).sum + ss.length * s.length ≤ 16777216) (h : R ss) : KTJ (.ls (ss.map fun s => .str (tx s))) s R := ⟨ss, rfl, n, h⟩
theorem ev_joinS {tb : TE} {s : List Nat} (h : Ev K env tb fun y => KTJ y s fun ss => S (.da (.str (tx (jn s ss))))) : Ev K env (tM1 (rJoin K) (tC (.str (tx s))) tb) S := fun H0 dl hs σ H Q E k =>
  ⟨⟨_, rfl⟩, h H0 dl hs σ H _ E fun y u H2 hy m2 q2 r2 => by
    obtain ⟨ss, rfl, n, z⟩ := hy
    obtain ⟨p, vs, rfl, h1, h2, _⟩ := r2
    rw [das_txs h2] at h1
    refine ⟨tx s, rfl, p, rfl, ss.map tx, .inl ?_, ?_, ?_⟩
    · rw [List.map_map]; exact h1.sq
    · rw [List.map_map, List.length_map, tx_len]
      have e : ((fun x : Str => x.length) ∘ tx) = fun s : List Nat => s.length := funext fun s => tx_len s
      rw [e]; exact n
    · rw [TL.join_eq, tx_join]
      exact k _ _ H2 z m2 q2 (.str _)⟩
theorem ev_joinB {tb : TE} (h : Ev K env tb fun y => KTJ y [124] fun ss => S (.da (.str (tx (jn [124] ss))))) : Ev K env (tM1 (rJoin K) (tC (.str (Str.ofString "|"))) tb) S := by
  rw [show Str.ofString "|" = tx [124] by decide +kernel]
  exact ev_joinS h
/-- a call of write_set -/
theorem ev_wset {t : TA} {X : XK} (h : Es K env t fun xs => ∃ cs, xs = [.da (.str (tx cs))] ∧ cs.Sublist SG ∧ S (.da (.str (tx (wset cs))))) : Ev K env (tCall sp_wset [] X t) S := fun H0 dl hs σ H Q E k =>
  h H0 dl hs σ H _ E fun xs vs H1 hx m q r => by
    obtain ⟨cs, rfl, hc, s⟩ := hx
    obtain ⟨v, rfl, r1⟩ := vls_one r
    have e := vl_atm r1 rfl
    subst e
    exact ⟨cs, rfl, hc, fun H2 sm => k _ _ H2 s (m.trans (.same sm)) (q.same sm) (.str _)⟩
/-! ### loops whose body changes lists of one's own -/
variable {C : Addr} {f : Str} {F : Da → Prop} {E : XK} {O : Oux → Prop}
def lpX (env : Evn) (J : Evn → Prop) (O : Oux → Prop) : Oux → Prop
  | .nx e => J e
  | .ct e => J e
  | .bk e => LsIn env e ∧ O (.nx e)
  | _ => False
theorem lx_nx {J : Evn → Prop} {e : Evn} (h : J e) : lpX env J O (.nx e) := h
structure KForX (K : PySem.W.Frag) (C : Addr) (f : Str) (F : Da → Prop) (E : XK) (env : Evn) (g : TG) (body : TS) (O : Oux → Prop) (l : List Da) (kp : Evn → Prop) : Prop where
  h : ∃ I : Nat → Evn → Prop, (∃ e, Wk env e ∧ I 0 e) ∧ (∀ k e, I k e → kp e) ∧ (∀ k d e, l[k]? = some d → I k e → ∃ ts, Gv K e g ts d fun e' => Sx K C f F E e' body (lpX env (fun e => ∃ e2, Wk e e2 ∧ I (k + 1) e2) O)) ∧ ∀ e, I l.length e → LsIn env e ∧ O (.nx e)
theorem k_forX {g : TG} {body : TS} {l : List Da} {kp : Evn → Prop} (I : Nat → Evn → Prop) (h0 : ∃ e, Wk env e ∧ I 0 e) (hk : ∀ k e, I k e → kp e) (hs : ∀ k d e, l[k]? = some d → I k e → ∃ ts, Gv K e g ts d fun e' => Sx K C f F E e' body (lpX env (fun e => ∃ e2, Wk e e2 ∧ I (k + 1) e2) O)) (he : ∀ e, I l.length e → LsIn env e ∧ O (.nx e)) : KForX K C f F E env g body O l kp := ⟨I, h0, hk, hs, he⟩
theorem sx_for {wi : TI} {g : TG} {body : TS} (h : Iv K env wi fun l kp => KForX K C f F E env g body O l kp) : Sx K C f F E env (tFor wi g body) O := fun H0 dl hs σ H D E' a b c d_rt e_rn w => by
  rw [tFor_eq]
  refine h H0 dl hs σ H _ E' fun l kp J H1 hs1 G hk m q wd E1 hhs hG => ?_
  obtain ⟨I, i0, ik, is, ie⟩ := hk
  have wk : Walk J l.length G (fun i H x H' => Same H H' ∧ ∃ d, l[i]? = some d ∧ DaAt K H' d x) := ⟨fun i H hi g => wd.go i H hi g, fun H g => wd.stop H g, fun i H x H' hi g y => wd.yld i H x H' hi g y⟩
  have drop : ∀ (e' : Evn) (σ' : L2.St) (H' : Hp), LsIn env e' → EnvAt K H0 dl hs1 H' σ' e' → EnvAt K H0 dl hs H' σ' e' := fun e' σ' H' hl E2 => by
    rcases hhs with rfl | ⟨⟨p, pl⟩, rfl⟩
    · exact E2
    · refine E2.unhold fun i b l' hb => ?_
      obtain ⟨j, hj⟩ := hl i b l' hb
      obtain ⟨_, _, _, h2⟩ := E'.slot j _ hj
      exact h2
  have fin : ForJ J g body D σ H1 := by
    refine for_it wk (fun i σ H => ∃ e1, I i e1 ∧ EnvAt K H0 dl hs1 H σ e1 ∧ Tk K H1 H) (by obtain ⟨e0, w0, i0⟩ := i0; exact ⟨e0, i0, E1.weak w0.len w0.le, .refl _ _⟩) (fun i σ2 H2 _ ⟨e1, h1, E9, tk⟩ => hG σ2 H2 e1 (ik i e1 h1) tk E9) (fun i x σ' H' H'' hi ⟨e1, h1, E9, tk⟩ y => ?_) (fun σ' H' ⟨e1, h1, E9, tk⟩ => ?_)
    · obtain ⟨sm, d, hd, hx⟩ := y
      have E2 : EnvAt K H0 dl hs1 H'' σ' e1 := E9.go (.same sm) (E9.dlat.same sm)
      have tk2 : Tk K H1 H'' := tk.trans (.same sm)
      obtain ⟨ts, hg⟩ := is i d e1 hd h1
      refine hg H0 dl hs1 σ' H'' _ x E2 hx fun e2 σ2 hb E3 _ => ?_
      refine hb H0 dl hs1 σ2 H'' _ E3 (fun e3 σ3 H3 s t E4 => by obtain ⟨e4, w4, s⟩ := s; exact ⟨e4, s, E4.weak w4.len w4.le, tk2.trans t⟩) (fun e3 σ3 H3 s t E4 => ?_) (fun e3 σ3 H3 s t E4 => by obtain ⟨e4, w4, s⟩ := s; exact ⟨e4, s, E4.weak w4.len w4.le, tk2.trans t⟩) (fun _ _ _ _ _ s => s.elim) (fun _ _ _ _ _ _ s => s.elim) w
      exact a e3 σ3 H3 s.2 ((m.tk E'.dlat).trans (tk2.trans t)) (drop e3 σ3 H3 s.1 E4)
    · obtain ⟨hl, ho⟩ := ie e1 h1
      exact a e1 σ' H' ho ((m.tk E'.dlat).trans tk) (drop e1 σ' H' hl E9)
  exact fin
end
/-- any plain value as a test -/
structure KTr (x : Vl) (R : Bool → Prop) : Prop where
  h : (∃ cs : List Nat, x = .da (.str (tx cs)) ∧ cs.length ≤ sizeLine ∧ R (cs.length != 0)) ∨ (∃ i : Int, x = .da (.int i) ∧ R (i != 0)) ∨ (∃ b : Bool, x = .da (.bl b) ∧ R b)
theorem k_trS {cs : List Nat} {R : Bool → Prop} (n : cs.length ≤ sizeLine) (h : R (cs.length != 0)) : KTr (.da (.str (tx cs))) R := ⟨.inl ⟨cs, rfl, n, h⟩⟩
theorem k_trI {i : Int} {R : Bool → Prop} (h : R (i != 0)) : KTr (.da (.int i)) R := ⟨.inr (.inl ⟨i, rfl, h⟩)⟩
theorem k_trB {b : Bool} {R : Bool → Prop} (h : R b) : KTr (.da (.bl b)) R := ⟨.inr (.inr ⟨b, rfl, h⟩)⟩
theorem tv_tr {K : PySem.W.Frag} {env : Evn} {ta : TE} {R : Bool → Prop} (h : Ev K env ta fun x => KTr x R) : Tv K env (fun σ H Q => ta σ H fun x H' => ∃ k, TruV K x H' k ∧ Q k H') R := fun H0 dl hs σ H Q E k =>
  h H0 dl hs σ H _ E fun x v H1 hx m q r => by
    rcases hx.h with ⟨cs, rfl, n, s⟩ | ⟨i, rfl, s⟩ | ⟨b, rfl, s⟩
    · have h1 := vl_atm r rfl
      subst h1
      exact ⟨cs.length != 0, ⟨by rw [tx_len]; exact n, by rw [tx_len, Bool.eq_iff_iff]; simp⟩, k _ H1 s m q⟩
    · have h1 := vl_atm r rfl
      subst h1
      exact ⟨i != 0, rfl, k _ H1 s m q⟩
    · have h1 := vl_atm r rfl
      subst h1
      exact ⟨b, rfl, k _ H1 s m q⟩
theorem decT {p : Prop} [Decidable p] (h : p) : decide p = true := decide_eq_true h
theorem decF {p : Prop} [Decidable p] (h : ¬p) : decide p = false := decide_eq_false h
theorem toL {n : Nat} (h : n ≤ 16000000) : n ≤ sizeLine := Nat.le_of_lt (toLineB h)
theorem k_eqIN {i : Int} {R : Bool → Prop} (h : R false) : KEq (.da (.int i)) (.da .non) R := k_eqO rfl rfl rfl (decide_eq_false (fun z => by cases z)) h
theorem k_eqNI {i : Int} {R : Bool → Prop} (h : R false) : KEq (.da .non) (.da (.int i)) R := k_eqO rfl rfl rfl (decide_eq_false (fun z => by cases z)) h
theorem atI_ex {α : Type} {l : List α} {r : Int} (h0 : 0 ≤ r) (h1 : r < (l.length : Nat)) : ∃ d, atI l r = some d ∧ d ∈ l := by
  obtain ⟨j, rfl, hj, e⟩ := atI_pos h0 h1
  exact ⟨_, e, List.getElem_mem hj⟩
/-- text[a:b], the text and the part known -/
structure KSlS (cs : List Nat) (lo hi : Option Int) (R : List Nat → Prop) : Prop where
  h : ∃ m, cs.length ≤ sizeLine ∧ cutS (tx cs) lo hi = tx m ∧ R m
theorem k_slLast {cs : List Nat} {R : List Nat → Prop} (n : cs.length ≤ sizeLine) (h : R cs.dropLast) : KSlS cs none (some (-1)) R := ⟨_, n, cut_last cs, h⟩
theorem k_slTo {cs : List Nat} {j : Int} {k : Nat} {R : List Nat → Prop} (n : cs.length ≤ sizeLine) (e : j = (k : Nat)) (h : R (cs.take k)) : KSlS cs none (some j) R := ⟨_, n, by rw [e]; exact cut_to cs k, h⟩
theorem k_slFrom {cs : List Nat} {j : Int} {k : Nat} {R : List Nat → Prop} (n : cs.length ≤ sizeLine) (e : j = (k : Nat)) (h : R (cs.drop k)) : KSlS cs (some j) none R := ⟨_, n, by rw [e]; exact cut_from cs k, h⟩
theorem k_slMid {cs : List Nat} {i j : Int} {a b : Nat} {R : List Nat → Prop} (n : cs.length ≤ sizeLine) (e : i = (a : Nat)) (e2 : j = (b : Nat)) (h : R ((cs.drop a).take (b - a))) : KSlS cs (some i) (some j) R := ⟨_, n, by rw [e, e2]; exact cut_mid cs a b, h⟩
theorem ev_slX {K : PySem.W.Frag} {env : Evn} {S : Vl → Prop} {te : TE} {tl th : TO} (h : Ev K env te fun x => KTx x fun cs => Eo K env tl fun lo => Eo K env th fun hi => KSlS cs lo hi fun m => S (.da (.str (tx m)))) : Ev K env (tSl rSlS te tl th) S :=
  ev_slS (h.imp fun x ⟨cs, e, hx⟩ => ⟨tx cs, e, fun H0 dl hs σ H Q E k => hx H0 dl hs σ H Q E fun lo H1 hl m q => k lo H1 (fun H0 dl hs σ H Q E k => hl H0 dl hs σ H Q E fun hi H1 ⟨m', n, e, s⟩ m q => k hi H1 ⟨by rw [tx_len]; exact n, by rw [e]; exact s⟩ m q) m q⟩)
/-! ### names -/
def NmOk (n : List Nat) : Prop := 1 ≤ n.length ∧ n.length ≤ 12
def nmB : Da → Bool
  | .str s => decide (1 ≤ s.cps.toList.length ∧ s.cps.toList.length ≤ 12)
  | _ => false
theorem nm_all {L : List Da} (h : L.all nmB = true) {d : Da} (m : d ∈ L) : ∃ n, d = tD n ∧ NmOk n := by
  have h1 := List.all_eq_true.mp h d m
  cases d with
  | str s => exact ⟨s.cps.toList, by show Da.str s = .str (tx _); rw [tx_of], (of_decide_eq_true (show decide (1 ≤ s.cps.toList.length ∧ s.cps.toList.length ≤ 12) = true from h1) : 1 ≤ s.cps.toList.length ∧ s.cps.toList.length ≤ 12)⟩
  | non => cases h1
  | bl b => cases h1
  | int i => cases h1
  | tup l => cases h1
theorem k_isR {cs : List Nat} {i : Int} {R : Nat → Prop} (h0 : 0 ≤ i) (h1 : i < (cs.length : Nat)) (n : cs.length ≤ sizeLine) (h : ∀ c ∈ cs, R c) : KIS (.da (.str (tx cs))) (.da (.int i)) R := by
  obtain ⟨c, e, m⟩ := atI_ex h0 h1
  exact k_is' n e (h c m)
theorem k_ixR {l : List Da} {i : Int} {S : Da → Prop} (h0 : 0 ≤ i) (h1 : i < (l.length : Nat)) (h : ∀ d ∈ l, S d) : ∃ d, atI l i = some d ∧ S d := by
  obtain ⟨d, e, m⟩ := atI_ex h0 h1
  exact ⟨d, e, h d m⟩
structure KLX (xs : List Vl) (R : List Nat → Prop) : Prop where
  h : ∃ cs, xs = [.da (.str (tx cs))] ∧ cs.length ≤ sizeLine ∧ R cs
theorem k_lx {cs : List Nat} {R : List Nat → Prop} (n : cs.length ≤ sizeLine) (h : R cs) : KLX [.da (.str (tx cs))] R := ⟨cs, rfl, n, h⟩
theorem ev_lenX {K : PySem.W.Frag} {env : Evn} {S : Vl → Prop} {t : TA} (h : Es K env t fun xs => KLX xs fun cs => S (.da (.int (cs.length : Nat)))) : Ev K env (tCB (fun xs H Q => ∃ z, xs = [.str z] ∧ z.length ≤ sizeLine ∧ Q (.int z.length) H) t) S :=
  ev_lenS fun H0 dl hs σ H Q E k => h H0 dl hs σ H Q E fun xs vs H1 ⟨cs, e, n, s⟩ m q r => k xs vs H1 ⟨tx cs, e, by rw [tx_len]; exact n, by rw [tx_len]; exact s⟩ m q r
/-! ### min of three numbers -/
def rMin3 : List V → Hp → VK → Prop := fun xs H Q => ∃ i j k : Int, xs = [.int i, .int j, .int k] ∧ Q (.int (if k < (if j < i then j else i) then k else (if j < i then j else i))) H
theorem nm2 (i j : Int) : nuMin2 (.int i) (.int j) = some (.int (if j < i then j else i)) := by
  unfold nuMin2
  by_cases h : j < i <;> simp [nuLt, nuCB, h]
theorem call_min3I {X : Cx} (hc : X.calm = true) : CallR X (.builtin "min") rMin3 := by
  intro pins s σ H xs us Q I r h
  obtain ⟨i, j, k, rfl, q⟩ := h
  refine call_min3Nu hc pins s σ H _ us Q I r ⟨.int i, .int j, .int k, _, rfl, ?_, q⟩
  unfold nuMin3
  rw [nm2]
  exact nm2 _ k
structure KI3 (xs : List Vl) (R : Int → Int → Int → Prop) : Prop where
  h : ∃ i j k, xs = [.da (.int i), .da (.int j), .da (.int k)] ∧ R i j k
theorem k_i3 {i j k : Int} {R : Int → Int → Int → Prop} (h : R i j k) : KI3 [.da (.int i), .da (.int j), .da (.int k)] R := ⟨i, j, k, rfl, h⟩
theorem ev_min3 {K : PySem.W.Frag} {env : Evn} {S : Vl → Prop} {t : TA} (h : Es K env t fun xs => KI3 xs fun i j k => S (.da (.int (if k < (if j < i then j else i) then k else (if j < i then j else i))))) : Ev K env (tCB rMin3 t) S := fun H0 dl hs σ H Q E q =>
  h H0 dl hs σ H _ E fun xs vs H1 hx m dq r => by
    obtain ⟨i, j, k, rfl, s⟩ := hx
    obtain ⟨v1, v2, v3, rfl, r1, r2, r3⟩ := vls_three r
    have e1 := vl_atm r1 rfl
    have e2 := vl_atm r2 rfl
    have e3 := vl_atm r3 rfl
    subst e1 e2 e3
    exact ⟨i, j, k, rfl, q _ _ H1 s m dq (.int _)⟩
/-- a def that changes a list of its own by calls -/
def ouX (O : Out → Prop) : Oux → Prop
  | .nx e => O (.nx e)
  | .bk e => O (.bk e)
  | .ct e => O (.ct e)
  | .rt _ x => O (.rt x)
  | .rn _ l => O (.rn l)
theorem sv_ofX {K : PySem.W.Frag} {env : Evn} {t : TS} {O : Out → Prop} (h : Sx K (0 : Nat) "" (fun _ => False) (fun _ _ _ => True) env t (ouX O)) : Sv K env t O := fun H0 dl hs σ H D E a b c d r =>
  h H0 dl hs σ H D E a b c (fun e σ' x v H' o E2 hv => d x v H' o E2.mv E2.dlat hv) (fun e σ' l p vs H' o E2 h0 _ hp hd => r l p vs H' o E2.mv E2.dlat h0 hp hd) (fun _ _ _ _ f => f.elim)
end My
namespace My
open PySem L2
/-! ### the written form of a tree -/
def barT : Tr → Nat
  | .alt _ => 0
  | .seq _ => 1
  | .empty => 1
  | .rep _ _ _ _ => 2
  | _ => 3
def parW (p : Nat) (t : Tr) (w : List Nat) : List Nat := if barT t < p then [40] ++ w ++ [41] else w
def numW : Int → Option Int → List Nat
  | lo, none => if lo < 2 then (if lo = 0 then [42] else [43]) else [60] ++ dec lo ++ [44, 62]
  | lo, some h => if lo = h then [60] ++ dec lo ++ [62] else if h = 1 then [63] else [60] ++ dec lo ++ [44] ++ dec h ++ [62]
mutual
def wTr : Tr → List Nat
  | .empty => []
  | .set cs => wset cs
  | .edge k => [123] ++ k ++ [125]
  | .same n => [123] ++ ([115, 97, 109, 101, 32] ++ n) ++ [125]
  | .seq ts => (wKs 2 ts).flatten
  | .alt ts => jn [124] (wKs 1 ts)
  | .rep t lo hi lz => parW 3 t (wTr t) ++ numW lo hi ++ (if lz then [126] else [])
  | .grp n t => [123] ++ ([97, 115, 32] ++ n ++ [58] ++ wTr t) ++ [125]
  | .look sd b t => [123] ++ ((if b then [] else [110, 111, 116, 32]) ++ sd ++ [58] ++ wTr t) ++ [125]
def wKs (p : Nat) : List Tr → List (List Nat)
  | [] => []
  | t :: ts => parW p t (wTr t) :: wKs p ts
end
/-- what stands in the braces -/
def brW : Tr → List Nat
  | .edge k => k
  | .same n => [115, 97, 109, 101, 32] ++ n
  | .grp n t => [97, 115, 32] ++ n ++ [58] ++ wTr t
  | .look sd b t => (if b then [] else [110, 111, 116, 32]) ++ sd ++ [58] ++ wTr t
  | _ => []
theorem wKs_map (p : Nat) : ∀ ts : List Tr, wKs p ts = ts.map fun t => parW p t (wTr t)
  | [] => by rw [wKs]; rfl
  | t :: ts => by rw [wKs, wKs_map p ts]; rfl
/-- trees as they are drawn -/
inductive Wt : Nat → Tr → Prop where
  | empty {n : Nat} : Wt (n + 1) .empty
  | set {n : Nat} {cs : List Nat} (h : cs.Sublist SG) : Wt (n + 1) (.set cs)
  | edge {n : Nat} {k : List Nat} (h : k.length ≤ 24) : Wt (n + 1) (.edge k)
  | same {n : Nat} {k : List Nat} (h : k.length ≤ 24) : Wt (n + 1) (.same k)
  | seq {n : Nat} {ts : List Tr} (h : ∀ t ∈ ts, Wt n t) : Wt (n + 1) (.seq ts)
  | alt {n : Nat} {ts : List Tr} (h : ∀ t ∈ ts, Wt n t) : Wt (n + 1) (.alt ts)
  | rep {n : Nat} {t : Tr} {lo : Int} {hi : Option Int} {lz : Bool} (h0 : 0 ≤ lo) (h1 : lo ≤ 40) (h2 : ∀ h, hi = some h → lo ≤ h ∧ h ≤ 40) (h : Wt n t) : Wt (n + 1) (.rep t lo hi lz)
  | grp {n : Nat} {k : List Nat} {t : Tr} (h1 : k.length ≤ 24) (h : Wt n t) : Wt (n + 1) (.grp k t)
  | look {n : Nat} {k : List Nat} {b : Bool} {t : Tr} (h1 : k.length ≤ 24) (h : Wt n t) : Wt (n + 1) (.look k b t)
theorem Wt.zero {t : Tr} (h : Wt 0 t) : False := by cases h
theorem Wt.mono : ∀ {n : Nat} {t : Tr}, Wt n t → ∀ m, n ≤ m → Wt m t
  | 0, _, h, _, _ => h.zero.elim
  | n + 1, _, h, 0, l => by omega
  | n + 1, _, h, m + 1, l => by
    cases h with
    | empty => exact .empty
    | set h => exact .set h
    | edge h => exact .edge h
    | same h => exact .same h
    | seq h => exact .seq fun t ht => (h t ht).mono m (by omega)
    | alt h => exact .alt fun t ht => (h t ht).mono m (by omega)
    | rep h0 h1 h2 h => exact .rep h0 h1 h2 (h.mono m (by omega))
    | grp h1 h => exact .grp h1 (h.mono m (by omega))
    | look h1 h => exact .look h1 (h.mono m (by omega))
theorem Wt.kid {n : Nat} {t c : Tr} (h : Wt (n + 1) t) (hc : c ∈ kids t) : Wt n c := by
  cases h with
  | empty => cases hc
  | set h => cases hc
  | edge h => cases hc
  | same h => cases hc
  | seq h => exact h c hc
  | alt h => exact h c hc
  | rep h0 h1 h2 h => obtain rfl := List.mem_singleton.mp hc; exact h
  | grp h1 h => obtain rfl := List.mem_singleton.mp hc; exact h
  | look h1 h => obtain rfl := List.mem_singleton.mp hc; exact h
theorem dec_len {i : Int} (h0 : 0 ≤ i) (h1 : i ≤ 40) : (dec i).length ≤ 2 := by
  obtain ⟨n, rfl⟩ := Int.eq_ofNat_of_zero_le h0
  have h : ∀ n : Fin 41, (dec ((n : Nat) : Int)).length ≤ 2 := by decide +kernel
  exact h ⟨n, by omega⟩
theorem log_dec {i : Int} (h0 : 0 ≤ i) (h1 : i ≤ 40) : i.natAbs.log2 < 1920 := by
  have h : i.natAbs ≤ 40 := by omega
  have : i.natAbs.log2 ≤ 40 := Nat.le_trans (Nat.log2_le_self _) h
  omega
theorem numW_len {lo : Int} {hi : Option Int} (h0 : 0 ≤ lo) (h1 : lo ≤ 40) (h2 : ∀ h, hi = some h → lo ≤ h ∧ h ≤ 40) : (numW lo hi).length ≤ 7 := by
  have a := dec_len h0 h1
  cases hi with
  | none =>
    rw [numW]
    split
    · split <;> simp
    · simp only [List.length_append, List.length_cons, List.length_nil]; omega
  | some h =>
    obtain ⟨h3, h4⟩ := h2 h rfl
    have b := dec_len (Int.le_trans h0 h3) h4
    rw [numW]
    split
    · simp only [List.length_append, List.length_cons, List.length_nil]; omega
    · split
      · simp
      · simp only [List.length_append, List.length_cons, List.length_nil]; omega
theorem wset_len {cs : List Nat} (h : cs.Sublist SG) : (wset cs).length ≤ 483 := by
  have lc := sub_len h
  have lw := wrs_len (runsL cs)
  have lw2 := wrs_len (runsL (cNot cs))
  have lr := runs_len cs
  have lr2 := runs_len (cNot cs)
  have nsub : (cNot cs).Sublist SG := List.filter_sublist
  have ln := sub_len nsub
  unfold wset
  split
  · have := esc_len SPc (cs.headD 0); omega
  · split
    · simp
    · split
      · simp only [List.length_append, List.length_cons, List.length_nil]; omega
      · simp only [List.length_append, List.length_cons, List.length_nil]; omega
theorem parW_len (p : Nat) (t : Tr) (w : List Nat) : (parW p t w).length ≤ w.length + 2 := by
  unfold parW
  split
  · simp only [List.length_append, List.length_cons, List.length_nil]; omega
  · omega
theorem jn_len (s : List Nat) : ∀ ss : List (List Nat), (jn s ss).length ≤ (ss.map (·.length)).sum + ss.length * s.length
  | [] => by simp [jn]
  | [x] => by simp [jn]
  | x :: y :: r => by
    have := jn_len s (y :: r)
    rw [jn, List.length_append, List.length_append, List.map_cons, List.sum_cons, List.length_cons, Nat.add_mul, Nat.one_mul]
    omega
theorem flat_len (ss : List (List Nat)) : ss.flatten.length = (ss.map (·.length)).sum := by
  induction ss with
  | nil => rfl
  | cons x r ih => rw [List.flatten_cons, List.length_append, List.map_cons, List.sum_cons, ih]
theorem wKs_len {p : Nat} : ∀ {ts : List Tr}, (∀ t ∈ ts, (wTr t).length + 20 ≤ 550 * sz t) → ((wKs p ts).map (·.length)).sum + 18 * ts.length ≤ 550 * szs ts
  | [], _ => by rw [wKs, szs]; simp
  | t :: ts, h => by
    have h1 := h t (List.mem_cons_self ..)
    have h2 := wKs_len (p := p) (ts := ts) fun t ht => h t (List.mem_cons_of_mem _ ht)
    have h3 := parW_len p t (wTr t)
    rw [wKs, szs, List.map_cons, List.sum_cons, List.length_cons]
    omega
theorem wTr_len : ∀ {n : Nat} {t : Tr}, Wt n t → (wTr t).length + 20 ≤ 550 * sz t
  | 0, _, h => h.zero.elim
  | n + 1, t, h => by
    cases h with
    | empty => rw [wTr]; have := sz_pos .empty; simp only [List.length_nil]; omega
    | set h => have := wset_len h; have := sz_pos (.set ‹_›); rw [wTr]; omega
    | edge h => rw [wTr]; have := sz_pos (.edge ‹_›); simp only [List.length_append, List.length_cons, List.length_nil]; omega
    | same h => rw [wTr]; have := sz_pos (.same ‹_›); simp only [List.length_append, List.length_cons, List.length_nil]; omega
    | seq h =>
      have := wKs_len (p := 2) fun t ht => wTr_len (h t ht)
      rw [wTr, sz, flat_len]; omega
    | @alt _ ts h =>
      have := wKs_len (p := 1) fun t ht => wTr_len (h t ht)
      have h2 := jn_len [124] (wKs 1 ts)
      have h3 : (wKs 1 ts).length = (ts).length := by rw [wKs_map, List.length_map]
      rw [show ([124] : List Nat).length = 1 from rfl, Nat.mul_one, h3] at h2
      rw [wTr, sz]; omega
    | @rep _ t lo hi lz h0 h1 h2 h =>
      have a := wTr_len h
      have b := numW_len h0 h1 h2
      have c := parW_len 3 t (wTr t)
      rw [wTr, sz, List.length_append, List.length_append]
      have d : (if lz = true then [126] else ([] : List Nat)).length ≤ 1 := by split <;> simp
      omega
    | grp h1 h =>
      have a := wTr_len h
      rw [wTr, sz]; simp only [List.length_append, List.length_cons, List.length_nil]; omega
    | @look _ k bb t h1 h =>
      have a := wTr_len h
      have d : (if bb = true then [] else ([110, 111, 116, 32] : List Nat)).length ≤ 4 := by split <;> simp
      rw [wTr, sz]; simp only [List.length_append, List.length_cons, List.length_nil]; omega
theorem toDas_map : ∀ ts : List Tr, toDas ts = ts.map toDa
  | [] => by rw [toDas]; rfl
  | t :: ts => by rw [toDas, toDas_map ts]; rfl
theorem toDas_len (ts : List Tr) : (toDas ts).length = ts.length := by rw [toDas_map, List.length_map]
theorem wKs_da (p : Nat) (ts : List Tr) : ((ts.filter fun _ => true).map fun t => Da.str (tx (parW p t (wTr t)))) = (wKs p ts).map fun s => Da.str (tx s) := by
  rw [wKs_map, List.map_map, List.filter_eq_self.mpr (fun _ _ => rfl)]
  rfl
end My
namespace My
open PySem L2
section
variable {K : PySem.W.Frag} {env : Evn} {S : Vl → Prop}
theorem ev_q0 (h : S (.da (.str (tx [])))) : Ev K env (tC (.str "")) S := ev_lit (by decide +kernel) h
theorem ev_q1 (h : S (.da (.str (tx [125])))) : Ev K env (tC (.str "}")) S := ev_lit (by decide +kernel) h
theorem ev_q2 (h : S (.da (.str (tx [123])))) : Ev K env (tC (.str "{")) S := ev_lit (by decide +kernel) h
theorem ev_q3 (h : S (.da (.str (tx [124])))) : Ev K env (tC (.str "|")) S := ev_lit (by decide +kernel) h
theorem ev_q4 (h : S (.da (.str (tx [126])))) : Ev K env (tC (.str "~")) S := ev_lit (by decide +kernel) h
theorem ev_q5 (h : S (.da (.str (tx [41])))) : Ev K env (tC (.str ")")) S := ev_lit (by decide +kernel) h
theorem ev_q6 (h : S (.da (.str (tx [40])))) : Ev K env (tC (.str "(")) S := ev_lit (by decide +kernel) h
theorem ev_q7 (h : S (.da (.str (tx [63])))) : Ev K env (tC (.str "?")) S := ev_lit (by decide +kernel) h
theorem ev_q8 (h : S (.da (.str (tx [43])))) : Ev K env (tC (.str "+")) S := ev_lit (by decide +kernel) h
theorem ev_q9 (h : S (.da (.str (tx [42])))) : Ev K env (tC (.str "*")) S := ev_lit (by decide +kernel) h
theorem ev_q10 (h : S (.da (.str (tx [60])))) : Ev K env (tC (.str "<")) S := ev_lit (by decide +kernel) h
theorem ev_q11 (h : S (.da (.str (tx [44, 62])))) : Ev K env (tC (.str ",>")) S := ev_lit (by decide +kernel) h
theorem ev_q12 (h : S (.da (.str (tx [62])))) : Ev K env (tC (.str ">")) S := ev_lit (by decide +kernel) h
theorem ev_q13 (h : S (.da (.str (tx [44])))) : Ev K env (tC (.str ",")) S := ev_lit (by decide +kernel) h
theorem ev_q14 (h : S (.da (.str (tx [115, 97, 109, 101, 32])))) : Ev K env (tC (.str "same ")) S := ev_lit (by decide +kernel) h
theorem ev_q15 (h : S (.da (.str (tx [58])))) : Ev K env (tC (.str ":")) S := ev_lit (by decide +kernel) h
theorem ev_q16 (h : S (.da (.str (tx [97, 115, 32])))) : Ev K env (tC (.str "as ")) S := ev_lit (by decide +kernel) h
theorem ev_q17 (h : S (.da (.str (tx [110, 111, 116, 32])))) : Ev K env (tC (.str "not ")) S := ev_lit (by decide +kernel) h
theorem ev_q18 (h : S (.da (.str (tx [9, 10, 32, 33, 34, 35, 36, 38, 39, 40, 41, 42, 43, 44, 45, 46, 47, 48, 49, 50, 51, 52, 53, 54, 55, 56, 57, 58, 59, 60, 61, 62, 63, 64, 65, 66, 67, 68, 69, 70, 71, 72, 73, 74, 75, 76, 77, 78, 79, 80, 81, 82, 83, 84, 85, 86, 87, 88, 89, 90, 91, 92, 93, 94, 95, 96])))) : Ev K env (tC (.str "\t\n !\"#$&'()*+,-./0123456789:;<=>?@ABCDEFGHIJKLMNOPQRSTUVWXYZ[\\]^_`")) S := ev_lit (by decide +kernel) h
theorem ev_q19 (h : S (.da (.str (tx [97, 98, 99, 100, 101, 102, 103, 104, 105, 106, 107, 108, 109, 110, 111, 112, 113, 114, 115, 116, 117, 118, 119, 120, 121, 122, 123, 124, 125, 126])))) : Ev K env (tC (.str "abcdefghijklmnopqrstuvwxyz{|}~")) S := ev_lit (by decide +kernel) h
theorem ev_q20 (h : S (.da (.str (tx [97, 98, 99, 100, 101, 102, 103, 104, 105, 106, 107, 108, 109, 110, 111, 112, 113, 114, 115, 116, 117, 118, 119, 120, 121, 122])))) : Ev K env (tC (.str "abcdefghijklmnopqrstuvwxyz")) S := ev_lit (by decide +kernel) h
theorem ev_q21 (h : S (.da (.str (tx [115, 116, 97, 114, 116])))) : Ev K env (tC (.str "start")) S := ev_lit (by decide +kernel) h
theorem ev_q22 (h : S (.da (.str (tx [101, 110, 100])))) : Ev K env (tC (.str "end")) S := ev_lit (by decide +kernel) h
theorem ev_q23 (h : S (.da (.str (tx [108, 105, 110, 101])))) : Ev K env (tC (.str "line")) S := ev_lit (by decide +kernel) h
theorem ev_q24 (h : S (.da (.str (tx [119, 111, 114, 100])))) : Ev K env (tC (.str "word")) S := ev_lit (by decide +kernel) h
theorem ev_q25 (h : S (.da (.str (tx [110, 111])))) : Ev K env (tC (.str "no")) S := ev_lit (by decide +kernel) h
theorem ev_q26 (h : S (.da (.str (tx [110, 111, 116])))) : Ev K env (tC (.str "not")) S := ev_lit (by decide +kernel) h
theorem ev_q27 (h : S (.da (.str (tx [97, 104, 101, 97, 100])))) : Ev K env (tC (.str "ahead")) S := ev_lit (by decide +kernel) h
theorem ev_q28 (h : S (.da (.str (tx [98, 101, 104, 105, 110, 100])))) : Ev K env (tC (.str "behind")) S := ev_lit (by decide +kernel) h
theorem ev_q29 (h : S (.da (.str (tx [100, 105, 103, 105, 116])))) : Ev K env (tC (.str "digit")) S := ev_lit (by decide +kernel) h
theorem ev_q30 (h : S (.da (.str (tx [108, 101, 116, 116, 101, 114])))) : Ev K env (tC (.str "letter")) S := ev_lit (by decide +kernel) h
theorem ev_q31 (h : S (.da (.str (tx [98, 108, 97, 110, 107])))) : Ev K env (tC (.str "blank")) S := ev_lit (by decide +kernel) h
theorem ev_q32 (h : S (.da (.str (tx [97, 115])))) : Ev K env (tC (.str "as")) S := ev_lit (by decide +kernel) h
theorem ev_q33 (h : S (.da (.str (tx [110])))) : Ev K env (tC (.str "n")) S := ev_lit (by decide +kernel) h
theorem ev_q34 (h : S (.da (.str (tx [116])))) : Ev K env (tC (.str "t")) S := ev_lit (by decide +kernel) h
theorem ev_q35 (h : S (.da (.str (tx [48, 49, 50, 51, 52, 53, 54, 55, 56, 57, 95])))) : Ev K env (tC (.str "0123456789_")) S := ev_lit (by decide +kernel) h
theorem ev_q36 (h : S (.da (.str (tx [97, 98, 99, 100, 101, 102, 103, 104, 105, 106, 107, 108, 109, 110, 111, 112, 113, 114, 115, 116, 117, 118, 119, 120, 121, 122, 48, 49, 50, 51, 52, 53, 54, 55, 56, 57, 95])))) : Ev K env (tC (.str "abcdefghijklmnopqrstuvwxyz0123456789_")) S := ev_lit (by decide +kernel) h
theorem ev_q37 (h : S (.da (.str (tx [9, 10, 45, 92, 124, 42, 43, 63, 60, 62, 40, 41, 91, 93, 123, 125, 46, 126, 94])))) : Ev K env (tC (.str "\t\n-\\|*+?<>()[]{}.~^")) S := ev_lit (by decide +kernel) h
theorem ev_q38 (h : S (.da (.str (tx [48, 49, 50, 51, 52, 53, 54, 55, 56, 57, 65, 66, 67, 68, 69, 70, 71, 72, 73, 74, 75, 76, 77, 78, 79, 80, 81, 82, 83, 84, 85, 86, 87, 88, 89, 90, 95, 97, 98, 99, 100, 101, 102, 103, 104, 105, 106, 107, 108, 109, 110, 111, 112, 113, 114, 115, 116, 117, 118, 119, 120, 121, 122])))) : Ev K env (tC (.str "0123456789ABCDEFGHIJKLMNOPQRSTUVWXYZ_abcdefghijklmnopqrstuvwxyz")) S := ev_lit (by decide +kernel) h
theorem ev_q39 (h : S (.da (.str (tx [108, 105, 110, 101, 32, 115, 116, 97, 114, 116])))) : Ev K env (tC (.str "line start")) S := ev_lit (by decide +kernel) h
theorem ev_q40 (h : S (.da (.str (tx [108, 105, 110, 101, 32, 101, 110, 100])))) : Ev K env (tC (.str "line end")) S := ev_lit (by decide +kernel) h
theorem ev_q41 (h : S (.da (.str (tx [119, 111, 114, 100, 32, 101, 100, 103, 101])))) : Ev K env (tC (.str "word edge")) S := ev_lit (by decide +kernel) h
theorem ev_q42 (h : S (.da (.str (tx [110, 111, 32, 119, 111, 114, 100, 32, 101, 100, 103, 101])))) : Ev K env (tC (.str "no word edge")) S := ev_lit (by decide +kernel) h
theorem ev_q43 (h : S (.da (.str (tx [123, 110, 111, 116, 32])))) : Ev K env (tC (.str "{not ")) S := ev_lit (by decide +kernel) h
theorem ev_q44 (h : S (.da (.str (tx [123, 115, 97, 109, 101, 32])))) : Ev K env (tC (.str "{same ")) S := ev_lit (by decide +kernel) h
theorem ev_q45 (h : S (.da (.str (tx [123, 97, 115, 32])))) : Ev K env (tC (.str "{as ")) S := ev_lit (by decide +kernel) h
end
end My
namespace My
open PySem L2
def topS (i : Nat) : Stmt := PySem.Challenge.pw_surespan_k10_written_pattern.main.body.getD i (.Pass ⟨0, 0, 0, 0⟩)
abbrev s_write_sign : Stmt := topS 5
abbrev n_write_sign : List Str := ["sign", "specials"]
theorem sc_write_sign : FnScope n_write_sign ["sign", "specials"] (defScope s_write_sign) := ⟨rfl, rfl, rfl, by decide +kernel, rfl, by decide +kernel, by decide +kernel⟩
abbrev s_rank : Stmt := topS 8
abbrev n_rank : List Str := ["sign"]
theorem sc_rank : FnScope n_rank ["sign"] (defScope s_rank) := ⟨rfl, rfl, rfl, by decide +kernel, rfl, by decide +kernel, by decide +kernel⟩
abbrev s_SignSet_Minit : Stmt := inClass (topS 10) 0
abbrev n_SignSet_Minit : List Str := ["self", "signs"]
theorem sc_SignSet_Minit : FnScope n_SignSet_Minit ["self", "signs"] (defScope s_SignSet_Minit) := ⟨rfl, rfl, rfl, by decide +kernel, rfl, by decide +kernel, by decide +kernel⟩
abbrev s_SignSet_between : Stmt := inClass (topS 10) 1
abbrev n_SignSet_between : List Str := ["first", "last"]
theorem sc_SignSet_between : FnScope n_SignSet_between ["first", "last"] (defScope s_SignSet_between) := ⟨rfl, rfl, rfl, by decide +kernel, rfl, by decide +kernel, by decide +kernel⟩
abbrev s_SignSet_members : Stmt := inClass (topS 10) 2
abbrev n_SignSet_members : List Str := ["self"]
theorem sc_SignSet_members : FnScope n_SignSet_members ["self"] (defScope s_SignSet_members) := ⟨rfl, rfl, rfl, by decide +kernel, rfl, by decide +kernel, by decide +kernel⟩
abbrev s_SignSet_ranges : Stmt := inClass (topS 10) 4
abbrev n_SignSet_ranges : List Str := ["self", "found", "in_run", "sign"]
theorem sc_SignSet_ranges : FnScope n_SignSet_ranges ["self"] (defScope s_SignSet_ranges) := ⟨rfl, rfl, rfl, by decide +kernel, rfl, by decide +kernel, by decide +kernel⟩
abbrev s_SignSet_Minvert : Stmt := inClass (topS 10) 9
abbrev n_SignSet_Minvert : List Str := ["self", "sign"]
theorem sc_SignSet_Minvert : FnScope n_SignSet_Minvert ["self"] (defScope s_SignSet_Minvert) := ⟨rfl, rfl, rfl, by decide +kernel, rfl, by decide +kernel, by decide +kernel⟩
abbrev s_SignSet_Mcontains : Stmt := inClass (topS 10) 10
abbrev n_SignSet_Mcontains : List Str := ["self", "sign"]
theorem sc_SignSet_Mcontains : FnScope n_SignSet_Mcontains ["self", "sign"] (defScope s_SignSet_Mcontains) := ⟨rfl, rfl, rfl, by decide +kernel, rfl, by decide +kernel, by decide +kernel⟩
abbrev s_SignSet_Mlen : Stmt := inClass (topS 10) 11
abbrev n_SignSet_Mlen : List Str := ["self"]
theorem sc_SignSet_Mlen : FnScope n_SignSet_Mlen ["self"] (defScope s_SignSet_Mlen) := ⟨rfl, rfl, rfl, by decide +kernel, rfl, by decide +kernel, by decide +kernel⟩
abbrev s_write_set : Stmt := topS 16
abbrev n_write_set : List Str := ["signs", "members", "others", "direct", "negated"]
theorem sc_write_set : FnScope n_write_set ["signs"] (defScope s_write_set) := ⟨rfl, rfl, rfl, by decide +kernel, rfl, by decide +kernel, by decide +kernel⟩
abbrev s_write_members : Stmt := topS 17
abbrev n_write_members : List Str := ["members", "first", "last"]
theorem sc_write_members : FnScope n_write_members ["members"] (defScope s_write_members) := ⟨rfl, rfl, rfl, by decide +kernel, rfl, by decide +kernel, by decide +kernel⟩
abbrev s_write_run : Stmt := topS 18
abbrev n_write_run : List Str := ["first", "last", "written", "sign"]
theorem sc_write_run : FnScope n_write_run ["first", "last"] (defScope s_write_run) := ⟨rfl, rfl, rfl, by decide +kernel, rfl, by decide +kernel, by decide +kernel⟩
abbrev s_write_pattern : Stmt := topS 19
abbrev n_write_pattern : List Str := ["tree", "kind", "branch", "part"]
theorem sc_write_pattern : FnScope n_write_pattern ["tree"] (defScope s_write_pattern) := ⟨rfl, rfl, rfl, by decide +kernel, rfl, by decide +kernel, by decide +kernel⟩
abbrev s_write_within : Stmt := topS 20
abbrev n_write_within : List Str := ["tree", "kinds", "written"]
theorem sc_write_within : FnScope n_write_within ["tree", "kinds"] (defScope s_write_within) := ⟨rfl, rfl, rfl, by decide +kernel, rfl, by decide +kernel, by decide +kernel⟩
abbrev s_write_numbers : Stmt := topS 21
abbrev n_write_numbers : List Str := ["least", "most"]
theorem sc_write_numbers : FnScope n_write_numbers ["least", "most"] (defScope s_write_numbers) := ⟨rfl, rfl, rfl, by decide +kernel, rfl, by decide +kernel, by decide +kernel⟩
abbrev s_write_brace : Stmt := topS 22
abbrev n_write_brace : List Str := ["tree"]
theorem sc_write_brace : FnScope n_write_brace ["tree"] (defScope s_write_brace) := ⟨rfl, rfl, rfl, by decide +kernel, rfl, by decide +kernel, by decide +kernel⟩
abbrev s_Ldraw : Stmt := topS 24
abbrev n_Ldraw : List Str := ["_law_script", "_law_digits", "_law_one", "_law_two", "_law_cell", "_law_rest", "_law_k"]
theorem sc_Ldraw : FnScope n_Ldraw ["_law_script"] (defScope s_Ldraw) := ⟨rfl, rfl, rfl, by decide +kernel, rfl, by decide +kernel, by decide +kernel⟩
abbrev s_Lnext : Stmt := topS 25
abbrev n_Lnext : List Str := ["_law_draw_here", "_law_many", "_law_at"]
theorem sc_Lnext : FnScope n_Lnext ["_law_draw_here", "_law_many"] (defScope s_Lnext) := ⟨rfl, rfl, rfl, by decide +kernel, rfl, by decide +kernel, by decide +kernel⟩
abbrev s_Lsigns : Stmt := topS 26
abbrev n_Lsigns : List Str := ["_law_signs_here"]
theorem sc_Lsigns : FnScope n_Lsigns [] (defScope s_Lsigns) := ⟨rfl, rfl, rfl, by decide +kernel, rfl, by decide +kernel, by decide +kernel⟩
abbrev s_Lany_name : Stmt := topS 27
abbrev n_Lany_name : List Str := ["_law_draw_here", "_law_small", "_law_words_here", "_law_name", "_law_k"]
theorem sc_Lany_name : FnScope n_Lany_name ["_law_draw_here"] (defScope s_Lany_name) := ⟨rfl, rfl, rfl, by decide +kernel, rfl, by decide +kernel, by decide +kernel⟩
abbrev s_Lnear_name : Stmt := topS 28
abbrev n_Lnear_name : List Str := ["_law_draw_here", "_law_name", "_law_more", "_law_choice", "_law_at"]
theorem sc_Lnear_name : FnScope n_Lnear_name ["_law_draw_here", "_law_name"] (defScope s_Lnear_name) := ⟨rfl, rfl, rfl, by decide +kernel, rfl, by decide +kernel, by decide +kernel⟩
abbrev s_Lgroup_name : Stmt := topS 29
abbrev n_Lgroup_name : List Str := ["_law_draw_here", "_law_known", "_law_choice", "_law_name"]
theorem sc_Lgroup_name : FnScope n_Lgroup_name ["_law_draw_here", "_law_known"] (defScope s_Lgroup_name) := ⟨rfl, rfl, rfl, by decide +kernel, rfl, by decide +kernel, by decide +kernel⟩
abbrev s_Lsome_set : Stmt := topS 30
abbrev n_Lsome_set : List Str := ["_law_draw_here", "_law_signs_here", "_law_choice", "_law_chosen", "_law_k", "_law_low", "_law_flip", "_law_sign"]
theorem sc_Lsome_set : FnScope n_Lsome_set ["_law_draw_here"] (defScope s_Lsome_set) := ⟨rfl, rfl, rfl, by decide +kernel, rfl, by decide +kernel, by decide +kernel⟩
abbrev s_Lwords : Stmt := topS 31
abbrev n_Lwords : List Str := []
theorem sc_Lwords : FnScope n_Lwords [] (defScope s_Lwords) := ⟨rfl, rfl, rfl, by decide +kernel, rfl, by decide +kernel, by decide +kernel⟩
abbrev s_Lnumbers : Stmt := topS 32
abbrev n_Lnumbers : List Str := ["_law_draw_here", "_law_fuel", "_law_least", "_law_choice"]
theorem sc_Lnumbers : FnScope n_Lnumbers ["_law_draw_here", "_law_fuel"] (defScope s_Lnumbers) := ⟨rfl, rfl, rfl, by decide +kernel, rfl, by decide +kernel, by decide +kernel⟩
abbrev s_Ltimes : Stmt := topS 33
abbrev n_Ltimes : List Str := ["_law_numbers_here"]
theorem sc_Ltimes : FnScope n_Ltimes ["_law_numbers_here"] (defScope s_Ltimes) := ⟨rfl, rfl, rfl, by decide +kernel, rfl, by decide +kernel, by decide +kernel⟩
abbrev s_Ltip : Stmt := topS 34
abbrev n_Ltip : List Str := ["_law_draw_here", "_law_outside", "_law_known", "_law_choice"]
theorem sc_Ltip : FnScope n_Ltip ["_law_draw_here", "_law_outside", "_law_known"] (defScope s_Ltip) := ⟨rfl, rfl, rfl, by decide +kernel, rfl, by decide +kernel, by decide +kernel⟩
abbrev s_Lform : Stmt := topS 35
abbrev n_Lform : List Str := ["_law_draw_here", "_law_fuel", "_law_nodes", "_law_depth", "_law_outside", "_law_known", "_law_choice", "_law_many", "_law_great", "_law_parts", "_law_k", "_law_numbers_here", "_law_lazy", "_law_body", "_law_name", "_law_side", "_law_wanted"]
theorem sc_Lform : FnScope n_Lform ["_law_draw_here", "_law_fuel", "_law_nodes", "_law_depth", "_law_outside", "_law_known"] (defScope s_Lform) := ⟨rfl, rfl, rfl, by decide +kernel, rfl, by decide +kernel, by decide +kernel⟩
abbrev s_Lchain : Stmt := topS 36
abbrev n_Lchain : List Str := ["_law_draw_here", "_law_depth", "_law_outside", "_law_known", "_law_choice", "_law_tip_here", "_law_rest", "_law_name", "_law_most"]
theorem sc_Lchain : FnScope n_Lchain ["_law_draw_here", "_law_depth", "_law_outside", "_law_known"] (defScope s_Lchain) := ⟨rfl, rfl, rfl, by decide +kernel, rfl, by decide +kernel, by decide +kernel⟩
abbrev s_Ldrawn_tree : Stmt := topS 37
abbrev n_Ldrawn_tree : List Str := ["_law_draw_here", "_law_fuel", "_law_nodes", "_law_known", "_law_choice", "_law_parts", "_law_k", "_law_sign", "_law_first", "_law_second"]
theorem sc_Ldrawn_tree : FnScope n_Ldrawn_tree ["_law_draw_here", "_law_fuel", "_law_nodes"] (defScope s_Ldrawn_tree) := ⟨rfl, rfl, rfl, by decide +kernel, rfl, by decide +kernel, by decide +kernel⟩
abbrev s_Lbelow : Stmt := topS 38
abbrev n_Lbelow : List Str := ["_law_tree"]
theorem sc_Lbelow : FnScope n_Lbelow ["_law_tree"] (defScope s_Lbelow) := ⟨rfl, rfl, rfl, by decide +kernel, rfl, by decide +kernel, by decide +kernel⟩
abbrev s_Lescaped : Stmt := topS 39
abbrev n_Lescaped : List Str := ["_law_sign", "_law_marked"]
theorem sc_Lescaped : FnScope n_Lescaped ["_law_sign", "_law_marked"] (defScope s_Lescaped) := ⟨rfl, rfl, rfl, by decide +kernel, rfl, by decide +kernel, by decide +kernel⟩
abbrev s_Linside : Stmt := topS 40
abbrev n_Linside : List Str := ["_law_text", "_law_signs_here", "_law_marked", "_law_written_here", "_law_run", "_law_k", "_law_sign"]
theorem sc_Linside : FnScope n_Linside ["_law_text"] (defScope s_Linside) := ⟨rfl, rfl, rfl, by decide +kernel, rfl, by decide +kernel, by decide +kernel⟩
abbrev s_Lwritten_set : Stmt := topS 41
abbrev n_Lwritten_set : List Str := ["_law_text", "_law_rest", "_law_direct", "_law_other", "_law_sign"]
theorem sc_Lwritten_set : FnScope n_Lwritten_set ["_law_text"] (defScope s_Lwritten_set) := ⟨rfl, rfl, rfl, by decide +kernel, rfl, by decide +kernel, by decide +kernel⟩
abbrev s_Lmark : Stmt := topS 42
abbrev n_Lmark : List Str := ["_law_least", "_law_most", "_law_lazy", "_law_mark_here"]
theorem sc_Lmark : FnScope n_Lmark ["_law_least", "_law_most", "_law_lazy"] (defScope s_Lmark) := ⟨rfl, rfl, rfl, by decide +kernel, rfl, by decide +kernel, by decide +kernel⟩
abbrev s_Lwritten : Stmt := topS 43
abbrev n_Lwritten : List Str := ["_law_tree", "_law_place", "_law_kind", "_law_head", "_law_text", "_law_bare", "_law_branch", "_law_part"]
theorem sc_Lwritten : FnScope n_Lwritten ["_law_tree", "_law_place"] (defScope s_Lwritten) := ⟨rfl, rfl, rfl, by decide +kernel, rfl, by decide +kernel, by decide +kernel⟩
abbrev s_law : Stmt := topS 44
abbrev n_law : List Str := ["_law_script", "_law_draw_here", "_law_nodes", "_law_first", "_law_second", "_law_tree", "_law_found"]
theorem sc_law : FnScope n_law ["_law_script"] (defScope s_law) := ⟨rfl, rfl, rfl, by decide +kernel, rfl, by decide +kernel, by decide +kernel⟩
structure Top (K : PySem.W.Frag) (mg : Str → Option Value) : Type where
  tw : World
  f_write_sign : Addr
  fd_write_sign : FuncData
  F_write_sign : Fun K "write_sign" "write_sign" s_write_sign f_write_sign fd_write_sign
  B_write_sign : Binds K fd_write_sign ["sign", "specials"] []
  g_write_sign : mg "write_sign" = some (.ref f_write_sign)
  f_rank : Addr
  fd_rank : FuncData
  F_rank : Fun K "rank" "rank" s_rank f_rank fd_rank
  B_rank : Binds K fd_rank ["sign"] []
  g_rank : mg "rank" = some (.ref f_rank)
  f_write_set : Addr
  fd_write_set : FuncData
  F_write_set : Fun K "write_set" "write_set" s_write_set f_write_set fd_write_set
  B_write_set : Binds K fd_write_set ["signs"] []
  g_write_set : mg "write_set" = some (.ref f_write_set)
  f_write_members : Addr
  fd_write_members : FuncData
  F_write_members : Fun K "write_members" "write_members" s_write_members f_write_members fd_write_members
  B_write_members : Binds K fd_write_members ["members"] []
  g_write_members : mg "write_members" = some (.ref f_write_members)
  f_write_run : Addr
  fd_write_run : FuncData
  F_write_run : Fun K "write_run" "write_run" s_write_run f_write_run fd_write_run
  B_write_run : Binds K fd_write_run ["first", "last"] []
  g_write_run : mg "write_run" = some (.ref f_write_run)
  f_write_pattern : Addr
  fd_write_pattern : FuncData
  F_write_pattern : Fun K "write_pattern" "write_pattern" s_write_pattern f_write_pattern fd_write_pattern
  B_write_pattern : Binds K fd_write_pattern ["tree"] []
  g_write_pattern : mg "write_pattern" = some (.ref f_write_pattern)
  f_write_within : Addr
  fd_write_within : FuncData
  F_write_within : Fun K "write_within" "write_within" s_write_within f_write_within fd_write_within
  B_write_within : Binds K fd_write_within ["tree", "kinds"] []
  g_write_within : mg "write_within" = some (.ref f_write_within)
  f_write_numbers : Addr
  fd_write_numbers : FuncData
  F_write_numbers : Fun K "write_numbers" "write_numbers" s_write_numbers f_write_numbers fd_write_numbers
  B_write_numbers : Binds K fd_write_numbers ["least", "most"] []
  g_write_numbers : mg "write_numbers" = some (.ref f_write_numbers)
  f_write_brace : Addr
  fd_write_brace : FuncData
  F_write_brace : Fun K "write_brace" "write_brace" s_write_brace f_write_brace fd_write_brace
  B_write_brace : Binds K fd_write_brace ["tree"] []
  g_write_brace : mg "write_brace" = some (.ref f_write_brace)
  f_Ldraw : Addr
  fd_Ldraw : FuncData
  F_Ldraw : Fun K "_law_draw" "_law_draw" s_Ldraw f_Ldraw fd_Ldraw
  B_Ldraw : Binds K fd_Ldraw ["_law_script"] []
  g_Ldraw : mg "_law_draw" = some (.ref f_Ldraw)
  f_Lnext : Addr
  fd_Lnext : FuncData
  F_Lnext : Fun K "_law_next" "_law_next" s_Lnext f_Lnext fd_Lnext
  B_Lnext : Binds K fd_Lnext ["_law_draw_here", "_law_many"] []
  g_Lnext : mg "_law_next" = some (.ref f_Lnext)
  f_Lsigns : Addr
  fd_Lsigns : FuncData
  F_Lsigns : Fun K "_law_signs" "_law_signs" s_Lsigns f_Lsigns fd_Lsigns
  B_Lsigns : Binds K fd_Lsigns [] []
  g_Lsigns : mg "_law_signs" = some (.ref f_Lsigns)
  f_Lany_name : Addr
  fd_Lany_name : FuncData
  F_Lany_name : Fun K "_law_any_name" "_law_any_name" s_Lany_name f_Lany_name fd_Lany_name
  B_Lany_name : Binds K fd_Lany_name ["_law_draw_here"] []
  g_Lany_name : mg "_law_any_name" = some (.ref f_Lany_name)
  f_Lnear_name : Addr
  fd_Lnear_name : FuncData
  F_Lnear_name : Fun K "_law_near_name" "_law_near_name" s_Lnear_name f_Lnear_name fd_Lnear_name
  B_Lnear_name : Binds K fd_Lnear_name ["_law_draw_here", "_law_name"] []
  g_Lnear_name : mg "_law_near_name" = some (.ref f_Lnear_name)
  f_Lgroup_name : Addr
  fd_Lgroup_name : FuncData
  F_Lgroup_name : Fun K "_law_group_name" "_law_group_name" s_Lgroup_name f_Lgroup_name fd_Lgroup_name
  B_Lgroup_name : Binds K fd_Lgroup_name ["_law_draw_here", "_law_known"] []
  g_Lgroup_name : mg "_law_group_name" = some (.ref f_Lgroup_name)
  f_Lsome_set : Addr
  fd_Lsome_set : FuncData
  F_Lsome_set : Fun K "_law_some_set" "_law_some_set" s_Lsome_set f_Lsome_set fd_Lsome_set
  B_Lsome_set : Binds K fd_Lsome_set ["_law_draw_here"] []
  g_Lsome_set : mg "_law_some_set" = some (.ref f_Lsome_set)
  f_Lwords : Addr
  fd_Lwords : FuncData
  F_Lwords : Fun K "_law_words" "_law_words" s_Lwords f_Lwords fd_Lwords
  B_Lwords : Binds K fd_Lwords [] []
  g_Lwords : mg "_law_words" = some (.ref f_Lwords)
  f_Lnumbers : Addr
  fd_Lnumbers : FuncData
  F_Lnumbers : Fun K "_law_numbers" "_law_numbers" s_Lnumbers f_Lnumbers fd_Lnumbers
  B_Lnumbers : Binds K fd_Lnumbers ["_law_draw_here", "_law_fuel"] []
  g_Lnumbers : mg "_law_numbers" = some (.ref f_Lnumbers)
  f_Ltimes : Addr
  fd_Ltimes : FuncData
  F_Ltimes : Fun K "_law_times" "_law_times" s_Ltimes f_Ltimes fd_Ltimes
  B_Ltimes : Binds K fd_Ltimes ["_law_numbers_here"] []
  g_Ltimes : mg "_law_times" = some (.ref f_Ltimes)
  f_Ltip : Addr
  fd_Ltip : FuncData
  F_Ltip : Fun K "_law_tip" "_law_tip" s_Ltip f_Ltip fd_Ltip
  B_Ltip : Binds K fd_Ltip ["_law_draw_here", "_law_outside", "_law_known"] []
  g_Ltip : mg "_law_tip" = some (.ref f_Ltip)
  f_Lform : Addr
  fd_Lform : FuncData
  F_Lform : Fun K "_law_form" "_law_form" s_Lform f_Lform fd_Lform
  B_Lform : Binds K fd_Lform ["_law_draw_here", "_law_fuel", "_law_nodes", "_law_depth", "_law_outside", "_law_known"] []
  g_Lform : mg "_law_form" = some (.ref f_Lform)
  f_Lchain : Addr
  fd_Lchain : FuncData
  F_Lchain : Fun K "_law_chain" "_law_chain" s_Lchain f_Lchain fd_Lchain
  B_Lchain : Binds K fd_Lchain ["_law_draw_here", "_law_depth", "_law_outside", "_law_known"] []
  g_Lchain : mg "_law_chain" = some (.ref f_Lchain)
  f_Ldrawn_tree : Addr
  fd_Ldrawn_tree : FuncData
  F_Ldrawn_tree : Fun K "_law_drawn_tree" "_law_drawn_tree" s_Ldrawn_tree f_Ldrawn_tree fd_Ldrawn_tree
  B_Ldrawn_tree : Binds K fd_Ldrawn_tree ["_law_draw_here", "_law_fuel", "_law_nodes"] []
  g_Ldrawn_tree : mg "_law_drawn_tree" = some (.ref f_Ldrawn_tree)
  f_Lbelow : Addr
  fd_Lbelow : FuncData
  F_Lbelow : Fun K "_law_below" "_law_below" s_Lbelow f_Lbelow fd_Lbelow
  B_Lbelow : Binds K fd_Lbelow ["_law_tree"] []
  g_Lbelow : mg "_law_below" = some (.ref f_Lbelow)
  f_Lescaped : Addr
  fd_Lescaped : FuncData
  F_Lescaped : Fun K "_law_escaped" "_law_escaped" s_Lescaped f_Lescaped fd_Lescaped
  B_Lescaped : Binds K fd_Lescaped ["_law_sign", "_law_marked"] []
  g_Lescaped : mg "_law_escaped" = some (.ref f_Lescaped)
  f_Linside : Addr
  fd_Linside : FuncData
  F_Linside : Fun K "_law_inside" "_law_inside" s_Linside f_Linside fd_Linside
  B_Linside : Binds K fd_Linside ["_law_text"] []
  g_Linside : mg "_law_inside" = some (.ref f_Linside)
  f_Lwritten_set : Addr
  fd_Lwritten_set : FuncData
  F_Lwritten_set : Fun K "_law_written_set" "_law_written_set" s_Lwritten_set f_Lwritten_set fd_Lwritten_set
  B_Lwritten_set : Binds K fd_Lwritten_set ["_law_text"] []
  g_Lwritten_set : mg "_law_written_set" = some (.ref f_Lwritten_set)
  f_Lmark : Addr
  fd_Lmark : FuncData
  F_Lmark : Fun K "_law_mark" "_law_mark" s_Lmark f_Lmark fd_Lmark
  B_Lmark : Binds K fd_Lmark ["_law_least", "_law_most", "_law_lazy"] []
  g_Lmark : mg "_law_mark" = some (.ref f_Lmark)
  f_Lwritten : Addr
  fd_Lwritten : FuncData
  F_Lwritten : Fun K "_law_written" "_law_written" s_Lwritten f_Lwritten fd_Lwritten
  B_Lwritten : Binds K fd_Lwritten ["_law_tree", "_law_place"] []
  g_Lwritten : mg "_law_written" = some (.ref f_Lwritten)
  f_law : Addr
  fd_law : FuncData
  F_law : Fun K "law" "law" s_law f_law fd_law
  B_law : Binds K fd_law ["_law_script"] []
  g_law : mg "law" = some (.ref f_law)
  c_SignSet : Addr
  g_SignSet : mg "SignSet" = some (.ref c_SignSet)
  i_SignSet : C8.InsC K c_SignSet
  sf_SignSet : PySem.W.selfFirst K c_SignSet = true
  na_SignSet_members : NoAttr K c_SignSet "_members"
  cr_SignSet : ClX.CRead K c_SignSet (.type "type")
  f_SignSet_Minit : Addr
  fd_SignSet_Minit : FuncData
  F_SignSet_Minit : FunD K "__init__" "SignSet.__init__" (defArgs s_SignSet_Minit) (defBody s_SignSet_Minit) (defScope s_SignSet_Minit) [.str ""] [] f_SignSet_Minit fd_SignSet_Minit
  B_SignSet_Minit : Binds K fd_SignSet_Minit ["self", "signs"] []
  ds_SignSet_Minit : List Value
  vs_SignSet_Minit : Vals [.str ""] ds_SignSet_Minit
  BD_SignSet_Minit : Binds K fd_SignSet_Minit ["self", "signs"] ds_SignSet_Minit
  mk_SignSet : Mk K c_SignSet f_SignSet_Minit
  f_SignSet_between : Addr
  fd_SignSet_between : FuncData
  F_SignSet_between : Fun K "between" "SignSet.between" s_SignSet_between f_SignSet_between fd_SignSet_between
  B_SignSet_between : Binds K fd_SignSet_between ["first", "last"] []
  p_SignSet_between : Addr
  sm_SignSet_between : SMet K c_SignSet (.type "type") "between" p_SignSet_between f_SignSet_between
  f_SignSet_members : Addr
  fd_SignSet_members : FuncData
  F_SignSet_members : Fun K "members" "SignSet.members" s_SignSet_members f_SignSet_members fd_SignSet_members
  B_SignSet_members : Binds K fd_SignSet_members ["self"] []
  p_SignSet_members : Addr
  pr_SignSet_members : PropOf K c_SignSet "members" p_SignSet_members f_SignSet_members
  f_SignSet_ranges : Addr
  fd_SignSet_ranges : FuncData
  F_SignSet_ranges : Fun K "ranges" "SignSet.ranges" s_SignSet_ranges f_SignSet_ranges fd_SignSet_ranges
  B_SignSet_ranges : Binds K fd_SignSet_ranges ["self"] []
  p_SignSet_ranges : Addr
  pr_SignSet_ranges : PropOf K c_SignSet "ranges" p_SignSet_ranges f_SignSet_ranges
  f_SignSet_Minvert : Addr
  fd_SignSet_Minvert : FuncData
  F_SignSet_Minvert : Fun K "__invert__" "SignSet.__invert__" s_SignSet_Minvert f_SignSet_Minvert fd_SignSet_Minvert
  B_SignSet_Minvert : Binds K fd_SignSet_Minvert ["self"] []
  at_SignSet_Minvert : PySem.W.findIn K (.ref c_SignSet) "__invert__" = some (some (.ref f_SignSet_Minvert))
  fn_SignSet_Minvert : PySem.W.isFn K (.ref f_SignSet_Minvert) = true
  f_SignSet_Mcontains : Addr
  fd_SignSet_Mcontains : FuncData
  F_SignSet_Mcontains : Fun K "__contains__" "SignSet.__contains__" s_SignSet_Mcontains f_SignSet_Mcontains fd_SignSet_Mcontains
  B_SignSet_Mcontains : Binds K fd_SignSet_Mcontains ["self", "sign"] []
  at_SignSet_Mcontains : PySem.W.findIn K (.ref c_SignSet) "__contains__" = some (some (.ref f_SignSet_Mcontains))
  fn_SignSet_Mcontains : PySem.W.isFn K (.ref f_SignSet_Mcontains) = true
  f_SignSet_Mlen : Addr
  fd_SignSet_Mlen : FuncData
  F_SignSet_Mlen : Fun K "__len__" "SignSet.__len__" s_SignSet_Mlen f_SignSet_Mlen fd_SignSet_Mlen
  B_SignSet_Mlen : Binds K fd_SignSet_Mlen ["self"] []
  at_SignSet_Mlen : PySem.W.findIn K (.ref c_SignSet) "__len__" = some (some (.ref f_SignSet_Mlen))
  fn_SignSet_Mlen : PySem.W.isFn K (.ref f_SignSet_Mlen) = true
  t_SPECIAL_SIGNS : Tok
  g_SPECIAL_SIGNS : mg "SPECIAL_SIGNS" = some (.str "\\|*+?<>()[]{}.~^" t_SPECIAL_SIGNS)
  t_BRACKET_SPECIALS : Tok
  g_BRACKET_SPECIALS : mg "BRACKET_SPECIALS" = some (.str "\\[]^-" t_BRACKET_SPECIALS)
  d_ESCAPES : Addr
  g_ESCAPES : mg "ESCAPES" = some (.ref d_ESCAPES)
  kt_ESCAPES : KTab K tw d_ESCAPES [("\n", "\\n"), ("\t", "\\t")]
  t_SIGNS : Tok
  g_SIGNS : mg "SIGNS" = some (.str "\t\n !\"#$&'()*+,-./0123456789:;<=>?@ABCDEFGHIJKLMNOPQRSTUVWXYZ[\\]^_`abcdefghijklmnopqrstuvwxyz{|}~" t_SIGNS)
  d_BRANCH_KINDS : Addr
  g_BRANCH_KINDS : mg "BRANCH_KINDS" = some (.ref d_BRANCH_KINDS)
  kt_BRANCH_KINDS : KTup K d_BRANCH_KINDS ["alt"]
  d_ITEM_KINDS : Addr
  g_ITEM_KINDS : mg "ITEM_KINDS" = some (.ref d_ITEM_KINDS)
  kt_ITEM_KINDS : KTup K d_ITEM_KINDS ["alt", "empty", "seq"]
  d_BODY_KINDS : Addr
  g_BODY_KINDS : mg "BODY_KINDS" = some (.ref d_BODY_KINDS)
  kt_BODY_KINDS : KTup K d_BODY_KINDS ["alt", "empty", "seq", "repeat"]
  t_SHORTEST_RANGE : Tok
  g_SHORTEST_RANGE : mg "SHORTEST_RANGE" = some (.int 3 t_SHORTEST_RANGE)
  b_int : mg "int" = none
  b_isinstance : mg "isinstance" = none
  b_len : mg "len" = none
  b_list : mg "list" = none
  b_max : mg "max" = none
  b_min : mg "min" = none
  b_range : mg "range" = none
  b_set : mg "set" = none
  b_sorted : mg "sorted" = none
  b_str : mg "str" = none
  b_tuple : mg "tuple" = none
end My
namespace My
open PySem L2
local macro_rules | `(tactic| walk_at "rd") => `(tactic| simp only [tSeq, tNext, tAsg, tOp, tUn, tC, tVar, gName, gSub, tCons, tNil, tCB, tIfS, tIf, tTest, tB, tAnd, tOr, tNot, tAndV, tOrV, tNotV, tRet, tRetN, tDrop, tLst, tTup, tCall, tSl, tNoPart, tPart, tM0, tM1, tBM, tBM0, tYes, tFor_eq, tLc_eq, iList, iRng1, iRng2, iStr, sg_tx, c_empty, rstrip_sign, find_sign, cut_last, cut_to, cut_from, cut_mid, cut_to_lit, cut_from_lit, and_assoc, flat_rep, List.length_replicate, tx_len, tx_eq, tx_app, tx_cps, rI0, rI, rU, rEq, rNe, rIxL, rIxS, rIxT, rSetL, rAppend, rPopAt, rSlS, rSlL, rIn, rMulS, rLtD, rJoin, rLenQ, rListOf,  tRevS, 
  scal, L2.start, List.map_cons, List.map_nil, List.length_cons, List.length_nil, List.replicate, List.cons_append, List.nil_append, List.append_nil,
  List.getElem?_cons_zero, List.getElem?_cons_succ, List.set_cons_zero, List.set_cons_succ, Nat.sub_zero, Nat.reduceSub, Nat.reduceAdd, Nat.zero_add, id_eq, Int.reduceToNat, exists_or,
  V.int.injEq, V.str.injEq, V.bl.injEq, V.ref.injEq, Option.some.injEq, List.cons.injEq, exists_and_left, exists_eq_left', exists_eq_left, exists_eq, exists_eq', and_true, true_and, reduceCtorEq, false_and, and_false, exists_false, false_or, or_false, decide_eq_true_eq, Bool.not_eq_true', decide_eq_false_iff_not, Bool.not_not, Bool.false_eq_true, ↓reduceIte, if_true, if_false])

local macro_rules | `(tactic| walk_at "ne") => `(tactic| first | assumption | (refine Ne.symm ?_; assumption) | exact (ne_of_none (by assumption) (by assumption)) | exact (ne_of_none (by assumption) (by assumption)).symm)
local macro_rules | `(tactic| walk_at "hp") => `(tactic| first | assumption | exact upd_same | exact (upd_ne (by walk_at "ne")).trans (by walk_at "hp"))
local macro_rules | `(tactic| walk_at "st1") => `(tactic| first
  | refine ⟨_, Or.inl (Or.inl (by walk_at "hp")), ?_⟩
  | refine ⟨_, Or.inl (Or.inl (Or.inl (by walk_at "hp"))), ?_⟩
  | refine ⟨_, (show _ = some (HO.lst _) by walk_at "hp"), ?_⟩
  | refine ⟨_, rfl, ?_⟩
  | refine ⟨(rfl : ("str" : String) = "str"), ?_⟩
  | refine ⟨Or.inr ⟨by decide, by decide⟩, ?_⟩
  | refine ⟨⟨by decide, by decide⟩, ?_⟩
  | refine ⟨by decide, ?_⟩
  | refine ⟨by assumption, ?_⟩)
local macro_rules | `(tactic| walk_at "st") => `(tactic| repeat walk_at "st1")
local macro_rules | `(tactic| walk_at "go") => `(tactic| repeat first | walk_at "st1" | walk_at "rd")
section
variable {P : Program} {w : World} {K : PySem.W.Frag} {mg : Str → Option Value} {base : Heap}
def sp_Lsigns : Sp := fun vs H Q _ => vs = [] ∧ Q (.str (tx SG)) H
theorem atI_ints {ds : List Int} {a : Int} (h0 : 0 ≤ a) (h1 : a < ((ds.map V.int).length : Nat)) : ∃ z, atI (ds.map V.int) a = some (V.int z) := by
  obtain ⟨n, rfl⟩ := Int.eq_ofNat_of_zero_le h0
  have h2 : n < ds.length := by rw [List.length_map] at h1; omega
  refine ⟨ds[n], atI_nat ?_⟩
  rw [List.getElem?_map, List.getElem?_eq_getElem h2]
  rfl
def sp_Lnext : Sp := fun vs H Q _ => ∃ (d l : Addr) (m : Int), vs = [.ref d, .int m] ∧ Dry H d l ∧ 0 < m ∧ ∀ (r : Int) (H' : Hp), 0 ≤ r → r < m → Dry H' d l → But d H H' → Q (.int r) H'
theorem ok_Lnext (T : Top K mg) : FnOk P w K mg base CX0 1 T.f_Lnext T.fd_Lnext ["_law_draw_here", "_law_many"] sp_Lnext := by
  refine T.F_Lnext.ok sc_Lnext (fun vs H Q E h => ?_) (fun cdv A outer s H vs Q E hr h => ?_)
  · obtain ⟨d, l, m, rfl, _⟩ := h
    rfl
  · obtain ⟨d, l, m, rfl, hD, hm, q⟩ := h
    refine ⟨_, (pss_cons (ps_set (i := 2) sc_Lnext.nd rfl (Or.inl rfl) (pe_ix (r := rIxL K) ix_list (pv 0) pe_int (fun _ _ => rfl)))
       (pss_cons (ps_if (pt_cmpR op_lt (pv 2) (pe_callB (r := rLenQ K) call_lenQ (by rfl) T.b_len PySem.boot_len (pa_cons (pe_ix (r := rIxL K) ix_list (pv 0) pe_int (fun _ _ => rfl)) pa_nil)) (nomark _)) (pss_cons (ps_asg (pe_op op_add (pv 2) pe_int) (pg_sub (pv 0) pe_int set_list))
       (pss_one (ps_ret (pe_op op_mod (pe_callTy call_int1 (by rfl) T.b_int (by decide +kernel) (pa_cons (pe_ix (r := rIxL K) ix_list (pe_ix (r := rIxL K) ix_list (pv 0) pe_int (fun _ _ => rfl)) (pv 2) (fun _ _ => rfl)) pa_nil)) (pv 1))))) pss_nil)
       (pss_cons (ps_asg (pe_op op_mod (pe_callTy call_int1 (by rfl) T.b_int (by decide +kernel) (pa_cons (pe_op op_add (pe_op op_mul (pe_ix (r := rIxL K) ix_list (pv 0) pe_int (fun _ _ => rfl)) pe_int) pe_int) pa_nil)) pe_int) (pg_sub (pv 0) pe_int set_list))
       (pss_cons (ps_asg (pe_op op_mod (pe_callTy call_int1 (by rfl) T.b_int (by decide +kernel) (pa_cons (pe_op op_add (pe_op op_mul (pe_ix (r := rIxL K) ix_list (pv 0) pe_int (fun _ _ => rfl)) pe_int) pe_int) pa_nil)) pe_int) (pg_sub (pv 0) pe_int set_list))
       (pss_one (ps_ret (pe_op op_mod (pe_callTy call_int1 (by rfl) T.b_int (by decide +kernel) (pa_cons (pe_op op_add (pe_op op_fdiv (pe_ix (r := rIxL K) ix_list (pv 0) pe_int (fun _ _ => rfl)) pe_int) (pe_op op_fdiv (pe_ix (r := rIxL K) ix_list (pv 0) pe_int (fun _ _ => rfl)) pe_int)) pa_nil)) (pv 1)))))))), ?_⟩
    obtain ⟨a, b, c, e0, ds, hn, h1, h2, h3⟩ := hD
    have nl : l ≠ d := hn.symm
    walk_at "rd"
    walk_at "go"
    split
    · rename_i hlt
      walk_at "go"
      obtain ⟨z, hz⟩ := atI_ints h3 hlt
      refine ⟨_, hz, .inl ⟨_, rfl, hm, ?_⟩⟩
      exact q _ _ (Int.emod_nonneg _ (by omega)) (Int.emod_lt_of_pos _ hm) ⟨a + 1, b, c, e0, ds, hn, upd_same, (upd_ne nl).trans h2, by omega⟩ .put
    · walk_at "go"
      refine q _ _ (Int.emod_nonneg _ (by omega)) (Int.emod_lt_of_pos _ hm) ⟨a, _, _, e0, ds, hn, upd_same, (upd_ne nl).trans ((upd_ne nl).trans h2), h3⟩ (.trans .put .put)
theorem ok_Lsigns (T : Top K mg) : FnOk P w K mg base CX0 1 T.f_Lsigns T.fd_Lsigns [] sp_Lsigns := by
  refine T.F_Lsigns.ok sc_Lsigns (fun vs H Q E h => ?_) (fun cdv A outer s H vs Q E hr h => ?_)
  · obtain ⟨rfl, _⟩ := h
    rfl
  · obtain ⟨rfl, q⟩ := h
    refine ⟨_, (pss_cons (ps_set (i := 0) sc_Lsigns.nd rfl (Or.inl rfl) pe_str)
       (pss_one (ps_ret (pe_op op_add_str (pv 0) pe_str)))), ?_⟩
    walk_at "rd"
    refine ⟨by decide, ?_⟩
    exact sgs_tx ▸ q
end
end My
namespace My
open PySem L2
local macro_rules | `(tactic| walk_at "rd") => `(tactic| simp only [tSeq, tNext, tAsg, tOp, tUn, tC, tVar, gName, gSub, tCons, tNil, tCB, tIfS, tIf, tTest, tB, tAnd, tOr, tNot, tAndV, tOrV, tNotV, tRet, tRetN, tDrop, tLst, tTup, tCall, tSl, tNoPart, tPart, tM0, tM1, tBM, tBM0, tYes, tFor_eq, tLc_eq, iList, iRng1, iRng2, iStr, sg_tx, c_empty, rstrip_sign, find_sign, cut_last, cut_to, cut_from, cut_mid, cut_to_lit, cut_from_lit, and_assoc, flat_rep, List.length_replicate, tx_len, tx_eq, tx_app, tx_cps, rI0, rI, rU, rEq, rNe, rIxL, rIxS, rIxT, rSetL, rAppend, rPopAt, rSlS, rSlL, rIn, rMulS, rLtD, rJoin, rLenQ, rListOf,  tRevS, 
  scal, L2.start, List.map_cons, List.map_nil, List.length_cons, List.length_nil, List.replicate, List.cons_append, List.nil_append, List.append_nil,
  List.getElem?_cons_zero, List.getElem?_cons_succ, List.set_cons_zero, List.set_cons_succ, Nat.sub_zero, Nat.reduceSub, Nat.reduceAdd, Nat.zero_add, id_eq, Int.reduceToNat, exists_or,
  V.int.injEq, V.str.injEq, V.bl.injEq, V.ref.injEq, Option.some.injEq, List.cons.injEq, exists_and_left, exists_eq_left', exists_eq_left, exists_eq, exists_eq', and_true, true_and, reduceCtorEq, false_and, and_false, exists_false, false_or, or_false, decide_eq_true_eq, Bool.not_eq_true', decide_eq_false_iff_not, Bool.not_not, Bool.false_eq_true, ↓reduceIte, if_true, if_false])

local macro_rules | `(tactic| walk_at "ne") => `(tactic| first | assumption | (refine Ne.symm ?_; assumption) | exact (ne_of_none (by assumption) (by assumption)) | exact (ne_of_none (by assumption) (by assumption)).symm)
local macro_rules | `(tactic| walk_at "hp") => `(tactic| first | assumption | exact upd_same | exact (upd_ne (by walk_at "ne")).trans (by walk_at "hp"))
local macro_rules | `(tactic| walk_at "st1") => `(tactic| first
  | refine ⟨_, Or.inl (Or.inl (by walk_at "hp")), ?_⟩
  | refine ⟨_, Or.inl (Or.inl (Or.inl (by walk_at "hp"))), ?_⟩
  | refine ⟨_, (show _ = some (HO.lst _) by walk_at "hp"), ?_⟩
  | refine ⟨_, rfl, ?_⟩
  | refine ⟨(rfl : ("str" : String) = "str"), ?_⟩
  | refine ⟨Or.inr ⟨by decide, by decide⟩, ?_⟩
  | refine ⟨⟨by decide, by decide⟩, ?_⟩
  | refine ⟨by decide, ?_⟩
  | refine ⟨by assumption, ?_⟩)
local macro_rules | `(tactic| walk_at "st") => `(tactic| repeat walk_at "st1")
local macro_rules | `(tactic| walk_at "go") => `(tactic| repeat first | walk_at "st1" | walk_at "rd")
local macro_rules | `(tactic| walk_at "wk") => `(tactic| repeat first | exact Wk.nil | apply Wk.yes | apply Wk.no)
local macro_rules | `(tactic| walk_at "ds1") => `(tactic| first
  | ((with_reducible show Sv _ _ _ _); (first | (((with_reducible apply sv_putE); next => rfl)) | (with_reducible apply sv_seq) | (with_reducible apply sv_if) | (((with_reducible apply sv_retO); next => rfl)) | (with_reducible refine sv_retN (el_lst ?_)) | (with_reducible refine sv_retN (el_call ?_)) | (with_reducible refine sv_retN (el_lc ?_)) | (with_reducible refine sv_retN (el_list ?_)) | (with_reducible refine sv_retN (el_cat ?_)) | (with_reducible apply sv_ret) | (with_reducible refine sv_setN (el_lst ?_)) | (with_reducible refine sv_setN (el_call ?_)) | (with_reducible refine sv_setN (el_lc ?_)) | (with_reducible refine sv_setN (el_list ?_)) | (with_reducible refine sv_setN (el_cat ?_)) | (with_reducible refine sv_setN (el_callD rfl ?_)) | (((with_reducible apply sv_putD); next => rfl)) | (with_reducible apply sv_set) | (((with_reducible apply sv_app); next => rfl)) | (((with_reducible apply sv_ext); next => rfl)) | (((with_reducible apply sv_put); next => rfl)) | (with_reducible apply sv_for) | (with_reducible apply sv_nil) | (with_reducible apply sv_retNone) | (with_reducible apply sv_drop)))
  | ((with_reducible show Ev _ _ _ _); (first | (with_reducible apply ev_q0) | (with_reducible apply ev_q1) | (with_reducible apply ev_q2) | (with_reducible apply ev_q3) | (with_reducible apply ev_q4) | (with_reducible apply ev_q5) | (with_reducible apply ev_q6) | (with_reducible apply ev_q7) | (with_reducible apply ev_q8) | (with_reducible apply ev_q9) | (with_reducible apply ev_q10) | (with_reducible apply ev_q11) | (with_reducible apply ev_q12) | (with_reducible apply ev_q13) | (with_reducible apply ev_q14) | (with_reducible apply ev_q15) | (with_reducible apply ev_q16) | (with_reducible apply ev_q17) | (with_reducible apply ev_q18) | (with_reducible apply ev_q19) | (with_reducible apply ev_q20) | (with_reducible apply ev_q21) | (with_reducible apply ev_q22) | (with_reducible apply ev_q23) | (with_reducible apply ev_q24) | (with_reducible apply ev_q25) | (with_reducible apply ev_q26) | (with_reducible apply ev_q27) | (with_reducible apply ev_q28) | (with_reducible apply ev_q29) | (with_reducible apply ev_q30) | (with_reducible apply ev_q31) | (with_reducible apply ev_q32) | (with_reducible apply ev_q33) | (with_reducible apply ev_q34) | (with_reducible apply ev_q35) | (with_reducible apply ev_q36) | (with_reducible apply ev_q37) | (with_reducible apply ev_q38) | (with_reducible apply ev_q39) | (with_reducible apply ev_q40) | (with_reducible apply ev_q41) | (with_reducible apply ev_q42) | (with_reducible apply ev_q43) | (with_reducible apply ev_q44) | (with_reducible apply ev_q45) | (with_reducible apply ev_catX) | (with_reducible apply ev_inS) | (with_reducible apply ev_ninS) | (with_reducible apply ev_joinE) | (with_reducible apply ev_joinB) | (with_reducible apply ev_wset) | (with_reducible apply ev_strIN) | (with_reducible apply ev_fmt) | (with_reducible apply ev_joined) | (with_reducible apply ev_slX) | (with_reducible apply ev_lenX) | (with_reducible apply ev_sgs) | (((with_reducible apply ev_ixD); next => rfl)) | (((with_reducible apply ev_ktup); next => assumption)) | (((with_reducible apply ev_var); next => rfl)) | (((with_reducible apply ev_varO); next => rfl)) | (((with_reducible apply ev_varL); next => rfl)) | (((with_reducible apply ev_callD); next => rfl)) | (((with_reducible apply ev_dr); next => rfl)) | (with_reducible apply ev_max2) | (with_reducible apply ev_min2) | (with_reducible apply ev_index) | (with_reducible apply ev_eqD) | (with_reducible apply ev_neD) | (with_reducible apply ev_str) | (with_reducible apply ev_int) | (with_reducible apply ev_bl) | (with_reducible apply ev_non) | (with_reducible apply ev_ixT) | (with_reducible apply ev_call) | (with_reducible apply ev_eq) | (with_reducible apply ev_tup) | (with_reducible apply ev_in) | (with_reducible apply ev_ixL) | (with_reducible apply ev_ne) | (with_reducible apply ev_i0) | (with_reducible apply ev_ib) | (with_reducible apply ev_isi) | (with_reducible apply ev_isN) | (with_reducible apply ev_notN) | (with_reducible apply ev_isB) | (with_reducible apply ev_notB) | (with_reducible apply ev_slT2) | (with_reducible apply ev_catU) | (with_reducible apply ev_iC) | (with_reducible apply ev_ixS) | (with_reducible apply ev_u) | (with_reducible apply ev_notV) | (with_reducible apply ev_if) | (with_reducible apply ev_len) | (with_reducible apply ev_tuple) | (with_reducible apply ev_all) | (with_reducible refine Ev.ofNew (el_lst ?_)) | (with_reducible refine Ev.ofNew (el_call ?_)) | (with_reducible refine Ev.ofNew (el_lc ?_)) | (with_reducible refine Ev.ofNew (el_list ?_)) | (with_reducible refine Ev.ofNew (el_cat ?_))))
  | ((with_reducible show Es _ _ _ _); (first | (with_reducible apply es_cons) | (with_reducible apply es_nil)))
  | ((with_reducible show Tv _ _ _ _); (first | (with_reducible apply tv_test) | (with_reducible apply tv_not) | (with_reducible apply tv_and) | (with_reducible apply tv_or) | (with_reducible apply tv_b) | (with_reducible apply tv_yes) | (with_reducible apply tv_tr)))
  | ((with_reducible show Eln _ _ _ _); (first | (with_reducible apply el_lst) | (with_reducible apply el_call) | (with_reducible apply el_lc) | (with_reducible apply el_list) | (with_reducible apply el_cat)))
  | ((with_reducible show Eo _ _ _ _); (first | (with_reducible apply eo_no) | (with_reducible apply eo_some)))
  | ((with_reducible show Iv _ _ _ _); (first | (with_reducible apply iv_tup) | (with_reducible apply iv_range1) | (with_reducible apply iv_str) | (with_reducible apply iv_enumT) | (((with_reducible apply iv_listV); next => rfl)) | (((with_reducible apply iv_listO); next => rfl)) | (with_reducible refine iv_listN (el_lst ?_)) | (with_reducible refine iv_listN (el_call ?_)) | (with_reducible refine iv_listN (el_lc ?_)) | (with_reducible refine iv_listN (el_list ?_)) | (with_reducible refine iv_listN (el_cat ?_))))
  | ((with_reducible show Gv _ _ _ _ _ _); (first | (with_reducible apply gv_name) | (with_reducible apply gv_tup2) | (with_reducible apply gv_tup3)))
  | ((with_reducible show seqO _ _ _ _); (first | (with_reducible apply o_nx) | (with_reducible apply o_rt) | (with_reducible apply o_rn) | (with_reducible apply o_bk) | (with_reducible apply o_ct)))
  | ((with_reducible show jnI _ _ _); (first | (with_reducible apply ji_nx) | (with_reducible apply ji_rt) | (with_reducible apply ji_rn) | (with_reducible apply ji_bk) | (with_reducible apply ji_ct)))
  | ((with_reducible show jnO _ _ _); (first | (with_reducible apply j_nx) | (with_reducible apply j_rt) | (with_reducible apply j_rn) | (with_reducible apply j_bk) | (with_reducible apply j_ct)))
  | ((with_reducible show lpO _ _ _ _); (first | (with_reducible apply l_rt) | (with_reducible apply l_rn) | (with_reducible apply l_ct) | (with_reducible apply l_nx')))
  | ((with_reducible show retO _ _); (first | (with_reducible apply r_rt) | (with_reducible apply r_nx)))
  | (with_reducible apply r_rn)
  | ((with_reducible show KIf _ _ _); (first | (((with_reducible apply k_ift); next => first | decide +kernel | rfl)) | (((with_reducible apply k_iff); next => first | decide +kernel | rfl))))
  | ((with_reducible show KEq _ _ _); (first | (with_reducible apply k_eqIN) | (with_reducible apply k_eqNI) | (with_reducible apply k_eqS) | (with_reducible apply k_eqI) | (with_reducible apply k_eqB) | (((with_reducible apply k_eqO); next => rfl; next => rfl; next => rfl; next => rfl))))
  | ((with_reducible show KDas _ _); (first | (with_reducible apply k_das_0) | (with_reducible apply k_das_1) | (with_reducible apply k_das_2) | (with_reducible apply k_das_3) | (with_reducible apply k_das_4) | (with_reducible apply k_das_5) | (with_reducible apply k_das_6) | (with_reducible apply k_das_7) | (with_reducible apply k_das_8) | (with_reducible apply k_das_9) | (with_reducible apply k_das_10) | (with_reducible apply k_das_11) | (with_reducible apply k_das_12) | (with_reducible apply k_das_13) | (with_reducible apply k_das_14) | (with_reducible apply k_das_15) | (with_reducible apply k_das_16)))
  | ((with_reducible show KIn _ _ _); (first | (with_reducible apply k_inT_0) | (with_reducible apply k_inL_0) | (with_reducible apply k_inT_1) | (with_reducible apply k_inL_1) | (with_reducible apply k_inT_2) | (with_reducible apply k_inL_2) | (with_reducible apply k_inT_3) | (with_reducible apply k_inL_3) | (with_reducible apply k_inT_4) | (with_reducible apply k_inL_4) | (with_reducible apply k_inT_5) | (with_reducible apply k_inL_5) | (with_reducible apply k_inT_6) | (with_reducible apply k_inL_6) | (with_reducible apply k_inT_7) | (with_reducible apply k_inL_7) | (with_reducible apply k_inT_8) | (with_reducible apply k_inL_8) | (with_reducible apply k_inT_9) | (with_reducible apply k_inL_9) | (with_reducible apply k_inT_10) | (with_reducible apply k_inL_10) | (with_reducible apply k_inT_11) | (with_reducible apply k_inL_11) | (with_reducible apply k_inT_12) | (with_reducible apply k_inL_12) | (with_reducible apply k_inN) | (((with_reducible apply k_inT); next => rfl; next => rfl)) | (((with_reducible apply k_inL); next => rfl; next => rfl))))
  | ((with_reducible show KEqD _ _ _); (first | (with_reducible apply k_eqIntsC) | (with_reducible apply k_eqInts0) | (with_reducible apply k_eqInts)))
  | (with_reducible apply k_put0)
  | ((with_reducible show KTy _ _ _); (first | (with_reducible apply k_ty_tup_tuple) | (with_reducible apply k_ty_tup_bool) | (with_reducible apply k_ty_tup_int) | (with_reducible apply k_ty_tup_str) | (with_reducible apply k_ty_tup_list) | (with_reducible apply k_ty_ls_tuple) | (with_reducible apply k_ty_ls_bool) | (with_reducible apply k_ty_ls_int) | (with_reducible apply k_ty_ls_str) | (with_reducible apply k_ty_ls_list) | (with_reducible apply k_ty_int_tuple) | (with_reducible apply k_ty_int_bool) | (with_reducible apply k_ty_int_int) | (with_reducible apply k_ty_int_str) | (with_reducible apply k_ty_int_list) | (with_reducible apply k_ty_str_tuple) | (with_reducible apply k_ty_str_bool) | (with_reducible apply k_ty_str_int) | (with_reducible apply k_ty_str_str) | (with_reducible apply k_ty_str_list) | (with_reducible apply k_ty_bl_tuple) | (with_reducible apply k_ty_bl_bool) | (with_reducible apply k_ty_bl_int) | (with_reducible apply k_ty_bl_str) | (with_reducible apply k_ty_bl_list) | (with_reducible apply k_ty_non_tuple) | (with_reducible apply k_ty_non_bool) | (with_reducible apply k_ty_non_int) | (with_reducible apply k_ty_non_str) | (with_reducible apply k_ty_non_list)))
  | ((with_reducible show KSl _ _ _ _); (first | (with_reducible apply k_sl_1) | (with_reducible apply k_sl_2) | (with_reducible apply k_sl_m2) | (with_reducible apply k_sl_m3) | (with_reducible apply k_sl_m4) | (with_reducible apply k_sl_m5)))
  | ((with_reducible show KCat _ _ _); (first | (with_reducible apply k_cat1) | (with_reducible apply k_cat2) | (with_reducible apply k_cat3) | (with_reducible apply k_cat23)))
  | ((with_reducible show KLen _ _); (first | (with_reducible apply k_lenT) | (with_reducible apply k_lenL)))
  | ((with_reducible show KSq _ _); (first | (with_reducible apply k_sqT) | (with_reducible apply k_sqL)))
  | (with_reducible apply k_i2s)
  | (with_reducible apply k_d)
  | ((with_reducible show KT _ _); (first | (with_reducible apply k_t) | (with_reducible apply k_tT)))
  | (with_reducible apply k_l)
  | (with_reducible apply k_i1)
  | (with_reducible apply k_i2)
  | (with_reducible apply k_b)
  | (with_reducible apply k_n)
  | (with_reducible apply k_tx)
  | (with_reducible apply k_t1)
  | (with_reducible apply k_ts)
  | with_reducible apply k_ix_0
  | with_reducible apply k_ix_1
  | ((with_reducible apply k_ixT2); next => rfl)
  | with_reducible apply gx_name
  | with_reducible apply gx_tup2
  | with_reducible apply gx_tup3
  | with_reducible refine (fun (p : Addr) => (?_ : seqO _ _ _ _))
  | with_reducible refine (fun (p : Addr) => (?_ : lpO _ _ _ _))
  | with_reducible refine (fun (p : Addr) => (?_ : liO _ _))
  | ((with_reducible show KTr _ _); (first | (with_reducible apply k_trI) | (with_reducible apply k_trB)))
  | (with_reducible apply k_sg)
  | ((with_reducible show Sx _ _ _ _ _ _ _ _); (first | (with_reducible apply sx_seq) | (with_reducible apply sx_if) | (with_reducible refine sx_retN (el_lst ?_)) | (with_reducible refine sx_retN (el_call ?_)) | (with_reducible refine sx_retN (el_lc ?_)) | (with_reducible refine sx_retN (el_list ?_)) | (with_reducible refine sx_retN (el_cat ?_)) | (with_reducible apply sx_for)))
  | ((with_reducible show Ej _ _ _ _ _); (first | (with_reducible apply ej_nil) | (with_reducible apply ej_cons)))
  | ((with_reducible show liO _ _); (first | (with_reducible apply li_nx) | (with_reducible apply li_bk) | (with_reducible apply li_ct)))
  | ((with_reducible show sqX _ _ _ _ _ _ _ _); (first | (with_reducible apply q_nx) | (with_reducible apply q_rt) | (with_reducible apply q_rn) | (with_reducible apply q_bk) | (with_reducible apply q_ct)))
  | (with_reducible apply lx_nx)
  | ((with_reducible show Ems _ _ _ _); (first | (with_reducible apply ems_cons) | (with_reducible apply ems_nil)))
  | (with_reducible apply k_tj))
local macro_rules | `(tactic| walk_at "ds") => `(tactic| repeat walk_at "ds1")
local macro_rules | `(tactic| walk_at "d0") => `(tactic| (try simp only [cx_K, cx_K', List.map_cons, List.map_nil]))
local macro_rules | `(tactic| walk_at "da") => `(tactic| repeat first | walk_at "ds1" | (with_reducible apply sv_cut) | (with_reducible apply sx_cut))
local macro_rules | `(tactic| walk_at "lx") => `(tactic| (refine toL ?_; (try simp only [List.length_append, List.length_cons, List.length_nil]); omega))
local macro_rules | `(tactic| walk_at "dx") => `(tactic| repeat first | walk_at "ds1" | (with_reducible apply sv_cut) | (with_reducible apply sx_cut) | (with_reducible refine k_x2 (by walk_at "lx") ?_) | (with_reducible refine k_stI (by assumption) ?_) | (with_reducible refine k_stN ?_) | (with_reducible refine k_lx (by walk_at "lx") ?_) | (with_reducible refine k_ift (decT (by omega)) ?_) | (with_reducible refine k_iff (decF (by omega)) ?_))
section
variable {P : Program} {w : World} {K : PySem.W.Frag} {mg : Str → Option Value} {base : Heap}
theorem k_dr_next {m : Int} {S : Da → Prop} (h : 0 < m) (q : ∀ r, 0 ≤ r → r < m → S (.int r)) : DrOk K sp_Lnext [.da (.int m)] S := fun d l ws H Q E hD r k => by
  obtain ⟨v, rfl, r1⟩ := vls_one r
  have e := vl_atm r1 rfl
  subst e
  exact ⟨d, l, m, rfl, hD, h, fun r H' h0 h1 hD' hB => k (.int r) _ H' (q r h0 h1) hD' hB (.int r)⟩
theorem ev_sgs {K : PySem.W.Frag} {env : Evn} {S : Vl → Prop} {X : XK} (h : S (.da (.str (tx SG)))) : Ev K env (tCall sp_Lsigns [] X tNil) S := fun H0 dl hs σ H Q E k => ⟨rfl, k _ _ H h (.refl _ _) E.dlat (.str _)⟩
end
end My
namespace My
open PySem L2
local macro_rules | `(tactic| walk_at "rd") => `(tactic| simp only [tSeq, tNext, tAsg, tOp, tUn, tC, tVar, gName, gSub, tCons, tNil, tCB, tIfS, tIf, tTest, tB, tAnd, tOr, tNot, tAndV, tOrV, tNotV, tRet, tRetN, tDrop, tLst, tTup, tCall, tSl, tNoPart, tPart, tM0, tM1, tBM, tBM0, tYes, tFor_eq, tLc_eq, iList, iRng1, iRng2, iStr, sg_tx, c_empty, rstrip_sign, find_sign, cut_last, cut_to, cut_from, cut_mid, cut_to_lit, cut_from_lit, and_assoc, flat_rep, List.length_replicate, tx_len, tx_eq, tx_app, tx_cps, rI0, rI, rU, rEq, rNe, rIxL, rIxS, rIxT, rSetL, rAppend, rPopAt, rSlS, rSlL, rIn, rMulS, rLtD, rJoin, rLenQ, rListOf,  tRevS, 
  scal, L2.start, List.map_cons, List.map_nil, List.length_cons, List.length_nil, List.replicate, List.cons_append, List.nil_append, List.append_nil,
  List.getElem?_cons_zero, List.getElem?_cons_succ, List.set_cons_zero, List.set_cons_succ, Nat.sub_zero, Nat.reduceSub, Nat.reduceAdd, Nat.zero_add, id_eq, Int.reduceToNat, exists_or,
  V.int.injEq, V.str.injEq, V.bl.injEq, V.ref.injEq, Option.some.injEq, List.cons.injEq, exists_and_left, exists_eq_left', exists_eq_left, exists_eq, exists_eq', and_true, true_and, reduceCtorEq, false_and, and_false, exists_false, false_or, or_false, decide_eq_true_eq, Bool.not_eq_true', decide_eq_false_iff_not, Bool.not_not, Bool.false_eq_true, ↓reduceIte, if_true, if_false])

local macro_rules | `(tactic| walk_at "ne") => `(tactic| first | assumption | (refine Ne.symm ?_; assumption) | exact (ne_of_none (by assumption) (by assumption)) | exact (ne_of_none (by assumption) (by assumption)).symm)
local macro_rules | `(tactic| walk_at "hp") => `(tactic| first | assumption | exact upd_same | exact (upd_ne (by walk_at "ne")).trans (by walk_at "hp"))
local macro_rules | `(tactic| walk_at "st1") => `(tactic| first
  | refine ⟨_, Or.inl (Or.inl (by walk_at "hp")), ?_⟩
  | refine ⟨_, Or.inl (Or.inl (Or.inl (by walk_at "hp"))), ?_⟩
  | refine ⟨_, (show _ = some (HO.lst _) by walk_at "hp"), ?_⟩
  | refine ⟨_, rfl, ?_⟩
  | refine ⟨(rfl : ("str" : String) = "str"), ?_⟩
  | refine ⟨Or.inr ⟨by decide, by decide⟩, ?_⟩
  | refine ⟨⟨by decide, by decide⟩, ?_⟩
  | refine ⟨by decide, ?_⟩
  | refine ⟨by assumption, ?_⟩)
local macro_rules | `(tactic| walk_at "st") => `(tactic| repeat walk_at "st1")
local macro_rules | `(tactic| walk_at "go") => `(tactic| repeat first | walk_at "st1" | walk_at "rd")
section
variable {P : Program} {w : World} {K : PySem.W.Frag} {mg : Str → Option Value} {base : Heap}
def sp_rank : Sp := fun vs H Q _ => ∃ (c : Nat), vs = [.str (tx [c])] ∧ c ∈ SG ∧ Q (.int (fi c SG : Nat)) H
theorem ok_rank (T : Top K mg) : FnOk P w K mg base CX0 1 T.f_rank T.fd_rank ["sign"] sp_rank := by
  refine T.F_rank.ok sc_rank (fun vs H Q E h => ?_) (fun cdv A outer s H vs Q E hr h => ?_)
  · obtain ⟨a, rfl, _⟩ := h
    rfl
  · obtain ⟨c, rfl, hc, q⟩ := h
    refine ⟨_, (pss_one (ps_ret (pe_bm PySem.F.plainAttrs_str PySem.F.slot_str_index PySem.F.type_str_index mt_indexS (pe_glob (v := .str _) rfl T.g_SIGNS ⟨_, rfl⟩) (pa_cons (pv 0) pa_nil)))), ?_⟩
    walk_at "rd"
    exact ⟨rfl, SG, sgs_tx2, hc, q⟩
end
end My
namespace My
open PySem L2
local macro_rules | `(tactic| walk_at "rd") => `(tactic| simp only [sFld, tM1, tMake, tProp, tFld, rOwn2, rOwnIn, rOwn1, rSetTx, rSortedTx, tSeq, tNext, tAsg, tOp, tUn, tC, tVar, gName, gSub, tCons, tNil, tCB, tIfS, tIf, tTest, tB, tAnd, tOr, tNot, tAndV, tOrV, tNotV, tRet, tRetN, tDrop, tLst, tTup, tCall, tSl, tNoPart, tPart, tM0, tM1, tBM, tBM0, tYes, tFor_eq, tLc_eq, iList, iRng1, iRng2, iStr, sg_tx, c_empty, rstrip_sign, find_sign, cut_last, cut_to, cut_from, cut_mid, cut_to_lit, cut_from_lit, and_assoc, flat_rep, List.length_replicate, tx_len, tx_eq, tx_app, tx_cps, rI0, rI, rU, rEq, rNe, rIxL, rIxS, rIxT, rSetL, rAppend, rPopAt, rSlS, rSlL, rIn, rMulS, rLtD, rJoin, rLenQ, rListOf,  tRevS, 
  scal, L2.start, List.map_cons, List.map_nil, List.length_cons, List.length_nil, List.replicate, List.cons_append, List.nil_append, List.append_nil,
  List.getElem?_cons_zero, List.getElem?_cons_succ, List.set_cons_zero, List.set_cons_succ, Nat.sub_zero, Nat.reduceSub, Nat.reduceAdd, Nat.zero_add, id_eq, Int.reduceToNat, exists_or,
  V.int.injEq, V.str.injEq, V.bl.injEq, V.ref.injEq, Option.some.injEq, List.cons.injEq, exists_and_left, exists_eq_left', exists_eq_left, exists_eq, exists_eq', and_true, true_and, reduceCtorEq, false_and, and_false, exists_false, false_or, or_false, decide_eq_true_eq, Bool.not_eq_true', decide_eq_false_iff_not, Bool.not_not, Bool.false_eq_true, ↓reduceIte, if_true, if_false])

local macro_rules | `(tactic| walk_at "ne") => `(tactic| first | assumption | (refine Ne.symm ?_; assumption) | exact (ne_of_none (by assumption) (by assumption)) | exact (ne_of_none (by assumption) (by assumption)).symm)
local macro_rules | `(tactic| walk_at "hp") => `(tactic| first | assumption | exact upd_same | exact (upd_ne (by walk_at "ne")).trans (by walk_at "hp"))
local macro_rules | `(tactic| walk_at "st1") => `(tactic| first
  | refine ⟨_, Or.inl (Or.inl (by walk_at "hp")), ?_⟩
  | refine ⟨_, Or.inl (Or.inl (Or.inl (by walk_at "hp"))), ?_⟩
  | refine ⟨_, (show _ = some (HO.lst _) by walk_at "hp"), ?_⟩
  | refine ⟨_, rfl, ?_⟩
  | refine ⟨(rfl : ("str" : String) = "str"), ?_⟩
  | refine ⟨Or.inr ⟨by decide, by decide⟩, ?_⟩
  | refine ⟨⟨by decide, by decide⟩, ?_⟩
  | refine ⟨by decide, ?_⟩
  | refine ⟨by assumption, ?_⟩)
local macro_rules | `(tactic| walk_at "st") => `(tactic| repeat walk_at "st1")
local macro_rules | `(tactic| walk_at "go") => `(tactic| repeat first | walk_at "st1" | walk_at "rd")
section
variable {P : Program} {w : World} {K : PySem.W.Frag} {mg : Str → Option Value} {base : Heap}
def sp_Minit (C : Addr) : Sp := fun vs H Q _ => ∃ (x dx : Addr) (cs : List Nat), vs = [.ref x, .str (tx cs)] ∧ H x = some (.ins C dx []) ∧ (∀ c ∈ cs, c ∈ SG) ∧ cs.length ≤ 1000 ∧ ∀ H', But x H H' → Sgs C H' x (asc cs) → Q .non H'
theorem ok_SignSet_Minit (T : Top K mg) : FnOk P w K mg base CX0 1 T.f_SignSet_Minit T.fd_SignSet_Minit ["self", "signs"] (sp_Minit T.c_SignSet) := by
  refine T.F_SignSet_Minit.ok sc_SignSet_Minit (fun vs H Q E h => ?_) (fun cdv A outer s H vs Q E hr h => ?_)
  · obtain ⟨x, dx, cs, rfl, _⟩ := h
    rfl
  · obtain ⟨x, dx, cs, rfl, hx, hs, hl, q⟩ := h
    refine ⟨_, (pss_one (ps_fld (pv 0) (pe_m1 (r := rJoin K) PySem.F.slot_str_join PySem.F.type_str_join mt_joinQ pe_str (pe_callB (r := rSortedTx _) (cr_sortedTx rfl (Nat.lt_of_le_of_lt (Nat.add_le_add_left (by decide : 16 ≤ 64) _) hr.units)) (by rfl) T.b_sorted (by decide +kernel) (pa_cons (pe_callTy (r := rSetTx _) (cr_setTx rfl) (by rfl) T.b_set (by decide +kernel) (pa_cons (pv 1) pa_nil)) pa_nil))) rfl)), ?_⟩
    walk_at "rd"
    refine ⟨by have : scanBound = 4096 := rfl; omega, fun p hp => ⟨cs, upd_same, fun ns p1 pw mem hp1 => ?_⟩⟩
    obtain rfl := asc_of hs pw mem
    have np : p1 ≠ p := fun e => by rw [e, upd_same] at hp1; cases hp1
    have hp1' : H p1 = none := by rw [upd_ne np] at hp1; exact hp1
    have nx : x ≠ p := ne_of_none hx hp
    have nx1 : x ≠ p1 := ne_of_none hx hp1'
    have hl2 := sub_len (asc_sub cs)
    refine join_goW (cs := asc cs) sq_upd (by omega) fun ys e => ?_
    rw [e]
    refine ⟨_, _, _, by rw [upd_ne nx1, upd_ne nx]; exact hx, T.i_SignSet.cl, T.na_SignSet_members, by decide, q _ (fun b o nb e => ?_) ⟨_, upd_same⟩⟩
    rw [upd_ne nb, upd_ne (ne_of_none e hp1'), upd_ne (ne_of_none e hp)]
    exact e
def sp_members (C : Addr) : Sp := fun vs H Q _ => ∃ (x : Addr) (cs : List Nat), vs = [.ref x] ∧ Sgs C H x cs ∧ Q (.str (tx cs)) H
theorem ok_SignSet_members (T : Top K mg) : FnOk P w K mg base CX0 1 T.f_SignSet_members T.fd_SignSet_members ["self"] (sp_members T.c_SignSet) := by
  refine T.F_SignSet_members.ok sc_SignSet_members (fun vs H Q E h => ?_) (fun cdv A outer s H vs Q E hr h => ?_)
  · obtain ⟨x, cs, rfl, _⟩ := h
    rfl
  · obtain ⟨x, cs, rfl, ⟨dx, hx⟩, q⟩ := h
    refine ⟨_, (pss_one (ps_ret (pe_fld (pv 0) rfl))), ?_⟩
    walk_at "rd"
    exact ⟨_, _, _, hx, T.i_SignSet.cl, T.na_SignSet_members, _, mem_lk cs, q⟩
def sp_Mcontains (C : Addr) : Sp := fun vs H Q _ => ∃ (x : Addr) (cs : List Nat) (c : Nat), vs = [.ref x, .str (tx [c])] ∧ Sgs C H x cs ∧ cs.length ≤ 1000 ∧ Q (.bl (decide (c ∈ cs))) H
theorem ok_SignSet_Mcontains (T : Top K mg) : FnOk P w K mg base CX0 1 T.f_SignSet_Mcontains T.fd_SignSet_Mcontains ["self", "sign"] (sp_Mcontains T.c_SignSet) := by
  refine T.F_SignSet_Mcontains.ok sc_SignSet_Mcontains (fun vs H Q E h => ?_) (fun cdv A outer s H vs Q E hr h => ?_)
  · obtain ⟨x, cs, c, rfl, _⟩ := h
    rfl
  · obtain ⟨x, cs, c, rfl, ⟨dx, hx⟩, hl, q⟩ := h
    refine ⟨_, (pss_one (ps_ret (pe_and (pe_cmpR op_eq (pe_callB call_len_str (by rfl) T.b_len PySem.boot_len (pa_cons (pv 1) pa_nil)) pe_int (nomark _)) (pe_one (pe_cmpR op_in_sign (pv 1) (pe_fld (pv 0) rfl) (by rfl)))))), ?_⟩
    walk_at "rd"
    refine ⟨by decide, ?_⟩
    rw [if_pos (by rfl)]
    exact ⟨_, _, _, hx, T.i_SignSet.cl, T.na_SignSet_members, _, mem_lk cs, _, rfl, q⟩
end
end My
namespace My
open PySem L2
local macro_rules | `(tactic| walk_at "rd") => `(tactic| simp only [sFld, tM1, tMake, tProp, tFld, rOwn2, rOwnIn, rOwn1, rSetTx, rSortedTx, sp_Minit, sp_Mcontains, sp_members, rAll, tSeq, tNext, tAsg, tOp, tUn, tC, tVar, gName, gSub, tCons, tNil, tCB, tIfS, tIf, tTest, tB, tAnd, tOr, tNot, tAndV, tOrV, tNotV, tRet, tRetN, tDrop, tLst, tTup, tCall, tSl, tNoPart, tPart, tM0, tM1, tBM, tBM0, tYes, tFor_eq, tLc_eq, iList, iRng1, iRng2, iStr, sg_tx, c_empty, rstrip_sign, find_sign, cut_last, cut_to, cut_from, cut_mid, cut_to_lit, cut_from_lit, and_assoc, flat_rep, List.length_replicate, tx_len, tx_eq, tx_app, tx_cps, rI0, rI, rU, rEq, rNe, rIxL, rIxS, rIxT, rSetL, rAppend, rPopAt, rSlS, rSlL, rIn, rMulS, rLtD, rJoin, rLenQ, rListOf,  tRevS, 
  scal, L2.start, List.map_cons, List.map_nil, List.length_cons, List.length_nil, List.replicate, List.cons_append, List.nil_append, List.append_nil,
  List.getElem?_cons_zero, List.getElem?_cons_succ, List.set_cons_zero, List.set_cons_succ, Nat.sub_zero, Nat.reduceSub, Nat.reduceAdd, Nat.zero_add, id_eq, Int.reduceToNat, exists_or,
  V.int.injEq, V.str.injEq, V.bl.injEq, V.ref.injEq, Option.some.injEq, List.cons.injEq, exists_and_left, exists_eq_left', exists_eq_left, exists_eq, exists_eq', and_true, true_and, reduceCtorEq, false_and, and_false, exists_false, false_or, or_false, decide_eq_true_eq, Bool.not_eq_true', decide_eq_false_iff_not, Bool.not_not, Bool.false_eq_true, ↓reduceIte, if_true, if_false])

local macro_rules | `(tactic| walk_at "ne") => `(tactic| first | assumption | (refine Ne.symm ?_; assumption) | exact (ne_of_none (by assumption) (by assumption)) | exact (ne_of_none (by assumption) (by assumption)).symm)
local macro_rules | `(tactic| walk_at "hp") => `(tactic| first | assumption | exact upd_same | exact (upd_ne (by walk_at "ne")).trans (by walk_at "hp"))
local macro_rules | `(tactic| walk_at "st1") => `(tactic| first
  | refine ⟨_, Or.inl (Or.inl (by walk_at "hp")), ?_⟩
  | refine ⟨_, Or.inl (Or.inl (Or.inl (by walk_at "hp"))), ?_⟩
  | refine ⟨_, (show _ = some (HO.lst _) by walk_at "hp"), ?_⟩
  | refine ⟨_, rfl, ?_⟩
  | refine ⟨(rfl : ("str" : String) = "str"), ?_⟩
  | refine ⟨Or.inr ⟨by decide, by decide⟩, ?_⟩
  | refine ⟨⟨by decide, by decide⟩, ?_⟩
  | refine ⟨by decide, ?_⟩
  | refine ⟨by assumption, ?_⟩)
local macro_rules | `(tactic| walk_at "st") => `(tactic| repeat walk_at "st1")
local macro_rules | `(tactic| walk_at "go") => `(tactic| repeat first | walk_at "st1" | walk_at "rd")
section
variable {P : Program} {w : World} {K : PySem.W.Frag} {mg : Str → Option Value} {base : Heap}
theorem made_same {H H' : Hp} {p dp C : Addr} (hp : H p = none) (hd : H dp = none) (b : But p (upd (upd H dp (.own p)) p (.ins C dp [])) H') : Same H H' := fun b' o e =>
  b b' o (ne_of_none e hp) (by rw [upd_ne (ne_of_none e hp), upd_ne (ne_of_none e hd)]; exact e)
theorem same_new {H : Hp} {D : Addr} {o : HO} (h : H D = none) : Same H (upd H D o) := fun b u e => by rw [upd_ne (ne_of_none e h)]; exact e
def sp_op2 (C : Addr) (g : List Nat → List Nat → List Nat) : Sp := fun vs H Q _ => ∃ (x y : Addr) (a b : List Nat), vs = [.ref x, .ref y] ∧ Sgs C H x a ∧ Sgs C H y b ∧ a.Sublist SG ∧ b.Sublist SG ∧ ∀ r H', H r = none → Same H H' → Sgs C H' r (g a b) → Q (.ref r) H'
def sp_op1 (C : Addr) (g : List Nat → List Nat) : Sp := fun vs H Q _ => ∃ (x : Addr) (a : List Nat), vs = [.ref x] ∧ Sgs C H x a ∧ a.Sublist SG ∧ ∀ r H', H r = none → Same H H' → Sgs C H' r (g a) → Q (.ref r) H'
theorem ok_SignSet_Minvert (T : Top K mg) : FnOk P w K mg base CX0 3 T.f_SignSet_Minvert T.fd_SignSet_Minvert ["self"] (sp_op1 T.c_SignSet cNot) := by
  refine T.F_SignSet_Minvert.ok sc_SignSet_Minvert (fun vs H Q E h => ?_) (fun cdv A outer s H vs Q E hr h => ?_)
  · obtain ⟨x, a, rfl, _⟩ := h
    rfl
  · obtain ⟨x, a, rfl, ⟨dx, hx⟩, sa, q⟩ := h
    refine ⟨_, (pss_one (ps_ret (pe_make T.mk_SignSet (ok_SignSet_Minit T) (hr.mono (by decide)) (by rfl) T.g_SignSet T.B_SignSet_Minit .nil pass0 (pa_cons (pe_m1 (r := rJoin K) PySem.F.slot_str_join PySem.F.type_str_join mt_joinQ pe_str (pe_lc (own := [("sign", 1)]) (g := gName 1) (by rfl) sc_SignSet_Minvert.nd (pi_str (pe_glob (v := .str _) rfl T.g_SIGNS ⟨_, rfl⟩)) (blkOk_by (own := [("sign", 1)]) (N := n_SignSet_Minvert) (sc := defScope s_SignSet_Minvert) (by decide +kernel)) (fun _ _ _ _ _ => pg_name (i := 1) sc_SignSet_Minvert.nd rfl (Or.inl rfl)) (fun _ _ _ _ _ => (pts_one (pt_cmpR (op_ownNotIn (ok_SignSet_Mcontains T) (hr.mono (by decide)) T.at_SignSet_Mcontains T.fn_SignSet_Mcontains T.B_SignSet_Mcontains pass0) (pv 1) (pv 0) (by rfl)))) (fun _ _ _ _ _ => (pv 1)))) pa_nil)))), ?_⟩
    have la := sub_len sa
    walk_at "rd"
    refine lcJ_pure (reg_text SG) (fun c => !decide (c ∈ a)) (fun c => V.str (tx [c])) (line20 (by rw [SG_len]; decide)) (fun _ _ _ => trivial) (fun c D acc Q _ h0 hq => ?_) (fun c D acc Q _ _ h0 hq => ?_) (fun D h0 => ?_)
    · walk_at "rd"
      refine ⟨_, _, same_new h0 _ _ hx, a, ⟨_, same_new h0 _ _ hx⟩, by omega, ?_⟩
      rw [Bool.true_xor]
      exact hq
    · walk_at "rd"
      exact hq
    · have hl : (SG.filter fun c => !decide (c ∈ a)).length ≤ 96 := Nat.le_trans (List.length_filter_le _ _) (by rw [SG_len]; decide)
      refine ⟨D, rfl, join_goW (cs := SG.filter fun c => !decide (c ∈ a)) sq_upd (by omega) fun ys e => fun p dp hp hdp ne => ?_⟩
      refine ⟨_, SG.filter fun c => !decide (c ∈ a), e, upd_same, fun c hc => (List.mem_filter.mp hc).1, by omega, fun H' B S => ?_⟩
      rw [asc_filtS] at S
      have hp0 : H p = none := by
        have : p ≠ D := fun z => by rw [z, upd_same] at hp; cases hp
        rw [upd_ne this] at hp; exact hp
      exact q _ _ hp0 (fun b o e => made_same hp hdp B b o (same_new h0 b o e)) S

def sp_len (C : Addr) : Sp := fun vs H Q _ => ∃ (x : Addr) (cs : List Nat), vs = [.ref x] ∧ Sgs C H x cs ∧ cs.length ≤ 1000 ∧ Q (.int (cs.length : Nat)) H
theorem ok_SignSet_Mlen (T : Top K mg) : FnOk P w K mg base CX0 1 T.f_SignSet_Mlen T.fd_SignSet_Mlen ["self"] (sp_len T.c_SignSet) := by
  refine T.F_SignSet_Mlen.ok sc_SignSet_Mlen (fun vs H Q E h => ?_) (fun cdv A outer s H vs Q E hr h => ?_)
  · obtain ⟨x, cs, rfl, _⟩ := h
    rfl
  · obtain ⟨x, cs, rfl, ⟨dx, hx⟩, hl, q⟩ := h
    refine ⟨_, (pss_one (ps_ret (pe_callB call_len_str (by rfl) T.b_len PySem.boot_len (pa_cons (pe_fld (pv 0) rfl) pa_nil)))), ?_⟩
    walk_at "rd"
    refine ⟨_, _, _, hx, T.i_SignSet.cl, T.na_SignSet_members, _, mem_lk cs, tx cs, rfl, ?_, ?_⟩
    · rw [tx_len]; exact line20 (by omega)
    · rw [tx_len]; exact q
end
end My
namespace My
open PySem L2
local macro_rules | `(tactic| walk_at "rd") => `(tactic| simp only [sFld, tM1, tMake, tProp, tFld, rOwn2, rOwnIn, rOwn1, rSetTx, rSortedTx, sp_Minit, sp_rank, sp_len, rIterS, tSeq, tNext, tAsg, tOp, tUn, tC, tVar, gName, gSub, tCons, tNil, tCB, tIfS, tIf, tTest, tB, tAnd, tOr, tNot, tAndV, tOrV, tNotV, tRet, tRetN, tDrop, tLst, tTup, tCall, tSl, tNoPart, tPart, tM0, tM1, tBM, tBM0, tYes, tFor_eq, tLc_eq, iList, iRng1, iRng2, iStr, sg_tx, c_empty, rstrip_sign, find_sign, cut_last, cut_to, cut_from, cut_mid, cut_to_lit, cut_from_lit, and_assoc, flat_rep, List.length_replicate, tx_len, tx_eq, tx_app, tx_cps, rI0, rI, rU, rEq, rNe, rIxL, rIxS, rIxT, rSetL, rAppend, rPopAt, rSlS, rSlL, rIn, rMulS, rLtD, rJoin, rLenQ, rListOf,  tRevS, 
  scal, L2.start, List.map_cons, List.map_nil, List.length_cons, List.length_nil, List.replicate, List.cons_append, List.nil_append, List.append_nil,
  List.getElem?_cons_zero, List.getElem?_cons_succ, List.set_cons_zero, List.set_cons_succ, Nat.sub_zero, Nat.reduceSub, Nat.reduceAdd, Nat.zero_add, id_eq, Int.reduceToNat, exists_or,
  V.int.injEq, V.str.injEq, V.bl.injEq, V.ref.injEq, Option.some.injEq, List.cons.injEq, exists_and_left, exists_eq_left', exists_eq_left, exists_eq, exists_eq', and_true, true_and, reduceCtorEq, false_and, and_false, exists_false, false_or, or_false, decide_eq_true_eq, Bool.not_eq_true', decide_eq_false_iff_not, Bool.not_not, Bool.false_eq_true, ↓reduceIte, if_true, if_false])

local macro_rules | `(tactic| walk_at "ne") => `(tactic| first | assumption | (refine Ne.symm ?_; assumption) | exact (ne_of_none (by assumption) (by assumption)) | exact (ne_of_none (by assumption) (by assumption)).symm)
local macro_rules | `(tactic| walk_at "hp") => `(tactic| first | assumption | exact upd_same | exact (upd_ne (by walk_at "ne")).trans (by walk_at "hp"))
local macro_rules | `(tactic| walk_at "st1") => `(tactic| first
  | refine ⟨_, Or.inl (Or.inl (by walk_at "hp")), ?_⟩
  | refine ⟨_, Or.inl (Or.inl (Or.inl (by walk_at "hp"))), ?_⟩
  | refine ⟨_, (show _ = some (HO.lst _) by walk_at "hp"), ?_⟩
  | refine ⟨_, rfl, ?_⟩
  | refine ⟨(rfl : ("str" : String) = "str"), ?_⟩
  | refine ⟨Or.inr ⟨by decide, by decide⟩, ?_⟩
  | refine ⟨⟨by decide, by decide⟩, ?_⟩
  | refine ⟨by decide, ?_⟩
  | refine ⟨by assumption, ?_⟩)
local macro_rules | `(tactic| walk_at "st") => `(tactic| repeat walk_at "st1")
local macro_rules | `(tactic| walk_at "go") => `(tactic| repeat first | walk_at "st1" | walk_at "rd")
section
variable {P : Program} {w : World} {K : PySem.W.Frag} {mg : Str → Option Value} {base : Heap}
def sp_between (C : Addr) : Sp := fun vs H Q _ => ∃ (a b : Nat), vs = [.str (tx [a]), .str (tx [b])] ∧ a ∈ SG ∧ b ∈ SG ∧ ∀ r H', H r = none → Same H H' → Sgs C H' r (btw a b) → Q (.ref r) H'
theorem ok_SignSet_between (T : Top K mg) : FnOk P w K mg base CX0 3 T.f_SignSet_between T.fd_SignSet_between ["first", "last"] (sp_between T.c_SignSet) := by
  refine T.F_SignSet_between.ok sc_SignSet_between (fun vs H Q E h => ?_) (fun cdv A outer s H vs Q E hr h => ?_)
  · obtain ⟨a, b, rfl, _⟩ := h
    rfl
  · obtain ⟨a, b, rfl, ha, hb, q⟩ := h
    refine ⟨_, (pss_one (ps_ret (pe_make T.mk_SignSet (ok_SignSet_Minit T) (hr.mono (by decide)) (by rfl) T.g_SignSet T.B_SignSet_Minit .nil pass0 (pa_cons (pe_slice sl_str (pe_glob (v := .str _) rfl T.g_SIGNS ⟨_, rfl⟩) (po_some (pe_call (ok_rank T) (hr.mono (by decide)) (by rfl) T.g_rank T.F_rank.kp T.B_rank .nil pass0 (pa_cons (pv 0) pa_nil))) (po_some (pe_op op_add (pe_call (ok_rank T) (hr.mono (by decide)) (by rfl) T.g_rank T.F_rank.kp T.B_rank .nil pass0 (pa_cons (pv 1) pa_nil)) pe_int))) pa_nil)))), ?_⟩
    have lS : SG.length ≤ sizeLine := line20 (by rw [SG_len]; decide)
    walk_at "rd"
    refine ⟨ha, hb, by rw [sgs_tx2, tx_len]; exact lS, fun x dx hx hdx hne => ⟨_, btw a b, ?_, upd_same, fun c hc => (btw_sub a b).subset hc, by have := sub_len (btw_sub a b); omega, fun H' B S => ?_⟩⟩
    · rw [sgs_tx2, show ((fi b SG : Nat) : Int) + 1 = ((fi b SG + 1 : Nat) : Int) by omega, cut_mid]
      rfl
    · rw [asc_self (btw_sub a b)] at S
      exact q _ _ hx (made_same hx hdx B) S
def sp_ranges (C : Addr) : Sp := fun vs H Q _ => ∃ (x : Addr) (cs : List Nat), vs = [.ref x] ∧ Sgs C H x cs ∧ cs.Sublist SG ∧ ∀ m rs H', H m = none → Same H H' → RunsAt H' m (runsL cs) rs → Q (.ref m) H'
theorem ok_SignSet_ranges (T : Top K mg) : FnOk P w K mg base CX0 1 T.f_SignSet_ranges T.fd_SignSet_ranges ["self"] (sp_ranges T.c_SignSet) := by
  refine T.F_SignSet_ranges.ok sc_SignSet_ranges (fun vs H Q E h => ?_) (fun cdv A outer s H vs Q E hr h => ?_)
  · obtain ⟨x, cs, rfl, _⟩ := h
    rfl
  · obtain ⟨x, cs, rfl, ⟨dx, hx⟩, hsub, q⟩ := h
    refine ⟨_, (pss_cons (ps_set (i := 1) sc_SignSet_ranges.nd rfl (Or.inl rfl) (pe_lst pa_nil))
       (pss_cons (ps_set (i := 2) sc_SignSet_ranges.nd rfl (Or.inl rfl) pe_bl)
       (pss_cons (ps_for PassesOwn.never rfl (pi_str (pe_glob (v := .str _) rfl T.g_SIGNS ⟨_, rfl⟩)) (pg_name (i := 3) sc_SignSet_ranges.nd rfl (Or.inl rfl))
       (pss_one (ps_if (pt_cmpR op_notIn_sign (pv 3) (pe_fld (pv 0) rfl) (by rfl)) (pss_one (ps_set (i := 2) sc_SignSet_ranges.nd rfl (Or.inl rfl) pe_bl)) (pss_one (ps_if (pt_val (pv 2)) (pss_one (ps_asg (pe_tup (pa_cons (pe_ix (r := rIxT K) ix_tup (pe_ix (r := rIxL K) ix_list (pv 1) (pe_un un_neg pe_int) (fun _ _ => rfl)) pe_int (fun _ _ => rfl)) (pa_cons (pv 3) pa_nil))) (pg_sub (pv 1) (pe_un un_neg pe_int) set_list))) (pss_cons (ps_expr (pe_bm PySem.F.plainAttrs_list PySem.F.slot_list_append PySem.F.type_list_append mt_append (pv 1) (pa_cons (pe_tup (pa_cons (pv 3) (pa_cons (pv 3) pa_nil))) pa_nil)))
       (pss_one (ps_set (i := 2) sc_SignSet_ranges.nd rfl (Or.inl rfl) pe_bl))))))))
       (pss_one (ps_ret (pv 1)))))), ?_⟩
    have lc := sub_len hsub
    walk_at "rd"
    refine ⟨by decide, fun m hm => ?_⟩
    rw [sgs_tx2]
    obtain ⟨Pv, hP⟩ : ∃ Pv : Nat → St → Hp → Prop, ∀ i σ H', Pv i σ H' ↔ ∃ (v3 : Option V) (rs : List Addr), σ = [some (V.ref x), some (V.ref m), some (V.bl (bit cs i)), v3] ∧ Same H H' ∧ RunsAt H' m (runsL (part cs i)) rs := ⟨_, fun _ _ _ => Iff.rfl⟩
    refine forJ_by (reg_text SG) Pv (fun _ _ _ _ => trivial) ?_ ?_ ?_
    · exact (hP _ _ _).mpr ⟨_, [], rfl, same_upd hm, RunsAt.nil upd_same⟩
    · intro i c σ H1 hi h
      obtain ⟨v3, rs, rfl, sm, RA⟩ := (hP _ _ _).mp h
      have hlt : i < SG.length := (List.getElem?_eq_some_iff.mp hi).1
      have hbit : bit cs (i + 1) = decide (c ∈ cs) := by
        show decide (SG.getD i 0 ∈ cs) = _
        have e : SG.getD i 0 = c := by
          obtain ⟨h1, h2⟩ := List.getElem?_eq_some_iff.mp hi
          rw [← h2]
          simp [List.getD, h1]
        rw [e]
      walk_at "rd"
      refine ⟨_, _, _, sm _ _ hx, T.i_SignSet.cl, T.na_SignSet_members, _, mem_lk cs, _, rfl, ?_⟩
      have hps := part_succ (cs := cs) hi
      refine ite2 (fun hc => ?_) (fun hc => ?_)
      · have hc2 : ¬ c ∈ cs := hc
        rw [if_neg hc2, List.append_nil] at hps
        refine (hP _ _ _).mpr ⟨some (V.str (tx [c])), rs, ?_, sm, by rw [hps]; exact RA⟩
        rw [hbit, decide_eq_false hc2]
      · have hc2 : c ∈ cs := Classical.byContradiction hc
        rw [if_pos hc2] at hps
        have nm : ∀ b o, H b = some o → b ≠ m := fun b o e => ne_of_none e hm
        refine ite2 (fun hb => ?_) (fun hb => ?_)
        · obtain ⟨n1, n2⟩ := bit_yes hi hb
          obtain ⟨t, e1, e2⟩ := RA.last n1
          have nr : rs.map V.ref ≠ [] := fun e => by rw [e] at e1; simp [atI, ixN] at e1
          refine ⟨_, .inl (.inl RA.lst), _, e1, t, rfl, _, SqT.of e2, _, rfl, by decide, fun p hp => ?_⟩
          obtain ⟨j, ej, es⟩ := set_last (v := V.ref p) nr
          have mp : m ≠ p := ne_of_none RA.lst hp
          refine ⟨_, by rw [upd_ne mp]; exact RA.lst, j, ej, ?_⟩
          rw [es]
          refine (hP _ _ _).mpr ⟨some (V.str (tx [c])), rs.dropLast ++ [p], by rw [hbit, decide_eq_true hc2, hb], fun b o e => ?_, ?_⟩
          · rw [upd_ne (nm _ _ e), upd_ne (ne_of_none (sm _ _ e) hp)]
            exact sm _ _ e
          · have T2 := RA.turn (H' := upd H1 p (HO.tup [V.str (tx [(lst (runsL (part cs i))).1]), V.str (tx [c])])) (t := p) (q := ((lst (runsL (part cs i))).1, c)) (same_upd hp) upd_same
            rw [hps, runs_snoc]
            unfold stepL
            rw [if_pos ⟨n1, n2⟩]
            rw [List.map_dropLast] at T2
            exact T2
        · have hb2 : bit cs i = false := Bool.eq_false_iff.mpr hb
          refine ⟨.inl ⟨rfl, _, .inl (.inl RA.lst)⟩, by decide, fun p hp => ?_⟩
          have mp : m ≠ p := ne_of_none RA.lst hp
          refine ⟨_, by rw [upd_ne mp]; exact RA.lst, ?_, ?_⟩
          · have l1 := runs_len (part cs i)
            have l2 : (part cs i).length ≤ 96 := sub_len (List.filter_sublist.trans (List.take_sublist _ _))
            rw [List.length_map, RA.len]
            exact toLine (by omega)
          · refine (hP _ _ _).mpr ⟨some (V.str (tx [c])), rs ++ [p], by rw [hbit, decide_eq_true hc2], fun b o e => ?_, ?_⟩
            · rw [upd_ne (nm _ _ e), upd_ne (ne_of_none (sm _ _ e) hp)]
              exact sm _ _ e
            · have T2 := RA.push (H' := upd H1 p (HO.tup [V.str (tx [c]), V.str (tx [c])])) (t := p) (q := (c, c)) (same_upd hp) upd_same
              rw [hps, runs_snoc]
              unfold stepL
              rw [if_neg (bit_no hi hb2)]
              exact T2
    · intro σ H1 h
      obtain ⟨v3, rs, rfl, sm, RA⟩ := (hP _ _ _).mp h
      rw [SG_len, part_all hsub] at RA
      walk_at "rd"
      exact q _ rs _ hm sm RA
end
end My
namespace My
open PySem L2
local macro_rules | `(tactic| walk_at "rd") => `(tactic| simp only [sFld, tM1, tMake, tProp, tFld, rOwn2, rOwnIn, rOwn1, rSetTx, rSortedTx, sp_Lsigns, sp_Lesc, sp_Lins, c_bs, c_tab, c_en, c_et, c_spec, c_brack, c_dash, c_open, c_openc, c_close, c_dot, c_nl, tSeq, tNext, tAsg, tOp, tUn, tC, tVar, gName, gSub, tCons, tNil, tCB, tIfS, tIf, tTest, tB, tAnd, tOr, tNot, tAndV, tOrV, tNotV, tRet, tRetN, tDrop, tLst, tTup, tCall, tSl, tNoPart, tPart, tM0, tM1, tBM, tBM0, tYes, tFor_eq, tLc_eq, iList, iRng1, iRng2, iStr, sg_tx, c_empty, rstrip_sign, find_sign, cut_last, cut_to, cut_from, cut_mid, cut_to_lit, cut_from_lit, and_assoc, flat_rep, List.length_replicate, tx_len, tx_eq, tx_app, tx_cps, rI0, rI, rU, rEq, rNe, rIxL, rIxS, rIxT, rSetL, rAppend, rPopAt, rSlS, rSlL, rIn, rMulS, rLtD, rJoin, rLenQ, rListOf,  tRevS, 
  scal, L2.start, List.map_cons, List.map_nil, List.length_cons, List.length_nil, List.replicate, List.cons_append, List.nil_append, List.append_nil,
  List.getElem?_cons_zero, List.getElem?_cons_succ, List.set_cons_zero, List.set_cons_succ, Nat.sub_zero, Nat.reduceSub, Nat.reduceAdd, Nat.zero_add, id_eq, Int.reduceToNat, exists_or,
  V.int.injEq, V.str.injEq, V.bl.injEq, V.ref.injEq, Option.some.injEq, List.cons.injEq, exists_and_left, exists_eq_left', exists_eq_left, exists_eq, exists_eq', and_true, true_and, reduceCtorEq, false_and, and_false, exists_false, false_or, or_false, decide_eq_true_eq, Bool.not_eq_true', decide_eq_false_iff_not, Bool.not_not, Bool.false_eq_true, ↓reduceIte, if_true, if_false])

local macro_rules | `(tactic| walk_at "ne") => `(tactic| first | assumption | (refine Ne.symm ?_; assumption) | exact (ne_of_none (by assumption) (by assumption)) | exact (ne_of_none (by assumption) (by assumption)).symm)
local macro_rules | `(tactic| walk_at "hp") => `(tactic| first | assumption | exact upd_same | exact (upd_ne (by walk_at "ne")).trans (by walk_at "hp"))
local macro_rules | `(tactic| walk_at "st1") => `(tactic| first
  | refine ⟨_, Or.inl (Or.inl (by walk_at "hp")), ?_⟩
  | refine ⟨_, Or.inl (Or.inl (Or.inl (by walk_at "hp"))), ?_⟩
  | refine ⟨_, (show _ = some (HO.lst _) by walk_at "hp"), ?_⟩
  | refine ⟨_, rfl, ?_⟩
  | refine ⟨(rfl : ("str" : String) = "str"), ?_⟩
  | refine ⟨Or.inr ⟨by decide, by decide⟩, ?_⟩
  | refine ⟨⟨by decide, by decide⟩, ?_⟩
  | refine ⟨by decide, ?_⟩
  | refine ⟨by assumption, ?_⟩)
local macro_rules | `(tactic| walk_at "st") => `(tactic| repeat walk_at "st1")
local macro_rules | `(tactic| walk_at "go") => `(tactic| repeat first | walk_at "st1" | walk_at "rd")
section
variable {P : Program} {w : World} {K : PySem.W.Frag} {mg : Str → Option Value} {base : Heap}
theorem sum_esc (l : List Nat) : ((l.map (esc BPc)).map (·.length)).sum ≤ 2 * l.length := by
  induction l with
  | nil => simp
  | cons c l ih =>
    rw [List.map_cons, List.map_cons, List.sum_cons, List.length_cons]
    have := esc_len BPc c
    omega
theorem ok_Lescaped (T : Top K mg) : FnOk P w K mg base CX0 1 T.f_Lescaped T.fd_Lescaped ["_law_sign", "_law_marked"] sp_Lesc := by
  refine T.F_Lescaped.ok sc_Lescaped (fun vs H Q E h => ?_) (fun cdv A outer s H vs Q E hr h => ?_)
  · obtain ⟨c, sp, rfl, _⟩ := h
    rfl
  · obtain ⟨c, sp, rfl, n10, n9, q⟩ := h
    refine ⟨_, (pss_cons (ps_if (pt_cmpR op_eq (pv 0) pe_str (nomark _)) (pss_one (ps_ret pe_str)) pss_nil)
       (pss_cons (ps_if (pt_cmpR op_eq (pv 0) pe_str (nomark _)) (pss_one (ps_ret pe_str)) pss_nil)
       (pss_cons (ps_if (pt_cmpR op_in_sign (pv 0) (pv 1) (by rfl)) (pss_one (ps_ret (pe_op op_add_str pe_str (pv 0)))) pss_nil)
       (pss_one (ps_ret (pv 0)))))), ?_⟩
    unfold esc at q
    walk_at "rd"
    refine ite2 (fun h1 => ?_) (fun h1 => ite2 (fun h2 => ?_) (fun h2 => ite2 (fun h3 => ⟨by decide, ?_⟩) (fun h3 => ?_)))
    · subst h1
      rw [if_neg n10, if_pos rfl] at q
      exact q
    · subst h2
      rw [if_neg n9, if_neg h1, if_pos rfl] at q
      exact q
    · rw [if_pos h3] at q
      exact q
    · rw [if_neg h3, if_neg h1, if_neg h2] at q
      exact q
theorem ok_Linside (T : Top K mg) : FnOk P w K mg base CX0 2 T.f_Linside T.fd_Linside ["_law_text"] sp_Lins := by
  refine T.F_Linside.ok sc_Linside (fun vs H Q E h => ?_) (fun cdv A outer s H vs Q E hr h => ?_)
  · obtain ⟨cs, rfl, _⟩ := h
    rfl
  · obtain ⟨cs, rfl, hsub, q⟩ := h
    refine ⟨_, (pss_cons (ps_set (i := 1) sc_Linside.nd rfl (Or.inl rfl) (pe_call0 (ok_Lsigns T) (hr.mono (by decide)) (by rfl) T.g_Lsigns T.F_Lsigns.kp T.B_Lsigns .nil pass0))
       (pss_cons (ps_set (i := 2) sc_Linside.nd rfl (Or.inr rfl) pe_str)
       (pss_cons (ps_set (i := 3) sc_Linside.nd rfl (Or.inl rfl) pe_str)
       (pss_cons (ps_set (i := 4) sc_Linside.nd rfl (Or.inl rfl) pe_str)
       (pss_cons (ps_for PassesOwn.never rfl (pi_range1 rfl T.b_range (pa_cons pe_int pa_nil)) (pg_name (i := 5) sc_Linside.nd rfl (Or.inl rfl))
       (pss_one (ps_if (PW.pt (pw_and (pt_cmpR op_lt (pv 5) pe_int (nomark _)) (pw_and1 (pt_cmpR op_in_sign (pe_ix ix_str (pv 1) (pv 5) (fun _ _ => rfl)) (pv 0) (by rfl))))) (pss_one (ps_set (i := 4) sc_Linside.nd rfl (Or.inl rfl) (pe_op op_add_str (pv 4) (pe_ix ix_str (pv 1) (pv 5) (fun _ _ => rfl))))) (pss_cut (ps_if (pt_cmpR op_gt (pe_callB call_len_str (by rfl) T.b_len PySem.boot_len (pa_cons (pv 4) pa_nil)) pe_int (nomark _)) (pss_one (ps_set (i := 4) sc_Linside.nd rfl (Or.inl rfl) (pe_op op_add_str (pe_op op_add_str (pe_call (ok_Lescaped T) (hr.mono (by decide)) (by rfl) T.g_Lescaped T.F_Lescaped.kp T.B_Lescaped .nil pass0 (pa_cons (pe_ix ix_str (pv 4) pe_int (fun _ _ => rfl)) (pa_cons (pv 2) pa_nil))) pe_str) (pe_call (ok_Lescaped T) (hr.mono (by decide)) (by rfl) T.g_Lescaped T.F_Lescaped.kp T.B_Lescaped .nil pass0 (pa_cons (pe_ix ix_str (pv 4) (pe_un un_neg pe_int) (fun _ _ => rfl)) (pa_cons (pv 2) pa_nil)))))) (pss_one (ps_set (i := 4) sc_Linside.nd rfl (Or.inl rfl) (pe_m1 (r := rJoin K) PySem.F.slot_str_join PySem.F.type_str_join mt_joinQ pe_str (pe_lc (own := [("_law_sign", 6)]) (g := gName 6) (by rfl) sc_Linside.nd (pi_str (pv 4)) (blkOk_by (own := [("_law_sign", 6)]) (N := n_Linside) (sc := defScope s_Linside) (by decide +kernel)) (fun _ _ _ _ _ => pg_name (i := 6) sc_Linside.nd rfl (Or.inl rfl)) (fun _ _ _ _ _ => pts_nil) (fun _ _ _ _ _ => (pe_call (ok_Lescaped T) (hr.mono (by decide)) (by rfl) T.g_Lescaped T.F_Lescaped.kp T.B_Lescaped .nil pass0 (pa_cons (pv 6) (pa_cons (pv 2) pa_nil)))))))))
       (pss_cons (ps_set (i := 3) sc_Linside.nd rfl (Or.inl rfl) (pe_op op_add_str (pv 3) (pv 4)))
       (pss_one (ps_set (i := 4) sc_Linside.nd rfl (Or.inl rfl) pe_str)))))))
       (pss_one (ps_ret (pv 3)))))))), ?_⟩
    have lc := sub_len hsub
    have lS : SG.length ≤ sizeLine := line20 (by rw [SG_len]; decide)
    walk_at "rd"
    refine ⟨by decide, by decide, ?_⟩
    obtain ⟨Pv, hP⟩ : ∃ Pv : Nat → L2.St → Hp → Prop, ∀ i σ H', Pv i σ H' ↔ ∃ (v5 : Option V) (wr run : List Nat), σ = [some (V.str (tx cs)), some (V.str (tx SG)), some (V.str (tx [92, 91, 93, 94, 45])), some (V.str (tx wr)), some (V.str (tx run)), v5, none] ∧ Same H H' ∧ ((i ≤ 96 ∧ In9 cs i wr run) ∨ (i = 97 ∧ wr = wrs (runsL cs))) := ⟨_, fun _ _ _ => Iff.rfl⟩
    refine forJ_by (reg_range 0 97) Pv (fun _ _ _ _ => trivial) ?_ ?_ ?_
    · exact (hP _ _ _).mpr ⟨_, [], [], rfl, Same.refl _, .inl ⟨by decide, In9.zero cs⟩⟩
    · intro i k σ H1 hi h
      obtain ⟨rfl, hk⟩ := range_at hi
      obtain ⟨v5, wr, run, rfl, sm, hv⟩ := (hP _ _ _).mp h
      have hI : In9 cs k wr run := by
        rcases hv with ⟨_, h⟩ | ⟨h, _⟩
        · exact h
        · omega
      have lw := hI.len
      have lr := sub_len hI.sub
      walk_at "rd"
      have lfin := fl_len run
      refine ite2 (fun h96 => ?_) (fun h96 => ?_)
      · obtain ⟨c, hc⟩ : ∃ c, SG[k]? = some c := ⟨_, List.getElem?_eq_getElem (by rw [SG_len]; omega)⟩
        have hc2 : atI SG (0 + (k : Int)) = some c := by rw [Int.zero_add]; exact atI_nat hc
        refine ⟨lS, c, hc2, ite2 (fun hm => ?_) (fun hm => ?_)⟩
        · refine ⟨lS, c, hc2, line20 (by omega), ?_⟩
          exact (hP _ _ _).mpr ⟨_, wr, run ++ [c], rfl, sm, .inl ⟨by omega, hI.yes hc hm⟩⟩
        · have hfin : ∀ H2, Same H1 H2 → Pv (k + 1) [some (V.str (tx cs)), some (V.str (tx SG)), some (V.str (tx [92, 91, 93, 94, 45])), some (V.str (tx (wr ++ fl run))), some (V.str (tx [])), some (V.int (0 + (k : Int))), none] H2 := fun H2 s2 => (hP _ _ _).mpr ⟨_, wr ++ fl run, [], rfl, sm.trans s2, .inl ⟨by omega, hI.no hc hm⟩⟩
          refine ⟨fun σ2 H2 => σ2 = [some (V.str (tx cs)), some (V.str (tx SG)), some (V.str (tx [92, 91, 93, 94, 45])), some (V.str (tx wr)), some (V.str (tx (fl run))), some (V.int (0 + (k : Int))), none] ∧ Same H1 H2, ?_, ?_⟩
          · walk_at "rd"
            refine ⟨line20 (by omega), ite2 (fun h2 => ?_) (fun h2 => ?_)⟩
            · have hs : 2 < run.length := by omega
              obtain ⟨a, b, ma, mb, ha, hb, e⟩ := fl_long hs
              have hb2 : atI run (-1) = some b := by
                have hne : run ≠ [] := fun z => by rw [z] at hs; simp at hs
                rw [atI_neg1 hne, ← List.getLast?_eq_some_getLast hne]
                exact hb
              have l1 := esc_len BPc a
              have l2 := esc_len BPc b
              refine ⟨line20 (by omega), a, atI_nat (j := 0) ha, by decide, by decide, ?_⟩
              have eB : ([92, 91, 93, 94, 45] : List Nat) = BPc := rfl
              rw [eB]
              refine ⟨line20 (by omega), line20 (by omega), b, hb2, by decide, by decide, ?_, e.symm, Same.refl _⟩
              rw [List.length_append]
              exact line20 (by simp; omega)
            · have hs : ¬ 2 < run.length := by omega
              refine lcJ_pure (reg_text run) (fun _ => true) (fun c => V.str (tx (esc BPc c))) (line20 (by omega)) (fun _ _ _ => trivial) (fun c D acc Q _ h0 hq => ?_) (fun c D acc Q _ _ h0 hq => ?_) (fun D h0 => ?_)
              · walk_at "rd"
                exact hq
              · walk_at "rd"
                exact ⟨by decide, by decide, hq⟩
              rw [filter_yes]
              have em : (run.map fun c => V.str (tx (esc BPc c))) = (run.map (esc BPc)).map fun s => V.str (tx s) := by rw [List.map_map]; rfl
              refine ⟨D, rfl, join_txs (ss := run.map (esc BPc)) (by rw [← em]; exact sq_upd) ?_ fun ys e => ?_⟩
              · exact Nat.le_trans (sum_esc run) (by omega)
              · rw [e, ← fl_short hs]
                exact ⟨rfl, same_upd h0⟩
          · rintro σ2 H2 ⟨rfl, s2⟩
            walk_at "rd"
            have := fl_len run
            exact ⟨line20 (by omega), hfin H2 s2⟩
      · have hfin : ∀ H2, Same H1 H2 → Pv (k + 1) [some (V.str (tx cs)), some (V.str (tx SG)), some (V.str (tx [92, 91, 93, 94, 45])), some (V.str (tx (wr ++ fl run))), some (V.str (tx [])), some (V.int (0 + (k : Int))), none] H2 := fun H2 s2 => (hP _ _ _).mpr ⟨_, wr ++ fl run, [], rfl, sm.trans s2, .inr ⟨by omega, by
            have e96 : k = 96 := by omega
            subst e96
            rw [hI.flush, part_all hsub]⟩⟩
        refine ⟨fun σ2 H2 => σ2 = [some (V.str (tx cs)), some (V.str (tx SG)), some (V.str (tx [92, 91, 93, 94, 45])), some (V.str (tx wr)), some (V.str (tx (fl run))), some (V.int (0 + (k : Int))), none] ∧ Same H1 H2, ?_, ?_⟩
        · walk_at "rd"
          refine ⟨line20 (by omega), ite2 (fun h2 => ?_) (fun h2 => ?_)⟩
          · have hs : 2 < run.length := by omega
            obtain ⟨a, b, ma, mb, ha, hb, e⟩ := fl_long hs
            have hb2 : atI run (-1) = some b := by
              have hne : run ≠ [] := fun z => by rw [z] at hs; simp at hs
              rw [atI_neg1 hne, ← List.getLast?_eq_some_getLast hne]
              exact hb
            have l1 := esc_len BPc a
            have l2 := esc_len BPc b
            refine ⟨line20 (by omega), a, atI_nat (j := 0) ha, by decide, by decide, ?_⟩
            have eB : ([92, 91, 93, 94, 45] : List Nat) = BPc := rfl
            rw [eB]
            refine ⟨line20 (by omega), line20 (by omega), b, hb2, by decide, by decide, ?_, e.symm, Same.refl _⟩
            rw [List.length_append]
            exact line20 (by simp; omega)
          · have hs : ¬ 2 < run.length := by omega
            refine lcJ_pure (reg_text run) (fun _ => true) (fun c => V.str (tx (esc BPc c))) (line20 (by omega)) (fun _ _ _ => trivial) (fun c D acc Q _ h0 hq => ?_) (fun c D acc Q _ _ h0 hq => ?_) (fun D h0 => ?_)
            · walk_at "rd"
              exact hq
            · walk_at "rd"
              exact ⟨by decide, by decide, hq⟩
            rw [filter_yes]
            have em : (run.map fun c => V.str (tx (esc BPc c))) = (run.map (esc BPc)).map fun s => V.str (tx s) := by rw [List.map_map]; rfl
            refine ⟨D, rfl, join_txs (ss := run.map (esc BPc)) (by rw [← em]; exact sq_upd) ?_ fun ys e => ?_⟩
            · exact Nat.le_trans (sum_esc run) (by omega)
            · rw [e, ← fl_short hs]
              exact ⟨rfl, same_upd h0⟩
        · rintro σ2 H2 ⟨rfl, s2⟩
          walk_at "rd"
          have := fl_len run
          exact ⟨line20 (by omega), hfin H2 s2⟩
    · intro σ H1 h
      obtain ⟨v5, wr, run, rfl, sm, hv⟩ := (hP _ _ _).mp h
      walk_at "rd"
      rcases hv with ⟨h, _⟩ | ⟨_, e⟩
      · simp at h
      · rw [e]
        exact q _ sm
end
end My
namespace My
open PySem L2
local macro_rules | `(tactic| walk_at "rd") => `(tactic| simp only [sFld, tM1, tMake, tProp, tFld, rOwn2, rOwnIn, rOwn1, rSetTx, rSortedTx, sp_Lsigns, sp_Lesc, sp_Lins, sp_Lnext, c_bs, c_tab, c_en, c_et, c_spec, c_brack, c_dash, c_open, c_openc, c_close, c_dot, c_nl, tSeq, tNext, tAsg, tOp, tUn, tC, tVar, gName, gSub, tCons, tNil, tCB, tIfS, tIf, tTest, tB, tAnd, tOr, tNot, tAndV, tOrV, tNotV, tRet, tRetN, tDrop, tLst, tTup, tCall, tSl, tNoPart, tPart, tM0, tM1, tBM, tBM0, tYes, tFor_eq, tLc_eq, iList, iRng1, iRng2, iStr, sg_tx, c_empty, rstrip_sign, find_sign, cut_last, cut_to, cut_from, cut_mid, cut_to_lit, cut_from_lit, and_assoc, flat_rep, List.length_replicate, tx_len, tx_eq, tx_app, tx_cps, rI0, rI, rU, rEq, rNe, rIxL, rIxS, rIxT, rSetL, rAppend, rPopAt, rSlS, rSlL, rIn, rMulS, rLtD, rJoin, rLenQ, rListOf,  tRevS, 
  scal, L2.start, List.map_cons, List.map_nil, List.length_cons, List.length_nil, List.replicate, List.cons_append, List.nil_append, List.append_nil,
  List.getElem?_cons_zero, List.getElem?_cons_succ, List.set_cons_zero, List.set_cons_succ, Nat.sub_zero, Nat.reduceSub, Nat.reduceAdd, Nat.zero_add, id_eq, Int.reduceToNat, exists_or,
  V.int.injEq, V.str.injEq, V.bl.injEq, V.ref.injEq, Option.some.injEq, List.cons.injEq, exists_and_left, exists_eq_left', exists_eq_left, exists_eq, exists_eq', and_true, true_and, reduceCtorEq, false_and, and_false, exists_false, false_or, or_false, decide_eq_true_eq, Bool.not_eq_true', decide_eq_false_iff_not, Bool.not_not, Bool.false_eq_true, ↓reduceIte, if_true, if_false])

local macro_rules | `(tactic| walk_at "ne") => `(tactic| first | assumption | (refine Ne.symm ?_; assumption) | exact (ne_of_none (by assumption) (by assumption)) | exact (ne_of_none (by assumption) (by assumption)).symm)
local macro_rules | `(tactic| walk_at "hp") => `(tactic| first | assumption | exact upd_same | exact (upd_ne (by walk_at "ne")).trans (by walk_at "hp"))
local macro_rules | `(tactic| walk_at "st1") => `(tactic| first
  | refine ⟨_, Or.inl (Or.inl (by walk_at "hp")), ?_⟩
  | refine ⟨_, Or.inl (Or.inl (Or.inl (by walk_at "hp"))), ?_⟩
  | refine ⟨_, (show _ = some (HO.lst _) by walk_at "hp"), ?_⟩
  | refine ⟨_, rfl, ?_⟩
  | refine ⟨(rfl : ("str" : String) = "str"), ?_⟩
  | refine ⟨Or.inr ⟨by decide, by decide⟩, ?_⟩
  | refine ⟨⟨by decide, by decide⟩, ?_⟩
  | refine ⟨by decide, ?_⟩
  | refine ⟨by assumption, ?_⟩)
local macro_rules | `(tactic| walk_at "st") => `(tactic| repeat walk_at "st1")
local macro_rules | `(tactic| walk_at "go") => `(tactic| repeat first | walk_at "st1" | walk_at "rd")
section
variable {P : Program} {w : World} {K : PySem.W.Frag} {mg : Str → Option Value} {base : Heap}
theorem ok_Lwritten_set (T : Top K mg) : FnOk P w K mg base CX0 3 T.f_Lwritten_set T.fd_Lwritten_set ["_law_text"] sp_wset := by
  refine T.F_Lwritten_set.ok sc_Lwritten_set (fun vs H Q E h => ?_) (fun cdv A outer s H vs Q E hr h => ?_)
  · obtain ⟨cs, rfl, _⟩ := h
    rfl
  · obtain ⟨cs, rfl, hsub, q⟩ := h
    refine ⟨_, (pss_cons (ps_if (pt_cmpR op_eq (pe_callB call_len_str (by rfl) T.b_len PySem.boot_len (pa_cons (pv 0) pa_nil)) pe_int (nomark _)) (pss_one (ps_ret (pe_call (ok_Lescaped T) (hr.mono (by decide)) (by rfl) T.g_Lescaped T.F_Lescaped.kp T.B_Lescaped .nil pass0 (pa_cons (pv 0) (pa_cons pe_str pa_nil))))) pss_nil)
       (pss_cons (ps_set (i := 1) sc_Lwritten_set.nd rfl (Or.inl rfl) (pe_m1 (r := rJoin K) PySem.F.slot_str_join PySem.F.type_str_join mt_joinQ pe_str (pe_lc (own := [("_law_sign", 4)]) (g := gName 4) (by rfl) sc_Lwritten_set.nd (pi_str (pe_call0 (ok_Lsigns T) (hr.mono (by decide)) (by rfl) T.g_Lsigns T.F_Lsigns.kp T.B_Lsigns .nil pass0)) (blkOk_by (own := [("_law_sign", 4)]) (N := n_Lwritten_set) (sc := defScope s_Lwritten_set) (by decide +kernel)) (fun _ _ _ _ _ => pg_name (i := 4) sc_Lwritten_set.nd rfl (Or.inl rfl)) (fun _ _ _ _ _ => (pts_one (pt_cmpR op_notIn_sign (pv 4) (pv 0) (by rfl)))) (fun _ _ _ _ _ => (pv 4)))))
       (pss_cons (ps_if (pt_cmpR op_eq (pv 1) pe_str (nomark _)) (pss_one (ps_ret pe_str)) pss_nil)
       (pss_cons (ps_set (i := 2) sc_Lwritten_set.nd rfl (Or.inl rfl) (pe_op op_add_str (pe_op op_add_str pe_str (pe_call (ok_Linside T) (hr.mono (by decide)) (by rfl) T.g_Linside T.F_Linside.kp T.B_Linside .nil pass0 (pa_cons (pv 0) pa_nil))) pe_str))
       (pss_cons (ps_set (i := 3) sc_Lwritten_set.nd rfl (Or.inl rfl) (pe_op op_add_str (pe_op op_add_str pe_str (pe_call (ok_Linside T) (hr.mono (by decide)) (by rfl) T.g_Linside T.F_Linside.kp T.B_Linside .nil pass0 (pa_cons (pv 1) pa_nil))) pe_str))
       (pss_cons (ps_if (pt_cmpR op_lt (pe_callB call_len_str (by rfl) T.b_len PySem.boot_len (pa_cons (pv 3) pa_nil)) (pe_callB call_len_str (by rfl) T.b_len PySem.boot_len (pa_cons (pv 2) pa_nil)) (nomark _)) (pss_one (ps_ret (pv 3))) pss_nil)
       (pss_one (ps_ret (pv 2))))))))), ?_⟩
    have lc := sub_len hsub
    have lS : SG.length ≤ sizeLine := line20 (by rw [SG_len]; decide)
    have lw := wrs_len (runsL cs)
    have lw2 := wrs_len (runsL (cNot cs))
    have lr := runs_len cs
    have lr2 := runs_len (cNot cs)
    have nsub : (cNot cs).Sublist SG := List.filter_sublist
    have ln := sub_len nsub
    have q2 := q
    unfold wset at q2
    walk_at "rd"
    refine ⟨line20 (by omega), ite2 (fun h1 => ?_) (fun h1 => ?_)⟩
    · have e1 : cs.length = 1 := by omega
      obtain ⟨c, rfl⟩ := List.length_eq_one_iff.mp e1
      rw [if_pos (show [c].length = 1 from rfl)] at q2
      exact ⟨c, rfl, by decide, by decide, q2 _ (Same.refl _)⟩
    · rw [if_neg (by omega)] at q2
      refine lcJ_pure (reg_text SG) (fun c => !decide (c ∈ cs)) (fun c => V.str (tx [c])) lS (fun _ _ _ => trivial) (fun c D acc Q _ h0 hq => ?_) (fun c D acc Q _ _ h0 hq => ?_) (fun D h0 => ?_)
      · walk_at "rd"
        exact hq
      · walk_at "rd"
        exact hq
      have s1 : Same H (upd H D (HO.lst ((SG.filter fun c => !decide (c ∈ cs)).map fun c => V.str (tx [c])))) := same_upd h0
      refine ⟨D, rfl, join_goW (cs := cNot cs) sq_upd (by omega) fun ys e => ?_⟩
      rw [e]
      refine ite2 (fun h2 => ?_) (fun h2 => ?_)
      · rw [if_pos (tx_eq.mp h2)] at q2
        exact q2 _ s1
      · rw [if_neg (fun e => h2 (by rw [e]))] at q2
        have hd : ∀ l : List Nat, l.length ≤ 5 * 96 → (l ++ [93]).length + 1 + 1 ≤ sizeLine := fun l hl => by
          rw [List.length_append]
          exact line20 (by simp; omega)
        have h5 : ∀ l : List Nat, l.length ≤ 5 * 96 → 2 + l.length ≤ sizeLine ∧ 1 + l.length ≤ sizeLine ∧ l.length + 1 + 1 + 1 ≤ sizeLine ∧ l.length + 1 + 1 ≤ sizeLine ∧ (l ++ [93]).length + 1 ≤ sizeLine := fun l hl => by
          have := hd l hl
          rw [List.length_append] at this ⊢
          simp only [List.length_cons, List.length_nil] at this ⊢
          exact ⟨by omega, by omega, by omega, by omega, by omega⟩
        obtain ⟨a1, a2, a3, a4, a5⟩ := h5 (wrs (runsL cs)) (by omega)
        obtain ⟨b1, b2, b3, b4, b5⟩ := h5 (wrs (runsL (cNot cs))) (by omega)
        refine ⟨hsub, fun H3 s3 => ⟨a2, a4, cNot cs, rfl, nsub, fun H4 s4 => ⟨b1, b3, hd _ (by omega), a5, ?_⟩⟩⟩
        have sx := (s1.trans s3).trans s4
        refine ite2 (fun h3 => ?_) (fun h3 => ?_)
        · rw [if_pos (by omega)] at q2
          exact q2 _ sx
        · rw [if_neg (by omega)] at q2
          exact q2 _ sx
end
end My
namespace My
open PySem L2
local macro_rules | `(tactic| walk_at "rd") => `(tactic| simp only [sFld, tM1, tMake, tProp, tFld, rOwn2, rOwnIn, rOwn1, rSetTx, rSortedTx, tSMeth, rOwnLen, tKGet, sp_Minit, sp_between, sp_ranges, sp_members, sp_len, sp_op1, sp_wsign, sp_wrun, sp_wmem, sp_wset, sp_wpat, c_bs, c_spec, c_brack, c_dash, c_open, c_openc, c_close, c_dot, c_nl, tSeq, tNext, tAsg, tOp, tUn, tC, tVar, gName, gSub, tCons, tNil, tCB, tIfS, tIf, tTest, tB, tAnd, tOr, tNot, tAndV, tOrV, tNotV, tRet, tRetN, tDrop, tLst, tTup, tCall, tSl, tNoPart, tPart, tM0, tM1, tBM, tBM0, tYes, tFor_eq, tLc_eq, iList, iRng1, iRng2, iStr, sg_tx, c_empty, rstrip_sign, find_sign, cut_last, cut_to, cut_from, cut_mid, cut_to_lit, cut_from_lit, and_assoc, flat_rep, List.length_replicate, tx_len, tx_eq, tx_app, tx_cps, rI0, rI, rU, rEq, rNe, rIxL, rIxS, rIxT, rSetL, rAppend, rPopAt, rSlS, rSlL, rIn, rMulS, rLtD, rJoin, rLenQ, rListOf,  tRevS, 
  scal, L2.start, List.map_cons, List.map_nil, List.length_cons, List.length_nil, List.replicate, List.cons_append, List.nil_append, List.append_nil,
  List.getElem?_cons_zero, List.getElem?_cons_succ, List.set_cons_zero, List.set_cons_succ, Nat.sub_zero, Nat.reduceSub, Nat.reduceAdd, Nat.zero_add, id_eq, Int.reduceToNat, exists_or,
  V.int.injEq, V.str.injEq, V.bl.injEq, V.ref.injEq, Option.some.injEq, List.cons.injEq, exists_and_left, exists_eq_left', exists_eq_left, exists_eq, exists_eq', and_true, true_and, reduceCtorEq, false_and, and_false, exists_false, false_or, or_false, decide_eq_true_eq, Bool.not_eq_true', decide_eq_false_iff_not, Bool.not_not, Bool.false_eq_true, ↓reduceIte, if_true, if_false])

local macro_rules | `(tactic| walk_at "ne") => `(tactic| first | assumption | (refine Ne.symm ?_; assumption) | exact (ne_of_none (by assumption) (by assumption)) | exact (ne_of_none (by assumption) (by assumption)).symm)
local macro_rules | `(tactic| walk_at "hp") => `(tactic| first | assumption | exact upd_same | exact (upd_ne (by walk_at "ne")).trans (by walk_at "hp"))
local macro_rules | `(tactic| walk_at "st1") => `(tactic| first
  | refine ⟨_, Or.inl (Or.inl (by walk_at "hp")), ?_⟩
  | refine ⟨_, Or.inl (Or.inl (Or.inl (by walk_at "hp"))), ?_⟩
  | refine ⟨_, (show _ = some (HO.lst _) by walk_at "hp"), ?_⟩
  | refine ⟨_, rfl, ?_⟩
  | refine ⟨(rfl : ("str" : String) = "str"), ?_⟩
  | refine ⟨Or.inr ⟨by decide, by decide⟩, ?_⟩
  | refine ⟨⟨by decide, by decide⟩, ?_⟩
  | refine ⟨by decide, ?_⟩
  | refine ⟨by assumption, ?_⟩)
local macro_rules | `(tactic| walk_at "st") => `(tactic| repeat walk_at "st1")
local macro_rules | `(tactic| walk_at "go") => `(tactic| repeat first | walk_at "st1" | walk_at "rd")
section
variable {P : Program} {w : World} {K : PySem.W.Frag} {mg : Str → Option Value} {base : Heap}
theorem kt_esc (c : Nat) : ktAt [(tx [10], Str.ofString "\\n"), (Str.ofString "\t", Str.ofString "\\t")] (tx [c]) (.str (tx [c])) = .str (tx (if c = 10 then [92, 110] else if c = 9 then [92, 116] else [c])) := by
  unfold ktAt
  rw [c_en, c_tab, c_et]
  by_cases h1 : c = 10
  · subst h1
    rfl
  · have b1 : (tx [c] == tx [10]) = false := by
      cases h : tx [c] == tx [10] with
      | false => rfl
      | true => have := tx_eq.mp (eq_of_beq h); simp at this; exact absurd this h1
    rw [List.lookup_cons, b1, if_neg h1]
    by_cases h2 : c = 9
    · subst h2
      rfl
    · have b2 : (tx [c] == tx [9]) = false := by
        cases h : tx [c] == tx [9] with
        | false => rfl
        | true => have := tx_eq.mp (eq_of_beq h); simp at this; exact absurd this h2
      dsimp only
      rw [List.lookup_cons, b2, if_neg h2]
      rfl
theorem ok_write_sign (T : Top K mg) : FnOk P T.tw K mg base CX0 1 T.f_write_sign T.fd_write_sign ["sign", "specials"] sp_wsign := by
  refine T.F_write_sign.ok sc_write_sign (fun vs H Q E h => ?_) (fun cdv A outer s H vs Q E hr h => ?_)
  · obtain ⟨c, sp, rfl, _⟩ := h
    rfl
  · obtain ⟨c, sp, rfl, q⟩ := h
    refine ⟨_, (pss_cons (ps_if (pt_cmpR op_in_sign (pv 0) (pv 1) (by rfl)) (pss_one (ps_ret (pe_op op_add_str pe_str (pv 0)))) pss_nil)
       (pss_one (ps_ret (pe_kget T.kt_ESCAPES (pe_glob (v := .ref T.d_ESCAPES) rfl T.g_ESCAPES rfl) (pv 0) (pv 0) ⟨rfl, rfl, rfl, rfl⟩)))), ?_⟩
    walk_at "rd"
    refine ite2 (fun h => ⟨by decide, ?_⟩) (fun h => ?_)
    · unfold esc at q
      rw [if_pos h] at q
      exact q
    · unfold esc at q
      rw [if_neg h] at q
      rw [kt_esc]
      exact q
theorem ok_write_run (T : Top K mg) : FnOk P T.tw K mg base CX0 4 T.f_write_run T.fd_write_run ["first", "last"] sp_wrun := by
  refine T.F_write_run.ok sc_write_run (fun vs H Q E h => ?_) (fun cdv A outer s H vs Q E hr h => ?_)
  · obtain ⟨a, b, rfl, _⟩ := h
    rfl
  · obtain ⟨a, b, rfl, ha, hb, q⟩ := h
    refine ⟨_, (pss_cons (ps_setLc (i := 2) (own := [("sign", 3)]) (g := gName 3) (by rfl) sc_write_run.nd rfl rfl (sw_true rfl rfl rfl (by decide +kernel)) (pi_str (pe_prop (pe_smeth (pe_glob (v := .ref T.c_SignSet) rfl T.g_SignSet rfl) T.cr_SignSet T.sm_SignSet_between (ok_SignSet_between T) (hr.mono (by decide)) T.B_SignSet_between pass0 (pa_cons (pv 0) (pa_cons (pv 1) pa_nil))) T.i_SignSet.cl T.pr_SignSet_members (ok_SignSet_members T) (hr.mono (by decide)) T.B_SignSet_members .nil pass0 rfl)) (blkOk_by (own := [("sign", 3)]) (N := n_write_run) (sc := defScope s_write_run) (by decide +kernel)) (fun _ _ _ _ _ => pg_name (i := 3) sc_write_run.nd rfl (Or.inl rfl)) (fun _ _ _ _ _ => pts_nil) (fun _ _ _ _ _ => (pe_call (ok_write_sign T) (hr.mono (by decide)) (by rfl) T.g_write_sign T.F_write_sign.kp T.B_write_sign .nil pass0 (pa_cons (pv 3) (pa_cons (pe_glob (v := .str _) rfl T.g_BRACKET_SPECIALS ⟨_, rfl⟩) pa_nil)))))
       (pss_cons (ps_if (pt_cmpR op_lt (pe_callB (r := rLenQ K) call_lenQ (by rfl) T.b_len PySem.boot_len (pa_cons (pv 2) pa_nil)) (pe_glob (v := .int _) rfl T.g_SHORTEST_RANGE ⟨_, rfl⟩) (nomark _)) (pss_one (ps_ret (pe_m1 (r := rJoin K) PySem.F.slot_str_join PySem.F.type_str_join mt_joinQ pe_str (pv 2)))) pss_nil)
       (pss_one (ps_ret (pe_op op_add_str (pe_op op_add_str (pe_ix (r := rIxL K) ix_list (pv 2) pe_int (fun _ _ => rfl)) pe_str) (pe_ix (r := rIxL K) ix_list (pv 2) (pe_un un_neg pe_int) (fun _ _ => rfl))))))), ?_⟩
    walk_at "rd"
    refine ⟨ha, hb, fun r H1 hr1 s1 S1 => ?_⟩
    obtain ⟨dr, hrr⟩ := id S1
    refine ⟨_, _, hrr, _, S1, ?_⟩
    have lb := sub_len (btw_sub a b)
    obtain ⟨L, eL⟩ : ∃ L, L = btw a b := ⟨_, rfl⟩
    rw [← eL] at lb ⊢
    refine lcJ_pure (reg_text L) (fun _ => true) (fun c => V.str (tx (esc BPc c))) (line20 (by omega)) (fun _ _ _ => trivial) (fun c D acc Q _ h0 hq => ?_) (fun c D acc Q _ _ h0 hq => ?_) (fun D h0 => ?_)
    · walk_at "rd"
      exact hq
    · walk_at "rd"
      exact hq
    rw [filter_yes]
    refine ⟨D, rfl, _, .inl sq_upd, ?_⟩
    rw [List.length_map]
    have em : (L.map fun c => V.str (tx (esc BPc c))) = (L.map (esc BPc)).map fun s => V.str (tx s) := by rw [List.map_map]; rfl
    have sN : Same H (upd H1 D (HO.lst (L.map fun c => V.str (tx (esc BPc c))))) := s1.trans (same_upd h0)
    have q2 := q _ sN
    rw [← eL] at q2
    refine ite2 (fun hlt => ?_) (fun hlt => ?_)
    · have hs : ¬ 2 < L.length := by omega
      rw [fl_short hs] at q2
      refine ⟨D, rfl, join_txs (ss := L.map (esc BPc)) (by rw [← em]; exact sq_upd) ?_ fun ys e => ?_⟩
      · rw [List.map_map]
        have : ∀ l : List Nat, ((l.map ((fun x => x.length) ∘ esc BPc)).sum) ≤ 2 * l.length := by
          intro l
          induction l with
          | nil => simp
          | cons c l ih =>
            rw [List.map_cons, List.sum_cons, List.length_cons]
            have := esc_len BPc c
            simp only [Function.comp] at ih ⊢
            omega
        have := this L
        omega
      · rw [e]
        exact q2
    · have hs : 2 < L.length := by omega
      obtain ⟨u, v, _, _, hu, hv, e⟩ := fl_long hs
      rw [e] at q2
      have hu2 : atI (L.map fun c => V.str (tx (esc BPc c))) 0 = some (V.str (tx (esc BPc u))) := atI_nat (j := 0) (by rw [List.getElem?_map, hu]; rfl)
      have hv2 : atI (L.map fun c => V.str (tx (esc BPc c))) (-1) = some (V.str (tx (esc BPc v))) := by
        obtain ⟨L0, y, rfl⟩ : ∃ ys y, L = ys ++ [y] := ⟨L.dropLast, L.getLast (by intro e; rw [e] at hs; simp at hs), (List.dropLast_concat_getLast _).symm⟩
        rw [List.getLast?_concat] at hv
        cases Option.some.inj hv
        rw [atI_neg1 (by simp)]
        simp
      refine ⟨D, rfl, _, sq_upd, _, hu2, _, rfl, ?_, D, rfl, _, sq_upd, _, hv2, _, rfl, ?_, ?_⟩
      · have := esc_len BPc u
        rw [tx_len]
        exact line20 (by omega)
      · have := esc_len BPc u
        have := esc_len BPc v
        rw [tx_app, tx_len, tx_len, List.length_append]
        exact line20 (by simp; omega)
      · rw [tx_app, tx_app]
        exact q2
theorem ok_write_members (T : Top K mg) : FnOk P T.tw K mg base CX0 5 T.f_write_members T.fd_write_members ["members"] (sp_wmem T.c_SignSet) := by
  refine T.F_write_members.ok sc_write_members (fun vs H Q E h => ?_) (fun cdv A outer s H vs Q E hr h => ?_)
  · obtain ⟨x, cs, rfl, _⟩ := h
    rfl
  · obtain ⟨x, cs, rfl, hS, hsub, q⟩ := h
    refine ⟨_, (pss_one (ps_ret (pe_m1 (r := rJoin K) PySem.F.slot_str_join PySem.F.type_str_join mt_joinQ pe_str (pe_lc (own := [("first", 1), ("last", 2)]) (g := gTup K 2 (gCons (gName 1) (gCons (gName 2) (gNil)))) (by rfl) sc_write_members.nd (pi_list (pe_prop (pv 0) T.i_SignSet.cl T.pr_SignSet_ranges (ok_SignSet_ranges T) (hr.mono (by decide)) T.B_SignSet_ranges .nil pass0 rfl)) (blkOk_by (own := [("first", 1), ("last", 2)]) (N := n_write_members) (sc := defScope s_write_members) (by decide +kernel)) (fun _ _ _ _ _ => pg_tup (n := 2) (by rfl) (pgs_cons (pg_name (i := 1) sc_write_members.nd rfl (Or.inl rfl)) (pgs_cons (pg_name (i := 2) sc_write_members.nd rfl (Or.inl rfl)) pgs_nil))) (fun _ _ _ _ _ => pts_nil) (fun _ _ _ _ _ => (pe_call (ok_write_run T) (hr.mono (by decide)) (by rfl) T.g_write_run T.F_write_run.kp T.B_write_run .nil pass0 (pa_cons (pv 1) (pa_cons (pv 2) pa_nil)))))))), ?_⟩
    obtain ⟨dx, hx⟩ := id hS
    have lc := sub_len hsub
    have lR := runs_len cs
    walk_at "rd"
    refine ⟨_, _, hx, cs, hS, hsub, fun m rs H1 hm s1 R1 => ?_⟩
    obtain ⟨R, eR⟩ : ∃ R, R = runsL cs := ⟨_, rfl⟩
    have hR : ∀ q ∈ R, q.1 ∈ SG ∧ q.2 ∈ SG := fun q hq => by
      rw [eR] at hq
      exact ⟨hsub.subset (runs_mem _ _ hq).1, hsub.subset (runs_mem _ _ hq).2⟩
    rw [← eR] at R1 lR q
    obtain ⟨Pv, hP⟩ : ∃ Pv : Addr → Nat → Hp → Prop, ∀ D i H', Pv D i H' ↔ (Same H1 H' ∧ H' D = some (.lst (((R.take i).map fun q => fl (btw q.1 q.2)).map fun s => V.str (tx s)))) := ⟨_, fun _ _ _ => Iff.rfl⟩
    refine ⟨⟨_, .inl (.inl R1.lst)⟩, ?_⟩
    refine lcJ_byG (reg_map K m V.ref rs) Pv (fun D i H' _ h => .inl (.inl (((hP _ _ _).mp h).1 _ _ R1.lst))) (fun D h0 => (hP _ _ _).mpr ⟨same_upd h0, upd_same⟩) (fun D i t H' h0 hi hp => ?_) (fun D H' h0 hp => ?_)
    · obtain ⟨sm, hD⟩ := (hP _ _ _).mp hp
      have hlt : i < R.length := by
        have := (List.getElem?_eq_some_iff.mp hi).1
        rw [R1.len] at this
        exact this
      obtain ⟨g, hg⟩ : ∃ g, R[i]? = some g := ⟨_, List.getElem?_eq_getElem hlt⟩
      have et := sm _ _ (R1.tup i t g hi hg)
      have gm := hR g (List.mem_of_getElem? hg)
      have ht : R.take (i + 1) = R.take i ++ [g] := by rw [List.take_add_one, hg]; rfl
      refine ⟨t, _, rfl, SqT.of et, rfl, ?_⟩
      walk_at "rd"
      refine ⟨_, _, rfl, _, _, rfl, rfl, rfl, _, rfl, _, rfl, _, rfl, _, rfl, gm.1, gm.2, fun H2 s2 => ⟨_, s2 _ _ hD, ?_, ?_⟩⟩
      · rw [List.length_map, List.length_map, List.length_take]
        exact toLine (by omega)
      · refine (hP _ _ _).mpr ⟨fun b o e => ?_, ?_⟩
        · rw [upd_ne (ne_of_none e h0)]
          exact s2 _ _ (sm _ _ e)
        · rw [upd_same, ht, List.map_append, List.map_append]
          rfl
    · obtain ⟨sm, hD⟩ := (hP _ _ _).mp hp
      have eL : rs.length = R.length := R1.len
      rw [eL, List.take_length] at hD
      refine ⟨D, rfl, join_txs (.inl (.inl hD)) ?_ fun ys e => ?_⟩
      · have h1 := wrs_len R
        unfold wrs at h1
        rw [List.length_flatten] at h1
        exact Nat.le_trans h1 (by omega)
      · rw [e]
        exact q _ (s1.trans sm)
theorem ok_write_set (T : Top K mg) : FnOk P T.tw K mg base CX0 6 T.f_write_set T.fd_write_set ["signs"] sp_wset := by
  refine T.F_write_set.ok sc_write_set (fun vs H Q E h => ?_) (fun cdv A outer s H vs Q E hr h => ?_)
  · obtain ⟨cs, rfl, _⟩ := h
    rfl
  · obtain ⟨cs, rfl, hsub, q⟩ := h
    refine ⟨_, (pss_cons (ps_set (i := 1) sc_write_set.nd rfl (Or.inl rfl) (pe_make T.mk_SignSet (ok_SignSet_Minit T) (hr.mono (by decide)) (by rfl) T.g_SignSet T.B_SignSet_Minit .nil pass0 (pa_cons (pv 0) pa_nil)))
       (pss_cons (ps_set (i := 2) sc_write_set.nd rfl (Or.inl rfl) (pe_un (un_ownInv (ok_SignSet_Minvert T) (hr.mono (by decide)) T.at_SignSet_Minvert T.fn_SignSet_Minvert T.B_SignSet_Minvert pass0) (pv 1)))
       (pss_cons (ps_if (pt_cmpR op_eq (pe_callB (r := rOwnLen _ _ _) (call_ownLen (ok_SignSet_Mlen T) (hr.mono (by decide)) T.at_SignSet_Mlen T.fn_SignSet_Mlen T.B_SignSet_Mlen pass0) (by rfl) T.b_len PySem.boot_len (pa_cons (pv 1) pa_nil)) pe_int (nomark _)) (pss_one (ps_ret (pe_call (ok_write_sign T) (hr.mono (by decide)) (by rfl) T.g_write_sign T.F_write_sign.kp T.B_write_sign .nil pass0 (pa_cons (pv 0) (pa_cons (pe_glob (v := .str _) rfl T.g_SPECIAL_SIGNS ⟨_, rfl⟩) pa_nil))))) pss_nil)
       (pss_cons (ps_if (pt_cmpR op_eq (pe_prop (pv 2) T.i_SignSet.cl T.pr_SignSet_members (ok_SignSet_members T) (hr.mono (by decide)) T.B_SignSet_members .nil pass0 rfl) pe_str (nomark _)) (pss_one (ps_ret pe_str)) pss_nil)
       (pss_cons (ps_set (i := 3) sc_write_set.nd rfl (Or.inl rfl) (pe_op op_add_str (pe_op op_add_str pe_str (pe_call (ok_write_members T) (hr.mono (by decide)) (by rfl) T.g_write_members T.F_write_members.kp T.B_write_members .nil pass0 (pa_cons (pv 1) pa_nil))) pe_str))
       (pss_cons (ps_set (i := 4) sc_write_set.nd rfl (Or.inl rfl) (pe_op op_add_str (pe_op op_add_str pe_str (pe_call (ok_write_members T) (hr.mono (by decide)) (by rfl) T.g_write_members T.F_write_members.kp T.B_write_members .nil pass0 (pa_cons (pv 2) pa_nil))) pe_str))
       (pss_one (ps_ret (pe_ifExp (pt_cmpR op_lt (pe_callB call_len_str (by rfl) T.b_len PySem.boot_len (pa_cons (pv 4) pa_nil)) (pe_callB call_len_str (by rfl) T.b_len PySem.boot_len (pa_cons (pv 3) pa_nil)) (nomark _)) (pv 4) (pv 3)))))))))), ?_⟩
    have lc := sub_len hsub
    have lw := wrs_len (runsL cs)
    have lw2 := wrs_len (runsL (cNot cs))
    have lr := runs_len cs
    have lr2 := runs_len (cNot cs)
    have nsub : (cNot cs).Sublist SG := List.filter_sublist
    have ln := sub_len nsub
    walk_at "rd"
    refine fun x dx hx hdx hne => ⟨_, upd_same, fun c hc => hsub.subset hc, by omega, fun H1 B1 S1 => ?_⟩
    rw [asc_self hsub] at S1
    have s1 := made_same hx hdx B1
    obtain ⟨ex, hx1⟩ := id S1
    refine ⟨_, _, hx1, cs, S1, hsub, fun r H2 _ s2 S2 => ?_⟩
    have hx2 := s2 _ _ hx1
    obtain ⟨er, hr2⟩ := id S2
    have q2 := q
    unfold wset at q2
    refine ⟨_, _, hx2, cs, S1.at s2, by omega, by omega, by omega, ite2 (fun h1 => ?_) (fun h1 => ?_)⟩
    · have e1 : cs.length = 1 := by omega
      obtain ⟨c, rfl⟩ := List.length_eq_one_iff.mp e1
      rw [if_pos (show [c].length = 1 from rfl)] at q2
      exact ⟨c, rfl, q2 _ (s1.trans s2)⟩
    · rw [if_neg (by omega)] at q2
      refine ⟨_, _, hr2, _, S2, ite2 (fun h2 => ?_) (fun h2 => ?_)⟩
      · rw [if_pos h2] at q2
        exact q2 _ (s1.trans s2)
      · rw [if_neg h2] at q2
        have hd : ∀ l : List Nat, l.length ≤ 5 * 96 → (l ++ [93]).length + 1 + 1 ≤ sizeLine := fun l hl => by
          rw [List.length_append]
          exact line20 (by simp; omega)
        have h5 : ∀ l : List Nat, l.length ≤ 5 * 96 → 2 + l.length ≤ sizeLine ∧ 1 + l.length ≤ sizeLine ∧ l.length + 1 + 1 + 1 ≤ sizeLine ∧ l.length + 1 + 1 ≤ sizeLine ∧ (l ++ [93]).length + 1 ≤ sizeLine := fun l hl => by
          have := hd l hl
          rw [List.length_append] at this ⊢
          simp only [List.length_cons, List.length_nil] at this ⊢
          exact ⟨by omega, by omega, by omega, by omega, by omega⟩
        obtain ⟨a1, a2, a3, a4, a5⟩ := h5 (wrs (runsL cs)) (by omega)
        obtain ⟨b1, b2, b3, b4, b5⟩ := h5 (wrs (runsL (cNot cs))) (by omega)
        refine ⟨cs, S1.at s2, hsub, fun H3 s3 => ⟨a2, a4, cNot cs, S2.at s3, nsub, fun H4 s4 => ⟨b1, b3, hd _ (by omega), a5, ?_⟩⟩⟩
        have sx := ((s1.trans s2).trans s3).trans s4
        refine ite2 (fun h3 => ?_) (fun h3 => ?_)
        · rw [if_pos (by omega)] at q2
          exact q2 _ sx
        · rw [if_neg (by omega)] at q2
          exact q2 _ sx
end
end My
namespace My
open PySem L2
local macro_rules | `(tactic| walk_at "rd") => `(tactic| simp only [tSeq, tNext, tAsg, tOp, tUn, tC, tVar, gName, gSub, tCons, tNil, tCB, tIfS, tIf, tTest, tB, tAnd, tOr, tNot, tAndV, tOrV, tNotV, tRet, tRetN, tDrop, tLst, tTup, tCall, tSl, tNoPart, tPart, tM0, tM1, tBM, tBM0, tYes, tFor_eq, tLc_eq, iList, iRng1, iRng2, iStr, sg_tx, c_empty, rstrip_sign, find_sign, cut_last, cut_to, cut_from, cut_mid, cut_to_lit, cut_from_lit, and_assoc, flat_rep, List.length_replicate, tx_len, tx_eq, tx_app, tx_cps, rI0, rI, rU, rEq, rNe, rIxL, rIxS, rIxT, rSetL, rAppend, rPopAt, rSlS, rSlL, rIn, rMulS, rLtD, rJoin, rLenQ, rListOf,  tRevS, 
  scal, L2.start, List.map_cons, List.map_nil, List.length_cons, List.length_nil, List.replicate, List.cons_append, List.nil_append, List.append_nil,
  List.getElem?_cons_zero, List.getElem?_cons_succ, List.set_cons_zero, List.set_cons_succ, Nat.sub_zero, Nat.reduceSub, Nat.reduceAdd, Nat.zero_add, id_eq, Int.reduceToNat, exists_or,
  V.int.injEq, V.str.injEq, V.bl.injEq, V.ref.injEq, Option.some.injEq, List.cons.injEq, exists_and_left, exists_eq_left', exists_eq_left, exists_eq, exists_eq', and_true, true_and, reduceCtorEq, false_and, and_false, exists_false, false_or, or_false, decide_eq_true_eq, Bool.not_eq_true', decide_eq_false_iff_not, Bool.not_not, Bool.false_eq_true, ↓reduceIte, if_true, if_false])

local macro_rules | `(tactic| walk_at "ne") => `(tactic| first | assumption | (refine Ne.symm ?_; assumption) | exact (ne_of_none (by assumption) (by assumption)) | exact (ne_of_none (by assumption) (by assumption)).symm)
local macro_rules | `(tactic| walk_at "hp") => `(tactic| first | assumption | exact upd_same | exact (upd_ne (by walk_at "ne")).trans (by walk_at "hp"))
local macro_rules | `(tactic| walk_at "st1") => `(tactic| first
  | refine ⟨_, Or.inl (Or.inl (by walk_at "hp")), ?_⟩
  | refine ⟨_, Or.inl (Or.inl (Or.inl (by walk_at "hp"))), ?_⟩
  | refine ⟨_, (show _ = some (HO.lst _) by walk_at "hp"), ?_⟩
  | refine ⟨_, rfl, ?_⟩
  | refine ⟨(rfl : ("str" : String) = "str"), ?_⟩
  | refine ⟨Or.inr ⟨by decide, by decide⟩, ?_⟩
  | refine ⟨⟨by decide, by decide⟩, ?_⟩
  | refine ⟨by decide, ?_⟩
  | refine ⟨by assumption, ?_⟩)
local macro_rules | `(tactic| walk_at "st") => `(tactic| repeat walk_at "st1")
local macro_rules | `(tactic| walk_at "go") => `(tactic| repeat first | walk_at "st1" | walk_at "rd")
local macro_rules | `(tactic| walk_at "wk") => `(tactic| repeat first | exact Wk.nil | apply Wk.yes | apply Wk.no)
local macro_rules | `(tactic| walk_at "ds1") => `(tactic| first
  | ((with_reducible show Sv _ _ _ _); (first | (((with_reducible apply sv_putE); next => rfl)) | (with_reducible apply sv_seq) | (with_reducible apply sv_if) | (((with_reducible apply sv_retO); next => rfl)) | (with_reducible refine sv_retN (el_lst ?_)) | (with_reducible refine sv_retN (el_call ?_)) | (with_reducible refine sv_retN (el_lc ?_)) | (with_reducible refine sv_retN (el_list ?_)) | (with_reducible refine sv_retN (el_cat ?_)) | (with_reducible apply sv_ret) | (with_reducible refine sv_setN (el_lst ?_)) | (with_reducible refine sv_setN (el_call ?_)) | (with_reducible refine sv_setN (el_lc ?_)) | (with_reducible refine sv_setN (el_list ?_)) | (with_reducible refine sv_setN (el_cat ?_)) | (with_reducible refine sv_setN (el_callD rfl ?_)) | (((with_reducible apply sv_putD); next => rfl)) | (with_reducible apply sv_set) | (((with_reducible apply sv_app); next => rfl)) | (((with_reducible apply sv_ext); next => rfl)) | (((with_reducible apply sv_put); next => rfl)) | (with_reducible apply sv_for) | (with_reducible apply sv_nil) | (with_reducible apply sv_retNone) | (with_reducible apply sv_drop)))
  | ((with_reducible show Ev _ _ _ _); (first | (with_reducible apply ev_min3) | (with_reducible apply ev_q0) | (with_reducible apply ev_q1) | (with_reducible apply ev_q2) | (with_reducible apply ev_q3) | (with_reducible apply ev_q4) | (with_reducible apply ev_q5) | (with_reducible apply ev_q6) | (with_reducible apply ev_q7) | (with_reducible apply ev_q8) | (with_reducible apply ev_q9) | (with_reducible apply ev_q10) | (with_reducible apply ev_q11) | (with_reducible apply ev_q12) | (with_reducible apply ev_q13) | (with_reducible apply ev_q14) | (with_reducible apply ev_q15) | (with_reducible apply ev_q16) | (with_reducible apply ev_q17) | (with_reducible apply ev_q18) | (with_reducible apply ev_q19) | (with_reducible apply ev_q20) | (with_reducible apply ev_q21) | (with_reducible apply ev_q22) | (with_reducible apply ev_q23) | (with_reducible apply ev_q24) | (with_reducible apply ev_q25) | (with_reducible apply ev_q26) | (with_reducible apply ev_q27) | (with_reducible apply ev_q28) | (with_reducible apply ev_q29) | (with_reducible apply ev_q30) | (with_reducible apply ev_q31) | (with_reducible apply ev_q32) | (with_reducible apply ev_q33) | (with_reducible apply ev_q34) | (with_reducible apply ev_q35) | (with_reducible apply ev_q36) | (with_reducible apply ev_q37) | (with_reducible apply ev_q38) | (with_reducible apply ev_q39) | (with_reducible apply ev_q40) | (with_reducible apply ev_q41) | (with_reducible apply ev_q42) | (with_reducible apply ev_q43) | (with_reducible apply ev_q44) | (with_reducible apply ev_q45) | (with_reducible apply ev_catX) | (with_reducible apply ev_inS) | (with_reducible apply ev_ninS) | (with_reducible apply ev_joinE) | (with_reducible apply ev_joinB) | (with_reducible apply ev_wset) | (with_reducible apply ev_strIN) | (with_reducible apply ev_fmt) | (with_reducible apply ev_joined) | (with_reducible apply ev_slX) | (with_reducible apply ev_lenX) | (with_reducible apply ev_sgs) | (((with_reducible apply ev_ixD); next => rfl)) | (((with_reducible apply ev_ktup); next => assumption)) | (((with_reducible apply ev_var); next => rfl)) | (((with_reducible apply ev_varO); next => rfl)) | (((with_reducible apply ev_varL); next => rfl)) | (((with_reducible apply ev_callD); next => rfl)) | (((with_reducible apply ev_dr); next => rfl)) | (with_reducible apply ev_max2) | (with_reducible apply ev_min2) | (with_reducible apply ev_index) | (with_reducible apply ev_eqD) | (with_reducible apply ev_neD) | (with_reducible apply ev_str) | (with_reducible apply ev_int) | (with_reducible apply ev_bl) | (with_reducible apply ev_non) | (with_reducible apply ev_ixT) | (with_reducible apply ev_call) | (with_reducible apply ev_eq) | (with_reducible apply ev_tup) | (with_reducible apply ev_in) | (with_reducible apply ev_ixL) | (with_reducible apply ev_ne) | (with_reducible apply ev_i0) | (with_reducible apply ev_ib) | (with_reducible apply ev_isi) | (with_reducible apply ev_isN) | (with_reducible apply ev_notN) | (with_reducible apply ev_isB) | (with_reducible apply ev_notB) | (with_reducible apply ev_slT2) | (with_reducible apply ev_catU) | (with_reducible apply ev_iC) | (with_reducible apply ev_ixS) | (with_reducible apply ev_u) | (with_reducible apply ev_notV) | (with_reducible apply ev_if) | (with_reducible apply ev_len) | (with_reducible apply ev_tuple) | (with_reducible apply ev_all) | (with_reducible refine Ev.ofNew (el_lst ?_)) | (with_reducible refine Ev.ofNew (el_call ?_)) | (with_reducible refine Ev.ofNew (el_lc ?_)) | (with_reducible refine Ev.ofNew (el_list ?_)) | (with_reducible refine Ev.ofNew (el_cat ?_))))
  | ((with_reducible show Es _ _ _ _); (first | (with_reducible apply es_cons) | (with_reducible apply es_nil)))
  | ((with_reducible show Tv _ _ _ _); (first | (with_reducible apply tv_test) | (with_reducible apply tv_not) | (with_reducible apply tv_and) | (with_reducible apply tv_or) | (with_reducible apply tv_b) | (with_reducible apply tv_yes) | (with_reducible apply tv_tr)))
  | ((with_reducible show Eln _ _ _ _); (first | (with_reducible apply el_lst) | (with_reducible apply el_call) | (with_reducible apply el_lc) | (with_reducible apply el_list) | (with_reducible apply el_cat)))
  | ((with_reducible show Eo _ _ _ _); (first | (with_reducible apply eo_no) | (with_reducible apply eo_some)))
  | ((with_reducible show Iv _ _ _ _); (first | (with_reducible apply iv_tup) | (with_reducible apply iv_range1) | (with_reducible apply iv_str) | (with_reducible apply iv_enumT) | (((with_reducible apply iv_listV); next => rfl)) | (((with_reducible apply iv_listO); next => rfl)) | (with_reducible refine iv_listN (el_lst ?_)) | (with_reducible refine iv_listN (el_call ?_)) | (with_reducible refine iv_listN (el_lc ?_)) | (with_reducible refine iv_listN (el_list ?_)) | (with_reducible refine iv_listN (el_cat ?_))))
  | ((with_reducible show Gv _ _ _ _ _ _); (first | (with_reducible apply gv_name) | (with_reducible apply gv_tup2) | (with_reducible apply gv_tup3)))
  | ((with_reducible show seqO _ _ _ _); (first | (with_reducible apply o_nx) | (with_reducible apply o_rt) | (with_reducible apply o_rn) | (with_reducible apply o_bk) | (with_reducible apply o_ct)))
  | ((with_reducible show jnI _ _ _); (first | (with_reducible apply ji_nx) | (with_reducible apply ji_rt) | (with_reducible apply ji_rn) | (with_reducible apply ji_bk) | (with_reducible apply ji_ct)))
  | ((with_reducible show jnO _ _ _); (first | (with_reducible apply j_nx) | (with_reducible apply j_rt) | (with_reducible apply j_rn) | (with_reducible apply j_bk) | (with_reducible apply j_ct)))
  | ((with_reducible show lpO _ _ _ _); (first | (with_reducible apply l_rt) | (with_reducible apply l_rn) | (with_reducible apply l_ct) | (with_reducible apply l_nx')))
  | ((with_reducible show retO _ _); (first | (with_reducible apply r_rt) | (with_reducible apply r_nx)))
  | (with_reducible apply r_rn)
  | ((with_reducible show KIf _ _ _); (first | (((with_reducible apply k_ift); next => first | decide +kernel | rfl)) | (((with_reducible apply k_iff); next => first | decide +kernel | rfl))))
  | ((with_reducible show KEq _ _ _); (first | (with_reducible apply k_eqIN) | (with_reducible apply k_eqNI) | (with_reducible apply k_eqS) | (with_reducible apply k_eqI) | (with_reducible apply k_eqB) | (((with_reducible apply k_eqO); next => rfl; next => rfl; next => rfl; next => rfl))))
  | ((with_reducible show KDas _ _); (first | (with_reducible apply k_das_0) | (with_reducible apply k_das_1) | (with_reducible apply k_das_2) | (with_reducible apply k_das_3) | (with_reducible apply k_das_4) | (with_reducible apply k_das_5) | (with_reducible apply k_das_6) | (with_reducible apply k_das_7) | (with_reducible apply k_das_8) | (with_reducible apply k_das_9) | (with_reducible apply k_das_10) | (with_reducible apply k_das_11) | (with_reducible apply k_das_12) | (with_reducible apply k_das_13) | (with_reducible apply k_das_14) | (with_reducible apply k_das_15) | (with_reducible apply k_das_16)))
  | ((with_reducible show KIn _ _ _); (first | (with_reducible apply k_inT_0) | (with_reducible apply k_inL_0) | (with_reducible apply k_inT_1) | (with_reducible apply k_inL_1) | (with_reducible apply k_inT_2) | (with_reducible apply k_inL_2) | (with_reducible apply k_inT_3) | (with_reducible apply k_inL_3) | (with_reducible apply k_inT_4) | (with_reducible apply k_inL_4) | (with_reducible apply k_inT_5) | (with_reducible apply k_inL_5) | (with_reducible apply k_inT_6) | (with_reducible apply k_inL_6) | (with_reducible apply k_inT_7) | (with_reducible apply k_inL_7) | (with_reducible apply k_inT_8) | (with_reducible apply k_inL_8) | (with_reducible apply k_inT_9) | (with_reducible apply k_inL_9) | (with_reducible apply k_inT_10) | (with_reducible apply k_inL_10) | (with_reducible apply k_inT_11) | (with_reducible apply k_inL_11) | (with_reducible apply k_inT_12) | (with_reducible apply k_inL_12) | (with_reducible apply k_inN) | (((with_reducible apply k_inT); next => rfl; next => rfl)) | (((with_reducible apply k_inL); next => rfl; next => rfl))))
  | ((with_reducible show KEqD _ _ _); (first | (with_reducible apply k_eqIntsC) | (with_reducible apply k_eqInts0) | (with_reducible apply k_eqInts)))
  | (with_reducible apply k_put0)
  | ((with_reducible show KTy _ _ _); (first | (with_reducible apply k_ty_tup_tuple) | (with_reducible apply k_ty_tup_bool) | (with_reducible apply k_ty_tup_int) | (with_reducible apply k_ty_tup_str) | (with_reducible apply k_ty_tup_list) | (with_reducible apply k_ty_ls_tuple) | (with_reducible apply k_ty_ls_bool) | (with_reducible apply k_ty_ls_int) | (with_reducible apply k_ty_ls_str) | (with_reducible apply k_ty_ls_list) | (with_reducible apply k_ty_int_tuple) | (with_reducible apply k_ty_int_bool) | (with_reducible apply k_ty_int_int) | (with_reducible apply k_ty_int_str) | (with_reducible apply k_ty_int_list) | (with_reducible apply k_ty_str_tuple) | (with_reducible apply k_ty_str_bool) | (with_reducible apply k_ty_str_int) | (with_reducible apply k_ty_str_str) | (with_reducible apply k_ty_str_list) | (with_reducible apply k_ty_bl_tuple) | (with_reducible apply k_ty_bl_bool) | (with_reducible apply k_ty_bl_int) | (with_reducible apply k_ty_bl_str) | (with_reducible apply k_ty_bl_list) | (with_reducible apply k_ty_non_tuple) | (with_reducible apply k_ty_non_bool) | (with_reducible apply k_ty_non_int) | (with_reducible apply k_ty_non_str) | (with_reducible apply k_ty_non_list)))
  | ((with_reducible show KSl _ _ _ _); (first | (with_reducible apply k_sl_1) | (with_reducible apply k_sl_2) | (with_reducible apply k_sl_m2) | (with_reducible apply k_sl_m3) | (with_reducible apply k_sl_m4) | (with_reducible apply k_sl_m5)))
  | ((with_reducible show KCat _ _ _); (first | (with_reducible apply k_cat1) | (with_reducible apply k_cat2) | (with_reducible apply k_cat3) | (with_reducible apply k_cat23)))
  | ((with_reducible show KLen _ _); (first | (with_reducible apply k_lenT) | (with_reducible apply k_lenL)))
  | ((with_reducible show KSq _ _); (first | (with_reducible apply k_sqT) | (with_reducible apply k_sqL)))
  | (with_reducible apply k_i2s)
  | (with_reducible apply k_d)
  | ((with_reducible show KT _ _); (first | (with_reducible apply k_t) | (with_reducible apply k_tT)))
  | (with_reducible apply k_l)
  | (with_reducible apply k_i1)
  | (with_reducible apply k_i2)
  | (with_reducible apply k_b)
  | (with_reducible apply k_n)
  | (with_reducible apply k_tx)
  | (with_reducible apply k_t1)
  | (with_reducible apply k_ts)
  | with_reducible apply k_ix_0
  | with_reducible apply k_ix_1
  | ((with_reducible apply k_ixT2); next => rfl)
  | with_reducible apply gx_name
  | with_reducible apply gx_tup2
  | with_reducible apply gx_tup3
  | with_reducible refine (fun (p : Addr) => (?_ : seqO _ _ _ _))
  | with_reducible refine (fun (p : Addr) => (?_ : lpO _ _ _ _))
  | with_reducible refine (fun (p : Addr) => (?_ : liO _ _))
  | ((with_reducible show KTr _ _); (first | (with_reducible apply k_trI) | (with_reducible apply k_trB)))
  | (with_reducible apply k_sg)
  | ((with_reducible show Sx _ _ _ _ _ _ _ _); (first | (with_reducible apply sx_seq) | (with_reducible apply sx_if) | (with_reducible refine sx_retN (el_lst ?_)) | (with_reducible refine sx_retN (el_call ?_)) | (with_reducible refine sx_retN (el_lc ?_)) | (with_reducible refine sx_retN (el_list ?_)) | (with_reducible refine sx_retN (el_cat ?_)) | (with_reducible apply sx_for)))
  | ((with_reducible show Ej _ _ _ _ _); (first | (with_reducible apply ej_nil) | (with_reducible apply ej_cons)))
  | ((with_reducible show liO _ _); (first | (with_reducible apply li_nx) | (with_reducible apply li_bk) | (with_reducible apply li_ct)))
  | ((with_reducible show sqX _ _ _ _ _ _ _ _); (first | (with_reducible apply q_nx) | (with_reducible apply q_rt) | (with_reducible apply q_rn) | (with_reducible apply q_bk) | (with_reducible apply q_ct)))
  | (with_reducible apply lx_nx)
  | ((with_reducible show Ems _ _ _ _); (first | (with_reducible apply ems_cons) | (with_reducible apply ems_nil)))
  | (with_reducible apply k_tj)
  | (with_reducible apply k_i3)
  | ((with_reducible show Ek _ _ _ _ _); (first | (((with_reducible apply ek_last); next => rfl)) | (with_reducible apply ek_cons))))
local macro_rules | `(tactic| walk_at "ds") => `(tactic| repeat walk_at "ds1")
local macro_rules | `(tactic| walk_at "d0") => `(tactic| (try simp only [cx_K, cx_K', List.map_cons, List.map_nil]))
local macro_rules | `(tactic| walk_at "da") => `(tactic| repeat first | walk_at "ds1" | (with_reducible apply sv_cut) | (with_reducible apply sx_cut))
local macro_rules | `(tactic| walk_at "lx") => `(tactic| (refine toL ?_; (try simp only [List.length_append, List.length_cons, List.length_nil]); omega))
local macro_rules | `(tactic| walk_at "dx") => `(tactic| repeat first | walk_at "ds1" | (with_reducible apply sv_cut) | (with_reducible apply sx_cut) | (with_reducible refine k_x2 (by walk_at "lx") ?_) | (with_reducible refine k_stI (by assumption) ?_) | (with_reducible refine k_stN ?_) | (with_reducible refine k_lx (by walk_at "lx") ?_) | (with_reducible refine k_ift (decT (by omega)) ?_) | (with_reducible refine k_iff (decF (by omega)) ?_))
section
variable {P : Program} {w : World} {K : PySem.W.Frag} {mg : Str → Option Value} {base : Heap}
def pre_num : List Vl → (Vl → Prop) → Prop := fun xs R => ∃ (lo : Int) (hi : Option Int), xs = [.da (.int lo), .da (hiD hi)] ∧ 0 ≤ lo ∧ lo ≤ 40 ∧ (∀ h, hi = some h → lo ≤ h ∧ h ≤ 40) ∧ R (.da (.str (tx (numW lo hi))))
theorem ok_write_numbers (T : Top K mg) : FnOk P w K mg base CX0 1 T.f_write_numbers T.fd_write_numbers ["least", "most"] (sp_pu K pre_num) := by
  refine T.F_write_numbers.ok sc_write_numbers (fun vs H Q E h => ?_) (fun cdv A outer s H vs Q E hr h => ⟨_, (pss_cons (ps_if (PW.pt (pw_and (pt_cmpR (r := rIsN) op_isN1 (pv 1) pe_non (nomark _)) (pw_and1 (pt_cmpR op_lt (pv 0) pe_int (nomark _))))) (pss_one (ps_ret (pe_ifExp (pt_truth (pv 0) (by intro _; rfl)) pe_str pe_str))) pss_nil)
       (pss_cons (ps_if (pt_cmpR (r := rIsN) op_isN1 (pv 1) pe_non (nomark _)) (pss_one (ps_ret (pe_joined (PJ.cons pe_str (PJ.cons (pe_fmt (pv 0)) (PJ.cons pe_str PJ.nil)))))) pss_nil)
       (pss_cons (ps_if (pt_cmpR op_eq (pv 0) (pv 1) (nomark _)) (pss_one (ps_ret (pe_joined (PJ.cons pe_str (PJ.cons (pe_fmt (pv 0)) (PJ.cons pe_str PJ.nil)))))) pss_nil)
       (pss_one (ps_ret (pe_ifExp (pt_cmpR op_eq (pv 1) pe_int (nomark _)) pe_str (pe_joined (PJ.cons pe_str (PJ.cons (pe_fmt (pv 0)) (PJ.cons pe_str (PJ.cons (pe_fmt (pv 1)) (PJ.cons pe_str PJ.nil)))))))))))), fin_pu (N := n_write_numbers) (fun xs R hp e he => ?_) h⟩)
  · obtain ⟨xs, R, hx, ⟨lo, hi, rfl, _⟩, _⟩ := h
    exact hx.len
  · obtain ⟨lo, hi, rfl, h0, h1, h2, q⟩ := hp
    rcases he with _ | he
    rcases he with _ | he
    cases he
    walk_at "d0"
    have g0 := log_dec h0 h1
    have d0 := dec_len h0 h1
    cases hi with
    | none =>
      rw [hiD]
      rw [numW] at q
      walk_at "ds"
      refine k_if (fun g1 => ?_) (fun g1 => ?_)
      · rw [if_pos (by simpa using g1)] at q
        walk_at "ds"
        refine k_if (fun g2 => ?_) (fun g2 => ?_)
        · rw [if_neg (by simpa using g2)] at q
          walk_at "ds"
          exact q
        · rw [if_pos (by simpa using g2)] at q
          walk_at "ds"
          exact q
      · rw [if_neg (by simpa using g1)] at q
        walk_at "ds"
        refine ⟨by walk_at "lx", ?_⟩
        walk_at "ds"
        refine ⟨g0, ?_⟩
        walk_at "ds"
        refine ⟨by walk_at "lx", ?_⟩
        walk_at "ds"
        refine ⟨by walk_at "lx", ?_⟩
        walk_at "ds"
        exact q
    | some h =>
      rw [hiD]
      rw [numW] at q
      obtain ⟨h3, h4⟩ := h2 h rfl
      have g3 := log_dec (Int.le_trans h0 h3) h4
      have d3 := dec_len (Int.le_trans h0 h3) h4
      walk_at "ds"
      refine k_if (fun g1 => ?_) (fun g1 => ?_)
      · rw [if_pos (by simpa using g1)] at q
        walk_at "ds"
        refine ⟨by walk_at "lx", ?_⟩
        walk_at "ds"
        refine ⟨g0, ?_⟩
        walk_at "ds"
        refine ⟨by walk_at "lx", ?_⟩
        walk_at "ds"
        refine ⟨by walk_at "lx", ?_⟩
        walk_at "ds"
        exact q
      · rw [if_neg (by simpa using g1)] at q
        walk_at "ds"
        refine k_if (fun g2 => ?_) (fun g2 => ?_)
        · rw [if_pos (by simpa using g2)] at q
          walk_at "ds"
          exact q
        · rw [if_neg (by simpa using g2)] at q
          walk_at "ds"
          refine ⟨by walk_at "lx", ?_⟩
          walk_at "ds"
          refine ⟨g0, ?_⟩
          walk_at "ds"
          refine ⟨by walk_at "lx", ?_⟩
          walk_at "ds"
          refine ⟨by walk_at "lx", ?_⟩
          walk_at "ds"
          refine ⟨g3, ?_⟩
          walk_at "ds"
          refine ⟨by walk_at "lx", ?_⟩
          walk_at "ds"
          refine ⟨by walk_at "lx", ?_⟩
          walk_at "ds"
          exact q
end
end My
namespace My
open PySem L2
local macro_rules | `(tactic| walk_at "rd") => `(tactic| simp only [tSeq, tNext, tAsg, tOp, tUn, tC, tVar, gName, gSub, tCons, tNil, tCB, tIfS, tIf, tTest, tB, tAnd, tOr, tNot, tAndV, tOrV, tNotV, tRet, tRetN, tDrop, tLst, tTup, tCall, tSl, tNoPart, tPart, tM0, tM1, tBM, tBM0, tYes, tFor_eq, tLc_eq, iList, iRng1, iRng2, iStr, sg_tx, c_empty, rstrip_sign, find_sign, cut_last, cut_to, cut_from, cut_mid, cut_to_lit, cut_from_lit, and_assoc, flat_rep, List.length_replicate, tx_len, tx_eq, tx_app, tx_cps, rI0, rI, rU, rEq, rNe, rIxL, rIxS, rIxT, rSetL, rAppend, rPopAt, rSlS, rSlL, rIn, rMulS, rLtD, rJoin, rLenQ, rListOf,  tRevS, 
  scal, L2.start, List.map_cons, List.map_nil, List.length_cons, List.length_nil, List.replicate, List.cons_append, List.nil_append, List.append_nil,
  List.getElem?_cons_zero, List.getElem?_cons_succ, List.set_cons_zero, List.set_cons_succ, Nat.sub_zero, Nat.reduceSub, Nat.reduceAdd, Nat.zero_add, id_eq, Int.reduceToNat, exists_or,
  V.int.injEq, V.str.injEq, V.bl.injEq, V.ref.injEq, Option.some.injEq, List.cons.injEq, exists_and_left, exists_eq_left', exists_eq_left, exists_eq, exists_eq', and_true, true_and, reduceCtorEq, false_and, and_false, exists_false, false_or, or_false, decide_eq_true_eq, Bool.not_eq_true', decide_eq_false_iff_not, Bool.not_not, Bool.false_eq_true, ↓reduceIte, if_true, if_false])

local macro_rules | `(tactic| walk_at "ne") => `(tactic| first | assumption | (refine Ne.symm ?_; assumption) | exact (ne_of_none (by assumption) (by assumption)) | exact (ne_of_none (by assumption) (by assumption)).symm)
local macro_rules | `(tactic| walk_at "hp") => `(tactic| first | assumption | exact upd_same | exact (upd_ne (by walk_at "ne")).trans (by walk_at "hp"))
local macro_rules | `(tactic| walk_at "st1") => `(tactic| first
  | refine ⟨_, Or.inl (Or.inl (by walk_at "hp")), ?_⟩
  | refine ⟨_, Or.inl (Or.inl (Or.inl (by walk_at "hp"))), ?_⟩
  | refine ⟨_, (show _ = some (HO.lst _) by walk_at "hp"), ?_⟩
  | refine ⟨_, rfl, ?_⟩
  | refine ⟨(rfl : ("str" : String) = "str"), ?_⟩
  | refine ⟨Or.inr ⟨by decide, by decide⟩, ?_⟩
  | refine ⟨⟨by decide, by decide⟩, ?_⟩
  | refine ⟨by decide, ?_⟩
  | refine ⟨by assumption, ?_⟩)
local macro_rules | `(tactic| walk_at "st") => `(tactic| repeat walk_at "st1")
local macro_rules | `(tactic| walk_at "go") => `(tactic| repeat first | walk_at "st1" | walk_at "rd")
local macro_rules | `(tactic| walk_at "wk") => `(tactic| repeat first | exact Wk.nil | apply Wk.yes | apply Wk.no)
local macro_rules | `(tactic| walk_at "ds1") => `(tactic| first
  | ((with_reducible show Sv _ _ _ _); (first | (((with_reducible apply sv_putE); next => rfl)) | (with_reducible apply sv_seq) | (with_reducible apply sv_if) | (((with_reducible apply sv_retO); next => rfl)) | (with_reducible refine sv_retN (el_lst ?_)) | (with_reducible refine sv_retN (el_call ?_)) | (with_reducible refine sv_retN (el_lc ?_)) | (with_reducible refine sv_retN (el_list ?_)) | (with_reducible refine sv_retN (el_cat ?_)) | (with_reducible apply sv_ret) | (with_reducible refine sv_setN (el_lst ?_)) | (with_reducible refine sv_setN (el_call ?_)) | (with_reducible refine sv_setN (el_lc ?_)) | (with_reducible refine sv_setN (el_list ?_)) | (with_reducible refine sv_setN (el_cat ?_)) | (with_reducible refine sv_setN (el_callD rfl ?_)) | (((with_reducible apply sv_putD); next => rfl)) | (with_reducible apply sv_set) | (((with_reducible apply sv_app); next => rfl)) | (((with_reducible apply sv_ext); next => rfl)) | (((with_reducible apply sv_put); next => rfl)) | (with_reducible apply sv_for) | (with_reducible apply sv_nil) | (with_reducible apply sv_retNone) | (with_reducible apply sv_drop)))
  | ((with_reducible show Ev _ _ _ _); (first | (with_reducible apply ev_min3) | (with_reducible apply ev_q0) | (with_reducible apply ev_q1) | (with_reducible apply ev_q2) | (with_reducible apply ev_q3) | (with_reducible apply ev_q4) | (with_reducible apply ev_q5) | (with_reducible apply ev_q6) | (with_reducible apply ev_q7) | (with_reducible apply ev_q8) | (with_reducible apply ev_q9) | (with_reducible apply ev_q10) | (with_reducible apply ev_q11) | (with_reducible apply ev_q12) | (with_reducible apply ev_q13) | (with_reducible apply ev_q14) | (with_reducible apply ev_q15) | (with_reducible apply ev_q16) | (with_reducible apply ev_q17) | (with_reducible apply ev_q18) | (with_reducible apply ev_q19) | (with_reducible apply ev_q20) | (with_reducible apply ev_q21) | (with_reducible apply ev_q22) | (with_reducible apply ev_q23) | (with_reducible apply ev_q24) | (with_reducible apply ev_q25) | (with_reducible apply ev_q26) | (with_reducible apply ev_q27) | (with_reducible apply ev_q28) | (with_reducible apply ev_q29) | (with_reducible apply ev_q30) | (with_reducible apply ev_q31) | (with_reducible apply ev_q32) | (with_reducible apply ev_q33) | (with_reducible apply ev_q34) | (with_reducible apply ev_q35) | (with_reducible apply ev_q36) | (with_reducible apply ev_q37) | (with_reducible apply ev_q38) | (with_reducible apply ev_q39) | (with_reducible apply ev_q40) | (with_reducible apply ev_q41) | (with_reducible apply ev_q42) | (with_reducible apply ev_q43) | (with_reducible apply ev_q44) | (with_reducible apply ev_q45) | (with_reducible apply ev_catX) | (with_reducible apply ev_inS) | (with_reducible apply ev_ninS) | (with_reducible apply ev_joinE) | (with_reducible apply ev_joinB) | (with_reducible apply ev_wset) | (with_reducible apply ev_strIN) | (with_reducible apply ev_fmt) | (with_reducible apply ev_joined) | (with_reducible apply ev_slX) | (with_reducible apply ev_lenX) | (with_reducible apply ev_sgs) | (((with_reducible apply ev_ixD); next => rfl)) | (((with_reducible apply ev_ktup); next => assumption)) | (((with_reducible apply ev_var); next => rfl)) | (((with_reducible apply ev_varO); next => rfl)) | (((with_reducible apply ev_varL); next => rfl)) | (((with_reducible apply ev_callD); next => rfl)) | (((with_reducible apply ev_dr); next => rfl)) | (with_reducible apply ev_max2) | (with_reducible apply ev_min2) | (with_reducible apply ev_index) | (with_reducible apply ev_eqD) | (with_reducible apply ev_neD) | (with_reducible apply ev_str) | (with_reducible apply ev_int) | (with_reducible apply ev_bl) | (with_reducible apply ev_non) | (with_reducible apply ev_ixT) | (with_reducible apply ev_call) | (with_reducible apply ev_eq) | (with_reducible apply ev_tup) | (with_reducible apply ev_in) | (with_reducible apply ev_ixL) | (with_reducible apply ev_ne) | (with_reducible apply ev_i0) | (with_reducible apply ev_ib) | (with_reducible apply ev_isi) | (with_reducible apply ev_isN) | (with_reducible apply ev_notN) | (with_reducible apply ev_isB) | (with_reducible apply ev_notB) | (with_reducible apply ev_slT2) | (with_reducible apply ev_catU) | (with_reducible apply ev_iC) | (with_reducible apply ev_ixS) | (with_reducible apply ev_u) | (with_reducible apply ev_notV) | (with_reducible apply ev_if) | (with_reducible apply ev_len) | (with_reducible apply ev_tuple) | (with_reducible apply ev_all) | (with_reducible refine Ev.ofNew (el_lst ?_)) | (with_reducible refine Ev.ofNew (el_call ?_)) | (with_reducible refine Ev.ofNew (el_lc ?_)) | (with_reducible refine Ev.ofNew (el_list ?_)) | (with_reducible refine Ev.ofNew (el_cat ?_))))
  | ((with_reducible show Es _ _ _ _); (first | (with_reducible apply es_cons) | (with_reducible apply es_nil)))
  | ((with_reducible show Tv _ _ _ _); (first | (with_reducible apply tv_test) | (with_reducible apply tv_not) | (with_reducible apply tv_and) | (with_reducible apply tv_or) | (with_reducible apply tv_b) | (with_reducible apply tv_yes) | (with_reducible apply tv_tr)))
  | ((with_reducible show Eln _ _ _ _); (first | (with_reducible apply el_lst) | (with_reducible apply el_call) | (with_reducible apply el_lc) | (with_reducible apply el_list) | (with_reducible apply el_cat)))
  | ((with_reducible show Eo _ _ _ _); (first | (with_reducible apply eo_no) | (with_reducible apply eo_some)))
  | ((with_reducible show Iv _ _ _ _); (first | (with_reducible apply iv_tup) | (with_reducible apply iv_range1) | (with_reducible apply iv_str) | (with_reducible apply iv_enumT) | (((with_reducible apply iv_listV); next => rfl)) | (((with_reducible apply iv_listO); next => rfl)) | (with_reducible refine iv_listN (el_lst ?_)) | (with_reducible refine iv_listN (el_call ?_)) | (with_reducible refine iv_listN (el_lc ?_)) | (with_reducible refine iv_listN (el_list ?_)) | (with_reducible refine iv_listN (el_cat ?_))))
  | ((with_reducible show Gv _ _ _ _ _ _); (first | (with_reducible apply gv_name) | (with_reducible apply gv_tup2) | (with_reducible apply gv_tup3)))
  | ((with_reducible show seqO _ _ _ _); (first | (with_reducible apply o_nx) | (with_reducible apply o_rt) | (with_reducible apply o_rn) | (with_reducible apply o_bk) | (with_reducible apply o_ct)))
  | ((with_reducible show jnI _ _ _); (first | (with_reducible apply ji_nx) | (with_reducible apply ji_rt) | (with_reducible apply ji_rn) | (with_reducible apply ji_bk) | (with_reducible apply ji_ct)))
  | ((with_reducible show jnO _ _ _); (first | (with_reducible apply j_nx) | (with_reducible apply j_rt) | (with_reducible apply j_rn) | (with_reducible apply j_bk) | (with_reducible apply j_ct)))
  | ((with_reducible show lpO _ _ _ _); (first | (with_reducible apply l_rt) | (with_reducible apply l_rn) | (with_reducible apply l_ct) | (with_reducible apply l_nx')))
  | ((with_reducible show retO _ _); (first | (with_reducible apply r_rt) | (with_reducible apply r_nx)))
  | (with_reducible apply r_rn)
  | ((with_reducible show KIf _ _ _); (first | (((with_reducible apply k_ift); next => first | decide +kernel | rfl)) | (((with_reducible apply k_iff); next => first | decide +kernel | rfl))))
  | ((with_reducible show KEq _ _ _); (first | (with_reducible apply k_eqIN) | (with_reducible apply k_eqNI) | (with_reducible apply k_eqS) | (with_reducible apply k_eqI) | (with_reducible apply k_eqB) | (((with_reducible apply k_eqO); next => rfl; next => rfl; next => rfl; next => rfl))))
  | ((with_reducible show KDas _ _); (first | (with_reducible apply k_das_0) | (with_reducible apply k_das_1) | (with_reducible apply k_das_2) | (with_reducible apply k_das_3) | (with_reducible apply k_das_4) | (with_reducible apply k_das_5) | (with_reducible apply k_das_6) | (with_reducible apply k_das_7) | (with_reducible apply k_das_8) | (with_reducible apply k_das_9) | (with_reducible apply k_das_10) | (with_reducible apply k_das_11) | (with_reducible apply k_das_12) | (with_reducible apply k_das_13) | (with_reducible apply k_das_14) | (with_reducible apply k_das_15) | (with_reducible apply k_das_16)))
  | ((with_reducible show KIn _ _ _); (first | (with_reducible apply k_inT_0) | (with_reducible apply k_inL_0) | (with_reducible apply k_inT_1) | (with_reducible apply k_inL_1) | (with_reducible apply k_inT_2) | (with_reducible apply k_inL_2) | (with_reducible apply k_inT_3) | (with_reducible apply k_inL_3) | (with_reducible apply k_inT_4) | (with_reducible apply k_inL_4) | (with_reducible apply k_inT_5) | (with_reducible apply k_inL_5) | (with_reducible apply k_inT_6) | (with_reducible apply k_inL_6) | (with_reducible apply k_inT_7) | (with_reducible apply k_inL_7) | (with_reducible apply k_inT_8) | (with_reducible apply k_inL_8) | (with_reducible apply k_inT_9) | (with_reducible apply k_inL_9) | (with_reducible apply k_inT_10) | (with_reducible apply k_inL_10) | (with_reducible apply k_inT_11) | (with_reducible apply k_inL_11) | (with_reducible apply k_inT_12) | (with_reducible apply k_inL_12) | (with_reducible apply k_inN) | (((with_reducible apply k_inT); next => rfl; next => rfl)) | (((with_reducible apply k_inL); next => rfl; next => rfl))))
  | ((with_reducible show KEqD _ _ _); (first | (with_reducible apply k_eqIntsC) | (with_reducible apply k_eqInts0) | (with_reducible apply k_eqInts)))
  | (with_reducible apply k_put0)
  | ((with_reducible show KTy _ _ _); (first | (with_reducible apply k_ty_tup_tuple) | (with_reducible apply k_ty_tup_bool) | (with_reducible apply k_ty_tup_int) | (with_reducible apply k_ty_tup_str) | (with_reducible apply k_ty_tup_list) | (with_reducible apply k_ty_ls_tuple) | (with_reducible apply k_ty_ls_bool) | (with_reducible apply k_ty_ls_int) | (with_reducible apply k_ty_ls_str) | (with_reducible apply k_ty_ls_list) | (with_reducible apply k_ty_int_tuple) | (with_reducible apply k_ty_int_bool) | (with_reducible apply k_ty_int_int) | (with_reducible apply k_ty_int_str) | (with_reducible apply k_ty_int_list) | (with_reducible apply k_ty_str_tuple) | (with_reducible apply k_ty_str_bool) | (with_reducible apply k_ty_str_int) | (with_reducible apply k_ty_str_str) | (with_reducible apply k_ty_str_list) | (with_reducible apply k_ty_bl_tuple) | (with_reducible apply k_ty_bl_bool) | (with_reducible apply k_ty_bl_int) | (with_reducible apply k_ty_bl_str) | (with_reducible apply k_ty_bl_list) | (with_reducible apply k_ty_non_tuple) | (with_reducible apply k_ty_non_bool) | (with_reducible apply k_ty_non_int) | (with_reducible apply k_ty_non_str) | (with_reducible apply k_ty_non_list)))
  | ((with_reducible show KSl _ _ _ _); (first | (with_reducible apply k_sl_1) | (with_reducible apply k_sl_2) | (with_reducible apply k_sl_m2) | (with_reducible apply k_sl_m3) | (with_reducible apply k_sl_m4) | (with_reducible apply k_sl_m5)))
  | ((with_reducible show KCat _ _ _); (first | (with_reducible apply k_cat1) | (with_reducible apply k_cat2) | (with_reducible apply k_cat3) | (with_reducible apply k_cat23)))
  | ((with_reducible show KLen _ _); (first | (with_reducible apply k_lenT) | (with_reducible apply k_lenL)))
  | ((with_reducible show KSq _ _); (first | (with_reducible apply k_sqT) | (with_reducible apply k_sqL)))
  | (with_reducible apply k_i2s)
  | (with_reducible apply k_d)
  | ((with_reducible show KT _ _); (first | (with_reducible apply k_t) | (with_reducible apply k_tT)))
  | (with_reducible apply k_l)
  | (with_reducible apply k_i1)
  | (with_reducible apply k_i2)
  | (with_reducible apply k_b)
  | (with_reducible apply k_n)
  | (with_reducible apply k_tx)
  | (with_reducible apply k_t1)
  | (with_reducible apply k_ts)
  | with_reducible apply k_ix_0
  | with_reducible apply k_ix_1
  | ((with_reducible apply k_ixT2); next => rfl)
  | with_reducible apply gx_name
  | with_reducible apply gx_tup2
  | with_reducible apply gx_tup3
  | with_reducible refine (fun (p : Addr) => (?_ : seqO _ _ _ _))
  | with_reducible refine (fun (p : Addr) => (?_ : lpO _ _ _ _))
  | with_reducible refine (fun (p : Addr) => (?_ : liO _ _))
  | ((with_reducible show KTr _ _); (first | (with_reducible apply k_trI) | (with_reducible apply k_trB)))
  | (with_reducible apply k_sg)
  | ((with_reducible show Sx _ _ _ _ _ _ _ _); (first | (with_reducible apply sx_seq) | (with_reducible apply sx_if) | (with_reducible refine sx_retN (el_lst ?_)) | (with_reducible refine sx_retN (el_call ?_)) | (with_reducible refine sx_retN (el_lc ?_)) | (with_reducible refine sx_retN (el_list ?_)) | (with_reducible refine sx_retN (el_cat ?_)) | (with_reducible apply sx_for)))
  | ((with_reducible show Ej _ _ _ _ _); (first | (with_reducible apply ej_nil) | (with_reducible apply ej_cons)))
  | ((with_reducible show liO _ _); (first | (with_reducible apply li_nx) | (with_reducible apply li_bk) | (with_reducible apply li_ct)))
  | ((with_reducible show sqX _ _ _ _ _ _ _ _); (first | (with_reducible apply q_nx) | (with_reducible apply q_rt) | (with_reducible apply q_rn) | (with_reducible apply q_bk) | (with_reducible apply q_ct)))
  | (with_reducible apply lx_nx)
  | ((with_reducible show Ems _ _ _ _); (first | (with_reducible apply ems_cons) | (with_reducible apply ems_nil)))
  | (with_reducible apply k_tj)
  | (with_reducible apply k_i3)
  | ((with_reducible show Ek _ _ _ _ _); (first | (((with_reducible apply ek_last); next => rfl)) | (with_reducible apply ek_cons))))
local macro_rules | `(tactic| walk_at "ds") => `(tactic| repeat walk_at "ds1")
local macro_rules | `(tactic| walk_at "d0") => `(tactic| (try simp only [cx_K, cx_K', List.map_cons, List.map_nil]))
local macro_rules | `(tactic| walk_at "da") => `(tactic| repeat first | walk_at "ds1" | (with_reducible apply sv_cut) | (with_reducible apply sx_cut))
local macro_rules | `(tactic| walk_at "lx") => `(tactic| (refine toL ?_; (try simp only [List.length_append, List.length_cons, List.length_nil]); omega))
local macro_rules | `(tactic| walk_at "dx") => `(tactic| repeat first | walk_at "ds1" | (with_reducible apply sv_cut) | (with_reducible apply sx_cut) | (with_reducible refine k_x2 (by walk_at "lx") ?_) | (with_reducible refine k_stI (by assumption) ?_) | (with_reducible refine k_stN ?_) | (with_reducible refine k_lx (by walk_at "lx") ?_) | (with_reducible refine k_ift (decT (by omega)) ?_) | (with_reducible refine k_iff (decF (by omega)) ?_))
section
variable {P : Program} {w : World} {K : PySem.W.Frag} {mg : Str → Option Value} {base : Heap}
/-- what makes a node stand in parentheses -/
inductive KdOk : Nat → List Str → Prop where
  | b : KdOk 1 ["alt"]
  | i : KdOk 2 ["alt", "empty", "seq"]
  | r : KdOk 3 ["alt", "empty", "seq", "repeat"]
theorem kdx {s : Str} {k : Nat} (e : (decide (s ∈ (["alt"] : List Str)) = decide (k < 1) ∧ decide (s ∈ (["alt", "empty", "seq"] : List Str)) = decide (k < 2)) ∧ decide (s ∈ (["alt", "empty", "seq", "repeat"] : List Str)) = decide (k < 3)) {p : Nat} {ks : List Str} (h : KdOk p ks) : inV (.str s) (ks.map V.str) = decide (k < p) := by
  rw [inV_strs]
  cases h
  · exact e.1.1
  · exact e.1.2
  · exact e.2
theorem kd_in {p : Nat} {ks : List Str} (h : KdOk p ks) (t : Tr) : inV (.str (hdT t)) (ks.map V.str) = decide (barT t < p) := by
  cases t with
  | empty => exact kdx (s := "empty") (k := 1) (by decide +kernel) h
  | set cs => exact kdx (s := "set") (k := 3) (by decide +kernel) h
  | edge k => exact kdx (s := "edge") (k := 3) (by decide +kernel) h
  | same n => exact kdx (s := "same") (k := 3) (by decide +kernel) h
  | seq ts => exact kdx (s := "seq") (k := 1) (by decide +kernel) h
  | alt ts => exact kdx (s := "alt") (k := 0) (by decide +kernel) h
  | rep t lo hi lz => exact kdx (s := "repeat") (k := 2) (by decide +kernel) h
  | grp n t => exact kdx (s := "group") (k := 3) (by decide +kernel) h
  | look sd b t => exact kdx (s := "look") (k := 3) (by decide +kernel) h
def brT : Tr → Bool
  | .edge _ => true
  | .same _ => true
  | .grp _ _ => true
  | .look _ _ _ => true
  | _ => false
def pre_wp (n : Nat) : List Vl → (Vl → Prop) → Prop := fun xs R => ∃ t, xs = [.da (toDa t)] ∧ Wt n t ∧ sz t ≤ 1000 ∧ R (.da (.str (tx (wTr t))))
def pre_ww (n : Nat) : List Vl → (Vl → Prop) → Prop := fun xs R => ∃ t p ks, xs = [.da (toDa t), .da (.tup (ks.map Da.str))] ∧ KdOk p ks ∧ Wt n t ∧ sz t ≤ 1000 ∧ R (.da (.str (tx (parW p t (wTr t)))))
def pre_wb (n : Nat) : List Vl → (Vl → Prop) → Prop := fun xs R => ∃ t, xs = [.da (toDa t)] ∧ Wt (n + 1) t ∧ brT t = true ∧ sz t ≤ 1000 ∧ R (.da (.str (tx (brW t))))
theorem ok_write_within (T : Top K mg) {c n : Nat} (ih_write_pattern : FnOk P w K mg base CX0 c T.f_write_pattern T.fd_write_pattern ["tree"] (sp_pu K (pre_wp n))) : FnOk P w K mg base CX0 (c + 1) T.f_write_within T.fd_write_within ["tree", "kinds"] (sp_pu K (pre_ww n)) := by
  refine T.F_write_within.ok sc_write_within (fun vs H Q E h => ?_) (fun cdv A outer s H vs Q E hr h => ⟨_, (pss_cons (ps_set (i := 2) sc_write_within.nd rfl (Or.inl rfl) (pe_call ih_write_pattern (hr.mono (by omega)) (by rfl) T.g_write_pattern T.F_write_pattern.kp T.B_write_pattern .nil pass0 (pa_cons (pv 0) pa_nil)))
       (pss_one (ps_ret (pe_ifExp (pt_cmpR (r := rIn K false) op_in_seq (pe_ix (r := rIxT K) ix_tup (pv 0) pe_int (fun _ _ => rfl)) (pv 1) (by rfl)) (pe_op op_add_str (pe_op op_add_str pe_str (pv 2)) pe_str) (pv 2))))), fin_pu (N := n_write_within) (fun xs R hp e he => ?_) h⟩)
  · obtain ⟨xs, R, hx, ⟨t, p, ks, rfl, _⟩, _⟩ := h
    exact hx.len
  · obtain ⟨t, p, ks, rfl, hk, ht, hz, q⟩ := hp
    rcases he with _ | he
    rcases he with _ | he
    cases he
    have hl := wTr_len ht
    walk_at "d0"
    walk_at "ds"
    refine ⟨t, rfl, ht, hz, trivial, ?_⟩
    walk_at "ds"
    refine k_inT (a := .str (hdT t)) (as := ks.map V.str) rfl (atms_strs ks) ?_
    rw [kd_in hk]
    walk_at "ds"
    unfold parW at q
    refine k_if (fun g => ?_) (fun g => ?_)
    · rw [if_pos (by simpa using g)] at q
      walk_at "ds"
      refine k_x2 (by walk_at "lx") ?_
      walk_at "ds"
      refine k_x2 (by walk_at "lx") ?_
      walk_at "ds"
      exact q
    · rw [if_neg (by simpa using g)] at q
      walk_at "ds"
      exact q
theorem ok_write_brace (T : Top K mg) {c n : Nat} (ih_write_pattern : FnOk P w K mg base CX0 c T.f_write_pattern T.fd_write_pattern ["tree"] (sp_pu K (pre_wp n))) : FnOk P w K mg base CX0 (c + 1) T.f_write_brace T.fd_write_brace ["tree"] (sp_pu K (pre_wb n)) := by
  refine T.F_write_brace.ok sc_write_brace (fun vs H Q E h => ?_) (fun cdv A outer s H vs Q E hr h => ⟨_, (pss_cons (ps_if (pt_cmpR op_eq (pe_ix (r := rIxT K) ix_tup (pv 0) pe_int (fun _ _ => rfl)) pe_str (nomark _)) (pss_one (ps_ret (pe_ix (r := rIxT K) ix_tup (pv 0) pe_int (fun _ _ => rfl)))) pss_nil)
       (pss_cons (ps_if (pt_cmpR op_eq (pe_ix (r := rIxT K) ix_tup (pv 0) pe_int (fun _ _ => rfl)) pe_str (nomark _)) (pss_one (ps_ret (pe_op op_add_str (pe_op op_add_str (pe_op op_add_str (pe_ifExp (pt_truth (pe_ix (r := rIxT K) ix_tup (pv 0) pe_int (fun _ _ => rfl)) (by intro _; rfl)) pe_str pe_str) (pe_ix (r := rIxT K) ix_tup (pv 0) pe_int (fun _ _ => rfl))) pe_str) (pe_call ih_write_pattern (hr.mono (by omega)) (by rfl) T.g_write_pattern T.F_write_pattern.kp T.B_write_pattern .nil pass0 (pa_cons (pe_ix (r := rIxT K) ix_tup (pv 0) pe_int (fun _ _ => rfl)) pa_nil))))) pss_nil)
       (pss_cons (ps_if (pt_cmpR op_eq (pe_ix (r := rIxT K) ix_tup (pv 0) pe_int (fun _ _ => rfl)) pe_str (nomark _)) (pss_one (ps_ret (pe_op op_add_str (pe_op op_add_str (pe_op op_add_str pe_str (pe_ix (r := rIxT K) ix_tup (pv 0) pe_int (fun _ _ => rfl))) pe_str) (pe_call ih_write_pattern (hr.mono (by omega)) (by rfl) T.g_write_pattern T.F_write_pattern.kp T.B_write_pattern .nil pass0 (pa_cons (pe_ix (r := rIxT K) ix_tup (pv 0) pe_int (fun _ _ => rfl)) pa_nil))))) pss_nil)
       (pss_one (ps_ret (pe_op op_add_str pe_str (pe_ix (r := rIxT K) ix_tup (pv 0) pe_int (fun _ _ => rfl)))))))), fin_pu (N := n_write_brace) (fun xs R hp e he => ?_) h⟩)
  · obtain ⟨xs, R, hx, ⟨t, rfl, _⟩, _⟩ := h
    exact hx.len
  · obtain ⟨t, rfl, ht, hb, hz, q⟩ := hp
    rcases he with _ | he
    cases he
    walk_at "d0"
    cases ht with
    | empty => cases hb
    | set h => cases hb
    | seq h => cases hb
    | alt h => cases hb
    | rep h0 h1 h2 h => cases hb
    | edge h =>
      rw [toDa]
      walk_at "ds"
      exact q
    | same h =>
      rw [toDa]
      walk_at "ds"
      refine k_x2 (by walk_at "lx") ?_
      walk_at "ds"
      exact q
    | grp h1 h =>
      have hl := wTr_len h
      rw [sz] at hz
      rw [toDa]
      walk_at "ds"
      refine k_x2 (by walk_at "lx") ?_
      walk_at "ds"
      refine k_x2 (by walk_at "lx") ?_
      walk_at "ds"
      refine ⟨_, rfl, h, by omega, trivial, ?_⟩
      walk_at "ds"
      refine k_x2 (by walk_at "lx") ?_
      walk_at "ds"
      exact q
    | @look _ sd b t h1 h =>
      have hl := wTr_len h
      rw [sz] at hz
      rw [toDa]
      cases b
      · walk_at "ds"
        refine k_x2 (by walk_at "lx") ?_
        walk_at "ds"
        refine k_x2 (by walk_at "lx") ?_
        walk_at "ds"
        refine ⟨_, rfl, h, by omega, trivial, ?_⟩
        walk_at "ds"
        refine k_x2 (by walk_at "lx") ?_
        walk_at "ds"
        exact q
      · walk_at "ds"
        refine k_x2 (by walk_at "lx") ?_
        walk_at "ds"
        refine k_x2 (by walk_at "lx") ?_
        walk_at "ds"
        refine ⟨_, rfl, h, by omega, trivial, ?_⟩
        walk_at "ds"
        refine k_x2 (by walk_at "lx") ?_
        walk_at "ds"
        exact q
set_option maxHeartbeats 4000000 in
theorem ok_write_pattern (T : Top K mg) : ∀ n : Nat, FnOk P T.tw K mg base CX0 (7 + 2 * n) T.f_write_pattern T.fd_write_pattern ["tree"] (sp_pu K (pre_wp n))
  | 0 => ⟨fun _ _ _ _ ⟨_, _, _, ⟨_, _, h, _⟩, _⟩ => h.zero.elim, fun _ _ _ _ _ _ _ _ _ _ _ _ _ ⟨_, _, _, ⟨_, _, h, _⟩, _⟩ => h.zero.elim⟩
  | n + 1 => by
    have ih_write_within := ok_write_within T (ok_write_pattern T n)
    have ih_write_brace := ok_write_brace T (ok_write_pattern T n)
    have kt1 := T.kt_BRANCH_KINDS
    have kt2 := T.kt_ITEM_KINDS
    have kt3 := T.kt_BODY_KINDS
    refine T.F_write_pattern.ok sc_write_pattern (fun vs H Q E h => ?_) (fun cdv A outer s H vs Q E hr h => ?_)
    · obtain ⟨xs, R, hx, ⟨t, rfl, _⟩, _⟩ := h
      exact hx.len
    · replace hr := hr.mono (show 2 * n + 8 ≤ Nat.add 7 (Nat.mul 2 n + 1) from Nat.le_of_eq (by show 2 * n + 8 = 7 + (2 * n + 1); omega))
      refine ⟨_, (pss_cons (ps_set (i := 1) sc_write_pattern.nd rfl (Or.inl rfl) (pe_ix (r := rIxT K) ix_tup (pv 0) pe_int (fun _ _ => rfl)))
       (pss_cons (ps_if (pt_cmpR op_eq (pv 1) pe_str (nomark _)) (pss_one (ps_ret pe_str)) pss_nil)
       (pss_cons (ps_if (pt_cmpR op_eq (pv 1) pe_str (nomark _)) (pss_one (ps_ret (pe_call (ok_write_set T) (hr.mono (by omega)) (by rfl) T.g_write_set T.F_write_set.kp T.B_write_set .nil pass0 (pa_cons (pe_ix (r := rIxT K) ix_tup (pv 0) pe_int (fun _ _ => rfl)) pa_nil)))) pss_nil)
       (pss_cons (ps_if (pt_cmpR op_eq (pv 1) pe_str (nomark _)) (pss_one (ps_ret (pe_m1 (r := rJoin K) PySem.F.slot_str_join PySem.F.type_str_join mt_joinQ pe_str (pe_lc (own := [("branch", 2)]) (g := gName 2) (by rfl) sc_write_pattern.nd (pi_tup (pe_ix (r := rIxT K) ix_tup (pv 0) pe_int (fun _ _ => rfl))) (blkOk_by (own := [("branch", 2)]) (N := n_write_pattern) (sc := defScope s_write_pattern) (by decide +kernel)) (fun _ _ _ _ _ => pg_name (i := 2) sc_write_pattern.nd rfl (Or.inl rfl)) (fun _ _ _ _ _ => pts_nil) (fun _ _ _ _ _ => (pe_call ih_write_within (hr.mono (by omega)) (by rfl) T.g_write_within T.F_write_within.kp T.B_write_within .nil pass0 (pa_cons (pv 2) (pa_cons (pe_glob (v := .ref T.d_BRANCH_KINDS) rfl T.g_BRANCH_KINDS rfl) pa_nil)))))))) pss_nil)
       (pss_cons (ps_if (pt_cmpR op_eq (pv 1) pe_str (nomark _)) (pss_one (ps_ret (pe_m1 (r := rJoin K) PySem.F.slot_str_join PySem.F.type_str_join mt_joinQ pe_str (pe_lc (own := [("part", 3)]) (g := gName 3) (by rfl) sc_write_pattern.nd (pi_tup (pe_ix (r := rIxT K) ix_tup (pv 0) pe_int (fun _ _ => rfl))) (blkOk_by (own := [("part", 3)]) (N := n_write_pattern) (sc := defScope s_write_pattern) (by decide +kernel)) (fun _ _ _ _ _ => pg_name (i := 3) sc_write_pattern.nd rfl (Or.inl rfl)) (fun _ _ _ _ _ => pts_nil) (fun _ _ _ _ _ => (pe_call ih_write_within (hr.mono (by omega)) (by rfl) T.g_write_within T.F_write_within.kp T.B_write_within .nil pass0 (pa_cons (pv 3) (pa_cons (pe_glob (v := .ref T.d_ITEM_KINDS) rfl T.g_ITEM_KINDS rfl) pa_nil)))))))) pss_nil)
       (pss_cons (ps_if (pt_cmpR op_eq (pv 1) pe_str (nomark _)) (pss_one (ps_ret (pe_op op_add_str (pe_op op_add_str (pe_call ih_write_within (hr.mono (by omega)) (by rfl) T.g_write_within T.F_write_within.kp T.B_write_within .nil pass0 (pa_cons (pe_ix (r := rIxT K) ix_tup (pv 0) pe_int (fun _ _ => rfl)) (pa_cons (pe_glob (v := .ref T.d_BODY_KINDS) rfl T.g_BODY_KINDS rfl) pa_nil))) (pe_call (ok_write_numbers T) (hr.mono (by omega)) (by rfl) T.g_write_numbers T.F_write_numbers.kp T.B_write_numbers .nil pass0 (pa_cons (pe_ix (r := rIxT K) ix_tup (pv 0) pe_int (fun _ _ => rfl)) (pa_cons (pe_ix (r := rIxT K) ix_tup (pv 0) pe_int (fun _ _ => rfl)) pa_nil)))) (pe_ifExp (pt_truth (pe_ix (r := rIxT K) ix_tup (pv 0) pe_int (fun _ _ => rfl)) (by intro _; rfl)) pe_str pe_str)))) pss_nil)
       (pss_one (ps_ret (pe_op op_add_str (pe_op op_add_str pe_str (pe_call ih_write_brace (hr.mono (by omega)) (by rfl) T.g_write_brace T.F_write_brace.kp T.B_write_brace .nil pass0 (pa_cons (pv 0) pa_nil))) pe_str))))))))), fin_pu (N := n_write_pattern) (fun xs R hp e he => ?_) h⟩
      obtain ⟨t, rfl, ht, hz, q⟩ := hp
      rcases he with _ | he
      cases he
      have hl := wTr_len ht
      have ht0 := ht
      walk_at "d0"
      cases ht with
      | empty =>
        rw [toDa]
        rw [wTr] at q
        walk_at "ds"
        exact q
      | set h =>
        rw [toDa]
        rw [wTr] at q
        walk_at "ds"
        exact ⟨_, rfl, h, q⟩
      | edge h =>
        walk_at "ds"
        refine ⟨_, rfl, ht0, rfl, hz, trivial, ?_⟩
        rw [brW]
        rw [wTr] at q hl
        simp only [List.length_append, List.length_cons, List.length_nil] at hl
        walk_at "ds"
        refine k_x2 (by walk_at "lx") ?_
        walk_at "ds"
        refine k_x2 (by walk_at "lx") ?_
        walk_at "ds"
        exact q
      | same h =>
        walk_at "ds"
        refine ⟨_, rfl, ht0, rfl, hz, trivial, ?_⟩
        rw [brW]
        rw [wTr] at q hl
        simp only [List.length_append, List.length_cons, List.length_nil] at hl
        walk_at "ds"
        refine k_x2 (by walk_at "lx") ?_
        walk_at "ds"
        refine k_x2 (by walk_at "lx") ?_
        walk_at "ds"
        exact q
      | @seq _ ts h =>
        have hk := wKs_len (p := 2) fun t ht => wTr_len (h t ht)
        have hn := len_szs ts
        rw [sz] at hz
        rw [toDa, toDas_map]
        rw [wTr] at q
        walk_at "ds"
        refine k_lc ts toDa (fun _ => true) (fun t => .str (tx (parW 2 t (wTr t)))) trivial (toL (by omega)) (fun x hx => ?_) ?_
        · have := szs_mem hx
          walk_at "ds"
          refine ⟨rfl, fun _ => ?_⟩
          walk_at "ds"
          exact ⟨x, 2, _, rfl, .i, h x hx, by omega, trivial, rfl⟩
        · walk_at "ds"
          rw [wKs_da]
          refine k_tl (by omega) ?_
          walk_at "ds"
          exact q
      | @alt _ ts h =>
        have hk := wKs_len (p := 1) fun t ht => wTr_len (h t ht)
        have hn := len_szs ts
        have hm : (wKs 1 ts).length = ts.length := by rw [wKs_map, List.length_map]
        rw [sz] at hz
        rw [toDa, toDas_map]
        rw [wTr] at q
        walk_at "ds"
        refine k_lc ts toDa (fun _ => true) (fun t => .str (tx (parW 1 t (wTr t)))) trivial (toL (by omega)) (fun x hx => ?_) ?_
        · have := szs_mem hx
          walk_at "ds"
          refine ⟨rfl, fun _ => ?_⟩
          walk_at "ds"
          exact ⟨x, 1, _, rfl, .b, h x hx, by omega, trivial, rfl⟩
        · walk_at "ds"
          rw [wKs_da]
          refine k_tj (by rw [hm]; simp only [List.length_cons, List.length_nil]; omega) ?_
          walk_at "ds"
          exact q
      | @rep _ t lo hi lz h0 h1 h2 h =>
        have a := wTr_len h
        have b := numW_len h0 h1 h2
        have c := parW_len 3 t (wTr t)
        rw [sz] at hz
        rw [toDa]
        rw [wTr] at q
        cases lz
        · walk_at "ds"
          refine ⟨t, 3, _, rfl, .r, h, by omega, trivial, ?_⟩
          walk_at "ds"
          refine ⟨lo, hi, rfl, h0, h1, h2, trivial, ?_⟩
          walk_at "ds"
          refine k_x2 (by walk_at "lx") ?_
          walk_at "ds"
          refine k_x2 (by walk_at "lx") ?_
          walk_at "ds"
          exact q
        · walk_at "ds"
          refine ⟨t, 3, _, rfl, .r, h, by omega, trivial, ?_⟩
          walk_at "ds"
          refine ⟨lo, hi, rfl, h0, h1, h2, trivial, ?_⟩
          walk_at "ds"
          refine k_x2 (by walk_at "lx") ?_
          walk_at "ds"
          refine k_x2 (by walk_at "lx") ?_
          walk_at "ds"
          exact q
      | grp h1 h =>
        walk_at "ds"
        refine ⟨_, rfl, ht0, rfl, hz, trivial, ?_⟩
        rw [brW]
        rw [wTr] at q hl
        simp only [List.length_append, List.length_cons, List.length_nil] at hl
        walk_at "ds"
        refine k_x2 (by walk_at "lx") ?_
        walk_at "ds"
        refine k_x2 (by walk_at "lx") ?_
        walk_at "ds"
        exact q
      | look h1 h =>
        walk_at "ds"
        refine ⟨_, rfl, ht0, rfl, hz, trivial, ?_⟩
        rw [brW]
        rw [wTr] at q hl
        simp only [List.length_append, List.length_cons, List.length_nil] at hl
        walk_at "ds"
        refine k_x2 (by walk_at "lx") ?_
        walk_at "ds"
        refine k_x2 (by walk_at "lx") ?_
        walk_at "ds"
        exact q
end
end My
namespace My
open PySem L2
local macro_rules | `(tactic| walk_at "rd") => `(tactic| simp only [tSeq, tNext, tAsg, tOp, tUn, tC, tVar, gName, gSub, tCons, tNil, tCB, tIfS, tIf, tTest, tB, tAnd, tOr, tNot, tAndV, tOrV, tNotV, tRet, tRetN, tDrop, tLst, tTup, tCall, tSl, tNoPart, tPart, tM0, tM1, tBM, tBM0, tYes, tFor_eq, tLc_eq, iList, iRng1, iRng2, iStr, sg_tx, c_empty, rstrip_sign, find_sign, cut_last, cut_to, cut_from, cut_mid, cut_to_lit, cut_from_lit, and_assoc, flat_rep, List.length_replicate, tx_len, tx_eq, tx_app, tx_cps, rI0, rI, rU, rEq, rNe, rIxL, rIxS, rIxT, rSetL, rAppend, rPopAt, rSlS, rSlL, rIn, rMulS, rLtD, rJoin, rLenQ, rListOf,  tRevS, 
  scal, L2.start, List.map_cons, List.map_nil, List.length_cons, List.length_nil, List.replicate, List.cons_append, List.nil_append, List.append_nil,
  List.getElem?_cons_zero, List.getElem?_cons_succ, List.set_cons_zero, List.set_cons_succ, Nat.sub_zero, Nat.reduceSub, Nat.reduceAdd, Nat.zero_add, id_eq, Int.reduceToNat, exists_or,
  V.int.injEq, V.str.injEq, V.bl.injEq, V.ref.injEq, Option.some.injEq, List.cons.injEq, exists_and_left, exists_eq_left', exists_eq_left, exists_eq, exists_eq', and_true, true_and, reduceCtorEq, false_and, and_false, exists_false, false_or, or_false, decide_eq_true_eq, Bool.not_eq_true', decide_eq_false_iff_not, Bool.not_not, Bool.false_eq_true, ↓reduceIte, if_true, if_false])

local macro_rules | `(tactic| walk_at "ne") => `(tactic| first | assumption | (refine Ne.symm ?_; assumption) | exact (ne_of_none (by assumption) (by assumption)) | exact (ne_of_none (by assumption) (by assumption)).symm)
local macro_rules | `(tactic| walk_at "hp") => `(tactic| first | assumption | exact upd_same | exact (upd_ne (by walk_at "ne")).trans (by walk_at "hp"))
local macro_rules | `(tactic| walk_at "st1") => `(tactic| first
  | refine ⟨_, Or.inl (Or.inl (by walk_at "hp")), ?_⟩
  | refine ⟨_, Or.inl (Or.inl (Or.inl (by walk_at "hp"))), ?_⟩
  | refine ⟨_, (show _ = some (HO.lst _) by walk_at "hp"), ?_⟩
  | refine ⟨_, rfl, ?_⟩
  | refine ⟨(rfl : ("str" : String) = "str"), ?_⟩
  | refine ⟨Or.inr ⟨by decide, by decide⟩, ?_⟩
  | refine ⟨⟨by decide, by decide⟩, ?_⟩
  | refine ⟨by decide, ?_⟩
  | refine ⟨by assumption, ?_⟩)
local macro_rules | `(tactic| walk_at "st") => `(tactic| repeat walk_at "st1")
local macro_rules | `(tactic| walk_at "go") => `(tactic| repeat first | walk_at "st1" | walk_at "rd")
local macro_rules | `(tactic| walk_at "wk") => `(tactic| repeat first | exact Wk.nil | apply Wk.yes | apply Wk.no)
local macro_rules | `(tactic| walk_at "ds1") => `(tactic| first
  | ((with_reducible show Sv _ _ _ _); (first | (((with_reducible apply sv_putE); next => rfl)) | (with_reducible apply sv_seq) | (with_reducible apply sv_if) | (((with_reducible apply sv_retO); next => rfl)) | (with_reducible refine sv_retN (el_lst ?_)) | (with_reducible refine sv_retN (el_call ?_)) | (with_reducible refine sv_retN (el_lc ?_)) | (with_reducible refine sv_retN (el_list ?_)) | (with_reducible refine sv_retN (el_cat ?_)) | (with_reducible apply sv_ret) | (with_reducible refine sv_setN (el_lst ?_)) | (with_reducible refine sv_setN (el_call ?_)) | (with_reducible refine sv_setN (el_lc ?_)) | (with_reducible refine sv_setN (el_list ?_)) | (with_reducible refine sv_setN (el_cat ?_)) | (with_reducible refine sv_setN (el_callD rfl ?_)) | (((with_reducible apply sv_putD); next => rfl)) | (with_reducible apply sv_set) | (((with_reducible apply sv_app); next => rfl)) | (((with_reducible apply sv_ext); next => rfl)) | (((with_reducible apply sv_put); next => rfl)) | (with_reducible apply sv_for) | (with_reducible apply sv_nil) | (with_reducible apply sv_retNone) | (with_reducible apply sv_drop)))
  | ((with_reducible show Ev _ _ _ _); (first | (with_reducible apply ev_min3) | (with_reducible apply ev_q0) | (with_reducible apply ev_q1) | (with_reducible apply ev_q2) | (with_reducible apply ev_q3) | (with_reducible apply ev_q4) | (with_reducible apply ev_q5) | (with_reducible apply ev_q6) | (with_reducible apply ev_q7) | (with_reducible apply ev_q8) | (with_reducible apply ev_q9) | (with_reducible apply ev_q10) | (with_reducible apply ev_q11) | (with_reducible apply ev_q12) | (with_reducible apply ev_q13) | (with_reducible apply ev_q14) | (with_reducible apply ev_q15) | (with_reducible apply ev_q16) | (with_reducible apply ev_q17) | (with_reducible apply ev_q18) | (with_reducible apply ev_q19) | (with_reducible apply ev_q20) | (with_reducible apply ev_q21) | (with_reducible apply ev_q22) | (with_reducible apply ev_q23) | (with_reducible apply ev_q24) | (with_reducible apply ev_q25) | (with_reducible apply ev_q26) | (with_reducible apply ev_q27) | (with_reducible apply ev_q28) | (with_reducible apply ev_q29) | (with_reducible apply ev_q30) | (with_reducible apply ev_q31) | (with_reducible apply ev_q32) | (with_reducible apply ev_q33) | (with_reducible apply ev_q34) | (with_reducible apply ev_q35) | (with_reducible apply ev_q36) | (with_reducible apply ev_q37) | (with_reducible apply ev_q38) | (with_reducible apply ev_q39) | (with_reducible apply ev_q40) | (with_reducible apply ev_q41) | (with_reducible apply ev_q42) | (with_reducible apply ev_q43) | (with_reducible apply ev_q44) | (with_reducible apply ev_q45) | (with_reducible apply ev_catX) | (with_reducible apply ev_inS) | (with_reducible apply ev_ninS) | (with_reducible apply ev_joinE) | (with_reducible apply ev_joinB) | (with_reducible apply ev_wset) | (with_reducible apply ev_strIN) | (with_reducible apply ev_fmt) | (with_reducible apply ev_joined) | (with_reducible apply ev_slX) | (with_reducible apply ev_lenX) | (with_reducible apply ev_sgs) | (((with_reducible apply ev_ixD); next => rfl)) | (((with_reducible apply ev_ktup); next => assumption)) | (((with_reducible apply ev_var); next => rfl)) | (((with_reducible apply ev_varO); next => rfl)) | (((with_reducible apply ev_varL); next => rfl)) | (((with_reducible apply ev_callD); next => rfl)) | (((with_reducible apply ev_dr); next => rfl)) | (with_reducible apply ev_max2) | (with_reducible apply ev_min2) | (with_reducible apply ev_index) | (with_reducible apply ev_eqD) | (with_reducible apply ev_neD) | (with_reducible apply ev_str) | (with_reducible apply ev_int) | (with_reducible apply ev_bl) | (with_reducible apply ev_non) | (with_reducible apply ev_ixT) | (with_reducible apply ev_call) | (with_reducible apply ev_eq) | (with_reducible apply ev_tup) | (with_reducible apply ev_in) | (with_reducible apply ev_ixL) | (with_reducible apply ev_ne) | (with_reducible apply ev_i0) | (with_reducible apply ev_ib) | (with_reducible apply ev_isi) | (with_reducible apply ev_isN) | (with_reducible apply ev_notN) | (with_reducible apply ev_isB) | (with_reducible apply ev_notB) | (with_reducible apply ev_slT2) | (with_reducible apply ev_catU) | (with_reducible apply ev_iC) | (with_reducible apply ev_ixS) | (with_reducible apply ev_u) | (with_reducible apply ev_notV) | (with_reducible apply ev_if) | (with_reducible apply ev_len) | (with_reducible apply ev_tuple) | (with_reducible apply ev_all) | (with_reducible refine Ev.ofNew (el_lst ?_)) | (with_reducible refine Ev.ofNew (el_call ?_)) | (with_reducible refine Ev.ofNew (el_lc ?_)) | (with_reducible refine Ev.ofNew (el_list ?_)) | (with_reducible refine Ev.ofNew (el_cat ?_))))
  | ((with_reducible show Es _ _ _ _); (first | (with_reducible apply es_cons) | (with_reducible apply es_nil)))
  | ((with_reducible show Tv _ _ _ _); (first | (with_reducible apply tv_test) | (with_reducible apply tv_not) | (with_reducible apply tv_and) | (with_reducible apply tv_or) | (with_reducible apply tv_b) | (with_reducible apply tv_yes) | (with_reducible apply tv_tr)))
  | ((with_reducible show Eln _ _ _ _); (first | (with_reducible apply el_lst) | (with_reducible apply el_call) | (with_reducible apply el_lc) | (with_reducible apply el_list) | (with_reducible apply el_cat)))
  | ((with_reducible show Eo _ _ _ _); (first | (with_reducible apply eo_no) | (with_reducible apply eo_some)))
  | ((with_reducible show Iv _ _ _ _); (first | (with_reducible apply iv_tup) | (with_reducible apply iv_range1) | (with_reducible apply iv_str) | (with_reducible apply iv_enumT) | (((with_reducible apply iv_listV); next => rfl)) | (((with_reducible apply iv_listO); next => rfl)) | (with_reducible refine iv_listN (el_lst ?_)) | (with_reducible refine iv_listN (el_call ?_)) | (with_reducible refine iv_listN (el_lc ?_)) | (with_reducible refine iv_listN (el_list ?_)) | (with_reducible refine iv_listN (el_cat ?_))))
  | ((with_reducible show Gv _ _ _ _ _ _); (first | (with_reducible apply gv_name) | (with_reducible apply gv_tup2) | (with_reducible apply gv_tup3)))
  | ((with_reducible show seqO _ _ _ _); (first | (with_reducible apply o_nx) | (with_reducible apply o_rt) | (with_reducible apply o_rn) | (with_reducible apply o_bk) | (with_reducible apply o_ct)))
  | ((with_reducible show jnI _ _ _); (first | (with_reducible apply ji_nx) | (with_reducible apply ji_rt) | (with_reducible apply ji_rn) | (with_reducible apply ji_bk) | (with_reducible apply ji_ct)))
  | ((with_reducible show jnO _ _ _); (first | (with_reducible apply j_nx) | (with_reducible apply j_rt) | (with_reducible apply j_rn) | (with_reducible apply j_bk) | (with_reducible apply j_ct)))
  | ((with_reducible show lpO _ _ _ _); (first | (with_reducible apply l_rt) | (with_reducible apply l_rn) | (with_reducible apply l_ct) | (with_reducible apply l_nx')))
  | ((with_reducible show retO _ _); (first | (with_reducible apply r_rt) | (with_reducible apply r_nx)))
  | (with_reducible apply r_rn)
  | ((with_reducible show KIf _ _ _); (first | (((with_reducible apply k_ift); next => first | decide +kernel | rfl)) | (((with_reducible apply k_iff); next => first | decide +kernel | rfl))))
  | ((with_reducible show KEq _ _ _); (first | (with_reducible apply k_eqIN) | (with_reducible apply k_eqNI) | (with_reducible apply k_eqS) | (with_reducible apply k_eqI) | (with_reducible apply k_eqB) | (((with_reducible apply k_eqO); next => rfl; next => rfl; next => rfl; next => rfl))))
  | ((with_reducible show KDas _ _); (first | (with_reducible apply k_das_0) | (with_reducible apply k_das_1) | (with_reducible apply k_das_2) | (with_reducible apply k_das_3) | (with_reducible apply k_das_4) | (with_reducible apply k_das_5) | (with_reducible apply k_das_6) | (with_reducible apply k_das_7) | (with_reducible apply k_das_8) | (with_reducible apply k_das_9) | (with_reducible apply k_das_10) | (with_reducible apply k_das_11) | (with_reducible apply k_das_12) | (with_reducible apply k_das_13) | (with_reducible apply k_das_14) | (with_reducible apply k_das_15) | (with_reducible apply k_das_16)))
  | ((with_reducible show KIn _ _ _); (first | (with_reducible apply k_inT_0) | (with_reducible apply k_inL_0) | (with_reducible apply k_inT_1) | (with_reducible apply k_inL_1) | (with_reducible apply k_inT_2) | (with_reducible apply k_inL_2) | (with_reducible apply k_inT_3) | (with_reducible apply k_inL_3) | (with_reducible apply k_inT_4) | (with_reducible apply k_inL_4) | (with_reducible apply k_inT_5) | (with_reducible apply k_inL_5) | (with_reducible apply k_inT_6) | (with_reducible apply k_inL_6) | (with_reducible apply k_inT_7) | (with_reducible apply k_inL_7) | (with_reducible apply k_inT_8) | (with_reducible apply k_inL_8) | (with_reducible apply k_inT_9) | (with_reducible apply k_inL_9) | (with_reducible apply k_inT_10) | (with_reducible apply k_inL_10) | (with_reducible apply k_inT_11) | (with_reducible apply k_inL_11) | (with_reducible apply k_inT_12) | (with_reducible apply k_inL_12) | (with_reducible apply k_inN) | (((with_reducible apply k_inT); next => rfl; next => rfl)) | (((with_reducible apply k_inL); next => rfl; next => rfl))))
  | ((with_reducible show KEqD _ _ _); (first | (with_reducible apply k_eqIntsC) | (with_reducible apply k_eqInts0) | (with_reducible apply k_eqInts)))
  | (with_reducible apply k_put0)
  | ((with_reducible show KTy _ _ _); (first | (with_reducible apply k_ty_tup_tuple) | (with_reducible apply k_ty_tup_bool) | (with_reducible apply k_ty_tup_int) | (with_reducible apply k_ty_tup_str) | (with_reducible apply k_ty_tup_list) | (with_reducible apply k_ty_ls_tuple) | (with_reducible apply k_ty_ls_bool) | (with_reducible apply k_ty_ls_int) | (with_reducible apply k_ty_ls_str) | (with_reducible apply k_ty_ls_list) | (with_reducible apply k_ty_int_tuple) | (with_reducible apply k_ty_int_bool) | (with_reducible apply k_ty_int_int) | (with_reducible apply k_ty_int_str) | (with_reducible apply k_ty_int_list) | (with_reducible apply k_ty_str_tuple) | (with_reducible apply k_ty_str_bool) | (with_reducible apply k_ty_str_int) | (with_reducible apply k_ty_str_str) | (with_reducible apply k_ty_str_list) | (with_reducible apply k_ty_bl_tuple) | (with_reducible apply k_ty_bl_bool) | (with_reducible apply k_ty_bl_int) | (with_reducible apply k_ty_bl_str) | (with_reducible apply k_ty_bl_list) | (with_reducible apply k_ty_non_tuple) | (with_reducible apply k_ty_non_bool) | (with_reducible apply k_ty_non_int) | (with_reducible apply k_ty_non_str) | (with_reducible apply k_ty_non_list)))
  | ((with_reducible show KSl _ _ _ _); (first | (with_reducible apply k_sl_1) | (with_reducible apply k_sl_2) | (with_reducible apply k_sl_m2) | (with_reducible apply k_sl_m3) | (with_reducible apply k_sl_m4) | (with_reducible apply k_sl_m5)))
  | ((with_reducible show KCat _ _ _); (first | (with_reducible apply k_cat1) | (with_reducible apply k_cat2) | (with_reducible apply k_cat3) | (with_reducible apply k_cat23)))
  | ((with_reducible show KLen _ _); (first | (with_reducible apply k_lenT) | (with_reducible apply k_lenL)))
  | ((with_reducible show KSq _ _); (first | (with_reducible apply k_sqT) | (with_reducible apply k_sqL)))
  | (with_reducible apply k_i2s)
  | (with_reducible apply k_d)
  | ((with_reducible show KT _ _); (first | (with_reducible apply k_t) | (with_reducible apply k_tT)))
  | (with_reducible apply k_l)
  | (with_reducible apply k_i1)
  | (with_reducible apply k_i2)
  | (with_reducible apply k_b)
  | (with_reducible apply k_n)
  | (with_reducible apply k_tx)
  | (with_reducible apply k_t1)
  | (with_reducible apply k_ts)
  | with_reducible apply k_ix_0
  | with_reducible apply k_ix_1
  | ((with_reducible apply k_ixT2); next => rfl)
  | with_reducible apply gx_name
  | with_reducible apply gx_tup2
  | with_reducible apply gx_tup3
  | with_reducible refine (fun (p : Addr) => (?_ : seqO _ _ _ _))
  | with_reducible refine (fun (p : Addr) => (?_ : lpO _ _ _ _))
  | with_reducible refine (fun (p : Addr) => (?_ : liO _ _))
  | ((with_reducible show KTr _ _); (first | (with_reducible apply k_trI) | (with_reducible apply k_trB)))
  | (with_reducible apply k_sg)
  | ((with_reducible show Sx _ _ _ _ _ _ _ _); (first | (with_reducible apply sx_seq) | (with_reducible apply sx_if) | (with_reducible refine sx_retN (el_lst ?_)) | (with_reducible refine sx_retN (el_call ?_)) | (with_reducible refine sx_retN (el_lc ?_)) | (with_reducible refine sx_retN (el_list ?_)) | (with_reducible refine sx_retN (el_cat ?_)) | (with_reducible apply sx_for)))
  | ((with_reducible show Ej _ _ _ _ _); (first | (with_reducible apply ej_nil) | (with_reducible apply ej_cons)))
  | ((with_reducible show liO _ _); (first | (with_reducible apply li_nx) | (with_reducible apply li_bk) | (with_reducible apply li_ct)))
  | ((with_reducible show sqX _ _ _ _ _ _ _ _); (first | (with_reducible apply q_nx) | (with_reducible apply q_rt) | (with_reducible apply q_rn) | (with_reducible apply q_bk) | (with_reducible apply q_ct)))
  | (with_reducible apply lx_nx)
  | ((with_reducible show Ems _ _ _ _); (first | (with_reducible apply ems_cons) | (with_reducible apply ems_nil)))
  | (with_reducible apply k_tj)
  | (with_reducible apply k_i3)
  | ((with_reducible show Ek _ _ _ _ _); (first | (((with_reducible apply ek_last); next => rfl)) | (with_reducible apply ek_cons))))
local macro_rules | `(tactic| walk_at "ds") => `(tactic| repeat walk_at "ds1")
local macro_rules | `(tactic| walk_at "d0") => `(tactic| (try simp only [cx_K, cx_K', List.map_cons, List.map_nil]))
local macro_rules | `(tactic| walk_at "da") => `(tactic| repeat first | walk_at "ds1" | (with_reducible apply sv_cut) | (with_reducible apply sx_cut))
local macro_rules | `(tactic| walk_at "lx") => `(tactic| (refine toL ?_; (try simp only [List.length_append, List.length_cons, List.length_nil]); omega))
local macro_rules | `(tactic| walk_at "dx") => `(tactic| repeat first | walk_at "ds1" | (with_reducible apply sv_cut) | (with_reducible apply sx_cut) | (with_reducible refine k_x2 (by walk_at "lx") ?_) | (with_reducible refine k_stI (by assumption) ?_) | (with_reducible refine k_stN ?_) | (with_reducible refine k_lx (by walk_at "lx") ?_) | (with_reducible refine k_ift (decT (by omega)) ?_) | (with_reducible refine k_iff (decF (by omega)) ?_))
section
variable {P : Program} {w : World} {K : PySem.W.Frag} {mg : Str → Option Value} {base : Heap}
def pre_mark : List Vl → (Vl → Prop) → Prop := fun xs R => ∃ (lo : Int) (hi : Option Int) (lz : Bool), xs = [.da (.int lo), .da (hiD hi), .da (.bl lz)] ∧ 0 ≤ lo ∧ lo ≤ 40 ∧ (∀ h, hi = some h → lo ≤ h ∧ h ≤ 40) ∧ R (.da (.str (tx (numW lo hi ++ if lz then [126] else []))))
theorem numW_n2 {lo : Int} (h : 2 ≤ lo) : numW lo none = [60] ++ dec lo ++ [44, 62] := by rw [numW, if_neg (by omega)]
theorem numW_eq {lo : Int} : numW lo (some lo) = [60] ++ dec lo ++ [62] := by rw [numW, if_pos rfl]
theorem numW_ne {lo h : Int} (n : lo ≠ h) (m : h ≠ 1) : numW lo (some h) = [60] ++ dec lo ++ [44] ++ dec h ++ [62] := by rw [numW, if_neg n, if_neg m]
set_option maxHeartbeats 4000000 in
theorem ok_Lmark (T : Top K mg) : FnOk P w K mg base CX0 1 T.f_Lmark T.fd_Lmark ["_law_least", "_law_most", "_law_lazy"] (sp_pu K pre_mark) := by
  refine T.F_Lmark.ok sc_Lmark (fun vs H Q E h => ?_) (fun cdv A outer s H vs Q E hr h => ⟨_, (pss_cons (ps_set (i := 3) sc_Lmark.nd rfl (Or.inl rfl) (pe_op op_add_str (pe_op op_add_str (pe_op op_add_str (pe_op op_add_str pe_str (pe_callTy (r := rStrIN) call_strIN (by rfl) T.b_str (by decide +kernel) (pa_cons (pv 0) pa_nil))) pe_str) (pe_callTy (r := rStrIN) call_strIN (by rfl) T.b_str (by decide +kernel) (pa_cons (pv 1) pa_nil))) pe_str))
       (pss_cut (ps_if (pt_cmpR (r := rIsN) op_isN1 (pv 1) pe_non (nomark _)) (pss_one (ps_set (i := 3) sc_Lmark.nd rfl (Or.inl rfl) (pe_op op_add_str (pe_op op_add_str pe_str (pe_callTy (r := rStrIN) call_strIN (by rfl) T.b_str (by decide +kernel) (pa_cons (pv 0) pa_nil))) pe_str))) pss_nil)
       (pss_cut (ps_if (pt_cmpR op_eq (pv 0) (pv 1) (nomark _)) (pss_one (ps_set (i := 3) sc_Lmark.nd rfl (Or.inl rfl) (pe_op op_add_str (pe_op op_add_str pe_str (pe_callTy (r := rStrIN) call_strIN (by rfl) T.b_str (by decide +kernel) (pa_cons (pv 0) pa_nil))) pe_str))) pss_nil)
       (pss_cut (ps_if (PW.pt (pw_and (pt_cmpR op_eq (pv 0) pe_int (nomark _)) (pw_and1 (pt_cmpR (r := rIsN) op_isN1 (pv 1) pe_non (nomark _))))) (pss_one (ps_set (i := 3) sc_Lmark.nd rfl (Or.inl rfl) pe_str)) pss_nil)
       (pss_cut (ps_if (PW.pt (pw_and (pt_cmpR op_eq (pv 0) pe_int (nomark _)) (pw_and1 (pt_cmpR (r := rIsN) op_isN1 (pv 1) pe_non (nomark _))))) (pss_one (ps_set (i := 3) sc_Lmark.nd rfl (Or.inl rfl) pe_str)) pss_nil)
       (pss_cut (ps_if (PW.pt (pw_and (pt_cmpR op_eq (pv 0) pe_int (nomark _)) (pw_and1 (pt_cmpR op_eq (pv 1) pe_int (nomark _))))) (pss_one (ps_set (i := 3) sc_Lmark.nd rfl (Or.inl rfl) pe_str)) pss_nil)
       (pss_cons (ps_if (pt_val (pv 2)) (pss_one (ps_ret (pe_op op_add_str (pv 3) pe_str))) pss_nil)
       (pss_one (ps_ret (pv 3)))))))))), fin_pu (N := n_Lmark) (fun xs R hp e he => ?_) h⟩)
  · obtain ⟨xs, R, hx, ⟨lo, hi, lz, rfl, _⟩, _⟩ := h
    exact hx.len
  · obtain ⟨lo, hi, lz, rfl, h0, h1, h2, q⟩ := hp
    rcases he with _ | he
    rcases he with _ | he
    rcases he with _ | he
    cases he
    walk_at "d0"
    have g0 := log_dec h0 h1
    have d0 := dec_len h0 h1
    have qf : ∀ u, u = numW lo hi → (lz = false → R (.da (.str (tx u)))) ∧ (lz = true → R (.da (.str (tx (u ++ [126]))))) := fun u e => by
      subst e
      exact ⟨fun e => by subst e; rw [if_neg (by decide), List.append_nil] at q; exact q, fun e => by subst e; exact q⟩
    cases hi with
    | none =>
      rw [hiD]
      rcases (by omega : lo = 0 ∨ lo = 1 ∨ 2 ≤ lo) with rfl | rfl | g2
      · cases lz
        · walk_at "dx"
          exact (qf _ rfl).1 rfl
        · walk_at "dx"
          exact (qf _ rfl).2 rfl
      · cases lz
        · walk_at "dx"
          exact (qf _ rfl).1 rfl
        · walk_at "dx"
          exact (qf _ rfl).2 rfl
      · cases lz
        · walk_at "dx"
          exact (qf _ (numW_n2 g2).symm).1 rfl
        · walk_at "dx"
          exact (qf _ (numW_n2 g2).symm).2 rfl
    | some h =>
      rw [hiD]
      obtain ⟨h3, h4⟩ := h2 h rfl
      have g3 := log_dec (Int.le_trans h0 h3) h4
      have d3 := dec_len (Int.le_trans h0 h3) h4
      by_cases e : lo = h
      · have e1 := numW_eq (lo := lo)
        subst e
        rcases (by omega : lo = 0 ∨ lo = 1 ∨ 2 ≤ lo) with e0 | e0 | e0
        all_goals
          cases lz
          · walk_at "dx"
            exact (qf _ e1.symm).1 rfl
          · walk_at "dx"
            exact (qf _ e1.symm).2 rfl
      · rcases (by omega : h = 1 ∨ 2 ≤ h) with e1 | e1
        · subst e1
          have e0 : lo = 0 := by omega
          subst e0
          cases lz
          · walk_at "dx"
            exact (qf _ rfl).1 rfl
          · walk_at "dx"
            exact (qf _ rfl).2 rfl
        · have e2 := numW_ne (lo := lo) (h := h) e (by omega)
          rcases (by omega : lo = 0 ∨ lo = 1 ∨ 2 ≤ lo) with e0 | e0 | e0
          all_goals
            cases lz
            · walk_at "dx"
              exact (qf _ e2.symm).1 rfl
            · walk_at "dx"
              exact (qf _ e2.symm).2 rfl
end
end My
namespace My
open PySem L2
local macro_rules | `(tactic| walk_at "rd") => `(tactic| simp only [tSeq, tNext, tAsg, tOp, tUn, tC, tVar, gName, gSub, tCons, tNil, tCB, tIfS, tIf, tTest, tB, tAnd, tOr, tNot, tAndV, tOrV, tNotV, tRet, tRetN, tDrop, tLst, tTup, tCall, tSl, tNoPart, tPart, tM0, tM1, tBM, tBM0, tYes, tFor_eq, tLc_eq, iList, iRng1, iRng2, iStr, sg_tx, c_empty, rstrip_sign, find_sign, cut_last, cut_to, cut_from, cut_mid, cut_to_lit, cut_from_lit, and_assoc, flat_rep, List.length_replicate, tx_len, tx_eq, tx_app, tx_cps, rI0, rI, rU, rEq, rNe, rIxL, rIxS, rIxT, rSetL, rAppend, rPopAt, rSlS, rSlL, rIn, rMulS, rLtD, rJoin, rLenQ, rListOf,  tRevS, 
  scal, L2.start, List.map_cons, List.map_nil, List.length_cons, List.length_nil, List.replicate, List.cons_append, List.nil_append, List.append_nil,
  List.getElem?_cons_zero, List.getElem?_cons_succ, List.set_cons_zero, List.set_cons_succ, Nat.sub_zero, Nat.reduceSub, Nat.reduceAdd, Nat.zero_add, id_eq, Int.reduceToNat, exists_or,
  V.int.injEq, V.str.injEq, V.bl.injEq, V.ref.injEq, Option.some.injEq, List.cons.injEq, exists_and_left, exists_eq_left', exists_eq_left, exists_eq, exists_eq', and_true, true_and, reduceCtorEq, false_and, and_false, exists_false, false_or, or_false, decide_eq_true_eq, Bool.not_eq_true', decide_eq_false_iff_not, Bool.not_not, Bool.false_eq_true, ↓reduceIte, if_true, if_false])

local macro_rules | `(tactic| walk_at "ne") => `(tactic| first | assumption | (refine Ne.symm ?_; assumption) | exact (ne_of_none (by assumption) (by assumption)) | exact (ne_of_none (by assumption) (by assumption)).symm)
local macro_rules | `(tactic| walk_at "hp") => `(tactic| first | assumption | exact upd_same | exact (upd_ne (by walk_at "ne")).trans (by walk_at "hp"))
local macro_rules | `(tactic| walk_at "st1") => `(tactic| first
  | refine ⟨_, Or.inl (Or.inl (by walk_at "hp")), ?_⟩
  | refine ⟨_, Or.inl (Or.inl (Or.inl (by walk_at "hp"))), ?_⟩
  | refine ⟨_, (show _ = some (HO.lst _) by walk_at "hp"), ?_⟩
  | refine ⟨_, rfl, ?_⟩
  | refine ⟨(rfl : ("str" : String) = "str"), ?_⟩
  | refine ⟨Or.inr ⟨by decide, by decide⟩, ?_⟩
  | refine ⟨⟨by decide, by decide⟩, ?_⟩
  | refine ⟨by decide, ?_⟩
  | refine ⟨by assumption, ?_⟩)
local macro_rules | `(tactic| walk_at "st") => `(tactic| repeat walk_at "st1")
local macro_rules | `(tactic| walk_at "go") => `(tactic| repeat first | walk_at "st1" | walk_at "rd")
local macro_rules | `(tactic| walk_at "wk") => `(tactic| repeat first | exact Wk.nil | apply Wk.yes | apply Wk.no)
local macro_rules | `(tactic| walk_at "ds1") => `(tactic| first
  | ((with_reducible show Sv _ _ _ _); (first | (((with_reducible apply sv_putE); next => rfl)) | (with_reducible apply sv_seq) | (with_reducible apply sv_if) | (((with_reducible apply sv_retO); next => rfl)) | (with_reducible refine sv_retN (el_lst ?_)) | (with_reducible refine sv_retN (el_call ?_)) | (with_reducible refine sv_retN (el_lc ?_)) | (with_reducible refine sv_retN (el_list ?_)) | (with_reducible refine sv_retN (el_cat ?_)) | (with_reducible apply sv_ret) | (with_reducible refine sv_setN (el_lst ?_)) | (with_reducible refine sv_setN (el_call ?_)) | (with_reducible refine sv_setN (el_lc ?_)) | (with_reducible refine sv_setN (el_list ?_)) | (with_reducible refine sv_setN (el_cat ?_)) | (with_reducible refine sv_setN (el_callD rfl ?_)) | (((with_reducible apply sv_putD); next => rfl)) | (with_reducible apply sv_set) | (((with_reducible apply sv_app); next => rfl)) | (((with_reducible apply sv_ext); next => rfl)) | (((with_reducible apply sv_put); next => rfl)) | (with_reducible apply sv_for) | (with_reducible apply sv_nil) | (with_reducible apply sv_retNone) | (with_reducible apply sv_drop)))
  | ((with_reducible show Ev _ _ _ _); (first | (with_reducible apply ev_min3) | (with_reducible apply ev_q0) | (with_reducible apply ev_q1) | (with_reducible apply ev_q2) | (with_reducible apply ev_q3) | (with_reducible apply ev_q4) | (with_reducible apply ev_q5) | (with_reducible apply ev_q6) | (with_reducible apply ev_q7) | (with_reducible apply ev_q8) | (with_reducible apply ev_q9) | (with_reducible apply ev_q10) | (with_reducible apply ev_q11) | (with_reducible apply ev_q12) | (with_reducible apply ev_q13) | (with_reducible apply ev_q14) | (with_reducible apply ev_q15) | (with_reducible apply ev_q16) | (with_reducible apply ev_q17) | (with_reducible apply ev_q18) | (with_reducible apply ev_q19) | (with_reducible apply ev_q20) | (with_reducible apply ev_q21) | (with_reducible apply ev_q22) | (with_reducible apply ev_q23) | (with_reducible apply ev_q24) | (with_reducible apply ev_q25) | (with_reducible apply ev_q26) | (with_reducible apply ev_q27) | (with_reducible apply ev_q28) | (with_reducible apply ev_q29) | (with_reducible apply ev_q30) | (with_reducible apply ev_q31) | (with_reducible apply ev_q32) | (with_reducible apply ev_q33) | (with_reducible apply ev_q34) | (with_reducible apply ev_q35) | (with_reducible apply ev_q36) | (with_reducible apply ev_q37) | (with_reducible apply ev_q38) | (with_reducible apply ev_q39) | (with_reducible apply ev_q40) | (with_reducible apply ev_q41) | (with_reducible apply ev_q42) | (with_reducible apply ev_q43) | (with_reducible apply ev_q44) | (with_reducible apply ev_q45) | (with_reducible apply ev_catX) | (with_reducible apply ev_inS) | (with_reducible apply ev_ninS) | (with_reducible apply ev_joinE) | (with_reducible apply ev_joinB) | (with_reducible apply ev_wset) | (with_reducible apply ev_strIN) | (with_reducible apply ev_fmt) | (with_reducible apply ev_joined) | (with_reducible apply ev_slX) | (with_reducible apply ev_lenX) | (with_reducible apply ev_sgs) | (((with_reducible apply ev_ixD); next => rfl)) | (((with_reducible apply ev_ktup); next => assumption)) | (((with_reducible apply ev_var); next => rfl)) | (((with_reducible apply ev_varO); next => rfl)) | (((with_reducible apply ev_varL); next => rfl)) | (((with_reducible apply ev_callD); next => rfl)) | (((with_reducible apply ev_dr); next => rfl)) | (with_reducible apply ev_max2) | (with_reducible apply ev_min2) | (with_reducible apply ev_index) | (with_reducible apply ev_eqD) | (with_reducible apply ev_neD) | (with_reducible apply ev_str) | (with_reducible apply ev_int) | (with_reducible apply ev_bl) | (with_reducible apply ev_non) | (with_reducible apply ev_ixT) | (with_reducible apply ev_call) | (with_reducible apply ev_eq) | (with_reducible apply ev_tup) | (with_reducible apply ev_in) | (with_reducible apply ev_ixL) | (with_reducible apply ev_ne) | (with_reducible apply ev_i0) | (with_reducible apply ev_ib) | (with_reducible apply ev_isi) | (with_reducible apply ev_isN) | (with_reducible apply ev_notN) | (with_reducible apply ev_isB) | (with_reducible apply ev_notB) | (with_reducible apply ev_slT2) | (with_reducible apply ev_catU) | (with_reducible apply ev_iC) | (with_reducible apply ev_ixS) | (with_reducible apply ev_u) | (with_reducible apply ev_notV) | (with_reducible apply ev_if) | (with_reducible apply ev_len) | (with_reducible apply ev_tuple) | (with_reducible apply ev_all) | (with_reducible refine Ev.ofNew (el_lst ?_)) | (with_reducible refine Ev.ofNew (el_call ?_)) | (with_reducible refine Ev.ofNew (el_lc ?_)) | (with_reducible refine Ev.ofNew (el_list ?_)) | (with_reducible refine Ev.ofNew (el_cat ?_))))
  | ((with_reducible show Es _ _ _ _); (first | (with_reducible apply es_cons) | (with_reducible apply es_nil)))
  | ((with_reducible show Tv _ _ _ _); (first | (with_reducible apply tv_test) | (with_reducible apply tv_not) | (with_reducible apply tv_and) | (with_reducible apply tv_or) | (with_reducible apply tv_b) | (with_reducible apply tv_yes) | (with_reducible apply tv_tr)))
  | ((with_reducible show Eln _ _ _ _); (first | (with_reducible apply el_lst) | (with_reducible apply el_call) | (with_reducible apply el_lc) | (with_reducible apply el_list) | (with_reducible apply el_cat)))
  | ((with_reducible show Eo _ _ _ _); (first | (with_reducible apply eo_no) | (with_reducible apply eo_some)))
  | ((with_reducible show Iv _ _ _ _); (first | (with_reducible apply iv_tup) | (with_reducible apply iv_range1) | (with_reducible apply iv_str) | (with_reducible apply iv_enumT) | (((with_reducible apply iv_listV); next => rfl)) | (((with_reducible apply iv_listO); next => rfl)) | (with_reducible refine iv_listN (el_lst ?_)) | (with_reducible refine iv_listN (el_call ?_)) | (with_reducible refine iv_listN (el_lc ?_)) | (with_reducible refine iv_listN (el_list ?_)) | (with_reducible refine iv_listN (el_cat ?_))))
  | ((with_reducible show Gv _ _ _ _ _ _); (first | (with_reducible apply gv_name) | (with_reducible apply gv_tup2) | (with_reducible apply gv_tup3)))
  | ((with_reducible show seqO _ _ _ _); (first | (with_reducible apply o_nx) | (with_reducible apply o_rt) | (with_reducible apply o_rn) | (with_reducible apply o_bk) | (with_reducible apply o_ct)))
  | ((with_reducible show jnI _ _ _); (first | (with_reducible apply ji_nx) | (with_reducible apply ji_rt) | (with_reducible apply ji_rn) | (with_reducible apply ji_bk) | (with_reducible apply ji_ct)))
  | ((with_reducible show jnO _ _ _); (first | (with_reducible apply j_nx) | (with_reducible apply j_rt) | (with_reducible apply j_rn) | (with_reducible apply j_bk) | (with_reducible apply j_ct)))
  | ((with_reducible show lpO _ _ _ _); (first | (with_reducible apply l_rt) | (with_reducible apply l_rn) | (with_reducible apply l_ct) | (with_reducible apply l_nx')))
  | ((with_reducible show retO _ _); (first | (with_reducible apply r_rt) | (with_reducible apply r_nx)))
  | (with_reducible apply r_rn)
  | ((with_reducible show KIf _ _ _); (first | (((with_reducible apply k_ift); next => first | decide +kernel | rfl)) | (((with_reducible apply k_iff); next => first | decide +kernel | rfl))))
  | ((with_reducible show KEq _ _ _); (first | (with_reducible apply k_eqIN) | (with_reducible apply k_eqNI) | (with_reducible apply k_eqS) | (with_reducible apply k_eqI) | (with_reducible apply k_eqB) | (((with_reducible apply k_eqO); next => rfl; next => rfl; next => rfl; next => rfl))))
  | ((with_reducible show KDas _ _); (first | (with_reducible apply k_das_0) | (with_reducible apply k_das_1) | (with_reducible apply k_das_2) | (with_reducible apply k_das_3) | (with_reducible apply k_das_4) | (with_reducible apply k_das_5) | (with_reducible apply k_das_6) | (with_reducible apply k_das_7) | (with_reducible apply k_das_8) | (with_reducible apply k_das_9) | (with_reducible apply k_das_10) | (with_reducible apply k_das_11) | (with_reducible apply k_das_12) | (with_reducible apply k_das_13) | (with_reducible apply k_das_14) | (with_reducible apply k_das_15) | (with_reducible apply k_das_16)))
  | ((with_reducible show KIn _ _ _); (first | (with_reducible apply k_inT_0) | (with_reducible apply k_inL_0) | (with_reducible apply k_inT_1) | (with_reducible apply k_inL_1) | (with_reducible apply k_inT_2) | (with_reducible apply k_inL_2) | (with_reducible apply k_inT_3) | (with_reducible apply k_inL_3) | (with_reducible apply k_inT_4) | (with_reducible apply k_inL_4) | (with_reducible apply k_inT_5) | (with_reducible apply k_inL_5) | (with_reducible apply k_inT_6) | (with_reducible apply k_inL_6) | (with_reducible apply k_inT_7) | (with_reducible apply k_inL_7) | (with_reducible apply k_inT_8) | (with_reducible apply k_inL_8) | (with_reducible apply k_inT_9) | (with_reducible apply k_inL_9) | (with_reducible apply k_inT_10) | (with_reducible apply k_inL_10) | (with_reducible apply k_inT_11) | (with_reducible apply k_inL_11) | (with_reducible apply k_inT_12) | (with_reducible apply k_inL_12) | (with_reducible apply k_inN) | (((with_reducible apply k_inT); next => rfl; next => rfl)) | (((with_reducible apply k_inL); next => rfl; next => rfl))))
  | ((with_reducible show KEqD _ _ _); (first | (with_reducible apply k_eqIntsC) | (with_reducible apply k_eqInts0) | (with_reducible apply k_eqInts)))
  | (with_reducible apply k_put0)
  | ((with_reducible show KTy _ _ _); (first | (with_reducible apply k_ty_tup_tuple) | (with_reducible apply k_ty_tup_bool) | (with_reducible apply k_ty_tup_int) | (with_reducible apply k_ty_tup_str) | (with_reducible apply k_ty_tup_list) | (with_reducible apply k_ty_ls_tuple) | (with_reducible apply k_ty_ls_bool) | (with_reducible apply k_ty_ls_int) | (with_reducible apply k_ty_ls_str) | (with_reducible apply k_ty_ls_list) | (with_reducible apply k_ty_int_tuple) | (with_reducible apply k_ty_int_bool) | (with_reducible apply k_ty_int_int) | (with_reducible apply k_ty_int_str) | (with_reducible apply k_ty_int_list) | (with_reducible apply k_ty_str_tuple) | (with_reducible apply k_ty_str_bool) | (with_reducible apply k_ty_str_int) | (with_reducible apply k_ty_str_str) | (with_reducible apply k_ty_str_list) | (with_reducible apply k_ty_bl_tuple) | (with_reducible apply k_ty_bl_bool) | (with_reducible apply k_ty_bl_int) | (with_reducible apply k_ty_bl_str) | (with_reducible apply k_ty_bl_list) | (with_reducible apply k_ty_non_tuple) | (with_reducible apply k_ty_non_bool) | (with_reducible apply k_ty_non_int) | (with_reducible apply k_ty_non_str) | (with_reducible apply k_ty_non_list)))
  | ((with_reducible show KSl _ _ _ _); (first | (with_reducible apply k_sl_1) | (with_reducible apply k_sl_2) | (with_reducible apply k_sl_m2) | (with_reducible apply k_sl_m3) | (with_reducible apply k_sl_m4) | (with_reducible apply k_sl_m5)))
  | ((with_reducible show KCat _ _ _); (first | (with_reducible apply k_cat1) | (with_reducible apply k_cat2) | (with_reducible apply k_cat3) | (with_reducible apply k_cat23)))
  | ((with_reducible show KLen _ _); (first | (with_reducible apply k_lenT) | (with_reducible apply k_lenL)))
  | ((with_reducible show KSq _ _); (first | (with_reducible apply k_sqT) | (with_reducible apply k_sqL)))
  | (with_reducible apply k_i2s)
  | (with_reducible apply k_d)
  | ((with_reducible show KT _ _); (first | (with_reducible apply k_t) | (with_reducible apply k_tT)))
  | (with_reducible apply k_l)
  | (with_reducible apply k_i1)
  | (with_reducible apply k_i2)
  | (with_reducible apply k_b)
  | (with_reducible apply k_n)
  | (with_reducible apply k_tx)
  | (with_reducible apply k_t1)
  | (with_reducible apply k_ts)
  | with_reducible apply k_ix_0
  | with_reducible apply k_ix_1
  | ((with_reducible apply k_ixT2); next => rfl)
  | with_reducible apply gx_name
  | with_reducible apply gx_tup2
  | with_reducible apply gx_tup3
  | with_reducible refine (fun (p : Addr) => (?_ : seqO _ _ _ _))
  | with_reducible refine (fun (p : Addr) => (?_ : lpO _ _ _ _))
  | with_reducible refine (fun (p : Addr) => (?_ : liO _ _))
  | ((with_reducible show KTr _ _); (first | (with_reducible apply k_trI) | (with_reducible apply k_trB)))
  | (with_reducible apply k_sg)
  | ((with_reducible show Sx _ _ _ _ _ _ _ _); (first | (with_reducible apply sx_seq) | (with_reducible apply sx_if) | (with_reducible refine sx_retN (el_lst ?_)) | (with_reducible refine sx_retN (el_call ?_)) | (with_reducible refine sx_retN (el_lc ?_)) | (with_reducible refine sx_retN (el_list ?_)) | (with_reducible refine sx_retN (el_cat ?_)) | (with_reducible apply sx_for)))
  | ((with_reducible show Ej _ _ _ _ _); (first | (with_reducible apply ej_nil) | (with_reducible apply ej_cons)))
  | ((with_reducible show liO _ _); (first | (with_reducible apply li_nx) | (with_reducible apply li_bk) | (with_reducible apply li_ct)))
  | ((with_reducible show sqX _ _ _ _ _ _ _ _); (first | (with_reducible apply q_nx) | (with_reducible apply q_rt) | (with_reducible apply q_rn) | (with_reducible apply q_bk) | (with_reducible apply q_ct)))
  | (with_reducible apply lx_nx)
  | ((with_reducible show Ems _ _ _ _); (first | (with_reducible apply ems_cons) | (with_reducible apply ems_nil)))
  | (with_reducible apply k_tj)
  | (with_reducible apply k_i3)
  | ((with_reducible show Ek _ _ _ _ _); (first | (((with_reducible apply ek_last); next => rfl)) | (with_reducible apply ek_cons))))
local macro_rules | `(tactic| walk_at "ds") => `(tactic| repeat walk_at "ds1")
local macro_rules | `(tactic| walk_at "d0") => `(tactic| (try simp only [cx_K, cx_K', List.map_cons, List.map_nil]))
local macro_rules | `(tactic| walk_at "da") => `(tactic| repeat first | walk_at "ds1" | (with_reducible apply sv_cut) | (with_reducible apply sx_cut))
local macro_rules | `(tactic| walk_at "lx") => `(tactic| (refine toL ?_; (try simp only [List.length_append, List.length_cons, List.length_nil]); omega))
local macro_rules | `(tactic| walk_at "dx") => `(tactic| repeat first | walk_at "ds1" | (with_reducible apply sv_cut) | (with_reducible apply sx_cut) | (with_reducible refine k_x2 (by walk_at "lx") ?_) | (with_reducible refine k_stI (by assumption) ?_) | (with_reducible refine k_stN ?_) | (with_reducible refine k_lx (by walk_at "lx") ?_) | (with_reducible refine k_ift (decT (by omega)) ?_) | (with_reducible refine k_iff (decF (by omega)) ?_))
section
variable {P : Program} {w : World} {K : PySem.W.Frag} {mg : Str → Option Value} {base : Heap}
def pre_lw (n : Nat) : List Vl → (Vl → Prop) → Prop := fun xs R => ∃ (t : Tr) (p : Nat), xs = [.da (toDa t), .da (.int (p : Nat))] ∧ p ≤ 3 ∧ Wt n t ∧ sz t ≤ 1000 ∧ R (.da (.str (tx (parW p t (wTr t)))))
theorem parW_3 {p : Nat} {t : Tr} {w : List Nat} (h : barT t = 3) (hp : p ≤ 3) : parW p t w = w := by unfold parW; rw [if_neg (by omega)]
theorem parW_y {p k : Nat} {t : Tr} {w : List Nat} (h : barT t = k) (g : k < p) : parW p t w = [40] ++ w ++ [41] := by unfold parW; rw [if_pos (by omega)]
theorem parW_n {p k : Nat} {t : Tr} {w : List Nat} (h : barT t = k) (g : ¬ k < p) : parW p t w = w := by unfold parW; rw [if_neg (by omega)]
set_option maxHeartbeats 4000000 in
theorem ok_Lwritten (T : Top K mg) : ∀ n : Nat, FnOk P w K mg base CX0 (4 + n) T.f_Lwritten T.fd_Lwritten ["_law_tree", "_law_place"] (sp_pu K (pre_lw n))
  | 0 => ⟨fun _ _ _ _ ⟨_, _, _, ⟨_, _, _, _, h, _⟩, _⟩ => h.zero.elim, fun _ _ _ _ _ _ _ _ _ _ _ _ _ ⟨_, _, _, ⟨_, _, _, _, h, _⟩, _⟩ => h.zero.elim⟩
  | n + 1 => by
    have ih_Lwritten := ok_Lwritten T n
    refine T.F_Lwritten.ok sc_Lwritten (fun vs H Q E h => ?_) (fun cdv A outer s H vs Q E hr h => ?_)
    · obtain ⟨xs, R, hx, ⟨t, p, rfl, _⟩, _⟩ := h
      exact hx.len
    · replace hr := hr.mono (show n + 4 ≤ Nat.add 4 n from Nat.le_of_eq (Nat.add_comm n 4))
      refine ⟨_, (pss_cons (ps_set (i := 2) sc_Lwritten.nd rfl (Or.inl rfl) (pe_ix (r := rIxT K) ix_tup (pv 0) pe_int (fun _ _ => rfl)))
       (pss_cons (ps_if (pt_cmpR op_eq (pv 2) pe_str (nomark _)) (pss_one (ps_ret (pe_call (ok_Lwritten_set T) (hr.mono (by omega)) (by rfl) T.g_Lwritten_set T.F_Lwritten_set.kp T.B_Lwritten_set .nil pass0 (pa_cons (pe_ix (r := rIxT K) ix_tup (pv 0) pe_int (fun _ _ => rfl)) pa_nil)))) pss_nil)
       (pss_cons (ps_if (pt_cmpR op_eq (pv 2) pe_str (nomark _)) (pss_one (ps_ret (pe_op op_add_str (pe_op op_add_str pe_str (pe_ix (r := rIxT K) ix_tup (pv 0) pe_int (fun _ _ => rfl))) pe_str))) pss_nil)
       (pss_cons (ps_if (pt_cmpR op_eq (pv 2) pe_str (nomark _)) (pss_one (ps_ret (pe_op op_add_str (pe_op op_add_str pe_str (pe_ix (r := rIxT K) ix_tup (pv 0) pe_int (fun _ _ => rfl))) pe_str))) pss_nil)
       (pss_cons (ps_if (pt_cmpR op_eq (pv 2) pe_str (nomark _)) (pss_one (ps_ret (pe_op op_add_str (pe_op op_add_str (pe_op op_add_str (pe_op op_add_str pe_str (pe_ix (r := rIxT K) ix_tup (pv 0) pe_int (fun _ _ => rfl))) pe_str) (pe_call ih_Lwritten (hr.mono (by omega)) (by rfl) T.g_Lwritten T.F_Lwritten.kp T.B_Lwritten .nil pass0 (pa_cons (pe_ix (r := rIxT K) ix_tup (pv 0) pe_int (fun _ _ => rfl)) (pa_cons pe_int pa_nil)))) pe_str))) pss_nil)
       (pss_cons (ps_if (pt_cmpR op_eq (pv 2) pe_str (nomark _)) (pss_cons (ps_set (i := 3) sc_Lwritten.nd rfl (Or.inl rfl) pe_str)
       (pss_cut (ps_if (pt_truth (pe_ix (r := rIxT K) ix_tup (pv 0) pe_int (fun _ _ => rfl)) (by intro _; rfl)) (pss_one (ps_set (i := 3) sc_Lwritten.nd rfl (Or.inl rfl) pe_str)) pss_nil)
       (pss_one (ps_ret (pe_op op_add_str (pe_op op_add_str (pe_op op_add_str (pe_op op_add_str (pv 3) (pe_ix (r := rIxT K) ix_tup (pv 0) pe_int (fun _ _ => rfl))) pe_str) (pe_call ih_Lwritten (hr.mono (by omega)) (by rfl) T.g_Lwritten T.F_Lwritten.kp T.B_Lwritten .nil pass0 (pa_cons (pe_ix (r := rIxT K) ix_tup (pv 0) pe_int (fun _ _ => rfl)) (pa_cons pe_int pa_nil)))) pe_str))))) pss_nil)
       (pss_cons (ps_set (i := 4) sc_Lwritten.nd rfl (Or.inl rfl) pe_str)
       (pss_cons (ps_set (i := 5) sc_Lwritten.nd rfl (Or.inl rfl) pe_int)
       (pss_cut (ps_if (pt_cmpR op_eq (pv 2) pe_str (nomark _)) (pss_cons (ps_set (i := 4) sc_Lwritten.nd rfl (Or.inl rfl) (pe_m1 (r := rJoin K) PySem.F.slot_str_join PySem.F.type_str_join mt_joinQ pe_str (pe_lc (own := [("_law_branch", 6)]) (g := gName 6) (by rfl) sc_Lwritten.nd (pi_tup (pe_ix (r := rIxT K) ix_tup (pv 0) pe_int (fun _ _ => rfl))) (blkOk_by (own := [("_law_branch", 6)]) (N := n_Lwritten) (sc := defScope s_Lwritten) (by decide +kernel)) (fun _ _ _ _ _ => pg_name (i := 6) sc_Lwritten.nd rfl (Or.inl rfl)) (fun _ _ _ _ _ => pts_nil) (fun _ _ _ _ _ => (pe_call ih_Lwritten (hr.mono (by omega)) (by rfl) T.g_Lwritten T.F_Lwritten.kp T.B_Lwritten .nil pass0 (pa_cons (pv 6) (pa_cons pe_int pa_nil)))))))
       (pss_one (ps_set (i := 5) sc_Lwritten.nd rfl (Or.inl rfl) pe_int))) pss_nil)
       (pss_cut (ps_if (pt_cmpR op_eq (pv 2) pe_str (nomark _)) (pss_one (ps_set (i := 4) sc_Lwritten.nd rfl (Or.inl rfl) (pe_m1 (r := rJoin K) PySem.F.slot_str_join PySem.F.type_str_join mt_joinQ pe_str (pe_lc (own := [("_law_part", 7)]) (g := gName 7) (by rfl) sc_Lwritten.nd (pi_tup (pe_ix (r := rIxT K) ix_tup (pv 0) pe_int (fun _ _ => rfl))) (blkOk_by (own := [("_law_part", 7)]) (N := n_Lwritten) (sc := defScope s_Lwritten) (by decide +kernel)) (fun _ _ _ _ _ => pg_name (i := 7) sc_Lwritten.nd rfl (Or.inl rfl)) (fun _ _ _ _ _ => pts_nil) (fun _ _ _ _ _ => (pe_call ih_Lwritten (hr.mono (by omega)) (by rfl) T.g_Lwritten T.F_Lwritten.kp T.B_Lwritten .nil pass0 (pa_cons (pv 7) (pa_cons pe_int pa_nil)))))))) pss_nil)
       (pss_cut (ps_if (pt_cmpR op_eq (pv 2) pe_str (nomark _)) (pss_cons (ps_set (i := 4) sc_Lwritten.nd rfl (Or.inl rfl) (pe_op op_add_str (pe_call ih_Lwritten (hr.mono (by omega)) (by rfl) T.g_Lwritten T.F_Lwritten.kp T.B_Lwritten .nil pass0 (pa_cons (pe_ix (r := rIxT K) ix_tup (pv 0) pe_int (fun _ _ => rfl)) (pa_cons pe_int pa_nil))) (pe_call (ok_Lmark T) (hr.mono (by omega)) (by rfl) T.g_Lmark T.F_Lmark.kp T.B_Lmark .nil pass0 (pa_cons (pe_ix (r := rIxT K) ix_tup (pv 0) pe_int (fun _ _ => rfl)) (pa_cons (pe_ix (r := rIxT K) ix_tup (pv 0) pe_int (fun _ _ => rfl)) (pa_cons (pe_ix (r := rIxT K) ix_tup (pv 0) pe_int (fun _ _ => rfl)) pa_nil))))))
       (pss_one (ps_set (i := 5) sc_Lwritten.nd rfl (Or.inl rfl) pe_int))) pss_nil)
       (pss_cons (ps_if (pt_cmpR op_gt (pv 1) (pv 5) (nomark _)) (pss_one (ps_ret (pe_op op_add_str (pe_op op_add_str pe_str (pv 4)) pe_str))) pss_nil)
       (pss_one (ps_ret (pv 4))))))))))))))), fin_pu (N := n_Lwritten) (fun xs R hp e he => ?_) h⟩
      obtain ⟨t, p, rfl, hp3, ht, hz, q⟩ := hp
      rcases he with _ | he
      rcases he with _ | he
      cases he
      have hl := wTr_len ht
      walk_at "d0"
      cases ht with
      | empty =>
        rw [wTr] at q
        rw [toDa]
        by_cases g : 1 < p
        · rw [parW_y rfl g] at q
          walk_at "dx"
          exact q
        · rw [parW_n rfl g] at q
          walk_at "dx"
          exact q
      | set h =>
        rw [parW_3 rfl hp3, wTr] at q
        rw [toDa]
        walk_at "dx"
        exact ⟨_, rfl, h, q⟩
      | edge h =>
        rw [parW_3 rfl hp3, wTr] at q
        rw [toDa]
        walk_at "dx"
        exact q
      | same h =>
        rw [parW_3 rfl hp3, wTr] at q
        rw [toDa]
        walk_at "dx"
        simpa using q
      | @seq _ ts h =>
        have hk := wKs_len (p := 2) fun t ht => wTr_len (h t ht)
        have hn := len_szs ts
        rw [sz] at hz hl
        rw [wTr] at q hl
        rw [toDa, toDas_map]
        walk_at "dx"
        refine k_lc ts toDa (fun _ => true) (fun t => .str (tx (parW 2 t (wTr t)))) trivial (toL (by omega)) (fun x hx => ?_) ?_
        · have := szs_mem hx
          walk_at "dx"
          refine ⟨rfl, fun _ => ?_⟩
          walk_at "dx"
          exact ⟨x, 2, rfl, by decide, h x hx, by omega, trivial, rfl⟩
        rw [wKs_da]
        refine k_tl (by omega) ?_
        by_cases g : 1 < p
        · rw [parW_y rfl g] at q
          walk_at "dx"
          exact q
        · rw [parW_n rfl g] at q
          walk_at "dx"
          exact q
      | @alt _ ts h =>
        have hk := wKs_len (p := 1) fun t ht => wTr_len (h t ht)
        have hn := len_szs ts
        have hm : (wKs 1 ts).length = ts.length := by rw [wKs_map, List.length_map]
        rw [sz] at hz hl
        rw [wTr] at q hl
        rw [toDa, toDas_map]
        walk_at "dx"
        refine k_lc ts toDa (fun _ => true) (fun t => .str (tx (parW 1 t (wTr t)))) trivial (toL (by omega)) (fun x hx => ?_) ?_
        · have := szs_mem hx
          walk_at "dx"
          refine ⟨rfl, fun _ => ?_⟩
          walk_at "dx"
          exact ⟨x, 1, rfl, by decide, h x hx, by omega, trivial, rfl⟩
        rw [wKs_da]
        refine k_tj (by rw [hm]; simp only [List.length_cons, List.length_nil]; omega) ?_
        by_cases g : 0 < p
        · rw [parW_y rfl g] at q
          walk_at "dx"
          exact q
        · rw [parW_n rfl g] at q
          walk_at "dx"
          exact q
      | @rep _ t lo hi lz h0 h1 h2 h =>
        have a := wTr_len h
        have b := numW_len h0 h1 h2
        have c := parW_len 3 t (wTr t)
        rw [sz] at hz hl
        rw [wTr, List.append_assoc] at q hl
        have d : (if lz = true then [126] else ([] : List Nat)).length ≤ 1 := by split <;> simp
        rw [toDa]
        walk_at "dx"
        refine ⟨t, 3, rfl, by decide, h, by omega, trivial, ?_⟩
        walk_at "dx"
        refine ⟨lo, hi, lz, rfl, h0, h1, h2, trivial, ?_⟩
        by_cases g : 2 < p
        · rw [parW_y rfl g] at q
          walk_at "dx"
          exact q
        · rw [parW_n rfl g] at q
          walk_at "dx"
          exact q
      | grp h1 h =>
        rw [parW_3 rfl hp3, wTr] at q
        have hl := wTr_len h
        rw [sz] at hz
        rw [toDa]
        walk_at "dx"
        refine ⟨_, 0, rfl, by decide, h, by omega, trivial, ?_⟩
        have e0 : ∀ (t : Tr) (w : List Nat), parW 0 t w = w := fun t w => by rw [parW, if_neg (by omega)]
        rw [e0]
        walk_at "dx"
        simpa using q
      | @look _ sd b t h1 h =>
        rw [parW_3 rfl hp3, wTr] at q
        have hl := wTr_len h
        rw [sz] at hz
        have e0 : ∀ (t : Tr) (w : List Nat), parW 0 t w = w := fun t w => by rw [parW, if_neg (by omega)]
        rw [toDa]
        cases b
        · walk_at "dx"
          refine ⟨_, 0, rfl, by decide, h, by omega, trivial, ?_⟩
          rw [e0]
          walk_at "dx"
          simpa using q
        · walk_at "dx"
          refine ⟨_, 0, rfl, by decide, h, by omega, trivial, ?_⟩
          rw [e0]
          walk_at "dx"
          simpa using q
end
end My
namespace My
open PySem L2
local macro_rules | `(tactic| walk_at "rd") => `(tactic| simp only [tSeq, tNext, tAsg, tOp, tUn, tC, tVar, gName, gSub, tCons, tNil, tCB, tIfS, tIf, tTest, tB, tAnd, tOr, tNot, tAndV, tOrV, tNotV, tRet, tRetN, tDrop, tLst, tTup, tCall, tSl, tNoPart, tPart, tM0, tM1, tBM, tBM0, tYes, tFor_eq, tLc_eq, iList, iRng1, iRng2, iStr, sg_tx, c_empty, rstrip_sign, find_sign, cut_last, cut_to, cut_from, cut_mid, cut_to_lit, cut_from_lit, and_assoc, flat_rep, List.length_replicate, tx_len, tx_eq, tx_app, tx_cps, rI0, rI, rU, rEq, rNe, rIxL, rIxS, rIxT, rSetL, rAppend, rPopAt, rSlS, rSlL, rIn, rMulS, rLtD, rJoin, rLenQ, rListOf,  tRevS, 
  scal, L2.start, List.map_cons, List.map_nil, List.length_cons, List.length_nil, List.replicate, List.cons_append, List.nil_append, List.append_nil,
  List.getElem?_cons_zero, List.getElem?_cons_succ, List.set_cons_zero, List.set_cons_succ, Nat.sub_zero, Nat.reduceSub, Nat.reduceAdd, Nat.zero_add, id_eq, Int.reduceToNat, exists_or,
  V.int.injEq, V.str.injEq, V.bl.injEq, V.ref.injEq, Option.some.injEq, List.cons.injEq, exists_and_left, exists_eq_left', exists_eq_left, exists_eq, exists_eq', and_true, true_and, reduceCtorEq, false_and, and_false, exists_false, false_or, or_false, decide_eq_true_eq, Bool.not_eq_true', decide_eq_false_iff_not, Bool.not_not, Bool.false_eq_true, ↓reduceIte, if_true, if_false])

local macro_rules | `(tactic| walk_at "ne") => `(tactic| first | assumption | (refine Ne.symm ?_; assumption) | exact (ne_of_none (by assumption) (by assumption)) | exact (ne_of_none (by assumption) (by assumption)).symm)
local macro_rules | `(tactic| walk_at "hp") => `(tactic| first | assumption | exact upd_same | exact (upd_ne (by walk_at "ne")).trans (by walk_at "hp"))
local macro_rules | `(tactic| walk_at "st1") => `(tactic| first
  | refine ⟨_, Or.inl (Or.inl (by walk_at "hp")), ?_⟩
  | refine ⟨_, Or.inl (Or.inl (Or.inl (by walk_at "hp"))), ?_⟩
  | refine ⟨_, (show _ = some (HO.lst _) by walk_at "hp"), ?_⟩
  | refine ⟨_, rfl, ?_⟩
  | refine ⟨(rfl : ("str" : String) = "str"), ?_⟩
  | refine ⟨Or.inr ⟨by decide, by decide⟩, ?_⟩
  | refine ⟨⟨by decide, by decide⟩, ?_⟩
  | refine ⟨by decide, ?_⟩
  | refine ⟨by assumption, ?_⟩)
local macro_rules | `(tactic| walk_at "st") => `(tactic| repeat walk_at "st1")
local macro_rules | `(tactic| walk_at "go") => `(tactic| repeat first | walk_at "st1" | walk_at "rd")
local macro_rules | `(tactic| walk_at "wk") => `(tactic| repeat first | exact Wk.nil | apply Wk.yes | apply Wk.no)
local macro_rules | `(tactic| walk_at "ds1") => `(tactic| first
  | ((with_reducible show Sv _ _ _ _); (first | (((with_reducible apply sv_putE); next => rfl)) | (with_reducible apply sv_seq) | (with_reducible apply sv_if) | (((with_reducible apply sv_retO); next => rfl)) | (with_reducible refine sv_retN (el_lst ?_)) | (with_reducible refine sv_retN (el_call ?_)) | (with_reducible refine sv_retN (el_lc ?_)) | (with_reducible refine sv_retN (el_list ?_)) | (with_reducible refine sv_retN (el_cat ?_)) | (with_reducible apply sv_ret) | (with_reducible refine sv_setN (el_lst ?_)) | (with_reducible refine sv_setN (el_call ?_)) | (with_reducible refine sv_setN (el_lc ?_)) | (with_reducible refine sv_setN (el_list ?_)) | (with_reducible refine sv_setN (el_cat ?_)) | (with_reducible refine sv_setN (el_callD rfl ?_)) | (((with_reducible apply sv_putD); next => rfl)) | (with_reducible apply sv_set) | (((with_reducible apply sv_app); next => rfl)) | (((with_reducible apply sv_ext); next => rfl)) | (((with_reducible apply sv_put); next => rfl)) | (with_reducible apply sv_for) | (with_reducible apply sv_nil) | (with_reducible apply sv_retNone) | (with_reducible apply sv_drop)))
  | ((with_reducible show Ev _ _ _ _); (first | (with_reducible apply ev_min3) | (with_reducible apply ev_q0) | (with_reducible apply ev_q1) | (with_reducible apply ev_q2) | (with_reducible apply ev_q3) | (with_reducible apply ev_q4) | (with_reducible apply ev_q5) | (with_reducible apply ev_q6) | (with_reducible apply ev_q7) | (with_reducible apply ev_q8) | (with_reducible apply ev_q9) | (with_reducible apply ev_q10) | (with_reducible apply ev_q11) | (with_reducible apply ev_q12) | (with_reducible apply ev_q13) | (with_reducible apply ev_q14) | (with_reducible apply ev_q15) | (with_reducible apply ev_q16) | (with_reducible apply ev_q17) | (with_reducible apply ev_q18) | (with_reducible apply ev_q19) | (with_reducible apply ev_q20) | (with_reducible apply ev_q21) | (with_reducible apply ev_q22) | (with_reducible apply ev_q23) | (with_reducible apply ev_q24) | (with_reducible apply ev_q25) | (with_reducible apply ev_q26) | (with_reducible apply ev_q27) | (with_reducible apply ev_q28) | (with_reducible apply ev_q29) | (with_reducible apply ev_q30) | (with_reducible apply ev_q31) | (with_reducible apply ev_q32) | (with_reducible apply ev_q33) | (with_reducible apply ev_q34) | (with_reducible apply ev_q35) | (with_reducible apply ev_q36) | (with_reducible apply ev_q37) | (with_reducible apply ev_q38) | (with_reducible apply ev_q39) | (with_reducible apply ev_q40) | (with_reducible apply ev_q41) | (with_reducible apply ev_q42) | (with_reducible apply ev_q43) | (with_reducible apply ev_q44) | (with_reducible apply ev_q45) | (with_reducible apply ev_catX) | (with_reducible apply ev_inS) | (with_reducible apply ev_ninS) | (with_reducible apply ev_joinE) | (with_reducible apply ev_joinB) | (with_reducible apply ev_wset) | (with_reducible apply ev_strIN) | (with_reducible apply ev_fmt) | (with_reducible apply ev_joined) | (with_reducible apply ev_slX) | (with_reducible apply ev_lenX) | (with_reducible apply ev_sgs) | (((with_reducible apply ev_ixD); next => rfl)) | (((with_reducible apply ev_ktup); next => assumption)) | (((with_reducible apply ev_var); next => rfl)) | (((with_reducible apply ev_varO); next => rfl)) | (((with_reducible apply ev_varL); next => rfl)) | (((with_reducible apply ev_callD); next => rfl)) | (((with_reducible apply ev_dr); next => rfl)) | (with_reducible apply ev_max2) | (with_reducible apply ev_min2) | (with_reducible apply ev_index) | (with_reducible apply ev_eqD) | (with_reducible apply ev_neD) | (with_reducible apply ev_str) | (with_reducible apply ev_int) | (with_reducible apply ev_bl) | (with_reducible apply ev_non) | (with_reducible apply ev_ixT) | (with_reducible apply ev_call) | (with_reducible apply ev_eq) | (with_reducible apply ev_tup) | (with_reducible apply ev_in) | (with_reducible apply ev_ixL) | (with_reducible apply ev_ne) | (with_reducible apply ev_i0) | (with_reducible apply ev_ib) | (with_reducible apply ev_isi) | (with_reducible apply ev_isN) | (with_reducible apply ev_notN) | (with_reducible apply ev_isB) | (with_reducible apply ev_notB) | (with_reducible apply ev_slT2) | (with_reducible apply ev_catU) | (with_reducible apply ev_iC) | (with_reducible apply ev_ixS) | (with_reducible apply ev_u) | (with_reducible apply ev_notV) | (with_reducible apply ev_if) | (with_reducible apply ev_len) | (with_reducible apply ev_tuple) | (with_reducible apply ev_all) | (with_reducible refine Ev.ofNew (el_lst ?_)) | (with_reducible refine Ev.ofNew (el_call ?_)) | (with_reducible refine Ev.ofNew (el_lc ?_)) | (with_reducible refine Ev.ofNew (el_list ?_)) | (with_reducible refine Ev.ofNew (el_cat ?_))))
  | ((with_reducible show Es _ _ _ _); (first | (with_reducible apply es_cons) | (with_reducible apply es_nil)))
  | ((with_reducible show Tv _ _ _ _); (first | (with_reducible apply tv_test) | (with_reducible apply tv_not) | (with_reducible apply tv_and) | (with_reducible apply tv_or) | (with_reducible apply tv_b) | (with_reducible apply tv_yes) | (with_reducible apply tv_tr)))
  | ((with_reducible show Eln _ _ _ _); (first | (with_reducible apply el_lst) | (with_reducible apply el_call) | (with_reducible apply el_lc) | (with_reducible apply el_list) | (with_reducible apply el_cat)))
  | ((with_reducible show Eo _ _ _ _); (first | (with_reducible apply eo_no) | (with_reducible apply eo_some)))
  | ((with_reducible show Iv _ _ _ _); (first | (with_reducible apply iv_tup) | (with_reducible apply iv_range1) | (with_reducible apply iv_str) | (with_reducible apply iv_enumT) | (((with_reducible apply iv_listV); next => rfl)) | (((with_reducible apply iv_listO); next => rfl)) | (with_reducible refine iv_listN (el_lst ?_)) | (with_reducible refine iv_listN (el_call ?_)) | (with_reducible refine iv_listN (el_lc ?_)) | (with_reducible refine iv_listN (el_list ?_)) | (with_reducible refine iv_listN (el_cat ?_))))
  | ((with_reducible show Gv _ _ _ _ _ _); (first | (with_reducible apply gv_name) | (with_reducible apply gv_tup2) | (with_reducible apply gv_tup3)))
  | ((with_reducible show seqO _ _ _ _); (first | (with_reducible apply o_nx) | (with_reducible apply o_rt) | (with_reducible apply o_rn) | (with_reducible apply o_bk) | (with_reducible apply o_ct)))
  | ((with_reducible show jnI _ _ _); (first | (with_reducible apply ji_nx) | (with_reducible apply ji_rt) | (with_reducible apply ji_rn) | (with_reducible apply ji_bk) | (with_reducible apply ji_ct)))
  | ((with_reducible show jnO _ _ _); (first | (with_reducible apply j_nx) | (with_reducible apply j_rt) | (with_reducible apply j_rn) | (with_reducible apply j_bk) | (with_reducible apply j_ct)))
  | ((with_reducible show lpO _ _ _ _); (first | (with_reducible apply l_rt) | (with_reducible apply l_rn) | (with_reducible apply l_ct) | (with_reducible apply l_nx')))
  | ((with_reducible show retO _ _); (first | (with_reducible apply r_rt) | (with_reducible apply r_nx)))
  | (with_reducible apply r_rn)
  | ((with_reducible show KIf _ _ _); (first | (((with_reducible apply k_ift); next => first | decide +kernel | rfl)) | (((with_reducible apply k_iff); next => first | decide +kernel | rfl))))
  | ((with_reducible show KEq _ _ _); (first | (with_reducible apply k_eqIN) | (with_reducible apply k_eqNI) | (with_reducible apply k_eqS) | (with_reducible apply k_eqI) | (with_reducible apply k_eqB) | (((with_reducible apply k_eqO); next => rfl; next => rfl; next => rfl; next => rfl))))
  | ((with_reducible show KDas _ _); (first | (with_reducible apply k_das_0) | (with_reducible apply k_das_1) | (with_reducible apply k_das_2) | (with_reducible apply k_das_3) | (with_reducible apply k_das_4) | (with_reducible apply k_das_5) | (with_reducible apply k_das_6) | (with_reducible apply k_das_7) | (with_reducible apply k_das_8) | (with_reducible apply k_das_9) | (with_reducible apply k_das_10) | (with_reducible apply k_das_11) | (with_reducible apply k_das_12) | (with_reducible apply k_das_13) | (with_reducible apply k_das_14) | (with_reducible apply k_das_15) | (with_reducible apply k_das_16)))
  | ((with_reducible show KIn _ _ _); (first | (with_reducible apply k_inT_0) | (with_reducible apply k_inL_0) | (with_reducible apply k_inT_1) | (with_reducible apply k_inL_1) | (with_reducible apply k_inT_2) | (with_reducible apply k_inL_2) | (with_reducible apply k_inT_3) | (with_reducible apply k_inL_3) | (with_reducible apply k_inT_4) | (with_reducible apply k_inL_4) | (with_reducible apply k_inT_5) | (with_reducible apply k_inL_5) | (with_reducible apply k_inT_6) | (with_reducible apply k_inL_6) | (with_reducible apply k_inT_7) | (with_reducible apply k_inL_7) | (with_reducible apply k_inT_8) | (with_reducible apply k_inL_8) | (with_reducible apply k_inT_9) | (with_reducible apply k_inL_9) | (with_reducible apply k_inT_10) | (with_reducible apply k_inL_10) | (with_reducible apply k_inT_11) | (with_reducible apply k_inL_11) | (with_reducible apply k_inT_12) | (with_reducible apply k_inL_12) | (with_reducible apply k_inN) | (((with_reducible apply k_inT); next => rfl; next => rfl)) | (((with_reducible apply k_inL); next => rfl; next => rfl))))
  | ((with_reducible show KEqD _ _ _); (first | (with_reducible apply k_eqIntsC) | (with_reducible apply k_eqInts0) | (with_reducible apply k_eqInts)))
  | (with_reducible apply k_put0)
  | ((with_reducible show KTy _ _ _); (first | (with_reducible apply k_ty_tup_tuple) | (with_reducible apply k_ty_tup_bool) | (with_reducible apply k_ty_tup_int) | (with_reducible apply k_ty_tup_str) | (with_reducible apply k_ty_tup_list) | (with_reducible apply k_ty_ls_tuple) | (with_reducible apply k_ty_ls_bool) | (with_reducible apply k_ty_ls_int) | (with_reducible apply k_ty_ls_str) | (with_reducible apply k_ty_ls_list) | (with_reducible apply k_ty_int_tuple) | (with_reducible apply k_ty_int_bool) | (with_reducible apply k_ty_int_int) | (with_reducible apply k_ty_int_str) | (with_reducible apply k_ty_int_list) | (with_reducible apply k_ty_str_tuple) | (with_reducible apply k_ty_str_bool) | (with_reducible apply k_ty_str_int) | (with_reducible apply k_ty_str_str) | (with_reducible apply k_ty_str_list) | (with_reducible apply k_ty_bl_tuple) | (with_reducible apply k_ty_bl_bool) | (with_reducible apply k_ty_bl_int) | (with_reducible apply k_ty_bl_str) | (with_reducible apply k_ty_bl_list) | (with_reducible apply k_ty_non_tuple) | (with_reducible apply k_ty_non_bool) | (with_reducible apply k_ty_non_int) | (with_reducible apply k_ty_non_str) | (with_reducible apply k_ty_non_list)))
  | ((with_reducible show KSl _ _ _ _); (first | (with_reducible apply k_sl_1) | (with_reducible apply k_sl_2) | (with_reducible apply k_sl_m2) | (with_reducible apply k_sl_m3) | (with_reducible apply k_sl_m4) | (with_reducible apply k_sl_m5)))
  | ((with_reducible show KCat _ _ _); (first | (with_reducible apply k_cat1) | (with_reducible apply k_cat2) | (with_reducible apply k_cat3) | (with_reducible apply k_cat23)))
  | ((with_reducible show KLen _ _); (first | (with_reducible apply k_lenT) | (with_reducible apply k_lenL)))
  | ((with_reducible show KSq _ _); (first | (with_reducible apply k_sqT) | (with_reducible apply k_sqL)))
  | (with_reducible apply k_i2s)
  | (with_reducible apply k_d)
  | ((with_reducible show KT _ _); (first | (with_reducible apply k_t) | (with_reducible apply k_tT)))
  | (with_reducible apply k_l)
  | (with_reducible apply k_i1)
  | (with_reducible apply k_i2)
  | (with_reducible apply k_b)
  | (with_reducible apply k_n)
  | (with_reducible apply k_tx)
  | (with_reducible apply k_t1)
  | (with_reducible apply k_ts)
  | with_reducible apply k_ix_0
  | with_reducible apply k_ix_1
  | ((with_reducible apply k_ixT2); next => rfl)
  | with_reducible apply gx_name
  | with_reducible apply gx_tup2
  | with_reducible apply gx_tup3
  | with_reducible refine (fun (p : Addr) => (?_ : seqO _ _ _ _))
  | with_reducible refine (fun (p : Addr) => (?_ : lpO _ _ _ _))
  | with_reducible refine (fun (p : Addr) => (?_ : liO _ _))
  | ((with_reducible show KTr _ _); (first | (with_reducible apply k_trI) | (with_reducible apply k_trB)))
  | (with_reducible apply k_sg)
  | ((with_reducible show Sx _ _ _ _ _ _ _ _); (first | (with_reducible apply sx_seq) | (with_reducible apply sx_if) | (with_reducible refine sx_retN (el_lst ?_)) | (with_reducible refine sx_retN (el_call ?_)) | (with_reducible refine sx_retN (el_lc ?_)) | (with_reducible refine sx_retN (el_list ?_)) | (with_reducible refine sx_retN (el_cat ?_)) | (with_reducible apply sx_for)))
  | ((with_reducible show Ej _ _ _ _ _); (first | (with_reducible apply ej_nil) | (with_reducible apply ej_cons)))
  | ((with_reducible show liO _ _); (first | (with_reducible apply li_nx) | (with_reducible apply li_bk) | (with_reducible apply li_ct)))
  | ((with_reducible show sqX _ _ _ _ _ _ _ _); (first | (with_reducible apply q_nx) | (with_reducible apply q_rt) | (with_reducible apply q_rn) | (with_reducible apply q_bk) | (with_reducible apply q_ct)))
  | (with_reducible apply lx_nx)
  | ((with_reducible show Ems _ _ _ _); (first | (with_reducible apply ems_cons) | (with_reducible apply ems_nil)))
  | (with_reducible apply k_tj)
  | (with_reducible apply k_i3)
  | ((with_reducible show Ek _ _ _ _ _); (first | (((with_reducible apply ek_last); next => rfl)) | (with_reducible apply ek_cons))))
local macro_rules | `(tactic| walk_at "ds") => `(tactic| repeat walk_at "ds1")
local macro_rules | `(tactic| walk_at "d0") => `(tactic| (try simp only [cx_K, cx_K', List.map_cons, List.map_nil]))
local macro_rules | `(tactic| walk_at "da") => `(tactic| repeat first | walk_at "ds1" | (with_reducible apply sv_cut) | (with_reducible apply sx_cut))
local macro_rules | `(tactic| walk_at "lx") => `(tactic| (refine toL ?_; (try simp only [List.length_append, List.length_cons, List.length_nil]); omega))
local macro_rules | `(tactic| walk_at "dx") => `(tactic| repeat first | walk_at "ds1" | (with_reducible apply sv_cut) | (with_reducible apply sx_cut) | (with_reducible refine k_x2 (by walk_at "lx") ?_) | (with_reducible refine k_stI (by assumption) ?_) | (with_reducible refine k_stN ?_) | (with_reducible refine k_lx (by walk_at "lx") ?_) | (with_reducible refine k_ift (decT (by omega)) ?_) | (with_reducible refine k_iff (decF (by omega)) ?_))
section
variable {P : Program} {w : World} {K : PySem.W.Frag} {mg : Str → Option Value} {base : Heap}
theorem sg_len : SG.length = 96 := by decide +kernel
def pre_nm0 : List Vl → (Vl → Prop) → Prop := fun xs R => xs = [] ∧ ∀ n, NmOk n → R (.da (tD n))
def pre_nm1 : List Vl → (Vl → Prop) → Prop := fun xs R => ∃ n, xs = [.da (tD n)] ∧ NmOk n ∧ ∀ m, NmOk m → R (.da (tD m))
def pre_nmL : List Vl → (Vl → Prop) → Prop := fun xs R => ∃ ns : List (List Nat), xs = [.ls (ns.map tD)] ∧ (∀ n ∈ ns, NmOk n) ∧ ns.length ≤ 1000 ∧ ∀ m, NmOk m → R (.da (tD m))
theorem ok_Lany_name (T : Top K mg) : FnOk P w K mg base CX0 2 T.f_Lany_name T.fd_Lany_name ["_law_draw_here"] (sp_dr K pre_nm0) := by
  refine T.F_Lany_name.ok sc_Lany_name (fun vs H Q E h => ?_) (fun cdv A outer s H vs Q E hr h => ⟨_, (pss_cons (ps_set (i := 1) sc_Lany_name.nd rfl (Or.inl rfl) pe_str)
       (pss_cons (ps_set (i := 2) sc_Lany_name.nd rfl (Or.inl rfl) (pe_lst (pa_cons pe_str (pa_cons pe_str (pa_cons pe_str (pa_cons pe_str (pa_cons pe_str (pa_cons pe_str (pa_cons pe_str (pa_cons pe_str (pa_cons pe_str (pa_cons pe_str (pa_cons pe_str (pa_cons pe_str (pa_cons pe_str pa_nil)))))))))))))))
       (pss_cons (ps_if (pt_cmpR op_eq (pe_call (ok_Lnext T) (hr.mono (by decide)) (by rfl) T.g_Lnext T.F_Lnext.kp T.B_Lnext .nil pass0 (pa_cons (pv 0) (pa_cons pe_int pa_nil))) pe_int (nomark _)) (pss_one (ps_ret (pe_ix (r := rIxL K) ix_list (pe_op op_cat (pv 2) (pe_lst (pa_cons pe_str (pa_cons pe_str (pa_cons pe_str (pa_cons pe_str (pa_cons pe_str (pa_cons pe_str (pa_cons pe_str (pa_cons pe_str (pa_cons pe_str (pa_cons pe_str pa_nil)))))))))))) (pe_call (ok_Lnext T) (hr.mono (by decide)) (by rfl) T.g_Lnext T.F_Lnext.kp T.B_Lnext .nil pass0 (pa_cons (pv 0) (pa_cons pe_int pa_nil))) (fun _ _ => rfl)))) pss_nil)
       (pss_cons (ps_set (i := 3) sc_Lany_name.nd rfl (Or.inl rfl) (pe_ix ix_str (pv 1) (pe_call (ok_Lnext T) (hr.mono (by decide)) (by rfl) T.g_Lnext T.F_Lnext.kp T.B_Lnext .nil pass0 (pa_cons (pv 0) (pa_cons pe_int pa_nil))) (fun _ _ => rfl)))
       (pss_cons (ps_for PassesOwn.never rfl (pi_range1 rfl T.b_range (pa_cons (pe_call (ok_Lnext T) (hr.mono (by decide)) (by rfl) T.g_Lnext T.F_Lnext.kp T.B_Lnext .nil pass0 (pa_cons (pv 0) (pa_cons pe_int pa_nil))) pa_nil)) (pg_name (i := 4) sc_Lany_name.nd rfl (Or.inl rfl))
       (pss_one (ps_set (i := 3) sc_Lany_name.nd rfl (Or.inl rfl) (pe_op op_add_str (pv 3) (pe_ix ix_str (pe_op op_add_str (pv 1) pe_str) (pe_call (ok_Lnext T) (hr.mono (by decide)) (by rfl) T.g_Lnext T.F_Lnext.kp T.B_Lnext .nil pass0 (pa_cons (pv 0) (pa_cons pe_int pa_nil))) (fun _ _ => rfl))))))
       (pss_one (ps_ret (pv 3)))))))), fin_dr (N := n_Lany_name) (fun xs R hp e he => ?_) h⟩)
  · obtain ⟨d, l, ws, xs, R, rfl, _, hx, ⟨rfl, _⟩, _⟩ := h
    rw [List.length_cons, hx.len]
    rfl
  · obtain ⟨rfl, q⟩ := hp
    cases he
    walk_at "d0"
    walk_at "dx"
    refine k_dr_next (by decide) (fun r r0 r1 => ?_)
    walk_at "dx"
    rename_i pw
    refine k_if (fun g => ?_) (fun g => ?_)
    · walk_at "dx"
      refine ⟨toL (by decide), ?_⟩
      walk_at "dx"
      refine k_dr_next (by decide) (fun r2 r20 r21 => ?_)
      walk_at "dx"
      refine k_ixR r20 r21 (fun d hd => ?_)
      obtain ⟨n, rfl, hn⟩ := nm_all (by decide +kernel) hd
      walk_at "dx"
      exact q _ hn
    · walk_at "dx"
      refine k_dr_next (by decide) (fun r2 r20 r21 => ?_)
      walk_at "dx"
      refine k_isR r20 r21 (toL (by decide)) (fun c _ => ?_)
      walk_at "dx"
      obtain ⟨W, hW⟩ : ∃ W : List Da, W = [Da.str (tx [115, 116, 97, 114, 116])] := ⟨_, rfl⟩
      refine k_dr_next (by decide) (fun r3 r30 r31 => ?_)
      walk_at "dx"
      refine k_r1 ⟨by omega, by omega⟩ ?_
      refine k_forI (fun i e => ∃ n : List Nat, e = [some .dr, some (.vl (.str (tx [97, 98, 99, 100, 101, 102, 103, 104, 105, 106, 107, 108, 109, 110, 111, 112, 113, 114, 115, 116, 117, 118, 119, 120, 121, 122]))), none, some (.vl (.str (tx n))), none] ∧ n.length = 1 + i) ⟨_, ?_, [c], rfl, rfl⟩ (fun _ _ _ => trivial) (fun i d e hd hI => ?_) (fun e hI => ?_)
      · walk_at "wk"
      · obtain ⟨n, rfl, hn⟩ := hI
        obtain ⟨hi, rfl⟩ := range_da hd
        walk_at "dx"
        refine k_dr_next (by decide) (fun r4 r40 r41 => ?_)
        walk_at "dx"
        refine k_isR r40 r41 (toL (by decide)) (fun c2 _ => ?_)
        walk_at "dx"
        refine ⟨_, ?_, n ++ [c2], rfl, by rw [List.length_append, List.length_singleton]; omega⟩
        walk_at "wk"
      · obtain ⟨n, rfl, hn⟩ := hI
        rw [range_len] at hn
        refine ⟨.of rfl, ?_⟩
        walk_at "dx"
        exact q _ ⟨by omega, by omega⟩
set_option maxHeartbeats 4000000 in
theorem ok_Lnear_name (T : Top K mg) : FnOk P w K mg base CX0 2 T.f_Lnear_name T.fd_Lnear_name ["_law_draw_here", "_law_name"] (sp_dr K pre_nm1) := by
  refine T.F_Lnear_name.ok sc_Lnear_name (fun vs H Q E h => ?_) (fun cdv A outer s H vs Q E hr h => ⟨_, (pss_cons (ps_set (i := 2) sc_Lnear_name.nd rfl (Or.inl rfl) pe_str)
       (pss_cons (ps_set (i := 3) sc_Lnear_name.nd rfl (Or.inl rfl) (pe_call (ok_Lnext T) (hr.mono (by decide)) (by rfl) T.g_Lnext T.F_Lnext.kp T.B_Lnext .nil pass0 (pa_cons (pv 0) (pa_cons pe_int pa_nil))))
       (pss_cons (ps_if (PW.pt (pw_and (pt_cmpR op_eq (pv 3) pe_int (nomark _)) (pw_and1 (pt_cmpR op_lt (pe_callB call_len_str (by rfl) T.b_len PySem.boot_len (pa_cons (pv 1) pa_nil)) pe_int (nomark _))))) (pss_one (ps_ret (pe_op op_add_str (pv 1) (pe_ix ix_str (pv 2) (pe_call (ok_Lnext T) (hr.mono (by decide)) (by rfl) T.g_Lnext T.F_Lnext.kp T.B_Lnext .nil pass0 (pa_cons (pv 0) (pa_cons pe_int pa_nil))) (fun _ _ => rfl))))) pss_nil)
       (pss_cons (ps_if (PW.pt (pw_and (pt_cmpR op_eq (pv 3) pe_int (nomark _)) (pw_and1 (pt_cmpR op_gt (pe_callB call_len_str (by rfl) T.b_len PySem.boot_len (pa_cons (pv 1) pa_nil)) pe_int (nomark _))))) (pss_one (ps_ret (pe_slice sl_str (pv 1) po_none (po_some (pe_un un_neg pe_int))))) pss_nil)
       (pss_cons (ps_set (i := 4) sc_Lnear_name.nd rfl (Or.inl rfl) (pe_call (ok_Lnext T) (hr.mono (by decide)) (by rfl) T.g_Lnext T.F_Lnext.kp T.B_Lnext .nil pass0 (pa_cons (pv 0) (pa_cons (pe_callB call_len_str (by rfl) T.b_len PySem.boot_len (pa_cons (pv 1) pa_nil)) pa_nil))))
       (pss_cons (ps_if (pt_cmpR op_eq (pv 4) pe_int (nomark _)) (pss_one (ps_ret (pe_op op_add_str (pe_ix ix_str (pv 2) (pe_call (ok_Lnext T) (hr.mono (by decide)) (by rfl) T.g_Lnext T.F_Lnext.kp T.B_Lnext .nil pass0 (pa_cons (pv 0) (pa_cons pe_int pa_nil))) (fun _ _ => rfl)) (pe_slice sl_str (pv 1) (po_some pe_int) po_none)))) pss_nil)
       (pss_one (ps_ret (pe_op op_add_str (pe_op op_add_str (pe_slice sl_str (pv 1) po_none (po_some (pv 4))) (pe_ix ix_str (pv 2) (pe_call (ok_Lnext T) (hr.mono (by decide)) (by rfl) T.g_Lnext T.F_Lnext.kp T.B_Lnext .nil pass0 (pa_cons (pv 0) (pa_cons pe_int pa_nil))) (fun _ _ => rfl))) (pe_slice sl_str (pv 1) (po_some (pe_op op_add (pv 4) pe_int)) po_none)))))))))), fin_dr (N := n_Lnear_name) (fun xs R hp e he => ?_) h⟩)
  · obtain ⟨d, l, ws, xs, R, rfl, _, hx, ⟨_, rfl, _⟩, _⟩ := h
    rw [List.length_cons, hx.len]
    rfl
  · obtain ⟨n, rfl, ⟨n1, n2⟩, q⟩ := hp
    rcases he with _ | he
    cases he
    walk_at "d0"
    walk_at "dx"
    refine k_dr_next (by decide) (fun r r0 r1 => ?_)
    walk_at "dx"
    rcases (by omega : (r = 0 ∧ n.length < 12) ∨ (r = 1 ∧ 1 < n.length) ∨ (r = 0 ∧ 12 ≤ n.length) ∨ (r = 1 ∧ n.length ≤ 1) ∨ (r = 2)) with ⟨g1, g2⟩ | ⟨g1, g2⟩ | ⟨g1, g2⟩ | ⟨g1, g2⟩ | g1
    · walk_at "dx"
      refine k_dr_next (by decide) (fun r2 r20 r21 => ?_)
      walk_at "dx"
      refine k_isR r20 r21 (toL (by decide)) (fun c _ => ?_)
      walk_at "dx"
      exact q _ ⟨by rw [List.length_append, List.length_singleton]; omega, by rw [List.length_append, List.length_singleton]; omega⟩
    · walk_at "dx"
      refine k_slLast (by walk_at "lx") ?_
      walk_at "dx"
      exact q _ ⟨by rw [List.length_dropLast]; omega, by rw [List.length_dropLast]; omega⟩
    all_goals
      walk_at "dx"
      refine k_dr_next (by omega) (fun r2 r20 r21 => ?_)
      walk_at "dx"
      obtain ⟨j, rfl⟩ := Int.eq_ofNat_of_zero_le r20
      by_cases g3 : j = 0
      · subst g3
        walk_at "dx"
        refine k_dr_next (by decide) (fun r4 r40 r41 => ?_)
        walk_at "dx"
        refine k_isR r40 (Int.lt_of_lt_of_le r41 (by decide)) (toL (by decide)) (fun c _ => ?_)
        walk_at "dx"
        refine k_slFrom (k := 1) (by walk_at "lx") rfl ?_
        have l1 : (n.drop 1).length = n.length - 1 := List.length_drop
        walk_at "dx"
        exact q _ ⟨by rw [List.length_append, List.length_singleton]; omega, by rw [List.length_append, List.length_singleton]; omega⟩
      · first
        | (exfalso; omega)
        | (walk_at "dx"
           refine k_slTo (k := j) (by walk_at "lx") rfl ?_
           walk_at "dx"
           refine k_dr_next (by decide) (fun r4 r40 r41 => ?_)
           walk_at "dx"
           refine k_isR r40 r41 (toL (by decide)) (fun c _ => ?_)
           have l1 : (n.take j).length = min j n.length := List.length_take
           have l2 : (n.drop (j + 1)).length = n.length - (j + 1) := List.length_drop
           walk_at "dx"
           refine k_slFrom (k := j + 1) (by walk_at "lx") rfl ?_
           walk_at "dx"
           exact q _ ⟨by simp only [List.length_append, List.length_cons, List.length_nil]; omega, by simp only [List.length_append, List.length_cons, List.length_nil]; omega⟩)
theorem ok_Lgroup_name (T : Top K mg) : FnOk P w K mg base CX0 3 T.f_Lgroup_name T.fd_Lgroup_name ["_law_draw_here", "_law_known"] (sp_dr K pre_nmL) := by
  refine T.F_Lgroup_name.ok sc_Lgroup_name (fun vs H Q E h => ?_) (fun cdv A outer s H vs Q E hr h => ⟨_, (pss_cons (ps_set (i := 2) sc_Lgroup_name.nd rfl (Or.inl rfl) (pe_call (ok_Lnext T) (hr.mono (by decide)) (by rfl) T.g_Lnext T.F_Lnext.kp T.B_Lnext .nil pass0 (pa_cons (pv 0) (pa_cons pe_int pa_nil))))
       (pss_cons (ps_if (PW.pt (pw_and (pt_cmpR op_gt (pe_callB (r := rLenQ K) call_lenQ (by rfl) T.b_len PySem.boot_len (pa_cons (pv 1) pa_nil)) pe_int (nomark _)) (pw_and1 (pt_cmpR op_lt (pv 2) pe_int (nomark _))))) (pss_cons (ps_set (i := 3) sc_Lgroup_name.nd rfl (Or.inl rfl) (pe_ix (r := rIxL K) ix_list (pv 1) (pe_call (ok_Lnext T) (hr.mono (by decide)) (by rfl) T.g_Lnext T.F_Lnext.kp T.B_Lnext .nil pass0 (pa_cons (pv 0) (pa_cons (pe_callB (r := rLenQ K) call_lenQ (by rfl) T.b_len PySem.boot_len (pa_cons (pv 1) pa_nil)) pa_nil))) (fun _ _ => rfl)))
       (pss_cons (ps_if (pt_cmpR op_eq (pv 2) pe_int (nomark _)) (pss_one (ps_ret (pv 3))) pss_nil)
       (pss_one (ps_ret (pe_call (ok_Lnear_name T) (hr.mono (by decide)) (by rfl) T.g_Lnear_name T.F_Lnear_name.kp T.B_Lnear_name .nil pass0 (pa_cons (pv 0) (pa_cons (pv 3) pa_nil))))))) pss_nil)
       (pss_one (ps_ret (pe_call (ok_Lany_name T) (hr.mono (by decide)) (by rfl) T.g_Lany_name T.F_Lany_name.kp T.B_Lany_name .nil pass0 (pa_cons (pv 0) pa_nil)))))), fin_dr (N := n_Lgroup_name) (fun xs R hp e he => ?_) h⟩)
  · obtain ⟨d, l, ws, xs, R, rfl, _, hx, ⟨_, rfl, _⟩, _⟩ := h
    rw [List.length_cons, hx.len]
    rfl
  · obtain ⟨ns, rfl, hn, hl, q⟩ := hp
    rcases he with _ | _ | he
    cases he
    walk_at "d0"
    walk_at "dx"
    refine k_dr_next (by decide) (fun r r0 r1 => ?_)
    walk_at "dx"
    rw [List.length_map]
    rcases (by omega : (ns.length = 0) ∨ (0 < ns.length ∧ 2 ≤ r) ∨ (0 < ns.length ∧ r = 0) ∨ (0 < ns.length ∧ r = 1)) with g1 | ⟨g1, g2⟩ | ⟨g1, g2⟩ | ⟨g1, g2⟩
    · walk_at "dx"
      exact ⟨rfl, fun n hn => ⟨trivial, q n hn⟩⟩
    · walk_at "dx"
      exact ⟨rfl, fun n hn => ⟨trivial, q n hn⟩⟩
    · walk_at "dx"
      rw [List.length_map]
      refine k_dr_next (by omega) (fun r2 r20 r21 => ?_)
      walk_at "dx"
      refine k_ixR r20 (by rw [List.length_map]; exact r21) (fun d hd => ?_)
      obtain ⟨n, hn2, rfl⟩ := List.mem_map.mp hd
      walk_at "dx"
      exact q n (hn n hn2)
    · walk_at "dx"
      rw [List.length_map]
      refine k_dr_next (by omega) (fun r2 r20 r21 => ?_)
      walk_at "dx"
      refine k_ixR r20 (by rw [List.length_map]; exact r21) (fun d hd => ?_)
      obtain ⟨n, hn2, rfl⟩ := List.mem_map.mp hd
      walk_at "dx"
      exact ⟨n, rfl, hn n hn2, fun m hm => ⟨trivial, q m hm⟩⟩
end
end My
namespace My
open PySem L2
local macro_rules | `(tactic| walk_at "rd") => `(tactic| simp only [tSeq, tNext, tAsg, tOp, tUn, tC, tVar, gName, gSub, tCons, tNil, tCB, tIfS, tIf, tTest, tB, tAnd, tOr, tNot, tAndV, tOrV, tNotV, tRet, tRetN, tDrop, tLst, tTup, tCall, tSl, tNoPart, tPart, tM0, tM1, tBM, tBM0, tYes, tFor_eq, tLc_eq, iList, iRng1, iRng2, iStr, sg_tx, c_empty, rstrip_sign, find_sign, cut_last, cut_to, cut_from, cut_mid, cut_to_lit, cut_from_lit, and_assoc, flat_rep, List.length_replicate, tx_len, tx_eq, tx_app, tx_cps, rI0, rI, rU, rEq, rNe, rIxL, rIxS, rIxT, rSetL, rAppend, rPopAt, rSlS, rSlL, rIn, rMulS, rLtD, rJoin, rLenQ, rListOf,  tRevS, 
  scal, L2.start, List.map_cons, List.map_nil, List.length_cons, List.length_nil, List.replicate, List.cons_append, List.nil_append, List.append_nil,
  List.getElem?_cons_zero, List.getElem?_cons_succ, List.set_cons_zero, List.set_cons_succ, Nat.sub_zero, Nat.reduceSub, Nat.reduceAdd, Nat.zero_add, id_eq, Int.reduceToNat, exists_or,
  V.int.injEq, V.str.injEq, V.bl.injEq, V.ref.injEq, Option.some.injEq, List.cons.injEq, exists_and_left, exists_eq_left', exists_eq_left, exists_eq, exists_eq', and_true, true_and, reduceCtorEq, false_and, and_false, exists_false, false_or, or_false, decide_eq_true_eq, Bool.not_eq_true', decide_eq_false_iff_not, Bool.not_not, Bool.false_eq_true, ↓reduceIte, if_true, if_false])

local macro_rules | `(tactic| walk_at "ne") => `(tactic| first | assumption | (refine Ne.symm ?_; assumption) | exact (ne_of_none (by assumption) (by assumption)) | exact (ne_of_none (by assumption) (by assumption)).symm)
local macro_rules | `(tactic| walk_at "hp") => `(tactic| first | assumption | exact upd_same | exact (upd_ne (by walk_at "ne")).trans (by walk_at "hp"))
local macro_rules | `(tactic| walk_at "st1") => `(tactic| first
  | refine ⟨_, Or.inl (Or.inl (by walk_at "hp")), ?_⟩
  | refine ⟨_, Or.inl (Or.inl (Or.inl (by walk_at "hp"))), ?_⟩
  | refine ⟨_, (show _ = some (HO.lst _) by walk_at "hp"), ?_⟩
  | refine ⟨_, rfl, ?_⟩
  | refine ⟨(rfl : ("str" : String) = "str"), ?_⟩
  | refine ⟨Or.inr ⟨by decide, by decide⟩, ?_⟩
  | refine ⟨⟨by decide, by decide⟩, ?_⟩
  | refine ⟨by decide, ?_⟩
  | refine ⟨by assumption, ?_⟩)
local macro_rules | `(tactic| walk_at "st") => `(tactic| repeat walk_at "st1")
local macro_rules | `(tactic| walk_at "go") => `(tactic| repeat first | walk_at "st1" | walk_at "rd")
local macro_rules | `(tactic| walk_at "wk") => `(tactic| repeat first | exact Wk.nil | apply Wk.yes | apply Wk.no)
local macro_rules | `(tactic| walk_at "ds1") => `(tactic| first
  | ((with_reducible show Sv _ _ _ _); (first | (((with_reducible apply sv_putE); next => rfl)) | (with_reducible apply sv_seq) | (with_reducible apply sv_if) | (((with_reducible apply sv_retO); next => rfl)) | (with_reducible refine sv_retN (el_lst ?_)) | (with_reducible refine sv_retN (el_call ?_)) | (with_reducible refine sv_retN (el_lc ?_)) | (with_reducible refine sv_retN (el_list ?_)) | (with_reducible refine sv_retN (el_cat ?_)) | (with_reducible apply sv_ret) | (with_reducible refine sv_setN (el_lst ?_)) | (with_reducible refine sv_setN (el_call ?_)) | (with_reducible refine sv_setN (el_lc ?_)) | (with_reducible refine sv_setN (el_list ?_)) | (with_reducible refine sv_setN (el_cat ?_)) | (with_reducible refine sv_setN (el_callD rfl ?_)) | (((with_reducible apply sv_putD); next => rfl)) | (with_reducible apply sv_set) | (((with_reducible apply sv_app); next => rfl)) | (((with_reducible apply sv_ext); next => rfl)) | (((with_reducible apply sv_put); next => rfl)) | (with_reducible apply sv_for) | (with_reducible apply sv_nil) | (with_reducible apply sv_retNone) | (with_reducible apply sv_drop)))
  | ((with_reducible show Ev _ _ _ _); (first | (with_reducible apply ev_min3) | (with_reducible apply ev_q0) | (with_reducible apply ev_q1) | (with_reducible apply ev_q2) | (with_reducible apply ev_q3) | (with_reducible apply ev_q4) | (with_reducible apply ev_q5) | (with_reducible apply ev_q6) | (with_reducible apply ev_q7) | (with_reducible apply ev_q8) | (with_reducible apply ev_q9) | (with_reducible apply ev_q10) | (with_reducible apply ev_q11) | (with_reducible apply ev_q12) | (with_reducible apply ev_q13) | (with_reducible apply ev_q14) | (with_reducible apply ev_q15) | (with_reducible apply ev_q16) | (with_reducible apply ev_q17) | (with_reducible apply ev_q18) | (with_reducible apply ev_q19) | (with_reducible apply ev_q20) | (with_reducible apply ev_q21) | (with_reducible apply ev_q22) | (with_reducible apply ev_q23) | (with_reducible apply ev_q24) | (with_reducible apply ev_q25) | (with_reducible apply ev_q26) | (with_reducible apply ev_q27) | (with_reducible apply ev_q28) | (with_reducible apply ev_q29) | (with_reducible apply ev_q30) | (with_reducible apply ev_q31) | (with_reducible apply ev_q32) | (with_reducible apply ev_q33) | (with_reducible apply ev_q34) | (with_reducible apply ev_q35) | (with_reducible apply ev_q36) | (with_reducible apply ev_q37) | (with_reducible apply ev_q38) | (with_reducible apply ev_q39) | (with_reducible apply ev_q40) | (with_reducible apply ev_q41) | (with_reducible apply ev_q42) | (with_reducible apply ev_q43) | (with_reducible apply ev_q44) | (with_reducible apply ev_q45) | (with_reducible apply ev_catX) | (with_reducible apply ev_inS) | (with_reducible apply ev_ninS) | (with_reducible apply ev_joinE) | (with_reducible apply ev_joinB) | (with_reducible apply ev_wset) | (with_reducible apply ev_strIN) | (with_reducible apply ev_fmt) | (with_reducible apply ev_joined) | (with_reducible apply ev_slX) | (with_reducible apply ev_lenX) | (with_reducible apply ev_sgs) | (((with_reducible apply ev_ixD); next => rfl)) | (((with_reducible apply ev_ktup); next => assumption)) | (((with_reducible apply ev_var); next => rfl)) | (((with_reducible apply ev_varO); next => rfl)) | (((with_reducible apply ev_varL); next => rfl)) | (((with_reducible apply ev_callD); next => rfl)) | (((with_reducible apply ev_dr); next => rfl)) | (with_reducible apply ev_max2) | (with_reducible apply ev_min2) | (with_reducible apply ev_index) | (with_reducible apply ev_eqD) | (with_reducible apply ev_neD) | (with_reducible apply ev_str) | (with_reducible apply ev_int) | (with_reducible apply ev_bl) | (with_reducible apply ev_non) | (with_reducible apply ev_ixT) | (with_reducible apply ev_call) | (with_reducible apply ev_eq) | (with_reducible apply ev_tup) | (with_reducible apply ev_in) | (with_reducible apply ev_ixL) | (with_reducible apply ev_ne) | (with_reducible apply ev_i0) | (with_reducible apply ev_ib) | (with_reducible apply ev_isi) | (with_reducible apply ev_isN) | (with_reducible apply ev_notN) | (with_reducible apply ev_isB) | (with_reducible apply ev_notB) | (with_reducible apply ev_slT2) | (with_reducible apply ev_catU) | (with_reducible apply ev_iC) | (with_reducible apply ev_ixS) | (with_reducible apply ev_u) | (with_reducible apply ev_notV) | (with_reducible apply ev_if) | (with_reducible apply ev_len) | (with_reducible apply ev_tuple) | (with_reducible apply ev_all) | (with_reducible refine Ev.ofNew (el_lst ?_)) | (with_reducible refine Ev.ofNew (el_call ?_)) | (with_reducible refine Ev.ofNew (el_lc ?_)) | (with_reducible refine Ev.ofNew (el_list ?_)) | (with_reducible refine Ev.ofNew (el_cat ?_))))
  | ((with_reducible show Es _ _ _ _); (first | (with_reducible apply es_cons) | (with_reducible apply es_nil)))
  | ((with_reducible show Tv _ _ _ _); (first | (with_reducible apply tv_test) | (with_reducible apply tv_not) | (with_reducible apply tv_and) | (with_reducible apply tv_or) | (with_reducible apply tv_b) | (with_reducible apply tv_yes) | (with_reducible apply tv_tr)))
  | ((with_reducible show Eln _ _ _ _); (first | (with_reducible apply el_lst) | (with_reducible apply el_call) | (with_reducible apply el_lc) | (with_reducible apply el_list) | (with_reducible apply el_cat)))
  | ((with_reducible show Eo _ _ _ _); (first | (with_reducible apply eo_no) | (with_reducible apply eo_some)))
  | ((with_reducible show Iv _ _ _ _); (first | (with_reducible apply iv_tup) | (with_reducible apply iv_range1) | (with_reducible apply iv_str) | (with_reducible apply iv_enumT) | (((with_reducible apply iv_listV); next => rfl)) | (((with_reducible apply iv_listO); next => rfl)) | (with_reducible refine iv_listN (el_lst ?_)) | (with_reducible refine iv_listN (el_call ?_)) | (with_reducible refine iv_listN (el_lc ?_)) | (with_reducible refine iv_listN (el_list ?_)) | (with_reducible refine iv_listN (el_cat ?_))))
  | ((with_reducible show Gv _ _ _ _ _ _); (first | (with_reducible apply gv_name) | (with_reducible apply gv_tup2) | (with_reducible apply gv_tup3)))
  | ((with_reducible show seqO _ _ _ _); (first | (with_reducible apply o_nx) | (with_reducible apply o_rt) | (with_reducible apply o_rn) | (with_reducible apply o_bk) | (with_reducible apply o_ct)))
  | ((with_reducible show jnI _ _ _); (first | (with_reducible apply ji_nx) | (with_reducible apply ji_rt) | (with_reducible apply ji_rn) | (with_reducible apply ji_bk) | (with_reducible apply ji_ct)))
  | ((with_reducible show jnO _ _ _); (first | (with_reducible apply j_nx) | (with_reducible apply j_rt) | (with_reducible apply j_rn) | (with_reducible apply j_bk) | (with_reducible apply j_ct)))
  | ((with_reducible show lpO _ _ _ _); (first | (with_reducible apply l_rt) | (with_reducible apply l_rn) | (with_reducible apply l_ct) | (with_reducible apply l_nx')))
  | ((with_reducible show retO _ _); (first | (with_reducible apply r_rt) | (with_reducible apply r_nx)))
  | (with_reducible apply r_rn)
  | ((with_reducible show KIf _ _ _); (first | (((with_reducible apply k_ift); next => first | decide +kernel | rfl)) | (((with_reducible apply k_iff); next => first | decide +kernel | rfl))))
  | ((with_reducible show KEq _ _ _); (first | (with_reducible apply k_eqIN) | (with_reducible apply k_eqNI) | (with_reducible apply k_eqS) | (with_reducible apply k_eqI) | (with_reducible apply k_eqB) | (((with_reducible apply k_eqO); next => rfl; next => rfl; next => rfl; next => rfl))))
  | ((with_reducible show KDas _ _); (first | (with_reducible apply k_das_0) | (with_reducible apply k_das_1) | (with_reducible apply k_das_2) | (with_reducible apply k_das_3) | (with_reducible apply k_das_4) | (with_reducible apply k_das_5) | (with_reducible apply k_das_6) | (with_reducible apply k_das_7) | (with_reducible apply k_das_8) | (with_reducible apply k_das_9) | (with_reducible apply k_das_10) | (with_reducible apply k_das_11) | (with_reducible apply k_das_12) | (with_reducible apply k_das_13) | (with_reducible apply k_das_14) | (with_reducible apply k_das_15) | (with_reducible apply k_das_16)))
  | ((with_reducible show KIn _ _ _); (first | (with_reducible apply k_inT_0) | (with_reducible apply k_inL_0) | (with_reducible apply k_inT_1) | (with_reducible apply k_inL_1) | (with_reducible apply k_inT_2) | (with_reducible apply k_inL_2) | (with_reducible apply k_inT_3) | (with_reducible apply k_inL_3) | (with_reducible apply k_inT_4) | (with_reducible apply k_inL_4) | (with_reducible apply k_inT_5) | (with_reducible apply k_inL_5) | (with_reducible apply k_inT_6) | (with_reducible apply k_inL_6) | (with_reducible apply k_inT_7) | (with_reducible apply k_inL_7) | (with_reducible apply k_inT_8) | (with_reducible apply k_inL_8) | (with_reducible apply k_inT_9) | (with_reducible apply k_inL_9) | (with_reducible apply k_inT_10) | (with_reducible apply k_inL_10) | (with_reducible apply k_inT_11) | (with_reducible apply k_inL_11) | (with_reducible apply k_inT_12) | (with_reducible apply k_inL_12) | (with_reducible apply k_inN) | (((with_reducible apply k_inT); next => rfl; next => rfl)) | (((with_reducible apply k_inL); next => rfl; next => rfl))))
  | ((with_reducible show KEqD _ _ _); (first | (with_reducible apply k_eqIntsC) | (with_reducible apply k_eqInts0) | (with_reducible apply k_eqInts)))
  | (with_reducible apply k_put0)
  | ((with_reducible show KTy _ _ _); (first | (with_reducible apply k_ty_tup_tuple) | (with_reducible apply k_ty_tup_bool) | (with_reducible apply k_ty_tup_int) | (with_reducible apply k_ty_tup_str) | (with_reducible apply k_ty_tup_list) | (with_reducible apply k_ty_ls_tuple) | (with_reducible apply k_ty_ls_bool) | (with_reducible apply k_ty_ls_int) | (with_reducible apply k_ty_ls_str) | (with_reducible apply k_ty_ls_list) | (with_reducible apply k_ty_int_tuple) | (with_reducible apply k_ty_int_bool) | (with_reducible apply k_ty_int_int) | (with_reducible apply k_ty_int_str) | (with_reducible apply k_ty_int_list) | (with_reducible apply k_ty_str_tuple) | (with_reducible apply k_ty_str_bool) | (with_reducible apply k_ty_str_int) | (with_reducible apply k_ty_str_str) | (with_reducible apply k_ty_str_list) | (with_reducible apply k_ty_bl_tuple) | (with_reducible apply k_ty_bl_bool) | (with_reducible apply k_ty_bl_int) | (with_reducible apply k_ty_bl_str) | (with_reducible apply k_ty_bl_list) | (with_reducible apply k_ty_non_tuple) | (with_reducible apply k_ty_non_bool) | (with_reducible apply k_ty_non_int) | (with_reducible apply k_ty_non_str) | (with_reducible apply k_ty_non_list)))
  | ((with_reducible show KSl _ _ _ _); (first | (with_reducible apply k_sl_1) | (with_reducible apply k_sl_2) | (with_reducible apply k_sl_m2) | (with_reducible apply k_sl_m3) | (with_reducible apply k_sl_m4) | (with_reducible apply k_sl_m5)))
  | ((with_reducible show KCat _ _ _); (first | (with_reducible apply k_cat1) | (with_reducible apply k_cat2) | (with_reducible apply k_cat3) | (with_reducible apply k_cat23)))
  | ((with_reducible show KLen _ _); (first | (with_reducible apply k_lenT) | (with_reducible apply k_lenL)))
  | ((with_reducible show KSq _ _); (first | (with_reducible apply k_sqT) | (with_reducible apply k_sqL)))
  | (with_reducible apply k_i2s)
  | (with_reducible apply k_d)
  | ((with_reducible show KT _ _); (first | (with_reducible apply k_t) | (with_reducible apply k_tT)))
  | (with_reducible apply k_l)
  | (with_reducible apply k_i1)
  | (with_reducible apply k_i2)
  | (with_reducible apply k_b)
  | (with_reducible apply k_n)
  | (with_reducible apply k_tx)
  | (with_reducible apply k_t1)
  | (with_reducible apply k_ts)
  | with_reducible apply k_ix_0
  | with_reducible apply k_ix_1
  | ((with_reducible apply k_ixT2); next => rfl)
  | with_reducible apply gx_name
  | with_reducible apply gx_tup2
  | with_reducible apply gx_tup3
  | with_reducible refine (fun (p : Addr) => (?_ : seqO _ _ _ _))
  | with_reducible refine (fun (p : Addr) => (?_ : lpO _ _ _ _))
  | with_reducible refine (fun (p : Addr) => (?_ : liO _ _))
  | ((with_reducible show KTr _ _); (first | (with_reducible apply k_trI) | (with_reducible apply k_trB)))
  | (with_reducible apply k_sg)
  | ((with_reducible show Sx _ _ _ _ _ _ _ _); (first | (with_reducible apply sx_seq) | (with_reducible apply sx_if) | (with_reducible refine sx_retN (el_lst ?_)) | (with_reducible refine sx_retN (el_call ?_)) | (with_reducible refine sx_retN (el_lc ?_)) | (with_reducible refine sx_retN (el_list ?_)) | (with_reducible refine sx_retN (el_cat ?_)) | (with_reducible apply sx_for)))
  | ((with_reducible show Ej _ _ _ _ _); (first | (with_reducible apply ej_nil) | (with_reducible apply ej_cons)))
  | ((with_reducible show liO _ _); (first | (with_reducible apply li_nx) | (with_reducible apply li_bk) | (with_reducible apply li_ct)))
  | ((with_reducible show sqX _ _ _ _ _ _ _ _); (first | (with_reducible apply q_nx) | (with_reducible apply q_rt) | (with_reducible apply q_rn) | (with_reducible apply q_bk) | (with_reducible apply q_ct)))
  | (with_reducible apply lx_nx)
  | ((with_reducible show Ems _ _ _ _); (first | (with_reducible apply ems_cons) | (with_reducible apply ems_nil)))
  | (with_reducible apply k_tj)
  | (with_reducible apply k_i3)
  | ((with_reducible show Ek _ _ _ _ _); (first | (((with_reducible apply ek_last); next => rfl)) | (with_reducible apply ek_cons))))
local macro_rules | `(tactic| walk_at "ds") => `(tactic| repeat walk_at "ds1")
local macro_rules | `(tactic| walk_at "d0") => `(tactic| (try simp only [cx_K, cx_K', List.map_cons, List.map_nil]))
local macro_rules | `(tactic| walk_at "da") => `(tactic| repeat first | walk_at "ds1" | (with_reducible apply sv_cut) | (with_reducible apply sx_cut))
local macro_rules | `(tactic| walk_at "lx") => `(tactic| (refine toL ?_; (try simp only [List.length_append, List.length_cons, List.length_nil]); omega))
local macro_rules | `(tactic| walk_at "dx") => `(tactic| repeat first | walk_at "ds1" | (with_reducible apply sv_cut) | (with_reducible apply sx_cut) | (with_reducible refine k_x2 (by walk_at "lx") ?_) | (with_reducible refine k_stI (by assumption) ?_) | (with_reducible refine k_stN ?_) | (with_reducible refine k_lx (by walk_at "lx") ?_) | (with_reducible refine k_ift (decT (by omega)) ?_) | (with_reducible refine k_iff (decF (by omega)) ?_))
section
variable {P : Program} {w : World} {K : PySem.W.Frag} {mg : Str → Option Value} {base : Heap}
def pre_set : List Vl → (Vl → Prop) → Prop := fun xs R => xs = [] ∧ ∀ cs : List Nat, cs.Sublist SG → R (.da (.str (tx cs)))
def WD : List Nat := [48, 49, 50, 51, 52, 53, 54, 55, 56, 57, 65, 66, 67, 68, 69, 70, 71, 72, 73, 74, 75, 76, 77, 78, 79, 80, 81, 82, 83, 84, 85, 86, 87, 88, 89, 90, 95, 97, 98, 99, 100, 101, 102, 103, 104, 105, 106, 107, 108, 109, 110, 111, 112, 113, 114, 115, 116, 117, 118, 119, 120, 121, 122]
def pre_words : List Vl → (Vl → Prop) → Prop := fun xs R => xs = [] ∧ R (.da (.str (tx WD)))
theorem ok_Lwords (T : Top K mg) : FnOk P w K mg base CX0 1 T.f_Lwords T.fd_Lwords [] (sp_pu K pre_words) := by
  refine T.F_Lwords.ok sc_Lwords (fun vs H Q E h => ?_) (fun cdv A outer s H vs Q E hr h => ⟨_, (pss_one (ps_ret pe_str)), fin_pu (N := n_Lwords) (fun xs R hp e he => ?_) h⟩)
  · obtain ⟨xs, R, hx, ⟨rfl, _⟩, _⟩ := h
    exact hx.len
  · obtain ⟨rfl, q⟩ := hp
    cases he
    walk_at "d0"
    walk_at "dx"
    exact q
theorem ok_Lsome_set (T : Top K mg) : FnOk P w K mg base CX0 2 T.f_Lsome_set T.fd_Lsome_set ["_law_draw_here"] (sp_dr K pre_set) := by
  refine T.F_Lsome_set.ok sc_Lsome_set (fun vs H Q E h => ?_) (fun cdv A outer s H vs Q E hr h => ⟨_, (pss_cons (ps_set (i := 1) sc_Lsome_set.nd rfl (Or.inl rfl) (pe_call0 (ok_Lsigns T) (hr.mono (by decide)) (by rfl) T.g_Lsigns T.F_Lsigns.kp T.B_Lsigns .nil pass0))
       (pss_cons (ps_set (i := 2) sc_Lsome_set.nd rfl (Or.inl rfl) (pe_call (ok_Lnext T) (hr.mono (by decide)) (by rfl) T.g_Lnext T.F_Lnext.kp T.B_Lnext .nil pass0 (pa_cons (pv 0) (pa_cons pe_int pa_nil))))
       (pss_cons (ps_if (pt_cmpR op_lt (pv 2) pe_int (nomark _)) (pss_one (ps_ret (pe_ix ix_str (pv 1) (pe_call (ok_Lnext T) (hr.mono (by decide)) (by rfl) T.g_Lnext T.F_Lnext.kp T.B_Lnext .nil pass0 (pa_cons (pv 0) (pa_cons pe_int pa_nil))) (fun _ _ => rfl)))) pss_nil)
       (pss_cons (ps_if (pt_cmpR op_lt (pv 2) pe_int (nomark _)) (pss_one (ps_ret (pe_ix ix_str pe_str (pe_call (ok_Lnext T) (hr.mono (by decide)) (by rfl) T.g_Lnext T.F_Lnext.kp T.B_Lnext .nil pass0 (pa_cons (pv 0) (pa_cons pe_int pa_nil))) (fun _ _ => rfl)))) pss_nil)
       (pss_cons (ps_if (pt_cmpR op_eq (pv 2) pe_int (nomark _)) (pss_one (ps_ret (pe_ix (r := rIxL K) ix_list (pe_lst (pa_cons pe_str (pa_cons (pv 1) (pa_cons (pe_op op_add_str (pe_slice sl_str (pv 1) po_none (po_some pe_int)) (pe_slice sl_str (pv 1) (po_some pe_int) po_none)) pa_nil)))) (pe_call (ok_Lnext T) (hr.mono (by decide)) (by rfl) T.g_Lnext T.F_Lnext.kp T.B_Lnext .nil pass0 (pa_cons (pv 0) (pa_cons pe_int pa_nil))) (fun _ _ => rfl)))) pss_nil)
       (pss_cons (ps_if (pt_cmpR op_eq (pv 2) pe_int (nomark _)) (pss_one (ps_ret (pe_ix (r := rIxL K) ix_list (pe_lst (pa_cons (pe_slice sl_str (pv 1) (po_some pe_int) (po_some pe_int)) (pa_cons (pe_op op_add_str (pe_slice sl_str (pv 1) (po_some pe_int) (po_some pe_int)) (pe_slice sl_str (pv 1) (po_some pe_int) (po_some pe_int))) (pa_cons (pe_slice sl_str (pv 1) po_none (po_some pe_int)) (pa_cons (pe_call0 (ok_Lwords T) (hr.mono (by decide)) (by rfl) T.g_Lwords T.F_Lwords.kp T.B_Lwords .nil pass0) pa_nil))))) (pe_call (ok_Lnext T) (hr.mono (by decide)) (by rfl) T.g_Lnext T.F_Lnext.kp T.B_Lnext .nil pass0 (pa_cons (pv 0) (pa_cons pe_int pa_nil))) (fun _ _ => rfl)))) pss_nil)
       (pss_cons (ps_set (i := 3) sc_Lsome_set.nd rfl (Or.inr rfl) pe_str)
       (pss_cons (ps_for PassesOwn.never rfl (pi_range1 rfl T.b_range (pa_cons (pe_op op_add pe_int (pe_call (ok_Lnext T) (hr.mono (by decide)) (by rfl) T.g_Lnext T.F_Lnext.kp T.B_Lnext .nil pass0 (pa_cons (pv 0) (pa_cons pe_int pa_nil)))) pa_nil)) (pg_name (i := 4) sc_Lsome_set.nd rfl (Or.inl rfl))
       (pss_cons (ps_set (i := 5) sc_Lsome_set.nd rfl (Or.inl rfl) (pe_call (ok_Lnext T) (hr.mono (by decide)) (by rfl) T.g_Lnext T.F_Lnext.kp T.B_Lnext .nil pass0 (pa_cons (pv 0) (pa_cons pe_int pa_nil))))
       (pss_one (ps_set (i := 3) sc_Lsome_set.nd rfl (Or.inr rfl) (pe_op op_add_str (pv 3) (pe_slice sl_str (pv 1) (po_some (pv 5)) (po_some (pe_op op_add (pe_op op_add (pv 5) pe_int) (pe_call (ok_Lnext T) (hr.mono (by decide)) (by rfl) T.g_Lnext T.F_Lnext.kp T.B_Lnext .nil pass0 (pa_cons (pv 0) (pa_cons pe_int pa_nil)))))))))))
       (pss_cons (ps_set (i := 6) sc_Lsome_set.nd rfl (Or.inr rfl) (pe_cmpR op_eq (pe_call (ok_Lnext T) (hr.mono (by decide)) (by rfl) T.g_Lnext T.F_Lnext.kp T.B_Lnext .nil pass0 (pa_cons (pv 0) (pa_cons pe_int pa_nil))) pe_int (nomark _)))
       (pss_one (ps_ret (pe_m1 (r := rJoin K) PySem.F.slot_str_join PySem.F.type_str_join mt_joinQ pe_str (pe_lc (own := [("_law_sign", 7)]) (g := gName 7) (by rfl) sc_Lsome_set.nd (pi_str (pv 1)) (blkOk_by (own := [("_law_sign", 7)]) (N := n_Lsome_set) (sc := defScope s_Lsome_set) (by decide +kernel)) (fun _ _ _ _ _ => pg_name (i := 7) sc_Lsome_set.nd rfl (Or.inl rfl)) (fun _ _ _ _ _ => (pts_one (pt_cmpR op_ne (pe_cmpR op_in_sign (pv 7) (pv 3) (by rfl)) (pv 6) (nomark _)))) (fun _ _ _ _ _ => (pv 7))))))))))))))), fin_dr (N := n_Lsome_set) (fun xs R hp e he => ?_) h⟩)
  · obtain ⟨d, l, ws, xs, R, rfl, _, hx, ⟨rfl, _⟩, _⟩ := h
    rw [List.length_cons, hx.len]
    rfl
  · obtain ⟨rfl, q⟩ := hp
    cases he
    have lS : SG.length ≤ sizeLine := toL (by rw [sg_len]; decide)
    walk_at "d0"
    walk_at "dx"
    refine k_dr_next (by decide) (fun r r0 r1 => ?_)
    walk_at "dx"
    refine k_if (fun g => ?_) (fun g => ?_)
    · walk_at "dx"
      refine k_dr_next (by decide) (fun r2 r20 r21 => ?_)
      walk_at "dx"
      refine k_isR r20 (by rw [sg_len]; exact r21) lS (fun c hc => ?_)
      walk_at "dx"
      exact q _ (List.singleton_sublist.mpr hc)
    walk_at "dx"
    refine k_if (fun g => ?_) (fun g => ?_)
    · walk_at "dx"
      refine k_dr_next (by decide) (fun r2 r20 r21 => ?_)
      walk_at "dx"
      refine k_isR r20 r21 (toL (by decide)) (fun c hc => ?_)
      walk_at "dx"
      exact q _ (List.singleton_sublist.mpr ((show ∀ c ∈ _, c ∈ SG by decide +kernel) c hc))
    walk_at "dx"
    refine k_if (fun g => ?_) (fun g => ?_)
    · walk_at "dx"
      refine k_slTo (k := 1) lS rfl ?_
      walk_at "dx"
      refine k_slFrom (k := 2) lS rfl ?_
      walk_at "dx"
      refine k_x2 (toL (by decide +kernel)) ?_
      walk_at "dx"
      refine k_dr_next (by decide) (fun r2 r20 r21 => ?_)
      walk_at "dx"
      refine k_ixR r20 r21 (fun d hd => ?_)
      have : ∃ cs : List Nat, d = .str (tx cs) ∧ cs.Sublist SG := by
        rcases List.mem_cons.mp hd with rfl | hd
        · exact ⟨_, rfl, by decide +kernel⟩
        · rcases List.mem_cons.mp hd with rfl | hd
          · exact ⟨_, rfl, by decide +kernel⟩
          · rw [List.mem_singleton.mp hd]
            exact ⟨_, rfl, by decide +kernel⟩
      obtain ⟨cs, rfl, hcs⟩ := this
      walk_at "dx"
      exact q _ hcs
    walk_at "dx"
    refine k_if (fun g => ?_) (fun g => ?_)
    · walk_at "dx"
      refine k_slMid (a := 17) (b := 27) lS rfl rfl ?_
      walk_at "dx"
      refine k_slMid (a := 34) (b := 60) lS rfl rfl ?_
      walk_at "dx"
      refine k_slMid (a := 66) (b := 92) lS rfl rfl ?_
      walk_at "dx"
      refine k_x2 (toL (by decide +kernel)) ?_
      walk_at "dx"
      refine k_slTo (k := 3) lS rfl ?_
      walk_at "dx"
      refine ⟨rfl, trivial, ?_⟩
      walk_at "dx"
      refine k_dr_next (by decide) (fun r2 r20 r21 => ?_)
      walk_at "dx"
      refine k_ixR r20 r21 (fun d hd => ?_)
      have : ∃ cs : List Nat, d = .str (tx cs) ∧ cs.Sublist SG := by
        rcases List.mem_cons.mp hd with rfl | hd
        · exact ⟨_, rfl, by decide +kernel⟩
        · rcases List.mem_cons.mp hd with rfl | hd
          · exact ⟨_, rfl, by decide +kernel⟩
          · rcases List.mem_cons.mp hd with rfl | hd
            · exact ⟨_, rfl, by decide +kernel⟩
            · rw [List.mem_singleton.mp hd]
              exact ⟨_, rfl, by decide +kernel⟩
      obtain ⟨cs, rfl, hcs⟩ := this
      walk_at "dx"
      exact q _ hcs
    walk_at "dx"
    refine k_dr_next (by decide) (fun r2 r20 r21 => ?_)
    walk_at "dx"
    refine k_r1 ⟨by omega, by omega⟩ ?_
    refine k_forI (fun i e => ∃ ch : List Nat, e = [some .dr, some (.vl (.str (tx SG))), none, some (.vl (.str (tx ch))), none, none, none, none] ∧ ch.length ≤ 96 * i) ⟨_, ?_, [], rfl, by simp⟩ (fun _ _ _ => trivial) (fun i d e hd hI => ?_) (fun e hI => ?_)
    · walk_at "wk"
    · obtain ⟨ch, rfl, hc⟩ := hI
      obtain ⟨hi, rfl⟩ := range_da hd
      walk_at "dx"
      refine k_dr_next (by decide) (fun r3 r30 r31 => ?_)
      walk_at "dx"
      refine k_dr_next (by decide) (fun r4 r40 r41 => ?_)
      walk_at "dx"
      obtain ⟨a, rfl⟩ := Int.eq_ofNat_of_zero_le r30
      obtain ⟨b, rfl⟩ := Int.eq_ofNat_of_zero_le r40
      refine k_slMid (a := a) (b := a + 1 + b) lS rfl rfl ?_
      have l1 : ((SG.drop a).take (a + 1 + b - a)).length ≤ 96 := by rw [List.length_take, List.length_drop, sg_len]; omega
      walk_at "dx"
      refine ⟨_, ?_, ch ++ (SG.drop a).take (a + 1 + b - a), rfl, by rw [List.length_append]; omega⟩
      walk_at "wk"
    · obtain ⟨ch, rfl, hc⟩ := hI
      rw [range_len] at hc
      refine ⟨.of rfl, ?_⟩
      walk_at "dx"
      refine k_dr_next (by decide) (fun r3 r30 r31 => ?_)
      walk_at "dx"
      refine k_lc SG (fun c => .str (tx [c])) (fun c => !decide (decide (c ∈ ch) = decide (r3 = 0))) (fun c => .str (tx [c])) trivial lS (fun c hc2 => ?_) ?_
      · walk_at "dx"
        refine ⟨rfl, fun _ => ?_⟩
        walk_at "dx"
        rfl
      · have e1 : ∀ L : List Nat, (L.map fun c => Da.str (tx [c])) = (L.map fun c => [c]).map fun s => Da.str (tx s) := fun L => by rw [List.map_map]; rfl
        have e2 : ∀ L : List Nat, (L.map fun c => [c]).flatten = L := fun L => by
          induction L with
          | nil => rfl
          | cons c L ih => rw [List.map_cons, List.flatten_cons, ih]; rfl
        have e3 : ∀ L : List Nat, ((L.map fun c => [c]).map (·.length)).sum = L.length := fun L => by
          rw [← flat_len, e2]
        rw [e1]
        have l2 := sub_len (List.filter_sublist (p := fun c => !decide (decide (c ∈ ch) = decide (r3 = 0))) (l := SG))
        walk_at "dx"
        refine k_tl (by rw [e3]; omega) ?_
        walk_at "dx"
        rw [e2]
        exact q _ List.filter_sublist
def NbOk (f lo : Int) : Option Int → Prop
  | none => 0 ≤ lo ∧ lo ≤ 9 ∧ lo + 1 ≤ f
  | some h => 0 ≤ lo ∧ lo ≤ h ∧ h ≤ 9 ∧ h ≤ f
def timesOf (lo : Int) : Option Int → Int
  | none => lo + 1
  | some h => h
def pre_nbs : List Vl → (Vl → Prop) → Prop := fun xs R => ∃ f : Int, xs = [.da (.int f)] ∧ 1 ≤ f ∧ ∀ lo hi, NbOk f lo hi → R (.da (.tup [.int lo, hiD hi]))
def pre_times : List Vl → (Vl → Prop) → Prop := fun xs R => ∃ (lo : Int) (hi : Option Int), xs = [.da (.tup [.int lo, hiD hi])] ∧ R (.da (.int (timesOf lo hi)))
def pre_tip : List Vl → (Vl → Prop) → Prop := fun xs R => ∃ (o : Bool) (ns : List (List Nat)), xs = [.da (.bl o), .ls (ns.map tD)] ∧ (∀ n ∈ ns, NmOk n) ∧ ns.length ≤ 1000 ∧ ∀ t, (∀ n, Wt (n + 1) t) → sz t = 1 → R (.da (toDa t))
theorem ok_Ltimes (T : Top K mg) : FnOk P w K mg base CX0 1 T.f_Ltimes T.fd_Ltimes ["_law_numbers_here"] (sp_pu K pre_times) := by
  refine T.F_Ltimes.ok sc_Ltimes (fun vs H Q E h => ?_) (fun cdv A outer s H vs Q E hr h => ⟨_, (pss_cons (ps_if (pt_cmpR (r := rIsN) op_isN1 (pe_ix (r := rIxT K) ix_tup (pv 0) pe_int (fun _ _ => rfl)) pe_non (nomark _)) (pss_one (ps_ret (pe_op op_add (pe_ix (r := rIxT K) ix_tup (pv 0) pe_int (fun _ _ => rfl)) pe_int))) pss_nil)
       (pss_one (ps_ret (pe_ix (r := rIxT K) ix_tup (pv 0) pe_int (fun _ _ => rfl))))), fin_pu (N := n_Ltimes) (fun xs R hp e he => ?_) h⟩)
  · obtain ⟨xs, R, hx, ⟨_, _, rfl, _⟩, _⟩ := h
    exact hx.len
  · obtain ⟨lo, hi, rfl, q⟩ := hp
    rcases he with _ | he
    cases he
    walk_at "d0"
    cases hi with
    | none =>
      rw [hiD]
      walk_at "dx"
      exact q
    | some h =>
      rw [hiD]
      walk_at "dx"
      exact q
theorem ok_Lnumbers (T : Top K mg) : FnOk P w K mg base CX0 2 T.f_Lnumbers T.fd_Lnumbers ["_law_draw_here", "_law_fuel"] (sp_dr K pre_nbs) := by
  refine T.F_Lnumbers.ok sc_Lnumbers (fun vs H Q E h => ?_) (fun cdv A outer s H vs Q E hr h => ⟨_, (pss_cons (ps_set (i := 2) sc_Lnumbers.nd rfl (Or.inl rfl) (pe_call (ok_Lnext T) (hr.mono (by decide)) (by rfl) T.g_Lnext T.F_Lnext.kp T.B_Lnext .nil pass0 (pa_cons (pv 0) (pa_cons (pe_op op_add (pe_callB (call_min2 rfl) (by rfl) T.b_min (by decide +kernel) (pa_cons pe_int (pa_cons (pv 1) pa_nil))) pe_int) pa_nil))))
       (pss_cons (ps_set (i := 3) sc_Lnumbers.nd rfl (Or.inl rfl) (pe_call (ok_Lnext T) (hr.mono (by decide)) (by rfl) T.g_Lnext T.F_Lnext.kp T.B_Lnext .nil pass0 (pa_cons (pv 0) (pa_cons pe_int pa_nil))))
       (pss_cons (ps_if (pt_cmpR op_eq (pv 3) pe_int (nomark _)) (pss_one (ps_ret (pe_tup (pa_cons (pv 2) (pa_cons (pv 2) pa_nil))))) pss_nil)
       (pss_cons (ps_if (pt_cmpR op_eq (pv 3) pe_int (nomark _)) (pss_one (ps_ret (pe_tup (pa_cons pe_int (pa_cons pe_int pa_nil))))) pss_nil)
       (pss_cons (ps_if (pt_cmpR op_lt (pv 3) pe_int (nomark _)) (pss_one (ps_ret (pe_tup (pa_cons (pe_callB (call_min2 rfl) (by rfl) T.b_min (by decide +kernel) (pa_cons (pe_call (ok_Lnext T) (hr.mono (by decide)) (by rfl) T.g_Lnext T.F_Lnext.kp T.B_Lnext .nil pass0 (pa_cons (pv 0) (pa_cons pe_int pa_nil))) (pa_cons (pe_op op_sub (pv 1) pe_int) pa_nil))) (pa_cons pe_non pa_nil))))) pss_nil)
       (pss_cons (ps_if (pt_cmpR op_eq (pv 3) pe_int (nomark _)) (pss_one (ps_ret (pe_tup (pa_cons (pe_callB (call_min2 rfl) (by rfl) T.b_min (by decide +kernel) (pa_cons (pv 2) (pa_cons (pe_op op_sub (pv 1) pe_int) pa_nil))) (pa_cons pe_non pa_nil))))) pss_nil)
       (pss_one (ps_ret (pe_tup (pa_cons (pv 2) (pa_cons (pe_op op_add (pv 2) (pe_call (ok_Lnext T) (hr.mono (by decide)) (by rfl) T.g_Lnext T.F_Lnext.kp T.B_Lnext .nil pass0 (pa_cons (pv 0) (pa_cons (pe_op op_add (pe_op op_sub (pe_callB (call_min2 rfl) (by rfl) T.b_min (by decide +kernel) (pa_cons pe_int (pa_cons (pv 1) pa_nil))) (pv 2)) pe_int) pa_nil)))) pa_nil))))))))))), fin_dr (N := n_Lnumbers) (fun xs R hp e he => ?_) h⟩)
  · obtain ⟨d, l, ws, xs, R, rfl, _, hx, ⟨_, rfl, _⟩, _⟩ := h
    rw [List.length_cons, hx.len]
    rfl
  · obtain ⟨f, rfl, f1, q⟩ := hp
    rcases he with _ | he
    cases he
    walk_at "d0"
    walk_at "dx"
    have hm : ∀ a b : Int, (if b < a then b else a) ≤ a ∧ (if b < a then b else a) ≤ b ∧ ((if b < a then b else a) = a ∨ (if b < a then b else a) = b) := fun a b => by split <;> omega
    have hm9 := hm 9 f
    generalize (if f < 9 then f else 9) = m at hm9 ⊢
    refine k_dr_next (by omega) (fun lo lo0 lo1 => ?_)
    walk_at "dx"
    refine k_dr_next (by decide) (fun r r0 r1 => ?_)
    walk_at "dx"
    refine k_if (fun g => ?_) (fun g => ?_)
    · walk_at "dx"
      exact q lo (some lo) ⟨by omega, by omega, by omega, by omega⟩
    walk_at "dx"
    refine k_if (fun g => ?_) (fun g => ?_)
    · walk_at "dx"
      exact q 0 (some 1) ⟨by omega, by omega, by omega, by omega⟩
    walk_at "dx"
    refine k_if (fun g => ?_) (fun g => ?_)
    · walk_at "dx"
      refine k_dr_next (by decide) (fun r2 r20 r21 => ?_)
      walk_at "dx"
      have h2 := hm r2 (f - 1)
      generalize (if f - 1 < r2 then f - 1 else r2) = x at h2 ⊢
      exact q x none ⟨by omega, by omega, by omega⟩
    walk_at "dx"
    refine k_if (fun g => ?_) (fun g => ?_)
    · walk_at "dx"
      have h2 := hm lo (f - 1)
      generalize (if f - 1 < lo then f - 1 else lo) = x at h2 ⊢
      exact q x none ⟨by omega, by omega, by omega⟩
    walk_at "dx"
    refine k_dr_next (by have := hm 9 f; omega) (fun r2 r20 r21 => ?_)
    walk_at "dx"
    exact q lo (some (lo + r2)) ⟨by omega, by omega, by omega, by omega⟩
theorem ok_Ltip (T : Top K mg) : FnOk P w K mg base CX0 3 T.f_Ltip T.fd_Ltip ["_law_draw_here", "_law_outside", "_law_known"] (sp_dr K pre_tip) := by
  refine T.F_Ltip.ok sc_Ltip (fun vs H Q E h => ?_) (fun cdv A outer s H vs Q E hr h => ⟨_, (pss_cons (ps_set (i := 3) sc_Ltip.nd rfl (Or.inl rfl) (pe_call (ok_Lnext T) (hr.mono (by decide)) (by rfl) T.g_Lnext T.F_Lnext.kp T.B_Lnext .nil pass0 (pa_cons (pv 0) (pa_cons pe_int pa_nil))))
       (pss_cons (ps_if (pt_cmpR op_eq (pv 3) pe_int (nomark _)) (pss_one (ps_ret (pe_tup (pa_cons pe_str pa_nil)))) pss_nil)
       (pss_cons (ps_if (pt_cmpR op_lt (pv 3) pe_int (nomark _)) (pss_one (ps_ret (pe_tup (pa_cons pe_str (pa_cons (pe_ix (r := rIxL K) ix_list (pe_lst (pa_cons pe_str (pa_cons pe_str (pa_cons pe_str (pa_cons pe_str (pa_cons pe_str (pa_cons pe_str pa_nil))))))) (pe_call (ok_Lnext T) (hr.mono (by decide)) (by rfl) T.g_Lnext T.F_Lnext.kp T.B_Lnext .nil pass0 (pa_cons (pv 0) (pa_cons pe_int pa_nil))) (fun _ _ => rfl)) pa_nil))))) pss_nil)
       (pss_cons (ps_if (PW.pt (pw_and (pt_cmpR op_lt (pv 3) pe_int (nomark _)) (pw_and (pt_val (pv 1)) (pw_and1 (pt_cmpR op_gt (pe_callB (r := rLenQ K) call_lenQ (by rfl) T.b_len PySem.boot_len (pa_cons (pv 2) pa_nil)) pe_int (nomark _)))))) (pss_one (ps_ret (pe_tup (pa_cons pe_str (pa_cons (pe_ix (r := rIxL K) ix_list (pv 2) (pe_call (ok_Lnext T) (hr.mono (by decide)) (by rfl) T.g_Lnext T.F_Lnext.kp T.B_Lnext .nil pass0 (pa_cons (pv 0) (pa_cons (pe_callB (r := rLenQ K) call_lenQ (by rfl) T.b_len PySem.boot_len (pa_cons (pv 2) pa_nil)) pa_nil))) (fun _ _ => rfl)) pa_nil))))) pss_nil)
       (pss_one (ps_ret (pe_tup (pa_cons pe_str (pa_cons (pe_call (ok_Lsome_set T) (hr.mono (by decide)) (by rfl) T.g_Lsome_set T.F_Lsome_set.kp T.B_Lsome_set .nil pass0 (pa_cons (pv 0) pa_nil)) pa_nil))))))))), fin_dr (N := n_Ltip) (fun xs R hp e he => ?_) h⟩)
  · obtain ⟨d, l, ws, xs, R, rfl, _, hx, ⟨_, _, rfl, _⟩, _⟩ := h
    rw [List.length_cons, hx.len]
    rfl
  · obtain ⟨o, ns, rfl, hn, hl, q⟩ := hp
    rcases he with _ | he
    rcases he with _ | _ | he
    cases he
    walk_at "d0"
    walk_at "dx"
    refine k_dr_next (by decide) (fun r r0 r1 => ?_)
    walk_at "dx"
    refine k_if (fun g => ?_) (fun g => ?_)
    · walk_at "dx"
      have := q .empty (fun n => .empty) (by rw [sz_kids]; rfl)
      rw [toDa] at this
      exact this
    walk_at "dx"
    refine k_if (fun g => ?_) (fun g => ?_)
    · walk_at "dx"
      refine k_dr_next (by decide) (fun r2 r20 r21 => ?_)
      walk_at "dx"
      refine k_ixR r20 r21 (fun d hd => ?_)
      have : ∃ cs : List Nat, d = .str (tx cs) ∧ cs.length ≤ 24 := by
        simp only [List.mem_cons, List.not_mem_nil, or_false] at hd
        rcases hd with rfl | rfl | rfl | rfl | rfl | rfl
        all_goals exact ⟨_, rfl, by decide⟩
      obtain ⟨cs, rfl, hcs⟩ := this
      walk_at "dx"
      have := q (.edge cs) (fun n => .edge hcs) (by rw [sz_kids]; rfl)
      rw [toDa] at this
      exact this
    have fin : ∀ cs : List Nat, cs.Sublist SG → R (.da (.tup [.str (Str.ofString "set"), .str (tx cs)])) := fun cs hcs => by
      have := q (.set cs) (fun n => .set hcs) (by rw [sz_kids]; rfl)
      rw [toDa] at this
      exact this
    by_cases g2 : r < 6 ∧ o = true ∧ 0 < ns.length
    · obtain ⟨g3, rfl, g4⟩ := g2
      walk_at "dx"
      rw [List.length_map]
      walk_at "dx"
      rw [List.length_map]
      refine k_dr_next (by omega) (fun r2 r20 r21 => ?_)
      walk_at "dx"
      refine k_ixR r20 (by rw [List.length_map]; exact r21) (fun d hd => ?_)
      obtain ⟨n, hn2, rfl⟩ := List.mem_map.mp hd
      walk_at "dx"
      have := q (.same n) (fun _ => .same (by have := (hn n hn2).2; omega)) (by rw [sz_kids]; rfl)
      rw [toDa] at this
      exact this
    · walk_at "dx"
      refine k_if (fun g3 => ?_) (fun g3 => ?_)
      · walk_at "dx"
        refine k_if (fun g4 => ?_) (fun g4 => ?_)
        · subst g4
          walk_at "dx"
          rw [List.length_map]
          refine k_iff (decF (fun z => g2 ⟨of_decide_eq_true g3, rfl, by omega⟩)) ?_
          walk_at "dx"
          exact ⟨rfl, fun cs hcs => ⟨trivial, by walk_at "dx"; exact fin cs hcs⟩⟩
        · walk_at "dx"
          exact ⟨rfl, fun cs hcs => ⟨trivial, by walk_at "dx"; exact fin cs hcs⟩⟩
      · walk_at "dx"
        exact ⟨rfl, fun cs hcs => ⟨trivial, by walk_at "dx"; exact fin cs hcs⟩⟩
end
end My
namespace My
open PySem L2
local macro_rules | `(tactic| walk_at "rd") => `(tactic| simp only [tSeq, tNext, tAsg, tOp, tUn, tC, tVar, gName, gSub, tCons, tNil, tCB, tIfS, tIf, tTest, tB, tAnd, tOr, tNot, tAndV, tOrV, tNotV, tRet, tRetN, tDrop, tLst, tTup, tCall, tSl, tNoPart, tPart, tM0, tM1, tBM, tBM0, tYes, tFor_eq, tLc_eq, iList, iRng1, iRng2, iStr, sg_tx, c_empty, rstrip_sign, find_sign, cut_last, cut_to, cut_from, cut_mid, cut_to_lit, cut_from_lit, and_assoc, flat_rep, List.length_replicate, tx_len, tx_eq, tx_app, tx_cps, rI0, rI, rU, rEq, rNe, rIxL, rIxS, rIxT, rSetL, rAppend, rPopAt, rSlS, rSlL, rIn, rMulS, rLtD, rJoin, rLenQ, rListOf,  tRevS, 
  scal, L2.start, List.map_cons, List.map_nil, List.length_cons, List.length_nil, List.replicate, List.cons_append, List.nil_append, List.append_nil,
  List.getElem?_cons_zero, List.getElem?_cons_succ, List.set_cons_zero, List.set_cons_succ, Nat.sub_zero, Nat.reduceSub, Nat.reduceAdd, Nat.zero_add, id_eq, Int.reduceToNat, exists_or,
  V.int.injEq, V.str.injEq, V.bl.injEq, V.ref.injEq, Option.some.injEq, List.cons.injEq, exists_and_left, exists_eq_left', exists_eq_left, exists_eq, exists_eq', and_true, true_and, reduceCtorEq, false_and, and_false, exists_false, false_or, or_false, decide_eq_true_eq, Bool.not_eq_true', decide_eq_false_iff_not, Bool.not_not, Bool.false_eq_true, ↓reduceIte, if_true, if_false])

local macro_rules | `(tactic| walk_at "ne") => `(tactic| first | assumption | (refine Ne.symm ?_; assumption) | exact (ne_of_none (by assumption) (by assumption)) | exact (ne_of_none (by assumption) (by assumption)).symm)
local macro_rules | `(tactic| walk_at "hp") => `(tactic| first | assumption | exact upd_same | exact (upd_ne (by walk_at "ne")).trans (by walk_at "hp"))
local macro_rules | `(tactic| walk_at "st1") => `(tactic| first
  | refine ⟨_, Or.inl (Or.inl (by walk_at "hp")), ?_⟩
  | refine ⟨_, Or.inl (Or.inl (Or.inl (by walk_at "hp"))), ?_⟩
  | refine ⟨_, (show _ = some (HO.lst _) by walk_at "hp"), ?_⟩
  | refine ⟨_, rfl, ?_⟩
  | refine ⟨(rfl : ("str" : String) = "str"), ?_⟩
  | refine ⟨Or.inr ⟨by decide, by decide⟩, ?_⟩
  | refine ⟨⟨by decide, by decide⟩, ?_⟩
  | refine ⟨by decide, ?_⟩
  | refine ⟨by assumption, ?_⟩)
local macro_rules | `(tactic| walk_at "st") => `(tactic| repeat walk_at "st1")
local macro_rules | `(tactic| walk_at "go") => `(tactic| repeat first | walk_at "st1" | walk_at "rd")
local macro_rules | `(tactic| walk_at "wk") => `(tactic| repeat first | exact Wk.nil | apply Wk.yes | apply Wk.no)
local macro_rules | `(tactic| walk_at "ds1") => `(tactic| first
  | ((with_reducible show Sv _ _ _ _); (first | (((with_reducible apply sv_putE); next => rfl)) | (with_reducible apply sv_seq) | (with_reducible apply sv_if) | (((with_reducible apply sv_retO); next => rfl)) | (with_reducible refine sv_retN (el_lst ?_)) | (with_reducible refine sv_retN (el_call ?_)) | (with_reducible refine sv_retN (el_lc ?_)) | (with_reducible refine sv_retN (el_list ?_)) | (with_reducible refine sv_retN (el_cat ?_)) | (with_reducible apply sv_ret) | (with_reducible refine sv_setN (el_lst ?_)) | (with_reducible refine sv_setN (el_call ?_)) | (with_reducible refine sv_setN (el_lc ?_)) | (with_reducible refine sv_setN (el_list ?_)) | (with_reducible refine sv_setN (el_cat ?_)) | (with_reducible refine sv_setN (el_callD rfl ?_)) | (((with_reducible apply sv_putD); next => rfl)) | (with_reducible apply sv_set) | (((with_reducible apply sv_app); next => rfl)) | (((with_reducible apply sv_ext); next => rfl)) | (((with_reducible apply sv_put); next => rfl)) | (with_reducible apply sv_for) | (with_reducible apply sv_nil) | (with_reducible apply sv_retNone) | (with_reducible apply sv_drop)))
  | ((with_reducible show Ev _ _ _ _); (first | (with_reducible apply ev_min3) | (with_reducible apply ev_q0) | (with_reducible apply ev_q1) | (with_reducible apply ev_q2) | (with_reducible apply ev_q3) | (with_reducible apply ev_q4) | (with_reducible apply ev_q5) | (with_reducible apply ev_q6) | (with_reducible apply ev_q7) | (with_reducible apply ev_q8) | (with_reducible apply ev_q9) | (with_reducible apply ev_q10) | (with_reducible apply ev_q11) | (with_reducible apply ev_q12) | (with_reducible apply ev_q13) | (with_reducible apply ev_q14) | (with_reducible apply ev_q15) | (with_reducible apply ev_q16) | (with_reducible apply ev_q17) | (with_reducible apply ev_q18) | (with_reducible apply ev_q19) | (with_reducible apply ev_q20) | (with_reducible apply ev_q21) | (with_reducible apply ev_q22) | (with_reducible apply ev_q23) | (with_reducible apply ev_q24) | (with_reducible apply ev_q25) | (with_reducible apply ev_q26) | (with_reducible apply ev_q27) | (with_reducible apply ev_q28) | (with_reducible apply ev_q29) | (with_reducible apply ev_q30) | (with_reducible apply ev_q31) | (with_reducible apply ev_q32) | (with_reducible apply ev_q33) | (with_reducible apply ev_q34) | (with_reducible apply ev_q35) | (with_reducible apply ev_q36) | (with_reducible apply ev_q37) | (with_reducible apply ev_q38) | (with_reducible apply ev_q39) | (with_reducible apply ev_q40) | (with_reducible apply ev_q41) | (with_reducible apply ev_q42) | (with_reducible apply ev_q43) | (with_reducible apply ev_q44) | (with_reducible apply ev_q45) | (with_reducible apply ev_catX) | (with_reducible apply ev_inS) | (with_reducible apply ev_ninS) | (with_reducible apply ev_joinE) | (with_reducible apply ev_joinB) | (with_reducible apply ev_wset) | (with_reducible apply ev_strIN) | (with_reducible apply ev_fmt) | (with_reducible apply ev_joined) | (with_reducible apply ev_slX) | (with_reducible apply ev_lenX) | (with_reducible apply ev_sgs) | (((with_reducible apply ev_ixD); next => rfl)) | (((with_reducible apply ev_ktup); next => assumption)) | (((with_reducible apply ev_var); next => rfl)) | (((with_reducible apply ev_varO); next => rfl)) | (((with_reducible apply ev_varL); next => rfl)) | (((with_reducible apply ev_callD); next => rfl)) | (((with_reducible apply ev_dr); next => rfl)) | (with_reducible apply ev_max2) | (with_reducible apply ev_min2) | (with_reducible apply ev_index) | (with_reducible apply ev_eqD) | (with_reducible apply ev_neD) | (with_reducible apply ev_str) | (with_reducible apply ev_int) | (with_reducible apply ev_bl) | (with_reducible apply ev_non) | (with_reducible apply ev_ixT) | (with_reducible apply ev_call) | (with_reducible apply ev_eq) | (with_reducible apply ev_tup) | (with_reducible apply ev_in) | (with_reducible apply ev_ixL) | (with_reducible apply ev_ne) | (with_reducible apply ev_i0) | (with_reducible apply ev_ib) | (with_reducible apply ev_isi) | (with_reducible apply ev_isN) | (with_reducible apply ev_notN) | (with_reducible apply ev_isB) | (with_reducible apply ev_notB) | (with_reducible apply ev_slT2) | (with_reducible apply ev_catU) | (with_reducible apply ev_iC) | (with_reducible apply ev_ixS) | (with_reducible apply ev_u) | (with_reducible apply ev_notV) | (with_reducible apply ev_if) | (with_reducible apply ev_len) | (with_reducible apply ev_tuple) | (with_reducible apply ev_all) | (with_reducible refine Ev.ofNew (el_lst ?_)) | (with_reducible refine Ev.ofNew (el_call ?_)) | (with_reducible refine Ev.ofNew (el_lc ?_)) | (with_reducible refine Ev.ofNew (el_list ?_)) | (with_reducible refine Ev.ofNew (el_cat ?_))))
  | ((with_reducible show Es _ _ _ _); (first | (with_reducible apply es_cons) | (with_reducible apply es_nil)))
  | ((with_reducible show Tv _ _ _ _); (first | (with_reducible apply tv_test) | (with_reducible apply tv_not) | (with_reducible apply tv_and) | (with_reducible apply tv_or) | (with_reducible apply tv_b) | (with_reducible apply tv_yes) | (with_reducible apply tv_tr)))
  | ((with_reducible show Eln _ _ _ _); (first | (with_reducible apply el_lst) | (with_reducible apply el_call) | (with_reducible apply el_lc) | (with_reducible apply el_list) | (with_reducible apply el_cat)))
  | ((with_reducible show Eo _ _ _ _); (first | (with_reducible apply eo_no) | (with_reducible apply eo_some)))
  | ((with_reducible show Iv _ _ _ _); (first | (with_reducible apply iv_tup) | (with_reducible apply iv_range1) | (with_reducible apply iv_str) | (with_reducible apply iv_enumT) | (((with_reducible apply iv_listV); next => rfl)) | (((with_reducible apply iv_listO); next => rfl)) | (with_reducible refine iv_listN (el_lst ?_)) | (with_reducible refine iv_listN (el_call ?_)) | (with_reducible refine iv_listN (el_lc ?_)) | (with_reducible refine iv_listN (el_list ?_)) | (with_reducible refine iv_listN (el_cat ?_))))
  | ((with_reducible show Gv _ _ _ _ _ _); (first | (with_reducible apply gv_name) | (with_reducible apply gv_tup2) | (with_reducible apply gv_tup3)))
  | ((with_reducible show seqO _ _ _ _); (first | (with_reducible apply o_nx) | (with_reducible apply o_rt) | (with_reducible apply o_rn) | (with_reducible apply o_bk) | (with_reducible apply o_ct)))
  | ((with_reducible show jnI _ _ _); (first | (with_reducible apply ji_nx) | (with_reducible apply ji_rt) | (with_reducible apply ji_rn) | (with_reducible apply ji_bk) | (with_reducible apply ji_ct)))
  | ((with_reducible show jnO _ _ _); (first | (with_reducible apply j_nx) | (with_reducible apply j_rt) | (with_reducible apply j_rn) | (with_reducible apply j_bk) | (with_reducible apply j_ct)))
  | ((with_reducible show lpO _ _ _ _); (first | (with_reducible apply l_rt) | (with_reducible apply l_rn) | (with_reducible apply l_ct) | (with_reducible apply l_nx')))
  | ((with_reducible show retO _ _); (first | (with_reducible apply r_rt) | (with_reducible apply r_nx)))
  | (with_reducible apply r_rn)
  | ((with_reducible show KIf _ _ _); (first | (((with_reducible apply k_ift); next => first | decide +kernel | rfl)) | (((with_reducible apply k_iff); next => first | decide +kernel | rfl))))
  | ((with_reducible show KEq _ _ _); (first | (with_reducible apply k_eqIN) | (with_reducible apply k_eqNI) | (with_reducible apply k_eqS) | (with_reducible apply k_eqI) | (with_reducible apply k_eqB) | (((with_reducible apply k_eqO); next => rfl; next => rfl; next => rfl; next => rfl))))
  | ((with_reducible show KDas _ _); (first | (with_reducible apply k_das_0) | (with_reducible apply k_das_1) | (with_reducible apply k_das_2) | (with_reducible apply k_das_3) | (with_reducible apply k_das_4) | (with_reducible apply k_das_5) | (with_reducible apply k_das_6) | (with_reducible apply k_das_7) | (with_reducible apply k_das_8) | (with_reducible apply k_das_9) | (with_reducible apply k_das_10) | (with_reducible apply k_das_11) | (with_reducible apply k_das_12) | (with_reducible apply k_das_13) | (with_reducible apply k_das_14) | (with_reducible apply k_das_15) | (with_reducible apply k_das_16)))
  | ((with_reducible show KIn _ _ _); (first | (with_reducible apply k_inT_0) | (with_reducible apply k_inL_0) | (with_reducible apply k_inT_1) | (with_reducible apply k_inL_1) | (with_reducible apply k_inT_2) | (with_reducible apply k_inL_2) | (with_reducible apply k_inT_3) | (with_reducible apply k_inL_3) | (with_reducible apply k_inT_4) | (with_reducible apply k_inL_4) | (with_reducible apply k_inT_5) | (with_reducible apply k_inL_5) | (with_reducible apply k_inT_6) | (with_reducible apply k_inL_6) | (with_reducible apply k_inT_7) | (with_reducible apply k_inL_7) | (with_reducible apply k_inT_8) | (with_reducible apply k_inL_8) | (with_reducible apply k_inT_9) | (with_reducible apply k_inL_9) | (with_reducible apply k_inT_10) | (with_reducible apply k_inL_10) | (with_reducible apply k_inT_11) | (with_reducible apply k_inL_11) | (with_reducible apply k_inT_12) | (with_reducible apply k_inL_12) | (with_reducible apply k_inN) | (((with_reducible apply k_inT); next => rfl; next => rfl)) | (((with_reducible apply k_inL); next => rfl; next => rfl))))
  | ((with_reducible show KEqD _ _ _); (first | (with_reducible apply k_eqIntsC) | (with_reducible apply k_eqInts0) | (with_reducible apply k_eqInts)))
  | (with_reducible apply k_put0)
  | ((with_reducible show KTy _ _ _); (first | (with_reducible apply k_ty_tup_tuple) | (with_reducible apply k_ty_tup_bool) | (with_reducible apply k_ty_tup_int) | (with_reducible apply k_ty_tup_str) | (with_reducible apply k_ty_tup_list) | (with_reducible apply k_ty_ls_tuple) | (with_reducible apply k_ty_ls_bool) | (with_reducible apply k_ty_ls_int) | (with_reducible apply k_ty_ls_str) | (with_reducible apply k_ty_ls_list) | (with_reducible apply k_ty_int_tuple) | (with_reducible apply k_ty_int_bool) | (with_reducible apply k_ty_int_int) | (with_reducible apply k_ty_int_str) | (with_reducible apply k_ty_int_list) | (with_reducible apply k_ty_str_tuple) | (with_reducible apply k_ty_str_bool) | (with_reducible apply k_ty_str_int) | (with_reducible apply k_ty_str_str) | (with_reducible apply k_ty_str_list) | (with_reducible apply k_ty_bl_tuple) | (with_reducible apply k_ty_bl_bool) | (with_reducible apply k_ty_bl_int) | (with_reducible apply k_ty_bl_str) | (with_reducible apply k_ty_bl_list) | (with_reducible apply k_ty_non_tuple) | (with_reducible apply k_ty_non_bool) | (with_reducible apply k_ty_non_int) | (with_reducible apply k_ty_non_str) | (with_reducible apply k_ty_non_list)))
  | ((with_reducible show KSl _ _ _ _); (first | (with_reducible apply k_sl_1) | (with_reducible apply k_sl_2) | (with_reducible apply k_sl_m2) | (with_reducible apply k_sl_m3) | (with_reducible apply k_sl_m4) | (with_reducible apply k_sl_m5)))
  | ((with_reducible show KCat _ _ _); (first | (with_reducible apply k_cat1) | (with_reducible apply k_cat2) | (with_reducible apply k_cat3) | (with_reducible apply k_cat23)))
  | ((with_reducible show KLen _ _); (first | (with_reducible apply k_lenT) | (with_reducible apply k_lenL)))
  | ((with_reducible show KSq _ _); (first | (with_reducible apply k_sqT) | (with_reducible apply k_sqL)))
  | (with_reducible apply k_i2s)
  | (with_reducible apply k_d)
  | ((with_reducible show KT _ _); (first | (with_reducible apply k_t) | (with_reducible apply k_tT)))
  | (with_reducible apply k_l)
  | (with_reducible apply k_i1)
  | (with_reducible apply k_i2)
  | (with_reducible apply k_b)
  | (with_reducible apply k_n)
  | (with_reducible apply k_tx)
  | (with_reducible apply k_t1)
  | (with_reducible apply k_ts)
  | with_reducible apply k_ix_0
  | with_reducible apply k_ix_1
  | ((with_reducible apply k_ixT2); next => rfl)
  | with_reducible apply gx_name
  | with_reducible apply gx_tup2
  | with_reducible apply gx_tup3
  | with_reducible refine (fun (p : Addr) => (?_ : seqO _ _ _ _))
  | with_reducible refine (fun (p : Addr) => (?_ : lpO _ _ _ _))
  | with_reducible refine (fun (p : Addr) => (?_ : liO _ _))
  | ((with_reducible show KTr _ _); (first | (with_reducible apply k_trI) | (with_reducible apply k_trB)))
  | (with_reducible apply k_sg)
  | ((with_reducible show Sx _ _ _ _ _ _ _ _); (first | (with_reducible apply sx_seq) | (with_reducible apply sx_if) | (with_reducible refine sx_retN (el_lst ?_)) | (with_reducible refine sx_retN (el_call ?_)) | (with_reducible refine sx_retN (el_lc ?_)) | (with_reducible refine sx_retN (el_list ?_)) | (with_reducible refine sx_retN (el_cat ?_)) | (with_reducible apply sx_for)))
  | ((with_reducible show Ej _ _ _ _ _); (first | (with_reducible apply ej_nil) | (with_reducible apply ej_cons)))
  | ((with_reducible show liO _ _); (first | (with_reducible apply li_nx) | (with_reducible apply li_bk) | (with_reducible apply li_ct)))
  | ((with_reducible show sqX _ _ _ _ _ _ _ _); (first | (with_reducible apply q_nx) | (with_reducible apply q_rt) | (with_reducible apply q_rn) | (with_reducible apply q_bk) | (with_reducible apply q_ct)))
  | (with_reducible apply lx_nx)
  | ((with_reducible show Ems _ _ _ _); (first | (with_reducible apply ems_cons) | (with_reducible apply ems_nil)))
  | (with_reducible apply k_tj)
  | (with_reducible apply k_i3)
  | ((with_reducible show Ek _ _ _ _ _); (first | (((with_reducible apply ek_last); next => rfl)) | (with_reducible apply ek_cons))))
local macro_rules | `(tactic| walk_at "ds") => `(tactic| repeat walk_at "ds1")
local macro_rules | `(tactic| walk_at "d0") => `(tactic| (try simp only [cx_K, cx_K', List.map_cons, List.map_nil]))
local macro_rules | `(tactic| walk_at "da") => `(tactic| repeat first | walk_at "ds1" | (with_reducible apply sv_cut) | (with_reducible apply sx_cut))
local macro_rules | `(tactic| walk_at "lx") => `(tactic| (refine toL ?_; (try simp only [List.length_append, List.length_cons, List.length_nil]); omega))
local macro_rules | `(tactic| walk_at "dx") => `(tactic| repeat first | walk_at "ds1" | (with_reducible apply sv_cut) | (with_reducible apply sx_cut) | (with_reducible refine k_x2 (by walk_at "lx") ?_) | (with_reducible refine k_stI (by assumption) ?_) | (with_reducible refine k_stN ?_) | (with_reducible refine k_lx (by walk_at "lx") ?_) | (with_reducible refine k_ift (decT (by omega)) ?_) | (with_reducible refine k_iff (decF (by omega)) ?_))
section
variable {P : Program} {w : World} {K : PySem.W.Frag} {mg : Str → Option Value} {base : Heap}
def pre_form (n : Nat) : List Da → List (List Nat) → (Da → List (List Nat) → Prop) → Prop := fun ds ns R => ∃ (f m d : Int) (o : Bool), ds = [.int f, .int m, .int d, .bl o] ∧ 1 ≤ f ∧ 1 ≤ m ∧ m ≤ 100 ∧ 1 ≤ d ∧ d ≤ (n : Nat) ∧ (∀ x ∈ ns, NmOk x) ∧ (ns.length : Int) + m ≤ 900 ∧
  ∀ t ns', Wt n t → (sz t : Int) ≤ m → (∀ x ∈ ns', NmOk x) → ns'.length ≤ ns.length + sz t → R (toDa t) ns'
theorem form_bound {G m : Int} {M : Nat} (h1 : 2 ≤ M) (h2 : 0 ≤ G) (h3 : (M : Int) ≤ m - 1) : ∃ B : Nat → Int, 0 ≤ B 0 ∧ (∀ i : Nat, i < M → (G = i → B i + (m - M) ≤ B (i + 1)) ∧ (G ≠ i → G < M → B i + 1 ≤ B (i + 1)) ∧ (M ≤ G → B i + (m - 1) / M ≤ B (i + 1))) ∧ (∀ i : Nat, i ≤ M → B i ≤ m - 1) ∧ 1 ≤ (m - 1) / (M : Int) ∧ (m - 1) / (M : Int) ≤ m - 1 := by
  have q1 : 1 ≤ (m - 1) / (M : Int) := (Int.le_ediv_iff_mul_le (by omega)).mpr (by omega)
  have q2 : (m - 1) / (M : Int) * M ≤ m - 1 := Int.ediv_mul_le _ (by omega)
  have q3 : (m - 1) / (M : Int) ≤ m - 1 := Int.ediv_le_self _ (by omega)
  generalize (m - 1) / (M : Int) = q at q1 q2 q3 ⊢
  by_cases g : G < M
  · refine ⟨fun i => if G < i then (i : Int) - 1 + (m - M) else i, ?_, fun i hi => ⟨fun e => ?_, fun e _ => ?_, fun e => by omega⟩, fun i hi => ?_, q1, q3⟩
    · simp only []; split <;> omega
    · simp only []; split <;> split <;> omega
    · simp only []; split <;> split <;> omega
    · simp only []; split <;> omega
  · refine ⟨fun i => q * i, by simp, fun i hi => ⟨fun e => by omega, fun _ e => by omega, fun _ => ?_⟩, fun i hi => ?_, q1, q3⟩
    · show q * (i : Int) + q ≤ q * ((i + 1 : Nat) : Int)
      rw [show ((i + 1 : Nat) : Int) = (i : Int) + 1 from rfl, Int.mul_add, Int.mul_one]
      exact Int.le_refl _
    · exact Int.le_trans (Int.mul_le_mul_of_nonneg_left (by omega) (by omega)) q2
set_option maxHeartbeats 8000000 in
theorem ok_Lform (T : Top K mg) : ∀ n : Nat, FnOk P w K mg base CX0 (4 + n) T.f_Lform T.fd_Lform ["_law_draw_here", "_law_fuel", "_law_nodes", "_law_depth", "_law_outside", "_law_known"] (sp_kn K (pre_form n))
  | 0 => ⟨fun _ _ _ _ h => by
      obtain ⟨_, _, _, _, _, _, _, _, _, _, _, _, _, _, _, ⟨_, _, _, _, _, _, _, _, h1, h2, _⟩, _⟩ := h
      exfalso; simp at h2; omega, fun _ _ _ _ _ _ _ _ _ _ _ _ _ h => by
      obtain ⟨_, _, _, _, _, _, _, _, _, _, _, _, _, _, _, ⟨_, _, _, _, _, _, _, _, h1, h2, _⟩, _⟩ := h
      exfalso; simp at h2; omega⟩
  | n + 1 => by
    have ih_Lform := ok_Lform T n
    refine T.F_Lform.ok sc_Lform (fun vs H Q E h => ?_) (fun cdv A outer s H vs Q E hr h => ?_)
    · obtain ⟨d, l, k, ds, ws, us, ns, R, rfl, _, hx, _, _, _, _, ⟨_, _, _, _, rfl, _⟩, _⟩ := h
      rw [List.length_cons, List.length_append, hx.len]
      rfl
    · replace hr := hr.mono (show n + 4 ≤ Nat.add 4 n from Nat.le_of_eq (Nat.add_comm n 4))
      refine ⟨_, (pss_cons (ps_set (i := 6) sc_Lform.nd rfl (Or.inl rfl) (pe_call (ok_Lnext T) (hr.mono (by omega)) (by rfl) T.g_Lnext T.F_Lnext.kp T.B_Lnext .nil pass0 (pa_cons (pv 0) (pa_cons pe_int pa_nil))))
       (pss_cons (ps_if (PW.pt (pw_or (pt_cmpR op_lt (pv 2) pe_int (nomark _)) (pw_or (pt_cmpR op_lt (pv 3) pe_int (nomark _)) (pw_or1 (pt_cmpR op_gt (pv 6) pe_int (nomark _)))))) (pss_one (ps_ret (pe_call (ok_Ltip T) (hr.mono (by omega)) (by rfl) T.g_Ltip T.F_Ltip.kp T.B_Ltip .nil pass0 (pa_cons (pv 0) (pa_cons (pv 4) (pa_cons (pv 5) pa_nil)))))) pss_nil)
       (pss_cons (ps_if (PW.pt (pw_and (pt_cmpR op_lt (pv 6) pe_int (nomark _)) (pw_and (pt_cmpR op_gt (pv 2) pe_int (nomark _)) (pw_and1 (pt_cmpR op_gt (pv 1) pe_int (nomark _)))))) (pss_cons (ps_set (i := 7) sc_Lform.nd rfl (Or.inl rfl) (pe_callB (r := rMin3) (call_min3I rfl) (by rfl) T.b_min (by decide +kernel) (pa_cons (pe_op op_add pe_int (pe_call (ok_Lnext T) (hr.mono (by omega)) (by rfl) T.g_Lnext T.F_Lnext.kp T.B_Lnext .nil pass0 (pa_cons (pv 0) (pa_cons pe_int pa_nil)))) (pa_cons (pe_op op_sub (pv 2) pe_int) (pa_cons (pv 1) pa_nil)))))
       (pss_cons (ps_set (i := 8) sc_Lform.nd rfl (Or.inl rfl) (pe_call (ok_Lnext T) (hr.mono (by omega)) (by rfl) T.g_Lnext T.F_Lnext.kp T.B_Lnext .nil pass0 (pa_cons (pv 0) (pa_cons (pe_op op_mul pe_int (pv 7)) pa_nil))))
       (pss_cons (ps_set (i := 9) sc_Lform.nd rfl (Or.inl rfl) (pe_lst pa_nil))
       (pss_cons (ps_for PassesOwn.never rfl (pi_range1 rfl T.b_range (pa_cons (pv 7) pa_nil)) (pg_name (i := 10) sc_Lform.nd rfl (Or.inl rfl))
       (pss_one (ps_if (pt_cmpR op_eq (pv 8) (pv 10) (nomark _)) (pss_one (ps_expr (pe_bm PySem.F.plainAttrs_list PySem.F.slot_list_append PySem.F.type_list_append mt_append (pv 9) (pa_cons (pe_call ih_Lform (hr.mono (by omega)) (by rfl) T.g_Lform T.F_Lform.kp T.B_Lform .nil pass0 (pa_cons (pv 0) (pa_cons (pe_op op_add (pe_op op_sub (pv 1) (pv 7)) pe_int) (pa_cons (pe_op op_sub (pv 2) (pv 7)) (pa_cons (pe_op op_sub (pv 3) pe_int) (pa_cons (pv 4) (pa_cons (pv 5) pa_nil))))))) pa_nil)))) (pss_one (ps_if (pt_cmpR op_lt (pv 8) (pv 7) (nomark _)) (pss_one (ps_expr (pe_bm PySem.F.plainAttrs_list PySem.F.slot_list_append PySem.F.type_list_append mt_append (pv 9) (pa_cons (pe_call (ok_Ltip T) (hr.mono (by omega)) (by rfl) T.g_Ltip T.F_Ltip.kp T.B_Ltip .nil pass0 (pa_cons (pv 0) (pa_cons (pv 4) (pa_cons (pv 5) pa_nil)))) pa_nil)))) (pss_one (ps_expr (pe_bm PySem.F.plainAttrs_list PySem.F.slot_list_append PySem.F.type_list_append mt_append (pv 9) (pa_cons (pe_call ih_Lform (hr.mono (by omega)) (by rfl) T.g_Lform T.F_Lform.kp T.B_Lform .nil pass0 (pa_cons (pv 0) (pa_cons (pe_op op_fdiv (pv 1) (pv 7)) (pa_cons (pe_op op_fdiv (pe_op op_sub (pv 2) pe_int) (pv 7)) (pa_cons (pe_op op_sub (pv 3) pe_int) (pa_cons (pv 4) (pa_cons (pv 5) pa_nil))))))) pa_nil)))))))))
       (pss_one (ps_ret (pe_tup (pa_cons (pe_ix (r := rIxL K) ix_list (pe_lst (pa_cons pe_str (pa_cons pe_str pa_nil))) (pe_op op_fdiv (pv 6) pe_int) (fun _ _ => rfl)) (pa_cons (pe_callTy (r := rTupOf K) call_tupO (by rfl) T.b_tuple (by decide +kernel) (pa_cons (pv 9) pa_nil)) pa_nil))))))))) pss_nil)
       (pss_cons (ps_if (pt_cmpR op_lt (pv 6) pe_int (nomark _)) (pss_cons (ps_set (i := 11) sc_Lform.nd rfl (Or.inl rfl) (pe_call (ok_Lnumbers T) (hr.mono (by omega)) (by rfl) T.g_Lnumbers T.F_Lnumbers.kp T.B_Lnumbers .nil pass0 (pa_cons (pv 0) (pa_cons (pv 1) pa_nil))))
       (pss_cons (ps_set (i := 12) sc_Lform.nd rfl (Or.inl rfl) (pe_cmpR op_eq (pe_call (ok_Lnext T) (hr.mono (by omega)) (by rfl) T.g_Lnext T.F_Lnext.kp T.B_Lnext .nil pass0 (pa_cons (pv 0) (pa_cons pe_int pa_nil))) pe_int (nomark _)))
       (pss_cons (ps_set (i := 13) sc_Lform.nd rfl (Or.inl rfl) (pe_call ih_Lform (hr.mono (by omega)) (by rfl) T.g_Lform T.F_Lform.kp T.B_Lform .nil pass0 (pa_cons (pv 0) (pa_cons (pe_op op_fdiv (pv 1) (pe_callB (call_max2 rfl) (by rfl) T.b_max (by decide +kernel) (pa_cons pe_int (pa_cons (pe_call (ok_Ltimes T) (hr.mono (by omega)) (by rfl) T.g_Ltimes T.F_Ltimes.kp T.B_Ltimes .nil pass0 (pa_cons (pv 11) pa_nil)) pa_nil)))) (pa_cons (pe_op op_sub (pv 2) pe_int) (pa_cons (pe_op op_sub (pv 3) pe_int) (pa_cons (pv 4) (pa_cons (pv 5) pa_nil))))))))
       (pss_one (ps_ret (pe_tup (pa_cons pe_str (pa_cons (pv 13) (pa_cons (pe_ix (r := rIxT K) ix_tup (pv 11) pe_int (fun _ _ => rfl)) (pa_cons (pe_ix (r := rIxT K) ix_tup (pv 11) pe_int (fun _ _ => rfl)) (pa_cons (pv 12) pa_nil))))))))))) pss_nil)
       (pss_cons (ps_if (PW.pt (pw_and (pt_val (pv 4)) (pw_and1 (pt_cmpR op_lt (pv 6) pe_int (nomark _))))) (pss_cons (ps_set (i := 14) sc_Lform.nd rfl (Or.inl rfl) (pe_call (ok_Lgroup_name T) (hr.mono (by omega)) (by rfl) T.g_Lgroup_name T.F_Lgroup_name.kp T.B_Lgroup_name .nil pass0 (pa_cons (pv 0) (pa_cons (pv 5) pa_nil))))
       (pss_cons (ps_expr (pe_bm PySem.F.plainAttrs_list PySem.F.slot_list_append PySem.F.type_list_append mt_append (pv 5) (pa_cons (pv 14) pa_nil)))
       (pss_one (ps_ret (pe_tup (pa_cons pe_str (pa_cons (pv 14) (pa_cons (pe_call ih_Lform (hr.mono (by omega)) (by rfl) T.g_Lform T.F_Lform.kp T.B_Lform .nil pass0 (pa_cons (pv 0) (pa_cons (pv 1) (pa_cons (pe_op op_sub (pv 2) pe_int) (pa_cons (pe_op op_sub (pv 3) pe_int) (pa_cons pe_bl (pa_cons (pv 5) pa_nil))))))) pa_nil)))))))) pss_nil)
       (pss_cons (ps_if (PW.pt (pw_and (pt_val (pv 4)) (pw_and1 (pt_cmpR op_gt (pe_ix (r := rIxL K) ix_list (pv 0) pe_int (fun _ _ => rfl)) pe_int (nomark _))))) (pss_cons (ps_asg (pe_op op_sub (pe_ix (r := rIxL K) ix_list (pv 0) pe_int (fun _ _ => rfl)) pe_int) (pg_sub (pv 0) pe_int set_list))
       (pss_cons (ps_set (i := 15) sc_Lform.nd rfl (Or.inl rfl) (pe_ix (r := rIxL K) ix_list (pe_lst (pa_cons pe_str (pa_cons pe_str pa_nil))) (pe_call (ok_Lnext T) (hr.mono (by omega)) (by rfl) T.g_Lnext T.F_Lnext.kp T.B_Lnext .nil pass0 (pa_cons (pv 0) (pa_cons pe_int pa_nil))) (fun _ _ => rfl)))
       (pss_cons (ps_set (i := 16) sc_Lform.nd rfl (Or.inl rfl) (pe_cmpR op_eq (pe_call (ok_Lnext T) (hr.mono (by omega)) (by rfl) T.g_Lnext T.F_Lnext.kp T.B_Lnext .nil pass0 (pa_cons (pv 0) (pa_cons pe_int pa_nil))) pe_int (nomark _)))
       (pss_one (ps_ret (pe_tup (pa_cons pe_str (pa_cons (pv 15) (pa_cons (pv 16) (pa_cons (pe_call ih_Lform (hr.mono (by omega)) (by rfl) T.g_Lform T.F_Lform.kp T.B_Lform .nil pass0 (pa_cons (pv 0) (pa_cons (pv 1) (pa_cons (pe_op op_sub (pv 2) pe_int) (pa_cons (pe_op op_sub (pv 3) pe_int) (pa_cons pe_bl (pa_cons (pv 5) pa_nil))))))) pa_nil)))))))))) pss_nil)
       (pss_one (ps_ret (pe_call (ok_Ltip T) (hr.mono (by omega)) (by rfl) T.g_Ltip T.F_Ltip.kp T.B_Ltip .nil pass0 (pa_cons (pv 0) (pa_cons (pv 4) (pa_cons (pv 5) pa_nil)))))))))))), fin_kn (f := "") (N := n_Lform) (fun ds ns R k hp => ?_) h⟩
      obtain ⟨f, m, d, o, rfl, f1, m1, m2, d1, d2, hn, hl, q⟩ := hp
      walk_at "d0"
      have tip : ∀ t, (∀ n, Wt (n + 1) t) → sz t = 1 → R (toDa t) ns := fun t ht hz => q t ns (ht n) (by omega) hn (by omega)
      walk_at "dx"
      refine sx_ofA ?_
      walk_at "dx"
      refine k_dr_next (by decide) (fun r r0 r1 => ?_)
      walk_at "dx"
      by_cases g1 : m < 2
      · walk_at "dx"
        refine sx_ret ?_
        walk_at "dx"
        exact ⟨o, ns, rfl, hn, by omega, fun t ht hz => ⟨trivial, q_rt ⟨_, ns, rfl, rfl, tip t ht hz⟩⟩⟩
      by_cases g2 : d < 2
      · walk_at "dx"
        refine sx_ret ?_
        walk_at "dx"
        exact ⟨o, ns, rfl, hn, by omega, fun t ht hz => ⟨trivial, q_rt ⟨_, ns, rfl, rfl, tip t ht hz⟩⟩⟩
      walk_at "dx"
      refine k_if (fun g => ?_) (fun g => ?_)
      · walk_at "dx"
        refine sx_ret ?_
        walk_at "dx"
        exact ⟨o, ns, rfl, hn, by omega, fun t ht hz => ⟨trivial, q_rt ⟨_, ns, rfl, rfl, tip t ht hz⟩⟩⟩
      have g3 := of_decide_eq_false g
      walk_at "dx"
      refine sx_ofN (sv_nil (li_nx (q_nx (sx_seq (sx_if (Tv.imp (S := fun b => b = decide (r < 9 ∧ 2 < m ∧ 1 < f)) ?_ (fun b hb => ?_)))))))
      · walk_at "dx"
        refine k_if (fun a1 => ?_) (fun a1 => ?_)
        · walk_at "dx"
          refine k_if (fun a2 => ?_) (fun a2 => ?_)
          · walk_at "dx"
            simp_all
          · simp_all <;> omega
        · simp_all <;> omega
      subst hb
      by_cases g4 : r < 9 ∧ 2 < m ∧ 1 < f
      · refine k_ift (decT g4) ?_
        obtain ⟨g41, g42, g43⟩ := g4
        walk_at "dx"
        refine sx_ofA ?_
        walk_at "dx"
        refine k_dr_next (by decide) (fun r2 r20 r21 => ?_)
        walk_at "dx"
        have hM : ∃ M : Int, M = (if f < (if m - 1 < 2 + r2 then m - 1 else 2 + r2) then f else (if m - 1 < 2 + r2 then m - 1 else 2 + r2)) ∧ 2 ≤ M ∧ M ≤ 4 ∧ M ≤ m - 1 ∧ M ≤ f := ⟨_, rfl, by split <;> split <;> omega, by split <;> split <;> omega, by split <;> split <;> omega, by split <;> split <;> omega⟩
        obtain ⟨M, eM, M1, M2, M3, M4⟩ := hM
        rw [← eM]
        clear eM
        refine sx_ofA ?_
        walk_at "dx"
        refine ⟨.inl (by decide), ?_⟩
        walk_at "dx"
        refine k_dr_next (by omega) (fun G G0 G1 => ?_)
        walk_at "dx"
        refine sx_ofA ?_
        walk_at "dx"
        rename_i pp
        refine k_r1 ⟨by omega, by omega⟩ ?_
        obtain ⟨mm, rfl⟩ := Int.eq_ofNat_of_zero_le (show 0 ≤ M by omega)
        obtain ⟨B, B0, BS, BE, Q1, Q2⟩ := form_bound (G := G) (m := m) (M := mm) (by omega) G0 (by omega)
        refine k_forX (fun i e => ∃ (ts : List Tr) (ns2 : List (List Nat)) (L : List Da), e = [some .dr, some (.vl (.int f)), some (.vl (.int m)), some (.vl (.int d)), some (.vl (.bl o)), some (.own k (ns2.map tD)), some (.vl (.int r)), some (.vl (.int ((mm : Nat) : Int))), some (.vl (.int G)), some (.own pp L), none, none, none, none, none, none, none] ∧ L = ts.map toDa ∧ ts.length = i ∧ (∀ t ∈ ts, Wt n t) ∧ (szs ts : Int) ≤ B i ∧ (∀ x ∈ ns2, NmOk x) ∧ ns2.length ≤ ns.length + szs ts) ⟨_, ?_, [], ns, [], rfl, rfl, rfl, (fun t ht => by cases ht), (by simpa [szs] using B0), hn, by omega⟩ (fun _ _ _ => trivial) (fun i dd e hd hI => ?_) (fun e hI => ?_)
        · walk_at "wk"
        · obtain ⟨ts, ns2, _, rfl, rfl, hlen, hw, hsz, hn2, hl2⟩ := hI
          obtain ⟨hi, rfl⟩ := range_da hd
          have hi2 : i < mm := by simpa using hi
          obtain ⟨b1, b2, b3⟩ := BS i hi2
          have en : ∀ t : Tr, ts.map toDa ++ [toDa t] = (ts ++ [t]).map toDa := fun t => by rw [List.map_append]; rfl
          have esz : ∀ t : Tr, szs (ts ++ [t]) = szs ts + sz t := fun t => by rw [szs_app]; simp [szs]
          have hw2 : ∀ t : Tr, Wt n t → ∀ x ∈ ts ++ [t], Wt n x := fun t ht x hx => by
            rcases List.mem_append.mp hx with hx | hx
            · exact hw x hx
            · rw [List.mem_singleton.mp hx]; exact ht
          have BEi := BE i (Nat.le_of_lt hi2)
          have hts := len_szs ts
          have BEj := BE (i + 1) hi2
          walk_at "dx"
          refine k_if (fun g5 => ?_) (fun g5 => ?_)
          · have g6 : G = i := of_decide_eq_true g5
            have b1 := b1 g6
            refine sx_appM (i := 9) rfl ?_
            refine em_kn (i := 0) (j := 5) rfl rfl ?_
            walk_at "dx"
            refine ⟨_, _, _, o, rfl, by omega, by omega, by omega, by omega, by omega, hn2, by omega, fun t ns3 ht hz hn3 hl3 => ⟨rfl, toLineB (by rw [List.length_map]; omega), ?_⟩⟩
            refine lx_nx ⟨_, ?_, ts ++ [t], ns3, _, rfl, en t, by rw [List.length_append, List.length_singleton, hlen], hw2 t ht, by rw [esz]; omega, hn3, by rw [esz]; omega⟩
            walk_at "wk"
          · have g6 : G ≠ i := of_decide_eq_false g5
            walk_at "dx"
            refine k_if (fun g7 => ?_) (fun g7 => ?_)
            · have b2 := b2 g6 (of_decide_eq_true g7)
              refine sx_appM (i := 9) rfl (em_of ?_)
              walk_at "dx"
              refine ⟨o, ns2, rfl, hn2, by omega, fun t ht hz => ⟨trivial, ?_⟩⟩
              walk_at "dx"
              refine ⟨rfl, toLineB (by rw [List.length_map]; omega), ?_⟩
              refine lx_nx ⟨_, ?_, ts ++ [t], ns2, _, rfl, en t, by rw [List.length_append, List.length_singleton, hlen], hw2 t ?_, by rw [esz]; omega, hn2, by rw [esz]; omega⟩
              · walk_at "wk"
              · obtain ⟨n', rfl⟩ : ∃ n', n = n' + 1 := ⟨n - 1, by omega⟩
                exact ht n'
            · have b3 := b3 (by have := of_decide_eq_false g7; omega)
              refine sx_appM (i := 9) rfl ?_
              refine em_kn (i := 0) (j := 5) rfl rfl ?_
              walk_at "dx"
              refine ⟨⟨by omega, by omega⟩, ?_⟩
              walk_at "dx"
              refine ⟨⟨by omega, by omega⟩, ?_⟩
              walk_at "dx"
              refine ⟨_, _, _, o, rfl, ?_, by omega, by omega, by omega, by omega, hn2, by omega, fun t ns3 ht hz hn3 hl3 => ⟨rfl, toLineB (by rw [List.length_map]; omega), ?_⟩⟩
              · exact (Int.le_ediv_iff_mul_le (by omega)).mpr (by omega)
              refine lx_nx ⟨_, ?_, ts ++ [t], ns3, _, rfl, en t, by rw [List.length_append, List.length_singleton, hlen], hw2 t ht, by rw [esz]; omega, hn3, by rw [esz]; omega⟩
              walk_at "wk"
        · obtain ⟨ts, ns2, _, rfl, rfl, hlen, hw, hsz, hn2, hl2⟩ := hI
          rw [range_len] at hlen hsz
          have BEm := BE mm (Nat.le_refl _)
          rw [Int.toNat_natCast] at hlen hsz
          refine ⟨.of rfl, ?_⟩
          walk_at "dx"
          refine sx_ret ?_
          walk_at "dx"
          refine ⟨⟨by decide, by decide⟩, ?_⟩
          walk_at "dx"
          have hr5 : r / 5 = 0 ∨ r / 5 = 1 := by omega
          rcases hr5 with e5 | e5
          · rw [e5]
            walk_at "dx"
            have := q (.seq ts) ns2 (.seq hw) (by rw [sz]; omega) hn2 (by rw [sz]; omega)
            rw [toDa, toDas_map] at this
            exact ⟨_, ns2, rfl, rfl, this⟩
          · rw [e5]
            walk_at "dx"
            have := q (.alt ts) ns2 (.alt hw) (by rw [sz]; omega) hn2 (by rw [sz]; omega)
            rw [toDa, toDas_map] at this
            exact ⟨_, ns2, rfl, rfl, this⟩
      refine k_iff (decF g4) ?_
      refine sx_ofN ?_
      walk_at "dx"
      refine k_if (fun g5 => ?_) (fun g5 => ?_)
      · refine sx_seq ?_
        refine sx_ofA ?_
        walk_at "dx"
        refine ⟨f, rfl, f1, fun lo hi hnb => ⟨trivial, ?_⟩⟩
        walk_at "dx"
        refine sx_ofA ?_
        walk_at "dx"
        refine k_dr_next (by decide) (fun r2 r20 r21 => ?_)
        walk_at "dx"
        refine sx_setM (em_kn (i := 0) (j := 5) rfl rfl ?_)
        walk_at "dx"
        refine ⟨lo, hi, rfl, trivial, ?_⟩
        walk_at "dx"
        have ht : ∃ tm : Int, tm = (if timesOf lo hi > 1 then timesOf lo hi else 1) ∧ 1 ≤ tm ∧ tm ≤ f ∧ tm ≤ 10 := by
          refine ⟨_, rfl, ?_⟩
          cases hi with
          | none => obtain ⟨z1, z2, z3⟩ := hnb; rw [timesOf]; split <;> omega
          | some h => obtain ⟨z1, z2, z3, z4⟩ := hnb; rw [timesOf]; split <;> omega
        obtain ⟨tm, etm, tm1, tm2, tm3⟩ := ht
        rw [← etm]
        clear etm
        refine ⟨⟨by omega, by omega⟩, ?_⟩
        walk_at "dx"
        refine ⟨_, _, _, o, rfl, (Int.le_ediv_iff_mul_le (by omega)).mpr (by omega), by omega, by omega, by omega, by omega, hn, by omega, fun t ns3 ht hz hn3 hl3 => ?_⟩
        walk_at "dx"
        refine sx_ret ?_
        walk_at "dx"
        have := q (.rep t lo hi (decide (r2 = 0))) ns3 (by
          cases hi with
          | none => obtain ⟨z1, z2, z3⟩ := hnb; exact .rep (by omega) (by omega) (fun _ e => by cases e) ht
          | some h => obtain ⟨z1, z2, z3, z4⟩ := hnb; exact .rep (by omega) (by omega) (fun _ e => by cases e; omega) ht) (by rw [sz]; omega) hn3 (by rw [sz]; omega)
        rw [toDa] at this
        exact ⟨_, ns3, rfl, rfl, this⟩
      have g6 := of_decide_eq_false g5
      refine sx_ofN (sv_nil (li_nx (q_nx (sx_seq (sx_if (Tv.imp (S := fun b => b = decide (o = true ∧ r < 16)) ?_ (fun b hb => ?_)))))))
      · walk_at "dx"
        refine k_if (fun a1 => ?_) (fun a1 => ?_)
        · walk_at "dx"
          simp_all
        · simp_all
      subst hb
      have grp : ∀ x t ns3, NmOk x → Wt n t → (sz t : Int) ≤ m - 1 → (∀ y ∈ ns3, NmOk y) → ns3.length ≤ (ns ++ [x]).length + sz t → R (.tup [.str (Str.ofString "group"), tD x, toDa t]) ns3 := fun x t ns3 hx ht hz hn3 hl3 => by
        rw [List.length_append, List.length_singleton] at hl3
        have := q (.grp x t) ns3 (.grp (by have := hx.2; omega) ht) (by rw [sz]; omega) hn3 (by rw [sz]; omega)
        rw [toDa] at this
        exact this
      by_cases g7 : o = true ∧ r < 16
      · refine k_ift (decT g7) ?_
        refine sx_seq ?_
        refine sx_ofA ?_
        walk_at "dx"
        refine ⟨ns, rfl, hn, by omega, fun x hx => ⟨trivial, ?_⟩⟩
        walk_at "dx"
        refine sx_appM (i := 5) rfl (em_of ?_)
        walk_at "dx"
        refine ⟨rfl, toLineB (by rw [List.length_map]; omega), ?_⟩
        walk_at "dx"
        refine sx_retM (em_tup (ems_cons (em_of ?_)))
        walk_at "dx"
        refine em_of ?_
        walk_at "dx"
        refine em_kn (i := 0) (j := 5) (ns := ns ++ [x]) rfl (by rw [List.map_append]; rfl) ?_
        walk_at "dx"
        refine ⟨f, _, _, true, rfl, f1, by omega, by omega, by omega, by omega, fun y hy => ?_, by rw [List.length_append, List.length_singleton]; omega, fun t ns3 ht hz hn3 hl3 => ?_⟩
        · rcases List.mem_append.mp hy with hy | hy
          · exact hn y hy
          · rw [List.mem_singleton.mp hy]; exact hx
        walk_at "dx"
        exact ⟨toL (show (3 : Nat) ≤ 16000000 by decide), ⟨_, ns3, rfl, rfl, grp x t ns3 hx ht hz hn3 hl3⟩⟩
      refine k_iff (decF g7) ?_
      refine sx_ofN (sv_nil (li_nx (q_nx (sx_seq (sx_if (Tv.imp (S := fun _ => True) ?_ (fun b _ => ?_)))))))
      · walk_at "dx"
        refine k_if (fun a1 => ?_) (fun a1 => ?_)
        · walk_at "dx"
          intro e
          walk_at "dx"
          exact trivial
        · exact trivial
      have lk : ∀ sd b t ns3, sd.length ≤ 24 → Wt n t → (sz t : Int) ≤ m - 1 → (∀ y ∈ ns3, NmOk y) → ns3.length ≤ ns.length + sz t → R (.tup [.str (Str.ofString "look"), .str (tx sd), .bl b, toDa t]) ns3 := fun sd b t ns3 hx ht hz hn3 hl3 => by
        have := q (.look sd b t) ns3 (.look hx ht) (by rw [sz]; omega) hn3 (by rw [sz]; omega)
        rw [toDa] at this
        exact this
      refine k_if (fun _ => ?_) (fun _ => ?_)
      · refine sx_seq ?_
        refine sx_of ?_
        walk_at "dx"
        intro e
        walk_at "dx"
        refine sx_ofA ?_
        walk_at "dx"
        refine k_dr_next (by decide) (fun r2 r20 r21 => ?_)
        walk_at "dx"
        refine k_ixR r20 r21 (fun dd hd => ?_)
        have : ∃ cs : List Nat, dd = .str (tx cs) ∧ cs.length ≤ 24 := by
          simp only [List.mem_cons, List.not_mem_nil, or_false] at hd
          rcases hd with rfl | rfl
          all_goals exact ⟨_, rfl, by decide⟩
        obtain ⟨sd, rfl, hsd⟩ := this
        walk_at "dx"
        refine sx_ofA ?_
        walk_at "dx"
        refine k_dr_next (by decide) (fun r3 r30 r31 => ?_)
        walk_at "dx"
        refine sx_retM (em_tup (ems_cons (em_of ?_)))
        walk_at "dx"
        refine em_of ?_
        walk_at "dx"
        refine em_of ?_
        walk_at "dx"
        refine em_kn (i := 0) (j := 5) (ns := ns) rfl rfl ?_
        walk_at "dx"
        refine ⟨f, _, _, false, rfl, f1, by omega, by omega, by omega, by omega, hn, by omega, fun t ns3 ht hz hn3 hl3 => ?_⟩
        walk_at "dx"
        exact ⟨toL (show (4 : Nat) ≤ 16000000 by decide), ⟨_, ns3, rfl, rfl, lk sd _ t ns3 hsd ht hz hn3 hl3⟩⟩
      · refine sx_ofN ?_
        walk_at "dx"
        refine sx_ret ?_
        walk_at "dx"
        exact ⟨o, ns, rfl, hn, by omega, fun t ht hz => ⟨trivial, ⟨_, ns, rfl, rfl, tip t ht hz⟩⟩⟩
end
end My
namespace My
open PySem L2
local macro_rules | `(tactic| walk_at "rd") => `(tactic| simp only [tSeq, tNext, tAsg, tOp, tUn, tC, tVar, gName, gSub, tCons, tNil, tCB, tIfS, tIf, tTest, tB, tAnd, tOr, tNot, tAndV, tOrV, tNotV, tRet, tRetN, tDrop, tLst, tTup, tCall, tSl, tNoPart, tPart, tM0, tM1, tBM, tBM0, tYes, tFor_eq, tLc_eq, iList, iRng1, iRng2, iStr, sg_tx, c_empty, rstrip_sign, find_sign, cut_last, cut_to, cut_from, cut_mid, cut_to_lit, cut_from_lit, and_assoc, flat_rep, List.length_replicate, tx_len, tx_eq, tx_app, tx_cps, rI0, rI, rU, rEq, rNe, rIxL, rIxS, rIxT, rSetL, rAppend, rPopAt, rSlS, rSlL, rIn, rMulS, rLtD, rJoin, rLenQ, rListOf,  tRevS, 
  scal, L2.start, List.map_cons, List.map_nil, List.length_cons, List.length_nil, List.replicate, List.cons_append, List.nil_append, List.append_nil,
  List.getElem?_cons_zero, List.getElem?_cons_succ, List.set_cons_zero, List.set_cons_succ, Nat.sub_zero, Nat.reduceSub, Nat.reduceAdd, Nat.zero_add, id_eq, Int.reduceToNat, exists_or,
  V.int.injEq, V.str.injEq, V.bl.injEq, V.ref.injEq, Option.some.injEq, List.cons.injEq, exists_and_left, exists_eq_left', exists_eq_left, exists_eq, exists_eq', and_true, true_and, reduceCtorEq, false_and, and_false, exists_false, false_or, or_false, decide_eq_true_eq, Bool.not_eq_true', decide_eq_false_iff_not, Bool.not_not, Bool.false_eq_true, ↓reduceIte, if_true, if_false])

local macro_rules | `(tactic| walk_at "ne") => `(tactic| first | assumption | (refine Ne.symm ?_; assumption) | exact (ne_of_none (by assumption) (by assumption)) | exact (ne_of_none (by assumption) (by assumption)).symm)
local macro_rules | `(tactic| walk_at "hp") => `(tactic| first | assumption | exact upd_same | exact (upd_ne (by walk_at "ne")).trans (by walk_at "hp"))
local macro_rules | `(tactic| walk_at "st1") => `(tactic| first
  | refine ⟨_, Or.inl (Or.inl (by walk_at "hp")), ?_⟩
  | refine ⟨_, Or.inl (Or.inl (Or.inl (by walk_at "hp"))), ?_⟩
  | refine ⟨_, (show _ = some (HO.lst _) by walk_at "hp"), ?_⟩
  | refine ⟨_, rfl, ?_⟩
  | refine ⟨(rfl : ("str" : String) = "str"), ?_⟩
  | refine ⟨Or.inr ⟨by decide, by decide⟩, ?_⟩
  | refine ⟨⟨by decide, by decide⟩, ?_⟩
  | refine ⟨by decide, ?_⟩
  | refine ⟨by assumption, ?_⟩)
local macro_rules | `(tactic| walk_at "st") => `(tactic| repeat walk_at "st1")
local macro_rules | `(tactic| walk_at "go") => `(tactic| repeat first | walk_at "st1" | walk_at "rd")
local macro_rules | `(tactic| walk_at "wk") => `(tactic| repeat first | exact Wk.nil | apply Wk.yes | apply Wk.no)
local macro_rules | `(tactic| walk_at "ds1") => `(tactic| first
  | ((with_reducible show Sv _ _ _ _); (first | (((with_reducible apply sv_putE); next => rfl)) | (with_reducible apply sv_seq) | (with_reducible apply sv_if) | (((with_reducible apply sv_retO); next => rfl)) | (with_reducible refine sv_retN (el_lst ?_)) | (with_reducible refine sv_retN (el_call ?_)) | (with_reducible refine sv_retN (el_lc ?_)) | (with_reducible refine sv_retN (el_list ?_)) | (with_reducible refine sv_retN (el_cat ?_)) | (with_reducible apply sv_ret) | (with_reducible refine sv_setN (el_lst ?_)) | (with_reducible refine sv_setN (el_call ?_)) | (with_reducible refine sv_setN (el_lc ?_)) | (with_reducible refine sv_setN (el_list ?_)) | (with_reducible refine sv_setN (el_cat ?_)) | (with_reducible refine sv_setN (el_callD rfl ?_)) | (((with_reducible apply sv_putD); next => rfl)) | (with_reducible apply sv_set) | (((with_reducible apply sv_app); next => rfl)) | (((with_reducible apply sv_ext); next => rfl)) | (((with_reducible apply sv_put); next => rfl)) | (with_reducible apply sv_for) | (with_reducible apply sv_nil) | (with_reducible apply sv_retNone) | (with_reducible apply sv_drop)))
  | ((with_reducible show Ev _ _ _ _); (first | (with_reducible apply ev_min3) | (with_reducible apply ev_q0) | (with_reducible apply ev_q1) | (with_reducible apply ev_q2) | (with_reducible apply ev_q3) | (with_reducible apply ev_q4) | (with_reducible apply ev_q5) | (with_reducible apply ev_q6) | (with_reducible apply ev_q7) | (with_reducible apply ev_q8) | (with_reducible apply ev_q9) | (with_reducible apply ev_q10) | (with_reducible apply ev_q11) | (with_reducible apply ev_q12) | (with_reducible apply ev_q13) | (with_reducible apply ev_q14) | (with_reducible apply ev_q15) | (with_reducible apply ev_q16) | (with_reducible apply ev_q17) | (with_reducible apply ev_q18) | (with_reducible apply ev_q19) | (with_reducible apply ev_q20) | (with_reducible apply ev_q21) | (with_reducible apply ev_q22) | (with_reducible apply ev_q23) | (with_reducible apply ev_q24) | (with_reducible apply ev_q25) | (with_reducible apply ev_q26) | (with_reducible apply ev_q27) | (with_reducible apply ev_q28) | (with_reducible apply ev_q29) | (with_reducible apply ev_q30) | (with_reducible apply ev_q31) | (with_reducible apply ev_q32) | (with_reducible apply ev_q33) | (with_reducible apply ev_q34) | (with_reducible apply ev_q35) | (with_reducible apply ev_q36) | (with_reducible apply ev_q37) | (with_reducible apply ev_q38) | (with_reducible apply ev_q39) | (with_reducible apply ev_q40) | (with_reducible apply ev_q41) | (with_reducible apply ev_q42) | (with_reducible apply ev_q43) | (with_reducible apply ev_q44) | (with_reducible apply ev_q45) | (with_reducible apply ev_catX) | (with_reducible apply ev_inS) | (with_reducible apply ev_ninS) | (with_reducible apply ev_joinE) | (with_reducible apply ev_joinB) | (with_reducible apply ev_wset) | (with_reducible apply ev_strIN) | (with_reducible apply ev_fmt) | (with_reducible apply ev_joined) | (with_reducible apply ev_slX) | (with_reducible apply ev_lenX) | (with_reducible apply ev_sgs) | (((with_reducible apply ev_ixD); next => rfl)) | (((with_reducible apply ev_ktup); next => assumption)) | (((with_reducible apply ev_var); next => rfl)) | (((with_reducible apply ev_varO); next => rfl)) | (((with_reducible apply ev_varL); next => rfl)) | (((with_reducible apply ev_callD); next => rfl)) | (((with_reducible apply ev_dr); next => rfl)) | (with_reducible apply ev_max2) | (with_reducible apply ev_min2) | (with_reducible apply ev_index) | (with_reducible apply ev_eqD) | (with_reducible apply ev_neD) | (with_reducible apply ev_str) | (with_reducible apply ev_int) | (with_reducible apply ev_bl) | (with_reducible apply ev_non) | (with_reducible apply ev_ixT) | (with_reducible apply ev_call) | (with_reducible apply ev_eq) | (with_reducible apply ev_tup) | (with_reducible apply ev_in) | (with_reducible apply ev_ixL) | (with_reducible apply ev_ne) | (with_reducible apply ev_i0) | (with_reducible apply ev_ib) | (with_reducible apply ev_isi) | (with_reducible apply ev_isN) | (with_reducible apply ev_notN) | (with_reducible apply ev_isB) | (with_reducible apply ev_notB) | (with_reducible apply ev_slT2) | (with_reducible apply ev_catU) | (with_reducible apply ev_iC) | (with_reducible apply ev_ixS) | (with_reducible apply ev_u) | (with_reducible apply ev_notV) | (with_reducible apply ev_if) | (with_reducible apply ev_len) | (with_reducible apply ev_tuple) | (with_reducible apply ev_all) | (with_reducible refine Ev.ofNew (el_lst ?_)) | (with_reducible refine Ev.ofNew (el_call ?_)) | (with_reducible refine Ev.ofNew (el_lc ?_)) | (with_reducible refine Ev.ofNew (el_list ?_)) | (with_reducible refine Ev.ofNew (el_cat ?_))))
  | ((with_reducible show Es _ _ _ _); (first | (with_reducible apply es_cons) | (with_reducible apply es_nil)))
  | ((with_reducible show Tv _ _ _ _); (first | (with_reducible apply tv_test) | (with_reducible apply tv_not) | (with_reducible apply tv_and) | (with_reducible apply tv_or) | (with_reducible apply tv_b) | (with_reducible apply tv_yes) | (with_reducible apply tv_tr)))
  | ((with_reducible show Eln _ _ _ _); (first | (with_reducible apply el_lst) | (with_reducible apply el_call) | (with_reducible apply el_lc) | (with_reducible apply el_list) | (with_reducible apply el_cat)))
  | ((with_reducible show Eo _ _ _ _); (first | (with_reducible apply eo_no) | (with_reducible apply eo_some)))
  | ((with_reducible show Iv _ _ _ _); (first | (with_reducible apply iv_tup) | (with_reducible apply iv_range1) | (with_reducible apply iv_str) | (with_reducible apply iv_enumT) | (((with_reducible apply iv_listV); next => rfl)) | (((with_reducible apply iv_listO); next => rfl)) | (with_reducible refine iv_listN (el_lst ?_)) | (with_reducible refine iv_listN (el_call ?_)) | (with_reducible refine iv_listN (el_lc ?_)) | (with_reducible refine iv_listN (el_list ?_)) | (with_reducible refine iv_listN (el_cat ?_))))
  | ((with_reducible show Gv _ _ _ _ _ _); (first | (with_reducible apply gv_name) | (with_reducible apply gv_tup2) | (with_reducible apply gv_tup3)))
  | ((with_reducible show seqO _ _ _ _); (first | (with_reducible apply o_nx) | (with_reducible apply o_rt) | (with_reducible apply o_rn) | (with_reducible apply o_bk) | (with_reducible apply o_ct)))
  | ((with_reducible show jnI _ _ _); (first | (with_reducible apply ji_nx) | (with_reducible apply ji_rt) | (with_reducible apply ji_rn) | (with_reducible apply ji_bk) | (with_reducible apply ji_ct)))
  | ((with_reducible show jnO _ _ _); (first | (with_reducible apply j_nx) | (with_reducible apply j_rt) | (with_reducible apply j_rn) | (with_reducible apply j_bk) | (with_reducible apply j_ct)))
  | ((with_reducible show lpO _ _ _ _); (first | (with_reducible apply l_rt) | (with_reducible apply l_rn) | (with_reducible apply l_ct) | (with_reducible apply l_nx')))
  | ((with_reducible show retO _ _); (first | (with_reducible apply r_rt) | (with_reducible apply r_nx)))
  | (with_reducible apply r_rn)
  | ((with_reducible show KIf _ _ _); (first | (((with_reducible apply k_ift); next => first | decide +kernel | rfl)) | (((with_reducible apply k_iff); next => first | decide +kernel | rfl))))
  | ((with_reducible show KEq _ _ _); (first | (with_reducible apply k_eqIN) | (with_reducible apply k_eqNI) | (with_reducible apply k_eqS) | (with_reducible apply k_eqI) | (with_reducible apply k_eqB) | (((with_reducible apply k_eqO); next => rfl; next => rfl; next => rfl; next => rfl))))
  | ((with_reducible show KDas _ _); (first | (with_reducible apply k_das_0) | (with_reducible apply k_das_1) | (with_reducible apply k_das_2) | (with_reducible apply k_das_3) | (with_reducible apply k_das_4) | (with_reducible apply k_das_5) | (with_reducible apply k_das_6) | (with_reducible apply k_das_7) | (with_reducible apply k_das_8) | (with_reducible apply k_das_9) | (with_reducible apply k_das_10) | (with_reducible apply k_das_11) | (with_reducible apply k_das_12) | (with_reducible apply k_das_13) | (with_reducible apply k_das_14) | (with_reducible apply k_das_15) | (with_reducible apply k_das_16)))
  | ((with_reducible show KIn _ _ _); (first | (with_reducible apply k_inT_0) | (with_reducible apply k_inL_0) | (with_reducible apply k_inT_1) | (with_reducible apply k_inL_1) | (with_reducible apply k_inT_2) | (with_reducible apply k_inL_2) | (with_reducible apply k_inT_3) | (with_reducible apply k_inL_3) | (with_reducible apply k_inT_4) | (with_reducible apply k_inL_4) | (with_reducible apply k_inT_5) | (with_reducible apply k_inL_5) | (with_reducible apply k_inT_6) | (with_reducible apply k_inL_6) | (with_reducible apply k_inT_7) | (with_reducible apply k_inL_7) | (with_reducible apply k_inT_8) | (with_reducible apply k_inL_8) | (with_reducible apply k_inT_9) | (with_reducible apply k_inL_9) | (with_reducible apply k_inT_10) | (with_reducible apply k_inL_10) | (with_reducible apply k_inT_11) | (with_reducible apply k_inL_11) | (with_reducible apply k_inT_12) | (with_reducible apply k_inL_12) | (with_reducible apply k_inN) | (((with_reducible apply k_inT); next => rfl; next => rfl)) | (((with_reducible apply k_inL); next => rfl; next => rfl))))
  | ((with_reducible show KEqD _ _ _); (first | (with_reducible apply k_eqIntsC) | (with_reducible apply k_eqInts0) | (with_reducible apply k_eqInts)))
  | (with_reducible apply k_put0)
  | ((with_reducible show KTy _ _ _); (first | (with_reducible apply k_ty_tup_tuple) | (with_reducible apply k_ty_tup_bool) | (with_reducible apply k_ty_tup_int) | (with_reducible apply k_ty_tup_str) | (with_reducible apply k_ty_tup_list) | (with_reducible apply k_ty_ls_tuple) | (with_reducible apply k_ty_ls_bool) | (with_reducible apply k_ty_ls_int) | (with_reducible apply k_ty_ls_str) | (with_reducible apply k_ty_ls_list) | (with_reducible apply k_ty_int_tuple) | (with_reducible apply k_ty_int_bool) | (with_reducible apply k_ty_int_int) | (with_reducible apply k_ty_int_str) | (with_reducible apply k_ty_int_list) | (with_reducible apply k_ty_str_tuple) | (with_reducible apply k_ty_str_bool) | (with_reducible apply k_ty_str_int) | (with_reducible apply k_ty_str_str) | (with_reducible apply k_ty_str_list) | (with_reducible apply k_ty_bl_tuple) | (with_reducible apply k_ty_bl_bool) | (with_reducible apply k_ty_bl_int) | (with_reducible apply k_ty_bl_str) | (with_reducible apply k_ty_bl_list) | (with_reducible apply k_ty_non_tuple) | (with_reducible apply k_ty_non_bool) | (with_reducible apply k_ty_non_int) | (with_reducible apply k_ty_non_str) | (with_reducible apply k_ty_non_list)))
  | ((with_reducible show KSl _ _ _ _); (first | (with_reducible apply k_sl_1) | (with_reducible apply k_sl_2) | (with_reducible apply k_sl_m2) | (with_reducible apply k_sl_m3) | (with_reducible apply k_sl_m4) | (with_reducible apply k_sl_m5)))
  | ((with_reducible show KCat _ _ _); (first | (with_reducible apply k_cat1) | (with_reducible apply k_cat2) | (with_reducible apply k_cat3) | (with_reducible apply k_cat23)))
  | ((with_reducible show KLen _ _); (first | (with_reducible apply k_lenT) | (with_reducible apply k_lenL)))
  | ((with_reducible show KSq _ _); (first | (with_reducible apply k_sqT) | (with_reducible apply k_sqL)))
  | (with_reducible apply k_i2s)
  | (with_reducible apply k_d)
  | ((with_reducible show KT _ _); (first | (with_reducible apply k_t) | (with_reducible apply k_tT)))
  | (with_reducible apply k_l)
  | (with_reducible apply k_i1)
  | (with_reducible apply k_i2)
  | (with_reducible apply k_b)
  | (with_reducible apply k_n)
  | (with_reducible apply k_tx)
  | (with_reducible apply k_t1)
  | (with_reducible apply k_ts)
  | with_reducible apply k_ix_0
  | with_reducible apply k_ix_1
  | ((with_reducible apply k_ixT2); next => rfl)
  | with_reducible apply gx_name
  | with_reducible apply gx_tup2
  | with_reducible apply gx_tup3
  | with_reducible refine (fun (p : Addr) => (?_ : seqO _ _ _ _))
  | with_reducible refine (fun (p : Addr) => (?_ : lpO _ _ _ _))
  | with_reducible refine (fun (p : Addr) => (?_ : liO _ _))
  | ((with_reducible show KTr _ _); (first | (with_reducible apply k_trI) | (with_reducible apply k_trB)))
  | (with_reducible apply k_sg)
  | ((with_reducible show Sx _ _ _ _ _ _ _ _); (first | (with_reducible apply sx_seq) | (with_reducible apply sx_if) | (with_reducible refine sx_retN (el_lst ?_)) | (with_reducible refine sx_retN (el_call ?_)) | (with_reducible refine sx_retN (el_lc ?_)) | (with_reducible refine sx_retN (el_list ?_)) | (with_reducible refine sx_retN (el_cat ?_)) | (with_reducible apply sx_for)))
  | ((with_reducible show Ej _ _ _ _ _); (first | (with_reducible apply ej_nil) | (with_reducible apply ej_cons)))
  | ((with_reducible show liO _ _); (first | (with_reducible apply li_nx) | (with_reducible apply li_bk) | (with_reducible apply li_ct)))
  | ((with_reducible show sqX _ _ _ _ _ _ _ _); (first | (with_reducible apply q_nx) | (with_reducible apply q_rt) | (with_reducible apply q_rn) | (with_reducible apply q_bk) | (with_reducible apply q_ct)))
  | (with_reducible apply lx_nx)
  | ((with_reducible show Ems _ _ _ _); (first | (with_reducible apply ems_cons) | (with_reducible apply ems_nil)))
  | (with_reducible apply k_tj)
  | (with_reducible apply k_i3)
  | ((with_reducible show Ek _ _ _ _ _); (first | (((with_reducible apply ek_last); next => rfl)) | (with_reducible apply ek_cons))))
local macro_rules | `(tactic| walk_at "ds") => `(tactic| repeat walk_at "ds1")
local macro_rules | `(tactic| walk_at "d0") => `(tactic| (try simp only [cx_K, cx_K', List.map_cons, List.map_nil]))
local macro_rules | `(tactic| walk_at "da") => `(tactic| repeat first | walk_at "ds1" | (with_reducible apply sv_cut) | (with_reducible apply sx_cut))
local macro_rules | `(tactic| walk_at "lx") => `(tactic| (refine toL ?_; (try simp only [List.length_append, List.length_cons, List.length_nil]); omega))
local macro_rules | `(tactic| walk_at "dx") => `(tactic| repeat first | walk_at "ds1" | (with_reducible apply sv_cut) | (with_reducible apply sx_cut) | (with_reducible refine k_x2 (by walk_at "lx") ?_) | (with_reducible refine k_stI (by assumption) ?_) | (with_reducible refine k_stN ?_) | (with_reducible refine k_lx (by walk_at "lx") ?_) | (with_reducible refine k_ift (decT (by omega)) ?_) | (with_reducible refine k_iff (decF (by omega)) ?_))
section
variable {P : Program} {w : World} {K : PySem.W.Frag} {mg : Str → Option Value} {base : Heap}
def pre_chain (n : Nat) : List Da → List (List Nat) → (Da → List (List Nat) → Prop) → Prop := fun ds ns R => ∃ (d : Int) (o : Bool), ds = [.int d, .bl o] ∧ 1 ≤ d ∧ d ≤ (n : Nat) ∧ d ≤ 12 ∧ (∀ x ∈ ns, NmOk x) ∧ (ns.length : Int) + 2 * d ≤ 900 ∧
  ∀ t ns', Wt n t → (sz t : Int) ≤ 2 * d → (∀ x ∈ ns', NmOk x) → ns'.length ≤ ns.length + sz t → R (toDa t) ns'
set_option maxHeartbeats 8000000 in
theorem ok_Lchain (T : Top K mg) : ∀ n : Nat, FnOk P w K mg base CX0 (4 + n) T.f_Lchain T.fd_Lchain ["_law_draw_here", "_law_depth", "_law_outside", "_law_known"] (sp_kn K (pre_chain n))
  | 0 => ⟨fun _ _ _ _ h => by
      obtain ⟨_, _, _, _, _, _, _, _, _, _, _, _, _, _, _, ⟨_, _, _, h1, h2, _⟩, _⟩ := h
      exfalso; simp at h2; omega, fun _ _ _ _ _ _ _ _ _ _ _ _ _ h => by
      obtain ⟨_, _, _, _, _, _, _, _, _, _, _, _, _, _, _, ⟨_, _, _, h1, h2, _⟩, _⟩ := h
      exfalso; simp at h2; omega⟩
  | n + 1 => by
    have ih_Lchain := ok_Lchain T n
    refine T.F_Lchain.ok sc_Lchain (fun vs H Q E h => ?_) (fun cdv A outer s H vs Q E hr h => ?_)
    · obtain ⟨d, l, k, ds, ws, us, ns, R, rfl, _, hx, _, _, _, _, ⟨_, _, rfl, _⟩, _⟩ := h
      rw [List.length_cons, List.length_append, hx.len]
      rfl
    · replace hr := hr.mono (show n + 4 ≤ Nat.add 4 n from Nat.le_of_eq (Nat.add_comm n 4))
      refine ⟨_, (pss_cons (ps_set (i := 4) sc_Lchain.nd rfl (Or.inl rfl) (pe_call (ok_Lnext T) (hr.mono (by omega)) (by rfl) T.g_Lnext T.F_Lnext.kp T.B_Lnext .nil pass0 (pa_cons (pv 0) (pa_cons pe_int pa_nil))))
       (pss_cons (ps_if (pt_cmpR op_lt (pv 1) pe_int (nomark _)) (pss_one (ps_ret (pe_call (ok_Ltip T) (hr.mono (by omega)) (by rfl) T.g_Ltip T.F_Ltip.kp T.B_Ltip .nil pass0 (pa_cons (pv 0) (pa_cons (pv 2) (pa_cons (pv 3) pa_nil)))))) pss_nil)
       (pss_cons (ps_if (pt_cmpR op_lt (pv 4) pe_int (nomark _)) (pss_cons (ps_set (i := 5) sc_Lchain.nd rfl (Or.inl rfl) (pe_call (ok_Ltip T) (hr.mono (by omega)) (by rfl) T.g_Ltip T.F_Ltip.kp T.B_Ltip .nil pass0 (pa_cons (pv 0) (pa_cons (pv 2) (pa_cons (pv 3) pa_nil)))))
       (pss_cons (ps_set (i := 6) sc_Lchain.nd rfl (Or.inl rfl) (pe_call ih_Lchain (hr.mono (by omega)) (by rfl) T.g_Lchain T.F_Lchain.kp T.B_Lchain .nil pass0 (pa_cons (pv 0) (pa_cons (pe_op op_sub (pv 1) pe_int) (pa_cons (pv 2) (pa_cons (pv 3) pa_nil))))))
       (pss_one (ps_ret (pe_tup (pa_cons (pe_ix (r := rIxL K) ix_list (pe_lst (pa_cons pe_str (pa_cons pe_str pa_nil))) (pe_call (ok_Lnext T) (hr.mono (by omega)) (by rfl) T.g_Lnext T.F_Lnext.kp T.B_Lnext .nil pass0 (pa_cons (pv 0) (pa_cons pe_int pa_nil))) (fun _ _ => rfl)) (pa_cons (pe_ix (r := rIxL K) ix_list (pe_lst (pa_cons (pe_tup (pa_cons (pv 5) (pa_cons (pv 6) pa_nil))) (pa_cons (pe_tup (pa_cons (pv 6) (pa_cons (pe_tup (pa_cons pe_str pa_nil)) pa_nil))) pa_nil))) (pe_call (ok_Lnext T) (hr.mono (by omega)) (by rfl) T.g_Lnext T.F_Lnext.kp T.B_Lnext .nil pass0 (pa_cons (pv 0) (pa_cons pe_int pa_nil))) (fun _ _ => rfl)) pa_nil))))))) pss_nil)
       (pss_cons (ps_if (PW.pt (pw_and (pt_cmpR op_lt (pv 4) pe_int (nomark _)) (pw_and1 (pt_val (pv 2))))) (pss_cons (ps_set (i := 7) sc_Lchain.nd rfl (Or.inl rfl) (pe_call (ok_Lgroup_name T) (hr.mono (by omega)) (by rfl) T.g_Lgroup_name T.F_Lgroup_name.kp T.B_Lgroup_name .nil pass0 (pa_cons (pv 0) (pa_cons (pv 3) pa_nil))))
       (pss_cons (ps_expr (pe_bm PySem.F.plainAttrs_list PySem.F.slot_list_append PySem.F.type_list_append mt_append (pv 3) (pa_cons (pv 7) pa_nil)))
       (pss_one (ps_ret (pe_tup (pa_cons pe_str (pa_cons (pv 7) (pa_cons (pe_call ih_Lchain (hr.mono (by omega)) (by rfl) T.g_Lchain T.F_Lchain.kp T.B_Lchain .nil pass0 (pa_cons (pv 0) (pa_cons (pe_op op_sub (pv 1) pe_int) (pa_cons pe_bl (pa_cons (pv 3) pa_nil))))) pa_nil)))))))) pss_nil)
       (pss_cons (ps_if (PW.pt (pw_and (pt_cmpR op_eq (pv 4) pe_int (nomark _)) (pw_and (pt_val (pv 2)) (pw_and1 (pt_cmpR op_gt (pe_ix (r := rIxL K) ix_list (pv 0) pe_int (fun _ _ => rfl)) pe_int (nomark _)))))) (pss_cons (ps_asg (pe_op op_sub (pe_ix (r := rIxL K) ix_list (pv 0) pe_int (fun _ _ => rfl)) pe_int) (pg_sub (pv 0) pe_int set_list))
       (pss_one (ps_ret (pe_tup (pa_cons pe_str (pa_cons pe_str (pa_cons (pe_cmpR op_eq (pe_call (ok_Lnext T) (hr.mono (by omega)) (by rfl) T.g_Lnext T.F_Lnext.kp T.B_Lnext .nil pass0 (pa_cons (pv 0) (pa_cons pe_int pa_nil))) pe_int (nomark _)) (pa_cons (pe_call ih_Lchain (hr.mono (by omega)) (by rfl) T.g_Lchain T.F_Lchain.kp T.B_Lchain .nil pass0 (pa_cons (pv 0) (pa_cons (pe_op op_sub (pv 1) pe_int) (pa_cons pe_bl (pa_cons (pv 3) pa_nil))))) pa_nil)))))))) pss_nil)
       (pss_cons (ps_set (i := 8) sc_Lchain.nd rfl (Or.inl rfl) (pe_ix (r := rIxL K) ix_list (pe_lst (pa_cons pe_non (pa_cons pe_int (pa_cons pe_int pa_nil)))) (pe_call (ok_Lnext T) (hr.mono (by omega)) (by rfl) T.g_Lnext T.F_Lnext.kp T.B_Lnext .nil pass0 (pa_cons (pv 0) (pa_cons pe_int pa_nil))) (fun _ _ => rfl)))
       (pss_one (ps_ret (pe_tup (pa_cons pe_str (pa_cons (pe_call ih_Lchain (hr.mono (by omega)) (by rfl) T.g_Lchain T.F_Lchain.kp T.B_Lchain .nil pass0 (pa_cons (pv 0) (pa_cons (pe_op op_sub (pv 1) pe_int) (pa_cons (pv 2) (pa_cons (pv 3) pa_nil))))) (pa_cons pe_int (pa_cons (pv 8) (pa_cons (pe_cmpR op_eq (pe_call (ok_Lnext T) (hr.mono (by omega)) (by rfl) T.g_Lnext T.F_Lnext.kp T.B_Lnext .nil pass0 (pa_cons (pv 0) (pa_cons pe_int pa_nil))) pe_int (nomark _)) pa_nil)))))))))))))), fin_kn (f := "") (N := n_Lchain) (fun ds ns R k hp => ?_) h⟩
      obtain ⟨d, o, rfl, d1, d2, d12, hn, hl, q⟩ := hp
      walk_at "d0"
      have tip : ∀ t, (∀ n, Wt (n + 1) t) → sz t = 1 → R (toDa t) ns := fun t ht hz => q t ns (ht n) (by omega) hn (by omega)
      walk_at "dx"
      refine sx_ofA ?_
      walk_at "dx"
      refine k_dr_next (by decide) (fun r r0 r1 => ?_)
      walk_at "dx"
      refine k_if (fun g1 => ?_) (fun g1 => ?_)
      · walk_at "dx"
        refine sx_ret ?_
        walk_at "dx"
        exact ⟨o, ns, rfl, hn, by omega, fun t ht hz => ⟨trivial, q_rt ⟨_, ns, rfl, rfl, tip t ht hz⟩⟩⟩
      have g2 := of_decide_eq_false g1
      walk_at "dx"
      refine sx_ofN ?_
      walk_at "dx"
      refine k_if (fun g3 => ?_) (fun g3 => ?_)
      · refine sx_seq ?_
        refine sx_ofA ?_
        walk_at "dx"
        refine ⟨o, ns, rfl, hn, by omega, fun t0 ht0 hz0 => ⟨trivial, ?_⟩⟩
        walk_at "dx"
        refine sx_setM (em_kn (i := 0) (j := 3) rfl rfl ?_)
        walk_at "dx"
        refine ⟨_, o, rfl, by omega, by omega, by omega, hn, by omega, fun t ns3 ht hz hn3 hl3 => ?_⟩
        walk_at "dx"
        refine sx_ret ?_
        walk_at "dx"
        refine k_dr_next (by decide) (fun r2 r20 r21 => ?_)
        walk_at "dx"
        have ht0' : Wt n t0 := by
          obtain ⟨n', rfl⟩ : ∃ n', n = n' + 1 := ⟨n - 1, by omega⟩
          exact ht0 n'
        have he' : Wt n .empty := by
          obtain ⟨n', rfl⟩ : ∃ n', n = n' + 1 := ⟨n - 1, by omega⟩
          exact .empty
        have w1 : ∀ x ∈ [t0, t], Wt n x := fun x hx => by
          simp only [List.mem_cons, List.not_mem_nil, or_false] at hx
          rcases hx with rfl | rfl
          · exact ht0'
          · exact ht
        have w2 : ∀ x ∈ [t, .empty], Wt n x := fun x hx => by
          simp only [List.mem_cons, List.not_mem_nil, or_false] at hx
          rcases hx with rfl | rfl
          · exact ht
          · exact he'
        have se : sz .empty = 1 := by rw [sz_kids]; rfl
        have fin : ∀ x ∈ [Da.str (Str.ofString "seq"), Da.str (Str.ofString "alt")], ∀ y ∈ [Da.tup [toDa t0, toDa t], Da.tup [toDa t, Da.tup [Da.str (Str.ofString "empty")]]], R (.tup [x, y]) ns3 := fun x hx y hy => by
          have s1 := q (.seq [t0, t]) ns3 (.seq w1) (by simp only [sz, szs]; omega) hn3 (by simp only [sz, szs]; omega)
          have s2 := q (.seq [t, .empty]) ns3 (.seq w2) (by rw [sz, szs, szs, szs, se]; omega) hn3 (by rw [sz, szs, szs, szs, se]; omega)
          have s3 := q (.alt [t0, t]) ns3 (.alt w1) (by simp only [sz, szs]; omega) hn3 (by simp only [sz, szs]; omega)
          have s4 := q (.alt [t, .empty]) ns3 (.alt w2) (by rw [sz, szs, szs, szs, se]; omega) hn3 (by rw [sz, szs, szs, szs, se]; omega)
          simp only [toDa, toDas] at s1 s2 s3 s4
          simp only [List.mem_cons, List.not_mem_nil, or_false] at hx hy
          rcases hx with rfl | rfl <;> rcases hy with rfl | rfl
          · exact s1
          · exact s2
          · exact s3
          · exact s4
        refine k_ixR r20 r21 (fun x hx => ?_)
        walk_at "dx"
        refine k_dr_next (by decide) (fun r3 r30 r31 => ?_)
        walk_at "dx"
        refine k_ixR r30 r31 (fun y hy => ?_)
        walk_at "dx"
        exact ⟨_, ns3, rfl, rfl, fin x hx y hy⟩
      refine sx_ofN (sv_nil (li_nx (q_nx (sx_seq (sx_if (Tv.imp (S := fun b => b = decide (r < 6 ∧ o = true)) ?_ (fun b hb => ?_)))))))
      · walk_at "dx"
        refine k_if (fun a1 => ?_) (fun a1 => ?_)
        · walk_at "dx"
          simp_all
        · simp_all <;> omega
      subst hb
      by_cases g7 : r < 6 ∧ o = true
      · refine k_ift (decT g7) ?_
        refine sx_seq ?_
        refine sx_ofA ?_
        walk_at "dx"
        refine ⟨ns, rfl, hn, by omega, fun x hx => ⟨trivial, ?_⟩⟩
        walk_at "dx"
        refine sx_appM (i := 3) rfl (em_of ?_)
        walk_at "dx"
        refine ⟨rfl, toLineB (by rw [List.length_map]; omega), ?_⟩
        walk_at "dx"
        refine sx_retM (em_tup (ems_cons (em_of ?_)))
        walk_at "dx"
        refine em_of ?_
        walk_at "dx"
        refine em_kn (i := 0) (j := 3) (ns := ns ++ [x]) rfl (by rw [List.map_append]; rfl) ?_
        walk_at "dx"
        refine ⟨_, true, rfl, by omega, by omega, by omega, fun y hy => ?_, by rw [List.length_append, List.length_singleton]; omega, fun t ns3 ht hz hn3 hl3 => ?_⟩
        · rcases List.mem_append.mp hy with hy | hy
          · exact hn y hy
          · rw [List.mem_singleton.mp hy]; exact hx
        walk_at "dx"
        rw [List.length_append, List.length_singleton] at hl3
        have := q (.grp x t) ns3 (.grp (by have := hx.2; omega) ht) (by rw [sz]; omega) hn3 (by rw [sz]; omega)
        rw [toDa] at this
        exact ⟨toL (show (3 : Nat) ≤ 16000000 by decide), ⟨_, ns3, rfl, rfl, this⟩⟩
      refine k_iff (decF g7) ?_
      refine sx_ofN (sv_nil (li_nx (q_nx (sx_seq (sx_if (Tv.imp (S := fun _ => True) ?_ (fun b _ => ?_)))))))
      · walk_at "dx"
        refine k_if (fun a1 => ?_) (fun a1 => ?_)
        · walk_at "dx"
          refine k_if (fun a2 => ?_) (fun a2 => ?_)
          · walk_at "dx"
            intro e
            walk_at "dx"
            exact trivial
          · exact trivial
        · exact trivial
      refine k_if (fun _ => ?_) (fun _ => ?_)
      · refine sx_seq ?_
        refine sx_of ?_
        walk_at "dx"
        intro e
        walk_at "dx"
        refine sx_retM (em_tup (ems_cons (em_of ?_)))
        walk_at "dx"
        refine em_of ?_
        walk_at "dx"
        refine em_of ?_
        walk_at "dx"
        refine k_dr_next (by decide) (fun r3 r30 r31 => ?_)
        walk_at "dx"
        refine em_kn (i := 0) (j := 3) (ns := ns) rfl rfl ?_
        walk_at "dx"
        refine ⟨_, false, rfl, by omega, by omega, by omega, hn, by omega, fun t ns3 ht hz hn3 hl3 => ?_⟩
        walk_at "dx"
        have := q (.look [98, 101, 104, 105, 110, 100] (decide (r3 = 0)) t) ns3 (.look (by decide) ht) (by rw [sz]; omega) hn3 (by rw [sz]; omega)
        rw [toDa] at this
        exact ⟨toL (show (4 : Nat) ≤ 16000000 by decide), ⟨_, ns3, rfl, rfl, this⟩⟩
      · refine sx_ofN ?_
        walk_at "dx"
        refine sx_ofA ?_
        walk_at "dx"
        refine k_dr_next (by decide) (fun r2 r20 r21 => ?_)
        walk_at "dx"
        refine k_ixR r20 r21 (fun dd hd => ?_)
        have : ∃ hi : Option Int, dd = hiD hi ∧ ∀ h, hi = some h → 0 ≤ h ∧ h ≤ 40 := by
          simp only [List.mem_cons, List.not_mem_nil, or_false] at hd
          rcases hd with rfl | rfl | rfl
          · exact ⟨none, rfl, fun h e => by cases e⟩
          · exact ⟨some 1, rfl, fun h e => by cases e; decide⟩
          · exact ⟨some 0, rfl, fun h e => by cases e; decide⟩
        obtain ⟨hi, rfl, hhi⟩ := this
        walk_at "dx"
        refine sx_retM (em_tup (ems_cons (em_of ?_)))
        walk_at "dx"
        refine em_kn (i := 0) (j := 3) (ns := ns) rfl rfl ?_
        walk_at "dx"
        refine ⟨_, o, rfl, by omega, by omega, by omega, hn, by omega, fun t ns3 ht hz hn3 hl3 => ?_⟩
        walk_at "dx"
        refine em_of ?_
        walk_at "dx"
        refine em_of ?_
        walk_at "dx"
        refine em_of ?_
        walk_at "dx"
        refine k_dr_next (by decide) (fun r3 r30 r31 => ?_)
        walk_at "dx"
        have := q (.rep t 0 hi (decide (r3 = 0))) ns3 (.rep (by decide) (by decide) hhi ht) (by rw [sz]; omega) hn3 (by rw [sz]; omega)
        rw [toDa] at this
        exact ⟨toL (show (5 : Nat) ≤ 16000000 by decide), ⟨_, ns3, rfl, rfl, this⟩⟩
def pre_drawn : List Vl → (Vl → Prop) → Prop := fun xs R => ∃ (f m : Int), xs = [.da (.int f), .da (.int m)] ∧ 2 ≤ f ∧ 3 ≤ m ∧ m ≤ 100 ∧ ∀ t, Wt 13 t → sz t ≤ 120 → R (.da (toDa t))
def pre_below : List Vl → (List Da → Prop) → Prop := fun xs R => ∃ t, xs = [.da (toDa t)] ∧ R ((kids t).map toDa)
theorem ok_Lbelow (T : Top K mg) : FnOk P w K mg base CX0 1 T.f_Lbelow T.fd_Lbelow ["_law_tree"] (sp_pn K pre_below) := by
  refine T.F_Lbelow.ok sc_Lbelow (fun vs H Q E h => ?_) (fun cdv A outer s H vs Q E hr h => ⟨_, (pss_cons (ps_if (pt_cmpR (r := rIn K false) op_in_seq (pe_ix (r := rIxT K) ix_tup (pv 0) pe_int (fun _ _ => rfl)) (pe_tup (pa_cons pe_str (pa_cons pe_str pa_nil))) (by rfl)) (pss_one (ps_ret (pe_callTy (r := rListOf K) call_listOf (by rfl) T.b_list (by decide +kernel) (pa_cons (pe_ix (r := rIxT K) ix_tup (pv 0) pe_int (fun _ _ => rfl)) pa_nil)))) pss_nil)
       (pss_cons (ps_if (pt_cmpR op_eq (pe_ix (r := rIxT K) ix_tup (pv 0) pe_int (fun _ _ => rfl)) pe_str (nomark _)) (pss_one (ps_ret (pe_lst (pa_cons (pe_ix (r := rIxT K) ix_tup (pv 0) pe_int (fun _ _ => rfl)) pa_nil)))) pss_nil)
       (pss_cons (ps_if (pt_cmpR op_eq (pe_ix (r := rIxT K) ix_tup (pv 0) pe_int (fun _ _ => rfl)) pe_str (nomark _)) (pss_one (ps_ret (pe_lst (pa_cons (pe_ix (r := rIxT K) ix_tup (pv 0) pe_int (fun _ _ => rfl)) pa_nil)))) pss_nil)
       (pss_cons (ps_if (pt_cmpR op_eq (pe_ix (r := rIxT K) ix_tup (pv 0) pe_int (fun _ _ => rfl)) pe_str (nomark _)) (pss_one (ps_ret (pe_lst (pa_cons (pe_ix (r := rIxT K) ix_tup (pv 0) pe_int (fun _ _ => rfl)) pa_nil)))) pss_nil)
       (pss_one (ps_ret (pe_lst pa_nil))))))), fin_pn (N := n_Lbelow) (fun xs R hp e he => ?_) h⟩)
  · obtain ⟨xs, R, hx, ⟨_, rfl, _⟩, _⟩ := h
    exact hx.len
  · obtain ⟨t, rfl, q⟩ := hp
    rcases he with _ | he
    cases he
    walk_at "d0"
    cases t with
    | seq ts => rw [toDa, toDas_map]; walk_at "dx"; exact q
    | alt ts => rw [toDa, toDas_map]; walk_at "dx"; exact q
    | empty => rw [toDa]; walk_at "dx"; exact q
    | set cs => rw [toDa]; walk_at "dx"; exact q
    | edge k => rw [toDa]; walk_at "dx"; exact q
    | same k => rw [toDa]; walk_at "dx"; exact q
    | rep t lo hi lz => rw [toDa]; walk_at "dx"; exact q
    | grp n t => rw [toDa]; walk_at "dx"; exact q
    | look sd b t => rw [toDa]; walk_at "dx"; exact q
end
end My
namespace My
open PySem L2
local macro_rules | `(tactic| walk_at "rd") => `(tactic| simp only [tSeq, tNext, tAsg, tOp, tUn, tC, tVar, gName, gSub, tCons, tNil, tCB, tIfS, tIf, tTest, tB, tAnd, tOr, tNot, tAndV, tOrV, tNotV, tRet, tRetN, tDrop, tLst, tTup, tCall, tSl, tNoPart, tPart, tM0, tM1, tBM, tBM0, tYes, tFor_eq, tLc_eq, iList, iRng1, iRng2, iStr, sg_tx, c_empty, rstrip_sign, find_sign, cut_last, cut_to, cut_from, cut_mid, cut_to_lit, cut_from_lit, and_assoc, flat_rep, List.length_replicate, tx_len, tx_eq, tx_app, tx_cps, rI0, rI, rU, rEq, rNe, rIxL, rIxS, rIxT, rSetL, rAppend, rPopAt, rSlS, rSlL, rIn, rMulS, rLtD, rJoin, rLenQ, rListOf,  tRevS, 
  scal, L2.start, List.map_cons, List.map_nil, List.length_cons, List.length_nil, List.replicate, List.cons_append, List.nil_append, List.append_nil,
  List.getElem?_cons_zero, List.getElem?_cons_succ, List.set_cons_zero, List.set_cons_succ, Nat.sub_zero, Nat.reduceSub, Nat.reduceAdd, Nat.zero_add, id_eq, Int.reduceToNat, exists_or,
  V.int.injEq, V.str.injEq, V.bl.injEq, V.ref.injEq, Option.some.injEq, List.cons.injEq, exists_and_left, exists_eq_left', exists_eq_left, exists_eq, exists_eq', and_true, true_and, reduceCtorEq, false_and, and_false, exists_false, false_or, or_false, decide_eq_true_eq, Bool.not_eq_true', decide_eq_false_iff_not, Bool.not_not, Bool.false_eq_true, ↓reduceIte, if_true, if_false])

local macro_rules | `(tactic| walk_at "ne") => `(tactic| first | assumption | (refine Ne.symm ?_; assumption) | exact (ne_of_none (by assumption) (by assumption)) | exact (ne_of_none (by assumption) (by assumption)).symm)
local macro_rules | `(tactic| walk_at "hp") => `(tactic| first | assumption | exact upd_same | exact (upd_ne (by walk_at "ne")).trans (by walk_at "hp"))
local macro_rules | `(tactic| walk_at "st1") => `(tactic| first
  | refine ⟨_, Or.inl (Or.inl (by walk_at "hp")), ?_⟩
  | refine ⟨_, Or.inl (Or.inl (Or.inl (by walk_at "hp"))), ?_⟩
  | refine ⟨_, (show _ = some (HO.lst _) by walk_at "hp"), ?_⟩
  | refine ⟨_, rfl, ?_⟩
  | refine ⟨(rfl : ("str" : String) = "str"), ?_⟩
  | refine ⟨Or.inr ⟨by decide, by decide⟩, ?_⟩
  | refine ⟨⟨by decide, by decide⟩, ?_⟩
  | refine ⟨by decide, ?_⟩
  | refine ⟨by assumption, ?_⟩)
local macro_rules | `(tactic| walk_at "st") => `(tactic| repeat walk_at "st1")
local macro_rules | `(tactic| walk_at "go") => `(tactic| repeat first | walk_at "st1" | walk_at "rd")
local macro_rules | `(tactic| walk_at "wk") => `(tactic| repeat first | exact Wk.nil | apply Wk.yes | apply Wk.no)
local macro_rules | `(tactic| walk_at "ds1") => `(tactic| first
  | ((with_reducible show Sv _ _ _ _); (first | (((with_reducible apply sv_putE); next => rfl)) | (with_reducible apply sv_seq) | (with_reducible apply sv_if) | (((with_reducible apply sv_retO); next => rfl)) | (with_reducible refine sv_retN (el_lst ?_)) | (with_reducible refine sv_retN (el_call ?_)) | (with_reducible refine sv_retN (el_lc ?_)) | (with_reducible refine sv_retN (el_list ?_)) | (with_reducible refine sv_retN (el_cat ?_)) | (with_reducible apply sv_ret) | (with_reducible refine sv_setN (el_lst ?_)) | (with_reducible refine sv_setN (el_call ?_)) | (with_reducible refine sv_setN (el_lc ?_)) | (with_reducible refine sv_setN (el_list ?_)) | (with_reducible refine sv_setN (el_cat ?_)) | (with_reducible refine sv_setN (el_callD rfl ?_)) | (((with_reducible apply sv_putD); next => rfl)) | (with_reducible apply sv_set) | (((with_reducible apply sv_app); next => rfl)) | (((with_reducible apply sv_ext); next => rfl)) | (((with_reducible apply sv_put); next => rfl)) | (with_reducible apply sv_for) | (with_reducible apply sv_nil) | (with_reducible apply sv_retNone) | (with_reducible apply sv_drop)))
  | ((with_reducible show Ev _ _ _ _); (first | (with_reducible apply ev_min3) | (with_reducible apply ev_q0) | (with_reducible apply ev_q1) | (with_reducible apply ev_q2) | (with_reducible apply ev_q3) | (with_reducible apply ev_q4) | (with_reducible apply ev_q5) | (with_reducible apply ev_q6) | (with_reducible apply ev_q7) | (with_reducible apply ev_q8) | (with_reducible apply ev_q9) | (with_reducible apply ev_q10) | (with_reducible apply ev_q11) | (with_reducible apply ev_q12) | (with_reducible apply ev_q13) | (with_reducible apply ev_q14) | (with_reducible apply ev_q15) | (with_reducible apply ev_q16) | (with_reducible apply ev_q17) | (with_reducible apply ev_q18) | (with_reducible apply ev_q19) | (with_reducible apply ev_q20) | (with_reducible apply ev_q21) | (with_reducible apply ev_q22) | (with_reducible apply ev_q23) | (with_reducible apply ev_q24) | (with_reducible apply ev_q25) | (with_reducible apply ev_q26) | (with_reducible apply ev_q27) | (with_reducible apply ev_q28) | (with_reducible apply ev_q29) | (with_reducible apply ev_q30) | (with_reducible apply ev_q31) | (with_reducible apply ev_q32) | (with_reducible apply ev_q33) | (with_reducible apply ev_q34) | (with_reducible apply ev_q35) | (with_reducible apply ev_q36) | (with_reducible apply ev_q37) | (with_reducible apply ev_q38) | (with_reducible apply ev_q39) | (with_reducible apply ev_q40) | (with_reducible apply ev_q41) | (with_reducible apply ev_q42) | (with_reducible apply ev_q43) | (with_reducible apply ev_q44) | (with_reducible apply ev_q45) | (with_reducible apply ev_catX) | (with_reducible apply ev_inS) | (with_reducible apply ev_ninS) | (with_reducible apply ev_joinE) | (with_reducible apply ev_joinB) | (with_reducible apply ev_wset) | (with_reducible apply ev_strIN) | (with_reducible apply ev_fmt) | (with_reducible apply ev_joined) | (with_reducible apply ev_slX) | (with_reducible apply ev_lenX) | (with_reducible apply ev_sgs) | (((with_reducible apply ev_ixD); next => rfl)) | (((with_reducible apply ev_ktup); next => assumption)) | (((with_reducible apply ev_var); next => rfl)) | (((with_reducible apply ev_varO); next => rfl)) | (((with_reducible apply ev_varL); next => rfl)) | (((with_reducible apply ev_callD); next => rfl)) | (((with_reducible apply ev_dr); next => rfl)) | (with_reducible apply ev_max2) | (with_reducible apply ev_min2) | (with_reducible apply ev_index) | (with_reducible apply ev_eqD) | (with_reducible apply ev_neD) | (with_reducible apply ev_str) | (with_reducible apply ev_int) | (with_reducible apply ev_bl) | (with_reducible apply ev_non) | (with_reducible apply ev_ixT) | (with_reducible apply ev_call) | (with_reducible apply ev_eq) | (with_reducible apply ev_tup) | (with_reducible apply ev_in) | (with_reducible apply ev_ixL) | (with_reducible apply ev_ne) | (with_reducible apply ev_i0) | (with_reducible apply ev_ib) | (with_reducible apply ev_isi) | (with_reducible apply ev_isN) | (with_reducible apply ev_notN) | (with_reducible apply ev_isB) | (with_reducible apply ev_notB) | (with_reducible apply ev_slT2) | (with_reducible apply ev_catU) | (with_reducible apply ev_iC) | (with_reducible apply ev_ixS) | (with_reducible apply ev_u) | (with_reducible apply ev_notV) | (with_reducible apply ev_if) | (with_reducible apply ev_len) | (with_reducible apply ev_tuple) | (with_reducible apply ev_all) | (with_reducible refine Ev.ofNew (el_lst ?_)) | (with_reducible refine Ev.ofNew (el_call ?_)) | (with_reducible refine Ev.ofNew (el_lc ?_)) | (with_reducible refine Ev.ofNew (el_list ?_)) | (with_reducible refine Ev.ofNew (el_cat ?_))))
  | ((with_reducible show Es _ _ _ _); (first | (with_reducible apply es_cons) | (with_reducible apply es_nil)))
  | ((with_reducible show Tv _ _ _ _); (first | (with_reducible apply tv_test) | (with_reducible apply tv_not) | (with_reducible apply tv_and) | (with_reducible apply tv_or) | (with_reducible apply tv_b) | (with_reducible apply tv_yes) | (with_reducible apply tv_tr)))
  | ((with_reducible show Eln _ _ _ _); (first | (with_reducible apply el_lst) | (with_reducible apply el_call) | (with_reducible apply el_lc) | (with_reducible apply el_list) | (with_reducible apply el_cat)))
  | ((with_reducible show Eo _ _ _ _); (first | (with_reducible apply eo_no) | (with_reducible apply eo_some)))
  | ((with_reducible show Iv _ _ _ _); (first | (with_reducible apply iv_tup) | (with_reducible apply iv_range1) | (with_reducible apply iv_str) | (with_reducible apply iv_enumT) | (((with_reducible apply iv_listV); next => rfl)) | (((with_reducible apply iv_listO); next => rfl)) | (with_reducible refine iv_listN (el_lst ?_)) | (with_reducible refine iv_listN (el_call ?_)) | (with_reducible refine iv_listN (el_lc ?_)) | (with_reducible refine iv_listN (el_list ?_)) | (with_reducible refine iv_listN (el_cat ?_))))
  | ((with_reducible show Gv _ _ _ _ _ _); (first | (with_reducible apply gv_name) | (with_reducible apply gv_tup2) | (with_reducible apply gv_tup3)))
  | ((with_reducible show seqO _ _ _ _); (first | (with_reducible apply o_nx) | (with_reducible apply o_rt) | (with_reducible apply o_rn) | (with_reducible apply o_bk) | (with_reducible apply o_ct)))
  | ((with_reducible show jnI _ _ _); (first | (with_reducible apply ji_nx) | (with_reducible apply ji_rt) | (with_reducible apply ji_rn) | (with_reducible apply ji_bk) | (with_reducible apply ji_ct)))
  | ((with_reducible show jnO _ _ _); (first | (with_reducible apply j_nx) | (with_reducible apply j_rt) | (with_reducible apply j_rn) | (with_reducible apply j_bk) | (with_reducible apply j_ct)))
  | ((with_reducible show lpO _ _ _ _); (first | (with_reducible apply l_rt) | (with_reducible apply l_rn) | (with_reducible apply l_ct) | (with_reducible apply l_nx')))
  | ((with_reducible show retO _ _); (first | (with_reducible apply r_rt) | (with_reducible apply r_nx)))
  | (with_reducible apply r_rn)
  | ((with_reducible show KIf _ _ _); (first | (((with_reducible apply k_ift); next => first | decide +kernel | rfl)) | (((with_reducible apply k_iff); next => first | decide +kernel | rfl))))
  | ((with_reducible show KEq _ _ _); (first | (with_reducible apply k_eqIN) | (with_reducible apply k_eqNI) | (with_reducible apply k_eqS) | (with_reducible apply k_eqI) | (with_reducible apply k_eqB) | (((with_reducible apply k_eqO); next => rfl; next => rfl; next => rfl; next => rfl))))
  | ((with_reducible show KDas _ _); (first | (with_reducible apply k_das_0) | (with_reducible apply k_das_1) | (with_reducible apply k_das_2) | (with_reducible apply k_das_3) | (with_reducible apply k_das_4) | (with_reducible apply k_das_5) | (with_reducible apply k_das_6) | (with_reducible apply k_das_7) | (with_reducible apply k_das_8) | (with_reducible apply k_das_9) | (with_reducible apply k_das_10) | (with_reducible apply k_das_11) | (with_reducible apply k_das_12) | (with_reducible apply k_das_13) | (with_reducible apply k_das_14) | (with_reducible apply k_das_15) | (with_reducible apply k_das_16)))
  | ((with_reducible show KIn _ _ _); (first | (with_reducible apply k_inT_0) | (with_reducible apply k_inL_0) | (with_reducible apply k_inT_1) | (with_reducible apply k_inL_1) | (with_reducible apply k_inT_2) | (with_reducible apply k_inL_2) | (with_reducible apply k_inT_3) | (with_reducible apply k_inL_3) | (with_reducible apply k_inT_4) | (with_reducible apply k_inL_4) | (with_reducible apply k_inT_5) | (with_reducible apply k_inL_5) | (with_reducible apply k_inT_6) | (with_reducible apply k_inL_6) | (with_reducible apply k_inT_7) | (with_reducible apply k_inL_7) | (with_reducible apply k_inT_8) | (with_reducible apply k_inL_8) | (with_reducible apply k_inT_9) | (with_reducible apply k_inL_9) | (with_reducible apply k_inT_10) | (with_reducible apply k_inL_10) | (with_reducible apply k_inT_11) | (with_reducible apply k_inL_11) | (with_reducible apply k_inT_12) | (with_reducible apply k_inL_12) | (with_reducible apply k_inN) | (((with_reducible apply k_inT); next => rfl; next => rfl)) | (((with_reducible apply k_inL); next => rfl; next => rfl))))
  | ((with_reducible show KEqD _ _ _); (first | (with_reducible apply k_eqIntsC) | (with_reducible apply k_eqInts0) | (with_reducible apply k_eqInts)))
  | (with_reducible apply k_put0)
  | ((with_reducible show KTy _ _ _); (first | (with_reducible apply k_ty_tup_tuple) | (with_reducible apply k_ty_tup_bool) | (with_reducible apply k_ty_tup_int) | (with_reducible apply k_ty_tup_str) | (with_reducible apply k_ty_tup_list) | (with_reducible apply k_ty_ls_tuple) | (with_reducible apply k_ty_ls_bool) | (with_reducible apply k_ty_ls_int) | (with_reducible apply k_ty_ls_str) | (with_reducible apply k_ty_ls_list) | (with_reducible apply k_ty_int_tuple) | (with_reducible apply k_ty_int_bool) | (with_reducible apply k_ty_int_int) | (with_reducible apply k_ty_int_str) | (with_reducible apply k_ty_int_list) | (with_reducible apply k_ty_str_tuple) | (with_reducible apply k_ty_str_bool) | (with_reducible apply k_ty_str_int) | (with_reducible apply k_ty_str_str) | (with_reducible apply k_ty_str_list) | (with_reducible apply k_ty_bl_tuple) | (with_reducible apply k_ty_bl_bool) | (with_reducible apply k_ty_bl_int) | (with_reducible apply k_ty_bl_str) | (with_reducible apply k_ty_bl_list) | (with_reducible apply k_ty_non_tuple) | (with_reducible apply k_ty_non_bool) | (with_reducible apply k_ty_non_int) | (with_reducible apply k_ty_non_str) | (with_reducible apply k_ty_non_list)))
  | ((with_reducible show KSl _ _ _ _); (first | (with_reducible apply k_sl_1) | (with_reducible apply k_sl_2) | (with_reducible apply k_sl_m2) | (with_reducible apply k_sl_m3) | (with_reducible apply k_sl_m4) | (with_reducible apply k_sl_m5)))
  | ((with_reducible show KCat _ _ _); (first | (with_reducible apply k_cat1) | (with_reducible apply k_cat2) | (with_reducible apply k_cat3) | (with_reducible apply k_cat23)))
  | ((with_reducible show KLen _ _); (first | (with_reducible apply k_lenT) | (with_reducible apply k_lenL)))
  | ((with_reducible show KSq _ _); (first | (with_reducible apply k_sqT) | (with_reducible apply k_sqL)))
  | (with_reducible apply k_i2s)
  | (with_reducible apply k_d)
  | ((with_reducible show KT _ _); (first | (with_reducible apply k_t) | (with_reducible apply k_tT)))
  | (with_reducible apply k_l)
  | (with_reducible apply k_i1)
  | (with_reducible apply k_i2)
  | (with_reducible apply k_b)
  | (with_reducible apply k_n)
  | (with_reducible apply k_tx)
  | (with_reducible apply k_t1)
  | (with_reducible apply k_ts)
  | with_reducible apply k_ix_0
  | with_reducible apply k_ix_1
  | ((with_reducible apply k_ixT2); next => rfl)
  | with_reducible apply gx_name
  | with_reducible apply gx_tup2
  | with_reducible apply gx_tup3
  | with_reducible refine (fun (p : Addr) => (?_ : seqO _ _ _ _))
  | with_reducible refine (fun (p : Addr) => (?_ : lpO _ _ _ _))
  | with_reducible refine (fun (p : Addr) => (?_ : liO _ _))
  | ((with_reducible show KTr _ _); (first | (with_reducible apply k_trI) | (with_reducible apply k_trB)))
  | (with_reducible apply k_sg)
  | ((with_reducible show Sx _ _ _ _ _ _ _ _); (first | (with_reducible apply sx_seq) | (with_reducible apply sx_if) | (with_reducible refine sx_retN (el_lst ?_)) | (with_reducible refine sx_retN (el_call ?_)) | (with_reducible refine sx_retN (el_lc ?_)) | (with_reducible refine sx_retN (el_list ?_)) | (with_reducible refine sx_retN (el_cat ?_)) | (with_reducible apply sx_for)))
  | ((with_reducible show Ej _ _ _ _ _); (first | (with_reducible apply ej_nil) | (with_reducible apply ej_cons)))
  | ((with_reducible show liO _ _); (first | (with_reducible apply li_nx) | (with_reducible apply li_bk) | (with_reducible apply li_ct)))
  | ((with_reducible show sqX _ _ _ _ _ _ _ _); (first | (with_reducible apply q_nx) | (with_reducible apply q_rt) | (with_reducible apply q_rn) | (with_reducible apply q_bk) | (with_reducible apply q_ct)))
  | (with_reducible apply lx_nx)
  | ((with_reducible show Ems _ _ _ _); (first | (with_reducible apply ems_cons) | (with_reducible apply ems_nil)))
  | (with_reducible apply k_tj)
  | (with_reducible apply k_i3)
  | ((with_reducible show Ek _ _ _ _ _); (first | (((with_reducible apply ek_last); next => rfl)) | (with_reducible apply ek_cons))))
local macro_rules | `(tactic| walk_at "ds") => `(tactic| repeat walk_at "ds1")
local macro_rules | `(tactic| walk_at "d0") => `(tactic| (try simp only [cx_K, cx_K', List.map_cons, List.map_nil]))
local macro_rules | `(tactic| walk_at "da") => `(tactic| repeat first | walk_at "ds1" | (with_reducible apply sv_cut) | (with_reducible apply sx_cut))
local macro_rules | `(tactic| walk_at "lx") => `(tactic| (refine toL ?_; (try simp only [List.length_append, List.length_cons, List.length_nil]); omega))
local macro_rules | `(tactic| walk_at "dx") => `(tactic| repeat first | walk_at "ds1" | (with_reducible apply sv_cut) | (with_reducible apply sx_cut) | (with_reducible refine k_x2 (by walk_at "lx") ?_) | (with_reducible refine k_stI (by assumption) ?_) | (with_reducible refine k_stN ?_) | (with_reducible refine k_lx (by walk_at "lx") ?_) | (with_reducible refine k_ift (decT (by omega)) ?_) | (with_reducible refine k_iff (decF (by omega)) ?_))
section
variable {P : Program} {w : World} {K : PySem.W.Frag} {mg : Str → Option Value} {base : Heap}
set_option maxHeartbeats 8000000 in
theorem ok_Ldrawn_tree (T : Top K mg) : FnOk P w K mg base CX0 17 T.f_Ldrawn_tree T.fd_Ldrawn_tree ["_law_draw_here", "_law_fuel", "_law_nodes"] (sp_dr K pre_drawn) := by
  have ok_Lform : ∀ T : Top K mg, FnOk P w K mg base CX0 16 T.f_Lform T.fd_Lform ["_law_draw_here", "_law_fuel", "_law_nodes", "_law_depth", "_law_outside", "_law_known"] (sp_kn K (pre_form 12)) := fun T => ok_Lform T 12
  have ok_Lchain : ∀ T : Top K mg, FnOk P w K mg base CX0 16 T.f_Lchain T.fd_Lchain ["_law_draw_here", "_law_depth", "_law_outside", "_law_known"] (sp_kn K (pre_chain 12)) := fun T => ok_Lchain T 12
  refine T.F_Ldrawn_tree.ok sc_Ldrawn_tree (fun vs H Q E h => ?_) (fun cdv A outer s H vs Q E hr h => ⟨_, (pss_cons (ps_asg pe_int (pg_sub (pv 0) pe_int set_list))
       (pss_cons (ps_set (i := 3) sc_Ldrawn_tree.nd rfl (Or.inl rfl) (pe_lst pa_nil))
       (pss_cons (ps_set (i := 4) sc_Ldrawn_tree.nd rfl (Or.inl rfl) (pe_call (ok_Lnext T) (hr.mono (by decide)) (by rfl) T.g_Lnext T.F_Lnext.kp T.B_Lnext .nil pass0 (pa_cons (pv 0) (pa_cons pe_int pa_nil))))
       (pss_cons (ps_if (pt_cmpR op_eq (pv 4) pe_int (nomark _)) (pss_one (ps_ret (pe_call (ok_Lform T) (hr.mono (by decide)) (by rfl) T.g_Lform T.F_Lform.kp T.B_Lform .nil pass0 (pa_cons (pv 0) (pa_cons (pv 1) (pa_cons (pv 2) (pa_cons pe_int (pa_cons pe_bl (pa_cons (pv 3) pa_nil))))))))) pss_nil)
       (pss_cons (ps_if (pt_cmpR op_eq (pv 4) pe_int (nomark _)) (pss_one (ps_ret (pe_call (ok_Lchain T) (hr.mono (by decide)) (by rfl) T.g_Lchain T.F_Lchain.kp T.B_Lchain .nil pass0 (pa_cons (pv 0) (pa_cons pe_int (pa_cons pe_bl (pa_cons (pv 3) pa_nil))))))) pss_nil)
       (pss_cons (ps_if (pt_cmpR op_eq (pv 4) pe_int (nomark _)) (pss_cons (ps_set (i := 5) sc_Ldrawn_tree.nd rfl (Or.inl rfl) (pe_lst pa_nil))
       (pss_cons (ps_for PassesOwn.never rfl (pi_range1 rfl T.b_range (pa_cons (pe_op op_add pe_int (pe_call (ok_Lnext T) (hr.mono (by decide)) (by rfl) T.g_Lnext T.F_Lnext.kp T.B_Lnext .nil pass0 (pa_cons (pv 0) (pa_cons pe_int pa_nil)))) pa_nil)) (pg_name (i := 6) sc_Ldrawn_tree.nd rfl (Or.inl rfl))
       (pss_cons (ps_set (i := 7) sc_Ldrawn_tree.nd rfl (Or.inl rfl) (pe_ix ix_str (pe_call0 (ok_Lsigns T) (hr.mono (by decide)) (by rfl) T.g_Lsigns T.F_Lsigns.kp T.B_Lsigns .nil pass0) (pe_call (ok_Lnext T) (hr.mono (by decide)) (by rfl) T.g_Lnext T.F_Lnext.kp T.B_Lnext .nil pass0 (pa_cons (pv 0) (pa_cons pe_int pa_nil))) (fun _ _ => rfl)))
       (pss_one (ps_expr (pe_bm PySem.F.plainAttrs_list PySem.F.slot_list_append PySem.F.type_list_append mt_append (pv 5) (pa_cons (pe_ix (r := rIxL K) ix_list (pe_lst (pa_cons (pe_tup (pa_cons pe_str (pa_cons (pv 7) pa_nil))) (pa_cons (pe_tup (pa_cons pe_str (pa_cons (pv 7) pa_nil))) (pa_cons (pe_tup (pa_cons pe_str (pa_cons (pv 7) pa_nil))) (pa_cons (pe_tup (pa_cons pe_str pa_nil)) pa_nil))))) (pe_call (ok_Lnext T) (hr.mono (by decide)) (by rfl) T.g_Lnext T.F_Lnext.kp T.B_Lnext .nil pass0 (pa_cons (pv 0) (pa_cons pe_int pa_nil))) (fun _ _ => rfl)) pa_nil))))))
       (pss_one (ps_ret (pe_tup (pa_cons (pe_ix (r := rIxL K) ix_list (pe_lst (pa_cons pe_str (pa_cons pe_str pa_nil))) (pe_call (ok_Lnext T) (hr.mono (by decide)) (by rfl) T.g_Lnext T.F_Lnext.kp T.B_Lnext .nil pass0 (pa_cons (pv 0) (pa_cons pe_int pa_nil))) (fun _ _ => rfl)) (pa_cons (pe_callTy (r := rTupOf K) call_tupO (by rfl) T.b_tuple (by decide +kernel) (pa_cons (pv 5) pa_nil)) pa_nil))))))) pss_nil)
       (pss_cons (ps_set (i := 8) sc_Ldrawn_tree.nd rfl (Or.inl rfl) (pe_call (ok_Lform T) (hr.mono (by decide)) (by rfl) T.g_Lform T.F_Lform.kp T.B_Lform .nil pass0 (pa_cons (pv 0) (pa_cons (pe_op op_fdiv (pv 1) pe_int) (pa_cons (pe_op op_fdiv (pe_op op_sub (pv 2) pe_int) pe_int) (pa_cons pe_int (pa_cons pe_bl (pa_cons (pv 3) pa_nil))))))))
       (pss_cons (ps_set (i := 9) sc_Ldrawn_tree.nd rfl (Or.inl rfl) (pe_call (ok_Lform T) (hr.mono (by decide)) (by rfl) T.g_Lform T.F_Lform.kp T.B_Lform .nil pass0 (pa_cons (pv 0) (pa_cons (pe_op op_fdiv (pv 1) pe_int) (pa_cons (pe_op op_fdiv (pe_op op_sub (pv 2) pe_int) pe_int) (pa_cons pe_int (pa_cons pe_bl (pa_cons (pv 3) pa_nil))))))))
       (pss_one (ps_ret (pe_tup (pa_cons (pe_ix (r := rIxL K) ix_list (pe_lst (pa_cons pe_str (pa_cons pe_str pa_nil))) (pe_op op_fdiv (pv 4) pe_int) (fun _ _ => rfl)) (pa_cons (pe_tup (pa_cons (pv 8) (pa_cons (pv 9) pa_nil))) pa_nil))))))))))))), fin_dr (N := n_Ldrawn_tree) (fun xs R hp e he => ?_) h⟩)
  · obtain ⟨d, l, ws, xs, R, rfl, _, hx, ⟨_, _, rfl, _⟩, _⟩ := h
    rw [List.length_cons, hx.len]
    rfl
  · obtain ⟨f, m, rfl, f1, m1, m2, q⟩ := hp
    rcases he with _ | he
    rcases he with _ | he
    cases he
    walk_at "d0"
    refine sv_ofX ?_
    have fin : ∀ {e : Evn} (t : Tr), Wt 13 t → sz t ≤ 120 → ouX (retO R) (.rt e (.da (toDa t))) := fun t h1 h2 => q t h1 h2
    refine sx_seq (sx_of ?_)
    walk_at "dx"
    refine sx_ofA ?_
    walk_at "dx"
    rename_i pk
    refine sx_ofA ?_
    walk_at "dx"
    refine k_dr_next (by decide) (fun r r0 r1 => ?_)
    walk_at "dx"
    refine k_if (fun g1 => ?_) (fun g1 => ?_)
    · walk_at "dx"
      refine sx_retM (em_kn (i := 0) (j := 3) (ns := []) rfl rfl ?_)
      walk_at "dx"
      refine ⟨f, m, 12, true, rfl, by omega, by omega, by omega, by decide, by decide, (fun x hx => by cases hx), by simp only [List.length_nil]; omega, fun t ns3 ht hz hn3 hl3 => ?_⟩
      walk_at "dx"
      exact fin t (ht.mono 13 (by decide)) (by omega)
    refine sx_ofN ?_
    walk_at "dx"
    refine k_if (fun g2 => ?_) (fun g2 => ?_)
    · walk_at "dx"
      refine sx_retM (em_kn (i := 0) (j := 3) (ns := []) rfl rfl ?_)
      walk_at "dx"
      refine ⟨12, true, rfl, by decide, by decide, by decide, (fun x hx => by cases hx), by simp only [List.length_nil]; decide, fun t ns3 ht hz hn3 hl3 => ?_⟩
      walk_at "dx"
      exact fin t (ht.mono 13 (by decide)) (by omega)
    refine sx_ofN ?_
    walk_at "dx"
    refine k_if (fun g3 => ?_) (fun g3 => ?_)
    · refine sx_seq ?_
      refine sx_ofA ?_
      walk_at "dx"
      rename_i pp
      refine k_dr_next (by decide) (fun r2 r20 r21 => ?_)
      walk_at "dx"
      refine k_r1 ⟨by omega, by omega⟩ ?_
      refine k_forX (fun i e => ∃ (ts : List Tr) (L : List Da), e = [some .dr, some (.vl (.int f)), some (.vl (.int m)), some (.own pk []), some (.vl (.int r)), some (.own pp L), none, none, none, none] ∧ L = ts.map toDa ∧ ts.length = i ∧ szs ts = i ∧ ∀ t ∈ ts, Wt 12 t) ⟨_, ?_, [], [], rfl, rfl, rfl, by rw [szs], fun t ht => by cases ht⟩ (fun _ _ _ => trivial) (fun i dd e hd hI => ?_) (fun e hI => ?_)
      · walk_at "wk"
      · obtain ⟨ts, _, rfl, rfl, hlen, hsz, hw⟩ := hI
        obtain ⟨hi, rfl⟩ := range_da hd
        have lS : SG.length ≤ sizeLine := toL (by rw [sg_len]; decide)
        walk_at "dx"
        refine sx_ofA ?_
        walk_at "dx"
        refine k_dr_next (by decide) (fun r3 r30 r31 => ?_)
        walk_at "dx"
        refine k_isR r30 (by rw [sg_len]; exact r31) lS (fun c hc => ?_)
        walk_at "dx"
        refine sx_appM (i := 5) rfl (em_of ?_)
        walk_at "dx"
        refine k_dr_next (by decide) (fun r4 r40 r41 => ?_)
        walk_at "dx"
        refine k_ixR r40 r41 (fun dd hd => ?_)
        have : ∃ t : Tr, dd = toDa t ∧ Wt 12 t ∧ sz t = 1 := by
          simp only [List.mem_cons, List.not_mem_nil, or_false] at hd
          have s1 : ∃ t : Tr, Da.tup [Da.str (Str.ofString "set"), Da.str (tx [c])] = toDa t ∧ Wt 12 t ∧ sz t = 1 := ⟨.set [c], by rw [toDa], .set (List.singleton_sublist.mpr hc), by rw [sz_kids]; rfl⟩
          rcases hd with rfl | rfl | rfl | rfl
          · exact s1
          · exact s1
          · exact s1
          · exact ⟨.empty, by rw [toDa], .empty, by rw [sz_kids]; rfl⟩
        obtain ⟨t, rfl, ht, hz⟩ := this
        walk_at "dx"
        refine ⟨rfl, toLineB (by rw [List.length_map]; omega), ?_⟩
        refine lx_nx ⟨_, ?_, ts ++ [t], ts.map toDa ++ [toDa t], rfl, by rw [List.map_append]; rfl, by rw [List.length_append, List.length_singleton]; omega, by rw [szs_app, szs, szs]; omega, fun x hx => ?_⟩
        · walk_at "wk"
        · rcases List.mem_append.mp hx with hx | hx
          · exact hw x hx
          · rw [List.mem_singleton.mp hx]; exact ht
      · obtain ⟨ts, _, rfl, rfl, hlen, hsz, hw⟩ := hI
        rw [range_len] at hsz
        refine ⟨.of rfl, ?_⟩
        walk_at "dx"
        refine sx_ret ?_
        walk_at "dx"
        refine k_dr_next (by decide) (fun r4 r40 r41 => ?_)
        walk_at "dx"
        refine k_ixR r40 r41 (fun dd hd => ?_)
        walk_at "dx"
        have s1 := fin (e := []) (.seq ts) (.seq hw) (by rw [sz]; omega)
        have s2 := fin (e := []) (.alt ts) (.alt hw) (by rw [sz]; omega)
        rw [toDa, toDas_map] at s1
        rw [toDa, toDas_map] at s2
        simp only [List.mem_cons, List.not_mem_nil, or_false] at hd
        rcases hd with rfl | rfl
        · exact s1
        · exact s2
    refine sx_ofN ?_
    walk_at "dx"
    refine sx_setM (em_kn (i := 0) (j := 3) (ns := []) rfl rfl ?_)
    walk_at "dx"
    refine ⟨⟨by decide, by decide⟩, ?_⟩
    walk_at "dx"
    refine ⟨⟨by decide, by decide⟩, ?_⟩
    walk_at "dx"
    refine ⟨_, _, 11, true, rfl, by omega, by omega, by omega, by decide, by decide, (fun x hx => by cases hx), by simp only [List.length_nil]; omega, fun t1 ns1 ht1 hz1 hn1 hl1 => ?_⟩
    rw [List.length_nil] at hl1
    walk_at "dx"
    refine sx_setM (em_kn (i := 0) (j := 3) (ns := ns1) rfl rfl ?_)
    walk_at "dx"
    refine ⟨⟨by decide, by decide⟩, ?_⟩
    walk_at "dx"
    refine ⟨⟨by decide, by decide⟩, ?_⟩
    walk_at "dx"
    refine ⟨_, _, 11, true, rfl, by omega, by omega, by omega, by decide, by decide, hn1, by omega, fun t2 ns2 ht2 hz2 hn2 hl2 => ?_⟩
    walk_at "dx"
    refine sx_ret ?_
    walk_at "dx"
    refine ⟨⟨by decide, by decide⟩, ?_⟩
    walk_at "dx"
    have hr7 : r / 7 = 0 ∨ r / 7 = 1 := by omega
    have w1 : ∀ x ∈ [t1, t2], Wt 12 x := fun x hx => by
      simp only [List.mem_cons, List.not_mem_nil, or_false] at hx
      rcases hx with rfl | rfl
      · exact ht1
      · exact ht2
    have s1 := fin (e := []) (.seq [t1, t2]) (.seq w1) (by simp only [sz, szs]; omega)
    have s2 := fin (e := []) (.alt [t1, t2]) (.alt w1) (by simp only [sz, szs]; omega)
    simp only [toDa, toDas] at s1 s2
    rcases hr7 with e5 | e5
    · rw [e5]
      walk_at "dx"
      exact s1
    · rw [e5]
      walk_at "dx"
      exact s2
end
end My
namespace My
open PySem L2
local macro_rules | `(tactic| walk_at "rd") => `(tactic| simp only [tSeq, tNext, tAsg, tOp, tUn, tC, tVar, gName, gSub, tCons, tNil, tCB, tIfS, tIf, tTest, tB, tAnd, tOr, tNot, tAndV, tOrV, tNotV, tRet, tRetN, tDrop, tLst, tTup, tCall, tSl, tNoPart, tPart, tM0, tM1, tBM, tBM0, tYes, tFor_eq, tLc_eq, iList, iRng1, iRng2, iStr, sg_tx, c_empty, rstrip_sign, find_sign, cut_last, cut_to, cut_from, cut_mid, cut_to_lit, cut_from_lit, and_assoc, flat_rep, List.length_replicate, tx_len, tx_eq, tx_app, tx_cps, rI0, rI, rU, rEq, rNe, rIxL, rIxS, rIxT, rSetL, rAppend, rPopAt, rSlS, rSlL, rIn, rMulS, rLtD, rJoin, rLenQ, rListOf,  tRevS, 
  scal, L2.start, List.map_cons, List.map_nil, List.length_cons, List.length_nil, List.replicate, List.cons_append, List.nil_append, List.append_nil,
  List.getElem?_cons_zero, List.getElem?_cons_succ, List.set_cons_zero, List.set_cons_succ, Nat.sub_zero, Nat.reduceSub, Nat.reduceAdd, Nat.zero_add, id_eq, Int.reduceToNat, exists_or,
  V.int.injEq, V.str.injEq, V.bl.injEq, V.ref.injEq, Option.some.injEq, List.cons.injEq, exists_and_left, exists_eq_left', exists_eq_left, exists_eq, exists_eq', and_true, true_and, reduceCtorEq, false_and, and_false, exists_false, false_or, or_false, decide_eq_true_eq, Bool.not_eq_true', decide_eq_false_iff_not, Bool.not_not, Bool.false_eq_true, ↓reduceIte, if_true, if_false])

local macro_rules | `(tactic| walk_at "ne") => `(tactic| first | assumption | (refine Ne.symm ?_; assumption) | exact (ne_of_none (by assumption) (by assumption)) | exact (ne_of_none (by assumption) (by assumption)).symm)
local macro_rules | `(tactic| walk_at "hp") => `(tactic| first | assumption | exact upd_same | exact (upd_ne (by walk_at "ne")).trans (by walk_at "hp"))
local macro_rules | `(tactic| walk_at "st1") => `(tactic| first
  | refine ⟨_, Or.inl (Or.inl (by walk_at "hp")), ?_⟩
  | refine ⟨_, Or.inl (Or.inl (Or.inl (by walk_at "hp"))), ?_⟩
  | refine ⟨_, (show _ = some (HO.lst _) by walk_at "hp"), ?_⟩
  | refine ⟨_, rfl, ?_⟩
  | refine ⟨(rfl : ("str" : String) = "str"), ?_⟩
  | refine ⟨Or.inr ⟨by decide, by decide⟩, ?_⟩
  | refine ⟨⟨by decide, by decide⟩, ?_⟩
  | refine ⟨by decide, ?_⟩
  | refine ⟨by assumption, ?_⟩)
local macro_rules | `(tactic| walk_at "st") => `(tactic| repeat walk_at "st1")
local macro_rules | `(tactic| walk_at "go") => `(tactic| repeat first | walk_at "st1" | walk_at "rd")
local macro_rules | `(tactic| walk_at "wk") => `(tactic| repeat first | exact Wk.nil | apply Wk.yes | apply Wk.no)
local macro_rules | `(tactic| walk_at "ds1") => `(tactic| first
  | ((with_reducible show Sv _ _ _ _); (first | (((with_reducible apply sv_putE); next => rfl)) | (with_reducible apply sv_seq) | (with_reducible apply sv_if) | (((with_reducible apply sv_retO); next => rfl)) | (with_reducible refine sv_retN (el_lst ?_)) | (with_reducible refine sv_retN (el_call ?_)) | (with_reducible refine sv_retN (el_lc ?_)) | (with_reducible refine sv_retN (el_list ?_)) | (with_reducible refine sv_retN (el_cat ?_)) | (with_reducible apply sv_ret) | (with_reducible refine sv_setN (el_lst ?_)) | (with_reducible refine sv_setN (el_call ?_)) | (with_reducible refine sv_setN (el_lc ?_)) | (with_reducible refine sv_setN (el_list ?_)) | (with_reducible refine sv_setN (el_cat ?_)) | (with_reducible refine sv_setN (el_callD rfl ?_)) | (((with_reducible apply sv_putD); next => rfl)) | (with_reducible apply sv_set) | (((with_reducible apply sv_app); next => rfl)) | (((with_reducible apply sv_ext); next => rfl)) | (((with_reducible apply sv_put); next => rfl)) | (with_reducible apply sv_for) | (with_reducible apply sv_nil) | (with_reducible apply sv_retNone) | (with_reducible apply sv_drop)))
  | ((with_reducible show Ev _ _ _ _); (first | (with_reducible apply ev_min3) | (with_reducible apply ev_q0) | (with_reducible apply ev_q1) | (with_reducible apply ev_q2) | (with_reducible apply ev_q3) | (with_reducible apply ev_q4) | (with_reducible apply ev_q5) | (with_reducible apply ev_q6) | (with_reducible apply ev_q7) | (with_reducible apply ev_q8) | (with_reducible apply ev_q9) | (with_reducible apply ev_q10) | (with_reducible apply ev_q11) | (with_reducible apply ev_q12) | (with_reducible apply ev_q13) | (with_reducible apply ev_q14) | (with_reducible apply ev_q15) | (with_reducible apply ev_q16) | (with_reducible apply ev_q17) | (with_reducible apply ev_q18) | (with_reducible apply ev_q19) | (with_reducible apply ev_q20) | (with_reducible apply ev_q21) | (with_reducible apply ev_q22) | (with_reducible apply ev_q23) | (with_reducible apply ev_q24) | (with_reducible apply ev_q25) | (with_reducible apply ev_q26) | (with_reducible apply ev_q27) | (with_reducible apply ev_q28) | (with_reducible apply ev_q29) | (with_reducible apply ev_q30) | (with_reducible apply ev_q31) | (with_reducible apply ev_q32) | (with_reducible apply ev_q33) | (with_reducible apply ev_q34) | (with_reducible apply ev_q35) | (with_reducible apply ev_q36) | (with_reducible apply ev_q37) | (with_reducible apply ev_q38) | (with_reducible apply ev_q39) | (with_reducible apply ev_q40) | (with_reducible apply ev_q41) | (with_reducible apply ev_q42) | (with_reducible apply ev_q43) | (with_reducible apply ev_q44) | (with_reducible apply ev_q45) | (with_reducible apply ev_catX) | (with_reducible apply ev_inS) | (with_reducible apply ev_ninS) | (with_reducible apply ev_joinE) | (with_reducible apply ev_joinB) | (with_reducible apply ev_wset) | (with_reducible apply ev_strIN) | (with_reducible apply ev_fmt) | (with_reducible apply ev_joined) | (with_reducible apply ev_slX) | (with_reducible apply ev_lenX) | (with_reducible apply ev_sgs) | (((with_reducible apply ev_ixD); next => rfl)) | (((with_reducible apply ev_ktup); next => assumption)) | (((with_reducible apply ev_var); next => rfl)) | (((with_reducible apply ev_varO); next => rfl)) | (((with_reducible apply ev_varL); next => rfl)) | (((with_reducible apply ev_callD); next => rfl)) | (((with_reducible apply ev_dr); next => rfl)) | (with_reducible apply ev_max2) | (with_reducible apply ev_min2) | (with_reducible apply ev_index) | (with_reducible apply ev_eqD) | (with_reducible apply ev_neD) | (with_reducible apply ev_str) | (with_reducible apply ev_int) | (with_reducible apply ev_bl) | (with_reducible apply ev_non) | (with_reducible apply ev_ixT) | (with_reducible apply ev_call) | (with_reducible apply ev_eq) | (with_reducible apply ev_tup) | (with_reducible apply ev_in) | (with_reducible apply ev_ixL) | (with_reducible apply ev_ne) | (with_reducible apply ev_i0) | (with_reducible apply ev_ib) | (with_reducible apply ev_isi) | (with_reducible apply ev_isN) | (with_reducible apply ev_notN) | (with_reducible apply ev_isB) | (with_reducible apply ev_notB) | (with_reducible apply ev_slT2) | (with_reducible apply ev_catU) | (with_reducible apply ev_iC) | (with_reducible apply ev_ixS) | (with_reducible apply ev_u) | (with_reducible apply ev_notV) | (with_reducible apply ev_if) | (with_reducible apply ev_len) | (with_reducible apply ev_tuple) | (with_reducible apply ev_all) | (with_reducible refine Ev.ofNew (el_lst ?_)) | (with_reducible refine Ev.ofNew (el_call ?_)) | (with_reducible refine Ev.ofNew (el_lc ?_)) | (with_reducible refine Ev.ofNew (el_list ?_)) | (with_reducible refine Ev.ofNew (el_cat ?_))))
  | ((with_reducible show Es _ _ _ _); (first | (with_reducible apply es_cons) | (with_reducible apply es_nil)))
  | ((with_reducible show Tv _ _ _ _); (first | (with_reducible apply tv_test) | (with_reducible apply tv_not) | (with_reducible apply tv_and) | (with_reducible apply tv_or) | (with_reducible apply tv_b) | (with_reducible apply tv_yes) | (with_reducible apply tv_tr)))
  | ((with_reducible show Eln _ _ _ _); (first | (with_reducible apply el_lst) | (with_reducible apply el_call) | (with_reducible apply el_lc) | (with_reducible apply el_list) | (with_reducible apply el_cat)))
  | ((with_reducible show Eo _ _ _ _); (first | (with_reducible apply eo_no) | (with_reducible apply eo_some)))
  | ((with_reducible show Iv _ _ _ _); (first | (with_reducible apply iv_tup) | (with_reducible apply iv_range1) | (with_reducible apply iv_str) | (with_reducible apply iv_enumT) | (((with_reducible apply iv_listV); next => rfl)) | (((with_reducible apply iv_listO); next => rfl)) | (with_reducible refine iv_listN (el_lst ?_)) | (with_reducible refine iv_listN (el_call ?_)) | (with_reducible refine iv_listN (el_lc ?_)) | (with_reducible refine iv_listN (el_list ?_)) | (with_reducible refine iv_listN (el_cat ?_))))
  | ((with_reducible show Gv _ _ _ _ _ _); (first | (with_reducible apply gv_name) | (with_reducible apply gv_tup2) | (with_reducible apply gv_tup3)))
  | ((with_reducible show seqO _ _ _ _); (first | (with_reducible apply o_nx) | (with_reducible apply o_rt) | (with_reducible apply o_rn) | (with_reducible apply o_bk) | (with_reducible apply o_ct)))
  | ((with_reducible show jnI _ _ _); (first | (with_reducible apply ji_nx) | (with_reducible apply ji_rt) | (with_reducible apply ji_rn) | (with_reducible apply ji_bk) | (with_reducible apply ji_ct)))
  | ((with_reducible show jnO _ _ _); (first | (with_reducible apply j_nx) | (with_reducible apply j_rt) | (with_reducible apply j_rn) | (with_reducible apply j_bk) | (with_reducible apply j_ct)))
  | ((with_reducible show lpO _ _ _ _); (first | (with_reducible apply l_rt) | (with_reducible apply l_rn) | (with_reducible apply l_ct) | (with_reducible apply l_nx')))
  | ((with_reducible show retO _ _); (first | (with_reducible apply r_rt) | (with_reducible apply r_nx)))
  | (with_reducible apply r_rn)
  | ((with_reducible show KIf _ _ _); (first | (((with_reducible apply k_ift); next => first | decide +kernel | rfl)) | (((with_reducible apply k_iff); next => first | decide +kernel | rfl))))
  | ((with_reducible show KEq _ _ _); (first | (with_reducible apply k_eqIN) | (with_reducible apply k_eqNI) | (with_reducible apply k_eqS) | (with_reducible apply k_eqI) | (with_reducible apply k_eqB) | (((with_reducible apply k_eqO); next => rfl; next => rfl; next => rfl; next => rfl))))
  | ((with_reducible show KDas _ _); (first | (with_reducible apply k_das_0) | (with_reducible apply k_das_1) | (with_reducible apply k_das_2) | (with_reducible apply k_das_3) | (with_reducible apply k_das_4) | (with_reducible apply k_das_5) | (with_reducible apply k_das_6) | (with_reducible apply k_das_7) | (with_reducible apply k_das_8) | (with_reducible apply k_das_9) | (with_reducible apply k_das_10) | (with_reducible apply k_das_11) | (with_reducible apply k_das_12) | (with_reducible apply k_das_13) | (with_reducible apply k_das_14) | (with_reducible apply k_das_15) | (with_reducible apply k_das_16)))
  | ((with_reducible show KIn _ _ _); (first | (with_reducible apply k_inT_0) | (with_reducible apply k_inL_0) | (with_reducible apply k_inT_1) | (with_reducible apply k_inL_1) | (with_reducible apply k_inT_2) | (with_reducible apply k_inL_2) | (with_reducible apply k_inT_3) | (with_reducible apply k_inL_3) | (with_reducible apply k_inT_4) | (with_reducible apply k_inL_4) | (with_reducible apply k_inT_5) | (with_reducible apply k_inL_5) | (with_reducible apply k_inT_6) | (with_reducible apply k_inL_6) | (with_reducible apply k_inT_7) | (with_reducible apply k_inL_7) | (with_reducible apply k_inT_8) | (with_reducible apply k_inL_8) | (with_reducible apply k_inT_9) | (with_reducible apply k_inL_9) | (with_reducible apply k_inT_10) | (with_reducible apply k_inL_10) | (with_reducible apply k_inT_11) | (with_reducible apply k_inL_11) | (with_reducible apply k_inT_12) | (with_reducible apply k_inL_12) | (with_reducible apply k_inN) | (((with_reducible apply k_inT); next => rfl; next => rfl)) | (((with_reducible apply k_inL); next => rfl; next => rfl))))
  | ((with_reducible show KEqD _ _ _); (first | (with_reducible apply k_eqIntsC) | (with_reducible apply k_eqInts0) | (with_reducible apply k_eqInts)))
  | (with_reducible apply k_put0)
  | ((with_reducible show KTy _ _ _); (first | (with_reducible apply k_ty_tup_tuple) | (with_reducible apply k_ty_tup_bool) | (with_reducible apply k_ty_tup_int) | (with_reducible apply k_ty_tup_str) | (with_reducible apply k_ty_tup_list) | (with_reducible apply k_ty_ls_tuple) | (with_reducible apply k_ty_ls_bool) | (with_reducible apply k_ty_ls_int) | (with_reducible apply k_ty_ls_str) | (with_reducible apply k_ty_ls_list) | (with_reducible apply k_ty_int_tuple) | (with_reducible apply k_ty_int_bool) | (with_reducible apply k_ty_int_int) | (with_reducible apply k_ty_int_str) | (with_reducible apply k_ty_int_list) | (with_reducible apply k_ty_str_tuple) | (with_reducible apply k_ty_str_bool) | (with_reducible apply k_ty_str_int) | (with_reducible apply k_ty_str_str) | (with_reducible apply k_ty_str_list) | (with_reducible apply k_ty_bl_tuple) | (with_reducible apply k_ty_bl_bool) | (with_reducible apply k_ty_bl_int) | (with_reducible apply k_ty_bl_str) | (with_reducible apply k_ty_bl_list) | (with_reducible apply k_ty_non_tuple) | (with_reducible apply k_ty_non_bool) | (with_reducible apply k_ty_non_int) | (with_reducible apply k_ty_non_str) | (with_reducible apply k_ty_non_list)))
  | ((with_reducible show KSl _ _ _ _); (first | (with_reducible apply k_sl_1) | (with_reducible apply k_sl_2) | (with_reducible apply k_sl_m2) | (with_reducible apply k_sl_m3) | (with_reducible apply k_sl_m4) | (with_reducible apply k_sl_m5)))
  | ((with_reducible show KCat _ _ _); (first | (with_reducible apply k_cat1) | (with_reducible apply k_cat2) | (with_reducible apply k_cat3) | (with_reducible apply k_cat23)))
  | ((with_reducible show KLen _ _); (first | (with_reducible apply k_lenT) | (with_reducible apply k_lenL)))
  | ((with_reducible show KSq _ _); (first | (with_reducible apply k_sqT) | (with_reducible apply k_sqL)))
  | (with_reducible apply k_i2s)
  | (with_reducible apply k_d)
  | ((with_reducible show KT _ _); (first | (with_reducible apply k_t) | (with_reducible apply k_tT)))
  | (with_reducible apply k_l)
  | (with_reducible apply k_i1)
  | (with_reducible apply k_i2)
  | (with_reducible apply k_b)
  | (with_reducible apply k_n)
  | (with_reducible apply k_tx)
  | (with_reducible apply k_t1)
  | (with_reducible apply k_ts)
  | with_reducible apply k_ix_0
  | with_reducible apply k_ix_1
  | ((with_reducible apply k_ixT2); next => rfl)
  | with_reducible apply gx_name
  | with_reducible apply gx_tup2
  | with_reducible apply gx_tup3
  | with_reducible refine (fun (p : Addr) => (?_ : seqO _ _ _ _))
  | with_reducible refine (fun (p : Addr) => (?_ : lpO _ _ _ _))
  | with_reducible refine (fun (p : Addr) => (?_ : liO _ _))
  | ((with_reducible show KTr _ _); (first | (with_reducible apply k_trI) | (with_reducible apply k_trB)))
  | (with_reducible apply k_sg)
  | ((with_reducible show Sx _ _ _ _ _ _ _ _); (first | (with_reducible apply sx_seq) | (with_reducible apply sx_if) | (with_reducible refine sx_retN (el_lst ?_)) | (with_reducible refine sx_retN (el_call ?_)) | (with_reducible refine sx_retN (el_lc ?_)) | (with_reducible refine sx_retN (el_list ?_)) | (with_reducible refine sx_retN (el_cat ?_)) | (with_reducible apply sx_for)))
  | ((with_reducible show Ej _ _ _ _ _); (first | (with_reducible apply ej_nil) | (with_reducible apply ej_cons)))
  | ((with_reducible show liO _ _); (first | (with_reducible apply li_nx) | (with_reducible apply li_bk) | (with_reducible apply li_ct)))
  | ((with_reducible show sqX _ _ _ _ _ _ _ _); (first | (with_reducible apply q_nx) | (with_reducible apply q_rt) | (with_reducible apply q_rn) | (with_reducible apply q_bk) | (with_reducible apply q_ct)))
  | (with_reducible apply lx_nx)
  | ((with_reducible show Ems _ _ _ _); (first | (with_reducible apply ems_cons) | (with_reducible apply ems_nil)))
  | (with_reducible apply k_tj)
  | (with_reducible apply k_i3)
  | ((with_reducible show Ek _ _ _ _ _); (first | (((with_reducible apply ek_last); next => rfl)) | (with_reducible apply ek_cons))))
local macro_rules | `(tactic| walk_at "ds") => `(tactic| repeat walk_at "ds1")
local macro_rules | `(tactic| walk_at "d0") => `(tactic| (try simp only [cx_K, cx_K', List.map_cons, List.map_nil]))
local macro_rules | `(tactic| walk_at "da") => `(tactic| repeat first | walk_at "ds1" | (with_reducible apply sv_cut) | (with_reducible apply sx_cut))
local macro_rules | `(tactic| walk_at "lx") => `(tactic| (refine toL ?_; (try simp only [List.length_append, List.length_cons, List.length_nil]); omega))
local macro_rules | `(tactic| walk_at "dx") => `(tactic| repeat first | walk_at "ds1" | (with_reducible apply sv_cut) | (with_reducible apply sx_cut) | (with_reducible refine k_x2 (by walk_at "lx") ?_) | (with_reducible refine k_stI (by assumption) ?_) | (with_reducible refine k_stN ?_) | (with_reducible refine k_lx (by walk_at "lx") ?_) | (with_reducible refine k_ift (decT (by omega)) ?_) | (with_reducible refine k_iff (decF (by omega)) ?_))
section
variable {P : Program} {w : World} {K : PySem.W.Frag} {mg : Str → Option Value} {base : Heap}
def sp_Ldraw (K : PySem.W.Frag) : Sp := fun vs H Q _ => ∃ (a : Addr) (ns : List Int), vs = [.ref a] ∧ SqL K H a (ns.map V.int) ∧ ns.length ≤ 63 ∧ ∀ (d l : Addr) (H' : Hp), H d = none → H l = none → Same H H' → Drw H' d l → Q (.ref d) H'
theorem ok_Ldraw (T : Top K mg) : FnOk P w K mg base CX0 1 T.f_Ldraw T.fd_Ldraw ["_law_script"] (sp_Ldraw K) := by
  refine T.F_Ldraw.ok sc_Ldraw (fun vs H Q E h => ?_) (fun cdv A outer s H vs Q E hr h => ?_)
  · obtain ⟨a, ns, rfl, _⟩ := h
    rfl
  · obtain ⟨a, ns, rfl, hS, hn, q⟩ := h
    refine ⟨_, (pss_cons (ps_set (i := 1) sc_Ldraw.nd rfl (Or.inl rfl) (pe_lst pa_nil))
       (pss_cons (ps_set (i := 2) sc_Ldraw.nd rfl (Or.inl rfl) pe_int)
       (pss_cons (ps_set (i := 3) sc_Ldraw.nd rfl (Or.inl rfl) pe_int)
       (pss_cons (ps_for PassesOwn.never rfl (pi_list (pv 0)) (pg_name (i := 4) sc_Ldraw.nd rfl (Or.inl rfl))
       (pss_cons (ps_set (i := 2) sc_Ldraw.nd rfl (Or.inl rfl) (pe_op op_mod (pe_callTy call_int1 (by rfl) T.b_int (by decide +kernel) (pa_cons (pe_op op_add (pe_op op_mul (pv 2) pe_int) (pv 4)) pa_nil)) pe_int))
       (pss_cons (ps_set (i := 3) sc_Ldraw.nd rfl (Or.inl rfl) (pe_op op_mod (pe_callTy call_int1 (by rfl) T.b_int (by decide +kernel) (pa_cons (pe_op op_add (pe_op op_mul (pv 3) pe_int) (pe_op op_fdiv (pv 4) pe_int)) pa_nil)) pe_int))
       (pss_cons (ps_set (i := 5) sc_Ldraw.nd rfl (Or.inl rfl) (pv 4))
       (pss_cut (ps_if (pt_cmpR op_lt (pv 4) (pe_op op_pow pe_int pe_int) (nomark _)) (pss_one (ps_set (i := 5) sc_Ldraw.nd rfl (Or.inl rfl) pe_int)) pss_nil)
       (pss_one (ps_for PassesOwn.never rfl (pi_range1 rfl T.b_range (pa_cons pe_int pa_nil)) (pg_name (i := 6) sc_Ldraw.nd rfl (Or.inl rfl))
       (pss_one (ps_if (pt_cmpR op_gt (pv 5) pe_int (nomark _)) (pss_cons (ps_expr (pe_bm PySem.F.plainAttrs_list PySem.F.slot_list_append PySem.F.type_list_append mt_append (pv 1) (pa_cons (pe_op op_mod (pe_callTy call_int1 (by rfl) T.b_int (by decide +kernel) (pa_cons (pv 5) pa_nil)) pe_int) pa_nil)))
       (pss_one (ps_set (i := 5) sc_Ldraw.nd rfl (Or.inl rfl) (pe_op op_fdiv (pv 5) pe_int)))) pss_nil)))))))))
       (pss_one (ps_ret (pe_lst (pa_cons pe_int (pa_cons (pv 2) (pa_cons (pv 3) (pa_cons (pv 1) (pa_cons pe_int pa_nil)))))))))))), ?_⟩
    walk_at "rd"
    refine ⟨by decide, fun l hl => ?_⟩
    refine ⟨⟨_, (same_upd hl).seq hS⟩, ?_⟩
    obtain ⟨Pv, hP⟩ : ∃ Pv : Nat → St → Hp → Prop, ∀ i σ H', Pv i σ H' ↔ ∃ (one two : Int) (v4 v5 v6 : Option V) (ds : List Int), σ = [some (V.ref a), some (V.ref l), some (V.int one), some (V.int two), v4, v5, v6] ∧ Same H H' ∧ H' l = some (.lst (ds.map V.int)) ∧ ds.length ≤ 60 * i := ⟨_, fun _ _ _ => Iff.rfl⟩
    refine forJ_by (reg_list _ a (ns.map V.int)) Pv ?_ ?_ ?_ ?_
    · intro i σ H' h
      obtain ⟨_, _, _, _, _, _, _, sm, _⟩ := (hP _ _ _).mp h
      exact sm.seq hS
    · exact (hP _ _ _).mpr ⟨7, 11, none, none, none, [], rfl, same_upd hl, upd_same, by decide⟩
    · intro i x σ H' hi h
      obtain ⟨one, two, v4, v5, v6, ds, rfl, sm, hL, hlen⟩ := (hP _ _ _).mp h
      have hi2 : i < ns.length := by
        have := (List.getElem?_eq_some_iff.mp hi).1
        rw [List.length_map] at this; exact this
      obtain ⟨z, rfl⟩ : ∃ z, x = V.int z := by
        rw [List.getElem?_map, List.getElem?_eq_getElem hi2] at hi
        exact ⟨_, (Option.some.inj hi).symm⟩
      walk_at "rd"
      walk_at "go"
      obtain ⟨Mid, hM⟩ : ∃ Mid : St → Hp → Prop, ∀ σ' H2, Mid σ' H2 ↔ ∃ (one two r : Int) (v6 : Option V), σ' = [some (V.ref a), some (V.ref l), some (V.int one), some (V.int two), some (V.int z), some (V.int r), v6] ∧ H2 = H' := ⟨_, fun _ _ => Iff.rfl⟩
      refine ⟨Mid, ?_, ?_⟩
      · walk_at "rd"
        refine ⟨⟨by decide, by decide, by decide⟩, ?_⟩
        split
        · exact (hM _ _).mpr ⟨_, _, _, _, rfl, rfl⟩
        · exact (hM _ _).mpr ⟨_, _, _, _, rfl, rfl⟩
      · intro σ' H2 h2
        obtain ⟨one', two', r, v6', rfl, rfl⟩ := (hM _ _).mp h2
        walk_at "rd"
        refine ⟨by decide, by decide, ?_⟩
        obtain ⟨Pj, hJ⟩ : ∃ Pj : Nat → St → Hp → Prop, ∀ j σ H', Pj j σ H' ↔ ∃ (r : Int) (v6 : Option V) (ds : List Int), σ = [some (V.ref a), some (V.ref l), some (V.int one'), some (V.int two'), some (V.int z), some (V.int r), v6] ∧ Same H H' ∧ H' l = some (.lst (ds.map V.int)) ∧ ds.length ≤ 60 * i + j := ⟨_, fun _ _ _ => Iff.rfl⟩
        refine forJ_by (reg_range _ _) Pj ?_ ?_ ?_ ?_
        · intros; trivial
        · exact (hJ _ _ _).mpr ⟨_, _, ds, rfl, sm, hL, by omega⟩
        · intro j b σ H' hj h
          obtain ⟨r, v6, ds, rfl, sm, hL, hlen⟩ := (hJ _ _ _).mp h
          have hj2 : j < 60 := by
            have := (List.getElem?_eq_some_iff.mp hj).1
            rw [List.length_range] at this; exact this
          walk_at "rd"
          split
          · have hsz : (ds.map V.int).length < sizeLine := by
              rw [List.length_map]
              have h1 : 60 * i + j ≤ 60 * 63 + 60 := by omega
              exact Nat.lt_of_le_of_lt (Nat.le_trans hlen h1) (by decide)
            refine ⟨.inl ⟨rfl, _, .inl (.inl hL)⟩, ?_⟩
            walk_at "go"
            refine (hJ _ _ _).mpr ⟨_, _, ds ++ [r % 5040], rfl, ?_, ?_, ?_⟩
            · intro b o e
              rw [upd_ne (ne_of_none e hl)]
              exact sm _ _ e
            · rw [upd_same, List.map_append]; rfl
            · rw [List.length_append]; simp; omega
          · exact (hJ _ _ _).mpr ⟨_, _, ds, rfl, sm, hL, by omega⟩
        · intro σ H' h
          obtain ⟨r, v6, ds, rfl, sm, hL, hlen⟩ := (hJ _ _ _).mp h
          rw [List.length_range] at hlen
          have e60 : (60 : Int).toNat = 60 := rfl
          exact (hP _ _ _).mpr ⟨_, _, _, _, _, ds, rfl, sm, hL, by omega⟩
    · intro σ H' h
      obtain ⟨one, two, v4, v5, v6, ds, rfl, sm, hL, hlen⟩ := (hP _ _ _).mp h
      walk_at "rd"
      refine ⟨by decide, fun d hd => ?_⟩
      have nl : l ≠ d := ne_of_none hL hd
      exact q d l _ (sm.free hd) hl (sm.trans (same_upd hd)) ⟨0, _, _, ds, nl.symm, upd_same, (upd_ne nl).trans hL, by decide⟩
def sp_law (K : PySem.W.Frag) : Sp := fun vs H Q _ => ∃ (a : Addr) (ns : List Int), vs = [.ref a] ∧ SqL K H a (ns.map V.int) ∧ ns.length ≤ 63 ∧ ∀ H', Q (.bl true) H'
theorem env_draw {K : PySem.W.Frag} {H : Hp} {d l a : Addr} (hD : Dry H d l) (n : Nat) : EnvAt K H (some (d, l)) [] H (some (.ref a) :: some (.ref d) :: List.replicate n none) (none :: some .dr :: List.replicate n none) := by
  have q : DlAt (some (d, l)) H := fun d' l' e => by cases e; exact hD
  refine ⟨by simp, q, q, .refl _ _, fun p hp => (by cases hp), fun i s h => ?_, fun i j b c l1 l2 _ h _ => ?_⟩
  · match i with
    | 0 => cases h
    | 1 => cases Option.some.inj h; exact ⟨_, rfl, d, l, rfl, rfl⟩
    | i + 2 =>
      rw [List.getElem?_cons_succ, List.getElem?_cons_succ, List.getElem?_replicate] at h
      split at h <;> cases h
  · match i with
    | 0 => cases h
    | 1 => cases h
    | i + 2 =>
      rw [List.getElem?_cons_succ, List.getElem?_cons_succ, List.getElem?_replicate] at h
      split at h <;> cases h
theorem start_law {K : PySem.W.Frag} {rest : TS} {X : XK} {n : Nat} {a : Addr} {ns : List Int} {H : Hp} {Q : VK} (hS : SqL K H a (ns.map V.int)) (hn : ns.length ≤ 63) (h : Sv K (none :: some .dr :: List.replicate n none) rest (retO fun x => x = .da (.bl true))) (q : ∀ H', Q (.bl true) H') :
    tSeq (tAsg (tCall (sp_Ldraw K) [] X (tCons (tVar 0) tNil)) (gName 1)) rest { nx := fun _ H' => Q .non H', rt := Q } (some (.ref a) :: none :: List.replicate n none) H := by
  refine ⟨.ref a, rfl, a, ns, rfl, hS, hn, fun d l H1 hd hl sm D1 => ?_⟩
  refine h H1 (some (d, l)) [] _ H1 _ (env_draw D1.y n) (fun _ _ _ o _ _ => ?_) (fun _ _ _ o => o.elim) (fun _ _ _ o => o.elim) (fun x v H' o m dy r => ?_) (fun _ _ _ _ o => o.elim)
  · cases o
  · obtain rfl : x = .da (.bl true) := o
    have e := vl_atm r rfl
    subst e
    exact q H'
theorem parW_0 (t : Tr) (w : List Nat) : parW 0 t w = w := by rw [parW, if_neg (by omega)]
set_option maxHeartbeats 8000000 in
theorem ok_law (T : Top K mg) : FnOk P T.tw K mg base CX0 90 T.f_law T.fd_law ["_law_script"] (sp_law K) := by
  have ok_write_pattern : ∀ T : Top K mg, FnOk P T.tw K mg base CX0 33 T.f_write_pattern T.fd_write_pattern ["tree"] (sp_pu K (pre_wp 13)) := fun T => My.ok_write_pattern T 13
  have ok_Lwritten : ∀ T : Top K mg, FnOk P T.tw K mg base CX0 17 T.f_Lwritten T.fd_Lwritten ["_law_tree", "_law_place"] (sp_pu K (pre_lw 13)) := fun T => My.ok_Lwritten T 13
  refine T.F_law.ok sc_law (fun vs H Q E h => ?_) (fun cdv A outer s H vs Q E hr h => ?_)
  · obtain ⟨a, ns, rfl, _⟩ := h
    rfl
  · obtain ⟨a, ns, rfl, hS, hn, q⟩ := h
    refine ⟨_, (pss_cons (ps_set (i := 1) sc_law.nd rfl (Or.inl rfl) (pe_call (ok_Ldraw T) (hr.mono (by decide)) (by rfl) T.g_Ldraw T.F_Ldraw.kp T.B_Ldraw .nil pass0 (pa_cons (pv 0) pa_nil)))
       (pss_cons (ps_set (i := 2) sc_law.nd rfl (Or.inl rfl) (pe_ix (r := rIxL K) ix_list (pe_lst (pa_cons pe_int (pa_cons pe_int (pa_cons pe_int (pa_cons pe_int pa_nil))))) (pe_call (ok_Lnext T) (hr.mono (by decide)) (by rfl) T.g_Lnext T.F_Lnext.kp T.B_Lnext .nil pass0 (pa_cons (pv 1) (pa_cons pe_int pa_nil))) (fun _ _ => rfl)))
       (pss_cons (ps_set (i := 3) sc_law.nd rfl (Or.inl rfl) (pe_call (ok_Ldrawn_tree T) (hr.mono (by decide)) (by rfl) T.g_Ldrawn_tree T.F_Ldrawn_tree.kp T.B_Ldrawn_tree .nil pass0 (pa_cons (pv 1) (pa_cons pe_int (pa_cons (pv 2) pa_nil)))))
       (pss_cons (ps_set (i := 4) sc_law.nd rfl (Or.inl rfl) (pe_call (ok_Ldrawn_tree T) (hr.mono (by decide)) (by rfl) T.g_Ldrawn_tree T.F_Ldrawn_tree.kp T.B_Ldrawn_tree .nil pass0 (pa_cons (pv 1) (pa_cons pe_int (pa_cons pe_int pa_nil)))))
       (pss_cons (ps_for PassesOwn.never rfl (pi_list (pe_op op_cat (pe_lst (pa_cons (pv 3) (pa_cons (pv 4) (pa_cons (pv 3) pa_nil)))) (pe_call (ok_Lbelow T) (hr.mono (by decide)) (by rfl) T.g_Lbelow T.F_Lbelow.kp T.B_Lbelow .nil pass0 (pa_cons (pv 3) pa_nil)))) (pg_name (i := 5) sc_law.nd rfl (Or.inl rfl))
       (pss_cons (ps_set (i := 6) sc_law.nd rfl (Or.inl rfl) (pe_call (ok_write_pattern T) (hr.mono (by decide)) (by rfl) T.g_write_pattern T.F_write_pattern.kp T.B_write_pattern .nil pass0 (pa_cons (pv 5) pa_nil)))
       (pss_one (ps_if (PW.pt (pw_or (pt_not (pt_val (pe_callB (r := rIsi K) call_isi (by rfl) T.b_isinstance (by decide +kernel) (pa_cons (pv 6) (pa_cons (pe_bltn (v := .ty "str") (u := .type "str") (by rfl) T.b_str (by decide +kernel) rfl) pa_nil))))) (pw_or1 (pt_cmpR op_ne (pv 6) (pe_call (ok_Lwritten T) (hr.mono (by decide)) (by rfl) T.g_Lwritten T.F_Lwritten.kp T.B_Lwritten .nil pass0 (pa_cons (pv 5) (pa_cons pe_int pa_nil))) (nomark _))))) (pss_one (ps_ret pe_bl)) pss_nil))))
       (pss_one (ps_ret pe_bl))))))), start_law (n := 5) hS hn ?_ q⟩
    walk_at "d0"
    walk_at "dx"
    refine k_dr_next (by decide) (fun r r0 r1 => ?_)
    walk_at "dx"
    refine k_ixR r0 r1 (fun dd hd => ?_)
    have : ∃ m : Int, dd = .int m ∧ 3 ≤ m ∧ m ≤ 100 := by
      simp only [List.mem_cons, List.not_mem_nil, or_false] at hd
      rcases hd with rfl | rfl | rfl | rfl
      all_goals exact ⟨_, rfl, by decide, by decide⟩
    obtain ⟨m, rfl, m1, m2⟩ := this
    walk_at "dx"
    refine ⟨33, m, rfl, by decide, m1, m2, fun t1 ht1 hz1 => ⟨trivial, ?_⟩⟩
    walk_at "dx"
    refine ⟨33, 19, rfl, by decide, by decide, by decide, fun t2 ht2 hz2 => ⟨trivial, ?_⟩⟩
    walk_at "dx"
    refine ⟨t1, rfl, ?_⟩
    walk_at "dx"
    have hk := len_szs (kids t1)
    have hk2 := sz_kids t1
    refine ⟨toL (by rw [List.length_map]; show 3 + _ ≤ _; omega), ?_⟩
    obtain ⟨L, hL⟩ : ∃ L : List Da, L = [toDa t1, toDa t2, toDa t1] ++ (kids t1).map toDa := ⟨_, rfl⟩
    have hall : ∀ d ∈ L, ∃ t : Tr, d = toDa t ∧ Wt 13 t ∧ sz t ≤ 120 := fun d hd => by
      rw [hL] at hd
      rcases List.mem_append.mp hd with hd | hd
      · simp only [List.mem_cons, List.not_mem_nil, or_false] at hd
        rcases hd with rfl | rfl | rfl
        · exact ⟨_, rfl, ht1, hz1⟩
        · exact ⟨_, rfl, ht2, hz2⟩
        · exact ⟨_, rfl, ht1, hz1⟩
      · obtain ⟨c, hc, rfl⟩ := List.mem_map.mp hd
        have := szs_mem hc
        exact ⟨c, rfl, (Wt.kid (n := 12) ht1 hc).mono 13 (by decide), by omega⟩
    rw [← hL]
    refine k_forI (fun i e => e = [none, some .dr, none, none, none, none, none]) ⟨_, ?_, rfl⟩ (fun _ _ _ => trivial) (fun i d e hd hI => ?_) (fun e hI => ?_)
    · walk_at "wk"
    · subst hI
      obtain ⟨t, rfl, ht, hz⟩ := hall d (List.mem_of_getElem? hd)
      walk_at "dx"
      refine ⟨t, rfl, ht, by omega, trivial, ?_⟩
      walk_at "dx"
      refine ⟨t, 0, rfl, by decide, ht, by omega, trivial, ?_⟩
      rw [parW_0]
      walk_at "dx"
      refine k_iff (by simp) ?_
      walk_at "dx"
      walk_at "wk"
    · subst hI
      refine ⟨.of rfl, ?_⟩
      walk_at "dx"
      rfl
end
end My
namespace My
open PySem L2
theorem kit_self {K : PySem.W.Frag} {C : Addr} : PySem.W.kitOne K (.ref C) (.ref C) = some true := by
  unfold PySem.W.kitOne
  rw [if_pos (beq_self_eq_true _)]
theorem kit_not {K : PySem.W.Frag} {C : Addr} {T : String} (hm : PySem.W.mroIn K C (.type "object") = some true) (ty : PySem.W.typeIn K (.ref C) = some (.type "type")) (su : PySem.W.subIn K (.type T) (.ref C) = some false) : PySem.W.kitOne K (.type T) (.ref C) = some false := by
  have c1 : (PySem.W.clsIn K C).isSome = true := by
    unfold PySem.W.mroIn at hm
    cases h : PySem.W.clsIn K C with
    | none => rw [h] at hm; cases hm
    | some d => rfl
  have c2 : ((Value.type T) == (Value.ref C)) = false := by
    cases h : ((Value.type T) == (Value.ref C)) with
    | false => rfl
    | true => exact absurd (beq_iff_eq.mp h) (fun e => by cases e)
  unfold PySem.W.kitOne
  rw [if_neg (by rw [c2]; decide)]
  unfold PySem.W.kitCls
  dsimp only
  rw [if_pos (by rw [c1, ty]; simp)]
  exact su
set_option maxHeartbeats 0 in
theorem all_mk {l : PySem.W.OpenLaw} {w : World} {K : PySem.W.Frag} {h : Heap} {mg : Str → Option Value} {fa : Addr} (X : K.In h) (G : h.Ns mainGlobals mg) (hfa : mg "law" = some (.ref fa))
    {f_write_sign : Addr} {od_write_sign an_write_sign : Option Addr} {sl_write_sign : Array (Option Value)} {oc_write_sign kV_write_sign dc_write_sign pm_write_sign cd_write_sign ct_write_sign : Value} (a_write_sign : PySem.W.nsIn K mainGlobals "write_sign" = some (some (.ref f_write_sign))) (l_write_sign : K.lookup f_write_sign = some ⟨oc_write_sign, od_write_sign, .func (PySem.W.fnOf "write_sign" "write_sign" (defArgs s_write_sign) (defBody s_write_sign) (defScope s_write_sign) .none kV_write_sign dc_write_sign pm_write_sign an_write_sign cd_write_sign ct_write_sign), sl_write_sign⟩) (c_write_sign : PySem.W.codeIn K cd_write_sign "write_sign" = true) (k_write_sign : PySem.W.keepIn K (.ref f_write_sign) = true)
    {f_rank : Addr} {od_rank an_rank : Option Addr} {sl_rank : Array (Option Value)} {oc_rank kV_rank dc_rank pm_rank cd_rank ct_rank : Value} (a_rank : PySem.W.nsIn K mainGlobals "rank" = some (some (.ref f_rank))) (l_rank : K.lookup f_rank = some ⟨oc_rank, od_rank, .func (PySem.W.fnOf "rank" "rank" (defArgs s_rank) (defBody s_rank) (defScope s_rank) .none kV_rank dc_rank pm_rank an_rank cd_rank ct_rank), sl_rank⟩) (c_rank : PySem.W.codeIn K cd_rank "rank" = true) (k_rank : PySem.W.keepIn K (.ref f_rank) = true)
    {f_write_set : Addr} {od_write_set an_write_set : Option Addr} {sl_write_set : Array (Option Value)} {oc_write_set kV_write_set dc_write_set pm_write_set cd_write_set ct_write_set : Value} (a_write_set : PySem.W.nsIn K mainGlobals "write_set" = some (some (.ref f_write_set))) (l_write_set : K.lookup f_write_set = some ⟨oc_write_set, od_write_set, .func (PySem.W.fnOf "write_set" "write_set" (defArgs s_write_set) (defBody s_write_set) (defScope s_write_set) .none kV_write_set dc_write_set pm_write_set an_write_set cd_write_set ct_write_set), sl_write_set⟩) (c_write_set : PySem.W.codeIn K cd_write_set "write_set" = true) (k_write_set : PySem.W.keepIn K (.ref f_write_set) = true)
    {f_write_members : Addr} {od_write_members an_write_members : Option Addr} {sl_write_members : Array (Option Value)} {oc_write_members kV_write_members dc_write_members pm_write_members cd_write_members ct_write_members : Value} (a_write_members : PySem.W.nsIn K mainGlobals "write_members" = some (some (.ref f_write_members))) (l_write_members : K.lookup f_write_members = some ⟨oc_write_members, od_write_members, .func (PySem.W.fnOf "write_members" "write_members" (defArgs s_write_members) (defBody s_write_members) (defScope s_write_members) .none kV_write_members dc_write_members pm_write_members an_write_members cd_write_members ct_write_members), sl_write_members⟩) (c_write_members : PySem.W.codeIn K cd_write_members "write_members" = true) (k_write_members : PySem.W.keepIn K (.ref f_write_members) = true)
    {f_write_run : Addr} {od_write_run an_write_run : Option Addr} {sl_write_run : Array (Option Value)} {oc_write_run kV_write_run dc_write_run pm_write_run cd_write_run ct_write_run : Value} (a_write_run : PySem.W.nsIn K mainGlobals "write_run" = some (some (.ref f_write_run))) (l_write_run : K.lookup f_write_run = some ⟨oc_write_run, od_write_run, .func (PySem.W.fnOf "write_run" "write_run" (defArgs s_write_run) (defBody s_write_run) (defScope s_write_run) .none kV_write_run dc_write_run pm_write_run an_write_run cd_write_run ct_write_run), sl_write_run⟩) (c_write_run : PySem.W.codeIn K cd_write_run "write_run" = true) (k_write_run : PySem.W.keepIn K (.ref f_write_run) = true)
    {f_write_pattern : Addr} {od_write_pattern an_write_pattern : Option Addr} {sl_write_pattern : Array (Option Value)} {oc_write_pattern kV_write_pattern dc_write_pattern pm_write_pattern cd_write_pattern ct_write_pattern : Value} (a_write_pattern : PySem.W.nsIn K mainGlobals "write_pattern" = some (some (.ref f_write_pattern))) (l_write_pattern : K.lookup f_write_pattern = some ⟨oc_write_pattern, od_write_pattern, .func (PySem.W.fnOf "write_pattern" "write_pattern" (defArgs s_write_pattern) (defBody s_write_pattern) (defScope s_write_pattern) .none kV_write_pattern dc_write_pattern pm_write_pattern an_write_pattern cd_write_pattern ct_write_pattern), sl_write_pattern⟩) (c_write_pattern : PySem.W.codeIn K cd_write_pattern "write_pattern" = true) (k_write_pattern : PySem.W.keepIn K (.ref f_write_pattern) = true)
    {f_write_within : Addr} {od_write_within an_write_within : Option Addr} {sl_write_within : Array (Option Value)} {oc_write_within kV_write_within dc_write_within pm_write_within cd_write_within ct_write_within : Value} (a_write_within : PySem.W.nsIn K mainGlobals "write_within" = some (some (.ref f_write_within))) (l_write_within : K.lookup f_write_within = some ⟨oc_write_within, od_write_within, .func (PySem.W.fnOf "write_within" "write_within" (defArgs s_write_within) (defBody s_write_within) (defScope s_write_within) .none kV_write_within dc_write_within pm_write_within an_write_within cd_write_within ct_write_within), sl_write_within⟩) (c_write_within : PySem.W.codeIn K cd_write_within "write_within" = true) (k_write_within : PySem.W.keepIn K (.ref f_write_within) = true)
    {f_write_numbers : Addr} {od_write_numbers an_write_numbers : Option Addr} {sl_write_numbers : Array (Option Value)} {oc_write_numbers kV_write_numbers dc_write_numbers pm_write_numbers cd_write_numbers ct_write_numbers : Value} (a_write_numbers : PySem.W.nsIn K mainGlobals "write_numbers" = some (some (.ref f_write_numbers))) (l_write_numbers : K.lookup f_write_numbers = some ⟨oc_write_numbers, od_write_numbers, .func (PySem.W.fnOf "write_numbers" "write_numbers" (defArgs s_write_numbers) (defBody s_write_numbers) (defScope s_write_numbers) .none kV_write_numbers dc_write_numbers pm_write_numbers an_write_numbers cd_write_numbers ct_write_numbers), sl_write_numbers⟩) (c_write_numbers : PySem.W.codeIn K cd_write_numbers "write_numbers" = true) (k_write_numbers : PySem.W.keepIn K (.ref f_write_numbers) = true)
    {f_write_brace : Addr} {od_write_brace an_write_brace : Option Addr} {sl_write_brace : Array (Option Value)} {oc_write_brace kV_write_brace dc_write_brace pm_write_brace cd_write_brace ct_write_brace : Value} (a_write_brace : PySem.W.nsIn K mainGlobals "write_brace" = some (some (.ref f_write_brace))) (l_write_brace : K.lookup f_write_brace = some ⟨oc_write_brace, od_write_brace, .func (PySem.W.fnOf "write_brace" "write_brace" (defArgs s_write_brace) (defBody s_write_brace) (defScope s_write_brace) .none kV_write_brace dc_write_brace pm_write_brace an_write_brace cd_write_brace ct_write_brace), sl_write_brace⟩) (c_write_brace : PySem.W.codeIn K cd_write_brace "write_brace" = true) (k_write_brace : PySem.W.keepIn K (.ref f_write_brace) = true)
    {f_Ldraw : Addr} {od_Ldraw an_Ldraw : Option Addr} {sl_Ldraw : Array (Option Value)} {oc_Ldraw kV_Ldraw dc_Ldraw pm_Ldraw cd_Ldraw ct_Ldraw : Value} (a_Ldraw : PySem.W.nsIn K mainGlobals "_law_draw" = some (some (.ref f_Ldraw))) (l_Ldraw : K.lookup f_Ldraw = some ⟨oc_Ldraw, od_Ldraw, .func (PySem.W.fnOf "_law_draw" "_law_draw" (defArgs s_Ldraw) (defBody s_Ldraw) (defScope s_Ldraw) .none kV_Ldraw dc_Ldraw pm_Ldraw an_Ldraw cd_Ldraw ct_Ldraw), sl_Ldraw⟩) (c_Ldraw : PySem.W.codeIn K cd_Ldraw "_law_draw" = true) (k_Ldraw : PySem.W.keepIn K (.ref f_Ldraw) = true)
    {f_Lnext : Addr} {od_Lnext an_Lnext : Option Addr} {sl_Lnext : Array (Option Value)} {oc_Lnext kV_Lnext dc_Lnext pm_Lnext cd_Lnext ct_Lnext : Value} (a_Lnext : PySem.W.nsIn K mainGlobals "_law_next" = some (some (.ref f_Lnext))) (l_Lnext : K.lookup f_Lnext = some ⟨oc_Lnext, od_Lnext, .func (PySem.W.fnOf "_law_next" "_law_next" (defArgs s_Lnext) (defBody s_Lnext) (defScope s_Lnext) .none kV_Lnext dc_Lnext pm_Lnext an_Lnext cd_Lnext ct_Lnext), sl_Lnext⟩) (c_Lnext : PySem.W.codeIn K cd_Lnext "_law_next" = true) (k_Lnext : PySem.W.keepIn K (.ref f_Lnext) = true)
    {f_Lsigns : Addr} {od_Lsigns an_Lsigns : Option Addr} {sl_Lsigns : Array (Option Value)} {oc_Lsigns kV_Lsigns dc_Lsigns pm_Lsigns cd_Lsigns ct_Lsigns : Value} (a_Lsigns : PySem.W.nsIn K mainGlobals "_law_signs" = some (some (.ref f_Lsigns))) (l_Lsigns : K.lookup f_Lsigns = some ⟨oc_Lsigns, od_Lsigns, .func (PySem.W.fnOf "_law_signs" "_law_signs" (defArgs s_Lsigns) (defBody s_Lsigns) (defScope s_Lsigns) .none kV_Lsigns dc_Lsigns pm_Lsigns an_Lsigns cd_Lsigns ct_Lsigns), sl_Lsigns⟩) (c_Lsigns : PySem.W.codeIn K cd_Lsigns "_law_signs" = true) (k_Lsigns : PySem.W.keepIn K (.ref f_Lsigns) = true)
    {f_Lany_name : Addr} {od_Lany_name an_Lany_name : Option Addr} {sl_Lany_name : Array (Option Value)} {oc_Lany_name kV_Lany_name dc_Lany_name pm_Lany_name cd_Lany_name ct_Lany_name : Value} (a_Lany_name : PySem.W.nsIn K mainGlobals "_law_any_name" = some (some (.ref f_Lany_name))) (l_Lany_name : K.lookup f_Lany_name = some ⟨oc_Lany_name, od_Lany_name, .func (PySem.W.fnOf "_law_any_name" "_law_any_name" (defArgs s_Lany_name) (defBody s_Lany_name) (defScope s_Lany_name) .none kV_Lany_name dc_Lany_name pm_Lany_name an_Lany_name cd_Lany_name ct_Lany_name), sl_Lany_name⟩) (c_Lany_name : PySem.W.codeIn K cd_Lany_name "_law_any_name" = true) (k_Lany_name : PySem.W.keepIn K (.ref f_Lany_name) = true)
    {f_Lnear_name : Addr} {od_Lnear_name an_Lnear_name : Option Addr} {sl_Lnear_name : Array (Option Value)} {oc_Lnear_name kV_Lnear_name dc_Lnear_name pm_Lnear_name cd_Lnear_name ct_Lnear_name : Value} (a_Lnear_name : PySem.W.nsIn K mainGlobals "_law_near_name" = some (some (.ref f_Lnear_name))) (l_Lnear_name : K.lookup f_Lnear_name = some ⟨oc_Lnear_name, od_Lnear_name, .func (PySem.W.fnOf "_law_near_name" "_law_near_name" (defArgs s_Lnear_name) (defBody s_Lnear_name) (defScope s_Lnear_name) .none kV_Lnear_name dc_Lnear_name pm_Lnear_name an_Lnear_name cd_Lnear_name ct_Lnear_name), sl_Lnear_name⟩) (c_Lnear_name : PySem.W.codeIn K cd_Lnear_name "_law_near_name" = true) (k_Lnear_name : PySem.W.keepIn K (.ref f_Lnear_name) = true)
    {f_Lgroup_name : Addr} {od_Lgroup_name an_Lgroup_name : Option Addr} {sl_Lgroup_name : Array (Option Value)} {oc_Lgroup_name kV_Lgroup_name dc_Lgroup_name pm_Lgroup_name cd_Lgroup_name ct_Lgroup_name : Value} (a_Lgroup_name : PySem.W.nsIn K mainGlobals "_law_group_name" = some (some (.ref f_Lgroup_name))) (l_Lgroup_name : K.lookup f_Lgroup_name = some ⟨oc_Lgroup_name, od_Lgroup_name, .func (PySem.W.fnOf "_law_group_name" "_law_group_name" (defArgs s_Lgroup_name) (defBody s_Lgroup_name) (defScope s_Lgroup_name) .none kV_Lgroup_name dc_Lgroup_name pm_Lgroup_name an_Lgroup_name cd_Lgroup_name ct_Lgroup_name), sl_Lgroup_name⟩) (c_Lgroup_name : PySem.W.codeIn K cd_Lgroup_name "_law_group_name" = true) (k_Lgroup_name : PySem.W.keepIn K (.ref f_Lgroup_name) = true)
    {f_Lsome_set : Addr} {od_Lsome_set an_Lsome_set : Option Addr} {sl_Lsome_set : Array (Option Value)} {oc_Lsome_set kV_Lsome_set dc_Lsome_set pm_Lsome_set cd_Lsome_set ct_Lsome_set : Value} (a_Lsome_set : PySem.W.nsIn K mainGlobals "_law_some_set" = some (some (.ref f_Lsome_set))) (l_Lsome_set : K.lookup f_Lsome_set = some ⟨oc_Lsome_set, od_Lsome_set, .func (PySem.W.fnOf "_law_some_set" "_law_some_set" (defArgs s_Lsome_set) (defBody s_Lsome_set) (defScope s_Lsome_set) .none kV_Lsome_set dc_Lsome_set pm_Lsome_set an_Lsome_set cd_Lsome_set ct_Lsome_set), sl_Lsome_set⟩) (c_Lsome_set : PySem.W.codeIn K cd_Lsome_set "_law_some_set" = true) (k_Lsome_set : PySem.W.keepIn K (.ref f_Lsome_set) = true)
    {f_Lwords : Addr} {od_Lwords an_Lwords : Option Addr} {sl_Lwords : Array (Option Value)} {oc_Lwords kV_Lwords dc_Lwords pm_Lwords cd_Lwords ct_Lwords : Value} (a_Lwords : PySem.W.nsIn K mainGlobals "_law_words" = some (some (.ref f_Lwords))) (l_Lwords : K.lookup f_Lwords = some ⟨oc_Lwords, od_Lwords, .func (PySem.W.fnOf "_law_words" "_law_words" (defArgs s_Lwords) (defBody s_Lwords) (defScope s_Lwords) .none kV_Lwords dc_Lwords pm_Lwords an_Lwords cd_Lwords ct_Lwords), sl_Lwords⟩) (c_Lwords : PySem.W.codeIn K cd_Lwords "_law_words" = true) (k_Lwords : PySem.W.keepIn K (.ref f_Lwords) = true)
    {f_Lnumbers : Addr} {od_Lnumbers an_Lnumbers : Option Addr} {sl_Lnumbers : Array (Option Value)} {oc_Lnumbers kV_Lnumbers dc_Lnumbers pm_Lnumbers cd_Lnumbers ct_Lnumbers : Value} (a_Lnumbers : PySem.W.nsIn K mainGlobals "_law_numbers" = some (some (.ref f_Lnumbers))) (l_Lnumbers : K.lookup f_Lnumbers = some ⟨oc_Lnumbers, od_Lnumbers, .func (PySem.W.fnOf "_law_numbers" "_law_numbers" (defArgs s_Lnumbers) (defBody s_Lnumbers) (defScope s_Lnumbers) .none kV_Lnumbers dc_Lnumbers pm_Lnumbers an_Lnumbers cd_Lnumbers ct_Lnumbers), sl_Lnumbers⟩) (c_Lnumbers : PySem.W.codeIn K cd_Lnumbers "_law_numbers" = true) (k_Lnumbers : PySem.W.keepIn K (.ref f_Lnumbers) = true)
    {f_Ltimes : Addr} {od_Ltimes an_Ltimes : Option Addr} {sl_Ltimes : Array (Option Value)} {oc_Ltimes kV_Ltimes dc_Ltimes pm_Ltimes cd_Ltimes ct_Ltimes : Value} (a_Ltimes : PySem.W.nsIn K mainGlobals "_law_times" = some (some (.ref f_Ltimes))) (l_Ltimes : K.lookup f_Ltimes = some ⟨oc_Ltimes, od_Ltimes, .func (PySem.W.fnOf "_law_times" "_law_times" (defArgs s_Ltimes) (defBody s_Ltimes) (defScope s_Ltimes) .none kV_Ltimes dc_Ltimes pm_Ltimes an_Ltimes cd_Ltimes ct_Ltimes), sl_Ltimes⟩) (c_Ltimes : PySem.W.codeIn K cd_Ltimes "_law_times" = true) (k_Ltimes : PySem.W.keepIn K (.ref f_Ltimes) = true)
    {f_Ltip : Addr} {od_Ltip an_Ltip : Option Addr} {sl_Ltip : Array (Option Value)} {oc_Ltip kV_Ltip dc_Ltip pm_Ltip cd_Ltip ct_Ltip : Value} (a_Ltip : PySem.W.nsIn K mainGlobals "_law_tip" = some (some (.ref f_Ltip))) (l_Ltip : K.lookup f_Ltip = some ⟨oc_Ltip, od_Ltip, .func (PySem.W.fnOf "_law_tip" "_law_tip" (defArgs s_Ltip) (defBody s_Ltip) (defScope s_Ltip) .none kV_Ltip dc_Ltip pm_Ltip an_Ltip cd_Ltip ct_Ltip), sl_Ltip⟩) (c_Ltip : PySem.W.codeIn K cd_Ltip "_law_tip" = true) (k_Ltip : PySem.W.keepIn K (.ref f_Ltip) = true)
    {f_Lform : Addr} {od_Lform an_Lform : Option Addr} {sl_Lform : Array (Option Value)} {oc_Lform kV_Lform dc_Lform pm_Lform cd_Lform ct_Lform : Value} (a_Lform : PySem.W.nsIn K mainGlobals "_law_form" = some (some (.ref f_Lform))) (l_Lform : K.lookup f_Lform = some ⟨oc_Lform, od_Lform, .func (PySem.W.fnOf "_law_form" "_law_form" (defArgs s_Lform) (defBody s_Lform) (defScope s_Lform) .none kV_Lform dc_Lform pm_Lform an_Lform cd_Lform ct_Lform), sl_Lform⟩) (c_Lform : PySem.W.codeIn K cd_Lform "_law_form" = true) (k_Lform : PySem.W.keepIn K (.ref f_Lform) = true)
    {f_Lchain : Addr} {od_Lchain an_Lchain : Option Addr} {sl_Lchain : Array (Option Value)} {oc_Lchain kV_Lchain dc_Lchain pm_Lchain cd_Lchain ct_Lchain : Value} (a_Lchain : PySem.W.nsIn K mainGlobals "_law_chain" = some (some (.ref f_Lchain))) (l_Lchain : K.lookup f_Lchain = some ⟨oc_Lchain, od_Lchain, .func (PySem.W.fnOf "_law_chain" "_law_chain" (defArgs s_Lchain) (defBody s_Lchain) (defScope s_Lchain) .none kV_Lchain dc_Lchain pm_Lchain an_Lchain cd_Lchain ct_Lchain), sl_Lchain⟩) (c_Lchain : PySem.W.codeIn K cd_Lchain "_law_chain" = true) (k_Lchain : PySem.W.keepIn K (.ref f_Lchain) = true)
    {f_Ldrawn_tree : Addr} {od_Ldrawn_tree an_Ldrawn_tree : Option Addr} {sl_Ldrawn_tree : Array (Option Value)} {oc_Ldrawn_tree kV_Ldrawn_tree dc_Ldrawn_tree pm_Ldrawn_tree cd_Ldrawn_tree ct_Ldrawn_tree : Value} (a_Ldrawn_tree : PySem.W.nsIn K mainGlobals "_law_drawn_tree" = some (some (.ref f_Ldrawn_tree))) (l_Ldrawn_tree : K.lookup f_Ldrawn_tree = some ⟨oc_Ldrawn_tree, od_Ldrawn_tree, .func (PySem.W.fnOf "_law_drawn_tree" "_law_drawn_tree" (defArgs s_Ldrawn_tree) (defBody s_Ldrawn_tree) (defScope s_Ldrawn_tree) .none kV_Ldrawn_tree dc_Ldrawn_tree pm_Ldrawn_tree an_Ldrawn_tree cd_Ldrawn_tree ct_Ldrawn_tree), sl_Ldrawn_tree⟩) (c_Ldrawn_tree : PySem.W.codeIn K cd_Ldrawn_tree "_law_drawn_tree" = true) (k_Ldrawn_tree : PySem.W.keepIn K (.ref f_Ldrawn_tree) = true)
    {f_Lbelow : Addr} {od_Lbelow an_Lbelow : Option Addr} {sl_Lbelow : Array (Option Value)} {oc_Lbelow kV_Lbelow dc_Lbelow pm_Lbelow cd_Lbelow ct_Lbelow : Value} (a_Lbelow : PySem.W.nsIn K mainGlobals "_law_below" = some (some (.ref f_Lbelow))) (l_Lbelow : K.lookup f_Lbelow = some ⟨oc_Lbelow, od_Lbelow, .func (PySem.W.fnOf "_law_below" "_law_below" (defArgs s_Lbelow) (defBody s_Lbelow) (defScope s_Lbelow) .none kV_Lbelow dc_Lbelow pm_Lbelow an_Lbelow cd_Lbelow ct_Lbelow), sl_Lbelow⟩) (c_Lbelow : PySem.W.codeIn K cd_Lbelow "_law_below" = true) (k_Lbelow : PySem.W.keepIn K (.ref f_Lbelow) = true)
    {f_Lescaped : Addr} {od_Lescaped an_Lescaped : Option Addr} {sl_Lescaped : Array (Option Value)} {oc_Lescaped kV_Lescaped dc_Lescaped pm_Lescaped cd_Lescaped ct_Lescaped : Value} (a_Lescaped : PySem.W.nsIn K mainGlobals "_law_escaped" = some (some (.ref f_Lescaped))) (l_Lescaped : K.lookup f_Lescaped = some ⟨oc_Lescaped, od_Lescaped, .func (PySem.W.fnOf "_law_escaped" "_law_escaped" (defArgs s_Lescaped) (defBody s_Lescaped) (defScope s_Lescaped) .none kV_Lescaped dc_Lescaped pm_Lescaped an_Lescaped cd_Lescaped ct_Lescaped), sl_Lescaped⟩) (c_Lescaped : PySem.W.codeIn K cd_Lescaped "_law_escaped" = true) (k_Lescaped : PySem.W.keepIn K (.ref f_Lescaped) = true)
    {f_Linside : Addr} {od_Linside an_Linside : Option Addr} {sl_Linside : Array (Option Value)} {oc_Linside kV_Linside dc_Linside pm_Linside cd_Linside ct_Linside : Value} (a_Linside : PySem.W.nsIn K mainGlobals "_law_inside" = some (some (.ref f_Linside))) (l_Linside : K.lookup f_Linside = some ⟨oc_Linside, od_Linside, .func (PySem.W.fnOf "_law_inside" "_law_inside" (defArgs s_Linside) (defBody s_Linside) (defScope s_Linside) .none kV_Linside dc_Linside pm_Linside an_Linside cd_Linside ct_Linside), sl_Linside⟩) (c_Linside : PySem.W.codeIn K cd_Linside "_law_inside" = true) (k_Linside : PySem.W.keepIn K (.ref f_Linside) = true)
    {f_Lwritten_set : Addr} {od_Lwritten_set an_Lwritten_set : Option Addr} {sl_Lwritten_set : Array (Option Value)} {oc_Lwritten_set kV_Lwritten_set dc_Lwritten_set pm_Lwritten_set cd_Lwritten_set ct_Lwritten_set : Value} (a_Lwritten_set : PySem.W.nsIn K mainGlobals "_law_written_set" = some (some (.ref f_Lwritten_set))) (l_Lwritten_set : K.lookup f_Lwritten_set = some ⟨oc_Lwritten_set, od_Lwritten_set, .func (PySem.W.fnOf "_law_written_set" "_law_written_set" (defArgs s_Lwritten_set) (defBody s_Lwritten_set) (defScope s_Lwritten_set) .none kV_Lwritten_set dc_Lwritten_set pm_Lwritten_set an_Lwritten_set cd_Lwritten_set ct_Lwritten_set), sl_Lwritten_set⟩) (c_Lwritten_set : PySem.W.codeIn K cd_Lwritten_set "_law_written_set" = true) (k_Lwritten_set : PySem.W.keepIn K (.ref f_Lwritten_set) = true)
    {f_Lmark : Addr} {od_Lmark an_Lmark : Option Addr} {sl_Lmark : Array (Option Value)} {oc_Lmark kV_Lmark dc_Lmark pm_Lmark cd_Lmark ct_Lmark : Value} (a_Lmark : PySem.W.nsIn K mainGlobals "_law_mark" = some (some (.ref f_Lmark))) (l_Lmark : K.lookup f_Lmark = some ⟨oc_Lmark, od_Lmark, .func (PySem.W.fnOf "_law_mark" "_law_mark" (defArgs s_Lmark) (defBody s_Lmark) (defScope s_Lmark) .none kV_Lmark dc_Lmark pm_Lmark an_Lmark cd_Lmark ct_Lmark), sl_Lmark⟩) (c_Lmark : PySem.W.codeIn K cd_Lmark "_law_mark" = true) (k_Lmark : PySem.W.keepIn K (.ref f_Lmark) = true)
    {f_Lwritten : Addr} {od_Lwritten an_Lwritten : Option Addr} {sl_Lwritten : Array (Option Value)} {oc_Lwritten kV_Lwritten dc_Lwritten pm_Lwritten cd_Lwritten ct_Lwritten : Value} (a_Lwritten : PySem.W.nsIn K mainGlobals "_law_written" = some (some (.ref f_Lwritten))) (l_Lwritten : K.lookup f_Lwritten = some ⟨oc_Lwritten, od_Lwritten, .func (PySem.W.fnOf "_law_written" "_law_written" (defArgs s_Lwritten) (defBody s_Lwritten) (defScope s_Lwritten) .none kV_Lwritten dc_Lwritten pm_Lwritten an_Lwritten cd_Lwritten ct_Lwritten), sl_Lwritten⟩) (c_Lwritten : PySem.W.codeIn K cd_Lwritten "_law_written" = true) (k_Lwritten : PySem.W.keepIn K (.ref f_Lwritten) = true)
    {f_law : Addr} {od_law an_law : Option Addr} {sl_law : Array (Option Value)} {oc_law kV_law dc_law pm_law cd_law ct_law : Value} (a_law : PySem.W.nsIn K mainGlobals "law" = some (some (.ref f_law))) (l_law : K.lookup f_law = some ⟨oc_law, od_law, .func (PySem.W.fnOf "law" "law" (defArgs s_law) (defBody s_law) (defScope s_law) .none kV_law dc_law pm_law an_law cd_law ct_law), sl_law⟩) (c_law : PySem.W.codeIn K cd_law "law" = true) (k_law : PySem.W.keepIn K (.ref f_law) = true)
    {c_SignSet : Addr} (ac_SignSet : PySem.W.nsIn K mainGlobals "SignSet" = some (some (.ref c_SignSet))) (pg_SignSet : PySem.W.plainGet K c_SignSet Str.empty = true) (hd_SignSet : PySem.W.hasDictIn K c_SignSet = true) (po_SignSet : PySem.W.plainOver K c_SignSet = true) (sa_SignSet : PySem.W.findIn K (.ref c_SignSet) "__setattr__" = some (some (.builtin "object.__setattr__"))) (mk_SignSet : PySem.W.makesIn K c_SignSet = true) (kc_SignSet : PySem.W.keepIn K (.ref c_SignSet) = true) (sf_SignSet : PySem.W.selfFirst K c_SignSet = true)
    (ha_SignSet : PySem.W.findIn K (.ref c_SignSet) "__class__" = some (some (.builtin "object.__class__"))) (hn_SignSet : PySem.W.specialIn K (.builtin "object.__class__") "__get__" = some (some (.builtin "getset_descriptor.__get__"))) (ht_SignSet : PySem.W.takesIn K (.builtin "object.__class__") = some true) (hm_SignSet : PySem.W.mroIn K c_SignSet (.type "object") = some true)
    (rd_SignSet : PySem.W.readsIn K c_SignSet (.type "type") = true) (gt_SignSet : PySem.W.specialIn K (.ref c_SignSet) "__getattribute__" = some (some (.builtin "type.__getattribute__")))
    (na_SignSet_members : PySem.W.findIn K (.ref c_SignSet) "_members" = some none)
    {f_SignSet_Minit : Addr} {od_SignSet_Minit an_SignSet_Minit : Option Addr} {sl_SignSet_Minit : Array (Option Value)} {oc_SignSet_Minit kV_SignSet_Minit dc_SignSet_Minit pm_SignSet_Minit cd_SignSet_Minit ct_SignSet_Minit : Value}
    (a_SignSet_Minit : PySem.W.findIn K (.ref c_SignSet) "__init__" = some (some (.ref f_SignSet_Minit))) (i_SignSet_Minit : PySem.W.isFn K (.ref f_SignSet_Minit) = true)
    {T_SignSet_Minit : Addr} {oT_SignSet_Minit : Value} {dT_SignSet_Minit : Option Addr} {nT_SignSet_Minit : Nat} {sT_SignSet_Minit : Array (Option Value)} {u0_SignSet_Minit : Tok}
    (l_SignSet_Minit : K.lookup f_SignSet_Minit = some ⟨oc_SignSet_Minit, od_SignSet_Minit, .func (PySem.W.fnOf "__init__" "SignSet.__init__" (defArgs s_SignSet_Minit) (defBody s_SignSet_Minit) (defScope s_SignSet_Minit) (.ref T_SignSet_Minit) kV_SignSet_Minit dc_SignSet_Minit pm_SignSet_Minit an_SignSet_Minit cd_SignSet_Minit ct_SignSet_Minit), sl_SignSet_Minit⟩) (c_SignSet_Minit : PySem.W.codeIn K cd_SignSet_Minit "SignSet.__init__" = true) (k_SignSet_Minit : PySem.W.keepIn K (.ref f_SignSet_Minit) = true)
    (d_SignSet_Minit : K.lookup T_SignSet_Minit = some ⟨oT_SignSet_Minit, dT_SignSet_Minit, .seq #[.str "" u0_SignSet_Minit] nT_SignSet_Minit, sT_SignSet_Minit⟩)
    {f_SignSet_between : Addr} {od_SignSet_between an_SignSet_between : Option Addr} {sl_SignSet_between : Array (Option Value)} {oc_SignSet_between kV_SignSet_between dc_SignSet_between pm_SignSet_between cd_SignSet_between ct_SignSet_between : Value}
    {p_SignSet_between : Addr} {rs_SignSet_between : List Value} (a_SignSet_between : PySem.W.findCls K (.ref c_SignSet) (.type "type") "between" = some (.get (.builtin "staticmethod.__get__") (.ref p_SignSet_between) .none (.ref c_SignSet))) (r_SignSet_between : PySem.W.recIn K p_SignSet_between "staticmethod" = some (.ref f_SignSet_between :: rs_SignSet_between))
    (l_SignSet_between : K.lookup f_SignSet_between = some ⟨oc_SignSet_between, od_SignSet_between, .func (PySem.W.fnOf "between" "SignSet.between" (defArgs s_SignSet_between) (defBody s_SignSet_between) (defScope s_SignSet_between) .none kV_SignSet_between dc_SignSet_between pm_SignSet_between an_SignSet_between cd_SignSet_between ct_SignSet_between), sl_SignSet_between⟩) (c_SignSet_between : PySem.W.codeIn K cd_SignSet_between "SignSet.between" = true) (k_SignSet_between : PySem.W.keepIn K (.ref f_SignSet_between) = true)
    {f_SignSet_members : Addr} {od_SignSet_members an_SignSet_members : Option Addr} {sl_SignSet_members : Array (Option Value)} {oc_SignSet_members kV_SignSet_members dc_SignSet_members pm_SignSet_members cd_SignSet_members ct_SignSet_members : Value}
    {p_SignSet_members : Addr} {rs_SignSet_members : List Value} (a_SignSet_members : PySem.W.findIn K (.ref c_SignSet) "members" = some (some (.ref p_SignSet_members))) (g_SignSet_members : PySem.W.specialIn K (.ref p_SignSet_members) "__get__" = some (some (.builtin "property.__get__"))) (t_SignSet_members : PySem.W.takesIn K (.ref p_SignSet_members) = some true) (r_SignSet_members : PySem.W.recIn K p_SignSet_members "property" = some (.ref f_SignSet_members :: rs_SignSet_members))
    (l_SignSet_members : K.lookup f_SignSet_members = some ⟨oc_SignSet_members, od_SignSet_members, .func (PySem.W.fnOf "members" "SignSet.members" (defArgs s_SignSet_members) (defBody s_SignSet_members) (defScope s_SignSet_members) .none kV_SignSet_members dc_SignSet_members pm_SignSet_members an_SignSet_members cd_SignSet_members ct_SignSet_members), sl_SignSet_members⟩) (c_SignSet_members : PySem.W.codeIn K cd_SignSet_members "SignSet.members" = true) (k_SignSet_members : PySem.W.keepIn K (.ref f_SignSet_members) = true)
    {f_SignSet_ranges : Addr} {od_SignSet_ranges an_SignSet_ranges : Option Addr} {sl_SignSet_ranges : Array (Option Value)} {oc_SignSet_ranges kV_SignSet_ranges dc_SignSet_ranges pm_SignSet_ranges cd_SignSet_ranges ct_SignSet_ranges : Value}
    {p_SignSet_ranges : Addr} {rs_SignSet_ranges : List Value} (a_SignSet_ranges : PySem.W.findIn K (.ref c_SignSet) "ranges" = some (some (.ref p_SignSet_ranges))) (g_SignSet_ranges : PySem.W.specialIn K (.ref p_SignSet_ranges) "__get__" = some (some (.builtin "property.__get__"))) (t_SignSet_ranges : PySem.W.takesIn K (.ref p_SignSet_ranges) = some true) (r_SignSet_ranges : PySem.W.recIn K p_SignSet_ranges "property" = some (.ref f_SignSet_ranges :: rs_SignSet_ranges))
    (l_SignSet_ranges : K.lookup f_SignSet_ranges = some ⟨oc_SignSet_ranges, od_SignSet_ranges, .func (PySem.W.fnOf "ranges" "SignSet.ranges" (defArgs s_SignSet_ranges) (defBody s_SignSet_ranges) (defScope s_SignSet_ranges) .none kV_SignSet_ranges dc_SignSet_ranges pm_SignSet_ranges an_SignSet_ranges cd_SignSet_ranges ct_SignSet_ranges), sl_SignSet_ranges⟩) (c_SignSet_ranges : PySem.W.codeIn K cd_SignSet_ranges "SignSet.ranges" = true) (k_SignSet_ranges : PySem.W.keepIn K (.ref f_SignSet_ranges) = true)
    {f_SignSet_Minvert : Addr} {od_SignSet_Minvert an_SignSet_Minvert : Option Addr} {sl_SignSet_Minvert : Array (Option Value)} {oc_SignSet_Minvert kV_SignSet_Minvert dc_SignSet_Minvert pm_SignSet_Minvert cd_SignSet_Minvert ct_SignSet_Minvert : Value}
    (a_SignSet_Minvert : PySem.W.findIn K (.ref c_SignSet) "__invert__" = some (some (.ref f_SignSet_Minvert))) (i_SignSet_Minvert : PySem.W.isFn K (.ref f_SignSet_Minvert) = true)
    (l_SignSet_Minvert : K.lookup f_SignSet_Minvert = some ⟨oc_SignSet_Minvert, od_SignSet_Minvert, .func (PySem.W.fnOf "__invert__" "SignSet.__invert__" (defArgs s_SignSet_Minvert) (defBody s_SignSet_Minvert) (defScope s_SignSet_Minvert) .none kV_SignSet_Minvert dc_SignSet_Minvert pm_SignSet_Minvert an_SignSet_Minvert cd_SignSet_Minvert ct_SignSet_Minvert), sl_SignSet_Minvert⟩) (c_SignSet_Minvert : PySem.W.codeIn K cd_SignSet_Minvert "SignSet.__invert__" = true) (k_SignSet_Minvert : PySem.W.keepIn K (.ref f_SignSet_Minvert) = true)
    {f_SignSet_Mcontains : Addr} {od_SignSet_Mcontains an_SignSet_Mcontains : Option Addr} {sl_SignSet_Mcontains : Array (Option Value)} {oc_SignSet_Mcontains kV_SignSet_Mcontains dc_SignSet_Mcontains pm_SignSet_Mcontains cd_SignSet_Mcontains ct_SignSet_Mcontains : Value}
    (a_SignSet_Mcontains : PySem.W.findIn K (.ref c_SignSet) "__contains__" = some (some (.ref f_SignSet_Mcontains))) (i_SignSet_Mcontains : PySem.W.isFn K (.ref f_SignSet_Mcontains) = true)
    (l_SignSet_Mcontains : K.lookup f_SignSet_Mcontains = some ⟨oc_SignSet_Mcontains, od_SignSet_Mcontains, .func (PySem.W.fnOf "__contains__" "SignSet.__contains__" (defArgs s_SignSet_Mcontains) (defBody s_SignSet_Mcontains) (defScope s_SignSet_Mcontains) .none kV_SignSet_Mcontains dc_SignSet_Mcontains pm_SignSet_Mcontains an_SignSet_Mcontains cd_SignSet_Mcontains ct_SignSet_Mcontains), sl_SignSet_Mcontains⟩) (c_SignSet_Mcontains : PySem.W.codeIn K cd_SignSet_Mcontains "SignSet.__contains__" = true) (k_SignSet_Mcontains : PySem.W.keepIn K (.ref f_SignSet_Mcontains) = true)
    {f_SignSet_Mlen : Addr} {od_SignSet_Mlen an_SignSet_Mlen : Option Addr} {sl_SignSet_Mlen : Array (Option Value)} {oc_SignSet_Mlen kV_SignSet_Mlen dc_SignSet_Mlen pm_SignSet_Mlen cd_SignSet_Mlen ct_SignSet_Mlen : Value}
    (a_SignSet_Mlen : PySem.W.findIn K (.ref c_SignSet) "__len__" = some (some (.ref f_SignSet_Mlen))) (i_SignSet_Mlen : PySem.W.isFn K (.ref f_SignSet_Mlen) = true)
    (l_SignSet_Mlen : K.lookup f_SignSet_Mlen = some ⟨oc_SignSet_Mlen, od_SignSet_Mlen, .func (PySem.W.fnOf "__len__" "SignSet.__len__" (defArgs s_SignSet_Mlen) (defBody s_SignSet_Mlen) (defScope s_SignSet_Mlen) .none kV_SignSet_Mlen dc_SignSet_Mlen pm_SignSet_Mlen an_SignSet_Mlen cd_SignSet_Mlen ct_SignSet_Mlen), sl_SignSet_Mlen⟩) (c_SignSet_Mlen : PySem.W.codeIn K cd_SignSet_Mlen "SignSet.__len__" = true) (k_SignSet_Mlen : PySem.W.keepIn K (.ref f_SignSet_Mlen) = true)
    {t_SPECIAL_SIGNS : Tok} (v_SPECIAL_SIGNS : PySem.W.nsIn K mainGlobals "SPECIAL_SIGNS" = some (some (.str "\\|*+?<>()[]{}.~^" t_SPECIAL_SIGNS)))
    {t_BRACKET_SPECIALS : Tok} (v_BRACKET_SPECIALS : PySem.W.nsIn K mainGlobals "BRACKET_SPECIALS" = some (some (.str "\\[]^-" t_BRACKET_SPECIALS)))
    {d_ESCAPES : Addr} (v_ESCAPES : PySem.W.nsIn K mainGlobals "ESCAPES" = some (some (.ref d_ESCAPES))) {h1_ESCAPES h2_ESCAPES : Int} {t1_ESCAPES t2_ESCAPES u1_ESCAPES u2_ESCAPES : Tok} {n_ESCAPES : Nat} (l_ESCAPES : K.lookup d_ESCAPES = some ⟨.type "dict", none, .dict #[⟨h1_ESCAPES, .str "\n" t1_ESCAPES, .str "\\n" u1_ESCAPES⟩, ⟨h2_ESCAPES, .str "\t" t2_ESCAPES, .str "\\t" u2_ESCAPES⟩] n_ESCAPES, #[]⟩) (h1e_ESCAPES : h1_ESCAPES = PyData.keyHash w.params "\n") (h2e_ESCAPES : h2_ESCAPES = PyData.keyHash w.params "\t") (lo_ESCAPES : (d_ESCAPES == sysModules) = false)
    {t_SIGNS : Tok} (v_SIGNS : PySem.W.nsIn K mainGlobals "SIGNS" = some (some (.str "\t\n !\"#$&'()*+,-./0123456789:;<=>?@ABCDEFGHIJKLMNOPQRSTUVWXYZ[\\]^_`abcdefghijklmnopqrstuvwxyz{|}~" t_SIGNS)))
    {d_BRANCH_KINDS : Addr} (v_BRANCH_KINDS : PySem.W.nsIn K mainGlobals "BRANCH_KINDS" = some (some (.ref d_BRANCH_KINDS))) {t0_BRANCH_KINDS : Tok} {n_BRANCH_KINDS : Nat} {od_BRANCH_KINDS : Option Addr} {sl_BRANCH_KINDS : Array (Option Value)} (l_BRANCH_KINDS : K.lookup d_BRANCH_KINDS = some ⟨.type "tuple", od_BRANCH_KINDS, .seq #[.str "alt" t0_BRANCH_KINDS] n_BRANCH_KINDS, sl_BRANCH_KINDS⟩)
    {d_ITEM_KINDS : Addr} (v_ITEM_KINDS : PySem.W.nsIn K mainGlobals "ITEM_KINDS" = some (some (.ref d_ITEM_KINDS))) {t0_ITEM_KINDS t1_ITEM_KINDS t2_ITEM_KINDS : Tok} {n_ITEM_KINDS : Nat} {od_ITEM_KINDS : Option Addr} {sl_ITEM_KINDS : Array (Option Value)} (l_ITEM_KINDS : K.lookup d_ITEM_KINDS = some ⟨.type "tuple", od_ITEM_KINDS, .seq #[.str "alt" t0_ITEM_KINDS, .str "empty" t1_ITEM_KINDS, .str "seq" t2_ITEM_KINDS] n_ITEM_KINDS, sl_ITEM_KINDS⟩)
    {d_BODY_KINDS : Addr} (v_BODY_KINDS : PySem.W.nsIn K mainGlobals "BODY_KINDS" = some (some (.ref d_BODY_KINDS))) {t0_BODY_KINDS t1_BODY_KINDS t2_BODY_KINDS t3_BODY_KINDS : Tok} {n_BODY_KINDS : Nat} {od_BODY_KINDS : Option Addr} {sl_BODY_KINDS : Array (Option Value)} (l_BODY_KINDS : K.lookup d_BODY_KINDS = some ⟨.type "tuple", od_BODY_KINDS, .seq #[.str "alt" t0_BODY_KINDS, .str "empty" t1_BODY_KINDS, .str "seq" t2_BODY_KINDS, .str "repeat" t3_BODY_KINDS] n_BODY_KINDS, sl_BODY_KINDS⟩)
    {t_SHORTEST_RANGE : Tok} (v_SHORTEST_RANGE : PySem.W.nsIn K mainGlobals "SHORTEST_RANGE" = some (some (.int 3 t_SHORTEST_RANGE)))
    (z_int : PySem.W.nsIn K mainGlobals "int" = some none)
    (z_isinstance : PySem.W.nsIn K mainGlobals "isinstance" = some none)
    (z_len : PySem.W.nsIn K mainGlobals "len" = some none)
    (z_list : PySem.W.nsIn K mainGlobals "list" = some none)
    (z_max : PySem.W.nsIn K mainGlobals "max" = some none)
    (z_min : PySem.W.nsIn K mainGlobals "min" = some none)
    (z_range : PySem.W.nsIn K mainGlobals "range" = some none)
    (z_set : PySem.W.nsIn K mainGlobals "set" = some none)
    (z_sorted : PySem.W.nsIn K mainGlobals "sorted" = some none)
    (z_str : PySem.W.nsIn K mainGlobals "str" = some none)
    (z_tuple : PySem.W.nsIn K mainGlobals "tuple" = some none)
    : ∃ fd : FuncData, (∀ (s : Shared) (v : Value), BindsTo s fd ⟨[v], []⟩ [("_law_script", v)]) ∧ ∀ base : Heap, K.In base → base.Ns mainGlobals mg → FnOk l.prog w K mg base CX0 90 fa fd ["_law_script"] (sp_law K) := by
  have e := hfa.symm.trans (PySem.W.mg_of X G a_law)
  cases e
  have F_write_sign := fun_mk (st := s_write_sign) l_write_sign c_write_sign k_write_sign
  have B_write_sign := F_write_sign.binds (ps := ["sign", "specials"]) fun _ _ _ _ _ _ us hl => match us, hl with | [_, _], _ => rfl
  have F_rank := fun_mk (st := s_rank) l_rank c_rank k_rank
  have B_rank := F_rank.binds (ps := ["sign"]) fun _ _ _ _ _ _ us hl => match us, hl with | [_], _ => rfl
  have F_write_set := fun_mk (st := s_write_set) l_write_set c_write_set k_write_set
  have B_write_set := F_write_set.binds (ps := ["signs"]) fun _ _ _ _ _ _ us hl => match us, hl with | [_], _ => rfl
  have F_write_members := fun_mk (st := s_write_members) l_write_members c_write_members k_write_members
  have B_write_members := F_write_members.binds (ps := ["members"]) fun _ _ _ _ _ _ us hl => match us, hl with | [_], _ => rfl
  have F_write_run := fun_mk (st := s_write_run) l_write_run c_write_run k_write_run
  have B_write_run := F_write_run.binds (ps := ["first", "last"]) fun _ _ _ _ _ _ us hl => match us, hl with | [_, _], _ => rfl
  have F_write_pattern := fun_mk (st := s_write_pattern) l_write_pattern c_write_pattern k_write_pattern
  have B_write_pattern := F_write_pattern.binds (ps := ["tree"]) fun _ _ _ _ _ _ us hl => match us, hl with | [_], _ => rfl
  have F_write_within := fun_mk (st := s_write_within) l_write_within c_write_within k_write_within
  have B_write_within := F_write_within.binds (ps := ["tree", "kinds"]) fun _ _ _ _ _ _ us hl => match us, hl with | [_, _], _ => rfl
  have F_write_numbers := fun_mk (st := s_write_numbers) l_write_numbers c_write_numbers k_write_numbers
  have B_write_numbers := F_write_numbers.binds (ps := ["least", "most"]) fun _ _ _ _ _ _ us hl => match us, hl with | [_, _], _ => rfl
  have F_write_brace := fun_mk (st := s_write_brace) l_write_brace c_write_brace k_write_brace
  have B_write_brace := F_write_brace.binds (ps := ["tree"]) fun _ _ _ _ _ _ us hl => match us, hl with | [_], _ => rfl
  have F_Ldraw := fun_mk (st := s_Ldraw) l_Ldraw c_Ldraw k_Ldraw
  have B_Ldraw := F_Ldraw.binds (ps := ["_law_script"]) fun _ _ _ _ _ _ us hl => match us, hl with | [_], _ => rfl
  have F_Lnext := fun_mk (st := s_Lnext) l_Lnext c_Lnext k_Lnext
  have B_Lnext := F_Lnext.binds (ps := ["_law_draw_here", "_law_many"]) fun _ _ _ _ _ _ us hl => match us, hl with | [_, _], _ => rfl
  have F_Lsigns := fun_mk (st := s_Lsigns) l_Lsigns c_Lsigns k_Lsigns
  have B_Lsigns := F_Lsigns.binds (ps := []) fun _ _ _ _ _ _ us hl => match us, hl with | [], _ => rfl
  have F_Lany_name := fun_mk (st := s_Lany_name) l_Lany_name c_Lany_name k_Lany_name
  have B_Lany_name := F_Lany_name.binds (ps := ["_law_draw_here"]) fun _ _ _ _ _ _ us hl => match us, hl with | [_], _ => rfl
  have F_Lnear_name := fun_mk (st := s_Lnear_name) l_Lnear_name c_Lnear_name k_Lnear_name
  have B_Lnear_name := F_Lnear_name.binds (ps := ["_law_draw_here", "_law_name"]) fun _ _ _ _ _ _ us hl => match us, hl with | [_, _], _ => rfl
  have F_Lgroup_name := fun_mk (st := s_Lgroup_name) l_Lgroup_name c_Lgroup_name k_Lgroup_name
  have B_Lgroup_name := F_Lgroup_name.binds (ps := ["_law_draw_here", "_law_known"]) fun _ _ _ _ _ _ us hl => match us, hl with | [_, _], _ => rfl
  have F_Lsome_set := fun_mk (st := s_Lsome_set) l_Lsome_set c_Lsome_set k_Lsome_set
  have B_Lsome_set := F_Lsome_set.binds (ps := ["_law_draw_here"]) fun _ _ _ _ _ _ us hl => match us, hl with | [_], _ => rfl
  have F_Lwords := fun_mk (st := s_Lwords) l_Lwords c_Lwords k_Lwords
  have B_Lwords := F_Lwords.binds (ps := []) fun _ _ _ _ _ _ us hl => match us, hl with | [], _ => rfl
  have F_Lnumbers := fun_mk (st := s_Lnumbers) l_Lnumbers c_Lnumbers k_Lnumbers
  have B_Lnumbers := F_Lnumbers.binds (ps := ["_law_draw_here", "_law_fuel"]) fun _ _ _ _ _ _ us hl => match us, hl with | [_, _], _ => rfl
  have F_Ltimes := fun_mk (st := s_Ltimes) l_Ltimes c_Ltimes k_Ltimes
  have B_Ltimes := F_Ltimes.binds (ps := ["_law_numbers_here"]) fun _ _ _ _ _ _ us hl => match us, hl with | [_], _ => rfl
  have F_Ltip := fun_mk (st := s_Ltip) l_Ltip c_Ltip k_Ltip
  have B_Ltip := F_Ltip.binds (ps := ["_law_draw_here", "_law_outside", "_law_known"]) fun _ _ _ _ _ _ us hl => match us, hl with | [_, _, _], _ => rfl
  have F_Lform := fun_mk (st := s_Lform) l_Lform c_Lform k_Lform
  have B_Lform := F_Lform.binds (ps := ["_law_draw_here", "_law_fuel", "_law_nodes", "_law_depth", "_law_outside", "_law_known"]) fun _ _ _ _ _ _ us hl => match us, hl with | [_, _, _, _, _, _], _ => rfl
  have F_Lchain := fun_mk (st := s_Lchain) l_Lchain c_Lchain k_Lchain
  have B_Lchain := F_Lchain.binds (ps := ["_law_draw_here", "_law_depth", "_law_outside", "_law_known"]) fun _ _ _ _ _ _ us hl => match us, hl with | [_, _, _, _], _ => rfl
  have F_Ldrawn_tree := fun_mk (st := s_Ldrawn_tree) l_Ldrawn_tree c_Ldrawn_tree k_Ldrawn_tree
  have B_Ldrawn_tree := F_Ldrawn_tree.binds (ps := ["_law_draw_here", "_law_fuel", "_law_nodes"]) fun _ _ _ _ _ _ us hl => match us, hl with | [_, _, _], _ => rfl
  have F_Lbelow := fun_mk (st := s_Lbelow) l_Lbelow c_Lbelow k_Lbelow
  have B_Lbelow := F_Lbelow.binds (ps := ["_law_tree"]) fun _ _ _ _ _ _ us hl => match us, hl with | [_], _ => rfl
  have F_Lescaped := fun_mk (st := s_Lescaped) l_Lescaped c_Lescaped k_Lescaped
  have B_Lescaped := F_Lescaped.binds (ps := ["_law_sign", "_law_marked"]) fun _ _ _ _ _ _ us hl => match us, hl with | [_, _], _ => rfl
  have F_Linside := fun_mk (st := s_Linside) l_Linside c_Linside k_Linside
  have B_Linside := F_Linside.binds (ps := ["_law_text"]) fun _ _ _ _ _ _ us hl => match us, hl with | [_], _ => rfl
  have F_Lwritten_set := fun_mk (st := s_Lwritten_set) l_Lwritten_set c_Lwritten_set k_Lwritten_set
  have B_Lwritten_set := F_Lwritten_set.binds (ps := ["_law_text"]) fun _ _ _ _ _ _ us hl => match us, hl with | [_], _ => rfl
  have F_Lmark := fun_mk (st := s_Lmark) l_Lmark c_Lmark k_Lmark
  have B_Lmark := F_Lmark.binds (ps := ["_law_least", "_law_most", "_law_lazy"]) fun _ _ _ _ _ _ us hl => match us, hl with | [_, _, _], _ => rfl
  have F_Lwritten := fun_mk (st := s_Lwritten) l_Lwritten c_Lwritten k_Lwritten
  have B_Lwritten := F_Lwritten.binds (ps := ["_law_tree", "_law_place"]) fun _ _ _ _ _ _ us hl => match us, hl with | [_, _], _ => rfl
  have F_law := fun_mk (st := s_law) l_law c_law k_law
  have B_law := F_law.binds (ps := ["_law_script"]) fun _ _ _ _ _ _ us hl => match us, hl with | [_], _ => rfl
  have F_SignSet_Minit : FunD K "__init__" "SignSet.__init__" (defArgs s_SignSet_Minit) (defBody s_SignSet_Minit) (defScope s_SignSet_Minit) [.str ""] [] f_SignSet_Minit _ := ⟨⟨_, _, _, _, _, _, _, _, _, _, rfl, l_SignSet_Minit, c_SignSet_Minit, .inr ⟨by decide, _, _, [.str "" u0_SignSet_Minit], _, rfl, d_SignSet_Minit, rfl, .cons ⟨_, rfl⟩ (.nil)⟩, .inl rfl⟩, k_SignSet_Minit⟩
  obtain ⟨ds_SignSet_Minit, vs_SignSet_Minit, B_SignSet_Minit⟩ := F_SignSet_Minit.binds1 (ps := ["self", "signs"]) 2 1 (by decide) (by decide) fun T kV doc pm an cdv ct us its h1 h2 => match us, h1, its, h2 with | [_, _], _, [_], _ => ⟨_, rfl, rfl⟩
  obtain rfl : ds_SignSet_Minit = [] := by cases vs_SignSet_Minit; rfl
  obtain ⟨dd_SignSet_Minit, dv_SignSet_Minit, BD_SignSet_Minit⟩ := F_SignSet_Minit.binds1 (ps := ["self", "signs"]) 1 0 (by decide) (by decide) fun T kV doc pm an cdv ct us its h1 h2 => match us, h1, its, h2 with | [_], _, [_], _ => ⟨_, rfl, rfl⟩
  have F_SignSet_between := fun_mk (st := s_SignSet_between) l_SignSet_between c_SignSet_between k_SignSet_between
  have B_SignSet_between := F_SignSet_between.binds (ps := ["first", "last"]) fun _ _ _ _ _ _ us hl => match us, hl with | [_, _], _ => rfl
  have F_SignSet_members := fun_mk (st := s_SignSet_members) l_SignSet_members c_SignSet_members k_SignSet_members
  have B_SignSet_members := F_SignSet_members.binds (ps := ["self"]) fun _ _ _ _ _ _ us hl => match us, hl with | [_], _ => rfl
  have F_SignSet_ranges := fun_mk (st := s_SignSet_ranges) l_SignSet_ranges c_SignSet_ranges k_SignSet_ranges
  have B_SignSet_ranges := F_SignSet_ranges.binds (ps := ["self"]) fun _ _ _ _ _ _ us hl => match us, hl with | [_], _ => rfl
  have F_SignSet_Minvert := fun_mk (st := s_SignSet_Minvert) l_SignSet_Minvert c_SignSet_Minvert k_SignSet_Minvert
  have B_SignSet_Minvert := F_SignSet_Minvert.binds (ps := ["self"]) fun _ _ _ _ _ _ us hl => match us, hl with | [_], _ => rfl
  have F_SignSet_Mcontains := fun_mk (st := s_SignSet_Mcontains) l_SignSet_Mcontains c_SignSet_Mcontains k_SignSet_Mcontains
  have B_SignSet_Mcontains := F_SignSet_Mcontains.binds (ps := ["self", "sign"]) fun _ _ _ _ _ _ us hl => match us, hl with | [_, _], _ => rfl
  have F_SignSet_Mlen := fun_mk (st := s_SignSet_Mlen) l_SignSet_Mlen c_SignSet_Mlen k_SignSet_Mlen
  have B_SignSet_Mlen := F_SignSet_Mlen.binds (ps := ["self"]) fun _ _ _ _ _ _ us hl => match us, hl with | [_], _ => rfl
  let T : Top K mg := ⟨w, _, _, F_write_sign, B_write_sign, PySem.W.mg_of X G a_write_sign, _, _, F_rank, B_rank, PySem.W.mg_of X G a_rank, _, _, F_write_set, B_write_set, PySem.W.mg_of X G a_write_set, _, _, F_write_members, B_write_members, PySem.W.mg_of X G a_write_members, _, _, F_write_run, B_write_run, PySem.W.mg_of X G a_write_run, _, _, F_write_pattern, B_write_pattern, PySem.W.mg_of X G a_write_pattern, _, _, F_write_within, B_write_within, PySem.W.mg_of X G a_write_within, _, _, F_write_numbers, B_write_numbers, PySem.W.mg_of X G a_write_numbers, _, _, F_write_brace, B_write_brace, PySem.W.mg_of X G a_write_brace, _, _, F_Ldraw, B_Ldraw, PySem.W.mg_of X G a_Ldraw, _, _, F_Lnext, B_Lnext, PySem.W.mg_of X G a_Lnext, _, _, F_Lsigns, B_Lsigns, PySem.W.mg_of X G a_Lsigns, _, _, F_Lany_name, B_Lany_name, PySem.W.mg_of X G a_Lany_name, _, _, F_Lnear_name, B_Lnear_name, PySem.W.mg_of X G a_Lnear_name, _, _, F_Lgroup_name, B_Lgroup_name, PySem.W.mg_of X G a_Lgroup_name, _, _, F_Lsome_set, B_Lsome_set, PySem.W.mg_of X G a_Lsome_set, _, _, F_Lwords, B_Lwords, PySem.W.mg_of X G a_Lwords, _, _, F_Lnumbers, B_Lnumbers, PySem.W.mg_of X G a_Lnumbers, _, _, F_Ltimes, B_Ltimes, PySem.W.mg_of X G a_Ltimes, _, _, F_Ltip, B_Ltip, PySem.W.mg_of X G a_Ltip, _, _, F_Lform, B_Lform, PySem.W.mg_of X G a_Lform, _, _, F_Lchain, B_Lchain, PySem.W.mg_of X G a_Lchain, _, _, F_Ldrawn_tree, B_Ldrawn_tree, PySem.W.mg_of X G a_Ldrawn_tree, _, _, F_Lbelow, B_Lbelow, PySem.W.mg_of X G a_Lbelow, _, _, F_Lescaped, B_Lescaped, PySem.W.mg_of X G a_Lescaped, _, _, F_Linside, B_Linside, PySem.W.mg_of X G a_Linside, _, _, F_Lwritten_set, B_Lwritten_set, PySem.W.mg_of X G a_Lwritten_set, _, _, F_Lmark, B_Lmark, PySem.W.mg_of X G a_Lmark, _, _, F_Lwritten, B_Lwritten, PySem.W.mg_of X G a_Lwritten, _, _, F_law, B_law, PySem.W.mg_of X G a_law, _, PySem.W.mg_of X G ac_SignSet, ⟨⟨pg_SignSet, hd_SignSet, po_SignSet, sa_SignSet⟩, ha_SignSet, hn_SignSet, ht_SignSet, hm_SignSet, kit_self⟩, sf_SignSet, na_SignSet_members, ⟨rd_SignSet, gt_SignSet⟩, _, _, F_SignSet_Minit, B_SignSet_Minit, dd_SignSet_Minit, dv_SignSet_Minit, BD_SignSet_Minit, ⟨mk_SignSet, a_SignSet_Minit, i_SignSet_Minit, kc_SignSet⟩, _, _, F_SignSet_between, B_SignSet_between, _, ⟨a_SignSet_between, ⟨_, r_SignSet_between⟩, k_SignSet_between, rfl⟩, _, _, F_SignSet_members, B_SignSet_members, _, ⟨a_SignSet_members, g_SignSet_members, t_SignSet_members, ⟨_, r_SignSet_members⟩⟩, _, _, F_SignSet_ranges, B_SignSet_ranges, _, ⟨a_SignSet_ranges, g_SignSet_ranges, t_SignSet_ranges, ⟨_, r_SignSet_ranges⟩⟩, _, _, F_SignSet_Minvert, B_SignSet_Minvert, a_SignSet_Minvert, i_SignSet_Minvert, _, _, F_SignSet_Mcontains, B_SignSet_Mcontains, a_SignSet_Mcontains, i_SignSet_Mcontains, _, _, F_SignSet_Mlen, B_SignSet_Mlen, a_SignSet_Mlen, i_SignSet_Mlen, _, PySem.W.mg_of X G v_SPECIAL_SIGNS, _, PySem.W.mg_of X G v_BRACKET_SPECIALS, _, PySem.W.mg_of X G v_ESCAPES, kt_two l_ESCAPES h1e_ESCAPES h2e_ESCAPES lo_ESCAPES, _, PySem.W.mg_of X G v_SIGNS, _, PySem.W.mg_of X G v_BRANCH_KINDS, ⟨fun H => .inr ⟨_, _, _, l_BRANCH_KINDS, rfl, rfl, (show (1 : Nat) ≤ sizeLine by decide), .cons ⟨_, rfl⟩ (.nil)⟩⟩, _, PySem.W.mg_of X G v_ITEM_KINDS, ⟨fun H => .inr ⟨_, _, _, l_ITEM_KINDS, rfl, rfl, (show (3 : Nat) ≤ sizeLine by decide), .cons ⟨_, rfl⟩ (.cons ⟨_, rfl⟩ (.cons ⟨_, rfl⟩ (.nil)))⟩⟩, _, PySem.W.mg_of X G v_BODY_KINDS, ⟨fun H => .inr ⟨_, _, _, l_BODY_KINDS, rfl, rfl, (show (4 : Nat) ≤ sizeLine by decide), .cons ⟨_, rfl⟩ (.cons ⟨_, rfl⟩ (.cons ⟨_, rfl⟩ (.cons ⟨_, rfl⟩ (.nil))))⟩⟩, _, PySem.W.mg_of X G v_SHORTEST_RANGE, PySem.W.mg_none_of X G z_int, PySem.W.mg_none_of X G z_isinstance, PySem.W.mg_none_of X G z_len, PySem.W.mg_none_of X G z_list, PySem.W.mg_none_of X G z_max, PySem.W.mg_none_of X G z_min, PySem.W.mg_none_of X G z_range, PySem.W.mg_none_of X G z_set, PySem.W.mg_none_of X G z_sorted, PySem.W.mg_none_of X G z_str, PySem.W.mg_none_of X G z_tuple⟩
  exact ⟨PySem.W.fnOf "law" "law" (defArgs s_law) (defBody s_law) (defScope s_law) .none kV_law dc_law pm_law an_law cd_law ct_law, fun s v => .of_eq rfl, fun base _ _ => ok_law T⟩
end My
open PySem PySem.W PyProof.Rows in
set_option maxRecDepth 100000 in
set_option maxHeartbeats 0 in
theorem PySem.Challenge.cw_surespan_k10_written_pattern_holds : PySem.Challenge.rw_surespan_k10_written_pattern.Holds := by
  w_on; o_law; k_head; (case hw => w_witness2)
  k_fill
  refine L2.walk_of (l := PySem.Challenge.rw_surespan_k10_written_pattern) (n := 63) (k := 90) (x := "_law_script") (CX := fun _ => L2.CX0) (sp := fun w => My.sp_law _) rfl (by decide) rfl ⟨rfl, by decide, by decide⟩ (fun w h Y => PySem.W.kIn_of Y) ?F (fun _ _ a ns hl _ hS => ⟨a, ns, rfl, hS, hl, fun _ => rfl⟩) (fun _ _ _ _ _ h => h)
  case F =>
    intro w mg fa h KX G hmg
    refine' My.all_mk KX G hmg ?a_write_sign ?l_write_sign ?c_write_sign ?k_write_sign ?a_rank ?l_rank ?c_rank ?k_rank ?a_write_set ?l_write_set ?c_write_set ?k_write_set ?a_write_members ?l_write_members ?c_write_members ?k_write_members ?a_write_run ?l_write_run ?c_write_run ?k_write_run ?a_write_pattern ?l_write_pattern ?c_write_pattern ?k_write_pattern ?a_write_within ?l_write_within ?c_write_within ?k_write_within ?a_write_numbers ?l_write_numbers ?c_write_numbers ?k_write_numbers ?a_write_brace ?l_write_brace ?c_write_brace ?k_write_brace ?a_Ldraw ?l_Ldraw ?c_Ldraw ?k_Ldraw ?a_Lnext ?l_Lnext ?c_Lnext ?k_Lnext ?a_Lsigns ?l_Lsigns ?c_Lsigns ?k_Lsigns ?a_Lany_name ?l_Lany_name ?c_Lany_name ?k_Lany_name ?a_Lnear_name ?l_Lnear_name ?c_Lnear_name ?k_Lnear_name ?a_Lgroup_name ?l_Lgroup_name ?c_Lgroup_name ?k_Lgroup_name ?a_Lsome_set ?l_Lsome_set ?c_Lsome_set ?k_Lsome_set ?a_Lwords ?l_Lwords ?c_Lwords ?k_Lwords ?a_Lnumbers ?l_Lnumbers ?c_Lnumbers ?k_Lnumbers ?a_Ltimes ?l_Ltimes ?c_Ltimes ?k_Ltimes ?a_Ltip ?l_Ltip ?c_Ltip ?k_Ltip ?a_Lform ?l_Lform ?c_Lform ?k_Lform ?a_Lchain ?l_Lchain ?c_Lchain ?k_Lchain ?a_Ldrawn_tree ?l_Ldrawn_tree ?c_Ldrawn_tree ?k_Ldrawn_tree ?a_Lbelow ?l_Lbelow ?c_Lbelow ?k_Lbelow ?a_Lescaped ?l_Lescaped ?c_Lescaped ?k_Lescaped ?a_Linside ?l_Linside ?c_Linside ?k_Linside ?a_Lwritten_set ?l_Lwritten_set ?c_Lwritten_set ?k_Lwritten_set ?a_Lmark ?l_Lmark ?c_Lmark ?k_Lmark ?a_Lwritten ?l_Lwritten ?c_Lwritten ?k_Lwritten ?a_law ?l_law ?c_law ?k_law ?ac_SignSet ?pg_SignSet ?hd_SignSet ?po_SignSet ?sa_SignSet ?mk_SignSet ?kc_SignSet ?sf_SignSet ?ha_SignSet ?hn_SignSet ?ht_SignSet ?hm_SignSet ?rd_SignSet ?gt_SignSet ?na_SignSet_members ?a_SignSet_Minit ?i_SignSet_Minit ?l_SignSet_Minit ?c_SignSet_Minit ?k_SignSet_Minit ?d_SignSet_Minit ?a_SignSet_between ?r_SignSet_between ?l_SignSet_between ?c_SignSet_between ?k_SignSet_between ?a_SignSet_members ?g_SignSet_members ?t_SignSet_members ?r_SignSet_members ?l_SignSet_members ?c_SignSet_members ?k_SignSet_members ?a_SignSet_ranges ?g_SignSet_ranges ?t_SignSet_ranges ?r_SignSet_ranges ?l_SignSet_ranges ?c_SignSet_ranges ?k_SignSet_ranges ?a_SignSet_Minvert ?i_SignSet_Minvert ?l_SignSet_Minvert ?c_SignSet_Minvert ?k_SignSet_Minvert ?a_SignSet_Mcontains ?i_SignSet_Mcontains ?l_SignSet_Mcontains ?c_SignSet_Mcontains ?k_SignSet_Mcontains ?a_SignSet_Mlen ?i_SignSet_Mlen ?l_SignSet_Mlen ?c_SignSet_Mlen ?k_SignSet_Mlen ?v_SPECIAL_SIGNS ?v_BRACKET_SPECIALS ?v_ESCAPES ?l_ESCAPES ?h1e_ESCAPES ?h2e_ESCAPES ?lo_ESCAPES ?v_SIGNS ?v_BRANCH_KINDS ?l_BRANCH_KINDS ?v_ITEM_KINDS ?l_ITEM_KINDS ?v_BODY_KINDS ?l_BODY_KINDS ?v_SHORTEST_RANGE ?z_int ?z_isinstance ?z_len ?z_list ?z_max ?z_min ?z_range ?z_set ?z_sorted ?z_str ?z_tuple
    (case a_write_sign => k_is)
    (case l_write_sign => k_is)
    (case c_write_sign => k_is)
    (case k_write_sign => k_is)
    (case a_rank => k_is)
    (case l_rank => k_is)
    (case c_rank => k_is)
    (case k_rank => k_is)
    (case a_write_set => k_is)
    (case l_write_set => k_is)
    (case c_write_set => k_is)
    (case k_write_set => k_is)
    (case a_write_members => k_is)
    (case l_write_members => k_is)
    (case c_write_members => k_is)
    (case k_write_members => k_is)
    (case a_write_run => k_is)
    (case l_write_run => k_is)
    (case c_write_run => k_is)
    (case k_write_run => k_is)
    (case a_write_pattern => k_is)
    (case l_write_pattern => k_is)
    (case c_write_pattern => k_is)
    (case k_write_pattern => k_is)
    (case a_write_within => k_is)
    (case l_write_within => k_is)
    (case c_write_within => k_is)
    (case k_write_within => k_is)
    (case a_write_numbers => k_is)
    (case l_write_numbers => k_is)
    (case c_write_numbers => k_is)
    (case k_write_numbers => k_is)
    (case a_write_brace => k_is)
    (case l_write_brace => k_is)
    (case c_write_brace => k_is)
    (case k_write_brace => k_is)
    (case a_Ldraw => k_is)
    (case l_Ldraw => k_is)
    (case c_Ldraw => k_is)
    (case k_Ldraw => k_is)
    (case a_Lnext => k_is)
    (case l_Lnext => k_is)
    (case c_Lnext => k_is)
    (case k_Lnext => k_is)
    (case a_Lsigns => k_is)
    (case l_Lsigns => k_is)
    (case c_Lsigns => k_is)
    (case k_Lsigns => k_is)
    (case a_Lany_name => k_is)
    (case l_Lany_name => k_is)
    (case c_Lany_name => k_is)
    (case k_Lany_name => k_is)
    (case a_Lnear_name => k_is)
    (case l_Lnear_name => k_is)
    (case c_Lnear_name => k_is)
    (case k_Lnear_name => k_is)
    (case a_Lgroup_name => k_is)
    (case l_Lgroup_name => k_is)
    (case c_Lgroup_name => k_is)
    (case k_Lgroup_name => k_is)
    (case a_Lsome_set => k_is)
    (case l_Lsome_set => k_is)
    (case c_Lsome_set => k_is)
    (case k_Lsome_set => k_is)
    (case a_Lwords => k_is)
    (case l_Lwords => k_is)
    (case c_Lwords => k_is)
    (case k_Lwords => k_is)
    (case a_Lnumbers => k_is)
    (case l_Lnumbers => k_is)
    (case c_Lnumbers => k_is)
    (case k_Lnumbers => k_is)
    (case a_Ltimes => k_is)
    (case l_Ltimes => k_is)
    (case c_Ltimes => k_is)
    (case k_Ltimes => k_is)
    (case a_Ltip => k_is)
    (case l_Ltip => k_is)
    (case c_Ltip => k_is)
    (case k_Ltip => k_is)
    (case a_Lform => k_is)
    (case l_Lform => k_is)
    (case c_Lform => k_is)
    (case k_Lform => k_is)
    (case a_Lchain => k_is)
    (case l_Lchain => k_is)
    (case c_Lchain => k_is)
    (case k_Lchain => k_is)
    (case a_Ldrawn_tree => k_is)
    (case l_Ldrawn_tree => k_is)
    (case c_Ldrawn_tree => k_is)
    (case k_Ldrawn_tree => k_is)
    (case a_Lbelow => k_is)
    (case l_Lbelow => k_is)
    (case c_Lbelow => k_is)
    (case k_Lbelow => k_is)
    (case a_Lescaped => k_is)
    (case l_Lescaped => k_is)
    (case c_Lescaped => k_is)
    (case k_Lescaped => k_is)
    (case a_Linside => k_is)
    (case l_Linside => k_is)
    (case c_Linside => k_is)
    (case k_Linside => k_is)
    (case a_Lwritten_set => k_is)
    (case l_Lwritten_set => k_is)
    (case c_Lwritten_set => k_is)
    (case k_Lwritten_set => k_is)
    (case a_Lmark => k_is)
    (case l_Lmark => k_is)
    (case c_Lmark => k_is)
    (case k_Lmark => k_is)
    (case a_Lwritten => k_is)
    (case l_Lwritten => k_is)
    (case c_Lwritten => k_is)
    (case k_Lwritten => k_is)
    (case a_law => k_is)
    (case l_law => k_is)
    (case c_law => k_is)
    (case k_law => k_is)
    (case ac_SignSet => k_is)
    (case pg_SignSet => k_is)
    (case hd_SignSet => k_is)
    (case po_SignSet => k_is)
    (case sa_SignSet => k_is)
    (case mk_SignSet => k_is)
    (case kc_SignSet => k_is)
    (case sf_SignSet => k_is)
    (case ha_SignSet => k_is)
    (case hn_SignSet => k_is)
    (case ht_SignSet => k_is)
    (case hm_SignSet => k_is)
    (case rd_SignSet => k_is)
    (case gt_SignSet => k_is)
    (case na_SignSet_members => k_is)
    (case a_SignSet_Minit => k_is)
    (case i_SignSet_Minit => k_is)
    (case l_SignSet_Minit => k_is)
    (case c_SignSet_Minit => k_is)
    (case k_SignSet_Minit => k_is)
    (case d_SignSet_Minit => k_is)
    (case a_SignSet_between => k_is)
    (case r_SignSet_between => k_is)
    (case l_SignSet_between => k_is)
    (case c_SignSet_between => k_is)
    (case k_SignSet_between => k_is)
    (case a_SignSet_members => k_is)
    (case g_SignSet_members => k_is)
    (case t_SignSet_members => k_is)
    (case r_SignSet_members => k_is)
    (case l_SignSet_members => k_is)
    (case c_SignSet_members => k_is)
    (case k_SignSet_members => k_is)
    (case a_SignSet_ranges => k_is)
    (case g_SignSet_ranges => k_is)
    (case t_SignSet_ranges => k_is)
    (case r_SignSet_ranges => k_is)
    (case l_SignSet_ranges => k_is)
    (case c_SignSet_ranges => k_is)
    (case k_SignSet_ranges => k_is)
    (case a_SignSet_Minvert => k_is)
    (case i_SignSet_Minvert => k_is)
    (case l_SignSet_Minvert => k_is)
    (case c_SignSet_Minvert => k_is)
    (case k_SignSet_Minvert => k_is)
    (case a_SignSet_Mcontains => k_is)
    (case i_SignSet_Mcontains => k_is)
    (case l_SignSet_Mcontains => k_is)
    (case c_SignSet_Mcontains => k_is)
    (case k_SignSet_Mcontains => k_is)
    (case a_SignSet_Mlen => k_is)
    (case i_SignSet_Mlen => k_is)
    (case l_SignSet_Mlen => k_is)
    (case c_SignSet_Mlen => k_is)
    (case k_SignSet_Mlen => k_is)
    (case v_SPECIAL_SIGNS => k_is)
    (case v_BRACKET_SPECIALS => k_is)
    (case v_ESCAPES => k_is)
    (case l_ESCAPES => k_is)
    (case h1e_ESCAPES => rfl)
    (case h2e_ESCAPES => rfl)
    (case lo_ESCAPES => rfl)
    (case v_SIGNS => k_is)
    (case v_BRANCH_KINDS => k_is)
    (case l_BRANCH_KINDS => k_is)
    (case v_ITEM_KINDS => k_is)
    (case l_ITEM_KINDS => k_is)
    (case v_BODY_KINDS => k_is)
    (case l_BODY_KINDS => k_is)
    (case v_SHORTEST_RANGE => k_is)
    (case z_int => k_is)
    (case z_isinstance => k_is)
    (case z_len => k_is)
    (case z_list => k_is)
    (case z_max => k_is)
    (case z_min => k_is)
    (case z_range => k_is)
    (case z_set => k_is)
    (case z_sorted => k_is)
    (case z_str => k_is)
    (case z_tuple => k_is)
