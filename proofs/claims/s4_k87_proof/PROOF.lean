import PyProof.Rows.All
import Wide.All
import OpenK.AllK
import Wide.FinOn
import HandS.ForMost
import HandS.Wide
import HandS.StrMore
import HandS.IsInst
import HandS.Style
import HandS.EndBits
import HandS.Codes
import KE.LtData
import HandS.Replace
import HandS.Set
import HandS.SetTxt0
import HandS.SetFor
import KE.SortData
import HandS.Strs
import HandS.Property
import HandS.Defaults
import HandS.IterVal
import HandS.ClsMeth
import HandS.OwnIter
import HandS.More
import HandS.Walk
import KE.GoesMore
import HandS.Steps
import HandS.Exc
import HandS.ExcOwn
import HandS.ExcInit
import HandS.ExcField
import HandS.WordsExc
import HandS.ExcCtx
import HandS.ExcIs
import HandS.HotCalls
import HandS.ExcInitHot
import KE.KExcIs
import PySem.Challenge.RW_surespan_k87_template_faults
set_option Elab.async false
set_option linter.all false
set_option maxRecDepth 100000
namespace My
open PySem L2
/-! ### normal forms of readings -/
theorem ex_some {α : Type} {a : α} {p : α → Prop} : (∃ v, (some (some a) : Option (Option α)) = some (some v) ∧ p v) ↔ p a :=
  ⟨fun ⟨_, e, h⟩ => by cases e; exact h, fun h => ⟨a, rfl, h⟩⟩
theorem ex_int {a : Int} {p : Int → Prop} : (∃ v, V.int a = V.int v ∧ p v) ↔ p a :=
  ⟨fun ⟨_, e, h⟩ => by cases e; exact h, fun h => ⟨a, rfl, h⟩⟩
/-- all that is tracked but at d stands -/
def But (d : Addr) (H H' : Hp) : Prop := ∀ b o, b ≠ d → H b = some o → H' b = some o
theorem But.refl (d : Addr) (H : Hp) : But d H H := fun _ _ _ h => h
theorem But.trans {d : Addr} {H H1 H2 : Hp} (a : But d H H1) (b : But d H1 H2) : But d H H2 := fun c o n h => b c o n (a c o n h)
theorem But.of {d : Addr} {H H' : Hp} (a : Same H H') : But d H H' := fun c o _ h => a c o h
theorem same_upd {H : Hp} {p : Addr} {o : HO} (h : H p = none) : Same H (upd H p o) := fun b x e => by
  rw [upd_ne (ne_of_none e h)]; exact e
theorem But.put {d : Addr} {H : Hp} {o : HO} : But d H (upd H d o) := fun c u n h => by rw [upd_ne n]; exact h
theorem But.new {d : Addr} {H H1 : Hp} {p : Addr} {o : HO} (a : But d H H1) (h : H1 p = none) : But d H (upd H1 p o) := a.trans (.of (same_upd h))
/-- the draw list at d, its digits at l -/
def Drw (H : Hp) (d l : Addr) : Prop := ∃ (a b c : Int) (ds : List Int), d ≠ l ∧ H d = some (.lst [.int a, .int b, .int c, .ref l, .int 3]) ∧ H l = some (.lst (ds.map V.int)) ∧ 0 ≤ a
theorem Drw.same {H H' : Hp} {d l : Addr} (h : Drw H d l) (s : Same H H') : Drw H' d l := by
  obtain ⟨a, b, c, ds, n, h1, h2, h3⟩ := h
  exact ⟨a, b, c, ds, n, s _ _ h1, s _ _ h2, h3⟩
theorem Drw.new {H : Hp} {d l p : Addr} {o : HO} (h : Drw H d l) (n : H p = none) : Drw (upd H p o) d l := h.same (same_upd n)
theorem Drw.ne {H : Hp} {d l p : Addr} (h : Drw H d l) (n : H p = none) : p ≠ d := by
  obtain ⟨a, b, c, ds, n', h1, h2, h3⟩ := h
  exact fun q => by rw [q, h1] at n; cases n
theorem Drw.nel {H : Hp} {d l p : Addr} (h : Drw H d l) (n : H p = none) : p ≠ l := by
  obtain ⟨a, b, c, ds, n', h1, h2, h3⟩ := h
  exact fun q => by rw [q, h2] at n; cases n
/-- another object than the draw's is written -/
theorem Drw.put {H : Hp} {d l p : Addr} {o : HO} (h : Drw H d l) (n1 : p ≠ d) (n2 : p ≠ l) : Drw (upd H p o) d l := by
  obtain ⟨a, b, c, ds, n', h1, h2, h3⟩ := h
  exact ⟨a, b, c, ds, n', (upd_ne n1.symm).trans h1, (upd_ne n2.symm).trans h2, h3⟩
/-! ### texts by their signs -/
def tx (cs : List Nat) : Str := ⟨cs.toArray⟩
theorem tx_cps (cs : List Nat) : (tx cs).cps.toList = cs := rfl
theorem tx_len (cs : List Nat) : (tx cs).length = cs.length := by simp [tx, Str.length]
theorem tx_of (s : Str) : tx s.cps.toList = s := by cases s; simp [tx]
theorem tx_eq {a b : List Nat} : (tx a = tx b) = (a = b) := by
  apply propext
  constructor
  · intro h
    have := congrArg (fun s : Str => s.cps.toList) h
    simpa [tx] using this
  · intro h; rw [h]
theorem sg_tx (c : Nat) : (⟨#[c]⟩ : Str) = tx [c] := rfl
theorem tx_app (a b : List Nat) : tx a ++ tx b = tx (a ++ b) := by
  show (⟨(tx a).cps ++ (tx b).cps⟩ : Str) = tx (a ++ b)
  simp [tx]
theorem tx_cut (cs : List Nat) (lo hi : Option Int) : cutS (tx cs) lo hi = tx ((cs.drop (HT.sIx cs.length 0 lo)).take (HT.sIx cs.length cs.length hi - HT.sIx cs.length 0 lo)) := by
  unfold cutS
  rw [tx_len, tx_cps]
  rfl
theorem join_tx (ps : List (List Nat)) : Txt.join (tx []) (ps.map tx) = tx ps.flatten := by
  rw [TL.join_eq]
  have h : ∀ ps : List (List Nat), Str.join (tx []) (ps.map tx) = tx ps.flatten := by
    intro ps
    induction ps with
    | nil => rfl
    | cons p r ih =>
      cases r with
      | nil => simp [Str.join]
      | cons q r =>
        show tx p ++ tx [] ++ Str.join (tx []) ((q :: r).map tx) = _
        rw [ih, tx_app, tx_app]
        simp
  exact h ps
theorem join_signs (cs : List Nat) : Txt.join (tx []) (cs.map fun c => tx [c]) = tx cs := by
  have h := join_tx (cs.map fun c => [c])
  rw [List.map_map] at h
  have e : (cs.map fun c => [c]).flatten = cs := by
    clear h
    induction cs with
    | nil => rfl
    | cons c r ih => rw [List.map_cons, List.flatten_cons, ih]; rfl
  rw [e] at h
  exact h
/-- a statement and the rest, with a word between -/
abbrev tCut (t u : TS) : TS := C8.tCut t u
theorem pss_cut {X : Cx} {st : Stmt} {rest : List Stmt} {t u : TS} (h1 : PS X st t) (h2 : PSs X rest u) : PSs X (st :: rest) (tCut t u) := C8.pss_cut h1 h2
/-! ### loops and comprehensions -/
def ForJ (J : It) (g : TG) (tb : TS) (D : Ends) (σ : St) (H1 : Hp) : Prop := ∃ W : Nat → Nat → St → Hp → Prop, (∃ m, W 0 m σ H1) ∧ ∀ i m σ H, W i m σ H →
  (J.stop i H ∧ D.nx σ H) ∨ (J.go i H ∧ ∃ N : St → Hp → Prop, (∀ σ' H', N σ' H' → ∃ m', m' < m ∧ W (i + 1) m' σ' H') ∧ ∀ x H', J.yld i H x H' → g x σ H' fun σ2 H2 => tb { D with nx := N, ct := N, bk := D.nx } σ2 H2)
theorem tFor_eq (wi : TI) (g : TG) (tb : TS) (D : Ends) (σ : St) (H : Hp) : tFor wi g tb D σ H = wi σ H fun J H1 => ForJ J g tb D σ H1 := rfl
def LcJ (J : It) (g : TG) (tt : TT) (te : TE) (vs : List Nat) (σ : St) (H1 : Hp) (Q : VK) : Prop := ∀ D, H1 D = none → ∃ W : Nat → Nat → Hp → Prop, (∃ m, W 0 m (upd H1 D (.lst []))) ∧ ∀ i m H, W i m H →
  (J.stop i H ∧ Q (.ref D) H) ∨ (J.go i H ∧ ∃ Nx : Hp → Prop, (∀ H', Nx H' → ∃ m', m' < m ∧ W (i + 1) m' H') ∧ ∀ x H', J.yld i H x H' → g x (wipe σ vs) H' fun σ2 H2 => wipe σ2 vs = wipe σ vs ∧ tt σ2 H2 fun b H3 =>
    if b = true then te σ2 H3 fun y H4 => ∃ acc, H4 D = some (.lst acc) ∧ acc.length < sizeLine ∧ Nx (upd H4 D (.lst (acc ++ [y]))) else Nx H3)
theorem tLc_eq (wi : TI) (g : TG) (tt : TT) (te : TE) (vs : List Nat) (σ : St) (H : Hp) (Q : VK) : tLc wi g tt te vs σ H Q = wi σ H fun J H1 => LcJ J g tt te vs σ H1 Q := rfl
/-- an iterator that goes through a fixed list -/
structure Reg {α : Type} (J : It) (its : List α) (item : α → V) (G : Hp → Prop) : Prop where
  go : ∀ i H, i < its.length → G H → J.go i H
  stop : ∀ i H, its.length ≤ i → G H → J.stop i H
  yld : ∀ i a H x H', its[i]? = some a → G H → J.yld i H x H' → H' = H ∧ x = item a
theorem reg_text (cs : List Nat) : Reg (Its (tx cs)) cs (fun c => .str (tx [c])) (fun _ => True) := by
  have hs : (tx cs).cps.size = cs.length := by simp [tx]
  refine ⟨fun i H h _ => ?_, fun i H h _ => ?_, fun i a H x H' h _ hy => ?_⟩
  · show i < (tx cs).cps.size; rw [hs]; exact h
  · show (tx cs).cps.size ≤ i; rw [hs]; exact h
  · obtain ⟨rfl, c, hc, rfl⟩ := hy
    refine ⟨rfl, ?_⟩
    have : (tx cs).cps[i]? = cs[i]? := by simp [tx]
    rw [this, h] at hc
    cases hc
    rfl
theorem reg_range (lo : Int) (n : Nat) : Reg (Itr lo n) (List.range n) (fun i => .int (lo + (i : Nat))) (fun _ => True) := by
  refine ⟨fun i H h _ => ?_, fun i H h _ => ?_, fun i a H x H' h _ hy => ?_⟩
  · rw [List.length_range] at h; exact h
  · rw [List.length_range] at h; exact h
  · obtain ⟨rfl, rfl⟩ := hy
    refine ⟨rfl, ?_⟩
    have : i < n := by
      have := (List.getElem?_eq_some_iff.mp h).1
      rw [List.length_range] at this; exact this
    rw [List.getElem?_range this] at h
    cases h
    rfl
theorem reg_list (K : PySem.W.Frag) (a : Addr) (xs : List V) : Reg (Itl K a) xs id (fun H => SqL K H a xs) := by
  refine ⟨fun i H h hq => ⟨xs, xs[i], hq, by simp [h]⟩, fun i H h hq => ⟨xs, hq, h⟩, fun i v H x H' h hq hy => ?_⟩
  obtain ⟨rfl, f⟩ := hy
  have := f xs hq
  rw [h] at this
  cases this
  exact ⟨rfl, rfl⟩
theorem forJ_by {α : Type} {J : It} {its : List α} {item : α → V} {G : Hp → Prop} (R : Reg J its item G) {g : TG} {tb : TS} {D : Ends} {σ : St} {H : Hp} (Pv : Nat → St → Hp → Prop) (hG : ∀ i σ H, Pv i σ H → G H) (h0 : Pv 0 σ H)
    (hs : ∀ i a σ H, its[i]? = some a → Pv i σ H → g (item a) σ H fun σ2 H2 => tb { D with nx := Pv (i + 1), ct := Pv (i + 1), bk := D.nx } σ2 H2) (hd : ∀ σ H, Pv its.length σ H → D.nx σ H) : ForJ J g tb D σ H := by
  refine ⟨fun i m σ H => m = its.length - i ∧ i ≤ its.length ∧ Pv i σ H, ⟨its.length, by simp, Nat.zero_le _, h0⟩, ?_⟩
  rintro i m σ H ⟨rfl, hi, p⟩
  by_cases hlt : i < its.length
  · refine .inr ⟨R.go i H hlt (hG _ _ _ p), Pv (i + 1), fun σ' H' p' => ⟨its.length - (i + 1), by omega, rfl, hlt, p'⟩, fun x H' y => ?_⟩
    obtain ⟨rfl, rfl⟩ := R.yld i its[i] H x H' (List.getElem?_eq_getElem hlt) (hG _ _ _ p) y
    exact hs i _ σ _ (List.getElem?_eq_getElem hlt) p
  · have e : i = its.length := by omega
    subst e
    exact .inl ⟨R.stop _ H (Nat.le_refl _) (hG _ _ _ p), hd σ H p⟩
theorem lcJ_by {α : Type} {J : It} {its : List α} {item : α → V} {G : Hp → Prop} (R : Reg J its item G) {k : Nat} {tt : TT} {te : TE} {σ : St} {H1 : Hp} {Q : VK} (Pv : Addr → Nat → Hp → Prop) (hG : ∀ D i H, H1 D = none → Pv D i H → G H) (h0 : ∀ D, H1 D = none → Pv D 0 (upd H1 D (.lst [])))
    (hs : ∀ D i a H, H1 D = none → its[i]? = some a → Pv D i H → tt ((σ.set k none).set k (some (item a))) H fun b H3 =>
      if b = true then te ((σ.set k none).set k (some (item a))) H3 fun y H4 => ∃ acc, H4 D = some (.lst acc) ∧ acc.length < sizeLine ∧ Pv D (i + 1) (upd H4 D (.lst (acc ++ [y]))) else Pv D (i + 1) H3)
    (hd : ∀ D H, H1 D = none → Pv D its.length H → Q (.ref D) H) : LcJ J (gName k) tt te [k] σ H1 Q := by
  intro D hD
  refine ⟨fun i m H => m = its.length - i ∧ i ≤ its.length ∧ Pv D i H, ⟨its.length, by simp, Nat.zero_le _, h0 D hD⟩, ?_⟩
  rintro i m H ⟨rfl, hi, p⟩
  by_cases hlt : i < its.length
  · refine .inr ⟨R.go i H hlt (hG _ _ _ hD p), Pv D (i + 1), fun H' p' => ⟨its.length - (i + 1), by omega, rfl, hlt, p'⟩, fun x H' y => ?_⟩
    obtain ⟨rfl, rfl⟩ := R.yld i its[i] H x H' (List.getElem?_eq_getElem hlt) (hG _ _ _ hD p) y
    refine ⟨?_, hs D i _ _ hD (List.getElem?_eq_getElem hlt) p⟩
    show ((σ.set k none).set k _).set k none = σ.set k none
    rw [List.set_set, List.set_set]
  · have e : i = its.length := by omega
    subst e
    exact .inl ⟨R.stop _ H (Nat.le_refl _) (hG _ _ _ hD p), hd D H hD p⟩
/-- a comprehension that reads and makes values alone -/
theorem lcJ_pure {α : Type} {J : It} {its : List α} {item : α → V} {G : Hp → Prop} (R : Reg J its item G) {k : Nat} {tt : TT} {te : TE} {σ : St} {H1 : Hp} {Q : VK} (p : α → Bool) (f : α → V) (hn : its.length ≤ sizeLine)
    (hG : ∀ D acc, H1 D = none → G (upd H1 D (.lst acc)))
    (hT : ∀ a D acc Q, a ∈ its → H1 D = none → Q (p a) (upd H1 D (.lst acc)) → tt ((σ.set k none).set k (some (item a))) (upd H1 D (.lst acc)) Q)
    (hE : ∀ a D acc Q, a ∈ its → p a = true → H1 D = none → Q (f a) (upd H1 D (.lst acc)) → te ((σ.set k none).set k (some (item a))) (upd H1 D (.lst acc)) Q)
    (h : ∀ D, H1 D = none → Q (.ref D) (upd H1 D (.lst ((its.filter p).map f)))) : LcJ J (gName k) tt te [k] σ H1 Q := by
  refine lcJ_by R (fun D i H => H = upd H1 D (.lst (((its.take i).filter p).map f))) ?_ ?_ ?_ ?_
  · rintro D i H hD rfl; exact hG D _ hD
  · intro D hD; simp
  · rintro D i a H hD hi rfl
    have hlt : i < its.length := (List.getElem?_eq_some_iff.mp hi).1
    have hm : a ∈ its := List.mem_of_getElem? hi
    have ht : its.take (i + 1) = its.take i ++ [a] := by rw [List.take_add_one, hi]; rfl
    refine hT a D _ _ hm hD ?_
    by_cases hp : p a = true
    · rw [hp, if_pos rfl]
      refine hE a D _ _ hm hp hD ⟨_, upd_same, ?_, ?_⟩
      · rw [List.length_map]
        refine Nat.lt_of_le_of_lt (List.length_filter_le _ _) ?_
        rw [List.length_take]
        omega
      · rw [upd_upd, ht, List.filter_append, List.map_append]
        simp [hp]
    · rw [if_neg hp, ht, List.filter_append]
      simp [hp]
  · rintro D H hD rfl
    rw [List.take_length]
    exact h D hD
theorem sq_upd {K : PySem.W.Frag} {H : Hp} {D : Addr} {xs : List V} : SqL K (upd H D (.lst xs)) D xs := .inl (.inl upd_same)
end My
namespace My
open PySem L2
/-! ### one sign in a text -/
/-- the first place of a sign -/
def fi (c : Nat) : List Nat → Nat
  | [] => 0
  | a :: r => if a = c then 0 else fi c r + 1
theorem fi_lt {c : Nat} : ∀ {cs : List Nat}, c ∈ cs → fi c cs < cs.length
  | [], h => by cases h
  | a :: r, h => by
    unfold fi
    by_cases e : a = c
    · rw [if_pos e]; simp
    · rw [if_neg e]
      have : c ∈ r := by
        rcases List.mem_cons.mp h with q | q
        · exact absurd q.symm e
        · exact q
      have := fi_lt this
      simp; exact this
theorem fi_get {c : Nat} : ∀ {cs : List Nat}, c ∈ cs → cs[fi c cs]? = some c
  | [], h => by cases h
  | a :: r, h => by
    unfold fi
    by_cases e : a = c
    · rw [if_pos e, e]; rfl
    · rw [if_neg e]
      have : c ∈ r := by
        rcases List.mem_cons.mp h with q | q
        · exact absurd q.symm e
        · exact q
      rw [List.getElem?_cons_succ]
      exact fi_get this
theorem fi_before {c : Nat} : ∀ {cs : List Nat} {i : Nat}, i < fi c cs → cs[i]? ≠ some c
  | [], i, h => by simp [fi] at h
  | a :: r, i, h => by
    unfold fi at h
    by_cases e : a = c
    · rw [if_pos e] at h; omega
    · rw [if_neg e] at h
      cases i with
      | zero => simpa using e
      | succ i => rw [List.getElem?_cons_succ]; exact fi_before (by omega)
theorem occ_full (s sub : Str) (hi : Nat) : ∀ (l : List Nat) (st : Array Nat × Nat), st.fst.size = 1 → (forIn l st (StrLaws.occBody s sub hi 1)).run.fst = st.fst
  | [], st, h => rfl
  | a :: l, st, h => by
    rw [List.forIn_cons]
    unfold StrLaws.occBody
    have hn : ¬ (((st.fst.size < 1 ∧ st.snd ≤ a) ∧ a + sub.length ≤ hi) ∧ Builtin.Str.subAt s sub a = true) := fun q => by omega
    rw [if_neg hn]
    exact occ_full s sub hi l _ h
theorem occ_first (cs : List Nat) (c : Nat) : ∀ (m a free : Nat), free ≤ a → (∀ i, a ≤ i → i < a + m → cs[i]? ≠ some c) ∧ (forIn (List.range' a m) ((#[] : Array Nat), free) (StrLaws.occBody (tx cs) (tx [c]) (tx cs).length 1)).run.fst = #[] ∨
    ∃ k, a ≤ k ∧ k < a + m ∧ cs[k]? = some c ∧ (∀ i, a ≤ i → i < k → cs[i]? ≠ some c) ∧ (forIn (List.range' a m) ((#[] : Array Nat), free) (StrLaws.occBody (tx cs) (tx [c]) (tx cs).length 1)).run.fst = #[k]
  | 0, a, free, hf => .inl ⟨fun i h1 h2 => by omega, rfl⟩
  | m + 1, a, free, hf => by
    have one := StrLaws.subAt_one (tx cs) c a
    rw [List.range'_succ, List.forIn_cons]
    unfold StrLaws.occBody
    by_cases hc : cs[a]? = some c
    · have q := one.mpr hc
      have c1 : ((((#[] : Array Nat), free).fst.size < 1 ∧ ((#[] : Array Nat), free).snd ≤ a) ∧ a + (tx [c]).length ≤ (tx cs).length) ∧ Builtin.Str.subAt (tx cs) (tx [c]) a = true := ⟨⟨⟨by simp, hf⟩, q.1⟩, q.2⟩
      rw [if_pos c1]
      refine .inr ⟨a, Nat.le_refl _, by omega, hc, fun i h1 h2 => by omega, ?_⟩
      exact occ_full _ _ _ _ _ rfl
    · have c2 : ¬ (((((#[] : Array Nat), free).fst.size < 1 ∧ ((#[] : Array Nat), free).snd ≤ a) ∧ a + (tx [c]).length ≤ (tx cs).length) ∧ Builtin.Str.subAt (tx cs) (tx [c]) a = true) := fun h => hc (one.mp ⟨h.1.2, h.2⟩)
      rw [if_neg c2]
      rcases occ_first cs c m (a + 1) free (by omega) with ⟨h1, h2⟩ | ⟨k, k1, k2, k3, k4, k5⟩
      · refine .inl ⟨fun i i1 i2 => ?_, h2⟩
        by_cases e : i = a
        · rw [e]; exact hc
        · exact h1 i (by omega) (by omega)
      · refine .inr ⟨k, by omega, by omega, k3, fun i i1 i2 => ?_, k5⟩
        by_cases e : i = a
        · rw [e]; exact hc
        · exact k4 i (by omega) i2
theorem occ_sign (cs : List Nat) (c : Nat) : Builtin.Str.occurrences (tx cs) (tx [c]) 0 (tx cs).length 1 = if c ∈ cs then [fi c cs] else [] := by
  rw [StrLaws.occ_eq]
  have hl : (tx cs).length = cs.length := tx_len cs
  rcases occ_first cs c ((tx cs).length + 1 - 0) 0 0 (Nat.le_refl _) with ⟨h1, h2⟩ | ⟨k, k1, k2, k3, k4, k5⟩
  · rw [h2]
    have hn : c ∉ cs := fun hm => by
      have := fi_lt hm
      exact h1 (fi c cs) (Nat.zero_le _) (by omega) (fi_get hm)
    rw [if_neg hn]
  · rw [k5]
    have hm : c ∈ cs := List.mem_of_getElem? k3
    rw [if_pos hm]
    have e : k = fi c cs := by
      rcases Nat.lt_trichotomy k (fi c cs) with q | q | q
      · exact absurd k3 (fi_before q)
      · exact q
      · exact absurd (fi_get hm) (k4 _ (Nat.zero_le _) q)
    rw [e]
theorem find_sign (cs : List Nat) (c : Nat) : Txt.find (tx cs) (tx [c]) = if c ∈ cs then (fi c cs : Int) else -1 := by
  unfold Txt.find
  rw [occ_sign]
  by_cases h : c ∈ cs
  · rw [if_pos h, if_pos h]
  · rw [if_neg h, if_neg h]
/-! ### rstrip by one sign -/
def rs (c : Nat) (cs : List Nat) : List Nat := (cs.reverse.dropWhile (fun a => a == c)).reverse
theorem rs_take (c : Nat) (cs : List Nat) : cs.take (cs.length - (cs.reverse.takeWhile (fun a => a == c)).length) = rs c cs := by
  unfold rs
  have h : cs.reverse.takeWhile (fun a => a == c) ++ cs.reverse.dropWhile (fun a => a == c) = cs.reverse := List.takeWhile_append_dropWhile
  have h2 : cs = (cs.reverse.dropWhile (fun a => a == c)).reverse ++ (cs.reverse.takeWhile (fun a => a == c)).reverse := by
    rw [← List.reverse_append, h, List.reverse_reverse]
  have hl : cs.length = ((cs.reverse.dropWhile (fun a => a == c)).reverse).length + (cs.reverse.takeWhile (fun a => a == c)).length := by
    have := congrArg List.length h2
    rw [List.length_append, List.length_reverse (as := List.takeWhile _ _)] at this
    exact this
  have e : cs.length - (cs.reverse.takeWhile (fun a => a == c)).length = ((cs.reverse.dropWhile (fun a => a == c)).reverse).length := by omega
  rw [e]
  generalize (cs.reverse.dropWhile (fun a => a == c)).reverse = A at h2 ⊢
  generalize (cs.reverse.takeWhile (fun a => a == c)).reverse = B at h2
  rw [h2, List.take_left]
theorem rstrip_sign (cs : List Nat) (c : Nat) : Txt.rstripChars (tx cs) (tx [c]) = tx (rs c cs) := by
  unfold Txt.rstripChars
  rw [PyProof.Rows.stripBy_eq]
  refine TL.ext_tl ?_
  rw [TL.tl_strSub]
  show List.take ((tx cs).length - (((tx cs).cps.toList.drop 0).reverse.takeWhile (tx [c]).cps.contains).length - 0) (List.drop 0 (tx cs).cps.toList) = rs c cs
  rw [Nat.sub_zero, List.drop_zero]
  have hg : (tx [c]).cps.contains = fun a => a == c := by
    funext a
    show (#[c] : Array Nat).contains a = (a == c)
    simp [Array.contains, BEq.comm]
  rw [hg, tx_cps, tx_len]
  exact rs_take c cs
end My
namespace My
open PySem PySem.Spec PyProof.Rows L2
section
variable {X : Cx}
/-- a short text times an int -/
def rMulS : R2 := fun x y H Q => ∃ (cs : List Nat) (n : Nat), x = .str (tx cs) ∧ y = .int (n : Int) ∧ n ≤ 1000000 ∧ cs.length ≤ 16 ∧ Q (.str (tx (List.replicate n cs).flatten)) H
theorem rep_fold (cs : List Nat) (n : Nat) (a : Array Nat) : ((List.replicate n cs.toArray).foldl (· ++ ·) a) = a ++ (List.replicate n cs).flatten.toArray := by
  induction n generalizing a with
  | zero => simp
  | succ n ih =>
    rw [List.replicate_succ, List.foldl_cons, ih, List.replicate_succ, List.flatten_cons]
    simp [Array.append_assoc]
theorem line_of {n : Nat} (h : n ≤ 16777216) : n ≤ sizeLine := Nat.le_trans h (by decide)
theorem op_mul_str : OpR X (binaryOp .Mult) rMulS := by
  intro pins s σ H x y v u Q I rx ry h
  obtain ⟨cs, n, rfl, rfl, h0, hz, q⟩ := h
  obtain ⟨t, rfl⟩ := rx
  obtain ⟨t', rfl⟩ := ry
  have hL : (tx cs).length = cs.length := tx_len cs
  have hp : cs.length * n ≤ 16000000 := Nat.mul_le_mul hz h0
  have hp2 : (cs.length : Int) * (n : Int) ≤ 16000000 := by
    rw [← Int.natCast_mul]
    exact Int.ofNat_le.mpr hp
  refine PySem.P.mul_str ?_ ?_ ?_ ?_
  · rw [decide_eq_false (by omega), decide_eq_false (by omega)]; rfl
  · intro hn _ hb
    have h3 : ((cs.length : Nat) : Int) ≤ (2 ^ 63 - 1) / (n : Int) := by
      refine (Int.le_ediv_iff_mul_le (by omega)).mpr ?_
      omega
    rw [hL] at hb
    omega
  · intro _ _
    show decide (_ > sizeLine) = false
    rw [hL, Int.toNat_natCast]
    exact decide_eq_false (Nat.not_lt.mpr (line_of (by omega)))
  · by_cases hn : (n : Int) < 1
    · rw [if_pos hn]
      have e0 : n = 0 := by omega
      subst e0
      have e : tx (List.replicate 0 cs).flatten = Str.empty := rfl
      rw [e] at q
      exact ⟨line_of (by decide), ⟨.str Str.empty, H, I.tok _, ⟨_, rfl⟩, q⟩⟩
    · rw [if_neg hn]
      by_cases h2 : ((n : Int) == 1 || (tx cs).length == 0) = true
      · rw [if_pos h2]
        have e : tx (List.replicate n cs).flatten = tx cs := by
          rw [tx_eq]
          rcases Bool.or_eq_true _ _ ▸ h2 with q1 | q1
          · have : n = 1 := by
              have := eq_of_beq q1
              omega
            subst this
            simp
          · have : cs = [] := by
              have q2 := eq_of_beq q1
              rw [hL] at q2
              exact List.length_eq_zero_iff.mp q2
            subst this
            simp
        rw [e] at q
        exact ⟨.str (tx cs), H, I, ⟨_, rfl⟩, q⟩
      · rw [if_neg h2]
        have e : (⟨(List.replicate (n : Int).toNat (tx cs).cps).foldl (· ++ ·) #[]⟩ : Str) = tx (List.replicate n cs).flatten := by
          show (⟨(List.replicate (n : Int).toNat cs.toArray).foldl (· ++ ·) #[]⟩ : Str) = _
          rw [rep_fold, Int.toNat_natCast]
          simp [tx]
        rw [e]
        have hlen : (tx (List.replicate n cs).flatten).length ≤ sizeLine := by
          rw [tx_len]
          refine line_of ?_
          simp
          rw [Nat.mul_comm]
          omega
        exact ⟨hlen, ⟨.str (tx (List.replicate n cs).flatten), H, I.tok _, ⟨_, rfl⟩, q⟩⟩
/-- < of data at any depth, alike -/
def rLtD (K : PySem.W.Frag) : R2 := fun x y H Q => ∃ d e, Dp K H x d ∧ Dp K H y e ∧ PySem.W.alike d e = true ∧ d ≠ .none ∧ min d.depth e.depth ≤ 60 ∧ Q (.bl (PySem.W.dataLt d e)) H
theorem op_ltD (hu : X.A.units + 64 < cLine) : OpR X (compareOp .Lt) (rLtD X.K) := by
  intro pins s σ H x y v u Q I rx ry h
  obtain ⟨d, e, hd, he, al, hn, hdp, q⟩ := h
  obtain ⟨as, r1⟩ := Dp.reads I d x v hd rx
  obtain ⟨bs, r2⟩ := Dp.reads I e y u he ry
  exact PySem.W.rcLt_alike d e X.A s v u as bs r1 r2 al hn (by omega) _ _ _ _ ⟨.bl (PySem.W.dataLt d e), H, I, rfl, q⟩
/-- text[::-1] -/
def tRevS (te : TE) : TE := fun σ H Q => te σ H fun x H1 => ∃ cs : List Nat, x = .str (tx cs) ∧ cs.length ≤ sizeLine ∧ Q (.str (tx cs.reverse)) H1
theorem rev_pick (cs : List Nat) : ((Builtin.Str.strSliceIndices none none (-1) cs.length).filterMap (cs.toArray[·]?)) = cs.reverse := by
  have e : Builtin.Str.strSliceIndices none none (-1) cs.length = (List.range cs.length).map fun k => cs.length - 1 - k := by
    show sliceRange ((cs.length : Int) - 1) (-1) (-1) = _
    exact PySem.W.krv_sliceRange cs.length
  rw [e]
  apply List.ext_getElem?
  intro i
  rw [List.filterMap_map]
  have h2 : (List.range cs.length).filterMap (((fun x => cs.toArray[x]?) ∘ fun k => cs.length - 1 - k)) = (List.range cs.length).map (fun k => cs.getD (cs.length - 1 - k) 0) := by
    have h3 : ∀ l : List Nat, (∀ k ∈ l, k < cs.length) → l.filterMap (((fun x => cs.toArray[x]?) ∘ fun k => cs.length - 1 - k)) = l.map (fun k => cs.getD (cs.length - 1 - k) 0) := by
      intro l
      induction l with
      | nil => intro _; rfl
      | cons k r ih =>
        intro hk
        have hlt : cs.length - 1 - k < cs.length := by
          have := hk k (List.mem_cons_self ..)
          omega
        have e1 : (((fun x => cs.toArray[x]?) ∘ fun k => cs.length - 1 - k)) k = some (cs.getD (cs.length - 1 - k) 0) := by
          show cs.toArray[cs.length - 1 - k]? = _
          simp [List.getD, hlt]
        rw [List.filterMap_cons_some e1, List.map_cons, ih fun j hj => hk j (List.mem_cons_of_mem _ hj)]
    exact h3 _ fun k hk => List.mem_range.mp hk
  rw [h2, List.getElem?_map]
  by_cases hi : i < cs.length
  · rw [List.getElem?_range hi, List.getElem?_reverse hi]
    have hlt : cs.length - 1 - i < cs.length := by omega
    simp [List.getD, hlt]
  · rw [List.getElem?_eq_none (by simp; omega), List.getElem?_eq_none (by simp; omega)]
    rfl
theorem pe_revS {e : Expr} {te : TE} {k : Nat} {p1 p2 p3 pos : Pos} (he : PE X e te) : PE X (.Subscript e (.Slice none none (some (.UnaryOp .USub (.Constant (.int 1) k p1) p2)) p3) pos) (tRevS te) := by
  refine ⟨fun pins s σ H Q I h => ?_⟩
  refine Subscript_ (thn (he.run pins s σ H _ I h) fun v s1 ⟨x, H1, I1, r1, q1⟩ => ?_)
  obtain ⟨cs, ex, hx, q⟩ := q1
  subst ex
  obtain ⟨t, rfl⟩ := r1
  have hst : PO X (some (.UnaryOp .USub (.Constant (.int 1) k p1) p2)) (tPart (tUn (rU fun i => .int (-i)) (tC (.int 1)))) := po_some (pe_un un_neg pe_int)
  refine wpAny_Slice (thn (po_none.run pins s1 σ H1 (fun o H2 => o = none ∧ H2 = H1) I1 ⟨rfl, rfl⟩) fun vl s2 ⟨l, H2, I2, pl, el, e2⟩ => ?_)
  subst el e2
  refine thn (po_none.run pins s2 σ H2 (fun o H3 => o = none ∧ H3 = H2) I2 ⟨rfl, rfl⟩) fun vu s3 ⟨u, H3, I3, pu, eu, e3⟩ => ?_
  subst eu e3
  refine thn (hst.run pins s3 σ H3 (fun o H4 => o = some (-1) ∧ H4 = H3) I3 ⟨1, rfl, -1, rfl, rfl, rfl⟩) fun vs s4 ⟨o, H4, I4, ps, eo, e4⟩ => ?_
  subst eo e4
  have I5 : Inv X pins σ H4 { s4 with heap := s4.heap.push { cls := .type "slice", data := .fields #[vl, vu, vs] } } := I4.kept (t' := s4.toks) fun b ob q => Heap.get?_push_of_some _ q
  obtain ⟨l', rfl, hl⟩ := IsPart.raw pl
  obtain ⟨u', rfl, hu⟩ := IsPart.raw pu
  obtain ⟨st', rfl, hst'⟩ := IsPart.raw ps
  show wpAny (model X.prog X.w) X.A (subscriptTail e (.Slice none none (some (.UnaryOp .USub (.Constant (.int 1) k p1) p2)) p3) (.str (tx cs) t) (.ref s4.heap.objs.size)) (EP X pins σ Q) X.xe { s4 with heap := s4.heap.push { cls := .type "slice", data := .fields #[partValue l', partValue u', partValue st'] } }
  refine tail_any (T := "str") (ops := [.str (tx cs) t, .ref s4.heap.objs.size]) (typeIs_str _ _ _) (PySem.F.slot_str_getitem.lookup) ?_ (by with_unfolding_all rfl)
  refine wpAny_getItem_str_slice (l := l') (u := u') (st := st') ⟨_, Heap.get?_push_size _ rfl, rfl, rfl⟩ (by rw [hst']; rfl) ?_
  unfold sliceMade
  rw [hst']
  rw [if_neg (by simp)]
  have e9 : slicePicked (tx cs) l' u' st' = Builtin.Str.strSliceIndices none none (-1) cs.length := by
    unfold slicePicked
    rw [hl, hu, hst', tx_len]
    rfl
  rw [e9]
  have e10 : (⟨((Builtin.Str.strSliceIndices none none (-1) cs.length).filterMap ((tx cs).cps[·]?)).toArray⟩ : Str) = tx cs.reverse := by
    show (⟨((Builtin.Str.strSliceIndices none none (-1) cs.length).filterMap (cs.toArray[·]?)).toArray⟩ : Str) = _
    rw [rev_pick]
    rfl
  rw [e10]
  refine ⟨by rw [tx_len, List.length_reverse]; exact hx, ⟨.str (tx cs.reverse), H4, I5.tok _, ⟨_, rfl⟩, q⟩⟩
/-- text.index(sign), a sign that stands there -/
theorem mt_indexS : MtR X "str.index" (fun x xs H Q => ∃ (cs : List Nat) (c : Nat), x = .str (tx cs) ∧ xs = [.str (tx [c])] ∧ c ∈ cs ∧ Q (.int (fi c cs : Nat)) H) := by
  intro pins s σ H x xs v us Q I rx rs h
  obtain ⟨cs, c, rfl, rfl, hm, q⟩ := h
  refine mt_sindex pins s σ H _ _ v us Q I rx rs ⟨tx cs, tx [c], fi c cs, [], rfl, rfl, ?_, q⟩
  rw [occ_sign, if_pos hm]
end
end My
namespace My
open PySem L2
/-! ### text order -/
def prec (a b : List Nat) : Bool := decide (a.length < b.length) || (decide (a.length = b.length) && decide (a < b))
theorem lt_pair (i j : Int) (x y : Str) : PySem.W.dataLt (.tuple [.int i, .str x]) (.tuple [.int j, .str y]) = (decide (i < j) || (decide (i = j) && decide (x.cps.toList < y.cps.toList))) := by
  rw [PySem.W.dataLt_tuple]
  by_cases e : i = j
  · subst e
    have h1 : PyData.eqv (.int i) (.int i) = true := by simp [PyData.eqv]
    rw [PySem.W.dataLt_all_yes (by simp [PySem.W.alike]) h1]
    have n1 : decide (i < i) = false := decide_eq_false (by omega)
    rw [n1, Bool.false_or, decide_eq_true rfl, Bool.true_and]
    by_cases e2 : x = y
    · subst e2
      have h2 : PyData.eqv (.str x) (.str x) = true := by simp [PyData.eqv]
      rw [PySem.W.dataLt_all_yes (by simp [PySem.W.alike]) h2, decide_eq_false (List.lt_irrefl _)]
      exact PyProof.Rows.lex_irrefl _
    · have h2 : PyData.eqv (.str x) (.str y) = false := by simp [PyData.eqv, e2]
      rw [PySem.W.dataLt_all_no (by simp [PySem.W.alike]) h2, PySem.W.dataLt_str]
  · have h1 : PyData.eqv (.int i) (.int j) = false := by simp [PyData.eqv, e]
    rw [PySem.W.dataLt_all_no (by simp [PySem.W.alike]) h1, PySem.W.dataLt_int, decide_eq_false e, Bool.false_and, Bool.or_false]
theorem atI_neg1 {α : Type} {s : List α} (h : s ≠ []) : atI s (-1) = some (s.getLast h) := by
  have := atI_last s.dropLast (s.getLast h)
  rw [List.dropLast_concat_getLast h] at this
  exact this
theorem atI_zero {α : Type} {s : List α} {c : α} {r : List α} (h : s = c :: r) : atI s 0 = some c := by
  subst h
  exact atI_nat (j := 0) rfl
theorem sIx_neg1 (n d : Nat) : HT.sIx n d (some (-1)) = n - 1 := by
  show (if (-1 : Int) < 0 then ((-1 : Int) + (n : Int)).toNat else min (-1 : Int).toNat n) = n - 1
  rw [if_pos (by decide)]
  omega
theorem cut_last (cs : List Nat) : cutS (tx cs) none (some (-1)) = tx cs.dropLast := by
  rw [tx_cut, sIx_neg1, HT.sIx_none, List.drop_zero, Nat.sub_zero, List.dropLast_eq_take]
theorem cut_to (cs : List Nat) (k : Nat) : cutS (tx cs) none (some (k : Int)) = tx (cs.take k) := by
  rw [tx_cut, HT.sIx_nat, HT.sIx_none, List.drop_zero, Nat.sub_zero]
  by_cases h : k ≤ cs.length
  · rw [Nat.min_eq_left h]
  · rw [Nat.min_eq_right (by omega), List.take_of_length_le (by omega), List.take_of_length_le (by omega)]
theorem cut_from (cs : List Nat) (k : Nat) : cutS (tx cs) (some (k : Int)) none = tx (cs.drop k) := by
  rw [tx_cut, HT.sIx_nat, HT.sIx_none]
  by_cases h : k ≤ cs.length
  · rw [Nat.min_eq_left h, List.take_of_length_le (by simp)]
  · rw [Nat.min_eq_right (by omega), List.drop_of_length_le (by omega), List.drop_of_length_le (by omega)]
    simp
theorem cut_mid (cs : List Nat) (i j : Nat) : cutS (tx cs) (some (i : Int)) (some (j : Int)) = tx ((cs.drop i).take (j - i)) := by
  rw [tx_cut, HT.sIx_nat, HT.sIx_nat, tx_eq]
  apply List.ext_getElem?
  intro k
  by_cases hi : i ≤ cs.length
  · rw [Nat.min_eq_left hi, List.getElem?_take, List.getElem?_take]
    by_cases hj : j ≤ cs.length
    · rw [Nat.min_eq_left hj]
    · rw [Nat.min_eq_right (by omega)]
      by_cases h1 : k < cs.length - i
      · rw [if_pos h1, if_pos (by omega)]
      · rw [if_neg h1]
        by_cases h2 : k < j - i
        · rw [if_pos h2, List.getElem?_eq_none (by simp; omega)]
        · rw [if_neg h2]
  · have e1 : cs.drop i = [] := List.drop_of_length_le (by omega)
    have e2 : cs.drop (min i cs.length) = [] := List.drop_of_length_le (by omega)
    rw [e1, e2]
    simp
theorem c_empty : Str.ofString "" = tx [] := by decide +kernel
theorem flat_rep (k c : Nat) : (List.replicate k [c]).flatten = List.replicate k c := by
  induction k with
  | zero => rfl
  | succ k ih => rw [List.replicate_succ, List.flatten_cons, ih, List.replicate_succ]; rfl
theorem cut_to_lit (cs : List Nat) (n : Nat) : cutS (tx cs) none (some (@OfNat.ofNat Int n instOfNat)) = tx (cs.take n) := cut_to cs n
theorem cut_from_lit (cs : List Nat) (n : Nat) : cutS (tx cs) (some (@OfNat.ofNat Int n instOfNat)) none = tx (cs.drop n) := cut_from cs n
/-! ### the following text -/
def nxt (t s : List Nat) : List Nat :=
  let kept := rs (s.getLastD 0) t
  let tail := List.replicate (t.length - kept.length) (s.headD 0)
  if kept = [] then s.headD 0 :: tail else kept.dropLast ++ [s.getD (fi (kept.getLastD 0) s + 1) 0] ++ tail
theorem rs_le (c : Nat) (t : List Nat) : (rs c t).length ≤ t.length := by
  rw [← rs_take, List.length_take]
  omega
theorem rs_sub {c a : Nat} {t : List Nat} (h : a ∈ rs c t) : a ∈ t := by
  rw [← rs_take] at h
  exact List.mem_of_mem_take h
theorem rs_last {c : Nat} {t : List Nat} (h : rs c t ≠ []) : (rs c t).getLast h ≠ c := by
  unfold rs at h ⊢
  rw [List.getLast_reverse]
  have h2 : t.reverse.dropWhile (fun a => a == c) ≠ [] := fun q => h (by rw [q]; rfl)
  have := List.head_dropWhile_not (fun a => a == c) h2
  intro q
  rw [q] at this
  simp at this
theorem fi_next {c : Nat} {s : List Nat} (hm : c ∈ s) (hs : s ≠ []) (hl : c ≠ s.getLast hs) : fi c s + 1 < s.length := by
  have h1 := fi_lt hm
  have h2 := fi_get hm
  rcases Nat.lt_or_ge (fi c s + 1) s.length with h | h
  · exact h
  · have e : fi c s = s.length - 1 := by omega
    rw [e] at h2
    have : s.getLast hs = c := by
      rw [List.getLast_eq_getElem]
      rw [List.getElem?_eq_getElem (by omega)] at h2
      exact Option.some.inj h2
    exact absurd this.symm hl
end My
namespace My
open PySem L2
/-! ### the 96 signs -/
def SG : List Nat := [9, 10, 32, 33, 34, 35, 36, 38, 39, 40, 41, 42, 43, 44, 45, 46, 47, 48, 49, 50, 51, 52, 53, 54, 55, 56, 57, 58, 59, 60, 61, 62, 63, 64, 65, 66, 67, 68, 69, 70, 71, 72, 73, 74, 75, 76, 77, 78, 79, 80, 81, 82, 83, 84, 85, 86, 87, 88, 89, 90, 91, 92, 93, 94, 95, 96, 97, 98, 99, 100, 101, 102, 103, 104, 105, 106, 107, 108, 109, 110, 111, 112, 113, 114, 115, 116, 117, 118, 119, 120, 121, 122, 123, 124, 125, 126]
theorem SG_len : SG.length = 96 := by decide +kernel
theorem SG_asc : SG.Pairwise (· < ·) := by decide +kernel
theorem sgs_tx : (("\t\n !\"#$&'()*+,-./0123456789:;<=>?@ABCDEFGHIJKLMNOPQRSTUVWXYZ[\\]^_`" : Str) ++ ("abcdefghijklmnopqrstuvwxyz{|}~" : Str)) = tx SG := by decide +kernel
theorem sgs_tx2 : ("\t\n !\"#$&'()*+,-./0123456789:;<=>?@ABCDEFGHIJKLMNOPQRSTUVWXYZ[\\]^_`abcdefghijklmnopqrstuvwxyz{|}~" : Str) = tx SG := by decide +kernel
theorem sub_len {cs : List Nat} (h : cs.Sublist SG) : cs.length ≤ 96 := by
  have := h.length_le
  rw [SG_len] at this
  exact this
theorem sub_asc {cs : List Nat} (h : cs.Sublist SG) : cs.Pairwise (· < ·) := SG_asc.sublist h
theorem line20 {n : Nat} (h : n ≤ 20000) : n ≤ sizeLine := Nat.le_trans h (by decide)
theorem toLine {n : Nat} (h : n ≤ 20000) : n < sizeLine := Nat.lt_of_le_of_lt h (by decide)
/-- the text of a list of sign texts -/
theorem sum_one (cs : List Nat) : ((cs.map fun c => tx [c]).map (·.length)).sum = cs.length := by
  induction cs with
  | nil => rfl
  | cons c r ih => rw [List.map_cons, List.map_cons, List.sum_cons, ih, tx_len, List.length_cons]; simp; omega
theorem map_signs (cs : List Nat) : cs.map (fun c => V.str (tx [c])) = (cs.map fun c => tx [c]).map V.str := by rw [List.map_map]; rfl
theorem join_room (cs : List Nat) (h : cs.length ≤ 10000) : ((cs.map fun c => tx [c]).map (·.length)).sum + (cs.map fun c => tx [c]).length * 0 ≤ 16777216 := by
  rw [sum_one]
  simp
  omega
/-- the reading of ''.join at a list of sign texts -/
theorem join_go {K : PySem.W.Frag} {H : Hp} {D : Addr} {cs : List Nat} {Q : VK} (hD : SqL K H D (cs.map fun c => V.str (tx [c]))) (h : cs.length ≤ 10000) (q : Q (.str (tx cs)) H) :
    ∃ ys : List Str, (SqL K H D (ys.map V.str) ∨ SqT K H D (ys.map V.str)) ∧ (ys.map (·.length)).sum + ys.length * 0 ≤ 16777216 ∧ Q (.str (Txt.join (tx []) ys)) H := by
  refine ⟨cs.map fun c => tx [c], .inl ?_, join_room cs h, ?_⟩
  · rw [← map_signs]; exact hD
  · rw [join_signs]; exact q
theorem join_w {K : PySem.W.Frag} {H : Hp} {D : Addr} {cs : List Nat} (hD : SqL K H D (cs.map fun c => V.str (tx [c]))) (h : cs.length ≤ 10000) :
    ∃ ys : List Str, (SqL K H D (ys.map V.str) ∨ SqT K H D (ys.map V.str)) ∧ (ys.map (·.length)).sum + ys.length * 0 ≤ 16777216 ∧ Txt.join (tx []) ys = tx cs :=
  ⟨cs.map fun c => tx [c], .inl (by rw [← map_signs]; exact hD), join_room cs h, join_signs cs⟩
theorem join_go2 {α : Type} {K : PySem.W.Frag} {H : Hp} {D : Addr} {ks : List α} {g : α → Nat} {Q : VK} (hD : SqL K H D (ks.map fun k => V.str (tx [g k]))) (h : ks.length ≤ 10000) (q : Q (.str (tx (ks.map g))) H) :
    ∃ ys : List Str, (SqL K H D (ys.map V.str) ∨ SqT K H D (ys.map V.str)) ∧ (ys.map (·.length)).sum + ys.length * 0 ≤ 16777216 ∧ Q (.str (Txt.join (tx []) ys)) H := by
  refine join_go (cs := ks.map g) ?_ (by rw [List.length_map]; exact h) q
  rw [List.map_map]
  exact hD
theorem range_map_getD (cs : List Nat) : (List.range cs.length).map (fun k => cs.getD k 0) = cs := by
  apply List.ext_getElem?
  intro i
  rw [List.getElem?_map]
  by_cases h : i < cs.length
  · rw [List.getElem?_range h, List.getElem?_eq_getElem h]
    simp [List.getD, h]
  · rw [List.getElem?_eq_none (by simp; omega), List.getElem?_eq_none (by omega)]
    rfl
theorem atI_pos {α : Type} {s : List α} {i : Int} (h0 : 0 ≤ i) (h1 : i < s.length) : ∃ j : Nat, i = (j : Int) ∧ ∃ h : j < s.length, atI s i = some s[j] := by
  obtain ⟨j, rfl⟩ := Int.eq_ofNat_of_zero_le h0
  have hj : j < s.length := by omega
  exact ⟨j, rfl, hj, atI_nat (List.getElem?_eq_getElem hj)⟩
theorem fi_asc : ∀ {s : List Nat}, s.Pairwise (· < ·) → ∀ {a b : Nat}, a ∈ s → b ∈ s → (fi a s < fi b s ↔ a < b)
  | [], _, _, _, h, _ => by cases h
  | x :: r, hp, a, b, ha, hb => by
    obtain ⟨h1, h2⟩ := List.pairwise_cons.mp hp
    unfold fi
    by_cases ea : x = a
    · rw [if_pos ea]
      by_cases eb : x = b
      · rw [if_pos eb]; omega
      · rw [if_neg eb]
        have : b ∈ r := by
          rcases List.mem_cons.mp hb with q | q
          · exact absurd q.symm eb
          · exact q
        have := h1 b this
        omega
    · rw [if_neg ea]
      have har : a ∈ r := by
        rcases List.mem_cons.mp ha with q | q
        · exact absurd q.symm ea
        · exact q
      by_cases eb : x = b
      · rw [if_pos eb]
        have := h1 a har
        omega
      · rw [if_neg eb]
        have hbr : b ∈ r := by
          rcases List.mem_cons.mp hb with q | q
          · exact absurd q.symm eb
          · exact q
        have := fi_asc h2 har hbr
        omega
/-! ### isinstance against built-in classes -/
section
variable {K : PySem.W.Frag} {H : Hp} {Q : VK}
theorem isi_bl_bool {a : Bool} (q : Q (.bl true) H) : rIsi K [.bl a, .ty "bool"] H Q := ⟨.bl a, .ty "bool", .type "bool", .type "bool", true, rfl, .ty _, .base (.bl a), kit_ty (by decide +kernel), q⟩
theorem isi_int_int {a : Int} (q : Q (.bl true) H) : rIsi K [.int a, .ty "int"] H Q := ⟨.int a, .ty "int", .type "int", .type "int", true, rfl, .ty _, .base (.int a), kit_ty (by decide +kernel), q⟩
theorem isi_int_bool {a : Int} (q : Q (.bl false) H) : rIsi K [.int a, .ty "bool"] H Q := ⟨.int a, .ty "bool", .type "int", .type "bool", false, rfl, .ty _, .base (.int a), kit_ty (by decide +kernel), q⟩
theorem isi_str_str {a : Str} (q : Q (.bl true) H) : rIsi K [.str a, .ty "str"] H Q := ⟨.str a, .ty "str", .type "str", .type "str", true, rfl, .ty _, .base (.str a), kit_ty (by decide +kernel), q⟩
end
/-! ### rules with the written part named -/
section
variable {X : Cx}
def rLenQ (K : PySem.W.Frag) : List V → Hp → VK → Prop := fun xs H Q => ∃ p ys, xs = [.ref p] ∧ (SqL K H p ys ∨ SqT K H p ys) ∧ Q (.int ys.length) H
theorem call_lenQ : CallR X (.builtin "len") (rLenQ X.K) := call_len_seq
def rListOf (K : PySem.W.Frag) : List V → Hp → VK → Prop := fun xs H Q => ∃ p ys, xs = [.ref p] ∧ (SqL K H p ys ∨ SqT K H p ys) ∧ ∀ l, H l = none → Q (.ref l) (upd H l (.lst ys))
theorem call_listOf : CallR X (.type "list") (rListOf X.K) := call_list_of
def rJoin (K : PySem.W.Frag) : V → List V → Hp → VK → Prop := fun x xs H Q => ∃ a, x = .str a ∧ ∃ p, xs = [.ref p] ∧ ∃ ys : List Str, (SqL K H p (ys.map V.str) ∨ SqT K H p (ys.map V.str)) ∧ (ys.map (·.length)).sum + ys.length * a.length ≤ 16777216 ∧ Q (.str (Txt.join a ys)) H
theorem mt_joinQ : MtR X "str.join" (rJoin X.K) := by
  intro pins s σ H x xs v us Q I rx rs h
  obtain ⟨a, e1, p, e2, ys, h1, h2, q⟩ := h
  exact mt_join pins s σ H x xs v us Q I rx rs ⟨a, p, ys, e1, e2, h1, h2, q⟩
end
end My
namespace My
open PySem L2
theorem atI_six {a0 a1 a2 a3 a4 a5 : V} {r : Int} (h0 : 0 ≤ r) (h1 : r < 6) : ∃ v, atI [a0, a1, a2, a3, a4, a5] r = some v ∧ (v = a0 ∨ v = a1 ∨ v = a2 ∨ v = a3 ∨ v = a4 ∨ v = a5) := by
  have : r = 0 ∨ r = 1 ∨ r = 2 ∨ r = 3 ∨ r = 4 ∨ r = 5 := by omega
  rcases this with rfl | rfl | rfl | rfl | rfl | rfl
  · exact ⟨a0, rfl, .inl rfl⟩
  · exact ⟨a1, rfl, .inr (.inl rfl)⟩
  · exact ⟨a2, rfl, .inr (.inr (.inl rfl))⟩
  · exact ⟨a3, rfl, .inr (.inr (.inr (.inl rfl)))⟩
  · exact ⟨a4, rfl, .inr (.inr (.inr (.inr (.inl rfl))))⟩
  · exact ⟨a5, rfl, .inr (.inr (.inr (.inr (.inr rfl))))⟩
/-- signs of a text, each by its own draw -/
theorem lc_draws {cs : List Nat} {d l : Addr} {k : Nat} {tt : TT} {te : TE} {σ : St} {H1 : Hp} {Q : VK} (hn : cs.length ≤ 20000) (hD : Drw H1 d l)
    (hT : ∀ c H (Q : Bool → Hp → Prop), c ∈ cs → Drw H d l → (∀ b H', Drw H' d l → But d H H' → Q b H') → tt ((σ.set k none).set k (some (.str (tx [c])))) H Q)
    (hE : ∀ c H (Q : VK), c ∈ cs → Q (.str (tx [c])) H → te ((σ.set k none).set k (some (.str (tx [c])))) H Q)
    (h : ∀ D H (es : List Nat), H1 D = none → es.Sublist cs → Drw H d l → But d H1 H → H D = some (.lst (es.map fun c => V.str (tx [c]))) → Q (.ref D) H) :
    LcJ (Its (tx cs)) (gName k) tt te [k] σ H1 Q := by
  obtain ⟨Pv, hP⟩ : ∃ Pv : Addr → Nat → Hp → Prop, ∀ D i H, Pv D i H ↔ ∃ es : List Nat, es.Sublist (cs.take i) ∧ Drw H d l ∧ But d H1 H ∧ H D = some (.lst (es.map fun c => V.str (tx [c]))) := ⟨_, fun _ _ _ => Iff.rfl⟩
  refine lcJ_by (reg_text cs) Pv (fun _ _ _ _ _ => trivial) (fun D hD1 => ?_) (fun D i c H hD1 hi hp => ?_) (fun D H hD1 hp => ?_)
  · exact (hP _ _ _).mpr ⟨[], List.nil_sublist _, hD.new hD1, (But.refl d H1).new hD1, upd_same⟩
  · obtain ⟨es, e1, e2, e3, e4⟩ := (hP _ _ _).mp hp
    have hm : c ∈ cs := List.mem_of_getElem? hi
    have ht : cs.take (i + 1) = cs.take i ++ [c] := by rw [List.take_add_one, hi]; rfl
    have hDd : D ≠ d := hD.ne hD1
    refine hT c H _ hm e2 fun b H' d' b' => ?_
    have hl : H' D = some (.lst (es.map fun c => V.str (tx [c]))) := b' _ _ hDd e4
    cases b with
    | false =>
      rw [if_neg Bool.false_ne_true]
      refine (hP _ _ _).mpr ⟨es, ?_, d', e3.trans b', hl⟩
      rw [ht]
      exact e1.trans (List.sublist_append_left _ _)
    | true =>
      rw [if_pos rfl]
      refine hE c H' _ hm ⟨_, hl, ?_, ?_⟩
      · rw [List.length_map]
        have h1 := e1.length_le
        have h2 : (cs.take i).length ≤ cs.length := by rw [List.length_take]; omega
        exact toLine (by omega)
      · refine (hP _ _ _).mpr ⟨es ++ [c], ?_, ?_, ?_, ?_⟩
        · rw [ht]; exact e1.append (List.Sublist.refl _)
        · exact d'.put hDd (hD.nel hD1)
        · intro b o nb e
          rw [upd_ne (ne_of_none e hD1)]
          exact b' _ _ nb (e3 _ _ nb e)
        · rw [upd_same, List.map_append]; rfl
  · obtain ⟨es, e1, e2, e3, e4⟩ := (hP _ _ _).mp hp
    rw [List.take_length] at e1
    exact h D H es hD1 e1 e2 e3 e4
/-- texts of one sign, each by its own draw -/
theorem lc_any {α : Type} {J : It} {its : List α} {item : α → V} (R : Reg J its item (fun _ => True)) {d l : Addr} {k : Nat} {te : TE} {σ : St} {H1 : Hp} {Q : VK} (S : Nat → Prop) (hn : its.length ≤ 20000) (hD : Drw H1 d l)
    (hE : ∀ a H (Q : VK), a ∈ its → Drw H d l → (∀ c H', S c → Drw H' d l → But d H H' → Q (.str (tx [c])) H') → te ((σ.set k none).set k (some (item a))) H Q)
    (h : ∀ D H (es : List Nat), H1 D = none → (∀ c ∈ es, S c) → es.length = its.length → Drw H d l → But d H1 H → H D = some (.lst (es.map fun c => V.str (tx [c]))) → Q (.ref D) H) :
    LcJ J (gName k) tYes te [k] σ H1 Q := by
  obtain ⟨Pv, hP⟩ : ∃ Pv : Addr → Nat → Hp → Prop, ∀ D i H, Pv D i H ↔ ∃ es : List Nat, (∀ c ∈ es, S c) ∧ es.length = i ∧ Drw H d l ∧ But d H1 H ∧ H D = some (.lst (es.map fun c => V.str (tx [c]))) := ⟨_, fun _ _ _ => Iff.rfl⟩
  refine lcJ_by R Pv (fun _ _ _ _ _ => trivial) (fun D hD1 => ?_) (fun D i c H hD1 hi hp => ?_) (fun D H hD1 hp => ?_)
  · exact (hP _ _ _).mpr ⟨[], by simp, rfl, hD.new hD1, (But.refl d H1).new hD1, upd_same⟩
  · obtain ⟨es, e1, e2, e3, e4, e5⟩ := (hP _ _ _).mp hp
    have hm : c ∈ its := List.mem_of_getElem? hi
    have hlt := (List.getElem?_eq_some_iff.mp hi).1
    have hDd : D ≠ d := hD.ne hD1
    simp only [tYes, ↓reduceIte]
    refine hE c H _ hm e3 fun c' H' hc d' b' => ?_
    have hl : H' D = some (.lst (es.map fun c => V.str (tx [c]))) := b' _ _ hDd e5
    refine ⟨_, hl, ?_, ?_⟩
    · rw [List.length_map]
      exact toLine (by omega)
    · refine (hP _ _ _).mpr ⟨es ++ [c'], ?_, ?_, d'.put hDd (hD.nel hD1), ?_, ?_⟩
      · intro x hx
        rcases List.mem_append.mp hx with q | q
        · exact e1 x q
        · rw [List.mem_singleton.mp q]; exact hc
      · rw [List.length_append, e2]; rfl
      · intro b o nb e
        rw [upd_ne (ne_of_none e hD1)]
        exact b' _ _ nb (e4 _ _ nb e)
      · rw [upd_same, List.map_append]; rfl
  · obtain ⟨es, e1, e2, e3, e4, e5⟩ := (hP _ _ _).mp hp
    exact h D H es hD1 e1 e2 e3 e4 e5
theorem inV_signs (c : Nat) (es : List Nat) : inV (V.str (tx [c])) (es.map fun c => V.str (tx [c])) = decide (c ∈ es) := by
  unfold inV
  rw [List.any_map]
  have h : ∀ a, ((fun y => eqV y (V.str (tx [c]))) ∘ fun c => V.str (tx [c])) a = (a == c) := by
    intro a
    show eqV (V.str (tx [a])) (V.str (tx [c])) = (a == c)
    unfold eqV
    by_cases e : a = c
    · subst e; simp
    · have e2 : ¬ tx [a] = tx [c] := fun q => e (by rw [tx_eq] at q; exact (List.cons.inj q).1)
      have e3 : (a == c) = false := beq_eq_false_iff_ne.mpr e
      rw [e3]
      simp [e2]
  induction es with
  | nil => rfl
  | cons x r ih =>
    rw [List.any_cons, h, ih, Bool.eq_iff_iff]
    simp only [Bool.or_eq_true, beq_iff_eq, decide_eq_true_eq, List.mem_cons]
    constructor
    · rintro (q | q)
      · exact .inl q.symm
      · exact .inr q
    · rintro (q | q)
      · exact .inl q.symm
      · exact .inr q
theorem flat_signs (es : List Nat) : (es.map fun c => V.str (tx [c])).all flatV = true := by
  induction es with
  | nil => rfl
  | cons x r ih => rw [List.map_cons, List.all_cons, ih]; rfl
end My
namespace My
open PySem L2
/-! ### the place of a text among all texts over a set text -/
def pl (s : List Nat) (p : Int) (t : List Nat) : Int := t.foldl (fun p c => p * (s.length : Int) + (fi c s : Int) + 1) p
def place (t s : List Nat) : Int := pl s 0 t
theorem pl_cons (s : List Nat) (p : Int) (c : Nat) (t : List Nat) : pl s p (c :: t) = pl s (p * (s.length : Int) + (fi c s : Int) + 1) t := rfl
theorem pl_app (s : List Nat) (p : Int) (a b : List Nat) : pl s p (a ++ b) = pl s (pl s p a) b := List.foldl_append ..
theorem pl_lt {s : List Nat} : ∀ {a b : List Nat} {p q : Int}, (∀ c ∈ a, c ∈ s) → a.length = b.length → p < q → pl s p a < pl s q b
  | [], [], p, q, _, _, h => h
  | [], _ :: _, _, _, _, h, _ => by simp at h
  | _ :: _, [], _, _, _, h, _ => by simp at h
  | x :: a, y :: b, p, q, ha, hl, h => by
    rw [pl_cons, pl_cons]
    refine pl_lt (fun c hc => ha c (List.mem_cons_of_mem _ hc)) (by simpa using hl) ?_
    have h1 := fi_lt (ha x (List.mem_cons_self ..))
    have h2 : (p + 1) * (s.length : Int) ≤ q * (s.length : Int) := Int.mul_le_mul_of_nonneg_right (by omega) (by omega)
    rw [Int.add_mul, Int.one_mul] at h2
    omega
theorem pl_lex {s : List Nat} (hs : s.Pairwise (· < ·)) : ∀ {a b : List Nat} (p : Int), (∀ c ∈ a, c ∈ s) → (∀ c ∈ b, c ∈ s) → a.length = b.length → a < b → pl s p a < pl s p b
  | [], [], _, _, _, _, h => absurd h (List.lt_irrefl _)
  | [], _ :: _, _, _, _, h, _ => by simp at h
  | _ :: _, [], _, _, _, h, _ => by simp at h
  | x :: a, y :: b, p, ha, hb, hl, h => by
    rw [pl_cons, pl_cons]
    have ha' : ∀ c ∈ a, c ∈ s := fun c hc => ha c (List.mem_cons_of_mem _ hc)
    have hb' : ∀ c ∈ b, c ∈ s := fun c hc => hb c (List.mem_cons_of_mem _ hc)
    have hl' : a.length = b.length := by simpa using hl
    rcases List.cons_lt_cons_iff.mp h with q | ⟨q, r⟩
    · have := (fi_asc hs (ha x (List.mem_cons_self ..)) (hb y (List.mem_cons_self ..))).mpr q
      exact pl_lt ha' hl' (by omega)
    · subst q
      exact pl_lex hs _ ha' hb' hl' r
theorem pl_pos {s : List Nat} : ∀ {a : List Nat} {p : Int}, 0 ≤ p → 0 ≤ pl s p a ∧ (a ≠ [] → 0 < pl s p a)
  | [], p, h => ⟨h, fun q => absurd rfl q⟩
  | x :: a, p, h => by
    rw [pl_cons]
    have h2 : 0 ≤ p * (s.length : Int) := Int.mul_nonneg h (by omega)
    have h3 : 0 < p * (s.length : Int) + (fi x s : Int) + 1 := by omega
    obtain ⟨i1, i2⟩ := pl_pos (s := s) (a := a) (Int.le_of_lt h3)
    refine ⟨i1, fun _ => ?_⟩
    cases a with
    | nil => exact h3
    | cons y r => exact i2 (by simp)
theorem place_shorter {s a b : List Nat} (ha : ∀ c ∈ a, c ∈ s) (h : a.length < b.length) : place a s < place b s := by
  unfold place
  have e : b = b.take (b.length - a.length) ++ b.drop (b.length - a.length) := (List.take_append_drop ..).symm
  rw [e, pl_app]
  refine pl_lt ha (by rw [List.length_drop]; omega) ?_
  refine (pl_pos (Int.le_refl 0)).2 ?_
  intro q
  have := congrArg List.length q
  rw [List.length_take] at this
  simp at this
  omega
theorem lt_tri (a b : List Nat) : a < b ∨ a = b ∨ b < a := by
  induction a generalizing b with
  | nil =>
    cases b with
    | nil => exact .inr (.inl rfl)
    | cons y r => exact .inl (List.nil_lt_cons ..)
  | cons x a ih =>
    cases b with
    | nil => exact .inr (.inr (List.nil_lt_cons ..))
    | cons y b =>
      rcases Nat.lt_trichotomy x y with h | h | h
      · exact .inl (List.cons_lt_cons_iff.mpr (.inl h))
      · subst h
        rcases ih b with q | q | q
        · exact .inl (List.cons_lt_cons_iff.mpr (.inr ⟨rfl, q⟩))
        · exact .inr (.inl (by rw [q]))
        · exact .inr (.inr (List.cons_lt_cons_iff.mpr (.inr ⟨rfl, q⟩)))
      · exact .inr (.inr (List.cons_lt_cons_iff.mpr (.inl h)))
theorem prec_iff {s a b : List Nat} (hs : s.Pairwise (· < ·)) (ha : ∀ c ∈ a, c ∈ s) (hb : ∀ c ∈ b, c ∈ s) : prec a b = true ↔ place a s < place b s := by
  have fwd : ∀ {a b : List Nat}, (∀ c ∈ a, c ∈ s) → (∀ c ∈ b, c ∈ s) → prec a b = true → place a s < place b s := by
    intro a b ha hb h
    unfold prec at h
    rw [Bool.or_eq_true, Bool.and_eq_true, decide_eq_true_eq, decide_eq_true_eq, decide_eq_true_eq] at h
    rcases h with h | ⟨h1, h2⟩
    · exact place_shorter ha h
    · exact pl_lex hs 0 ha hb h1 h2
  refine ⟨fwd ha hb, fun h => ?_⟩
  have tri : prec a b = true ∨ a = b ∨ prec b a = true := by
    unfold prec
    simp only [Bool.or_eq_true, Bool.and_eq_true, decide_eq_true_eq]
    rcases Nat.lt_trichotomy a.length b.length with q | q | q
    · exact .inl (.inl q)
    · rcases lt_tri a b with r | r | r
      · exact .inl (.inr ⟨q, r⟩)
      · exact .inr (.inl r)
      · exact .inr (.inr (.inr ⟨q.symm, r⟩))
    · exact .inr (.inr (.inl q))
  rcases tri with q | q | q
  · exact q
  · subst q; omega
  · have := fwd hb ha q
    omega
/-! ### the following text is the next in place -/
theorem fi_getD : ∀ {s : List Nat} {k : Nat}, s.Pairwise (· < ·) → (h : k < s.length) → fi s[k] s = k
  | [], _, _, h => by cases h
  | x :: r, 0, _, _ => by show (if x = x then 0 else _) = 0; rw [if_pos rfl]
  | x :: r, k + 1, hp, h => by
    obtain ⟨h1, h2⟩ := List.pairwise_cons.mp hp
    have hk : k < r.length := by simpa using h
    have hm := List.getElem_mem hk
    have hlt := h1 _ hm
    show (if x = r[k] then 0 else fi r[k] r + 1) = k + 1
    rw [if_neg (by omega), fi_getD h2 hk]
theorem pl_rep {s : List Nat} {x y : Nat} (hx : (fi x s : Int) + 1 = s.length) (hy : fi y s = 0) : ∀ (k : Nat) (p : Int), pl s (p + 1) (List.replicate k y) = pl s p (List.replicate k x) + 1
  | 0, p => rfl
  | k + 1, p => by
    rw [List.replicate_succ, List.replicate_succ, pl_cons, pl_cons]
    have e : (p + 1) * (s.length : Int) + (fi y s : Int) + 1 = (p * (s.length : Int) + (fi x s : Int) + 1) + 1 := by
      rw [hy, Int.add_mul, Int.one_mul]
      omega
    rw [e]
    exact pl_rep hx hy k _
theorem rs_split (c : Nat) (t : List Nat) : t = rs c t ++ List.replicate (t.length - (rs c t).length) c := by
  have h : t.reverse.takeWhile (fun a => a == c) ++ t.reverse.dropWhile (fun a => a == c) = t.reverse := List.takeWhile_append_dropWhile
  have h2 : t = (t.reverse.dropWhile (fun a => a == c)).reverse ++ (t.reverse.takeWhile (fun a => a == c)).reverse := by
    rw [← List.reverse_append, h, List.reverse_reverse]
  have h3 : ∀ l : List Nat, l.takeWhile (fun a => a == c) = List.replicate (l.takeWhile (fun a => a == c)).length c := by
    intro l
    induction l with
    | nil => rfl
    | cons a r ih =>
      rw [List.takeWhile_cons]
      by_cases e : (a == c) = true
      · rw [if_pos e, List.length_cons, List.replicate_succ, ← ih]
        rw [eq_of_beq e]
      · rw [if_neg e]; rfl
  have h4 := congrArg List.length h2
  rw [List.length_append, List.length_reverse (as := List.takeWhile _ _)] at h4
  have e5 : t.length - (rs c t).length = (t.reverse.takeWhile (fun a => a == c)).length := by
    unfold rs
    omega
  rw [e5]
  have h6 : (t.reverse.takeWhile (fun a => a == c)).reverse = List.replicate (t.reverse.takeWhile (fun a => a == c)).length c := by
    rw [h3 t.reverse, List.reverse_replicate, List.length_replicate]
  rw [← h6]
  exact h2
structure NxtOk (N t s : List Nat) : Prop where
  sub : ∀ c ∈ N, c ∈ s
  len : N.length ≤ t.length + 1
  place : place N s = place t s + 1
theorem nxt_ok {t s : List Nat} (hs : s ≠ []) (asc : s.Pairwise (· < ·)) (ht : ∀ c ∈ t, c ∈ s) : NxtOk (nxt t s) t s := by
  have eL : s.getLastD 0 = s.getLast hs := List.getLastD_eq_getLast? .. ▸ by rw [List.getLast?_eq_some_getLast hs]; rfl
  obtain ⟨c0, r0, es⟩ : ∃ c r, s = c :: r := by
    cases s with
    | nil => exact absurd rfl hs
    | cons c r => exact ⟨c, r, rfl⟩
  have eH : s.headD 0 = c0 := by rw [es]; rfl
  have m0 : c0 ∈ s := by rw [es]; exact List.mem_cons_self ..
  have y0 : fi c0 s = 0 := by rw [es]; show (if c0 = c0 then 0 else _) = 0; rw [if_pos rfl]
  have hpos : 0 < s.length := List.length_pos_iff.mpr hs
  have xL : (fi (s.getLast hs) s : Int) + 1 = s.length := by
    have h1 : s.getLast hs = s[s.length - 1] := List.getLast_eq_getElem ..
    rw [h1, fi_getD asc (by omega)]
    omega
  have sp := rs_split (s.getLast hs) t
  have hk := rs_le (s.getLast hs) t
  unfold nxt
  rw [eL, eH]
  generalize hkd : t.length - (rs (s.getLast hs) t).length = k at *
  by_cases h0 : rs (s.getLast hs) t = []
  · simp only [h0, ↓reduceIte]
    rw [h0, List.nil_append] at sp
    have hk0 : k = t.length := by rw [← hkd, h0]; simp
    subst hk0
    refine ⟨fun c hc => ?_, ?_, ?_⟩
    · rcases List.mem_cons.mp hc with q | q
      · rw [q]; exact m0
      · rw [List.eq_of_mem_replicate q]; exact m0
    · simp
    · unfold My.place
      rw [pl_cons, y0]
      have := pl_rep xL y0 t.length 0
      rw [← sp] at this
      simpa using this
  · have hm : (rs (s.getLast hs) t).getLast h0 ∈ s := ht _ (rs_sub (List.getLast_mem h0))
    have hf := fi_next hm hs (rs_last h0)
    have eK : (rs (s.getLast hs) t).getLastD 0 = (rs (s.getLast hs) t).getLast h0 := List.getLastD_eq_getLast? .. ▸ by rw [List.getLast?_eq_some_getLast h0]; rfl
    have eG : s.getD (fi ((rs (s.getLast hs) t).getLast h0) s + 1) 0 = s[fi ((rs (s.getLast hs) t).getLast h0) s + 1] := by
      rw [List.getD_eq_getElem?_getD, List.getElem?_eq_getElem hf]; rfl
    simp only [h0, ↓reduceIte, eK, eG, hkd]
    have dk : rs (s.getLast hs) t = (rs (s.getLast hs) t).dropLast ++ [(rs (s.getLast hs) t).getLast h0] := (List.dropLast_concat_getLast h0).symm
    refine ⟨fun c hc => ?_, ?_, ?_⟩
    · rcases List.mem_append.mp hc with q | q
      · rcases List.mem_append.mp q with q | q
        · exact ht _ (rs_sub (List.dropLast_subset _ q))
        · rw [List.mem_singleton.mp q]; exact List.getElem_mem hf
      · rw [List.eq_of_mem_replicate q]; exact m0
    · rw [List.length_append, List.length_append, List.length_dropLast, List.length_replicate]
      simp
      omega
    · unfold My.place
      have key : pl s 0 t = pl s (pl s (pl s 0 (rs (s.getLast hs) t).dropLast) [(rs (s.getLast hs) t).getLast h0]) (List.replicate k (s.getLast hs)) := by
        rw [← pl_app, ← pl_app, ← List.append_assoc, ← dk, ← sp]
      rw [key, pl_app, pl_app]
      have e1 : ∀ P : Int, pl s P [s[fi ((rs (s.getLast hs) t).getLast h0) s + 1]] = pl s P [(rs (s.getLast hs) t).getLast h0] + 1 := by
        intro P
        show P * (s.length : Int) + (fi s[fi ((rs (s.getLast hs) t).getLast h0) s + 1] s : Int) + 1 = P * (s.length : Int) + (fi ((rs (s.getLast hs) t).getLast h0) s : Int) + 1 + 1
        rw [fi_getD asc hf]
        omega
      rw [e1]
      exact pl_rep xL y0 k _
end My
namespace My
open PySem PySem.Spec PyProof.Rows PySem.Froz L2
/-! ### a set of texts: its payload, with all that a walk asks -/
def kt (e : Int × Value) : Str := match e.2 with | .str x _ => x | _ => Str.empty
structure SOk (w : World) (D : SD) (l : List Str) : Prop where
  good : ∀ e ∈ D.1.toList, ∃ x u, e = (hashStr w x, Value.str x u)
  keys : (D.1.toList.map kt).Perm l
  fit : D.2.2.fits D.1.size = true
  ris : Ris D.2.2.place.toList
  led : w.params.followText "set-order" = true ∨ D.2.2.led = true
section
variable {P : Program} {w : World} {D : SD} {l : List Str}
theorem SOk.size (F : SOk w D l) : D.1.size = l.length := by
  have := F.keys.length_eq
  rw [List.length_map, Array.length_toList] at this
  exact this
theorem SOk.tx (F : SOk w D l) : TxOk P w D l where
  el := fun e he => by
    obtain ⟨x, u, rfl⟩ := F.good e he
    exact ⟨⟨x, is_str x u, rfl⟩, rfl⟩
  mem := fun k => by
    rw [← F.keys.mem_iff, List.mem_map]
    constructor
    · rintro ⟨e, he, rfl⟩
      obtain ⟨x, u, rfl⟩ := F.good e he
      exact ⟨_, he, is_str x u⟩
    · rintro ⟨e, he, q⟩
      obtain ⟨x, u, rfl⟩ := F.good e he
      refine ⟨_, he, ?_⟩
      show x = k
      have q2 : Value.isStrOf k (.str x u) = true := q
      simpa [Value.isStrOf] using q2
  sz := F.size
  fit := F.fit
theorem SOk.nil {t : SetTable} {ep : Nat} (hf : t.fits 0 = true) (hr : Ris t.place.toList) (hl : w.params.followText "set-order" = true ∨ t.led = true) : SOk w (#[], ep, t) [] :=
  ⟨fun e he => by simp at he, List.Perm.refl _, hf, hr, hl⟩
/-- the payload behind one more text -/
theorem SOk.add (F : SOk w D l) (k : Str) (u : Tok) : SOk w (addTx (hashStr w k) (.str k u) D) (k :: l) := by
  obtain ⟨es, ep, t⟩ := D
  have pm := layNew_perm t es (hashStr w k) (.str k u)
  have f1 := layNew_fits t es (hashStr w k) (.str k u)
  have r1 := layNew_ris t es (hashStr w k) (.str k u) F.ris
  have l1 := layNew_led t es (hashStr w k) (.str k u)
  show SOk w (tailTx ep (layNew t es (hashStr w k) (.str k u)).1 (if (layNew t es (hashStr w k) (.str k u)).2.1.plain = true then { (layNew t es (hashStr w k) (.str k u)).2.1 with plain := false } else (layNew t es (hashStr w k) (.str k u)).2.1) (layNew t es (hashStr w k) (.str k u)).2.2.1) (k :: l)
  generalize layNew t es (hashStr w k) (.str k u) = Z at pm f1 r1 l1
  obtain ⟨es1, t1, wd, gv⟩ := Z
  dsimp only at pm f1 r1 l1 ⊢
  rw [Array.toList_push] at pm
  have pc : es1.toList.Perm ((hashStr w k, Value.str k u) :: es.toList) := pm.trans (List.perm_append_singleton _ _)
  have base : ∀ (es2 : Array (Int × Value)) (t2 : SetTable) (ep2 : Nat), es2.toList.Perm es1.toList → t2.fits es2.size = true → Ris t2.place.toList → (w.params.followText "set-order" = true ∨ t2.led = true) → SOk w (es2, ep2, t2) (k :: l) := by
    intro es2 t2 ep2 p2 hf2 hr2 hl2
    have p3 := p2.trans pc
    refine ⟨fun e he => ?_, ?_, hf2, hr2, hl2⟩
    · rcases List.mem_cons.mp (p3.mem_iff.mp he) with z | z
      · exact ⟨k, u, z⟩
      · exact F.good e z
    · exact (p3.map kt).trans (List.Perm.cons k F.keys)
  have ledD : w.params.followText "set-order" = true ∨ t.led = true := F.led
  have led1 : w.params.followText "set-order" = true ∨ t1.led = true := by
    rw [l1]; exact ledD
  generalize ht : (if t1.plain = true then { t1 with plain := false } else t1) = t2
  have fT : t2.fits es1.size = true := by
    rw [← ht]; split
    · exact SetTable.fits_plain_off f1
    · exact f1
  have rT : Ris t2.place.toList := by
    rw [← ht]; split <;> exact r1
  have lT : w.params.followText "set-order" = true ∨ t2.led = true := by
    rw [← ht]; split <;> exact led1
  unfold tailTx
  split
  · refine base _ _ _ (relayAll_perm _ _ _) (relayAll_fits _ _ _) (relayAll_ris _ _ _) ?_
    rw [relayAll_led]; exact lT
  · exact base _ _ _ (List.Perm.refl _) fT rT lT
end
section
variable {P : Program} {w : World} {A : Around} {E : Value → Shared → Prop} {s : Shared} {a : Addr} {D : SD} {l : List Str} {k : Str} {u : Tok}
/-- a text that is in already -/
theorem add_there {Q : Bool → Shared → Prop} (ho : s.heap.get? a = some (sObj "set" D)) (F : SOk w D l) (hk : k ∈ l) (hb : l.length < scanBound) (q : Q false s) :
    wpAny (model P w) A (setAddHashed a (.str k u) (hashStr w k)) Q E s := by
  have T : TxOk P w D l := F.tx
  have hsz := F.size
  obtain ⟨es, ep, t⟩ := D
  obtain ⟨e0, he0, z0⟩ := (T.mem k).mp hk
  unfold setAddHashed setAddHashedIn
  refine wpAny_holding (wpAny_bind (wpAny_setState_of ho rfl T.fit ?_))
  dsimp only
  rw [byScan_of (knd := strKind P w) (x := .str k u) rfl (by show es.size < scanBound; rw [show es.size = l.length from hsz]; exact hb) T.el]
  simp only [↓reduceIte]
  unfold setAddByScan
  refine wpAny_bind (wpAny_bind (wpAny_rule (wpAny_bind (wpAny_setScan_of (knd := strKind P w) (k := k) (is_str k u) ho rfl T.fit T.el ?_))))
  cases hfi : List.findIdx? (fun e => (strKind P w).is k e.2) es.toList with
  | none => exact absurd z0 (by rw [List.findIdx?_eq_none_iff.mp hfi e0 he0]; exact Bool.false_ne_true)
  | some j => exact wpAny_pure (wpAny_pure q)
/-- the set at a holds the signs of cs -/
def SX (w : World) (h : Heap) (a : Addr) (cs : List Nat) : Prop :=
  ∃ D l, h.get? a = some (sObj "set" D) ∧ SOk w D l ∧ l.Nodup ∧ (∀ x, x ∈ l ↔ ∃ c ∈ cs, x = tx [c]) ∧ l.length < scanBound
end
end My
namespace My
open PySem PySem.Spec PyProof.Rows PySem.Froz L2
section
variable {P : Program} {w : World} {A : Around} {E : Value → Shared → Prop} {s : Shared}
theorem SX.at {h h' : Heap} {a : Addr} {cs : List Nat} (R : SX w h a cs) (k : ∀ o, h.get? a = some o → h'.get? a = some o) : SX w h' a cs := by
  obtain ⟨D, l, ho, r⟩ := R
  exact ⟨D, l, k _ ho, r⟩
/-- one more sign -/
theorem SX.add {a : Addr} {cs : List Nat} {c : Nat} {u : Tok} {Q : Bool → Shared → Prop} (R : SX w s.heap a cs) (hb : cs.length + 1 < scanBound)
    (q : ∀ b h', Heap.SameBut a s.heap h' → SX w h' a (cs ++ [c]) → Q b { s with heap := h' }) : wpAny (model P w) A (setAddHashed a (.str (tx [c]) u) (hashStr w (tx [c]))) Q E s := by
  obtain ⟨D, l, ho, F, nd, hm, hl⟩ := R
  have lle : l.length ≤ cs.length := by
    have h1 : ∀ (cs : List Nat) (l : List Str), l.Nodup → (∀ x ∈ l, ∃ c ∈ cs, x = tx [c]) → l.length ≤ cs.length := by
      intro cs
      induction cs with
      | nil =>
        intro l _ h
        cases l with
        | nil => exact Nat.le_refl _
        | cons x r => obtain ⟨c, hc, _⟩ := h x (List.mem_cons_self ..); cases hc
      | cons c r ih =>
        intro l nd h
        have h2 := ih (l.erase (tx [c])) (nd.erase _) fun x hx => by
          obtain ⟨hx1, hx2⟩ := (nd.mem_erase_iff).mp hx
          obtain ⟨d, hd, e⟩ := h x hx2
          rcases List.mem_cons.mp hd with z | z
          · exact absurd (by rw [e, z]) hx1
          · exact ⟨d, z, e⟩
        have h3 := List.length_erase (a := tx [c]) (l := l)
        rw [List.length_cons]
        split at h3 <;> omega
    exact h1 cs l nd fun x hx => (hm x).mp hx
  by_cases hk : tx [c] ∈ l
  · refine add_there ho F hk hl (q _ _ (Heap.SameBut.refl a s.heap) ⟨D, l, ho, F, nd, fun x => ?_, hl⟩)
    rw [hm x]
    constructor
    · rintro ⟨d, hd, e⟩; exact ⟨d, List.mem_append_left _ hd, e⟩
    · rintro ⟨d, hd, e⟩
      rcases List.mem_append.mp hd with z | z
      · exact ⟨d, z, e⟩
      · rw [List.mem_singleton.mp z] at e
        rw [e]
        exact (hm _).mp hk
  · have room : l.length + 1 < scanBound := by omega
    refine add_x ho F.tx hk room (q _ _ ?_ ⟨_, tx [c] :: l, get_upd _ ho rfl, F.add _ _, List.nodup_cons.mpr ⟨hk, nd⟩, fun x => ?_, by rw [List.length_cons]; exact room⟩)
    · exact Heap.SameBut.update _ _ _
    · rw [List.mem_cons, hm x]
      constructor
      · rintro (z | ⟨d, hd, e⟩)
        · exact ⟨c, List.mem_append_right _ (List.mem_singleton.mpr rfl), z⟩
        · exact ⟨d, List.mem_append_left _ hd, e⟩
      · rintro ⟨d, hd, e⟩
        rcases List.mem_append.mp hd with z | z
        · exact .inr ⟨d, z, e⟩
        · rw [List.mem_singleton.mp z] at e
          exact .inl e
end
end My
namespace My
open PySem PySem.Spec PyProof.Rows PySem.Froz L2
section
variable {P : Program} {w : World} {A : Around} {E : Value → Shared → Prop} {s : Shared}
/-- the loop that takes the rest of a text's signs into the set at S -/
theorem update_text {I : Addr} {fp wr : List Addr} {G : Array GenState → Array GenState → Prop} {cs : List Nat} {St : Nat → Shared → Prop} {R : Result → Shared → Prop}
    (W : WalksS P w A.in1 I fp wr G cs.length (SignAt (tx cs)) St) (S : Addr) (hS : S ∉ fp) (hb : cs.length + 1 < scanBound) :
    ∀ (m i : Nat) (s : Shared), i + m = cs.length → St i s → SX w s.heap S (cs.take i) →
      (∀ s', Moved (S :: wr) G s s' → SX w s'.heap S cs → R (.ok (.ret .none)) s') →
      codeAny (model P w) A (.builtin "set.update.loop" ⟨[.ref S, .ref I], []⟩) R s
  | 0, i, s, hm, hst, hx, hR => by
    have hi : i = cs.length := by omega
    subst hi
    have hw : S ∉ wr := fun h => hS (W.sub _ h)
    refine codeAny_builtin PyProof.Rows.F.entry_set_update_loop ?_
    rw [Around.under_plainId PyProof.Rows.F.plain_set_update_loop _]
    refine wpAny_bind (m := pyNext (.ref I)) (W.done s _ _ hst fun s' mv => wpAny_pure (hR s' (mv.mono fun b hb => List.mem_cons_of_mem _ hb) ?_))
    rw [List.take_length] at hx
    exact hx.at fun o e => mv.heap S o hw e
  | m + 1, i, s, hm, hst, hx, hR => by
    have hi : i < cs.length := by omega
    have hw : S ∉ wr := fun h => hS (W.sub _ h)
    refine codeAny_builtin PyProof.Rows.F.entry_set_update_loop ?_
    rw [Around.under_plainId PyProof.Rows.F.plain_set_update_loop _]
    refine wpAny_bind (m := pyNext (.ref I)) (W.item i s _ _ hi hst fun v s' hv hst' mv => ?_)
    obtain ⟨c, u, hc, rfl⟩ := hv
    have hc2 : cs[i]? = some c := by
      have : (tx cs).cps[i]? = cs[i]? := by simp [tx]
      rw [← this]; exact hc
    have hx' : SX w s'.heap S (cs.take i) := hx.at fun o e => mv.heap S o hw e
    have et : cs.take (i + 1) = cs.take i ++ [c] := by rw [List.take_add_one, hc2]; rfl
    show wpAny _ A.in1 (holding [Value.str (tx [c]) u] (setAdd S (.str (tx [c]) u)) >>= _) _ _ s'
    refine wpAny_bind (wpAny_holding ?_)
    unfold setAdd
    refine wpAny_holding (wpAny_bind ((strKind P w).pyHash (k := tx [c]) (is_str _ _) ?_))
    have hlen : (cs.take i).length + 1 < scanBound := by rw [List.length_take]; omega
    refine SX.add (s := { s' with toks := s'.toks + 1 }) hx' hlen fun b h' sb hx2 => ?_
    rw [← et] at hx2
    have hst2 : St (i + 1) { s' with heap := h', toks := s'.toks + 1 } := W.frame _ s' _ _ hst' (Nat.le_succ _) fun b hb o e => by
      rw [sb.2 b fun q => hS (q ▸ hb)]; exact e
    refine wpAny_pure ⟨plainId_quiet PyProof.Rows.F.plain_set_update_loop _, update_text W S hS hb m (i + 1) _ (by omega) hst2 hx2 fun s'' mv2 hx3 => hR s'' ?_ hx3⟩
    refine Moved.trans W.gtrans ((mv.mono fun b hb => List.mem_cons_of_mem _ hb).then_heap (Nat.le_succ _) fun b o hb e => ?_) mv2
    rw [sb.2 b fun q => hb (by rw [q]; exact List.mem_cons_self ..)]
    exact e
end
end My
namespace My
open PySem PySem.Spec PyProof.Rows PySem.Froz L2
section
variable {P : Program} {w : World} {A : Around} {E : Value → Shared → Prop} {s : Shared}
/-- an empty set, as it is laid -/
abbrev set0 (w : World) : Obj := { cls := .type "set", dict := none, data := .set #[] 0 (.fresh 0 0 (!w.params.followText "set-order")) }
theorem set0_ok {h : Heap} {a : Addr} (ho : h.get? a = some (set0 w)) : SX w h a [] := by
  refine ⟨(#[], 0, .fresh 0 0 (!w.params.followText "set-order")), [], ho, SOk.nil rfl List.Pairwise.nil ?_, List.nodup_nil, fun x => by simp, by decide⟩
  show _ ∨ (!w.params.followText "set-order") = true
  cases w.params.followText "set-order"
  · exact .inr rfl
  · exact .inl rfl
/-- set(text): what the update leaves -/
def Upd (w : World) (s s' : Shared) (cs : List Nat) : Prop :=
  ∃ h' tk, s' = { s with heap := h', toks := tk } ∧ SX w h' s.heap.objs.size cs ∧ ∀ b o, s.heap.get? b = some o → h'.get? b = some o
set_option maxHeartbeats 3200000 in
theorem init_text {cs : List Nat} {t : Tok} (hh : A.handled = none) (hb : cs.length + 1 < scanBound) :
    codeAny (model P w) A (.call (.builtin "set.__init__") ⟨[.ref s.heap.objs.size, .str (tx cs) t], []⟩) (wants (fun r s₂ => r = .none ∧ Upd w s s₂ cs) E) { s with heap := s.heap.push (set0 w) } := by
  have hS : (s.heap.push (set0 w)).get? s.heap.objs.size = some (set0 w) := Heap.get?_push_size _ rfl
  have hT : Shared.TypeIs { s with heap := s.heap.push (set0 w) } (.ref s.heap.objs.size) "set" := ⟨_, hS, rfl⟩
  refine codeAny_call_builtin F.called_set.init.plain F.entry_set_init (check_set_init_1 hT ?_)
  have hs1 := F.sub_str_set
  have hs2 := F.sub_str_frozenset
  have hne : (Value.type "str" == Value.type "dict") = false := by decide
  unfold Builtin.«set.__init__» noKeywords Builtin.Frozenset.updateFrom
  generalize hPI : pyIter = PI
  wp_walk
  subst hPI
  have fin : ∀ (ty : String) (A2 : Around) (R : Result → Shared → Prop), A2.in1.handled = none → (∀ A' : Around, A'.handled = none → Walks P w A' (s.heap.push (set0 w)).objs.size [(s.heap.push (set0 w)).objs.size] [(s.heap.push (set0 w)).objs.size] (tx cs).cps.size (SignAt (tx cs)) (fun i h => h.IsStrIter (s.heap.push (set0 w)).objs.size ty (tx cs) t i)) →
      (∀ s', Upd w s s' cs → R (.ok (.ret .none)) s') → codeAny (model P w) A2 (.builtin "set.update.loop" ⟨[.ref s.heap.objs.size, .ref (s.heap.push (set0 w)).objs.size], []⟩) R
        { s with heap := (s.heap.push (set0 w)).push { cls := .type ty, data := .fields #[.str (tx cs) t, .int 0 0] } } := by
    intro ty A2 R h2 W hR
    have hz : (s.heap.push (set0 w)).objs.size = s.heap.objs.size + 1 := Heap.size_push ..
    have hcs : (tx cs).cps.size = cs.length := by simp [tx]
    have W1 := (W A2.in1 h2).toS
    rw [hcs] at W1
    refine update_text W1 s.heap.objs.size (by rw [hz]; simp) hb cs.length 0 _ (by omega) ⟨_, Heap.get?_push_size _ rfl, rfl, rfl⟩ (set0_ok (Heap.get?_push_of_some _ hS)) fun s' mv hx => ?_
    obtain ⟨h', g2, d', tk', os'⟩ := s'
    have eg : g2 = s.gens := mv.gens
    have ed : d' = s.drawn := mv.drawn
    have eo : os' = s.os := mv.os
    subst eg ed eo
    refine hR _ ⟨h', tk', rfl, hx, fun b o e => ?_⟩
    have hlt := Heap.lt_size e
    refine mv.heap b o ?_ (Heap.get?_push_of_some _ (Heap.get?_push_of_some _ e))
    rw [hz]
    simp only [List.mem_cons, List.not_mem_nil, or_false, not_or]
    exact ⟨Nat.ne_of_lt hlt, Nat.ne_of_lt (Nat.lt_succ_of_lt hlt)⟩
  cases ha : (tx cs).cps.all (· < 128)
  · refine wpAny_pyIter_wide ha (wpAny_bind (wpAny_runValue (fin "str_iterator" _ _ (by simp [hh]) (fun A' h => Walks.strWide h _ _ _) fun s' hu => ?_)))
    exact wpAny_pure (wpAny_pure ⟨rfl, hu⟩)
  · refine wpAny_pyIter_ascii ha (wpAny_bind (wpAny_runValue (fin "str_ascii_iterator" _ _ (by simp [hh]) (fun A' h => Walks.strAscii h _ _ _) fun s' hu => ?_)))
    exact wpAny_pure (wpAny_pure ⟨rfl, hu⟩)
set_option maxHeartbeats 3200000 in
theorem call_set_text {cs : List Nat} {t : Tok} {Q : Value → Shared → Prop} (hh : A.handled = none) (hb : cs.length + 1 < scanBound) (q : ∀ s', Upd w s s' cs → Q (.ref s.heap.objs.size) s') :
    wpAny (model P w) A (call (.type "set") [.str (tx cs) t]) Q E s := by
  obtain ⟨c, tl, hmro⟩ := F.called_set.mro
  have hmade := F.called_set.made
  have hsub := F.called_set.sub
  have h1 := F.called_set.notType
  have h2 := F.called_set.canCreate
  have hct := F.typeCall_set_1 (.str (tx cs) t)
  refine wpAny_call (codeAny_of_tree ?_)
  show wpAny _ _ (callAny (.type "set") _) _ _ _
  refine wpAny_pure ⟨Code.quiet_builtin _ (by decide +kernel), codeAny_builtin F.entry_type_call ?_⟩
  rw [Around.under_plain (weight_type_call_type "set" [.str (tx cs) t] []) rfl]
  repeat (any_goals (first | assumption | wp_step))
  refine codeAny_mono (code_set_led1 (.str (tx cs) t) (E := E) (Q₁ := fun obj s₁ => obj = .ref s.heap.objs.size ∧ s₁ = { s with heap := s.heap.push (set0 w) }) ⟨rfl, rfl⟩) fun r s₁ hr => ?_
  match r, hr with
  | .error e, hr => exact hr
  | .ok (.ret obj), hr =>
    obtain ⟨rfl, rfl⟩ := hr
    have hT : Shared.TypeIs { s with heap := s.heap.push (set0 w) } (.ref s.heap.objs.size) "set" := ⟨_, Heap.get?_push_size _ rfl, rfl⟩
    have hli := F.called_set.init.lookup
    have hbi := F.called_set.init.bind (.ref s.heap.objs.size)
    repeat (any_goals (first | assumption | wp_step))
    refine codeAny_mono (init_text (E := E) (t := t) (by simp [hh]) hb) fun r₂ s₂ hr₂ => ?_
    match r₂, hr₂ with
    | .error e, hr₂ => exact hr₂
    | .ok (.ret r), hr₂ =>
      obtain ⟨rfl, hu⟩ := hr₂
      repeat (any_goals (first | assumption | wp_step))
      exact q _ hu
end
end My
namespace My
open PySem PySem.Spec PyProof.Rows PySem.Froz L2
theorem each_of_mem {α β : Type} {R : α → β → Prop} {f : α → β} : ∀ {l : List α}, (∀ a ∈ l, R a (f a)) → PySem.W.EachIs R l (l.map f)
  | [], _ => .nil
  | x :: l, h => .cons (h x List.mem_cons_self) (each_of_mem fun a ha => h a (List.mem_cons_of_mem _ ha))
theorem lex_single (a b : Nat) : (([a] : List Nat) ≤ [b]) ↔ a ≤ b := by
  rw [← List.not_lt, List.cons_lt_cons_iff]
  constructor
  · intro h
    have : ¬ b < a := fun z => h (.inl z)
    omega
  · rintro h (z | ⟨_, z⟩)
    · omega
    · exact absurd z (List.not_lt_nil _)
def hd0 (x : Str) : Nat := x.cps.toList.headD 0
theorem hd0_tx (c : Nat) : hd0 (tx [c]) = c := rfl
theorem strs_of : ∀ {vs : List Value} {ks : List Str}, PySem.W.EachIs (fun v k => ∃ u, v = Value.str k u) vs ks → StrsAre vs ks
  | _, _, .nil => .nil
  | _, _, .cons ⟨u, h⟩ t => by subst h; exact .cons _ u (strs_of t)
theorem signs_lt : ∀ (ks : List Str), (∀ k ∈ ks, ∃ c, k = tx [c]) → ks.Nodup → ks.Pairwise (fun a b => a.cps.toList ≤ b.cps.toList) → (ks.map hd0).Pairwise (· < ·)
  | [], _, _, _ => List.Pairwise.nil
  | k :: r, h, nd, p => by
    obtain ⟨n1, n2⟩ := List.nodup_cons.mp nd
    obtain ⟨p1, p2⟩ := List.pairwise_cons.mp p
    refine List.pairwise_cons.mpr ⟨fun y hy => ?_, signs_lt r (fun k hk => h k (List.mem_cons_of_mem _ hk)) n2 p2⟩
    obtain ⟨z, hz, rfl⟩ := List.mem_map.mp hy
    have q := p1 z hz
    obtain ⟨c, rfl⟩ := h k List.mem_cons_self
    obtain ⟨d, rfl⟩ := h z (List.mem_cons_of_mem _ hz)
    rw [tx_cps, tx_cps, lex_single] at q
    have : c ≠ d := fun e => n1 (e ▸ hz)
    rw [hd0_tx, hd0_tx]
    omega
def vstr (v : Value) : Str := match v with | .str x _ => x | _ => Str.empty
section
variable {P : Program} {w : World} {A : Around} {E : Value → Shared → Prop} {s : Shared} {a : Addr}
theorem sorted_setTx {cs : List Nat} {Q : Value → Shared → Prop} (R : SX w s.heap a cs) (hh : A.handled = none) (hu : A.units + 16 < cLine)
    (hQ : ∀ s' p (out : Array Value) (c : Nat) (ns : List Nat), (∀ b o, s.heap.get? b = some o → s'.heap.get? b = some o) → s'.gens = s.gens → s'.os = s.os → s.heap.objs.size ≤ p →
      s'.heap.get? p = some (seqObj "list" out c) → StrsAre out.toList (ns.map fun c => tx [c]) → ns.Pairwise (· < ·) → (∀ k, k ∈ ns ↔ k ∈ cs) → ns.length < scanBound → Q (.ref p) s') :
    wpAny (model P w) A (call (.builtin "sorted") [.ref a]) Q E s := by
  obtain ⟨⟨es, ep, t⟩, l, ho, F, nd, hm, hl⟩ := R
  refine Calls.call_function_entry kind_sorted plain_sorted entry_sorted (args_sorted1 _) ?_
  unfold Builtin.«sorted»
  refine wpAny_bind (m := checkCount "sorted" 1 1 _) (wpAny_pure ?_)
  refine wpAny_bind (collect_set (A := A.in1) hh ⟨_, ho, rfl, rfl⟩ F.fit (by rw [show es.size = l.length from F.size]; exact hl) F.ris F.led fun s1 vs k1 hz g1 o1 pm => ?_)
  have hg : ∀ v ∈ vs, ∃ x u, v = Value.str x u := fun v hv => by
    obtain ⟨e, he, q⟩ := List.mem_map.mp (pm.mem_iff.mp hv)
    obtain ⟨x, u, rfl⟩ := F.good e he
    exact ⟨x, u, q.symm⟩
  have pk : (vs.map vstr).Perm l := by
    have q := pm.map vstr
    rw [List.map_map] at q
    exact q.trans F.keys
  have hvl : vs.length = l.length := by
    have := pk.length_eq
    rwa [List.length_map] at this
  have hsl : l.length ≤ sizeLine := by
    rw [sizeLine_eq]
    have : scanBound = 4096 := by rfl
    omega
  refine wpAny_bind (wpAny_newList ?_ (by rw [hvl]; exact hsl))
  have hoL : (s1.heap.push (seqObj "list" vs.toArray 0)).get? s1.heap.objs.size = some (seqObj "list" vs.toArray 0) := Heap.get?_push_size _ rfl
  refine wpAny_bind (wpAny_holding (PySem.W.list_sort_data (enc := PyData.str) (bs := vs.map vstr) (R := fun v k => ∃ u, v = Value.str k u) hoL
    (each_of_mem fun v hv => by obtain ⟨x, u, rfl⟩ := hg v hv; exact ⟨u, rfl⟩)
    (each_of_mem fun v hv => by obtain ⟨x, u, rfl⟩ := hg v hv; exact ⟨[], .str x u, by simp⟩)
    (PySem.W.AllAlike.of fun b b' => by simp [PySem.W.alike]) (PySem.W.Sortable.others fun b => ⟨by simp, by simp⟩) (by rw [List.length_map, hvl]; exact hsl) (fun b _ => by simp [PyData.depth]; omega) fun out ho2 eo => ?_))
  have et := PySem.W.dataLe_str (fun k : Str => k)
  have eo2 : PySem.W.EachIs (fun v k => ∃ u, v = Value.str k u) out ((vs.map vstr).mergeSort fun a b => decide (a.cps.toList ≤ b.cps.toList)) := by rw [← et]; exact eo
  have pw : ((vs.map vstr).mergeSort fun a b => decide (a.cps.toList ≤ b.cps.toList)).Pairwise (fun a b => decide (a.cps.toList ≤ b.cps.toList) = true) :=
    List.pairwise_mergeSort (fun a b c h1 h2 => by
      simp only [decide_eq_true_eq] at h1 h2 ⊢
      exact List.le_trans h1 h2) (fun a b => by
      simp only [Bool.or_eq_true, decide_eq_true_eq]
      exact List.le_total _ _) _
  have pm2 : ((vs.map vstr).mergeSort fun a b => decide (a.cps.toList ≤ b.cps.toList)).Perm l := (List.mergeSort_perm _ _).trans pk
  generalize ((vs.map vstr).mergeSort fun a b => decide (a.cps.toList ≤ b.cps.toList)) = ks at eo2 pw pm2
  have each : ∀ k ∈ ks, ∃ c ∈ cs, k = tx [c] := fun k hk => (hm k).mp (pm2.mem_iff.mp hk)
  have pw2 : ks.Pairwise (fun a b => a.cps.toList ≤ b.cps.toList) := pw.imp fun h => by simpa using h
  have hlt := signs_lt ks (fun k hk => by obtain ⟨c, _, e⟩ := each k hk; exact ⟨c, e⟩) (pm2.nodup_iff.mpr nd) pw2
  have emap : (ks.map hd0).map (fun c => tx [c]) = ks := by
    rw [List.map_map]
    conv => rhs; rw [← List.map_id ks]
    refine List.map_congr_left fun k hk => ?_
    obtain ⟨c, _, rfl⟩ := each k hk
    rfl
  obtain ⟨c, hc⟩ := sortedHeap_at (vs := vs) (out := out.toArray) hoL
  refine wpAny_pure ⟨_, rfl, hQ _ s1.heap.objs.size out.toArray c (ks.map hd0) (fun b u e => ?_) g1 o1 hz hc ?_ hlt (fun k => ?_) ?_⟩
  · have q := k1 b u e
    have hlt := Heap.lt_size q
    show (sortedHeap (s1.heap.push (seqObj "list" vs.toArray 0)) s1.heap.objs.size vs out.toArray).get? b = some u
    rw [sortedHeap_old (Nat.ne_of_lt hlt) (by rw [size_push']; exact Nat.lt_succ_of_lt hlt)]
    exact Heap.get?_push_of_some _ q
  · rw [emap]
    exact strs_of eo2
  · constructor
    · intro h
      obtain ⟨x, hx, e⟩ := List.mem_map.mp h
      obtain ⟨d, hd, e2⟩ := each x hx
      rw [← e, e2]
      exact hd
    · intro h
      exact List.mem_map.mpr ⟨tx [k], pm2.mem_iff.mpr ((hm _).mpr ⟨k, h, rfl⟩), rfl⟩
  · rw [List.length_map, pm2.length_eq]
    exact hl
end
end My
namespace My
open PySem PySem.Spec PyProof.Rows PySem.Froz L2
/-- the set of the signs cs, at a -/
def SetTx (w : World) (a : Addr) (cs : List Nat) : HO := .ext fun h => SX w h a cs
section
variable {X : Cx}
theorem setTx_new {w : World} {P : Program} {H : Hp} {h : Heap} {a : Addr} {cs : List Nat} (R : SX w h a cs) : ObjOk P w H h a (SetTx w a cs) := by
  have ⟨_, _, ho, _⟩ := R
  exact ⟨R, ⟨_, ho⟩, fun h1 h2 p k => SX.at p k⟩
theorem setTx_get {pins : List (Addr × Obj)} {σ : L2.St} {H : Hp} {s : Shared} {a : Addr} {cs : List Nat} (I : Inv X pins σ H s) (ha : H a = some (SetTx X.w a cs)) : SX X.w s.heap a cs := (I.hok a _ ha).1
/-- set(text) -/
def rSetTx (w : World) : List V → Hp → VK → Prop := fun xs H Q => ∃ cs : List Nat, xs = [V.str (tx cs)] ∧ cs.length + 1 < scanBound ∧ ∀ p, H p = none → Q (.ref p) (upd H p (SetTx w p cs))
theorem cr_setTx (hc : X.calm = true) : CallR X (.type "set") (rSetTx X.w) := by
  intro pins s σ H xs us Q I r h
  obtain ⟨cs, rfl, hb, q⟩ := h
  cases r with
  | cons ry rt =>
    cases rt
    obtain ⟨tk, rfl⟩ := ry
    refine call_set_text (I.ok.hd hc) hb fun s' hu => ?_
    obtain ⟨h', tk', rfl, hx, hk⟩ := hu
    exact ⟨.ref _, upd H s.heap.objs.size (SetTx X.w s.heap.objs.size cs), I.laid (t' := tk') (fun b u e => hk b u e) (Nat.le_refl _) (setTx_new hx), rfl, q _ (I.hok.fresh (Nat.le_refl _))⟩
/-- sorted(set of signs) -/
def rSortedTx (w : World) : List V → Hp → VK → Prop := fun vs H Q => ∃ (a : Addr) (cs : List Nat), vs = [V.ref a] ∧ H a = some (SetTx w a cs) ∧
  ∀ (ns : List Nat) (p : Addr), ns.Pairwise (· < ·) → (∀ k, k ∈ ns ↔ k ∈ cs) → H p = none → Q (.ref p) (upd H p (.lst (ns.map fun c => V.str (tx [c]))))
theorem cr_sortedTx (hc : X.calm = true) (hu : X.A.units + 16 < cLine) : CallR X (.builtin "sorted") (rSortedTx X.w) := by
  intro pins s σ H vs us Q I r h
  obtain ⟨a, cs, rfl, ha, q⟩ := h
  have R := setTx_get I ha
  rw [Vals.ref1 r]
  refine sorted_setTx R (I.ok.hd hc) hu fun s' p out c ns k g o hp hg hi hs hm hl => ?_
  have hlen : (ns.map fun c => V.str (tx [c])).length ≤ sizeLine := by
    rw [List.length_map, sizeLine_eq]
    have : scanBound = 4096 := by rfl
    omega
  have hn : H p = none := I.hok.fresh hp
  have hv : Vals (ns.map fun c => V.str (tx [c])) out.toList := by
    have := vals_of_strs hi
    rwa [List.map_map] at this
  have J : Inv X pins σ (upd H p (.lst (ns.map fun c => V.str (tx [c])))) { s with heap := s'.heap, gens := s'.gens, drawn := s'.drawn, toks := s'.toks } :=
    I.call (ch := []) (Un.laid k hp hn) (I.hok.laid k hp ⟨hlen, out.toList, c, hv, hg⟩) (by rw [g]; exact I.bare) (fun _ z => nomatch z)
  have e : s' = { s with heap := s'.heap, gens := s'.gens, drawn := s'.drawn, toks := s'.toks } := by
    cases s'
    cases s
    cases o
    rfl
  rw [e]
  exact ⟨.ref p, _, J, rfl, q ns p hs hm hn⟩
end
end My
namespace My
open PySem PySem.Spec PyProof.Rows PySem.Froz L2
/-! ### operators of an own class -/
theorem back_of {P : Value → Shared → Prop} {z : V} {v : Value} {s' : Shared} (r : RelV z v) (h : P v s') : PySem.W.CmpBack P v s' := by
  cases z with
  | non => cases (show v = Value.none from r); exact h
  | bl b => cases (show v = Value.bool b from r); exact h
  | int i => obtain ⟨t, rfl⟩ := (show ∃ t, v = Value.int i t from r); exact h
  | str i => obtain ⟨t, rfl⟩ := (show ∃ t, v = Value.str i t from r); exact h
  | byt i => obtain ⟨t, rfl⟩ := (show ∃ t, v = Value.bytes i t from r); exact h
  | flt i => obtain ⟨t, rfl⟩ := (show ∃ t, v = Value.float i t from r); exact h
  | ref b => cases (show v = Value.ref b from r); exact h
  | ty b => cases (show v = Value.type b from r); exact h
section
variable {X : Cx} {CX : CXT} {k : Nat} {C f : Addr} {fd : FuncData} {ps : List Str} {sp : Sp} {E : XK}
/-- a op b, both of the class at C -/
def rOwn2 (C : Addr) (sp : Sp) (E : XK) : R2 := fun x y H Q => ∃ a dx fs b dy gs, x = .ref a ∧ y = .ref b ∧ H a = some (.ins C dx fs) ∧ H b = some (.ins C dy gs) ∧ sp [.ref a, .ref b] H Q E
theorem op_own {op : Operator} (F : FnOk X.prog X.w X.K X.mg X.base CX k f fd ps sp) (hr : Room k X.A) (hc : PySem.W.selfFirst X.K C = true) (hs : PySem.W.findIn X.K (.ref C) (PySem.dunder op.info.2) = some (some (.ref f)))
    (hf : PySem.W.isFn X.K (.ref f) = true) (hb : Binds X.K fd ps []) (hx : Passes CX X E) : OpR X (binaryOp op) (rOwn2 C sp E) := by
  intro pins s σ H x y v u Q I rx ry h
  obtain ⟨a, dx, fs, b, dy, gs, rfl, rfl, ha, hb', q⟩ := h
  cases rx
  cases ry
  obtain ⟨mA, J, _⟩ := ins_get I.hok ha
  obtain ⟨mB, J', _⟩ := ins_get I.hok hb'
  obtain ⟨od, J, _⟩ := J.look
  obtain ⟨od', J', _⟩ := J'.look
  obtain ⟨m, hF⟩ := I.fr
  refine PySem.W.binop_K hF I.ok.mod.kin J J'.type hc hs hf ?_
  refine thn (run_fn (us := [.ref a, .ref b]) (vs := [.ref a, .ref b]) F hr hb .nil hx I (.cons rfl (.cons rfl .nil)) q) fun v s' hq => ?_
  obtain ⟨z, H', I', rz, q2⟩ := hq
  exact back_of rz ⟨z, H', I', rz, q2⟩
/-- x in b, x not in b -/
def rOwnIn (C : Addr) (sp : Sp) (E : XK) (neg : Bool) : R2 := fun x y H Q => ∃ b dy gs, y = .ref b ∧ H b = some (.ins C dy gs) ∧ sp [.ref b, x] H (fun v H' => ∃ r, v = .bl r ∧ Q (.bl (xor neg r)) H') E
theorem op_ownIn (F : FnOk X.prog X.w X.K X.mg X.base CX k f fd ps sp) (hr : Room k X.A) (hs : PySem.W.findIn X.K (.ref C) "__contains__" = some (some (.ref f)))
    (hf : PySem.W.isFn X.K (.ref f) = true) (hb : Binds X.K fd ps []) (hx : Passes CX X E) : OpR X (compareOp .In) (rOwnIn C sp E false) := by
  intro pins s σ H x y v u Q I rx ry h
  obtain ⟨b, dy, gs, rfl, hb', q⟩ := h
  cases ry
  obtain ⟨mB, J', _⟩ := ins_get I.hok hb'
  obtain ⟨od', J', _⟩ := J'.look
  obtain ⟨m, hF⟩ := I.fr
  refine PySem.W.in_K hF I.ok.mod.kin J' hs hf ?_
  refine thn (run_fn (us := [.ref b, v]) (vs := [.ref b, x]) F hr hb .nil hx I (.cons rfl (.cons rx .nil)) q) fun v s' hq => ?_
  obtain ⟨z, H', I', rz, r, rfl, q2⟩ := hq
  cases rz
  exact wpAny_truthy_bool ⟨.bl _, H', I', rfl, by simpa using q2⟩
theorem op_ownNotIn (F : FnOk X.prog X.w X.K X.mg X.base CX k f fd ps sp) (hr : Room k X.A) (hs : PySem.W.findIn X.K (.ref C) "__contains__" = some (some (.ref f)))
    (hf : PySem.W.isFn X.K (.ref f) = true) (hb : Binds X.K fd ps []) (hx : Passes CX X E) : OpR X (compareOp .NotIn) (rOwnIn C sp E true) := by
  intro pins s σ H x y v u Q I rx ry h
  obtain ⟨b, dy, gs, rfl, hb', q⟩ := h
  cases ry
  obtain ⟨mB, J', _⟩ := ins_get I.hok hb'
  obtain ⟨od', J', _⟩ := J'.look
  obtain ⟨m, hF⟩ := I.fr
  refine PySem.W.notIn_K hF I.ok.mod.kin J' hs hf ?_
  refine thn (run_fn (us := [.ref b, v]) (vs := [.ref b, x]) F hr hb .nil hx I (.cons rfl (.cons rx .nil)) q) fun v s' hq => ?_
  obtain ⟨z, H', I', rz, r, rfl, q2⟩ := hq
  cases rz
  exact wpAny_truthy_bool ⟨.bl _, H', I', rfl, by simpa using q2⟩
/-- ~a -/
def rOwn1 (C : Addr) (sp : Sp) (E : XK) : V → Hp → VK → Prop := fun x H Q => ∃ a dx fs, x = .ref a ∧ H a = some (.ins C dx fs) ∧ sp [.ref a] H Q E
theorem un_ownInv (F : FnOk X.prog X.w X.K X.mg X.base CX k f fd ps sp) (hr : Room k X.A) (hs : PySem.W.findIn X.K (.ref C) "__invert__" = some (some (.ref f)))
    (hf : PySem.W.isFn X.K (.ref f) = true) (hb : Binds X.K fd ps []) (hx : Passes CX X E) : UnR X (unaryOp .Invert) (rOwn1 C sp E) := by
  intro pins s σ H x v Q I rx h
  obtain ⟨b, dy, gs, rfl, hb', q⟩ := h
  cases rx
  obtain ⟨mB, J', _⟩ := ins_get I.hok hb'
  obtain ⟨od', J', _⟩ := J'.look
  obtain ⟨m, hF⟩ := I.fr
  refine PySem.W.ksp_inv hF I.ok.mod.kin J' hs hf ?_
  exact run_fn (us := [.ref b]) (vs := [.ref b]) F hr hb .nil hx I (.cons rfl .nil) q
end
end My
namespace My
open PySem PySem.Spec PyProof.Rows PySem.Froz L2
section
variable {X : Cx} {CX : CXT} {k : Nat} {C f : Addr} {fd : FuncData} {ps : List Str} {sp : Sp} {E : XK}
/-- len(a) by an own def -/
def rOwnLen (C : Addr) (sp : Sp) (E : XK) : List V → Hp → VK → Prop := fun xs H Q => ∃ a dx fs, xs = [.ref a] ∧ H a = some (.ins C dx fs) ∧ sp [.ref a] H (fun v H' => ∃ n : Int, v = .int n ∧ 0 ≤ n ∧ n < 2 ^ 63 ∧ Q (.int n) H') E
theorem call_ownLen (F : FnOk X.prog X.w X.K X.mg X.base CX k f fd ps sp) (hr : Room (k + 1) X.A) (hs : PySem.W.findIn X.K (.ref C) "__len__" = some (some (.ref f)))
    (hf : PySem.W.isFn X.K (.ref f) = true) (hb : Binds X.K fd ps []) (hx : Passes CX X E) : CallR X (.builtin "len") (rOwnLen C sp E) := by
  intro pins s σ H xs us Q I r h
  obtain ⟨a, dx, fs, rfl, ha, q⟩ := h
  rw [Vals.ref1 r]
  obtain ⟨mA, J, _⟩ := ins_get I.hok ha
  obtain ⟨od, J, _⟩ := J.look
  obtain ⟨m, hF⟩ := I.fr
  have hl := F.len _ _ _ _ q
  refine PySem.W.len_K hF I.ok.mod.kin J hs hf (wpAny_call (codeAny_mono (F.run X.A.in1 X.stack s H ⟨[.ref a], []⟩ [.ref a] [.ref a] _ E hr.in1 I.env0.in1 (hb s [.ref a] I.kIn (by simpa using hl)) (.cons rfl .nil) q) fun r s' hq => ?_))
  cases r with
  | error e => exact hx pins σ H s e s' I hq
  | ok fl =>
    cases fl with
    | ret u =>
      obtain ⟨v, H', I3, rv, n, rfl, h0, h1, q3⟩ := I.after hq
      obtain ⟨t, rfl⟩ := rv
      exact ⟨⟨h0, h1⟩, .int n, H', I3.tok _, ⟨_, rfl⟩, q3⟩
    | next => exact False.elim hq
    | brk => exact False.elim hq
    | cont => exact False.elim hq
/-- a == y by an own def: y an instance of the class, a text, a list -/
def rOwnEq (C : Addr) (sp : Sp) (E : XK) : R2 := fun x y H Q => ∃ a dx fs, x = .ref a ∧ H a = some (.ins C dx fs) ∧ ((∃ b dy gs, y = .ref b ∧ H b = some (.ins C dy gs)) ∨ (∃ z, y = .str z) ∨ (∃ b zs, y = .ref b ∧ H b = some (.lst zs))) ∧ sp [.ref a, y] H Q E
theorem op_ownEq (F : FnOk X.prog X.w X.K X.mg X.base CX k f fd ps sp) (hr : Room k X.A) (hs : PySem.W.findIn X.K (.ref C) "__eq__" = some (some (.ref f)))
    (hf : PySem.W.isFn X.K (.ref f) = true) (h1 : PySem.W.notFirst X.K C (.type "str") = true) (h2 : PySem.W.notFirst X.K C (.type "list") = true) (hb : Binds X.K fd ps []) (hx : Passes CX X E) : OpR X (compareOp .Eq) (rOwnEq C sp E) := by
  intro pins s σ H x y v u Q I rx ry h
  obtain ⟨a, dx, fs, rfl, ha, hy, q⟩ := h
  cases rx
  obtain ⟨mA, J, _⟩ := ins_get I.hok ha
  obtain ⟨od, J, _⟩ := J.look
  obtain ⟨m, hF⟩ := I.fr
  have go : wpAny (model X.prog X.w) X.A (call (.ref f) [.ref a, u]) (PySem.W.CmpBack (EP X pins σ Q)) X.xe s := by
    refine thn (run_fn (us := [.ref a, u]) (vs := [.ref a, y]) F hr hb .nil hx I (.cons rfl (.cons ry .nil)) q) fun v s' hq => ?_
    obtain ⟨z, H', I', rz, q2⟩ := hq
    exact back_of rz ⟨z, H', I', rz, q2⟩
  show wpAny (model X.prog X.w) X.A (richCompare .Eq (.ref a) u) (EP X pins σ Q) X.xe s
  have hu : X.A.units < cLine := hr.units0
  rcases hy with ⟨b, dy, gs, rfl, hb'⟩ | ⟨z, rfl⟩ | ⟨b, zs, rfl, hb'⟩
  · cases ry
    obtain ⟨mB, J', _⟩ := ins_get I.hok hb'
    obtain ⟨od', J', _⟩ := J'.look
    exact PySem.W.cmp_K (op := .Eq) (tb := .ref C) hu hF I.ok.mod.kin J J'.type (by simp [PySem.W.notFirst]) hs hf go
  · obtain ⟨t, rfl⟩ := ry
    exact PySem.W.cmp_K (op := .Eq) (tb := .type "str") hu hF I.ok.mod.kin J (PySem.W.Looks.of_pure rfl) h1 hs hf go
  · cases ry
    obtain ⟨_, its, n, _, e⟩ := (show ObjOk X.prog X.w H s.heap b (.lst zs) from I.hok b _ hb')
    exact PySem.W.cmp_K (op := .Eq) (tb := .type "list") hu hF I.ok.mod.kin J ((PySem.W.Looks.ld e).andThen .now) h2 hs hf go
end
end My
namespace My
open PySem PySem.Spec PyProof.Rows PySem.Froz L2
/-! ### a def run at one state alone -/
theorem run_at {CX : CXT} {P : Program} {w : World} {K : PySem.W.Frag} {mg : Str → Option Value} {base : Heap} {k : Nat} {f : Addr} {x qual : Str} {st : Stmt} {fd : FuncData} {N ps : List Str}
    (D : Fun K x qual st f fd) (sc : FnScope N ps (defScope st)) {A : Around} {outer : List Env} {s : Shared} {H : Hp} {args : Args} {us : List Value} {vs : List V} {Q : VK} {E : XK}
    (room : Room (k + 1) A) (env : Env0 P w K mg base A outer s H) (bd : BindsTo s fd args (ps.zip us)) (rel : Vals vs us) (len : vs.length = ps.length)
    (body : ∀ cdv : Value, Room k (A.deeper (envOfC qual (defScope st) s.heap.objs.size f cdv)) → ∃ t, PSs (cxOf CX P w K mg base N qual (defScope st) f cdv A outer s H E) (defBody st) t ∧ t { nx := fun _ H' => Q .non H', rt := Q } (start N vs) H) :
    codeAny (model P w) A (.call (.ref f) args) (CR CX outer P w H s Q E) s := by
  obtain ⟨oc, od, kV, doc, pm, an, cdv, ct, osl, rfl, rec, cod⟩ := D.ex
  have inK : K.In s.heap := env.mod.kin.keeps fun b u e => (env.bs b u e).1
  have noLim : s.heap.NoLimit := env.mod.nolimit.keeps fun b u e => (env.bs b u e).1
  refine codeAny_call_function room.depth (inK _ _ rec) rfl sc.co sc.gen rfl (PySem.W.codeRec_of inK cod) (bd _ _ _ _ ?_)
  refine wpAny_newFunctionEnv_cells sc.kind (fun y hy => (sc.par y.1 (List.of_mem_zip (a := y.1) (b := y.2) hy).1).elim Or.inl fun q => Or.inr ⟨q, PySem.W.cellsFrom_some _ _ _ (.inl q)⟩) fun env1 he s1 new => ?_
  subst he
  refine ⟨noLim.keeps new.toInCall.keep, codeAny_func ?_⟩
  obtain ⟨t, term, read⟩ := body cdv (room.deeper _)
  have I : L2.Inv (cxOf CX P w K mg base N qual (defScope st) f cdv A outer s H E) [] (start N vs) H s1 := inv_start sc room.hd env len rel new
  refine wpAny_mono (term.run [] s1 (start N vs) H _ I read) (fun fl s' out => ?_) fun _ _ z => z
  match fl, out with
  | .ret u, ⟨v, σ', H', J, rv, q⟩ => exact ⟨v, H', J.os, J.bare, J.base, J.hok, rv, q⟩
  | .next, ⟨σ', H', J, q⟩ => exact ⟨V.non, H', J.os, J.bare, J.base, J.hok, rfl, q⟩
  | .brk, ⟨_, _, _, q⟩ => exact q.elim
  | .cont, ⟨_, _, _, q⟩ => exact q.elim
end My
namespace My
open PySem PySem.Spec PyProof.Rows PySem.Froz L2
/-- an iterator over a text, at its start -/
def StrIt (it : Addr) (x : Str) : HO := .ext fun h => ∃ (ty : String) (t : Tok), (ty = "str_ascii_iterator" ∨ ty = "str_iterator") ∧ h.IsStrIter it ty x t 0
theorem strIt_new {P : Program} {w : World} {H : Hp} {h : Heap} {it : Addr} {x : Str} {ty : String} {t : Tok} (hty : ty = "str_ascii_iterator" ∨ ty = "str_iterator") (st : h.IsStrIter it ty x t 0) : ObjOk P w H h it (StrIt it x) := by
  have ⟨o, ho, _⟩ := st
  refine ⟨⟨ty, t, hty, st⟩, ⟨o, ho⟩, fun h1 h2 ⟨ty', t', e, o', ho', r⟩ k => ⟨ty', t', e, o', k _ ho', r⟩⟩
/-! ### iter(text) -/
def rIterS (n : Nat) : List V → Hp → VK → Prop := fun xs H Q => ∃ x : Str, xs = [.str x] ∧ ∀ it, H it = none → n ≤ it → Q (.ref it) (upd H it (StrIt it x))
theorem call_iterS {X : Cx} : CallR X (.builtin "iter") (rIterS X.s_0.heap.objs.size) := by
  intro pins s σ H xs us Q I r h
  obtain ⟨x, rfl, q⟩ := h
  cases r with
  | cons ry rt =>
    cases rt
    obtain ⟨t, rfl⟩ := ry
    have fin : ∀ (ty : String), (ty = "str_ascii_iterator" ∨ ty = "str_iterator") → EP X pins σ Q (.ref s.heap.objs.size) { s with heap := s.heap.push { cls := .type ty, data := .fields #[.str x t, .int 0 0] } } := fun ty hty =>
      ⟨.ref _, _, I.laid (t' := s.toks) (fun b u e => Heap.get?_push_of_some _ e) (Nat.le_refl _) (strIt_new (x := x) (t := t) hty ⟨_, Heap.get?_push_size _ rfl, rfl, rfl⟩), rfl, q _ (I.hok.fresh (Nat.le_refl _)) I.sz⟩
    refine Calls.call_function_entry (by decide +kernel) (by decide +kernel) PySem.W.kdk_entry_iter (PySem.W.kdk_args_iter (.str x t)) ?_
    unfold Builtin.«iter»
    refine wpAny_bind (m := someArgs "iter" 1 2 _) (wpAny_of_eq (a := [Value.str x t]) (by first | rfl | kernel_rfl!) ?_)
    show wpAny _ _ (pyIter (.str x t) >>= _) _ _ s
    cases ha : x.cps.all (· < 128)
    · exact wpAny_bind (wpAny_pyIter_wide ha (wpAny_pure ⟨_, rfl, fin _ (.inr rfl)⟩))
    · exact wpAny_bind (wpAny_pyIter_ascii ha (wpAny_pure ⟨_, rfl, fin _ (.inl rfl)⟩))
/-! ### for over an own class whose __iter__ gives an iterator over a text -/
/-- what the def at f does at one entry: a new iterator over the text of the instance, everything else kept -/
def IterOk (P : Program) (w : World) (K : PySem.W.Frag) (mg : Str → Option Value) (base : Heap) (k : Nat) (C f : Addr) (S : Hp → Addr → Str → Prop) : Prop :=
  ∀ (A : Around) (outer : List Env) (s : Shared) (H : Hp) (a : Addr) (x : Str), Room k A → Env0 P w K mg base A outer s H → S H a x →
    codeAny (model P w) A (.call (.ref f) ⟨[.ref a], []⟩) (CR CX0 outer P w H s (fun v H' => ∃ it, v = .ref it ∧ H it = none ∧ s.heap.objs.size ≤ it ∧ H' = upd H it (StrIt it x)) E0) s
def iOwn (C : Addr) (S : Hp → Addr → Str → Prop) (te : TE) : TI := fun σ H R => te σ H fun v H1 => ∃ a dx fs x, v = .ref a ∧ H1 a = some (.ins C dx fs) ∧ S H1 a x ∧ R (Its x) H1
theorem pi_own {X : Cx} {k : Nat} {C f : Addr} {S : Hp → Addr → Str → Prop} {tg e : Expr} {te : TE} (he : PE X e te) (hit : IterOk X.prog X.w X.K X.mg X.base k C f S) (hr : Room k X.A) (hs : PySem.W.findIn X.K (.ref C) "__iter__" = some (some (.ref f)))
    (hf : PySem.W.isFn X.K (.ref f) = true) (hx : Passes CX0 X E0) : PI X tg e (iOwn C S te) := by
  refine ⟨fun pins s σ H R I h => ?_⟩
  refine thn (he.run pins s σ H _ I h) fun v s1 ⟨y, H1, I1, r1, a, dx, fs, x, ey, ha, hS, q⟩ => ?_
  subst ey
  cases r1
  obtain ⟨mA, J, _⟩ := ins_get I1.hok ha
  obtain ⟨od, J, _⟩ := J.look
  obtain ⟨m, hF⟩ := I1.fr
  refine PySem.W.owit_iter hF I1.ok.mod.kin J hs hf (wpAny_call (codeAny_mono (hit X.A X.stack s1 H1 a x hr I1.env0 hS) fun r s' hq => ?_))
  cases r with
  | error er => exact hx pins σ H1 s1 er s' I1 hq
  | ok fl =>
    cases fl with
    | ret u =>
      obtain ⟨v, H', I3, rv, it, rfl, hn, hsz, rfl⟩ := I1.after hq
      cases rv
      obtain ⟨⟨ty, t, hty, st⟩, _⟩ := I3.hok it _ upd_same
      have I4 := ItX.inv_drop I3 (a := it) upd_same
      have fp := ItX.inv_fp I3 (a := it) upd_same (Nat.le_trans I1.sz hsz)
      rw [ItX.dropH_upd hn] at I4 fp
      have pie : PIE X pins σ tg R (.ref it) s' := ⟨it, [it], _, _, H1, rfl, I4, turn_str it x t ty hty, st, fun b hb => by rw [List.mem_singleton.mp hb]; exact fp, q⟩
      have hT : s'.TypeIs (.ref it) ty := by
        obtain ⟨o, ho, c, _⟩ := st
        exact ⟨o, ho, c⟩
      unfold PySem.W.OwitIt
      rcases hty with rfl | rfl
      · exact wpAny_specialOf (name := Str.ofString "__next__") hT PySem.F.slot_str_ascii_iterator_next.lookup pie
      · exact wpAny_specialOf (name := Str.ofString "__next__") hT PySem.F.slot_str_iterator_next.lookup pie
    | next => exact False.elim hq
    | brk => exact False.elim hq
    | cont => exact False.elim hq
end My
namespace My
open PySem PySem.Spec PyProof.Rows PySem.Froz L2
/-! ### C.m(..), m a staticmethod of the class at C -/
structure SMet (K : PySem.W.Frag) (C : Addr) (mc : Value) (m : Str) (p g : Addr) : Prop where
  at_ : PySem.W.findCls K (.ref C) mc m = some (.get (.builtin "staticmethod.__get__") (.ref p) .none (.ref C))
  rc : ∃ rest, PySem.W.recIn K p "staticmethod" = some (.ref g :: rest)
  kp : PySem.W.keepIn K (.ref g) = true
  hd : PySem.W.handedIn (.ref g) = true
def tSMeth (C : Addr) (sp : Sp) (E : XK) (ta : TE) (t : TA) : TE := fun σ H Q => ta σ H fun x H1 => x = .ref C ∧ t σ H1 fun vs H2 => sp vs H2 Q E
section
variable {X : Cx} {CX : CXT} {k : Nat} {C p g : Addr} {mc : Value} {fd : FuncData} {ps : List Str} {sp : Sp} {E : XK} {o e : Expr} {es : List Expr} {m : Str} {pos apos : Pos} {ta : TE} {t : TA} {pl : Sem Bool}
theorem pe_smeth (he : PE X o ta) (r : ClX.CRead X.K C mc) (c : SMet X.K C mc m p g) (F : FnOk X.prog X.w X.K X.mg X.base CX k g fd ps sp) (hr : Room k X.A) (hb : Binds X.K fd ps []) (hx : Passes CX X E) (ha : PA X (e :: es) t)
    (hst : starEach (e :: es) X.env = (false, eval e X.env) :: starEach es X.env := by rfl) (hpl : (backTo pos (starEach es X.env)).any (·.1) = false := by rfl)
    (ht : eval (.Call (.Attribute o m apos) (e :: es) [] pos) X.env = (do
      let ov ← eval o X.env
      standAt apos.atName
      let (f, first) ← holding [ov] (getMethod ov m pl)
      callWith pos f first (backTo pos (starEach (e :: es) X.env)) (backToKw pos (keywordEach [] X.env))) := by rfl) :
    PE X (.Call (.Attribute o m apos) (e :: es) [] pos) (tSMeth C sp E ta t) := by
  constructor
  intro pins s σ H Q I h
  refine PySem.W.methodCall_KW (pl := pl) (thn (he.run pins s σ H _ I h) fun u s1 ⟨x, H1, I1, rx, ex, q⟩ => ?_) ht
  subst ex
  cases (show u = Value.ref C from rx)
  obtain ⟨rest, hp⟩ := c.rc
  have I2 : Inv X pins σ H1 { s1 with toks := s1.toks + 1 } := I1.tok _
  refine PySem.W.method_cls I1.kIn r.ga (PySem.W.cls_bind I1.kIn r.rd c.at_ (wpAny_call (PySem.W.sm_get (s := { s1 with toks := s1.toks + 1 }) I1.kIn hp (PySem.W.handed_on c.hd ?_))))
  refine PySem.W.callWith_K (h₀ := X.base) I2.ok.mod.kin c.kp (thn (ha.run pos pins _ σ H1 _ I2 q) fun us s2 ⟨vs, H2, I3, rv, q2⟩ => ⟨I3.kIn, ?_⟩) hst hpl
  exact run_fn F hr hb .nil hx I3 rv (by rw [List.append_nil]; exact q2)
end
end My
namespace My
open PySem PySem.Spec PyProof.Rows PySem.Froz L2
/-! ### list(a), a an instance with __len__ and with an __iter__ that gives an iterator over a text -/
def signV (x : Str) : List V := x.cps.toList.map fun c => V.str ⟨#[c]⟩
theorem line20' {n : Nat} (h : n ≤ 20000) : n ≤ sizeLine := Nat.le_trans h (by decide)
theorem signV_at {x : Str} {i : Nat} {c : Nat} (h : x.cps[i]? = some c) : (signV x).take (i + 1) = (signV x).take i ++ [V.str ⟨#[c]⟩] := by
  have e : (signV x)[i]? = some (V.str ⟨#[c]⟩) := by
    unfold signV
    rw [List.getElem?_map, Array.getElem?_toList, h]
    rfl
  rw [List.take_add_one, e]
  rfl
section
variable {X : Cx} {pins : List (Addr × Obj)} {σ : L2.St} {s : Shared} {q it : Addr} {x : Str} {ty : String} {t : Tok} {A1 : Around} {Rs : Result → Shared → Prop}
theorem sgs_loop (hty : ty = "str_ascii_iterator" ∨ ty = "str_iterator") (hh : A1.in1.handled = none) (hx : x.length ≤ 1000)
    (H0 : Hp) (hne : q ≠ it) (hH0 : H0 it = none)
    (hfin : ∀ s, L2.Inv X pins σ (upd H0 q (.lst (signV x))) s → Rs (.ok (.ret .none)) s) :
    ∀ (k i : Nat) (s : Shared), x.cps.size - i = k → i ≤ x.cps.size → L2.Inv X pins σ (upd H0 q (.lst ((signV x).take i))) s → FpOk X pins (upd H0 q (.lst ((signV x).take i))) it → s.heap.IsStrIter it ty x t i →
      codeAny (model X.prog X.w) A1 (.builtin "list.extend.loop" ⟨[.ref q, .ref it, .none], []⟩) Rs s := by
  have W : Walks X.prog X.w A1.in1 it [it] [it] x.cps.size (SignAt x) (fun i h => h.IsStrIter it ty x t i) := by
    rcases hty with e | e
    · rw [e]; exact Walks.strAscii hh it x t
    · rw [e]; exact Walks.strWide hh it x t
  intro k
  induction k with
  | zero =>
    intro i s hk hi I fp st
    have ei : i = x.cps.size := by omega
    subst ei
    refine codeAny_builtin PySem.F.entry_extend_loop ?_
    rw [Around.under_plainId PySem.F.plain_extend_loop _]
    show wpAny _ A1.in1 (pyNext (.ref it) >>= _) _ _ s
    refine wpAny_bind (W.done s _ _ st fun h' tk kk => wpAny_pure (hfin _ ?_))
    have e : (signV x).take x.cps.size = signV x := by
      rw [List.take_of_length_le]
      unfold signV
      simp
    rw [e] at I fp
    obtain ⟨f0, f1, f2, f3, f4, f5⟩ := fp
    exact I.turned (fun b o hb e => kk b o (by simpa using hb) e) f0 f1 f3 f4 f5
  | succ k ih =>
    intro i s hk hi I fp st
    have hlt : i < x.cps.size := by omega
    refine codeAny_builtin PySem.F.entry_extend_loop ?_
    rw [Around.under_plainId PySem.F.plain_extend_loop _]
    show wpAny _ A1.in1 (pyNext (.ref it) >>= _) _ _ s
    refine wpAny_bind (W.item i s _ _ hlt st fun v h' tk hv st' kk => ?_)
    obtain ⟨c, u, hc, rfl⟩ := hv
    obtain ⟨f0, f1, f2, f3, f4, f5⟩ := fp
    have I1 : L2.Inv X pins σ (upd H0 q (.lst ((signV x).take i))) { s with heap := h', toks := tk } := I.turned (fun b o hb e => kk b o (by simpa using hb) e) f0 f1 f3 f4 f5
    obtain ⟨z, its, k2, r2, hl, e⟩ := I1.lstM upd_same
    have lz : ((signV x).take i).length ≤ 1000 := by
      rw [List.length_take]
      unfold signV
      rw [List.length_map]
      have : x.cps.toList.length = x.length := by simp [Str.length]
      omega
    have hs : (1000 : Nat) + 1 ≤ sizeLine := line20' (by decide)
    show wpAny _ A1.in1 (updateSeq q (·.push (.str ⟨#[c]⟩ u)) >>= _) _ _ _
    refine wpAny_bind (wpAny_updateSeq e rfl (wpAny_pure ⟨plainId_quiet PySem.F.plain_extend_loop _, ?_⟩) (by rw [List.size_toArray]; omega) (by show (its.toArray.push (.str ⟨#[c]⟩ u)).size ≤ sizeLine + 1; rw [Array.size_push, List.size_toArray]; omega))
    have I2 := I1.lset (its' := its ++ [.str ⟨#[c]⟩ u]) (f := (·.push (.str ⟨#[c]⟩ u))) (t' := tk) upd_same e (by simp) (r2.append (.cons (show RelV (V.str ⟨#[c]⟩) (.str ⟨#[c]⟩ u) from ⟨u, rfl⟩) .nil)) (by rw [List.length_append, List.length_singleton]; omega)
    rw [L2.upd_upd, ← signV_at hc] at I2
    refine ih (i + 1) _ (by omega) (by omega) I2 ⟨?_, f1, f2, f3, f4, f5⟩ ?_
    · rw [upd_ne hne.symm]; exact hH0
    · obtain ⟨o, ho, r⟩ := st'
      exact ⟨o, (Heap.get?_update_other _ _ hne).trans ho, r⟩
end
section
variable {X : Cx} {pins : List (Addr × Obj)} {σ : L2.St} {H : Hp} {s : Shared} {a : Addr} {x : Str} {A : Around} {kL : Nat} {C fL : Addr} {fdL : FuncData} {psL : List Str} {spL : Sp}
/-- the hint of an instance with an own __len__ -/
theorem sgs_hint (sb : Sub X kL A.in1) (FL : FnOk X.prog X.w X.K X.mg X.base CX0 kL fL fdL psL spL) (hsL : PySem.W.findIn X.K (.ref C) "__len__" = some (some (.ref fL))) (hfL : PySem.W.isFn X.K (.ref fL) = true) (bL : Binds X.K fdL psL []) (hx : Passes CX0 X E0)
    (I : L2.Inv X pins σ H s) {dx : Addr} {fs : List (Str × V)} (ha : H a = some (.ins C dx fs)) (hl : x.length ≤ 1000) (hsp : spL [.ref a] H (fun v H' => v = .int (x.length : Nat) ∧ H' = H) E0) {Q : Bool → Shared → Prop} {E : Value → Shared → Prop}
    (hQ : ∀ b s', L2.Inv X pins σ H s' → Q b s') : wpAny (model X.prog X.w) A (Builtin.List.listLengthHint (.ref a)) Q E s := by
  obtain ⟨mA, J, _⟩ := ins_get I.hok ha
  obtain ⟨od, J, _⟩ := J.look
  obtain ⟨m, hF⟩ := I.fr
  unfold Builtin.List.listLengthHint
  refine wpAny_bind (wpAny_bind (J.type.here ((PySem.W.looks_findIn I.kIn hsL).here ?_)))
  refine PySem.W.KFB.if_not rfl ?_
  refine PySem.W.KFB.if_so rfl ?_
  refine wpAny_bind (wpAny_rule ?_)
  have len := FL.len _ _ _ _ hsp
  have e0 : Env0 X.prog X.w X.K X.mg X.base A.in1 X.stack s H := by
    have e := I.env0
    exact ⟨by rw [sb.fr]; exact e.frames, e.mod, e.bs, e.bsz, e.funs, e.frf, e.hok, e.bare⟩
  refine wpAny_bind (wpAny_attempt (PySem.W.len_K hF I.ok.mod.kin J hsL hfL (wpAny_call (codeAny_mono (FL.run A.in1 X.stack s H ⟨[.ref a], []⟩ [.ref a] [.ref a] _ E0 sb.room e0 (bL s [.ref a] I.kIn (by simpa using len)) (.cons rfl .nil) hsp) fun r s' hq => ?_))))
  cases r with
  | error e => exact hq.elim
  | ok fl =>
    cases fl with
    | ret u =>
      obtain ⟨v, H', I3, rv, ev, eH⟩ := I.after hq
      subst ev eH
      obtain ⟨t, rfl⟩ := rv
      refine ⟨⟨by omega, by omega⟩, ?_⟩
      refine wpAny_bind (wpAny_pure ?_)
      have hz : (((x.length : Nat) : Int).toNat) ≤ sizeLine := line20' (by omega)
      refine PySem.W.KFB.if_not (notLongL hz) (wpAny_pure (hQ _ _ (I3.tok _)))
    | next => exact False.elim hq
    | brk => exact False.elim hq
    | cont => exact False.elim hq
theorem upd_self {H : Hp} {q : Addr} {o : HO} (h : H q = some o) : upd H q o = H := by
  funext b
  by_cases hb : b = q
  · rw [hb, upd_same, h]
  · rw [upd_ne hb]
theorem sgs_extend {n kI : Nat} {fI q dx : Addr} {fs : List (Str × V)} {S : Hp → Addr → Str → Prop} {A1 : Around} {Rs : Result → Shared → Prop} (hc : X.calm = true) (hA : A1.in1.handled = none) (sb : L2.Sub X n A1.in1) (nI : kI ≤ n) (nL : kL + 1 ≤ n) (hit : IterOk X.prog X.w X.K X.mg X.base kI C fI S)
    (hsI : PySem.W.findIn X.K (.ref C) "__iter__" = some (some (.ref fI))) (hfI : PySem.W.isFn X.K (.ref fI) = true)
    (FL : FnOk X.prog X.w X.K X.mg X.base CX0 kL fL fdL psL spL) (hsL : PySem.W.findIn X.K (.ref C) "__len__" = some (some (.ref fL))) (hfL : PySem.W.isFn X.K (.ref fL) = true) (bL : Binds X.K fdL psL []) (hx : Passes CX0 X E0)
    (I : L2.Inv X pins σ H s) (ha : H a = some (.ins C dx fs)) (hq : H q = some (.lst [])) (hS : S H a x) (hl : x.length ≤ 1000) (hsp : ∀ H', Same H H' → spL [.ref a] H' (fun v H2 => v = .int (x.length : Nat) ∧ H2 = H') E0)
    (hfin : ∀ s, L2.Inv X pins σ (upd H q (.lst (signV x))) s → Rs (.ok (.ret .none)) s) (herr : ∀ e s, X.xe e s → Rs (.error e) s) :
    wpAny (model X.prog X.w) A1.in1 (Builtin.List.listExtendWith (.ref q) (.ref a) .none)
      (fun fin s' => match fin with | .done f => Rs (.ok f) s' | .again c' => c'.quiet = true ∧ codeAny (model X.prog X.w) A1 c' Rs s') (fun e s' => Rs (.error e) s') s := by
  have hne : q ≠ a := ne_of hq ha (fun z => nomatch z)
  obtain ⟨mA, J, _⟩ := ins_get I.hok ha
  obtain ⟨od, J, _⟩ := J.look
  obtain ⟨m0, hF⟩ := I.fr
  unfold Builtin.List.listExtendWith
  refine wpAny_bind (J.type.here ?_)
  have h1 : Builtin.List.listSameRef (.ref q) (.ref a) = false := by simp [Builtin.List.listSameRef, hne]
  have h2 : (Value.ref C == Value.type "list") = false := rfl
  have h3 : (Value.ref C == Value.type "tuple") = false := rfl
  simp only [h1, h2, h3, Bool.or_false, Bool.false_eq_true, if_false]
  have e0 : Env0 X.prog X.w X.K X.mg X.base A1.in1 X.stack s H := by
    have e := I.env0
    exact ⟨by rw [sb.fr]; exact e.frames, e.mod, e.bs, e.bsz, e.funs, e.frf, e.hok, e.bare⟩
  refine wpAny_bind (PySem.W.owit_iter hF I.ok.mod.kin J hsI hfI (wpAny_call (codeAny_mono (hit A1.in1 X.stack s H a x (sb.mono nI).room e0 hS) fun r s' hq' => ?_)))
  cases r with
  | error er => exact hq'.elim
  | ok fl =>
    cases fl with
    | next => exact False.elim hq'
    | brk => exact False.elim hq'
    | cont => exact False.elim hq'
    | ret u =>
      obtain ⟨v, H', I3, rv, it, rfl, hn, hsz, rfl⟩ := I.after hq'
      cases rv
      have hsz0 : X.s_0.heap.objs.size ≤ it := Nat.le_trans I.sz hsz
      have hqi : q ≠ it := fun z => by rw [z, hn] at hq; cases hq
      have hai : a ≠ it := fun z => by rw [z, hn] at ha; cases ha
      obtain ⟨⟨ty, t, hty, st⟩, _⟩ := I3.hok it _ upd_same
      have hT : s'.TypeIs (.ref it) ty := by
        obtain ⟨o, ho, c, _⟩ := st
        exact ⟨o, ho, c⟩
      unfold PySem.W.OwitIt
      rcases hty with rfl | rfl
      · refine wpAny_specialOf (name := Str.ofString "__next__") hT PySem.F.slot_str_ascii_iterator_next.lookup ?_
        refine wpAny_bind (wpAny_holding (sgs_hint (C := C) (sb.mono nL).in1 FL hsL hfL bL hx I3 (by rw [upd_ne hai]; exact ha) hl (hsp _ (fun b o e => by rw [upd_ne (ne_of_none e hn)]; exact e)) fun b s2 I4 => ?_))
        obtain ⟨⟨ty2, t2, hty2, st2⟩, _⟩ := I4.hok it _ upd_same
        have I5 := ItX.inv_drop I4 (a := it) upd_same
        have fp := ItX.inv_fp I4 (a := it) upd_same hsz0
        rw [ItX.dropH_upd hn] at I5 fp
        have go : ∀ s3, L2.Inv X pins σ H s3 → s3.heap.IsStrIter it ty2 x t2 0 → codeAny (model X.prog X.w) A1 (.builtin "list.extend.loop" ⟨[.ref q, .ref it, .none], []⟩) Rs s3 := by
          intro s3 I6 st3
          have e : upd H q (.lst ((signV x).take 0)) = H := upd_self hq
          exact sgs_loop hty2 hA hl H hqi hn hfin x.cps.size 0 s3 (by omega) (Nat.zero_le _) (by rw [e]; exact I6) (by rw [e]; exact fp) st3
        obtain ⟨z, its, k, r3, hl3, e3⟩ := I5.lstM hq
        cases r3
        refine wpAny_ite_split (fun _ => ?_) (fun _ => wpAny_pure ⟨plainId_quiet PySem.F.plain_extend_loop _, go _ I5 st2⟩)
        refine wpAny_bind (wpAny_rule ?_)
        refine wpAny_bind ?_
        show wpAny _ _ (updateSeq q (·.push .none) >>= fun _ => updateSeq q (·.pop)) _ _ _
        refine wpAny_bind (wpAny_updateSeq e3 rfl ?_)
        have I7 := I5.lset (f := (·.push Value.none)) (its' := [Value.none]) (ys := [.non]) (t' := s2.toks) hq e3 (by simp) (.cons rfl .nil) (by rw [List.length_singleton]; exact line20' (by decide))
        obtain ⟨z4, its4, k4, r4, hl4, e4⟩ := I7.lstM upd_same
        obtain ⟨u4, rfl, ru4⟩ := r4.one
        refine wpAny_updateSeq e4 rfl ?_ (by show 1 ≤ sizeLine; exact line20' (by decide)) (by show 0 ≤ sizeLine + 1; exact Nat.zero_le _)
        have I8 := I7.lset (f := (·.pop)) (its := [u4]) (its' := []) (ys := []) (t' := s2.toks) upd_same e4 (by rfl) .nil (Nat.zero_le _)
        rw [L2.upd_upd, upd_self hq] at I8
        refine wpAny_pure ⟨plainId_quiet PySem.F.plain_extend_loop _, go _ I8 ?_⟩
        obtain ⟨o, ho, r⟩ := st2
        exact ⟨o, (Heap.get?_update_other _ _ hqi).trans ((Heap.get?_update_other _ _ hqi).trans ho), r⟩
      · refine wpAny_specialOf (name := Str.ofString "__next__") hT PySem.F.slot_str_iterator_next.lookup ?_
        refine wpAny_bind (wpAny_holding (sgs_hint (C := C) (sb.mono nL).in1 FL hsL hfL bL hx I3 (by rw [upd_ne hai]; exact ha) hl (hsp _ (fun b o e => by rw [upd_ne (ne_of_none e hn)]; exact e)) fun b s2 I4 => ?_))
        obtain ⟨⟨ty2, t2, hty2, st2⟩, _⟩ := I4.hok it _ upd_same
        have I5 := ItX.inv_drop I4 (a := it) upd_same
        have fp := ItX.inv_fp I4 (a := it) upd_same hsz0
        rw [ItX.dropH_upd hn] at I5 fp
        have go : ∀ s3, L2.Inv X pins σ H s3 → s3.heap.IsStrIter it ty2 x t2 0 → codeAny (model X.prog X.w) A1 (.builtin "list.extend.loop" ⟨[.ref q, .ref it, .none], []⟩) Rs s3 := by
          intro s3 I6 st3
          have e : upd H q (.lst ((signV x).take 0)) = H := upd_self hq
          exact sgs_loop hty2 hA hl H hqi hn hfin x.cps.size 0 s3 (by omega) (Nat.zero_le _) (by rw [e]; exact I6) (by rw [e]; exact fp) st3
        obtain ⟨z, its, k, r3, hl3, e3⟩ := I5.lstM hq
        cases r3
        refine wpAny_ite_split (fun _ => ?_) (fun _ => wpAny_pure ⟨plainId_quiet PySem.F.plain_extend_loop _, go _ I5 st2⟩)
        refine wpAny_bind (wpAny_rule ?_)
        refine wpAny_bind ?_
        show wpAny _ _ (updateSeq q (·.push .none) >>= fun _ => updateSeq q (·.pop)) _ _ _
        refine wpAny_bind (wpAny_updateSeq e3 rfl ?_)
        have I7 := I5.lset (f := (·.push Value.none)) (its' := [Value.none]) (ys := [.non]) (t' := s2.toks) hq e3 (by simp) (.cons rfl .nil) (by rw [List.length_singleton]; exact line20' (by decide))
        obtain ⟨z4, its4, k4, r4, hl4, e4⟩ := I7.lstM upd_same
        obtain ⟨u4, rfl, ru4⟩ := r4.one
        refine wpAny_updateSeq e4 rfl ?_ (by show 1 ≤ sizeLine; exact line20' (by decide)) (by show 0 ≤ sizeLine + 1; exact Nat.zero_le _)
        have I8 := I7.lset (f := (·.pop)) (its := [u4]) (its' := []) (ys := []) (t' := s2.toks) upd_same e4 (by rfl) .nil (Nat.zero_le _)
        rw [L2.upd_upd, upd_self hq] at I8
        refine wpAny_pure ⟨plainId_quiet PySem.F.plain_extend_loop _, go _ I8 ?_⟩
        obtain ⟨o, ho, r⟩ := st2
        exact ⟨o, (Heap.get?_update_other _ _ hqi).trans ((Heap.get?_update_other _ _ hqi).trans ho), r⟩
/-- list(a) -/
def rListSgs (C : Addr) (S : Hp → Addr → Str → Prop) : List V → Hp → VK → Prop := fun xs H Q => ∃ a dx fs x, xs = [.ref a] ∧ H a = some (.ins C dx fs) ∧ S H a x ∧ x.length ≤ 1000 ∧ ∀ q, H q = none → Q (.ref q) (upd H q (.lst (signV x)))
theorem call_listSgs {n kI : Nat} {fI : Addr} {S : Hp → Addr → Str → Prop} (hc : X.calm = true) (nI : kI ≤ n) (nL : kL + 1 ≤ n) (hr : Room (n + 2) X.A) (hit : IterOk X.prog X.w X.K X.mg X.base kI C fI S) (mono : ∀ H H' a x, S H a x → Same H H' → S H' a x)
    (hsI : PySem.W.findIn X.K (.ref C) "__iter__" = some (some (.ref fI))) (hfI : PySem.W.isFn X.K (.ref fI) = true)
    (FL : FnOk X.prog X.w X.K X.mg X.base CX0 kL fL fdL psL spL) (hsL : PySem.W.findIn X.K (.ref C) "__len__" = some (some (.ref fL))) (hfL : PySem.W.isFn X.K (.ref fL) = true) (bL : Binds X.K fdL psL []) (hx : Passes CX0 X E0)
    (hsp : ∀ H a x, S H a x → x.length ≤ 1000 → spL [.ref a] H (fun v H2 => v = .int (x.length : Nat) ∧ H2 = H) E0) : CallR X (.type "list") (rListSgs C S) := by
  intro pins s σ H xs us Q I rv h
  obtain ⟨a, dx, fs, x, rfl, ha, hS, hl, hq⟩ := h
  obtain ⟨u, rfl, ru⟩ := rv.one
  cases ru
  have sb : L2.Sub X n X.A.in1.in1 := L2.Sub.in1 (L2.Sub.in1 ⟨hr, rfl⟩)
  apply callType_codes (Q₁ := fun obj s₁ => obj = .ref s.heap.objs.size ∧ s₁ = { s with heap := s.heap.push { cls := .type "list", data := .seq #[] } }) PySem.F.called_list (PySem.F.typeCall_list_1 _) PySem.F.entry_list_init (code_list_new _ ⟨rfl, rfl⟩)
  rintro obj s₁ ⟨rfl, rfl⟩
  have hN : (s.heap.push { cls := .type "list", data := .seq #[] }).get? s.heap.objs.size = some { cls := .type "list", data := .seq #[] } := Heap.get?_push_size _ rfl
  refine ⟨⟨_, hN, rfl⟩, PySem.F.args_list_init_2 _ _, ?_⟩
  have fr : H s.heap.objs.size = none := I.fresh
  have I1 : L2.Inv X pins σ (upd H s.heap.objs.size (.lst [])) { s with heap := s.heap.push { cls := .type "list", data := .seq #[] } } := I.lnew (its := []) (t' := s.toks) .nil (Nat.zero_le _)
  show wpAny _ _ (Builtin.List.listItems (.ref s.heap.objs.size) >>= fun old => Builtin.List.listUpdate (.ref s.heap.objs.size) (fun _ => #[]) >>= fun _ => letGo old.toList.reverse >>= fun _ => Builtin.List.listExtendWith (.ref s.heap.objs.size) (.ref a) .none) _ _ _
  apply wpAny_bind
  unfold Builtin.List.listItems
  apply wpAny_bind
  apply wpAny_seqItems hN rfl
  apply wpAny_pure
  show wpAny _ _ (updateSeq s.heap.objs.size (fun _ => #[]) >>= fun _ => letGo (#[] : Array Value).toList.reverse >>= fun _ => Builtin.List.listExtendWith (.ref s.heap.objs.size) (.ref a) .none) _ _ _
  apply wpAny_bind
  apply wpAny_updateSeq hN rfl
  have I2 := I1.lset (f := fun _ => #[]) (its := []) (its' := []) (ys := []) (t' := s.toks) upd_same hN rfl .nil (Nat.zero_le _)
  rw [L2.upd_upd] at I2
  apply wpAny_bind
  apply wpAny_letGo
  have sm : Same H (upd H s.heap.objs.size (.lst [])) := fun b o e => by rw [upd_ne (ne_of_none e fr)]; exact e
  refine sgs_extend (A1 := X.A.in1) (Rs := wants (fun r s₂ => r = .none ∧ EP X pins σ Q (.ref s.heap.objs.size) s₂) X.xe) hc (I.ok.hd hc) sb nI nL hit hsI hfI FL hsL hfL bL hx I2 (sm _ _ ha) upd_same (mono _ _ _ _ hS sm) hl (fun H' s' => hsp _ _ _ (mono _ _ _ _ hS (sm.trans s')) hl) (fun s3 I3 => ?_) (fun e s' he => he)
  rw [L2.upd_upd] at I3
  exact ⟨rfl, .ref s.heap.objs.size, _, I3, rfl, hq _ fr⟩
end
end My
namespace My
open PySem PySem.Spec PyProof.Rows L2
/-- statements that are never reached -/
theorem pss_no {X : Cx} {ss : List Stmt} : PSs X ss (fun _ _ _ => False) := ⟨fun _ _ _ _ _ _ h => h.elim⟩
/-- a dict of the module: texts at texts -/
structure KTab (K : PySem.W.Frag) (w : World) (d : Addr) (kvs : List (Str × Str)) : Prop where
  ex : ∃ es n, KDict K w d es n
  look : ∀ z, ∃ r, PySem.W.nsIn K d z = some r ∧ (match kvs.lookup z with | some x => ∃ t, r = some (Value.str x t) | none => r = none)
def ktAt (kvs : List (Str × Str)) (k : Str) (z : V) : V := match kvs.lookup k with | some x => .str x | none => z
def tKGet (d : Addr) (kvs : List (Str × Str)) (td ty tx : TE) : TE := fun σ H Q => td σ H fun x H1 => x = .ref d ∧ ty σ H1 fun y H2 => tx σ H2 fun z H3 => ∃ k, y = .str k ∧ Q (ktAt kvs k z) H3
section
variable {X : Cx} {o e f : Expr} {apos cpos : Pos} {td ty tx : TE} {d : Addr} {kvs : List (Str × Str)}
theorem pe_kget (D : KTab X.K X.w d kvs) (ho : PE X o td) (he : PE X e ty) (hf : PE X f tx) (m : M2 X o "get" apos e f cpos) : PE X (.Call (.Attribute o "get" apos) [e, f] [] cpos) (tKGet d kvs td ty tx) := by
  refine ⟨fun pins s σ H Q I h => ?_⟩
  obtain ⟨es, n, KD⟩ := D.ex
  refine wpAny_Call_method m.base m.few m.line PySem.F.plainAttrs_dict PySem.F.slot_dict_get PySem.F.type_dict_get (thn (ho.run pins s σ H _ I h) fun u s1 ⟨x, H1, I1, rx, ex, q1⟩ => ?_)
  subst ex
  obtain rfl : u = Value.ref d := rx
  refine ⟨kd_type KD I1, fun b q => ?_, ?_⟩
  · cases q
    exact ⟨_, I1.kIn _ _ KD.at_, rfl⟩
  rw [m.trees]
  refine Calls.callWith_builtin rfl (Calls.evalArgs_plain (Calls.spliced_cons (thn (he.run pins s1 σ H1 _ I1 q1) fun iv s2 ⟨y, H2, I2, ry, q2⟩ =>
    Calls.spliced_cons (thn (hf.run pins s2 σ H2 _ I2 q2) fun fv s3 ⟨z, H3, I3, rz, k, ek, q3⟩ => Calls.spliced_nil ?_))))
  subst ek
  obtain ⟨t, rfl⟩ := ry
  obtain ⟨r, er, hr⟩ := D.look k
  have mp := PySem.W.mapOf_K (prog := X.prog) (w := X.w) I3.kIn KD.at_ KD.lit
  refine call_meetsIn PySem.F.slot_dict_get mp.typeIs PySem.F.entry_dict_get (PySem.F.args_dict_get_3 _ _ _) (meets_dict_get_default (strKind X.prog X.w) d (strKind_is X.prog X.w k t) KD.low _) ⟨_, mp, ?_⟩
  rw [PySem.W.find_K KD.at_ er]
  unfold ktAt at q3
  cases hl : kvs.lookup k with
  | none =>
    rw [hl] at hr q3
    subst hr
    exact ⟨_, H3, I3.tok _, rz, q3⟩
  | some x =>
    rw [hl] at hr q3
    obtain ⟨t2, rfl⟩ := hr
    exact ⟨.str x, H3, I3.tok _, ⟨t2, rfl⟩, q3⟩
end
theorem kt_two {K : PySem.W.Frag} {w : World} {d : Addr} {k1 x1 k2 x2 : Str} {t1 t2 u1 u2 : Tok} {h1 h2 : Int} {n : Nat} (l : K.lookup d = some ⟨.type "dict", none, .dict #[⟨h1, .str k1 t1, .str x1 u1⟩, ⟨h2, .str k2 t2, .str x2 u2⟩] n, #[]⟩)
    (e1 : h1 = PyData.keyHash w.params k1) (e2 : h2 = PyData.keyHash w.params k2) (lo : (d == sysModules) = false) : KTab K w d [(k1, x1), (k2, x2)] := by
  refine ⟨⟨_, _, l, ⟨⟨_, _, rfl, e1⟩, ⟨_, _, rfl, e2⟩, trivial⟩, lo⟩, fun z => ?_⟩
  unfold PySem.W.nsIn
  rw [l]
  dsimp only
  by_cases q1 : z = k1
  · subst q1
    have c1 : (Value.str z t1).isStr z = true := by simp [Value.isStr]
    refine ⟨_, by rw [List.find?_cons_of_pos (by exact c1)], ?_⟩
    rw [List.lookup_cons, beq_self_eq_true]
    exact ⟨_, rfl⟩
  · have c1 : ¬ (Value.str k1 t1).isStr z = true := by simp [Value.isStr]; exact fun e => q1 e.symm
    have b1 : (z == k1) = false := by
      cases h : z == k1 with
      | false => rfl
      | true => exact absurd (eq_of_beq h) q1
    rw [List.find?_cons_of_neg (by exact c1)]
    rw [List.lookup_cons, b1]
    by_cases q2 : z = k2
    · subst q2
      have c2 : (Value.str z t2).isStr z = true := by simp [Value.isStr]
      refine ⟨_, by rw [List.find?_cons_of_pos (by exact c2)], ?_⟩
      dsimp only
      rw [List.lookup_cons, beq_self_eq_true]
      exact ⟨_, rfl⟩
    · have c2 : ¬ (Value.str k2 t2).isStr z = true := by simp [Value.isStr]; exact fun e => q2 e.symm
      have b2 : (z == k2) = false := by
        cases h : z == k2 with
        | false => rfl
        | true => exact absurd (eq_of_beq h) q2
      rw [List.find?_cons_of_neg (by exact c2)]
      dsimp only
      rw [List.lookup_cons, b2]
      exact ⟨_, rfl, rfl⟩
end My
namespace My
open PySem L2
theorem c_nl : Str.ofString "\n" = tx [10] := by decide +kernel
def EN : List Nat := [9, 32, 33, 36, 38, 47, 48, 57, 58, 64, 65, 90, 91, 94, 95, 96, 97, 122, 123, 126]
theorem c_ends : Str.ofString "\t !$&/09:@AZ[^_`az{~" = tx EN := by decide +kernel
theorem one_of {c : Nat} {r : List Nat} (h : (c :: r).length ≤ 1) : r = [] := by
  cases r with
  | nil => rfl
  | cons a r => simp at h
end My
namespace My
open PySem L2
/-- a list whose items are made of other things -/
theorem reg_map {α : Type} (K : PySem.W.Frag) (a : Addr) (F : α → V) (xs : List α) : Reg (Itl K a) xs F (fun H => SqL K H a (xs.map F)) := by
  refine ⟨fun i H h hq => ⟨xs.map F, F xs[i], hq, by simp [h]⟩, fun i H h hq => ⟨xs.map F, hq, by rw [List.length_map]; exact h⟩, fun i v H x H' h hq hy => ?_⟩
  obtain ⟨rfl, f⟩ := hy
  have := f _ hq
  rw [List.getElem?_map, h] at this
  exact ⟨rfl, (Option.some.inj this).symm⟩
theorem filter_yes {α : Type} (l : List α) : (l.filter fun _ => true) = l := List.filter_eq_self.mpr fun _ _ => rfl
theorem asc_getD {l : List Nat} (h : l.Pairwise (· < ·)) {i j : Nat} (hj : j < l.length) (hij : i < j) : l[i] < l[j] := List.pairwise_iff_getElem.mp h i j (by omega) hj hij
/-- isinstance of a list -/
theorem isi_list {K : PySem.W.Frag} {H : Hp} {Q : VK} {a : Addr} {xs : List V} (e : H a = some (.lst xs)) (q : Q (.bl true) H) : rIsi K [.ref a, .ty "list"] H Q :=
  ⟨.ref a, .ty "list", .type "list", .type "list", true, rfl, .ty _, .base (.lst e), kit_ty (by decide +kernel), q⟩
/-- data of a list of texts -/
def dTx (ss : List (List Nat)) : PyData := .list (ss.map fun s => .str (tx s))
theorem depth_tx (ss : List (List Nat)) : PyData.depthAll (ss.map fun s => PyData.str (tx s)) = 0 := by
  induction ss with
  | nil => rfl
  | cons s r ih => rw [List.map_cons, PyData.depthAll, PyData.depth, ih]; rfl
theorem ok_tx {s : List Nat} (h : ∀ c ∈ s, c ∈ SG) : PyData.strOk (tx s) = true := by
  unfold PyData.strOk
  have e : (tx s).cps = s.toArray := rfl
  rw [e, List.all_toArray, List.all_eq_true]
  intro c hc
  have h2 : ∀ x ∈ SG, x < 0x110000 := by decide +kernel
  exact decide_eq_true (h2 c (h c hc))
theorem lay_tx {ss : List (List Nat)} (h : ∀ s ∈ ss, ∀ c ∈ s, c ∈ SG) : PyData.canLayAll0 (ss.map fun s => PyData.str (tx s)) = true := by
  induction ss with
  | nil => rfl
  | cons s r ih =>
    rw [List.map_cons, PyData.canLayAll0, PyData.canLay0, ok_tx (h s List.mem_cons_self), ih fun x hx => h x (List.mem_cons_of_mem _ hx)]
    rfl
theorem shaped_tx {ss : List (List Nat)} (h : ∀ s ∈ ss, ∀ c ∈ s, c ∈ SG) : SeqAt.shaped (dTx ss) = true := by
  unfold SeqAt.shaped dTx
  rw [PyData.canLay0, lay_tx h, PyData.depth, depth_tx]
  rfl
theorem eqv_str (a b : List Nat) : PyData.eqv (.str (tx a)) (.str (tx b)) = decide (a = b) := by
  rw [PyData.eqv, Bool.eq_iff_iff, beq_iff_eq, decide_eq_true_eq, tx_eq]
theorem eqvAll_tx : ∀ a b : List (List Nat), PyData.eqvAll (a.map fun s => .str (tx s)) (b.map fun s => .str (tx s)) = decide (a = b)
  | [], [] => rfl
  | [], _ :: _ => rfl
  | _ :: _, [] => rfl
  | x :: a, y :: b => by
    rw [List.map_cons, List.map_cons, PyData.eqvAll, eqv_str, eqvAll_tx a b, ← Bool.decide_and]
    exact decide_eq_decide.mpr List.cons_eq_cons.symm
theorem eqv_tx (a b : List (List Nat)) : PyData.eqv (dTx a) (dTx b) = decide (a = b) := by
  unfold dTx
  rw [PyData.eqv, eqvAll_tx]
theorem dp_all {K : PySem.W.Frag} {H : Hp} : ∀ ss : List (List Nat), DpAll K H (ss.map fun s => V.str (tx s)) (ss.map fun s => PyData.str (tx s))
  | [] => .nil
  | _ :: ss => .cons (.str _) (dp_all ss)
theorem dp_tx {K : PySem.W.Frag} {H : Hp} {a : Addr} {ss : List (List Nat)} (h : SqL K H a (ss.map fun s => V.str (tx s))) : Dp K H (.ref a) (dTx ss) := .lst h (dp_all ss)
/-- == and != of lists of texts over the signs -/
theorem eqD_tx {K : PySem.W.Frag} {H : Hp} {p q : Addr} {a b : List (List Nat)} {Q : VK} (ha : SqL K H p (a.map fun s => V.str (tx s))) (hb : SqL K H q (b.map fun s => V.str (tx s))) (sa : ∀ s ∈ a, ∀ c ∈ s, c ∈ SG) (sb : ∀ s ∈ b, ∀ c ∈ s, c ∈ SG) (h : Q (.bl (decide (a = b))) H) : rEqD K (.ref p) (.ref q) H Q :=
  ⟨dTx a, dTx b, dp_tx ha, dp_tx hb, shaped_tx sa, shaped_tx sb, by rw [eqv_tx]; exact h⟩
theorem neD_tx {K : PySem.W.Frag} {H : Hp} {p q : Addr} {a b : List (List Nat)} {Q : VK} (ha : SqL K H p (a.map fun s => V.str (tx s))) (hb : SqL K H q (b.map fun s => V.str (tx s))) (sa : ∀ s ∈ a, ∀ c ∈ s, c ∈ SG) (sb : ∀ s ∈ b, ∀ c ∈ s, c ∈ SG) (h : Q (.bl (!decide (a = b))) H) : rNeD K (.ref p) (.ref q) H Q :=
  ⟨dTx a, dTx b, dp_tx ha, dp_tx hb, shaped_tx sa, shaped_tx sb, by rw [eqv_tx]; exact h⟩
/-- a comprehension that may lay new objects -/
theorem lcJ_same {α : Type} {J : It} {its : List α} {item : α → V} {G : Hp → Prop} (R : Reg J its item G) {k : Nat} {tt : TT} {te : TE} {σ : St} {H1 : Hp} {Q : VK} (p : α → Bool) (f : α → V) (hn : its.length ≤ sizeLine)
    (hG : ∀ H', Same H1 H' → G H')
    (hT : ∀ a H' (Q : Bool → Hp → Prop), a ∈ its → Same H1 H' → (∀ H2, Same H' H2 → Q (p a) H2) → tt ((σ.set k none).set k (some (item a))) H' Q)
    (hE : ∀ a H' (Q : VK), a ∈ its → p a = true → Same H1 H' → (∀ H2, Same H' H2 → Q (f a) H2) → te ((σ.set k none).set k (some (item a))) H' Q)
    (h : ∀ D H', H1 D = none → Same H1 H' → H' D = some (.lst ((its.filter p).map f)) → Q (.ref D) H') : LcJ J (gName k) tt te [k] σ H1 Q := by
  obtain ⟨Pv, hP⟩ : ∃ Pv : Addr → Nat → Hp → Prop, ∀ D i H, Pv D i H ↔ (Same H1 H ∧ H D = some (.lst (((its.take i).filter p).map f))) := ⟨_, fun _ _ _ => Iff.rfl⟩
  refine lcJ_by R Pv (fun D i H hD hp => hG H ((hP _ _ _).mp hp).1) (fun D hD => ?_) (fun D i a H hD hi hp => ?_) (fun D H hD hp => ?_)
  · exact (hP _ _ _).mpr ⟨same_upd hD, upd_same⟩
  · obtain ⟨sm, hl⟩ := (hP _ _ _).mp hp
    have hlt : i < its.length := (List.getElem?_eq_some_iff.mp hi).1
    have hm : a ∈ its := List.mem_of_getElem? hi
    have ht : its.take (i + 1) = its.take i ++ [a] := by rw [List.take_add_one, hi]; rfl
    refine hT a H _ hm sm fun H2 s2 => ?_
    by_cases hp : p a = true
    · rw [hp, if_pos rfl]
      refine hE a H2 _ hm hp (sm.trans s2) fun H3 s3 => ⟨_, s3 _ _ (s2 _ _ hl), ?_, ?_⟩
      · rw [List.length_map]
        refine Nat.lt_of_le_of_lt (List.length_filter_le _ _) ?_
        rw [List.length_take]
        omega
      · refine (hP _ _ _).mpr ⟨fun b o e => ?_, ?_⟩
        · rw [upd_ne (ne_of_none e hD)]
          exact s3 _ _ (s2 _ _ (sm _ _ e))
        · rw [upd_same, ht, List.filter_append, List.map_append]
          simp [hp]
    · rw [if_neg hp]
      refine (hP _ _ _).mpr ⟨sm.trans s2, ?_⟩
      rw [s2 _ _ hl, ht, List.filter_append]
      simp [hp]
  · obtain ⟨sm, hl⟩ := (hP _ _ _).mp hp
    rw [List.take_length] at hl
    exact h D H hD sm hl
theorem in_tx (x : List Nat) (L : List (List Nat)) : inV (V.str (tx x)) (L.map fun s => V.str (tx s)) = decide (x ∈ L) := by
  unfold inV
  rw [List.any_map]
  induction L with
  | nil => rfl
  | cons y L ih =>
    rw [List.any_cons, ih, Bool.eq_iff_iff]
    simp only [Bool.or_eq_true, decide_eq_true_eq, List.mem_cons]
    have e : ((fun z => eqV z (V.str (tx x))) ∘ fun s => V.str (tx s)) y = true ↔ x = y := by
      show (tx y == tx x) = true ↔ x = y
      rw [beq_iff_eq, tx_eq]
      exact eq_comm
    rw [e]
theorem flat_tx (L : List (List Nat)) : (L.map fun s => V.str (tx s)).all flatV = true := by
  induction L with
  | nil => rfl
  | cons x r ih => rw [List.map_cons, List.all_cons, ih]; rfl
theorem flat_bl {α : Type} (g : α → Bool) (L : List α) : (L.map fun s => V.bl (g s)).all flatV = true := by
  induction L with
  | nil => rfl
  | cons x r ih => rw [List.map_cons, List.all_cons, ih]; rfl
theorem count_tx (cs : List Nat) (c : Nat) : Txt.count (tx cs) (tx [c]) = (cs.count c : Nat) := by
  show Txt.count (tx cs) ⟨#[c]⟩ = _
  rw [PyProof.Rows.count_cnt, tx_cps]
  have h : ∀ l : List Nat, PyProof.Rows.cnt c l = (l.count c : Nat) := by
    intro l
    induction l with
    | nil => rfl
    | cons a r ih =>
      rw [List.count_cons, PyProof.Rows.cnt_cons, ih]
      by_cases e : a = c
      · simp [e]; omega
      · simp [e]
  exact h cs
theorem range_at {n i k : Nat} (h : (List.range n)[i]? = some k) : k = i ∧ i < n := by
  have h1 := (List.getElem?_eq_some_iff.mp h).1
  rw [List.length_range] at h1
  rw [List.getElem?_range h1] at h
  exact ⟨(Option.some.inj h).symm, h1⟩
theorem map_at {α β : Type} {F : α → β} {L : List α} {i : Int} (h0 : 0 ≤ i) (h1 : i < L.length) : ∃ (j : Nat) (h : j < L.length), i = (j : Int) ∧ atI (L.map F) i = some (F L[j]) := by
  obtain ⟨j, rfl⟩ := Int.eq_ofNat_of_zero_le h0
  have hj : j < L.length := by omega
  refine ⟨j, hj, rfl, atI_nat ?_⟩
  rw [List.getElem?_map, List.getElem?_eq_getElem hj]
  rfl
end My
namespace My
open PySem L2
/-! ### the draw list, whatever its last number -/
def Dry (H : Hp) (d l : Addr) : Prop := ∃ (a b c e : Int) (ds : List Int), d ≠ l ∧ H d = some (.lst [.int a, .int b, .int c, .ref l, .int e]) ∧ H l = some (.lst (ds.map V.int)) ∧ 0 ≤ a
theorem Drw.y {H : Hp} {d l : Addr} (h : Drw H d l) : Dry H d l := by
  obtain ⟨a, b, c, ds, n, h1, h2, h3⟩ := h
  exact ⟨a, b, c, 3, ds, n, h1, h2, h3⟩
theorem Dry.same {H H' : Hp} {d l : Addr} (h : Dry H d l) (s : Same H H') : Dry H' d l := by
  obtain ⟨a, b, c, e, ds, n, h1, h2, h3⟩ := h
  exact ⟨a, b, c, e, ds, n, s _ _ h1, s _ _ h2, h3⟩
theorem Dry.new {H : Hp} {d l p : Addr} {o : HO} (h : Dry H d l) (n : H p = none) : Dry (upd H p o) d l := h.same (same_upd n)
theorem Dry.ne {H : Hp} {d l p : Addr} (h : Dry H d l) (n : H p = none) : p ≠ d := by
  obtain ⟨a, b, c, e, ds, n', h1, h2, h3⟩ := h
  exact fun q => by rw [q, h1] at n; cases n
theorem Dry.nel {H : Hp} {d l p : Addr} (h : Dry H d l) (n : H p = none) : p ≠ l := by
  obtain ⟨a, b, c, e, ds, n', h1, h2, h3⟩ := h
  exact fun q => by rw [q, h2] at n; cases n
theorem Dry.put {H : Hp} {d l p : Addr} {o : HO} (h : Dry H d l) (n1 : p ≠ d) (n2 : p ≠ l) : Dry (upd H p o) d l := by
  obtain ⟨a, b, c, e, ds, n', h1, h2, h3⟩ := h
  exact ⟨a, b, c, e, ds, n', (upd_ne n1.symm).trans h1, (upd_ne n2.symm).trans h2, h3⟩
theorem Dry.tup {H : Hp} {d l p : Addr} {xs : List V} (h : Dry H d l) (e : H p = some (.tup xs)) : p ≠ d := by
  obtain ⟨_, _, _, _, _, _, h1, _⟩ := h
  exact fun q => by rw [q, h1] at e; cases e
/-! ### trees -/
inductive Tr where
  | empty
  | set (cs : List Nat)
  | edge (k : List Nat)
  | same (n : List Nat)
  | seq (ts : List Tr)
  | alt (ts : List Tr)
  | rep (t : Tr) (lo : Int) (hi : Option Int) (lazy : Bool)
  | grp (n : List Nat) (t : Tr)
  | look (side : List Nat) (w : Bool) (t : Tr)
def hiV : Option Int → V
  | none => .non
  | some i => .int i
mutual
inductive TrAt (K : PySem.W.Frag) (H : Hp) : Tr → V → Prop where
  | empty {a : Addr} (h : SqT K H a [.str (Str.ofString "empty")]) : TrAt K H .empty (.ref a)
  | set {a : Addr} {cs : List Nat} (h : SqT K H a [.str (Str.ofString "set"), .str (tx cs)]) : TrAt K H (.set cs) (.ref a)
  | edge {a : Addr} {k : List Nat} (h : SqT K H a [.str (Str.ofString "edge"), .str (tx k)]) : TrAt K H (.edge k) (.ref a)
  | same {a : Addr} {n : List Nat} (h : SqT K H a [.str (Str.ofString "same"), .str (tx n)]) : TrAt K H (.same n) (.ref a)
  | seq {a b : Addr} {ts : List Tr} {vs : List V} (h : SqT K H a [.str (Str.ofString "seq"), .ref b]) (h2 : SqT K H b vs) (hk : TrsAt K H ts vs) : TrAt K H (.seq ts) (.ref a)
  | alt {a b : Addr} {ts : List Tr} {vs : List V} (h : SqT K H a [.str (Str.ofString "alt"), .ref b]) (h2 : SqT K H b vs) (hk : TrsAt K H ts vs) : TrAt K H (.alt ts) (.ref a)
  | rep {a : Addr} {t : Tr} {v : V} {lo : Int} {hi : Option Int} {lz : Bool} (h : SqT K H a [.str (Str.ofString "repeat"), v, .int lo, hiV hi, .bl lz]) (ht : TrAt K H t v) : TrAt K H (.rep t lo hi lz) (.ref a)
  | grp {a : Addr} {n : List Nat} {t : Tr} {v : V} (h : SqT K H a [.str (Str.ofString "group"), .str (tx n), v]) (ht : TrAt K H t v) : TrAt K H (.grp n t) (.ref a)
  | look {a : Addr} {sd : List Nat} {w : Bool} {t : Tr} {v : V} (h : SqT K H a [.str (Str.ofString "look"), .str (tx sd), .bl w, v]) (ht : TrAt K H t v) : TrAt K H (.look sd w t) (.ref a)
inductive TrsAt (K : PySem.W.Frag) (H : Hp) : List Tr → List V → Prop where
  | nil : TrsAt K H [] []
  | cons {t : Tr} {v : V} {ts : List Tr} {vs : List V} (h : TrAt K H t v) (r : TrsAt K H ts vs) : TrsAt K H (t :: ts) (v :: vs)
end
/-- the tuples stand -/
def Tk (K : PySem.W.Frag) (H H' : Hp) : Prop := ∀ a xs, SqT K H a xs → SqT K H' a xs
mutual
theorem TrAt.keep {K : PySem.W.Frag} {H H' : Hp} (k : Tk K H H') : ∀ {t : Tr} {v : V}, TrAt K H t v → TrAt K H' t v
  | _, _, .empty h => .empty (k _ _ h)
  | _, _, .set h => .set (k _ _ h)
  | _, _, .edge h => .edge (k _ _ h)
  | _, _, .same h => .same (k _ _ h)
  | _, _, .seq h h2 hk => .seq (k _ _ h) (k _ _ h2) (TrsAt.keep k hk)
  | _, _, .alt h h2 hk => .alt (k _ _ h) (k _ _ h2) (TrsAt.keep k hk)
  | _, _, .rep h ht => .rep (k _ _ h) (TrAt.keep k ht)
  | _, _, .grp h ht => .grp (k _ _ h) (TrAt.keep k ht)
  | _, _, .look h ht => .look (k _ _ h) (TrAt.keep k ht)
theorem TrsAt.keep {K : PySem.W.Frag} {H H' : Hp} (k : Tk K H H') : ∀ {ts : List Tr} {vs : List V}, TrsAt K H ts vs → TrsAt K H' ts vs
  | _, _, .nil => .nil
  | _, _, .cons h r => .cons (TrAt.keep k h) (TrsAt.keep k r)
end
theorem TrsAt.snoc {K : PySem.W.Frag} {H : Hp} : ∀ {ts : List Tr} {vs : List V} {t : Tr} {v : V}, TrsAt K H ts vs → TrAt K H t v → TrsAt K H (ts ++ [t]) (vs ++ [v])
  | _, _, _, _, .nil, h => .cons h .nil
  | _, _, _, _, .cons h r, h2 => .cons h (TrsAt.snoc r h2)
theorem TrsAt.len {K : PySem.W.Frag} {H : Hp} : ∀ {ts : List Tr} {vs : List V}, TrsAt K H ts vs → vs.length = ts.length
  | _, _, .nil => rfl
  | _, _, .cons _ r => by rw [List.length_cons, List.length_cons, r.len]
theorem Tk.refl (K : PySem.W.Frag) (H : Hp) : Tk K H H := fun _ _ h => h
theorem Tk.trans {K : PySem.W.Frag} {H H1 H2 : Hp} (a : Tk K H H1) (b : Tk K H1 H2) : Tk K H H2 := fun _ _ h => b _ _ (a _ _ h)
theorem Tk.same {K : PySem.W.Frag} {H H' : Hp} (s : Same H H') : Tk K H H' := fun a xs h =>
  h.elim (fun h => .inl (h.elim (fun h => .inl (s _ _ h)) fun ⟨o, h⟩ => .inr ⟨o, s _ _ h⟩)) fun h => .inr h
/-- all that is tracked stands, but lists at some places -/
def Bl (H H' : Hp) : Prop := ∀ b o, H b = some o → H' b = some o ∨ ∃ xs ys, o = .lst xs ∧ H' b = some (.lst ys)
theorem Tk.bl {K : PySem.W.Frag} {H H' : Hp} (s : Bl H H') : Tk K H H' := fun a xs h => by
  rcases h with (h | ⟨o, h⟩) | h
  · rcases s _ _ h with h2 | ⟨_, _, e, _⟩
    · exact .inl (.inl h2)
    · cases e
  · rcases s _ _ h with h2 | ⟨_, _, e, _⟩
    · exact .inl (.inr ⟨o, h2⟩)
    · cases e
  · exact .inr h
theorem Bl.refl (H : Hp) : Bl H H := fun _ _ h => .inl h
theorem Bl.same {H H' : Hp} (s : Same H H') : Bl H H' := fun _ _ h => .inl (s _ _ h)
theorem Bl.trans {H H1 H2 : Hp} (a : Bl H H1) (b : Bl H1 H2) : Bl H H2 := fun c o h => by
  rcases a c o h with h1 | ⟨xs, ys, e, h1⟩
  · exact b c o h1
  · subst e
    rcases b c _ h1 with h2 | ⟨xs2, ys2, e2, h2⟩
    · exact .inr ⟨_, _, rfl, h2⟩
    · exact .inr ⟨_, _, rfl, h2⟩
theorem Bl.put {H : Hp} {a : Addr} {xs ys : List V} (h : H a = some (.lst xs)) : Bl H (upd H a (.lst ys)) := fun b o e => by
  by_cases hb : b = a
  · subst hb
    rw [h] at e
    cases e
    exact .inr ⟨_, _, rfl, upd_same⟩
  · exact .inl (by rw [upd_ne hb]; exact e)
/-- a list of texts, all among L -/
def Kn (H : Hp) (k : Addr) (L : List (List Nat)) (m : Nat) : Prop := ∃ ns : List (List Nat), H k = some (.lst (ns.map fun n => V.str (tx n))) ∧ (∀ n ∈ ns, n ∈ L) ∧ ns.length ≤ m
theorem Kn.same {H H' : Hp} {k : Addr} {L : List (List Nat)} {m : Nat} (h : Kn H k L m) (s : Same H H') : Kn H' k L m := by
  obtain ⟨ns, a, b, c⟩ := h
  exact ⟨ns, s _ _ a, b, c⟩
theorem Kn.but {H H' : Hp} {k d : Addr} {L : List (List Nat)} {m : Nat} (h : Kn H k L m) (n : k ≠ d) (s : But d H H') : Kn H' k L m := by
  obtain ⟨ns, a, b, c⟩ := h
  exact ⟨ns, s _ _ n a, b, c⟩
/-- all but the lists at d and k stands -/
def Bt (d k : Addr) (H H' : Hp) : Prop := ∀ b o, b ≠ d → b ≠ k → H b = some o → H' b = some o
theorem Bt.refl (d k : Addr) (H : Hp) : Bt d k H H := fun _ _ _ _ h => h
theorem Bt.trans {d k : Addr} {H H1 H2 : Hp} (a : Bt d k H H1) (b : Bt d k H1 H2) : Bt d k H H2 := fun c o n m h => b c o n m (a c o n m h)
theorem Bt.but {d k : Addr} {H H' : Hp} (a : But d H H') : Bt d k H H' := fun c o n _ h => a c o n h
theorem Bt.same {d k : Addr} {H H' : Hp} (a : Same H H') : Bt d k H H' := fun c o _ _ h => a c o h
theorem Bt.put {d k : Addr} {H : Hp} {o : HO} : Bt d k H (upd H k o) := fun c u n m h => by rw [upd_ne m]; exact h
/-- nothing but the lists at d and k changes: the tuples stand -/
theorem Bt.tk {K : PySem.W.Frag} {d k : Addr} {H H' : Hp} (s : Bt d k H H') (hd : ∃ xs, H d = some (.lst xs)) (hk : ∃ xs, H k = some (.lst xs)) : Tk K H H' := fun a xs h => by
  obtain ⟨ds, hd⟩ := hd
  obtain ⟨ks, hk⟩ := hk
  have ne : ∀ o, H a = some o → (∀ xs, o ≠ .lst xs) → a ≠ d ∧ a ≠ k := fun o e n => ⟨fun z => by rw [z, hd] at e; cases e; exact n _ rfl, fun z => by rw [z, hk] at e; cases e; exact n _ rfl⟩
  rcases h with (h | ⟨o, h⟩) | h
  · obtain ⟨n1, n2⟩ := ne _ h (fun _ z => by cases z)
    exact .inl (.inl (s _ _ n1 n2 h))
  · obtain ⟨n1, n2⟩ := ne _ h (fun _ z => by cases z)
    exact .inl (.inr ⟨o, s _ _ n1 n2 h⟩)
  · exact .inr h
theorem But.tk {K : PySem.W.Frag} {d l : Addr} {H H' : Hp} (s : But d H H') (h : Dry H d l) : Tk K H H' := by
  obtain ⟨a, b, c, e, ds, n, h1, _⟩ := h
  exact Bt.tk (k := d) (fun b o n _ h => s b o n h) ⟨_, h1⟩ ⟨_, h1⟩
theorem join_goW {K : PySem.W.Frag} {H : Hp} {D : Addr} {cs : List Nat} {R : List Str → Prop} (hD : SqL K H D (cs.map fun c => V.str (tx [c]))) (h : cs.length ≤ 10000) (q : ∀ ys, Txt.join (tx []) ys = tx cs → R ys) :
    ∃ ys : List Str, (SqL K H D (ys.map V.str) ∨ SqT K H D (ys.map V.str)) ∧ (ys.map (·.length)).sum + ys.length * 0 ≤ 16777216 ∧ R ys := by
  obtain ⟨ys, a, b, c⟩ := join_w (cs := cs) hD h
  exact ⟨ys, a, b, q ys c⟩
/-- l.insert(i, y) -/
def rIns : V → List V → Hp → VK → Prop := fun x vs H Q => ∃ (p : Addr) (ys : List V) (k : Int) (z : V),
  x = .ref p ∧ vs = [.int k, z] ∧ H p = some (.lst ys) ∧
    ys.length < sizeLine ∧ 0 ≤ k ∧ k < 2 ^ 63 ∧ Q .non (upd H p (.lst (ys.take k.toNat ++ [z] ++ ys.drop k.toNat)))
theorem mt_insertM {X : Cx} : MtR X "list.insert" rIns := mt_insert
def rTupOf (K : PySem.W.Frag) : List V → Hp → VK → Prop := fun xs H Q => ∃ p ys, xs = [.ref p] ∧ ((SqL K H p ys ∧ ∀ l, H l = none → Q (.ref l) (upd H l (.tup ys))) ∨ (SqT K H p ys ∧ Q (.ref p) H))
theorem call_tupO {X : Cx} : CallR X (.type "tuple") (rTupOf X.K) := call_tuple_of
end My
namespace My
open PySem L2
def kids : Tr → List Tr
  | .seq ts => ts
  | .alt ts => ts
  | .rep t _ _ _ => [t]
  | .grp _ t => [t]
  | .look _ _ t => [t]
  | .empty => []
  | .set _ => []
  | .edge _ => []
  | .same _ => []
/-- not deeper than n -/
inductive Dp : Nat → Tr → Prop where
  | mk {n : Nat} {t : Tr} (h : ∀ c ∈ kids t, Dp n c) : Dp (n + 1) t
theorem Dp.zero' {t : Tr} (h : Dp 0 t) : False := by cases h
theorem Dp.kid {n : Nat} {t c : Tr} (h : Dp (n + 1) t) (hc : c ∈ kids t) : Dp n c := by
  cases h with
  | mk h => exact h c hc
mutual
def sz : Tr → Nat
  | .seq ts => 1 + szs ts
  | .alt ts => 1 + szs ts
  | .rep t _ _ _ => 1 + sz t
  | .grp _ t => 1 + sz t
  | .look _ _ t => 1 + sz t
  | _ => 1
def szs : List Tr → Nat
  | [] => 0
  | t :: ts => sz t + szs ts
end
theorem sz_kids (t : Tr) : sz t = 1 + szs (kids t) := by
  cases t <;> simp [sz, szs, kids]
theorem szs_app : ∀ a b : List Tr, szs (a ++ b) = szs a + szs b
  | [], b => by simp [szs]
  | t :: a, b => by rw [List.cons_append, szs, szs, szs_app a b]; omega
theorem szs_mem {t : Tr} : ∀ {ts : List Tr}, t ∈ ts → sz t ≤ szs ts
  | x :: ts, h => by
    rw [szs]
    rcases List.mem_cons.mp h with rfl | h
    · omega
    · have := szs_mem h
      omega
theorem sz_pos (t : Tr) : 1 ≤ sz t := by rw [sz_kids]; omega
theorem len_szs : ∀ ts : List Tr, ts.length ≤ szs ts
  | [] => by simp [szs]
  | t :: ts => by
    have := len_szs ts
    have := sz_pos t
    rw [List.length_cons, szs]
    omega
theorem szs_take (ts : List Tr) (i : Nat) : szs (ts.take i) ≤ szs ts := by
  conv => rhs; rw [← List.take_append_drop i ts]
  rw [szs_app]
  omega
mutual
def pathsT : Tr → List (List Int)
  | .seq ts => [] :: pathsK 0 ts
  | .alt ts => [] :: pathsK 0 ts
  | .rep t _ _ _ => [] :: (pathsT t).map (fun p => (0 : Int) :: p)
  | .grp _ t => [] :: (pathsT t).map (fun p => (0 : Int) :: p)
  | .look _ _ t => [] :: (pathsT t).map (fun p => (0 : Int) :: p)
  | _ => [[]]
def pathsK : Nat → List Tr → List (List Int)
  | _, [] => []
  | i, t :: ts => (pathsT t).map (fun p => (i : Int) :: p) ++ pathsK (i + 1) ts
end
theorem paths_kids (t : Tr) : pathsT t = [] :: pathsK 0 (kids t) := by
  cases t <;> simp [pathsT, pathsK, kids]
theorem pathsK_snoc : ∀ (i : Nat) (ts : List Tr) (t : Tr), pathsK i (ts ++ [t]) = pathsK i ts ++ (pathsT t).map (fun p => ((i + ts.length : Nat) : Int) :: p)
  | i, [], t => by simp [pathsK]
  | i, x :: ts, t => by
    rw [List.cons_append, pathsK, pathsK, pathsK_snoc (i + 1) ts t, List.append_assoc, List.length_cons, show i + 1 + ts.length = i + (ts.length + 1) by omega]
mutual
theorem paths_len : ∀ t : Tr, (pathsT t).length = sz t
  | .seq ts => by rw [pathsT, List.length_cons, pathsK_len 0 ts, sz]; omega
  | .alt ts => by rw [pathsT, List.length_cons, pathsK_len 0 ts, sz]; omega
  | .rep t _ _ _ => by rw [pathsT, List.length_cons, List.length_map, paths_len t, sz]; omega
  | .grp _ t => by rw [pathsT, List.length_cons, List.length_map, paths_len t, sz]; omega
  | .look _ _ t => by rw [pathsT, List.length_cons, List.length_map, paths_len t, sz]; omega
  | .empty => rfl
  | .set _ => rfl
  | .edge _ => rfl
  | .same _ => rfl
theorem pathsK_len : ∀ (i : Nat) (ts : List Tr), (pathsK i ts).length = szs ts
  | _, [] => rfl
  | i, t :: ts => by rw [pathsK, List.length_append, List.length_map, paths_len t, pathsK_len (i + 1) ts, szs]
end
theorem pathsK_mem {p : List Int} : ∀ {i : Nat} {ts : List Tr}, p ∈ pathsK i ts → ∃ c ∈ ts, ∃ (j : Nat) (p' : List Int), p' ∈ pathsT c ∧ p = (j : Int) :: p'
  | _, [], h => by simp [pathsK] at h
  | i, t :: ts, h => by
    rw [pathsK] at h
    rcases List.mem_append.mp h with h | h
    · obtain ⟨p', h1, rfl⟩ := List.mem_map.mp h
      exact ⟨t, List.mem_cons_self, i, p', h1, rfl⟩
    · obtain ⟨c, hc, j, p', h1, h2⟩ := pathsK_mem h
      exact ⟨c, List.mem_cons_of_mem _ hc, j, p', h1, h2⟩
theorem path_short : ∀ {n : Nat} {t : Tr} {p : List Int}, Dp (n + 1) t → p ∈ pathsT t → p.length ≤ n
  | n, t, p, hd, hp => by
    rw [paths_kids] at hp
    rcases List.mem_cons.mp hp with rfl | hp
    · exact Nat.zero_le _
    · obtain ⟨c, hc, j, p', h1, rfl⟩ := pathsK_mem hp
      have hk := hd.kid hc
      cases n with
      | zero => cases hk
      | succ n =>
        have := path_short hk h1
        rw [List.length_cons]
        omega
/-- the node at a path -/
def nodeT : Tr → List Int → Option Tr
  | t, [] => some t
  | t, i :: p => if 0 ≤ i then ((kids t)[i.toNat]?).bind fun c => nodeT c p else none
theorem pathsK_at {p : List Int} : ∀ {i : Nat} {ts : List Tr}, p ∈ pathsK i ts → ∃ (j : Nat) (c : Tr) (p' : List Int), ts[j]? = some c ∧ p' ∈ pathsT c ∧ p = ((i + j : Nat) : Int) :: p'
  | _, [], h => by simp [pathsK] at h
  | i, t :: ts, h => by
    rw [pathsK] at h
    rcases List.mem_append.mp h with h | h
    · obtain ⟨p', h1, rfl⟩ := List.mem_map.mp h
      exact ⟨0, t, p', rfl, h1, rfl⟩
    · obtain ⟨j, c, p', h0, h1, h2⟩ := pathsK_at h
      exact ⟨j + 1, c, p', h0, h1, by rw [h2, show i + 1 + j = i + (j + 1) by omega]⟩
theorem node_of : ∀ {p : List Int} {t : Tr}, p ∈ pathsT t → ∃ u, nodeT t p = some u
  | [], t, _ => ⟨t, rfl⟩
  | i :: p, t, h => by
    rw [paths_kids] at h
    rcases List.mem_cons.mp h with h | h
    · cases h
    · obtain ⟨j, c, p', h0, h1, h2⟩ := pathsK_at h
      rw [Nat.zero_add] at h2
      obtain ⟨rfl, rfl⟩ := List.cons.inj h2
      obtain ⟨u, hu⟩ := node_of h1
      refine ⟨u, ?_⟩
      rw [nodeT, if_pos (Int.natCast_nonneg j), Int.toNat_natCast, h0]
      exact hu
/-- a tuple whose items are made of other things -/
theorem reg_tupM {α : Type} (K : PySem.W.Frag) (a : Addr) (F : α → V) (xs : List α) : Reg (Itt K a) xs F (fun H => SqT K H a (xs.map F)) := by
  refine ⟨fun i H h hq => ⟨xs.map F, F xs[i], hq, by simp [h]⟩, fun i H h hq => ⟨xs.map F, hq, by rw [List.length_map]; exact h⟩, fun i v H x H' h hq hy => ?_⟩
  obtain ⟨rfl, f⟩ := hy
  have := f _ hq
  rw [List.getElem?_map, h] at this
  exact ⟨rfl, (Option.some.inj this).symm⟩
theorem iTup_at {K : PySem.W.Frag} {σ : St} {H : Hp} {R : It → Hp → Prop} {r : Addr} {i : Nat} {xs : List V} (hσ : σ[i]? = some (some (.ref r))) (h : SqT K H r xs) (q : R (Itt K r) H) : iTup K (tVar i) σ H R := ⟨_, hσ, r, rfl, ⟨xs, h⟩, q⟩
/-- a list of tuples of numbers -/
structure PathsAt (K : PySem.W.Frag) (H : Hp) (m : Addr) (ps : List (List Int)) (rs : List Addr) : Prop where
  lst : H m = some (.lst (rs.map V.ref))
  len : rs.length = ps.length
  tup : ∀ (i : Nat) r p, rs[i]? = some r → ps[i]? = some p → SqT K H r (p.map V.int)
theorem PathsAt.same {K : PySem.W.Frag} {H H' : Hp} {m : Addr} {ps : List (List Int)} {rs : List Addr} (h : PathsAt K H m ps rs) (s : Same H H') : PathsAt K H' m ps rs :=
  ⟨s _ _ h.lst, h.len, fun i r p a b => Tk.same s _ _ (h.tup i r p a b)⟩
/-- one more, the list at m written anew -/
theorem PathsAt.push {K : PySem.W.Frag} {H H' : Hp} {m r : Addr} {ps : List (List Int)} {rs : List Addr} {p : List Int} (h : PathsAt K H m ps rs) (s : Same H H') (ht : SqT K H' r (p.map V.int)) : PathsAt K (upd H' m (.lst (rs.map V.ref ++ [V.ref r]))) m (ps ++ [p]) (rs ++ [r]) := by
  have tk : Tk K H' (upd H' m (.lst (rs.map V.ref ++ [V.ref r]))) := .bl (.put (s _ _ h.lst))
  refine ⟨by rw [upd_same, List.map_append]; rfl, by rw [List.length_append, List.length_append, h.len]; rfl, fun i u q a b => ?_⟩
  by_cases hi : i < rs.length
  · rw [List.getElem?_append_left hi] at a
    rw [List.getElem?_append_left (by rw [← h.len]; exact hi)] at b
    exact tk _ _ (Tk.same s _ _ (h.tup i u q a b))
  · have h1 := (List.getElem?_eq_some_iff.mp a).1
    rw [List.length_append] at h1
    have ei : i = rs.length := by simp at h1; omega
    subst ei
    rw [List.getElem?_append_right (Nat.le_refl _), Nat.sub_self] at a
    rw [h.len, List.getElem?_append_right (Nat.le_refl _), Nat.sub_self] at b
    cases Option.some.inj a
    cases Option.some.inj b
    exact tk _ _ ht
theorem TrsAt.at {K : PySem.W.Frag} {H : Hp} : ∀ {ts : List Tr} {vs : List V}, TrsAt K H ts vs → ∀ {i : Nat} {t : Tr}, ts[i]? = some t → ∃ v, vs[i]? = some v ∧ TrAt K H t v
  | _, _, .cons h r, 0, t, e => by
    cases Option.some.inj e
    exact ⟨_, rfl, h⟩
  | _, _, .cons h r, i + 1, t, e => TrsAt.at (i := i) r e
end My
namespace My
open PySem L2
/-- plain nested data -/
inductive Da where
  | non
  | bl (b : Bool)
  | int (i : Int)
  | str (s : Str)
  | tup (l : List Da)
mutual
inductive DaAt (K : PySem.W.Frag) (H : Hp) : Da → V → Prop where
  | non : DaAt K H .non .non
  | bl (b : Bool) : DaAt K H (.bl b) (.bl b)
  | int (i : Int) : DaAt K H (.int i) (.int i)
  | str (s : Str) : DaAt K H (.str s) (.str s)
  | tup {a : Addr} {l : List Da} {vs : List V} (h : SqT K H a vs) (r : DasAt K H l vs) : DaAt K H (.tup l) (.ref a)
inductive DasAt (K : PySem.W.Frag) (H : Hp) : List Da → List V → Prop where
  | nil : DasAt K H [] []
  | cons {d : Da} {v : V} {l : List Da} {vs : List V} (h : DaAt K H d v) (r : DasAt K H l vs) : DasAt K H (d :: l) (v :: vs)
end
mutual
theorem DaAt.keep {K : PySem.W.Frag} {H H' : Hp} (k : Tk K H H') : ∀ {d : Da} {v : V}, DaAt K H d v → DaAt K H' d v
  | _, _, .non => .non
  | _, _, .bl b => .bl b
  | _, _, .int i => .int i
  | _, _, .str s => .str s
  | _, _, .tup h r => .tup (k _ _ h) (DasAt.keep k r)
theorem DasAt.keep {K : PySem.W.Frag} {H H' : Hp} (k : Tk K H H') : ∀ {l : List Da} {vs : List V}, DasAt K H l vs → DasAt K H' l vs
  | _, _, .nil => .nil
  | _, _, .cons h r => .cons (DaAt.keep k h) (DasAt.keep k r)
end
theorem DasAt.len {K : PySem.W.Frag} {H : Hp} : ∀ {l : List Da} {vs : List V}, DasAt K H l vs → vs.length = l.length
  | _, _, .nil => rfl
  | _, _, .cons _ r => by rw [List.length_cons, List.length_cons, r.len]
theorem DasAt.at {K : PySem.W.Frag} {H : Hp} : ∀ {l : List Da} {vs : List V}, DasAt K H l vs → ∀ {i : Nat} {d : Da}, l[i]? = some d → ∃ v, vs[i]? = some v ∧ DaAt K H d v
  | _, _, .cons h r, 0, d, e => by
    cases Option.some.inj e
    exact ⟨_, rfl, h⟩
  | _, _, .cons h r, i + 1, d, e => DasAt.at (i := i) r e
/-- not deeper than n, not too wide -/
inductive Dd : Nat → Da → Prop where
  | atom {n : Nat} {d : Da} (h : ∀ l, d ≠ .tup l) : Dd (n + 1) d
  | tup {n : Nat} {l : List Da} (h : ∀ d ∈ l, Dd n d) (w : l.length ≤ 16000000) : Dd (n + 1) (.tup l)
def hiD : Option Int → Da
  | none => .non
  | some i => .int i
mutual
def toDa : Tr → Da
  | .empty => .tup [.str (Str.ofString "empty")]
  | .set cs => .tup [.str (Str.ofString "set"), .str (tx cs)]
  | .edge k => .tup [.str (Str.ofString "edge"), .str (tx k)]
  | .same n => .tup [.str (Str.ofString "same"), .str (tx n)]
  | .seq ts => .tup [.str (Str.ofString "seq"), .tup (toDas ts)]
  | .alt ts => .tup [.str (Str.ofString "alt"), .tup (toDas ts)]
  | .rep t lo hi lz => .tup [.str (Str.ofString "repeat"), toDa t, .int lo, hiD hi, .bl lz]
  | .grp n t => .tup [.str (Str.ofString "group"), .str (tx n), toDa t]
  | .look sd b t => .tup [.str (Str.ofString "look"), .str (tx sd), .bl b, toDa t]
def toDas : List Tr → List Da
  | [] => []
  | t :: ts => toDa t :: toDas ts
end
theorem hi_at {K : PySem.W.Frag} {H : Hp} : ∀ hi : Option Int, DaAt K H (hiD hi) (hiV hi)
  | none => .non
  | some i => .int i
mutual
theorem TrAt.da {K : PySem.W.Frag} {H : Hp} : ∀ {t : Tr} {v : V}, TrAt K H t v → DaAt K H (toDa t) v
  | _, _, .empty h => by rw [toDa]; exact .tup h (.cons (.str _) .nil)
  | _, _, .set h => by rw [toDa]; exact .tup h (.cons (.str _) (.cons (.str _) .nil))
  | _, _, .edge h => by rw [toDa]; exact .tup h (.cons (.str _) (.cons (.str _) .nil))
  | _, _, .same h => by rw [toDa]; exact .tup h (.cons (.str _) (.cons (.str _) .nil))
  | _, _, .seq h h2 hk => by rw [toDa]; exact .tup h (.cons (.str _) (.cons (.tup h2 (TrsAt.das hk)) .nil))
  | _, _, .alt h h2 hk => by rw [toDa]; exact .tup h (.cons (.str _) (.cons (.tup h2 (TrsAt.das hk)) .nil))
  | _, _, .rep (hi := hi) h ht => by rw [toDa]; exact .tup h (.cons (.str _) (.cons (TrAt.da ht) (.cons (.int _) (.cons (hi_at hi) (.cons (.bl _) .nil)))))
  | _, _, .grp h ht => by rw [toDa]; exact .tup h (.cons (.str _) (.cons (.str _) (.cons (TrAt.da ht) .nil)))
  | _, _, .look h ht => by rw [toDa]; exact .tup h (.cons (.str _) (.cons (.str _) (.cons (.bl _) (.cons (TrAt.da ht) .nil))))
theorem TrsAt.das {K : PySem.W.Frag} {H : Hp} : ∀ {ts : List Tr} {vs : List V}, TrsAt K H ts vs → DasAt K H (toDas ts) vs
  | _, _, .nil => by rw [toDas]; exact .nil
  | _, _, .cons h r => by rw [toDas]; exact .cons (TrAt.da h) (TrsAt.das r)
end
/-- isinstance of such data -/
def tyDa : Da → String
  | .non => "NoneType"
  | .bl _ => "bool"
  | .int _ => "int"
  | .str _ => "str"
  | .tup _ => "tuple"
theorem sqt_ty {K : PySem.W.Frag} {H : Hp} {a : Addr} {xs : List V} (h : SqT K H a xs) : TyX K H (.ref a) (.type "tuple") := by
  rcases h with (e | ⟨o, e⟩) | ⟨o, its, n, e, c, _⟩
  · exact .base (.tup e)
  · exact .fTuple e
  · exact .kTuple e c
theorem da_ty {K : PySem.W.Frag} {H : Hp} {d : Da} {v : V} (h : DaAt K H d v) : TyX K H v (.type (tyDa d)) := by
  cases h with
  | non => exact .base .non
  | bl b => exact .base (.bl b)
  | int i => exact .base (.int i)
  | str s => exact .base (.str s)
  | tup h r => exact sqt_ty h
theorem isi_da {K : PySem.W.Frag} {H : Hp} {Q : VK} {d : Da} {v : V} {T : String} {b : Bool} (h : DaAt K H d v) (k : PySem.W.kitOne K (.type (tyDa d)) (.type T) = some b) (q : Q (.bl b) H) : rIsi K [v, .ty T] H Q :=
  ⟨v, .ty T, .type (tyDa d), .type T, b, rfl, .ty _, da_ty h, k, q⟩
end My
namespace My
open PySem L2
mutual
/-- the names of the groups, in preorder -/
def gn : Tr → List (List Nat)
  | .seq ts => gns ts
  | .alt ts => gns ts
  | .rep t _ _ _ => gn t
  | .grp n t => n :: gn t
  | .look _ _ t => gn t
  | .empty => []
  | .set _ => []
  | .edge _ => []
  | .same _ => []
def gns : List Tr → List (List Nat)
  | [] => []
  | t :: ts => gn t ++ gns ts
end
mutual
/-- each same has its group before it, or among ns -/
def wf : List (List Nat) → Tr → Prop
  | ns, .same n => n ∈ ns
  | ns, .seq ts => wfs ns ts
  | ns, .alt ts => wfs ns ts
  | ns, .rep t _ _ _ => wf ns t
  | ns, .grp n t => wf (ns ++ [n]) t
  | ns, .look _ _ t => wf ns t
  | _, .empty => True
  | _, .set _ => True
  | _, .edge _ => True
def wfs : List (List Nat) → List Tr → Prop
  | _, [] => True
  | ns, t :: ts => wf ns t ∧ wfs (ns ++ gn t) ts
end
mutual
/-- the names of the sames -/
def sm : Tr → List (List Nat)
  | .same n => [n]
  | .seq ts => sms ts
  | .alt ts => sms ts
  | .rep t _ _ _ => sm t
  | .grp _ t => sm t
  | .look _ _ t => sm t
  | .empty => []
  | .set _ => []
  | .edge _ => []
def sms : List Tr → List (List Nat)
  | [] => []
  | t :: ts => sm t ++ sms ts
end
theorem gns_app : ∀ a b : List Tr, gns (a ++ b) = gns a ++ gns b
  | [], b => by simp [gns]
  | t :: a, b => by rw [List.cons_append, gns, gns, gns_app a b, List.append_assoc]
theorem sms_app : ∀ a b : List Tr, sms (a ++ b) = sms a ++ sms b
  | [], b => by simp [sms]
  | t :: a, b => by rw [List.cons_append, sms, sms, sms_app a b, List.append_assoc]
theorem wfs_app : ∀ (ns : List (List Nat)) (a b : List Tr), wfs ns (a ++ b) ↔ wfs ns a ∧ wfs (ns ++ gns a) b
  | ns, [], b => by simp [wfs, gns]
  | ns, t :: a, b => by rw [List.cons_append, wfs, wfs, wfs_app _ a b, gns, List.append_assoc, and_assoc]
theorem wfs_one {ns : List (List Nat)} {t : Tr} : wfs ns [t] ↔ wf ns t := by simp [wfs]
theorem gns_one {t : Tr} : gns [t] = gn t := by simp [gns]
mutual
theorem wf_sm : ∀ {t : Tr} {ns : List (List Nat)}, wf ns t → ∀ n ∈ sm t, n ∈ ns ++ gn t
  | .same n, ns, h, m, hm => by
    rw [sm, List.mem_singleton] at hm
    rw [wf] at h
    rw [hm, gn, List.append_nil]
    exact h
  | .seq ts, ns, h, m, hm => by
    rw [wf] at h
    rw [sm] at hm
    rw [gn]
    exact wfs_sms h m hm
  | .alt ts, ns, h, m, hm => by
    rw [wf] at h
    rw [sm] at hm
    rw [gn]
    exact wfs_sms h m hm
  | .rep t _ _ _, ns, h, m, hm => by
    rw [wf] at h
    rw [sm] at hm
    rw [gn]
    exact wf_sm h m hm
  | .look _ _ t, ns, h, m, hm => by
    rw [wf] at h
    rw [sm] at hm
    rw [gn]
    exact wf_sm h m hm
  | .grp n t, ns, h, m, hm => by
    rw [wf] at h
    rw [sm] at hm
    rw [gn]
    have := wf_sm h m hm
    rw [List.append_assoc] at this
    exact this
  | .empty, ns, h, m, hm => by simp [sm] at hm
  | .set _, ns, h, m, hm => by simp [sm] at hm
  | .edge _, ns, h, m, hm => by simp [sm] at hm
theorem wfs_sms : ∀ {ts : List Tr} {ns : List (List Nat)}, wfs ns ts → ∀ n ∈ sms ts, n ∈ ns ++ gns ts
  | [], ns, h, m, hm => by simp [sms] at hm
  | t :: ts, ns, h, m, hm => by
    rw [wfs] at h
    rw [sms] at hm
    rw [gns, ← List.append_assoc]
    rcases List.mem_append.mp hm with h2 | h2
    · exact List.mem_append_left _ (wf_sm h.1 m h2)
    · exact wfs_sms h.2 m h2
end
mutual
theorem wf_mono : ∀ {t : Tr} {ns ms : List (List Nat)}, (∀ n ∈ ns, n ∈ ms) → wf ns t → wf ms t
  | .same n, ns, ms, s, h => by rw [wf] at h ⊢; exact s _ h
  | .seq ts, ns, ms, s, h => by rw [wf] at h ⊢; exact wfs_mono s h
  | .alt ts, ns, ms, s, h => by rw [wf] at h ⊢; exact wfs_mono s h
  | .rep t _ _ _, ns, ms, s, h => by rw [wf] at h ⊢; exact wf_mono s h
  | .look _ _ t, ns, ms, s, h => by rw [wf] at h ⊢; exact wf_mono s h
  | .grp n t, ns, ms, s, h => by
    rw [wf] at h ⊢
    exact wf_mono (fun x hx => by
      rcases List.mem_append.mp hx with h | h
      · exact List.mem_append_left _ (s _ h)
      · exact List.mem_append_right _ h) h
  | .empty, ns, ms, s, h => by rw [wf]; trivial
  | .set _, ns, ms, s, h => by rw [wf]; trivial
  | .edge _, ns, ms, s, h => by rw [wf]; trivial
theorem wfs_mono : ∀ {ts : List Tr} {ns ms : List (List Nat)}, (∀ n ∈ ns, n ∈ ms) → wfs ns ts → wfs ms ts
  | [], ns, ms, s, h => by rw [wfs]; trivial
  | t :: ts, ns, ms, s, h => by
    rw [wfs] at h ⊢
    exact ⟨wf_mono s h.1, wfs_mono (fun x hx => by
      rcases List.mem_append.mp hx with h | h
      · exact List.mem_append_left _ (s _ h)
      · exact List.mem_append_right _ h) h.2⟩
end
mutual
/-- the forms that a kind of draw lets in: 0 plain, 1 regular, 2 any, 3 inside a look -/
def kdOk : Int → Tr → Prop
  | _, .empty => True
  | _, .set _ => True
  | kd, .edge _ => 0 < kd
  | kd, .same _ => kd = 2
  | kd, .seq ts => kdsOk kd ts
  | kd, .alt ts => kdsOk kd ts
  | kd, .rep t _ _ _ => kdOk kd t
  | kd, .grp _ t => kd < 3 ∧ kdOk kd t
  | kd, .look _ _ t => (kd = 1 ∨ kd = 2) ∧ kdOk 3 t
def kdsOk : Int → List Tr → Prop
  | _, [] => True
  | kd, t :: ts => kdOk kd t ∧ kdsOk kd ts
end
theorem kdsOk_app (kd : Int) : ∀ a b : List Tr, kdsOk kd (a ++ b) ↔ kdsOk kd a ∧ kdsOk kd b
  | [], b => by simp [kdsOk]
  | t :: a, b => by rw [List.cons_append, kdsOk, kdsOk, kdsOk_app kd a b, and_assoc]
theorem kdsOk_one {kd : Int} {t : Tr} : kdsOk kd [t] ↔ kdOk kd t := by simp [kdsOk]
/-- the list of the known names -/
def Ks (H : Hp) (k : Addr) (L ns : List (List Nat)) : Prop := H k = some (.lst (ns.map fun n => V.str (tx n))) ∧ (∀ n ∈ ns, n ∈ L) ∧ ns.length ≤ 10
theorem Ks.same {H H' : Hp} {k : Addr} {L ns : List (List Nat)} (h : Ks H k L ns) (s : Same H H') : Ks H' k L ns := ⟨s _ _ h.1, h.2⟩
theorem Ks.but {H H' : Hp} {k d : Addr} {L ns : List (List Nat)} (h : Ks H k L ns) (n : k ≠ d) (s : But d H H') : Ks H' k L ns := ⟨s _ _ n h.1, h.2⟩
theorem Ks.put {H : Hp} {k p : Addr} {o : HO} {L ns : List (List Nat)} (h : Ks H k L ns) (n : k ≠ p) : Ks (upd H p o) k L ns := ⟨by rw [upd_ne n]; exact h.1, h.2⟩
end My
namespace My
open PySem L2
def isLook : Tr → Bool
  | .look _ _ _ => true
  | _ => false
def isSame : Tr → Bool
  | .same _ => true
  | _ => false
def isEdge : Tr → Bool
  | .edge _ => true
  | _ => false
/-- the numbers of a repeat are small -/
def repOk : Tr → Prop
  | .rep _ lo hi _ => 0 ≤ lo ∧ lo ≤ 9 ∧ ∀ h, hi = some h → 0 ≤ h ∧ h ≤ 9
  | _ => True
abbrev Pl := List Int × Tr × Bool
mutual
/-- the places of a tree in preorder: path, node, whether a look is above -/
def placesT : Tr → List Int → Bool → List Pl
  | .seq ts, p, b => (p, .seq ts, b) :: placesK 0 ts p b
  | .alt ts, p, b => (p, .alt ts, b) :: placesK 0 ts p b
  | .rep t lo hi lz, p, b => (p, .rep t lo hi lz, b) :: placesT t (p ++ [0]) b
  | .grp n t, p, b => (p, .grp n t, b) :: placesT t (p ++ [0]) b
  | .look s w t, p, b => (p, .look s w t, b) :: placesT t (p ++ [0]) true
  | .empty, p, b => [(p, .empty, b)]
  | .set c, p, b => [(p, .set c, b)]
  | .edge k, p, b => [(p, .edge k, b)]
  | .same n, p, b => [(p, .same n, b)]
def placesK : Nat → List Tr → List Int → Bool → List Pl
  | _, [], _, _ => []
  | i, t :: ts, p, b => placesT t (p ++ [(i : Int)]) b ++ placesK (i + 1) ts p b
end
theorem places_kids (t : Tr) (p : List Int) (b : Bool) : placesT t p b = (p, t, b) :: placesK 0 (kids t) p (b || isLook t) := by
  cases t <;> simp [placesT, placesK, kids, isLook]
theorem placesK_snoc : ∀ (i : Nat) (ts : List Tr) (t : Tr) (p : List Int) (b : Bool), placesK i (ts ++ [t]) p b = placesK i ts p b ++ placesT t (p ++ [((i + ts.length : Nat) : Int)]) b
  | i, [], t, p, b => by simp [placesK]
  | i, x :: ts, t, p, b => by
    rw [List.cons_append, placesK, placesK, placesK_snoc (i + 1) ts t, List.append_assoc, List.length_cons, show i + 1 + ts.length = i + (ts.length + 1) by omega]
theorem placesK_step {ts : List Tr} {k : Nat} {c : Tr} {p : List Int} {b : Bool} (h : ts[k]? = some c) : placesK 0 (ts.take (k + 1)) p b = placesK 0 (ts.take k) p b ++ placesT c (p ++ [((k : Nat) : Int)]) b := by
  have hl := (List.getElem?_eq_some_iff.mp h).1
  have e : ts.take (k + 1) = ts.take k ++ [c] := by rw [List.take_succ, h]; rfl
  rw [e, placesK_snoc, List.length_take, Nat.min_eq_left (by omega), Nat.zero_add]
mutual
theorem places_paths : ∀ (t : Tr) (p : List Int) (b : Bool), (placesT t p b).map (·.1) = (pathsT t).map (p ++ ·)
  | .seq ts, p, b => by rw [placesT, pathsT, List.map_cons, List.map_cons, placesK_paths, List.append_nil]
  | .alt ts, p, b => by rw [placesT, pathsT, List.map_cons, List.map_cons, placesK_paths, List.append_nil]
  | .rep t lo hi lz, p, b => by rw [placesT, pathsT, List.map_cons, List.map_cons, places_paths t, List.append_nil, List.map_map]; simp [Function.comp_def]
  | .grp n t, p, b => by rw [placesT, pathsT, List.map_cons, List.map_cons, places_paths t, List.append_nil, List.map_map]; simp [Function.comp_def]
  | .look s w t, p, b => by rw [placesT, pathsT, List.map_cons, List.map_cons, places_paths t, List.append_nil, List.map_map]; simp [Function.comp_def]
  | .empty, p, b => by simp [placesT, pathsT]
  | .set c, p, b => by simp [placesT, pathsT]
  | .edge k, p, b => by simp [placesT, pathsT]
  | .same n, p, b => by simp [placesT, pathsT]
theorem placesK_paths : ∀ (i : Nat) (ts : List Tr) (p : List Int) (b : Bool), (placesK i ts p b).map (·.1) = (pathsK i ts).map (p ++ ·)
  | _, [], _, _ => by simp [placesK, pathsK]
  | i, t :: ts, p, b => by
    rw [placesK, pathsK, List.map_append, List.map_append, places_paths t, placesK_paths (i + 1) ts, List.map_map]
    simp [Function.comp_def]
end
mutual
/-- the nodes in preorder -/
def nodesT : Tr → List Tr
  | .seq ts => .seq ts :: nodesK ts
  | .alt ts => .alt ts :: nodesK ts
  | .rep t lo hi lz => .rep t lo hi lz :: nodesT t
  | .grp n t => .grp n t :: nodesT t
  | .look s w t => .look s w t :: nodesT t
  | .empty => [.empty]
  | .set c => [.set c]
  | .edge k => [.edge k]
  | .same n => [.same n]
def nodesK : List Tr → List Tr
  | [] => []
  | t :: ts => nodesT t ++ nodesK ts
end
theorem nodes_kids (t : Tr) : nodesT t = t :: nodesK (kids t) := by
  cases t <;> simp [nodesT, nodesK, kids]
theorem nodesK_app : ∀ a b : List Tr, nodesK (a ++ b) = nodesK a ++ nodesK b
  | [], b => by simp [nodesK]
  | t :: a, b => by rw [List.cons_append, nodesK, nodesK, nodesK_app a b, List.append_assoc]
mutual
theorem places_nodes : ∀ (t : Tr) (p : List Int) (b : Bool), (placesT t p b).map (·.2.1) = nodesT t
  | .seq ts, p, b => by rw [placesT, nodesT, List.map_cons, placesK_nodes]
  | .alt ts, p, b => by rw [placesT, nodesT, List.map_cons, placesK_nodes]
  | .rep t lo hi lz, p, b => by rw [placesT, nodesT, List.map_cons, places_nodes t]
  | .grp n t, p, b => by rw [placesT, nodesT, List.map_cons, places_nodes t]
  | .look s w t, p, b => by rw [placesT, nodesT, List.map_cons, places_nodes t]
  | .empty, p, b => by simp [placesT, nodesT]
  | .set c, p, b => by simp [placesT, nodesT]
  | .edge k, p, b => by simp [placesT, nodesT]
  | .same n, p, b => by simp [placesT, nodesT]
theorem placesK_nodes : ∀ (i : Nat) (ts : List Tr) (p : List Int) (b : Bool), (placesK i ts p b).map (·.2.1) = nodesK ts
  | _, [], _, _ => by simp [placesK, nodesK]
  | i, t :: ts, p, b => by rw [placesK, nodesK, List.map_append, places_nodes t, placesK_nodes (i + 1) ts]
end
theorem places_len (t : Tr) (p : List Int) (b : Bool) : (placesT t p b).length = sz t := by
  have := congrArg List.length (places_paths t p b)
  rw [List.length_map, List.length_map, paths_len] at this
  exact this
theorem placesK_len (i : Nat) (ts : List Tr) (p : List Int) (b : Bool) : (placesK i ts p b).length = szs ts := by
  have := congrArg List.length (placesK_paths i ts p b)
  rw [List.length_map, List.length_map, pathsK_len] at this
  exact this
theorem nodes_len (t : Tr) : (nodesT t).length = sz t := by
  have := congrArg List.length (places_nodes t [] false)
  rw [List.length_map, places_len] at this
  exact this.symm
end My
namespace My
open PySem L2
/-- the tree with other children -/
def setK : Tr → List Tr → Option Tr
  | .seq _, ks => some (.seq ks)
  | .alt _, ks => some (.alt ks)
  | .rep _ lo hi lz, [t] => some (.rep t lo hi lz)
  | .grp n _, [t] => some (.grp n t)
  | .look sd b _, [t] => some (.look sd b t)
  | _, _ => none
theorem path_lt : ∀ {p : List Int} {t : Tr}, p ∈ pathsT t → p.length < sz t
  | [], t, _ => sz_pos t
  | i :: p, t, h => by
    rw [paths_kids] at h
    rcases List.mem_cons.mp h with h | h
    · cases h
    · obtain ⟨j, c, p', h0, h1, h2⟩ := pathsK_at h
      obtain ⟨_, rfl⟩ := List.cons.inj h2
      have := path_lt h1
      have := szs_mem (List.mem_of_getElem? h0)
      rw [sz_kids, List.length_cons]
      omega
/-- the tree with another one at a path -/
def withT : Tr → List Int → Tr → Option Tr
  | _, [], u => some u
  | .rep t lo hi lz, _ :: p, u => (withT t p u).map fun t' => .rep t' lo hi lz
  | .grp n t, _ :: p, u => (withT t p u).map fun t' => .grp n t'
  | .look sd b t, _ :: p, u => (withT t p u).map fun t' => .look sd b t'
  | .seq ts, i :: p, u => if 0 ≤ i then (ts[i.toNat]?).bind fun c => (withT c p u).map fun c' => .seq (ts.set i.toNat c') else none
  | .alt ts, i :: p, u => if 0 ≤ i then (ts[i.toNat]?).bind fun c => (withT c p u).map fun c' => .alt (ts.set i.toNat c') else none
  | .empty, _ :: _, _ => none
  | .set _, _ :: _, _ => none
  | .edge _, _ :: _, _ => none
  | .same _, _ :: _, _ => none
theorem with_kids : ∀ {t t' u : Tr} {i : Int} {p : List Int}, i :: p ∈ pathsT t → withT t (i :: p) u = some t' → ∃ (j : Nat) (c c' : Tr), i = (j : Nat) ∧ (kids t)[j]? = some c ∧ p ∈ pathsT c ∧ withT c p u = some c' ∧ setK t ((kids t).set j c') = some t' := by
  intro t t' u i p hp h
  rw [paths_kids] at hp
  rcases List.mem_cons.mp hp with hp | hp
  · cases hp
  obtain ⟨j, c, p', h0, h1, h2⟩ := pathsK_at hp
  rw [Nat.zero_add] at h2
  obtain ⟨rfl, rfl⟩ := List.cons.inj h2
  have one : ∀ {x : Tr}, [x][j]? = some c → j = 0 ∧ x = c := fun {x} hx => by
    cases j with
    | zero => exact ⟨rfl, Option.some.inj hx⟩
    | succ j => simp at hx
  cases t with
  | seq ts =>
    rw [withT, if_pos (Int.natCast_nonneg j), Int.toNat_natCast] at h
    obtain ⟨c2, hc, h3⟩ := Option.bind_eq_some_iff.mp h
    obtain ⟨c', h4, rfl⟩ := Option.map_eq_some_iff.mp h3
    rw [kids] at h0
    rw [h0] at hc
    cases hc
    exact ⟨j, c, c', rfl, h0, h1, h4, rfl⟩
  | alt ts =>
    rw [withT, if_pos (Int.natCast_nonneg j), Int.toNat_natCast] at h
    obtain ⟨c2, hc, h3⟩ := Option.bind_eq_some_iff.mp h
    obtain ⟨c', h4, rfl⟩ := Option.map_eq_some_iff.mp h3
    rw [kids] at h0
    rw [h0] at hc
    cases hc
    exact ⟨j, c, c', rfl, h0, h1, h4, rfl⟩
  | rep x lo hi lz =>
    rw [withT] at h
    obtain ⟨c', h4, rfl⟩ := Option.map_eq_some_iff.mp h
    obtain ⟨rfl, rfl⟩ := one h0
    exact ⟨0, x, c', rfl, rfl, h1, h4, rfl⟩
  | grp n x =>
    rw [withT] at h
    obtain ⟨c', h4, rfl⟩ := Option.map_eq_some_iff.mp h
    obtain ⟨rfl, rfl⟩ := one h0
    exact ⟨0, x, c', rfl, rfl, h1, h4, rfl⟩
  | look sd b x =>
    rw [withT] at h
    obtain ⟨c', h4, rfl⟩ := Option.map_eq_some_iff.mp h
    obtain ⟨rfl, rfl⟩ := one h0
    exact ⟨0, x, c', rfl, rfl, h1, h4, rfl⟩
  | empty => simp [kids] at h0
  | set _ => simp [kids] at h0
  | edge _ => simp [kids] at h0
  | same _ => simp [kids] at h0

theorem setK_kids : ∀ {t t' : Tr} {ks : List Tr}, setK t ks = some t' → kids t' = ks ∧ isLook t' = isLook t := by
  intro t t' ks h
  cases t with
  | seq ts => cases Option.some.inj h; exact ⟨rfl, rfl⟩
  | alt ts => cases Option.some.inj h; exact ⟨rfl, rfl⟩
  | rep x lo hi lz =>
    match ks, h with
    | [c], h => cases Option.some.inj h; exact ⟨rfl, rfl⟩
  | grp n x =>
    match ks, h with
    | [c], h => cases Option.some.inj h; exact ⟨rfl, rfl⟩
  | look sd b x =>
    match ks, h with
    | [c], h => cases Option.some.inj h; exact ⟨rfl, rfl⟩
  | empty => cases ks <;> simp [setK] at h
  | set cs => cases ks <;> simp [setK] at h
  | edge k => cases ks <;> simp [setK] at h
  | same nn => cases ks <;> simp [setK] at h
theorem setK_back : ∀ {t t' : Tr} {ks : List Tr}, ks.length = (kids t).length → setK t ks = some t' → setK t' (kids t) = some t := by
  intro t t' ks hl h
  cases t with
  | seq ts => cases Option.some.inj h; rfl
  | alt ts => cases Option.some.inj h; rfl
  | rep x lo hi lz =>
    match ks, h with
    | [c], h => cases Option.some.inj h; rfl
  | grp n x =>
    match ks, h with
    | [c], h => cases Option.some.inj h; rfl
  | look sd b x =>
    match ks, h with
    | [c], h => cases Option.some.inj h; rfl
  | empty => cases ks <;> simp [setK] at h
  | set cs => cases ks <;> simp [setK] at h
  | edge k => cases ks <;> simp [setK] at h
  | same nn => cases ks <;> simp [setK] at h
theorem setK_some {t c' : Tr} {j : Nat} {c : Tr} (h : (kids t)[j]? = some c) : ∃ t', setK t ((kids t).set j c') = some t' := by
  have one : ∀ {x : Tr}, [x][j]? = some c → j = 0 := fun {x} hx => by
    cases j with
    | zero => rfl
    | succ j => simp at hx
  cases t with
  | seq ts => exact ⟨_, rfl⟩
  | alt ts => exact ⟨_, rfl⟩
  | rep x lo hi lz => cases one h; exact ⟨_, rfl⟩
  | grp n x => cases one h; exact ⟨_, rfl⟩
  | look sd b x => cases one h; exact ⟨_, rfl⟩
  | empty => simp [kids] at h
  | set _ => simp [kids] at h
  | edge _ => simp [kids] at h
  | same _ => simp [kids] at h
theorem with_cons {t t' c c' u : Tr} {j : Nat} {p : List Int} (h : (kids t)[j]? = some c) (hw : withT c p u = some c') (hs : setK t ((kids t).set j c') = some t') : withT t (((j : Nat) : Int) :: p) u = some t' := by
  have one : ∀ {x : Tr}, [x][j]? = some c → j = 0 ∧ x = c := fun {x} hx => by
    cases j with
    | zero => exact ⟨rfl, Option.some.inj hx⟩
    | succ j => simp at hx
  cases t with
  | seq ts =>
    rw [withT, if_pos (Int.natCast_nonneg j), Int.toNat_natCast]
    rw [kids] at h
    rw [h, Option.bind_some, hw]
    exact hs
  | alt ts =>
    rw [withT, if_pos (Int.natCast_nonneg j), Int.toNat_natCast]
    rw [kids] at h
    rw [h, Option.bind_some, hw]
    exact hs
  | rep x lo hi lz =>
    obtain ⟨rfl, rfl⟩ := one h
    rw [withT, hw]
    exact hs
  | grp n x =>
    obtain ⟨rfl, rfl⟩ := one h
    rw [withT, hw]
    exact hs
  | look sd b x =>
    obtain ⟨rfl, rfl⟩ := one h
    rw [withT, hw]
    exact hs
  | empty => simp [kids] at h
  | set _ => simp [kids] at h
  | edge _ => simp [kids] at h
  | same _ => simp [kids] at h
theorem with_nil {t u : Tr} : withT t [] u = some u := by cases t <;> rw [withT]
theorem mem_paths_kid {t c : Tr} {j : Nat} {p : List Int} (h : (kids t)[j]? = some c) (hp : p ∈ pathsT c) : ((j : Nat) : Int) :: p ∈ pathsT t := by
  rw [paths_kids]
  refine List.mem_cons_of_mem _ ?_
  have go : ∀ (ts : List Tr) (i j : Nat), ts[j]? = some c → (((i + j : Nat) : Int) :: p) ∈ pathsK i ts := fun ts => by
    induction ts with
    | nil => intro i j h; simp at h
    | cons x r ih =>
      intro i j h
      rw [pathsK]
      cases j with
      | zero =>
        cases Option.some.inj h
        exact List.mem_append_left _ (List.mem_map.mpr ⟨p, hp, rfl⟩)
      | succ j =>
        have := ih (i + 1) j h
        rw [show i + 1 + j = i + (j + 1) by omega] at this
        exact List.mem_append_right _ this
  have := go (kids t) 0 j h
  rwa [Nat.zero_add] at this
theorem with_some {u : Tr} : ∀ {p : List Int} {t : Tr}, p ∈ pathsT t → ∃ t', withT t p u = some t'
  | [], t, _ => ⟨u, with_nil⟩
  | i :: p, t, h => by
    rw [paths_kids] at h
    rcases List.mem_cons.mp h with h | h
    · cases h
    · obtain ⟨j, c, p', h0, h1, h2⟩ := pathsK_at h
      rw [Nat.zero_add] at h2
      obtain ⟨rfl, rfl⟩ := List.cons.inj h2
      obtain ⟨c', hc'⟩ := with_some (u := u) h1
      obtain ⟨t', ht'⟩ := setK_some (c' := c') h0
      exact ⟨t', with_cons h0 hc' ht'⟩
theorem Dp.mono : ∀ {n : Nat} {t : Tr}, Dp n t → ∀ m, n ≤ m → Dp m t
  | 0, _, h, _, _ => h.zero'.elim
  | n + 1, t, h, m, hm => by
    obtain ⟨k, rfl⟩ : ∃ k, m = k + 1 := ⟨m - 1, by omega⟩
    exact .mk fun c hc => (h.kid hc).mono k (by omega)
theorem szs_set : ∀ {ts : List Tr} {j : Nat} {c c' : Tr}, ts[j]? = some c → szs (ts.set j c') + sz c = szs ts + sz c'
  | [], _, _, _, h => by simp at h
  | x :: ts, 0, c, c', h => by
    cases Option.some.inj h
    rw [List.set_cons_zero, szs, szs]
    omega
  | x :: ts, j + 1, c, c', h => by
    have := szs_set (ts := ts) (j := j) (c' := c') h
    rw [List.set_cons_succ, szs, szs]
    omega
/-- what replacing keeps -/
theorem with_keeps {u : Tr} : ∀ {p : List Int} {t t' : Tr} {n m : Nat}, p ∈ pathsT t → withT t p u = some t' → Dp n t → Dp m u → p ∈ pathsT t' ∧ Dp (n + m) t' ∧ sz t' ≤ sz t + sz u ∧ (∀ c, nodeT t p = some c → withT t' p c = some t)
  | [], t, t', n, m, _, hw, hd, hu => by
    rw [with_nil] at hw
    cases Option.some.inj hw
    refine ⟨?_, hu.mono _ (by omega), by omega, fun c hc => ?_⟩
    · rw [paths_kids]
      exact List.mem_cons_self ..
    · rw [nodeT] at hc
      cases Option.some.inj hc
      exact with_nil
  | i :: p, t, t', n, m, hp, hw, hd, hu => by
    obtain ⟨j, c, c', rfl, hj, hpc, hwc, hsk⟩ := with_kids hp hw
    obtain ⟨n', rfl⟩ : ∃ n', n = n' + 1 := by
      cases n with
      | zero => exact hd.zero'.elim
      | succ n => exact ⟨n, rfl⟩
    have hcm := List.mem_of_getElem? hj
    have hjl := (List.getElem?_eq_some_iff.mp hj).1
    obtain ⟨k1, k2, k3, k4⟩ := with_keeps hpc hwc (hd.kid hcm) hu
    obtain ⟨hk, _⟩ := setK_kids hsk
    have hj' : (kids t')[j]? = some c' := by rw [hk, List.getElem?_set_self hjl]
    refine ⟨mem_paths_kid hj' k1, ?_, ?_, fun x hx => ?_⟩
    · rw [show n' + 1 + m = (n' + m) + 1 by omega]
      refine .mk fun y hy => ?_
      rw [hk] at hy
      rcases List.mem_or_eq_of_mem_set hy with hy | rfl
      · exact (hd.kid hy).mono _ (by omega)
      · exact k2
    · rw [sz_kids t', sz_kids t, hk]
      have := szs_set (c' := c') hj
      omega
    · rw [nodeT, if_pos (Int.natCast_nonneg j), Int.toNat_natCast, hj] at hx
      have hb := k4 x hx
      refine with_cons hj' hb ?_
      rw [hk, List.set_set, show (kids t).set j c = kids t from ?_]
      · exact setK_back (by rw [List.length_set]) hsk
      · refine List.ext_getElem? fun q => ?_
        by_cases e : j = q
        · subst e
          rw [List.getElem?_set_self hjl, hj]
        · rw [List.getElem?_set_ne e]
end My
namespace My
open PySem L2
/-! ### enumerate over a tuple -/
/-- the tuple at a, each item beside its number in a new pair -/
def Itu (K : PySem.W.Frag) (a : Addr) : It where
  go := fun i H => ∃ xs x, SqT K H a xs ∧ xs[i]? = some x
  yld := fun i H v H' => ∃ T x, (v = .ref T ∧ H T = none) ∧ H' = upd H T (.tup [.int (i : Nat), x]) ∧ ∀ xs, SqT K H a xs → xs[i]? = some x
  stop := fun i H => ∃ xs : List V, SqT K H a xs ∧ xs.length = i
def EnT (e it a : Addr) (i : Nat) (h : Heap) : Prop := (∃ old, IsEnum h e it (i : Int) old) ∧ Heap.IsTupleIter h it a i ∧ e ≠ it
theorem two_of {b e it : Addr} (h : b ∈ [e, it]) : b = e ∨ b = it := by simpa using h
theorem turn_enumT {P : Program} {w : World} {K : PySem.W.Frag} {es : List Expr} {kk : Nat} {tp : Pos} (a e it : Addr) : Turn P w K (.Tuple es kk tp) (Itu K a) [e, it] e (EnT e it a) := by
  refine { mem := List.mem_cons_self .., obj := ?_, keep := ?_, item := ?_, done := ?_, self := fun A i s Q E st h => by obtain ⟨⟨_, z⟩, _⟩ := st; exact wpAny_pyIter_enum z h }
  · intro i h st b hb
    obtain ⟨⟨old, he⟩, ⟨o, ho, _, hd⟩, _⟩ := st
    rcases two_of hb with rfl | rfl
    · exact ⟨_, he, fun v q => by cases q⟩
    · exact ⟨o, ho, fun v q => by rw [hd] at q; cases q⟩
  · intro i h h' st k
    obtain ⟨⟨old, he⟩, hi, ne⟩ := st
    exact ⟨⟨old, k e (List.mem_cons_self ..) _ he⟩, hi.at fun o q => k it (List.mem_cons_of_mem _ (List.mem_cons_self ..)) o q, ne⟩
  · intro X hP hw hK hc i pins s σ H E I hf st hg
    subst hP hw hK
    obtain ⟨⟨old, he⟩, hit, ne⟩ := st
    obtain ⟨xs, x, hq, hx⟩ := hg
    obtain ⟨its, rv, p, _⟩ := I.tuple hq
    obtain ⟨u, hu, ru⟩ := rv.get hx
    have hat : s.heap.IsTuple a its.toArray := p
    have el := Heap.lt_size he
    have il : it < s.heap.objs.size := by
      obtain ⟨_, q, _⟩ := hit
      exact Heap.lt_size q
    have ai : a ≠ it := fun z => by
      obtain ⟨o1, h1, h2, _⟩ := hit
      obtain ⟨o2, h3, h4, _⟩ := hat
      rw [z, h1] at h3
      rw [← Option.some.inj h3, h2] at h4
      simp at h4
    have ae : a ≠ e := fun z => by
      obtain ⟨o2, h3, h4, _⟩ := hat
      rw [z, he] at h3
      rw [← Option.some.inj h3] at h4
      simp at h4
    have hlt : i < its.toArray.size := by
      rw [List.size_toArray]
      exact (List.getElem?_eq_some_iff.mp hu).1
    refine wpAny_pyNext_enum_itemD (Draws.tuple (A := X.A.in1) (I.ok.hd hc) it a ai its.toArray) he ⟨hit, hat⟩ hlt ne (by simp [ne, Ne.symm ae]) fun y h' tk hy ho hst hT hz hk => ⟨_, rfl, ?_⟩
    have yu : y = u := by
      rw [List.getElem?_toArray, hu] at hy
      exact (Option.some.inj hy).symm
    subst yu
    refine wpAny_letOwnedTupleGo_enum (s := { s with heap := h', toks := tk + 1 }) ho fun h2 he2 sb => ?_
    obtain ⟨N, eN⟩ : ∃ N, N = s.heap.objs.size := ⟨_, rfl⟩
    rw [← eN] at hT hz ho ⊢
    rw [← eN] at el il
    have gone : H N = none := I.hok.fresh (Nat.le_of_eq eN.symm)
    have hT2 : h2.get? N = some { cls := .type "tuple", data := .seq #[.int i tk, y] } := (sb.2 N (Nat.ne_of_gt el)).trans hT
    have new : ObjOk X.prog X.w (upd H N (.tup [.int (i : Nat), x])) h2 N (.tup [.int (i : Nat), x]) := ⟨(by decide : 2 ≤ sizeLine), _, .cons ⟨_, rfl⟩ (.cons ru .nil), ⟨_, hT2, rfl, _, rfl⟩⟩
    have I1 := I.turnedNew (t' := tk + 1) (ch := [e, it]) (fun b ob hb q => (sb.2 b fun z => hb (by simp [z])).trans (hk b ob (fun z => hb (by simp [z])) (fun z => hb (by simp [z])) q)) hf (Nat.le_of_eq eN.symm) new
    refine ⟨.ref N, _, I1, rfl, ⟨N, x, ⟨rfl, gone⟩, rfl, fun ys hy => ?_⟩, ⟨⟨y, ?_⟩, hst.1.at fun o q => (sb.2 it (Ne.symm ne)).trans q, ne⟩, fun b hb => ?_⟩
    · rw [I.tuple_inj hy hq]
      exact hx
    · rw [show ((i + 1 : Nat) : Int) = (i : Int) + 1 from rfl]
      exact he2
    · have lt : b < N := by
        rcases two_of hb with h | h
        · rw [h]; exact el
        · rw [h]; exact il
      rw [upd_ne (Nat.ne_of_lt lt)]
      exact (hf b hb).1
  · intro X hP hw hK hc i pins s σ H E I hf st hg
    subst hP hw hK
    obtain ⟨⟨old, he⟩, hit, ne⟩ := st
    obtain ⟨xs, hq, hx⟩ := hg
    obtain ⟨its, rv, p, _⟩ := I.tuple hq
    have hat : s.heap.IsTuple a its.toArray := p
    have ai : a ≠ it := fun z => by
      obtain ⟨o1, h1, h2, _⟩ := hit
      obtain ⟨o2, h3, h4, _⟩ := hat
      rw [z, h1] at h3
      rw [← Option.some.inj h3, h2] at h4
      simp at h4
    have hn : its.toArray.size = i := by rw [List.size_toArray, ← rv.length, hx]
    obtain ⟨f0, f1, f2, f3, f4, f5⟩ := hf it (List.mem_cons_of_mem _ (List.mem_cons_self ..))
    exact wpAny_pyNext_enum_endD (Draws.tuple (A := X.A.in1) (I.ok.hd hc) it a ai its.toArray) he ⟨by rw [hn]; exact hit, hat⟩ fun h' eb => ⟨rfl, I.turned (t' := s.toks) (fun b o hb q => eb b o hb q) f0 f1 f3 f4 f5⟩
theorem meets_enumT (t : Addr) (items : Array Value) : Meets (Builtin.«enumerate.__new__» ⟨[.type "enumerate", .ref t], []⟩) (fun _ R s => s.heap.IsTuple t items ∧ R (.ok (.ret (.ref (s.heap.objs.size + 1)))) { s with heap := (s.heap.push { cls := .type "tuple_iterator", data := .fields #[.ref t, .int 0 0] }).push { cls := .type "enumerate", data := .fields #[.none, .bool false, .ref s.heap.objs.size, rawInt 0, .none, .none] } }) := .of_wp fun prog w A R s h => by
  obtain ⟨hp, g, d, tk, os⟩ := s
  obtain ⟨hT, h⟩ := h
  have hz : (hp.push { cls := .type "tuple_iterator", data := .fields #[.ref t, .int 0 0] }).objs.size = hp.objs.size + 1 := Heap.size_push ..
  have hh := sub_enumerate
  dsimp only at h
  rw [← hz] at h
  wp_walk using wpAny_pyIter_tuple hT
  refine wpAny_stack_any fun st => wpAny_pure ?_
  split
  · rename_i c _ _ _ _ _
    cases (c == Value.type "enumerate") <;> (wp_walk using wpAny_pyIter_tuple hT; exact ⟨_, rfl, h⟩)
  · wp_walk using wpAny_pyIter_tuple hT
    exact ⟨_, rfl, h⟩
theorem call_enumT {prog : Program} {w : World} {A : Around} {E : Value → Shared → Prop} {s : Shared} {t : Addr} {items : Array Value} {Q : Value → Shared → Prop} (hT : s.heap.IsTuple t items)
    (h : ∀ h', EnT (s.heap.objs.size + 1) s.heap.objs.size t 0 h' → (∀ b o, s.heap.get? b = some o → h'.get? b = some o) → Q (.ref (s.heap.objs.size + 1)) { s with heap := h' }) : wpAny (model prog w) A (call (.type "enumerate") [.ref t]) Q E s := by
  have hz : (s.heap.push { cls := .type "tuple_iterator", data := .fields #[.ref t, .int 0 0] }).objs.size = s.heap.objs.size + 1 := Heap.size_push ..
  refine callType_new F.called_enumerate (by decide) (F.typeCall_enumerate_1 _) (F.newCall_enumerate_1 _) (fun obj => F.args_object_init_2 obj _) F.entry_enumerate_new (meets_enumT t items) ⟨hT, ?_⟩
  have e1 := Heap.get?_push_size (s.heap.push { cls := .type "tuple_iterator", data := .fields #[.ref t, .int 0 0] }) (o := { cls := .type "enumerate", data := .fields #[.none, .bool false, .ref s.heap.objs.size, rawInt 0, .none, .none] }) rfl
  rw [hz] at e1
  have hE : EnT (s.heap.objs.size + 1) s.heap.objs.size t 0 ((s.heap.push { cls := .type "tuple_iterator", data := .fields #[.ref t, .int 0 0] }).push { cls := .type "enumerate", data := .fields #[.none, .bool false, .ref s.heap.objs.size, rawInt 0, .none, .none] }) :=
    ⟨⟨.none, e1⟩, ⟨_, Heap.get?_push_of_some _ (Heap.get?_push_size _ rfl), rfl, rfl⟩, Nat.succ_ne_self _⟩
  exact ⟨⟨_, e1, rfl⟩, h _ hE fun b o x => Heap.get?_push_of_some _ (Heap.get?_push_of_some _ x)⟩
def iEnumT (K : PySem.W.Frag) (ta : TA) : TI := fun σ H R => ta σ H fun vs H1 => ∃ a xs, vs = [.ref a] ∧ SqT K H1 a xs ∧ R (Itu K a) H1
theorem pi_enumT {X : Cx} {e : Expr} {ta : TA} {p pos tp : Pos} {es : List Expr} {kk : Nat} (hg : Gl X "enumerate") (hm : X.mg "enumerate" = none) (ha : PA X [e] ta) (hs : starEach [e] X.env = [(false, eval e X.env)] := by rfl) : PI X (.Tuple es kk tp) (.Call (.Name "enumerate" p) [e] [] pos) (iEnumT X.K ta) := by
  constructor
  intro pins s σ H R I h
  refine PyProof.Rows.Call_ (ld_blt I hg hm PyProof.Rows.boot_enumerate (PyProof.Rows.callWith_type1 (thn (ha.run pos pins s σ H _ I h) fun us s1 w1 => ?_) hs rfl))
  obtain ⟨vs, H1, I1, r1, a, xs, rfl, hq, q⟩ := w1
  rw [Vals.ref1 r1]
  obtain ⟨its, rv, p', _⟩ := I1.tuple hq
  have hat : s1.heap.IsTuple a its.toArray := p'
  refine call_enumT hat fun h' st hk => ?_
  obtain ⟨N, eN⟩ : ∃ N, N = s1.heap.objs.size := ⟨_, rfl⟩
  rw [← eN] at st ⊢
  refine wpAny_pyIter_enum st.1.choose_spec ⟨N + 1, [N + 1, N], EnT (N + 1) N a, Itu X.K a, H1, rfl, I1.kept (t' := s1.toks) hk, turn_enumT a (N + 1) N, st, fun b hb => ?_, q⟩
  have le : s1.heap.objs.size ≤ b := by
    rw [← eN]
    rcases two_of hb with h | h
    · rw [h]; exact Nat.le_succ N
    · rw [h]; exact Nat.le_refl N
  exact I1.fpOk le (I1.hok.fresh le)
/-- a loop over it: at each turn a new pair -/
theorem forJ_enumT {K : PySem.W.Frag} {a : Addr} {xs : List V} {g : TG} {tb : TS} {D : Ends} {σ : St} {H : Hp} (Pv : Nat → St → Hp → Prop) (hG : ∀ i σ H, Pv i σ H → SqT K H a xs) (h0 : Pv 0 σ H)
    (hs : ∀ i x σ H T, xs[i]? = some x → Pv i σ H → H T = none → g (.ref T) σ (upd H T (.tup [.int (i : Nat), x])) fun σ2 H2 => tb { D with nx := Pv (i + 1), ct := Pv (i + 1), bk := D.nx } σ2 H2) (hd : ∀ σ H, Pv xs.length σ H → D.nx σ H) : ForJ (Itu K a) g tb D σ H := by
  have wk : Walk (Itu K a) xs.length (fun H => SqT K H a xs) (YPair (fun i => some (.int (i : Nat))) (fun i => xs[i]?)) := by
    refine ⟨fun i _ hi q => ⟨xs, xs[i], q, by simp [hi]⟩, fun _ q => ⟨xs, q, rfl⟩, fun i H v H' _ q y => ?_⟩
    obtain ⟨T, x, ⟨h1, h2⟩, h3, h4⟩ := y
    exact ⟨T, _, x, h1, h2, h3, rfl, h4 xs q⟩
  refine for_it wk Pv h0 (fun i σ H _ h => hG i σ H h) (fun i v σ H H' hi hp y => ?_) hd
  obtain ⟨T, y1, x, rfl, hn, rfl, e1, e2⟩ := y
  cases Option.some.inj e1
  exact hs i x σ H T e2 hp hn
end My
namespace My
open PySem L2 HT
/-- t + u of any two tuples -/
def rCatU (K : PySem.W.Frag) : R2 := fun x y H Q => ∃ (a b : Addr) (xs ys : List V), x = .ref a ∧ y = .ref b ∧ SqT K H a xs ∧ SqT K H b ys ∧ xs.length + ys.length ≤ sizeLine ∧ ∀ (q : Addr) (H' : Hp), Same H H' → SqT K H' q (xs ++ ys) → Q (.ref q) H'
theorem op_catU {X : Cx} : OpR X (binaryOp .Add) (rCatU X.K) := by
  intro pins s σ H x y v u Q I rx ry h
  obtain ⟨a, b, xs, ys, rfl, rfl, ha, hb, hz, q⟩ := h
  by_cases hx : xs = []
  · subst hx
    cases rx
    cases ry
    obtain ⟨its, r1, p1, _⟩ := I.tuple ha
    obtain ⟨its2, r2, p2, _⟩ := I.tuple hb
    obtain ⟨⟨cls, dd, data, sl⟩, ho, hc, n, hd⟩ := id p1
    obtain ⟨⟨cls2, dd2, data2, sl2⟩, ho2, hc2, n2, hd2⟩ := id p2
    simp only at hc hd hc2 hd2
    subst hc hd hc2 hd2
    have e0 : its = [] := r1.nil_iff.mpr rfl
    exact concat_meets ⟨_, ho, rfl⟩ ⟨_, ho2, rfl⟩ noFill_tuple_add seq_tuple_add PySem.F.slot_tuple_add PySem.F.entry_tuple_add (PySem.F.args_tuple_add_2 _ _) (PyProof.Rows.tuple_addW0 a b its.toArray its2.toArray n n2 dd dd2 sl sl2 (by simp [e0])) ⟨ho, ho2, ⟨.ref b, H, I, rfl, q b H (Same.refl _) hb⟩⟩
  · exact op_catT pins s σ H _ _ v u Q I rx ry ⟨a, b, xs, ys, rfl, rfl, ha, hb, hx, hz, fun e => q a H (Same.refl _) (by rw [e, List.append_nil]; exact ha), fun e p hp => q p _ (same_upd hp) (SqT.of upd_same)⟩
end My
namespace My
open PySem L2
/-! ### reading a def over plain data: no heap, no addresses -/
/-- a value: data, or a list of data that is read -/
inductive Vl where
  | da (d : Da)
  | ls (l : List Da)
/-- a slot: data; a list that is held; a list of one's own; the draw -/
inductive Sl where
  | vl (d : Da)
  | ls (a : Addr) (l : List Da)
  | own (a : Addr) (l : List Da)
  | dr
abbrev Evn := List (Option Sl)
abbrev Dl := Option (Addr × Addr)
/-- a list that stands -/
def Lq (K : PySem.W.Frag) (H : Hp) (a : Addr) (vs : List V) : Prop := H a = some (.lst vs)
theorem Lq.sq {K : PySem.W.Frag} {H : Hp} {a : Addr} {vs : List V} (h : Lq K H a vs) : SqL K H a vs := .inl (.inl h)
def VlAt (K : PySem.W.Frag) (dl : Dl) (H : Hp) : Vl → V → Prop
  | .da d, v => DaAt K H d v
  | .ls l, v => ∃ a vs, v = .ref a ∧ Lq K H a vs ∧ DasAt K H l vs ∧ ∀ d e, dl = some (d, e) → a ≠ d
/-- all but the draw stands -/
def Mv (dl : Dl) (H H' : Hp) : Prop := ∀ b o, (∀ d l, dl = some (d, l) → b ≠ d) → H b = some o → H' b = some o
def DlAt (dl : Dl) (H : Hp) : Prop := ∀ d l, dl = some (d, l) → Dry H d l
theorem Mv.refl (dl : Dl) (H : Hp) : Mv dl H H := fun _ _ _ h => h
theorem Mv.trans {dl : Dl} {H H1 H2 : Hp} (a : Mv dl H H1) (b : Mv dl H1 H2) : Mv dl H H2 := fun c o n h => b c o n (a c o n h)
theorem Mv.same {dl : Dl} {H H' : Hp} (s : Same H H') : Mv dl H H' := fun c o _ h => s c o h
theorem Mv.toSame {H H' : Hp} (m : Mv none H H') : Same H H' := fun c o h => m c o (fun _ _ e => by cases e) h
theorem Mv.but {d l : Addr} {H H' : Hp} (m : Mv (some (d, l)) H H') : But d H H' := fun c o n h => m c o (fun _ _ e => by cases e; exact n) h
theorem Mv.ofBut {d l : Addr} {H H' : Hp} (m : But d H H') : Mv (some (d, l)) H H' := fun c o n h => m c o (n _ _ rfl) h
theorem Mv.tk {K : PySem.W.Frag} {dl : Dl} {H H' : Hp} (m : Mv dl H H') (q : DlAt dl H) : Tk K H H' := by
  cases dl with
  | none => exact .same m.toSame
  | some p => exact m.but.tk (q _ _ rfl)
theorem Mv.sql {K : PySem.W.Frag} {dl : Dl} {H H' : Hp} {a : Addr} {vs : List V} (m : Mv dl H H') (n : ∀ d e, dl = some (d, e) → a ≠ d) (h : Lq K H a vs) : Lq K H' a vs := m _ _ n h
theorem DlAt.same {dl : Dl} {H H' : Hp} (q : DlAt dl H) (s : Same H H') : DlAt dl H' := fun d l e => (q d l e).same s
theorem DlAt.ne {dl : Dl} {H : Hp} {p : Addr} (q : DlAt dl H) (n : H p = none) : ∀ d e, dl = some (d, e) → p ≠ d := fun d e h => (q d e h).ne n
theorem VlAt.keep {K : PySem.W.Frag} {dl : Dl} {H H' : Hp} (m : Mv dl H H') (q : DlAt dl H) : ∀ {x : Vl} {v : V}, VlAt K dl H x v → VlAt K dl H' x v
  | .da _, _, h => DaAt.keep (m.tk q) h
  | .ls _, _, ⟨a, vs, e, h, r, n⟩ => ⟨a, vs, e, m.sql n h, r.keep (m.tk q), n⟩
inductive VlsAt (K : PySem.W.Frag) (dl : Dl) (H : Hp) : List Vl → List V → Prop where
  | nil : VlsAt K dl H [] []
  | cons {x : Vl} {v : V} {xs : List Vl} {vs : List V} (h : VlAt K dl H x v) (r : VlsAt K dl H xs vs) : VlsAt K dl H (x :: xs) (v :: vs)
theorem VlsAt.keep {K : PySem.W.Frag} {dl : Dl} {H H' : Hp} (m : Mv dl H H') (q : DlAt dl H) : ∀ {xs : List Vl} {vs : List V}, VlsAt K dl H xs vs → VlsAt K dl H' xs vs
  | _, _, .nil => .nil
  | _, _, .cons h r => .cons (h.keep m q) (VlsAt.keep m q r)
theorem VlsAt.len {K : PySem.W.Frag} {dl : Dl} {H : Hp} : ∀ {xs : List Vl} {vs : List V}, VlsAt K dl H xs vs → vs.length = xs.length
  | _, _, .nil => rfl
  | _, _, .cons _ r => by rw [List.length_cons, List.length_cons, r.len]
abbrev Hs := List (Addr × List Da)
def SlAt (K : PySem.W.Frag) (H0 : Hp) (dl : Dl) (hs : Hs) (H : Hp) : Sl → V → Prop
  | .vl d, v => DaAt K H d v
  | .ls a l, v => v = .ref a ∧ (a, l) ∈ hs
  | .own a l, v => v = .ref a ∧ ∃ vs, H a = some (.lst vs) ∧ DasAt K H l vs ∧ H0 a = none ∧ ∀ p ∈ hs, p.1 ≠ a
  | .dr, v => ∃ d l, dl = some (d, l) ∧ v = .ref d
structure EnvAt (K : PySem.W.Frag) (H0 : Hp) (dl : Dl) (hs : Hs) (H : Hp) (σ : St) (env : Evn) : Prop where
  len : σ.length = env.length
  dlat : DlAt dl H
  dl0 : DlAt dl H0
  mv : Mv dl H0 H
  held : ∀ p ∈ hs, ∃ vs, Lq K H p.1 vs ∧ DasAt K H p.2 vs ∧ ∀ d e, dl = some (d, e) → p.1 ≠ d
  slot : ∀ (i : Nat) (s : Sl), env[i]? = some (some s) → ∃ v, σ[i]? = some (some v) ∧ SlAt K H0 dl hs H s v
  apart : ∀ (i j : Nat) (a b : Addr) (l l' : List Da), i ≠ j → env[i]? = some (some (.own a l)) → env[j]? = some (some (.own b l')) → a ≠ b
section
variable {K : PySem.W.Frag} {H0 H H' : Hp} {dl : Dl} {hs : Hs} {σ : St} {env : Evn}
theorem EnvAt.go (E : EnvAt K H0 dl hs H σ env) (m : Mv dl H H') (q : DlAt dl H') : EnvAt K H0 dl hs H' σ env := by
  have tk := m.tk (K := K) E.dlat
  refine ⟨E.len, q, E.dl0, E.mv.trans m, fun p hp => ?_, fun i s h => ?_, E.apart⟩
  · obtain ⟨vs, h1, h2, h3⟩ := E.held p hp
    exact ⟨vs, m.sql h3 h1, h2.keep tk, h3⟩
  · obtain ⟨v, h1, h2⟩ := E.slot i s h
    refine ⟨v, h1, ?_⟩
    cases s with
    | vl d => exact DaAt.keep tk h2
    | ls a l => exact h2
    | own a l =>
      obtain ⟨e, vs, ha, hd, h0, hn⟩ := h2
      exact ⟨e, vs, m _ _ (E.dl0.ne h0) ha, hd.keep tk, h0, hn⟩
    | dr => exact h2
theorem set_self {i : Nat} {s : Option Sl} {t : Sl} (h : (env.set i s)[i]? = some (some t)) : i < env.length ∧ s = some t := by
  have hl : i < env.length := by
    have := (List.getElem?_eq_some_iff.mp h).1
    rwa [List.length_set] at this
  rw [List.getElem?_set_self hl] at h
  exact ⟨hl, Option.some.inj h⟩
/-- a slot written -/
theorem EnvAt.put (E : EnvAt K H0 dl hs H σ env) {i : Nat} {o : Option Sl} {v : V} (h : ∀ s, o = some s → SlAt K H0 dl hs H s v) (ap : ∀ (a : Addr) (l : List Da), o = some (.own a l) → ∀ (j : Nat) (b : Addr) (l' : List Da), j ≠ i → env[j]? = some (some (.own b l')) → b ≠ a) :
    EnvAt K H0 dl hs H (σ.set i (some v)) (env.set i o) := by
  refine ⟨by rw [List.length_set, List.length_set, E.len], E.dlat, E.dl0, E.mv, E.held, fun j s hj => ?_, fun j k a b l l' n hj hk => ?_⟩
  · by_cases e : i = j
    · subst e
      obtain ⟨hl, ho⟩ := set_self hj
      exact ⟨v, List.getElem?_set_self (by rw [E.len]; exact hl), h s ho⟩
    · rw [List.getElem?_set_ne e] at hj
      rw [List.getElem?_set_ne e]
      exact E.slot j s hj
  · by_cases ej : i = j
    · subst ej
      obtain ⟨_, ho⟩ := set_self hj
      rw [List.getElem?_set_ne n] at hk
      exact (ap a l ho k b l' (Ne.symm n) hk).symm
    · rw [List.getElem?_set_ne ej] at hj
      by_cases ek : i = k
      · subst ek
        obtain ⟨_, ho⟩ := set_self hk
        exact ap b l' ho j a l (Ne.symm ej) hj
      · rw [List.getElem?_set_ne ek] at hk
        exact E.apart j k a b l l' n hj hk
theorem EnvAt.set (E : EnvAt K H0 dl hs H σ env) {i : Nat} {d : Da} {v : V} (h : DaAt K H d v) : EnvAt K H0 dl hs H (σ.set i (some v)) (env.set i (some (.vl d))) :=
  E.put (fun s e => by cases e; exact h) (fun a l e => by cases e)
/-- a slot forgotten -/
theorem EnvAt.drop (E : EnvAt K H0 dl hs H σ env) (i : Nat) (o : Option V) : EnvAt K H0 dl hs H (σ.set i o) (env.set i none) := by
  refine ⟨by rw [List.length_set, List.length_set, E.len], E.dlat, E.dl0, E.mv, E.held, fun j s hj => ?_, fun j k a b l l' n hj hk => ?_⟩
  · have nj : i ≠ j := fun e => by
      subst e
      have := (set_self hj).2
      cases this
    rw [List.getElem?_set_ne nj] at hj ⊢
    exact E.slot j s hj
  · have nj : i ≠ j := fun e => by
      subst e
      have := (set_self hj).2
      cases this
    have nk : i ≠ k := fun e => by
      subst e
      have := (set_self hk).2
      cases this
    rw [List.getElem?_set_ne nj] at hj
    rw [List.getElem?_set_ne nk] at hk
    exact E.apart j k a b l l' n hj hk
/-- less is known -/
theorem EnvAt.weak {env' : Evn} (E : EnvAt K H0 dl hs H σ env) (hl : env'.length = env.length) (h : ∀ (i : Nat) (s : Sl), env'[i]? = some (some s) → env[i]? = some (some s)) : EnvAt K H0 dl hs H σ env' :=
  ⟨by rw [E.len, hl], E.dlat, E.dl0, E.mv, E.held, fun i s e => E.slot i s (h i s e), fun i j a b l l' n hi hj => E.apart i j a b l l' n (h _ _ hi) (h _ _ hj)⟩
/-- a new list, held while it is walked -/
theorem EnvAt.hold (E : EnvAt K H0 dl hs H σ env) {a : Addr} {l : List Da} {vs : List V} (h1 : Lq K H a vs) (h2 : DasAt K H l vs) (h3 : ∀ d e, dl = some (d, e) → a ≠ d) (hn : ∀ (i : Nat) (b : Addr) (l' : List Da), env[i]? = some (some (.own b l')) → a ≠ b) :
    EnvAt K H0 dl ((a, l) :: hs) H σ env := by
  refine ⟨E.len, E.dlat, E.dl0, E.mv, fun p hp => ?_, fun i s h => ?_, E.apart⟩
  · rcases List.mem_cons.mp hp with rfl | hp
    · exact ⟨vs, h1, h2, h3⟩
    · exact E.held p hp
  · obtain ⟨v, e, hv⟩ := E.slot i s h
    refine ⟨v, e, ?_⟩
    cases s with
    | vl d => exact hv
    | ls b l' => exact ⟨hv.1, List.mem_cons_of_mem _ hv.2⟩
    | own b l' =>
      obtain ⟨e1, vs', x1, x2, x3, x4⟩ := hv
      exact ⟨e1, vs', x1, x2, x3, fun p hp => by
        rcases List.mem_cons.mp hp with rfl | hp
        · exact hn i b l' h
        · exact x4 p hp⟩
    | dr => exact hv
/-- what does not mention the held list stands without it -/
theorem EnvAt.unhold {a : Addr} {l : List Da} (E : EnvAt K H0 dl ((a, l) :: hs) H σ env) (h : ∀ (i : Nat) (b : Addr) (l' : List Da), env[i]? = some (some (.ls b l')) → (b, l') ∈ hs) : EnvAt K H0 dl hs H σ env := by
  refine ⟨E.len, E.dlat, E.dl0, E.mv, fun p hp => E.held p (List.mem_cons_of_mem _ hp), fun i s e => ?_, E.apart⟩
  obtain ⟨v, e1, hv⟩ := E.slot i s e
  refine ⟨v, e1, ?_⟩
  cases s with
  | vl d => exact hv
  | ls b l' => exact ⟨hv.1, h i b l' e⟩
  | own b l' =>
    obtain ⟨e1, vs', x1, x2, x3, x4⟩ := hv
    exact ⟨e1, vs', x1, x2, x3, fun p hp => x4 p (List.mem_cons_of_mem _ hp)⟩
  | dr => exact hv
end
end My
namespace My
open PySem L2
section
variable {K : PySem.W.Frag} {H0 H H' : Hp} {dl : Dl} {hs : Hs} {σ : St} {env : Evn}
theorem EnvAt.write (E : EnvAt K H0 dl hs H σ env) {i : Nat} {l l' : List Da} {a : Addr} {vs' : List V} (hi : env[i]? = some (some (.own a l))) (hd : DasAt K (upd H a (.lst vs')) l' vs') :
    EnvAt K H0 dl hs (upd H a (.lst vs')) σ (env.set i (some (.own a l'))) := by
  obtain ⟨v, e1, rfl, vs, ha, _, h0, hn⟩ := E.slot i _ hi
  have tk : Tk K H (upd H a (.lst vs')) := .bl (.put ha)
  have n0 : ∀ b o, H0 b = some o → a ≠ b := fun b o e z => by rw [← z, h0] at e; cases e
  have hil := (List.getElem?_eq_some_iff.mp hi).1
  refine ⟨by rw [List.length_set, E.len], fun d l e => ?_, E.dl0, fun b o n e => by rw [upd_ne (fun z => n0 b o e z.symm)]; exact E.mv b o n e, fun p hp => ?_, fun j s hj => ?_, fun j k b c l1 l2 n hj hk => ?_⟩
  · obtain ⟨_, _, _, _, _, _, q1, q2, _⟩ := E.dl0 d l e
    exact (E.dlat d l e).put (n0 _ _ q1) (n0 _ _ q2)
  · obtain ⟨ws, h1, h2, h3⟩ := E.held p hp
    have na : p.1 ≠ a := hn p hp
    refine ⟨ws, (upd_ne na).trans h1, h2.keep tk, h3⟩
  · by_cases e : i = j
    · subst e
      obtain ⟨_, hs⟩ := set_self hj
      cases hs
      exact ⟨_, e1, rfl, vs', upd_same, hd, h0, hn⟩
    · rw [List.getElem?_set_ne e] at hj
      obtain ⟨v, h1, h2⟩ := E.slot j s hj
      refine ⟨v, h1, ?_⟩
      cases s with
      | vl d => exact DaAt.keep tk h2
      | ls b l => exact h2
      | own b l1 =>
        obtain ⟨rfl, ws, hb, hd2, b0, bn⟩ := h2
        have nb : b ≠ a := (E.apart i j a b l l1 e hi hj).symm
        exact ⟨rfl, ws, by rw [upd_ne nb]; exact hb, hd2.keep tk, b0, bn⟩
      | dr => exact h2
  · have own : ∀ (m : Nat) (c : Addr) (l3 : List Da), (env.set i (some (Sl.own a l')))[m]? = some (some (Sl.own c l3)) → ∃ l4, env[m]? = some (some (Sl.own c l4)) := fun m c l3 hm => by
      by_cases e : i = m
      · subst e
        obtain ⟨_, hs⟩ := set_self hm
        cases hs
        exact ⟨l, hi⟩
      · rw [List.getElem?_set_ne e] at hm; exact ⟨l3, hm⟩
    obtain ⟨l4, h4⟩ := own j b l1 hj
    obtain ⟨l5, h5⟩ := own k c l2 hk
    exact E.apart j k b c l4 l5 n h4 h5
end
theorem Mv.fresh {dl : Dl} {H H1 : Hp} {p : Addr} (m : Mv dl H H1) (q : DlAt dl H1) (hp : H1 p = none) : H p = none := by
  cases hq : H p with
  | none => rfl
  | some o =>
    rw [m p o (q.ne hp) hq] at hp
    cases hp
/-! ### the judgements -/
/-- the expression gives data, or a list that may be read -/
def Ev (K : PySem.W.Frag) (env : Evn) (t : TE) (S : Vl → Prop) : Prop := ∀ (H0 : Hp) (dl : Dl) (hs : Hs) (σ : St) (H : Hp) (Q : VK), EnvAt K H0 dl hs H σ env →
  (∀ x v H', S x → Mv dl H H' → DlAt dl H' → VlAt K dl H' x v → Q v H') → t σ H Q
/-- the expression gives a new list -/
def Eln (K : PySem.W.Frag) (env : Evn) (t : TE) (S : List Da → Prop) : Prop := ∀ (H0 : Hp) (dl : Dl) (hs : Hs) (σ : St) (H : Hp) (Q : VK), EnvAt K H0 dl hs H σ env →
  (∀ l a vs H', S l → Mv dl H H' → DlAt dl H' → H a = none → H' a = some (.lst vs) → DasAt K H' l vs → Q (.ref a) H') → t σ H Q
def Es (K : PySem.W.Frag) (env : Evn) (t : TA) (S : List Vl → Prop) : Prop := ∀ (H0 : Hp) (dl : Dl) (hs : Hs) (σ : St) (H : Hp) (Q : List V → Hp → Prop), EnvAt K H0 dl hs H σ env →
  (∀ xs vs H', S xs → Mv dl H H' → DlAt dl H' → VlsAt K dl H' xs vs → Q vs H') → t σ H Q
def Tv (K : PySem.W.Frag) (env : Evn) (t : TT) (S : Bool → Prop) : Prop := ∀ (H0 : Hp) (dl : Dl) (hs : Hs) (σ : St) (H : Hp) (Q : Bool → Hp → Prop), EnvAt K H0 dl hs H σ env →
  (∀ b H', S b → Mv dl H H' → DlAt dl H' → Q b H') → t σ H Q
/-- how a statement ends -/
inductive Out where
  | nx (e : Evn)
  | bk (e : Evn)
  | ct (e : Evn)
  | rt (x : Vl)
  | rn (l : List Da)
def Sv (K : PySem.W.Frag) (env : Evn) (t : TS) (O : Out → Prop) : Prop := ∀ (H0 : Hp) (dl : Dl) (hs : Hs) (σ : St) (H : Hp) (D : Ends), EnvAt K H0 dl hs H σ env →
  (∀ e σ' H', O (.nx e) → Tk K H H' → EnvAt K H0 dl hs H' σ' e → D.nx σ' H') → (∀ e σ' H', O (.bk e) → Tk K H H' → EnvAt K H0 dl hs H' σ' e → D.bk σ' H') → (∀ e σ' H', O (.ct e) → Tk K H H' → EnvAt K H0 dl hs H' σ' e → D.ct σ' H') →
  (∀ x v H', O (.rt x) → Mv dl H0 H' → DlAt dl H' → VlAt K dl H' x v → D.rt v H') →
  (∀ l a vs H', O (.rn l) → Mv dl H0 H' → DlAt dl H' → H0 a = none → H' a = some (.lst vs) → DasAt K H' l vs → D.rt (.ref a) H') → t D σ H
section
variable {K : PySem.W.Frag} {env : Evn}
theorem Ev.imp {t : TE} {S S' : Vl → Prop} (h : Ev K env t S) (q : ∀ x, S x → S' x) : Ev K env t S' := fun H0 dl hs σ H Q E k => h H0 dl hs σ H Q E fun x v H' s => k x v H' (q x s)
theorem Tv.imp {t : TT} {S S' : Bool → Prop} (h : Tv K env t S) (q : ∀ x, S x → S' x) : Tv K env t S' := fun H0 dl hs σ H Q E k => h H0 dl hs σ H Q E fun x H' s => k x H' (q x s)
theorem Eln.imp {t : TE} {S S' : List Da → Prop} (h : Eln K env t S) (q : ∀ x, S x → S' x) : Eln K env t S' := fun H0 dl hs σ H Q E k => h H0 dl hs σ H Q E fun x a vs H' s => k x a vs H' (q x s)
theorem Sv.imp {t : TS} {O O' : Out → Prop} (h : Sv K env t O) (q : ∀ x, O x → O' x) : Sv K env t O' := fun H0 dl hs σ H D E a b c d e => h H0 dl hs σ H D E (fun x y z s => a x y z (q _ s)) (fun x y z s => b x y z (q _ s)) (fun x y z s => c x y z (q _ s)) (fun x y z s => d x y z (q _ s)) (fun x y z u s => e x y z u (q _ s))
/-- a new list is a list that may be read -/
theorem Ev.ofNew {t : TE} {S : Vl → Prop} (h : Eln K env t fun l => S (.ls l)) : Ev K env t S := fun H0 dl hs σ H Q E k =>
  h H0 dl hs σ H Q E fun l a vs H' s m q n e r => k _ _ H' s m q ⟨a, vs, rfl, e, r, E.dlat.ne n⟩
/-! ### expressions -/
theorem ev_var {i : Nat} {d : Da} {S : Vl → Prop} (h : env[i]? = some (some (.vl d))) (s : S (.da d)) : Ev K env (tVar i) S := fun H0 dl hs σ H Q E k => by
  obtain ⟨v, h1, h2⟩ := E.slot i _ h
  exact ⟨v, h1, k _ v H s (.refl _ _) E.dlat h2⟩
theorem ev_varL {i : Nat} {a : Addr} {l : List Da} {S : Vl → Prop} (h : env[i]? = some (some (.ls a l))) (s : S (.ls l)) : Ev K env (tVar i) S := fun H0 dl hs σ H Q E k => by
  obtain ⟨v, h1, rfl, h2⟩ := E.slot i _ h
  obtain ⟨vs, h3, h4, h5⟩ := E.held _ h2
  exact ⟨_, h1, k _ _ H s (.refl _ _) E.dlat ⟨a, vs, rfl, h3, h4, h5⟩⟩
theorem ev_varO {i : Nat} {a : Addr} {l : List Da} {S : Vl → Prop} (h : env[i]? = some (some (.own a l))) (s : S (.ls l)) : Ev K env (tVar i) S := fun H0 dl hs σ H Q E k => by
  obtain ⟨v, h1, rfl, vs, h2, h3, h4, _⟩ := E.slot i _ h
  exact ⟨_, h1, k _ _ H s (.refl _ _) E.dlat ⟨a, vs, rfl, h2, h3, E.dl0.ne h4⟩⟩
theorem ev_str {x : Str} {S : Vl → Prop} (s : S (.da (.str x))) : Ev K env (tC (.str x)) S := fun H0 dl hs σ H Q E k => k _ _ H s (.refl _ _) E.dlat (.str x)
theorem ev_int {x : Int} {S : Vl → Prop} (s : S (.da (.int x))) : Ev K env (tC (.int x)) S := fun H0 dl hs σ H Q E k => k _ _ H s (.refl _ _) E.dlat (.int x)
theorem ev_bl {x : Bool} {S : Vl → Prop} (s : S (.da (.bl x))) : Ev K env (tC (.bl x)) S := fun H0 dl hs σ H Q E k => k _ _ H s (.refl _ _) E.dlat (.bl x)
theorem ev_non {S : Vl → Prop} (s : S (.da .non)) : Ev K env (tC .non) S := fun H0 dl hs σ H Q E k => k _ _ H s (.refl _ _) E.dlat .non
theorem es_nil {S : List Vl → Prop} (s : S []) : Es K env tNil S := fun H0 dl hs σ H Q E k => k [] [] H s (.refl _ _) E.dlat .nil
theorem es_cons {t : TE} {u : TA} {S : List Vl → Prop} (h : Ev K env t fun x => Es K env u fun xs => S (x :: xs)) : Es K env (tCons t u) S := fun H0 dl hs σ H Q E k =>
  h H0 dl hs σ H _ E fun x v H1 hx m q r => hx H0 dl hs σ H1 _ (E.go m q) fun xs vs H2 hx2 m2 q2 r2 => k _ _ H2 hx2 (m.trans m2) q2 (.cons (r.keep m2 q) r2)
/-- all data -/
def das : List Vl → Option (List Da)
  | [] => some []
  | .da d :: r => (das r).map (d :: ·)
  | .ls _ :: _ => none
theorem das_at {dl : Dl} {H : Hp} : ∀ {xs : List Vl} {ds : List Da} {vs : List V}, VlsAt K dl H xs vs → das xs = some ds → DasAt K H ds vs
  | _, _, _, .nil, e => by cases e; exact .nil
  | _, _, _, .cons (x := .da d) h r, e => by
    rw [das] at e
    obtain ⟨ds, h1, rfl⟩ := Option.map_eq_some_iff.mp e
    exact .cons h (das_at r h1)
  | _, _, _, .cons (x := .ls d) h r, e => by cases e
structure KDas (xs : List Vl) (S : List Da → Prop) : Prop where
  h : ∃ ds, das xs = some ds ∧ ds.length ≤ sizeLine ∧ S ds
theorem k_das {xs : List Vl} {ds : List Da} {S : List Da → Prop} (h : das xs = some ds) (n : ds.length ≤ sizeLine) (s : S ds) : KDas xs S := ⟨ds, h, n, s⟩
theorem ev_tup {t : TA} {S : Vl → Prop} (h : Es K env t fun xs => KDas xs fun ds => S (.da (.tup ds))) : Ev K env (tTup t) S := fun H0 dl hs σ H Q E k =>
  h H0 dl hs σ H _ E fun xs vs H1 hx m q r => by
    obtain ⟨ds, e, n, s⟩ := hx
    have r2 := das_at r e
    exact ⟨by rw [r2.len]; exact n, fun p hp => k _ _ _ s (m.trans (.same (same_upd hp))) (q.same (same_upd hp)) (.tup (SqT.of upd_same) (r2.keep (.same (same_upd hp))))⟩
theorem el_lst {t : TA} {S : List Da → Prop} (h : Es K env t fun xs => KDas xs S) : Eln K env (tLst t) S := fun H0 dl hs σ H Q E k =>
  h H0 dl hs σ H _ E fun xs vs H1 hx m q r => by
    obtain ⟨ds, e, n, s⟩ := hx
    have r2 := das_at r e
    refine ⟨by rw [r2.len]; exact n, fun p hp => ?_⟩
    have hn : H p = none := m.fresh q hp
    exact k _ _ _ _ s (m.trans (.same (same_upd hp))) (q.same (same_upd hp)) hn upd_same (r2.keep (.same (same_upd hp)))
end
end My
namespace My
open PySem L2
/-! ### atoms -/
def atm : Da → Option V
  | .non => some .non
  | .bl b => some (.bl b)
  | .int i => some (.int i)
  | .str s => some (.str s)
  | .tup _ => none
theorem atm_at {K : PySem.W.Frag} {H : Hp} {d : Da} {v a : V} (h : DaAt K H d v) (e : atm d = some a) : v = a := by
  cases h <;> cases e <;> rfl
def atms : List Da → Option (List V)
  | [] => some []
  | d :: r => (atm d).bind fun a => (atms r).map (a :: ·)
theorem atms_at {K : PySem.W.Frag} {H : Hp} : ∀ {ds : List Da} {vs as : List V}, DasAt K H ds vs → atms ds = some as → vs = as
  | _, _, _, .nil, e => by cases e; rfl
  | _, _, _, .cons h r, e => by
    rw [atms] at e
    obtain ⟨a, e1, e2⟩ := Option.bind_eq_some_iff.mp e
    obtain ⟨as, e3, rfl⟩ := Option.map_eq_some_iff.mp e2
    rw [atm_at h e1, atms_at r e3]
theorem atm_flat {d : Da} {a : V} (e : atm d = some a) : flatV a = true := by
  cases d <;> cases e <;> rfl
theorem atms_flat : ∀ {ds : List Da} {as : List V}, atms ds = some as → as.all flatV = true
  | [], _, e => by cases e; rfl
  | d :: r, _, e => by
    rw [atms] at e
    obtain ⟨a, e1, e2⟩ := Option.bind_eq_some_iff.mp e
    obtain ⟨as, e3, rfl⟩ := Option.map_eq_some_iff.mp e2
    rw [List.all_cons, atm_flat e1, atms_flat e3]
    rfl
section
variable {K : PySem.W.Frag} {env : Evn} {S : Vl → Prop}
/-! ### two operands -/
structure KEq (x y : Vl) (R : Bool → Prop) : Prop where
  h : ∃ d e a b, x = .da d ∧ y = .da e ∧ atm d = some a ∧ atm e = some b ∧ scal a b = true ∧ R (decide (a = b))
theorem k_eqS {s t : Str} {R : Bool → Prop} (h : R (decide (s = t))) : KEq (.da (.str s)) (.da (.str t)) R := ⟨_, _, _, _, rfl, rfl, rfl, rfl, rfl, by simpa using h⟩
theorem k_eqI {s t : Int} {R : Bool → Prop} (h : R (decide (s = t))) : KEq (.da (.int s)) (.da (.int t)) R := ⟨_, _, _, _, rfl, rfl, rfl, rfl, rfl, by simpa using h⟩
theorem k_eqB {s t : Bool} {R : Bool → Prop} (h : R (decide (s = t))) : KEq (.da (.bl s)) (.da (.bl t)) R := ⟨_, _, _, _, rfl, rfl, rfl, rfl, rfl, by simpa using h⟩
theorem k_eqO {d e : Da} {a b : V} {R : Bool → Prop} (h1 : atm d = some a) (h2 : atm e = some b) (hs : scal a b = true) (hn : decide (a = b) = false) (h : R false) : KEq (.da d) (.da e) R := ⟨_, _, _, _, rfl, rfl, h1, h2, hs, by rw [hn]; exact h⟩
theorem ev_eq {ta tb : TE} (h : Ev K env ta fun x => Ev K env tb fun y => KEq x y fun b => S (.da (.bl b))) : Ev K env (tOp rEq ta tb) S := fun H0 dl hs σ H Q E k =>
  h H0 dl hs σ H _ E fun x v H1 hx m q r => hx H0 dl hs σ H1 _ (E.go m q) fun y u H2 hy m2 q2 r2 => by
    obtain ⟨d, e, a, b, rfl, rfl, e1, e2, hs, s⟩ := hy
    have h1 := atm_at (show DaAt K H1 d v from r) e1
    have h2 := atm_at (show DaAt K H2 e u from r2) e2
    subst h1 h2
    exact ⟨hs, k _ _ H2 s (m.trans m2) q2 (.bl _)⟩
theorem ev_ne {ta tb : TE} (h : Ev K env ta fun x => Ev K env tb fun y => KEq x y fun b => S (.da (.bl (!b)))) : Ev K env (tOp rNe ta tb) S := fun H0 dl hs σ H Q E k =>
  h H0 dl hs σ H _ E fun x v H1 hx m q r => hx H0 dl hs σ H1 _ (E.go m q) fun y u H2 hy m2 q2 r2 => by
    obtain ⟨d, e, a, b, rfl, rfl, e1, e2, hs, s⟩ := hy
    have h1 := atm_at (show DaAt K H1 d v from r) e1
    have h2 := atm_at (show DaAt K H2 e u from r2) e2
    subst h1 h2
    exact ⟨hs, k _ _ H2 s (m.trans m2) q2 (.bl _)⟩
structure KI2 (x y : Vl) (R : Int → Int → Prop) : Prop where
  h : ∃ i j, x = .da (.int i) ∧ y = .da (.int j) ∧ R i j
theorem k_i2 {i j : Int} {R : Int → Int → Prop} (h : R i j) : KI2 (.da (.int i)) (.da (.int j)) R := ⟨i, j, rfl, rfl, h⟩
theorem ev_i0 {ta tb : TE} {f : Int → Int → Int} (h : Ev K env ta fun x => Ev K env tb fun y => KI2 x y fun i j => S (.da (.int (f i j)))) : Ev K env (tOp (rI0 fun i j => .int (f i j)) ta tb) S := fun H0 dl hs σ H Q E k =>
  h H0 dl hs σ H _ E fun x v H1 hx m q r => hx H0 dl hs σ H1 _ (E.go m q) fun y u H2 hy m2 q2 r2 => by
    obtain ⟨i, j, rfl, rfl, s⟩ := hy
    have h1 := atm_at (show DaAt K H1 (.int i) v from r) rfl
    have h2 := atm_at (show DaAt K H2 (.int j) u from r2) rfl
    subst h1 h2
    exact ⟨i, j, rfl, rfl, k _ _ H2 s (m.trans m2) q2 (.int _)⟩
theorem ev_ib {ta tb : TE} {f : Int → Int → Bool} (h : Ev K env ta fun x => Ev K env tb fun y => KI2 x y fun i j => S (.da (.bl (f i j)))) : Ev K env (tOp (rI0 fun i j => .bl (f i j)) ta tb) S := fun H0 dl hs σ H Q E k =>
  h H0 dl hs σ H _ E fun x v H1 hx m q r => hx H0 dl hs σ H1 _ (E.go m q) fun y u H2 hy m2 q2 r2 => by
    obtain ⟨i, j, rfl, rfl, s⟩ := hy
    have h1 := atm_at (show DaAt K H1 (.int i) v from r) rfl
    have h2 := atm_at (show DaAt K H2 (.int j) u from r2) rfl
    subst h1 h2
    exact ⟨i, j, rfl, rfl, k _ _ H2 s (m.trans m2) q2 (.bl _)⟩
theorem ev_iC {ta tb : TE} {C : Int → Int → Prop} {f : Int → Int → Int} (h : Ev K env ta fun x => Ev K env tb fun y => KI2 x y fun i j => C i j ∧ S (.da (.int (f i j)))) : Ev K env (tOp (rI C fun i j => .int (f i j)) ta tb) S := fun H0 dl hs σ H Q E k =>
  h H0 dl hs σ H _ E fun x v H1 hx m q r => hx H0 dl hs σ H1 _ (E.go m q) fun y u H2 hy m2 q2 r2 => by
    obtain ⟨i, j, rfl, rfl, c, s⟩ := hy
    have h1 := atm_at (show DaAt K H1 (.int i) v from r) rfl
    have h2 := atm_at (show DaAt K H2 (.int j) u from r2) rfl
    subst h1 h2
    exact ⟨i, j, rfl, rfl, c, k _ _ H2 s (m.trans m2) q2 (.int _)⟩
structure KI1 (x : Vl) (R : Int → Prop) : Prop where
  h : ∃ i, x = .da (.int i) ∧ R i
theorem k_i1 {i : Int} {R : Int → Prop} (h : R i) : KI1 (.da (.int i)) R := ⟨i, rfl, h⟩
theorem ev_u {ta : TE} {f : Int → Int} (h : Ev K env ta fun x => KI1 x fun i => S (.da (.int (f i)))) : Ev K env (tUn (rU fun i => .int (f i)) ta) S := fun H0 dl hs σ H Q E k =>
  h H0 dl hs σ H _ E fun x v H1 hx m q r => by
    obtain ⟨i, rfl, s⟩ := hx
    have h1 := atm_at (show DaAt K H1 (.int i) v from r) rfl
    subst h1
    exact ⟨i, rfl, k _ _ H1 s m q (.int _)⟩
/-! ### texts -/
structure KS2 (x y : Vl) (R : Str → Str → Prop) : Prop where
  h : ∃ i j, x = .da (.str i) ∧ y = .da (.str j) ∧ i.length + j.length ≤ sizeLine ∧ R i j
theorem k_s2 {i j : Str} {R : Str → Str → Prop} (n : i.length + j.length ≤ sizeLine) (h : R i j) : KS2 (.da (.str i)) (.da (.str j)) R := ⟨i, j, rfl, rfl, n, h⟩
theorem ev_catS {ta tb : TE} (h : Ev K env ta fun x => Ev K env tb fun y => KS2 x y fun i j => S (.da (.str (i ++ j)))) : Ev K env (tOp (fun x y H Q => ∃ i j, x = .str i ∧ y = .str j ∧ i.length + j.length ≤ sizeLine ∧ Q (.str (i ++ j)) H) ta tb) S := fun H0 dl hs σ H Q E k =>
  h H0 dl hs σ H _ E fun x v H1 hx m q r => hx H0 dl hs σ H1 _ (E.go m q) fun y u H2 hy m2 q2 r2 => by
    obtain ⟨i, j, rfl, rfl, n, s⟩ := hy
    have h1 := atm_at (show DaAt K H1 (.str i) v from r) rfl
    have h2 := atm_at (show DaAt K H2 (.str j) u from r2) rfl
    subst h1 h2
    exact ⟨i, j, rfl, rfl, n, k _ _ H2 s (m.trans m2) q2 (.str _)⟩
/-! ### tuples -/
theorem das_len {H : Hp} : ∀ {l : List Da} {vs : List V}, DasAt K H l vs → vs.length = l.length := fun h => h.len
theorem das_atI {H : Hp} {l : List Da} {vs : List V} {i : Int} {d : Da} (h : DasAt K H l vs) (e : atI l i = some d) : ∃ v, atI vs i = some v ∧ DaAt K H d v := by
  unfold atI at e ⊢
  obtain ⟨j, e1, e2⟩ := Option.bind_eq_some_iff.mp e
  obtain ⟨v, e3, e4⟩ := h.at e2
  exact ⟨v, by rw [h.len, e1]; exact e3, e4⟩
structure KIx (x y : Vl) (R : Da → Prop) : Prop where
  h : ∃ l i d, (x = .da (.tup l) ∨ x = .ls l) ∧ y = .da (.int i) ∧ atI l i = some d ∧ R d
theorem k_ixT {l : List Da} {i : Int} {d : Da} {R : Da → Prop} (e : atI l i = some d) (h : R d) : KIx (.da (.tup l)) (.da (.int i)) R := ⟨l, i, d, .inl rfl, rfl, e, h⟩
theorem k_ixL {l : List Da} {i : Int} {d : Da} {R : Da → Prop} (e : atI l i = some d) (h : R d) : KIx (.ls l) (.da (.int i)) R := ⟨l, i, d, .inr rfl, rfl, e, h⟩
structure KT (x : Vl) (R : List Da → Prop) : Prop where
  h : ∃ l, x = .da (.tup l) ∧ R l
theorem k_t {l : List Da} {R : List Da → Prop} (h : R l) : KT (.da (.tup l)) R := ⟨l, rfl, h⟩
theorem da_tup {H : Hp} {l : List Da} {v : V} (h : DaAt K H (.tup l) v) : ∃ a vs, v = .ref a ∧ SqT K H a vs ∧ DasAt K H l vs := by
  cases h with
  | tup h r => exact ⟨_, _, rfl, h, r⟩
theorem ev_ixT {ta tb : TE} (h : Ev K env ta fun x => KT x fun l => Ev K env tb fun y => KI1 y fun i => ∃ d, atI l i = some d ∧ S (.da d)) : Ev K env (tOp (rIxT K) ta tb) S := fun H0 dl hs σ H Q E k =>
  h H0 dl hs σ H _ E fun x v H1 hx m q r => by
    obtain ⟨l, rfl, hx⟩ := hx
    refine hx H0 dl hs σ H1 _ (E.go m q) fun y u H2 hy m2 q2 r2 => ?_
    obtain ⟨i, rfl, d, e, s⟩ := hy
    obtain ⟨a, vs, rfl, h1, h2⟩ := da_tup (DaAt.keep (m2.tk q) r)
    have h3 := atm_at (show DaAt K H2 (.int i) u from r2) rfl
    subst h3
    obtain ⟨w, e2, hw⟩ := das_atI h2 e
    exact ⟨a, vs, i, w, rfl, rfl, h1, e2, k _ _ H2 s (m.trans m2) q2 hw⟩
structure KL (x : Vl) (R : List Da → Prop) : Prop where
  h : ∃ l, x = .ls l ∧ R l
theorem k_l {l : List Da} {R : List Da → Prop} (h : R l) : KL (.ls l) R := ⟨l, rfl, h⟩
theorem ev_ixL {ta tb : TE} (h : Ev K env ta fun x => KL x fun l => Ev K env tb fun y => KI1 y fun i => ∃ d, atI l i = some d ∧ S (.da d)) : Ev K env (tOp (rIxL K) ta tb) S := fun H0 dl hs σ H Q E k =>
  h H0 dl hs σ H _ E fun x v H1 hx m q r => by
    obtain ⟨l, rfl, hx⟩ := hx
    refine hx H0 dl hs σ H1 _ (E.go m q) fun y u H2 hy m2 q2 r2 => ?_
    obtain ⟨i, rfl, d, e, s⟩ := hy
    obtain ⟨a, vs, rfl, h1, h2, n⟩ := r.keep m2 q
    have h3 := atm_at (show DaAt K H2 (.int i) u from r2) rfl
    subst h3
    obtain ⟨w, e2, hw⟩ := das_atI h2 e
    exact ⟨a, vs, i, w, rfl, rfl, h1.sq, e2, k _ _ H2 s (m.trans m2) q2 hw⟩
def cutD (xs : List Da) (lo hi : Option Int) : List Da := (xs.drop (HT.sIx xs.length 0 lo)).take (HT.sIx xs.length xs.length hi - HT.sIx xs.length 0 lo)
theorem das_take {H : Hp} : ∀ {l : List Da} {vs : List V}, DasAt K H l vs → ∀ n, DasAt K H (l.take n) (vs.take n)
  | _, _, _, 0 => .nil
  | _, _, .nil, _ + 1 => .nil
  | _, _, .cons h r, n + 1 => .cons h (das_take r n)
theorem das_drop {H : Hp} : ∀ {l : List Da} {vs : List V}, DasAt K H l vs → ∀ n, DasAt K H (l.drop n) (vs.drop n)
  | _, _, h, 0 => h
  | _, _, .nil, _ + 1 => .nil
  | _, _, .cons h r, n + 1 => das_drop r n
theorem das_app {H : Hp} : ∀ {l l2 : List Da} {vs us : List V}, DasAt K H l vs → DasAt K H l2 us → DasAt K H (l ++ l2) (vs ++ us)
  | _, _, _, _, .nil, h => h
  | _, _, _, _, .cons h r, h2 => .cons h (das_app r h2)
theorem das_cut {H : Hp} {l : List Da} {vs : List V} (h : DasAt K H l vs) (lo hi : Option Int) : DasAt K H (cutD l lo hi) (cutV vs lo hi) := by
  unfold cutD cutV
  rw [h.len]
  exact das_take (das_drop h _) _
/-- a slice's bound -/
def Eo (K : PySem.W.Frag) (env : Evn) (t : TO) (S : Option Int → Prop) : Prop := ∀ (H0 : Hp) (dl : Dl) (hs : Hs) (σ : St) (H : Hp) (Q : Option Int → Hp → Prop), EnvAt K H0 dl hs H σ env →
  (∀ x H', S x → Mv dl H H' → DlAt dl H' → Q x H') → t σ H Q
theorem eo_no {R : Option Int → Prop} (s : R none) : Eo K env tNoPart R := fun H0 dl hs σ H Q E k => k _ H s (.refl _ _) E.dlat
theorem eo_some {t : TE} {R : Option Int → Prop} (h : Ev K env t fun x => KI1 x fun i => R (some i)) : Eo K env (tPart t) R := fun H0 dl hs σ H Q E k =>
  h H0 dl hs σ H _ E fun x v H1 hx m q r => by
    obtain ⟨i, rfl, s⟩ := hx
    have h3 := atm_at (show DaAt K H1 (.int i) v from r) rfl
    exact ⟨i, h3, k _ H1 s m q⟩
theorem ev_slT {te : TE} {tl th : TO} (h : Ev K env te fun x => KT x fun l => Eo K env tl fun lo => Eo K env th fun hi => ¬ (HT.sIx l.length 0 lo = 0 ∧ HT.sIx l.length l.length hi = l.length) ∧ S (.da (.tup (cutD l lo hi)))) : Ev K env (tSl (rSlT K) te tl th) S := fun H0 dl hs σ H Q E k =>
  h H0 dl hs σ H _ E fun x v H1 hx m q r => by
    obtain ⟨l, rfl, hx⟩ := hx
    refine hx H0 dl hs σ H1 _ (E.go m q) fun lo H2 hy m2 q2 => hy H0 dl hs σ H2 _ (E.go (m.trans m2) q2) fun hi H3 hz m3 q3 => ?_
    obtain ⟨nw, s⟩ := hz
    obtain ⟨a, vs, rfl, h1, h2⟩ := da_tup (DaAt.keep ((m2.trans m3).tk q) r)
    refine ⟨a, vs, rfl, h1, by rw [h2.len]; exact nw, fun p hp => ?_⟩
    exact k _ _ _ s ((m.trans (m2.trans m3)).trans (.same (same_upd hp))) (q3.same (same_upd hp)) (.tup (SqT.of upd_same) ((das_cut h2 lo hi).keep (.same (same_upd hp))))
theorem ev_catT {ta tb : TE} (h : Ev K env ta fun x => KT x fun l => Ev K env tb fun y => KT y fun l2 => l ≠ [] ∧ l.length + l2.length ≤ sizeLine ∧ S (.da (.tup (l ++ l2)))) : Ev K env (tOp (rCatT K) ta tb) S := fun H0 dl hs σ H Q E k =>
  h H0 dl hs σ H _ E fun x v H1 hx m q r => by
    obtain ⟨l, rfl, hx⟩ := hx
    refine hx H0 dl hs σ H1 _ (E.go m q) fun y u H2 hy m2 q2 r2 => ?_
    obtain ⟨l2, rfl, ne, n, s⟩ := hy
    obtain ⟨a, vs, rfl, h1, h2⟩ := da_tup (DaAt.keep (m2.tk q) r)
    obtain ⟨b, us, rfl, h3, h4⟩ := da_tup r2
    refine ⟨a, b, vs, us, rfl, rfl, h1, h3, fun e => ne ?_, by rw [h2.len, h4.len]; exact n, fun e => ?_, fun e p hp => ?_⟩
    · have := h2.len
      rw [e] at this
      exact List.eq_nil_of_length_eq_zero this.symm
    · have e2 : l2 = [] := by
        have := h4.len
        rw [e] at this
        exact List.eq_nil_of_length_eq_zero this.symm
      subst e2
      exact k _ _ H2 s (m.trans m2) q2 (by rw [List.append_nil]; exact .tup h1 h2)
    · exact k _ _ _ s ((m.trans m2).trans (.same (same_upd hp))) (q2.same (same_upd hp)) (.tup (SqT.of upd_same) ((das_app h2 h4).keep (.same (same_upd hp))))
end
end My
namespace My
open PySem L2
section
variable {K : PySem.W.Frag} {env : Evn} {S : Vl → Prop}
/-! ### in, is, len -/
structure KIn (x y : Vl) (R : Bool → Prop) : Prop where
  h : ∃ d l a as, x = .da d ∧ (y = .da (.tup l) ∨ y = .ls l) ∧ atm d = some a ∧ atms l = some as ∧ R (inV a as)
theorem k_inT {d : Da} {l : List Da} {a : V} {as : List V} {R : Bool → Prop} (h1 : atm d = some a) (h2 : atms l = some as) (h : R (inV a as)) : KIn (.da d) (.da (.tup l)) R := ⟨d, l, a, as, rfl, .inl rfl, h1, h2, h⟩
theorem k_inL {d : Da} {l : List Da} {a : V} {as : List V} {R : Bool → Prop} (h1 : atm d = some a) (h2 : atms l = some as) (h : R (inV a as)) : KIn (.da d) (.ls l) R := ⟨d, l, a, as, rfl, .inr rfl, h1, h2, h⟩
theorem ev_in {ng : Bool} {ta tb : TE} (h : Ev K env ta fun x => Ev K env tb fun y => KIn x y fun b => S (.da (.bl (if ng then !b else b)))) : Ev K env (tOp (rIn K ng) ta tb) S := fun H0 dl hs σ H Q E k =>
  h H0 dl hs σ H _ E fun x v H1 hx m q r => hx H0 dl hs σ H1 _ (E.go m q) fun y u H2 hy m2 q2 r2 => by
    obtain ⟨d, l, a, as, rfl, hl, e1, e2, s⟩ := hy
    have h1 := atm_at (show DaAt K H1 d v from r) e1
    subst h1
    rcases hl with rfl | rfl
    · obtain ⟨p, vs, rfl, h3, h4⟩ := da_tup r2
      rw [atms_at h4 e2] at h3
      exact ⟨p, as, rfl, .inr h3, atm_flat e1, atms_flat e2, k _ _ H2 s (m.trans m2) q2 (.bl _)⟩
    · obtain ⟨p, vs, rfl, h3, h4, _⟩ := r2
      rw [atms_at h4 e2] at h3
      exact ⟨p, as, rfl, .inl h3.sq, atm_flat e1, atms_flat e2, k _ _ H2 s (m.trans m2) q2 (.bl _)⟩
def isN : Da → Bool
  | .non => true
  | _ => false
theorem isN_at {H : Hp} {d : Da} {v : V} (h : DaAt K H d v) : decide (v = .non) = isN d := by
  cases h <;> rfl
structure KN (x : Vl) (R : Bool → Prop) : Prop where
  h : (∃ d, x = .da d ∧ R (isN d)) ∨ ∃ l, x = .ls l ∧ R false
theorem k_n {d : Da} {R : Bool → Prop} (h : R (isN d)) : KN (.da d) R := ⟨.inl ⟨d, rfl, h⟩⟩
theorem k_nL {l : List Da} {R : Bool → Prop} (h : R false) : KN (.ls l) R := ⟨.inr ⟨l, rfl, h⟩⟩
theorem ev_isN {ta : TE} (h : Ev K env ta fun x => KN x fun b => S (.da (.bl b))) : Ev K env (tOp rIsN ta (tC .non)) S := fun H0 dl hs σ H Q E k =>
  h H0 dl hs σ H _ E fun x v H1 hx m q r => by
    rcases hx.h with ⟨d, rfl, s⟩ | ⟨l, rfl, s⟩
    · refine ⟨rfl, ?_⟩
      rw [isN_at r]
      exact k _ _ H1 s m q (.bl _)
    · obtain ⟨a, vs, rfl, _⟩ := r
      refine ⟨rfl, ?_⟩
      rw [show decide (V.ref a = V.non) = false from decide_eq_false (fun z => by cases z)]
      exact k _ _ H1 s m q (.bl _)
theorem ev_notN {ta : TE} (h : Ev K env ta fun x => KN x fun b => S (.da (.bl (!b)))) : Ev K env (tOp rNotN ta (tC .non)) S := fun H0 dl hs σ H Q E k =>
  h H0 dl hs σ H _ E fun x v H1 hx m q r => by
    rcases hx.h with ⟨d, rfl, s⟩ | ⟨l, rfl, s⟩
    · refine ⟨rfl, ?_⟩
      rw [isN_at r]
      exact k _ _ H1 s m q (.bl _)
    · obtain ⟨a, vs, rfl, _⟩ := r
      refine ⟨rfl, ?_⟩
      rw [show decide (V.ref a = V.non) = false from decide_eq_false (fun z => by cases z)]
      exact k _ _ H1 s m q (.bl _)
structure KB (x : Vl) (R : Bool → Prop) : Prop where
  h : ∃ b, x = .da (.bl b) ∧ R b
theorem k_b {b : Bool} {R : Bool → Prop} (h : R b) : KB (.da (.bl b)) R := ⟨b, rfl, h⟩
theorem ev_isB {ta tb : TE} (h : Ev K env ta fun x => KB x fun a => Ev K env tb fun y => KB y fun b => S (.da (.bl (decide (a = b))))) : Ev K env (tOp rIsB ta tb) S := fun H0 dl hs σ H Q E k =>
  h H0 dl hs σ H _ E fun x v H1 hx m q r => by
    obtain ⟨a, rfl, hx⟩ := hx
    refine hx H0 dl hs σ H1 _ (E.go m q) fun y u H2 hy m2 q2 r2 => ?_
    obtain ⟨b, rfl, s⟩ := hy
    have h1 := atm_at (show DaAt K H1 (.bl a) v from r) rfl
    have h2 := atm_at (show DaAt K H2 (.bl b) u from r2) rfl
    exact ⟨a, b, h1, h2, k _ _ H2 s (m.trans m2) q2 (.bl _)⟩
theorem ev_notB {ta tb : TE} (h : Ev K env ta fun x => KB x fun a => Ev K env tb fun y => KB y fun b => S (.da (.bl (!decide (a = b))))) : Ev K env (tOp rNotB ta tb) S := fun H0 dl hs σ H Q E k =>
  h H0 dl hs σ H _ E fun x v H1 hx m q r => by
    obtain ⟨a, rfl, hx⟩ := hx
    refine hx H0 dl hs σ H1 _ (E.go m q) fun y u H2 hy m2 q2 r2 => ?_
    obtain ⟨b, rfl, s⟩ := hy
    have h1 := atm_at (show DaAt K H1 (.bl a) v from r) rfl
    have h2 := atm_at (show DaAt K H2 (.bl b) u from r2) rfl
    exact ⟨a, b, h1, h2, k _ _ H2 s (m.trans m2) q2 (.bl _)⟩
/-- isinstance -/
def tyVl : Vl → String
  | .da d => tyDa d
  | .ls _ => "list"
theorem tyVl_at {dl : Dl} {H : Hp} : ∀ {x : Vl} {v : V}, VlAt K dl H x v → TyX K H v (.type (tyVl x))
  | .da _, _, h => da_ty h
  | .ls _, _, ⟨a, vs, e, h, _⟩ => by
    subst e
    exact .base (.lst h)
structure KTy (x : Vl) (T : String) (R : Bool → Prop) : Prop where
  h : ∃ b, kitB (tyVl x) T = some b ∧ R b
theorem k_ty {x : Vl} {T : String} {b : Bool} {R : Bool → Prop} (h : kitB (tyVl x) T = some b) (r : R b) : KTy x T R := ⟨b, h, r⟩
theorem ev_isi {ta : TE} {T : String} (h : Ev K env ta fun x => KTy x T fun b => S (.da (.bl b))) : Ev K env (tCB (rIsi K) (tCons ta (tCons (tC (.ty T)) tNil))) S := fun H0 dl hs σ H Q E k =>
  h H0 dl hs σ H _ E fun x v H1 hx m q r => by
    obtain ⟨b, e, s⟩ := hx
    exact ⟨v, .ty T, _, _, b, rfl, .ty _, tyVl_at r, kit_ty e, k _ _ H1 s m q (.bl _)⟩
end
end My
namespace My
open PySem L2
section
variable {K : PySem.W.Frag} {env : Evn} {S : Vl → Prop}
/-! ### and, or, not, if -/
structure KIf (b : Bool) (A B : Prop) : Prop where
  h : if b = true then A else B
theorem k_ift {b : Bool} {A B : Prop} (e : b = true) (h : A) : KIf b A B := ⟨by rw [if_pos e]; exact h⟩
theorem k_iff {b : Bool} {A B : Prop} (e : b = false) (h : B) : KIf b A B := ⟨by rw [e]; exact h⟩
theorem k_if {b : Bool} {A B : Prop} (h1 : b = true → A) (h2 : b = false → B) : KIf b A B := ⟨by
  cases b
  · exact h2 rfl
  · exact h1 rfl⟩
theorem ev_andV {ta tb : TE} (h : Ev K env ta fun x => KB x fun a => KIf a (Ev K env tb S) (S (.da (.bl false)))) : Ev K env (tAndV ta tb) S := fun H0 dl hs σ H Q E k =>
  h H0 dl hs σ H _ E fun x v H1 hx m q r => by
    obtain ⟨a, rfl, ⟨hx⟩⟩ := hx
    have h1 := atm_at (show DaAt K H1 (.bl a) v from r) rfl
    refine ⟨a, h1, ?_⟩
    cases a
    · exact k _ _ H1 hx m q (.bl _)
    · exact hx H0 dl hs σ H1 Q (E.go m q) fun y u H2 s m2 q2 r2 => k y u H2 s (m.trans m2) q2 r2
theorem ev_orV {ta tb : TE} (h : Ev K env ta fun x => KB x fun a => KIf a (S (.da (.bl true))) (Ev K env tb S)) : Ev K env (tOrV ta tb) S := fun H0 dl hs σ H Q E k =>
  h H0 dl hs σ H _ E fun x v H1 hx m q r => by
    obtain ⟨a, rfl, ⟨hx⟩⟩ := hx
    have h1 := atm_at (show DaAt K H1 (.bl a) v from r) rfl
    refine ⟨a, h1, ?_⟩
    cases a
    · exact hx H0 dl hs σ H1 Q (E.go m q) fun y u H2 s m2 q2 r2 => k y u H2 s (m.trans m2) q2 r2
    · exact k _ _ H1 hx m q (.bl _)
theorem ev_notV {ta : TE} (h : Ev K env ta fun x => KB x fun a => S (.da (.bl (!a)))) : Ev K env (tNotV ta) S := fun H0 dl hs σ H Q E k =>
  h H0 dl hs σ H _ E fun x v H1 hx m q r => by
    obtain ⟨a, rfl, s⟩ := hx
    have h1 := atm_at (show DaAt K H1 (.bl a) v from r) rfl
    exact ⟨a, h1, k _ _ H1 s m q (.bl _)⟩
variable {R : Bool → Prop}
theorem tv_test {t : TE} (h : Ev K env t fun x => KB x R) : Tv K env (tTest t) R := fun H0 dl hs σ H Q E k =>
  h H0 dl hs σ H _ E fun x v H1 hx m q r => by
    obtain ⟨a, rfl, s⟩ := hx
    exact ⟨a, atm_at (show DaAt K H1 (.bl a) v from r) rfl, k _ H1 s m q⟩
theorem tv_b {t : TE} (h : Ev K env t fun x => KB x R) : Tv K env (tB t) R := fun H0 dl hs σ H Q E k =>
  h H0 dl hs σ H _ E fun x v H1 hx m q r => by
    obtain ⟨a, rfl, s⟩ := hx
    exact ⟨a, atm_at (show DaAt K H1 (.bl a) v from r) rfl, k _ H1 s m q⟩
theorem tv_yes (h : R true) : Tv K env tYes R := fun H0 dl hs σ H Q E k => k _ H h (.refl _ _) E.dlat
theorem tv_not {t : TT} (h : Tv K env t fun a => R (!a)) : Tv K env (tNot t) R := fun H0 dl hs σ H Q E k => h H0 dl hs σ H _ E fun a H1 s m q => k _ H1 s m q
theorem tv_and {t u : TT} (h : Tv K env t fun a => KIf a (Tv K env u R) (R false)) : Tv K env (tAnd t u) R := fun H0 dl hs σ H Q E k =>
  h H0 dl hs σ H _ E fun a H1 hx m q => by
    obtain ⟨hx⟩ := hx
    cases a
    · exact k _ H1 hx m q
    · exact hx H0 dl hs σ H1 Q (E.go m q) fun b H2 s m2 q2 => k b H2 s (m.trans m2) q2
theorem tv_or {t u : TT} (h : Tv K env t fun a => KIf a (R true) (Tv K env u R)) : Tv K env (tOr t u) R := fun H0 dl hs σ H Q E k =>
  h H0 dl hs σ H _ E fun a H1 hx m q => by
    obtain ⟨hx⟩ := hx
    cases a
    · exact hx H0 dl hs σ H1 Q (E.go m q) fun b H2 s m2 q2 => k b H2 s (m.trans m2) q2
    · exact k _ H1 hx m q
theorem ev_if {t : TT} {ta tb : TE} (h : Tv K env t fun a => KIf a (Ev K env ta S) (Ev K env tb S)) : Ev K env (tIf t ta tb) S := fun H0 dl hs σ H Q E k =>
  h H0 dl hs σ H _ E fun a H1 hx m q => by
    obtain ⟨hx⟩ := hx
    cases a
    · exact hx H0 dl hs σ H1 Q (E.go m q) fun y u H2 s m2 q2 r2 => k y u H2 s (m.trans m2) q2 r2
    · exact hx H0 dl hs σ H1 Q (E.go m q) fun y u H2 s m2 q2 r2 => k y u H2 s (m.trans m2) q2 r2
/-! ### builtins -/
structure KLen (xs : List Vl) (R : Int → Prop) : Prop where
  h : (∃ l, (xs = [.da (.tup l)] ∨ xs = [.ls l]) ∧ R (l.length : Nat))
theorem k_lenT {l : List Da} {R : Int → Prop} (h : R (l.length : Nat)) : KLen [.da (.tup l)] R := ⟨l, .inl rfl, h⟩
theorem k_lenL {l : List Da} {R : Int → Prop} (h : R (l.length : Nat)) : KLen [.ls l] R := ⟨l, .inr rfl, h⟩
theorem vls_one {dl : Dl} {H : Hp} {x : Vl} {vs : List V} (h : VlsAt K dl H [x] vs) : ∃ v, vs = [v] ∧ VlAt K dl H x v := by
  cases h with
  | cons h r => cases r; exact ⟨_, rfl, h⟩
theorem vls_two {dl : Dl} {H : Hp} {x y : Vl} {vs : List V} (h : VlsAt K dl H [x, y] vs) : ∃ v u, vs = [v, u] ∧ VlAt K dl H x v ∧ VlAt K dl H y u := by
  cases h with
  | cons h r =>
    obtain ⟨u, rfl, r2⟩ := vls_one r
    exact ⟨_, _, rfl, h, r2⟩
theorem vls_three {dl : Dl} {H : Hp} {x y z : Vl} {vs : List V} (h : VlsAt K dl H [x, y, z] vs) : ∃ v u w, vs = [v, u, w] ∧ VlAt K dl H x v ∧ VlAt K dl H y u ∧ VlAt K dl H z w := by
  cases h with
  | cons h r =>
    obtain ⟨u, w, rfl, r2⟩ := vls_two r
    exact ⟨_, _, _, rfl, h, r2⟩
theorem vls_four {dl : Dl} {H : Hp} {x y z z2 : Vl} {vs : List V} (h : VlsAt K dl H [x, y, z, z2] vs) : ∃ v u w w2, vs = [v, u, w, w2] ∧ VlAt K dl H x v ∧ VlAt K dl H y u ∧ VlAt K dl H z w ∧ VlAt K dl H z2 w2 := by
  cases h with
  | cons h r =>
    obtain ⟨u, w, w2, rfl, r2⟩ := vls_three r
    exact ⟨_, _, _, _, rfl, h, r2⟩
theorem ev_len {t : TA} (h : Es K env t fun xs => KLen xs fun i => S (.da (.int i))) : Ev K env (tCB (rLenQ K) t) S := fun H0 dl hs σ H Q E k =>
  h H0 dl hs σ H _ E fun xs vs H1 hx m q r => by
    obtain ⟨l, hl, s⟩ := hx
    rcases hl with rfl | rfl
    · obtain ⟨v, rfl, r1⟩ := vls_one r
      obtain ⟨a, us, rfl, h1, h2⟩ := da_tup r1
      exact ⟨a, us, rfl, .inr h1, by rw [h2.len]; exact k _ _ H1 s m q (.int _)⟩
    · obtain ⟨v, rfl, r1⟩ := vls_one r
      obtain ⟨a, us, rfl, h1, h2, _⟩ := r1
      exact ⟨a, us, rfl, .inl h1.sq, by rw [h2.len]; exact k _ _ H1 s m q (.int _)⟩
structure KLs (xs : List Vl) (R : Str → Prop) : Prop where
  h : ∃ z, xs = [.da (.str z)] ∧ z.length ≤ sizeLine ∧ R z
theorem k_ls {z : Str} {R : Str → Prop} (n : z.length ≤ sizeLine) (h : R z) : KLs [.da (.str z)] R := ⟨z, rfl, n, h⟩
theorem ev_lenS {t : TA} (h : Es K env t fun xs => KLs xs fun z => S (.da (.int z.length))) : Ev K env (tCB (fun xs H Q => ∃ z, xs = [.str z] ∧ z.length ≤ sizeLine ∧ Q (.int z.length) H) t) S := fun H0 dl hs σ H Q E k =>
  h H0 dl hs σ H _ E fun xs vs H1 hx m q r => by
    obtain ⟨z, rfl, n, s⟩ := hx
    obtain ⟨v, rfl, r1⟩ := vls_one r
    have h1 := atm_at (show DaAt K H1 (.str z) v from r1) rfl
    exact ⟨z, by rw [h1], n, k _ _ H1 s m q (.int _)⟩
/-- list(x), tuple(x) of a list or tuple -/
structure KSq (xs : List Vl) (R : List Da → Prop) : Prop where
  h : ∃ l, (xs = [.da (.tup l)] ∨ xs = [.ls l]) ∧ R l
theorem k_sqT {l : List Da} {R : List Da → Prop} (h : R l) : KSq [.da (.tup l)] R := ⟨l, .inl rfl, h⟩
theorem k_sqL {l : List Da} {R : List Da → Prop} (h : R l) : KSq [.ls l] R := ⟨l, .inr rfl, h⟩
theorem el_list {t : TA} {R : List Da → Prop} (h : Es K env t fun xs => KSq xs R) : Eln K env (tCB (rListOf K) t) R := fun H0 dl hs σ H Q E k =>
  h H0 dl hs σ H _ E fun xs vs H1 hx m q r => by
    obtain ⟨l, hl, s⟩ := hx
    have fin : ∀ (a : Addr) us, (SqL K H1 a us ∨ SqT K H1 a us) → DasAt K H1 l us → rListOf K [.ref a] H1 Q := fun a us h1 h2 => ⟨a, us, rfl, h1, fun p hp => k _ _ _ _ s (m.trans (.same (same_upd hp))) (q.same (same_upd hp)) (m.fresh q hp) upd_same (h2.keep (.same (same_upd hp)))⟩
    rcases hl with rfl | rfl
    · obtain ⟨v, rfl, r1⟩ := vls_one r
      obtain ⟨a, us, rfl, h1, h2⟩ := da_tup r1
      exact fin a us (.inr h1) h2
    · obtain ⟨v, rfl, r1⟩ := vls_one r
      obtain ⟨a, us, rfl, h1, h2, _⟩ := r1
      exact fin a us (.inl h1.sq) h2
theorem ev_tuple {t : TA} (h : Es K env t fun xs => KSq xs fun l => S (.da (.tup l))) : Ev K env (tCB (rTupOf K) t) S := fun H0 dl hs σ H Q E k =>
  h H0 dl hs σ H _ E fun xs vs H1 hx m q r => by
    obtain ⟨l, hl, s⟩ := hx
    rcases hl with rfl | rfl
    · obtain ⟨v, rfl, r1⟩ := vls_one r
      obtain ⟨a, us, rfl, h1, h2⟩ := da_tup r1
      exact ⟨a, us, rfl, .inr ⟨h1, k _ _ H1 s m q (.tup h1 h2)⟩⟩
    · obtain ⟨v, rfl, r1⟩ := vls_one r
      obtain ⟨a, us, rfl, h1, h2, _⟩ := r1
      exact ⟨a, us, rfl, .inl ⟨h1.sq, fun p hp => k _ _ _ s (m.trans (.same (same_upd hp))) (q.same (same_upd hp)) (.tup (SqT.of upd_same) (h2.keep (.same (same_upd hp))))⟩⟩
/-- all(list of bools) -/
structure KAll (xs : List Vl) (R : Bool → Prop) : Prop where
  h : ∃ bs : List Bool, xs = [.ls (bs.map Da.bl)] ∧ R (bs.all id)
theorem k_all {bs : List Bool} {R : Bool → Prop} (h : R (bs.all id)) : KAll [.ls (bs.map Da.bl)] R := ⟨bs, rfl, h⟩
theorem das_bls {H : Hp} : ∀ {bs : List Bool} {vs : List V}, DasAt K H (bs.map Da.bl) vs → vs = bs.map V.bl
  | [], _, .nil => rfl
  | b :: bs, _, .cons h r => by cases h; rw [das_bls r]; rfl
theorem ev_all {t : TA} (h : Es K env t fun xs => KAll xs fun b => S (.da (.bl b))) : Ev K env (tCB (rAll K) t) S := fun H0 dl hs σ H Q E k =>
  h H0 dl hs σ H _ E fun xs vs H1 hx m q r => by
    obtain ⟨bs, rfl, s⟩ := hx
    obtain ⟨v, rfl, r1⟩ := vls_one r
    obtain ⟨a, us, rfl, h1, h2, _⟩ := r1
    rw [das_bls h2] at h1
    exact ⟨a, bs, rfl, h1.sq, k _ _ H1 s m q (.bl _)⟩
theorem ev_any {t : TA} (h : Es K env t fun xs => ∃ bs : List Bool, xs = [.ls (bs.map Da.bl)] ∧ S (.da (.bl (bs.any id)))) : Ev K env (tCB (rAny K) t) S := fun H0 dl hs σ H Q E k =>
  h H0 dl hs σ H _ E fun xs vs H1 hx m q r => by
    obtain ⟨bs, rfl, s⟩ := hx
    obtain ⟨v, rfl, r1⟩ := vls_one r
    obtain ⟨a, us, rfl, h1, h2, _⟩ := r1
    rw [das_bls h2] at h1
    exact ⟨a, bs, rfl, h1.sq, k _ _ H1 s m q (.bl _)⟩
/-! ### calls of defs over data -/
/-- the promise: from data, data; nothing but new objects -/
def sp_pu (K : PySem.W.Frag) (pre : List Vl → (Vl → Prop) → Prop) : Sp := fun vs H Q _ => ∃ xs R, VlsAt K none H xs vs ∧ pre xs R ∧ ∀ x v H', R x → Same H H' → VlAt K none H' x v → Q v H'
/-- the promise: from data, a new list -/
def sp_pn (K : PySem.W.Frag) (pre : List Vl → (List Da → Prop) → Prop) : Sp := fun vs H Q _ => ∃ xs R, VlsAt K none H xs vs ∧ pre xs R ∧ ∀ l a us H', R l → Same H H' → H a = none → H' a = some (.lst us) → DasAt K H' l us → Q (.ref a) H'
theorem VlAt.bare {dl : Dl} {H : Hp} : ∀ {x : Vl} {v : V}, VlAt K dl H x v → VlAt K none H x v
  | .da _, _, h => h
  | .ls _, _, ⟨a, vs, e, h, r, _⟩ => ⟨a, vs, e, h, r, fun _ _ z => by cases z⟩
theorem VlsAt.bare {dl : Dl} {H : Hp} : ∀ {xs : List Vl} {vs : List V}, VlsAt K dl H xs vs → VlsAt K none H xs vs
  | _, _, .nil => .nil
  | _, _, .cons h r => .cons h.bare (VlsAt.bare r)
/-- data alone, no list -/
def isDa : Vl → Prop
  | .da _ => True
  | .ls _ => False
theorem ev_call {pre : List Vl → (Vl → Prop) → Prop} {X : XK} {t : TA} (h : Es K env t fun xs => pre xs fun x => isDa x ∧ S x) : Ev K env (tCall (sp_pu K pre) [] X t) S := fun H0 dl hs σ H Q E k =>
  h H0 dl hs σ H _ E fun xs vs H1 hx m q r => by
    refine ⟨xs, _, by rw [List.append_nil]; exact r.bare, hx, fun x v H2 hx s hv => ?_⟩
    obtain ⟨hd, s2⟩ := hx
    cases x with
    | da d => exact k _ v H2 s2 (m.trans (.same s)) (q.same s) hv
    | ls l => exact hd.elim
theorem el_call {pre : List Vl → (List Da → Prop) → Prop} {X : XK} {t : TA} {R : List Da → Prop} (h : Es K env t fun xs => pre xs R) : Eln K env (tCall (sp_pn K pre) [] X t) R := fun H0 dl hs σ H Q E k =>
  h H0 dl hs σ H _ E fun xs vs H1 hx m q r => ⟨xs, _, by rw [List.append_nil]; exact r.bare, hx, fun l a us H2 hl s hn ha hd => k l a us H2 hl (m.trans (.same s)) (q.same s) (m.fresh q hn) ha hd⟩
end
end My
namespace My
open PySem L2
section
variable {K : PySem.W.Frag} {env : Evn} {O : Out → Prop}
/-! ### statements -/
def seqO (K : PySem.W.Frag) (u : TS) (O : Out → Prop) : Out → Prop
  | .nx e => Sv K e u O
  | o => O o
theorem o_nx {u : TS} {e : Evn} (h : Sv K e u O) : seqO K u O (.nx e) := h
theorem o_bk {u : TS} {e : Evn} (h : O (.bk e)) : seqO K u O (.bk e) := h
theorem o_ct {u : TS} {e : Evn} (h : O (.ct e)) : seqO K u O (.ct e) := h
theorem o_rt {u : TS} {x : Vl} (h : O (.rt x)) : seqO K u O (.rt x) := h
theorem o_rn {u : TS} {l : List Da} (h : O (.rn l)) : seqO K u O (.rn l) := h
theorem sv_nil (h : O (.nx env)) : Sv K env tNext O := fun H0 dl hs σ H D E a b c d e => a env σ H h (.refl _ _) E
theorem sv_seq {t u : TS} (h : Sv K env t (seqO K u O)) : Sv K env (tSeq t u) O := fun H0 dl hs σ H D E a b c d e =>
  h H0 dl hs σ H _ E (fun e1 σ' H' (s : Sv K e1 u O) tk E' => s H0 dl hs σ' H' D E' (fun x y z s t2 => a x y z s (tk.trans t2)) (fun x y z s t2 => b x y z s (tk.trans t2)) (fun x y z s t2 => c x y z s (tk.trans t2)) d e) (fun x y z s => b x y z s) (fun x y z s => c x y z s) (fun x y z s => d x y z s) (fun x y z w s => e x y z w s)
theorem sv_cut {t u : TS} (h : Sv K env t (seqO K u O)) : Sv K env (tCut t u) O := fun H0 dl hs σ H D E a b c d e => by
  refine ⟨fun σ' H' => ∃ e1, Sv K e1 u O ∧ Tk K H H' ∧ EnvAt K H0 dl hs H' σ' e1, ?_, fun σ' H' ⟨e1, s, tk, E'⟩ => s H0 dl hs σ' H' D E' (fun x y z s t2 => a x y z s (tk.trans t2)) (fun x y z s t2 => b x y z s (tk.trans t2)) (fun x y z s t2 => c x y z s (tk.trans t2)) d e⟩
  exact h H0 dl hs σ H _ E (fun e1 σ' H' (s : Sv K e1 u O) tk E' => ⟨e1, s, tk, E'⟩) (fun x y z s => b x y z s) (fun x y z s => c x y z s) (fun x y z s => d x y z s) (fun x y z w s => e x y z w s)
structure KD (x : Vl) (R : Da → Prop) : Prop where
  h : ∃ d, x = .da d ∧ R d
theorem k_d {d : Da} {R : Da → Prop} (h : R d) : KD (.da d) R := ⟨d, rfl, h⟩
theorem sv_set {i : Nat} {te : TE} (h : Ev K env te fun x => KD x fun d => O (.nx (env.set i (some (.vl d))))) : Sv K env (tAsg te (gName i)) O := fun H0 dl hs σ H D E a b c d e =>
  h H0 dl hs σ H _ E fun x v H1 hx m q r => by
    obtain ⟨y, rfl, s⟩ := hx
    exact a _ _ H1 s (m.tk E.dlat) ((E.go m q).set r)
theorem sv_setN {i : Nat} {te : TE} (h : Eln K env te fun l => ∀ p : Addr, O (.nx (env.set i (some (.own p l))))) : Sv K env (tAsg te (gName i)) O := fun H0 dl hs σ H D E a b c d e =>
  h H0 dl hs σ H _ E fun l p vs H1 hl m q n hp r => by
    have h0 : H0 p = none := E.mv.fresh E.dlat n
    have E1 := E.go m q
    refine a _ _ H1 (hl p) (m.tk E.dlat) (E1.put (fun s es => ?_) (fun b l1 es j c l2 nj hj z => ?_))
    · cases es
      refine ⟨rfl, vs, hp, r, h0, fun g hg z => ?_⟩
      obtain ⟨ws, h1, _⟩ := E.held g hg
      rw [show g.1 = p from z] at h1
      rw [show H p = some (.lst ws) from h1] at n
      cases n
    · cases es
      obtain ⟨v, e1, _, ws, h1, _⟩ := E.slot j _ hj
      rw [z, n] at h1
      cases h1
theorem sv_app {i : Nat} {p : Addr} {l : List Da} {te : TE} (hi : env[i]? = some (some (.own p l))) (h : Ev K env te fun x => KD x fun d => l.length < sizeLine ∧ O (.nx (env.set i (some (.own p (l ++ [d])))))) : Sv K env (tDrop (tBM K "list" rAppend (tVar i) (tCons te tNil))) O := fun H0 dl hs σ H D E a b c d e => by
  obtain ⟨v, h1, rfl, vs, h2, h3, _⟩ := E.slot i _ hi
  refine ⟨_, h1, .inl ⟨rfl, vs, .inl (.inl h2)⟩, ?_⟩
  refine h H0 dl hs σ H _ E fun x v H1 hx m q r => ?_
  obtain ⟨y, rfl, n, s⟩ := hx
  have E1 := E.go m q
  obtain ⟨w, e1, rfl, vs1, g2, g3, _⟩ := E1.slot i _ hi
  have tk : Tk K H1 (upd H1 p (.lst (vs1 ++ [v]))) := .bl (.put g2)
  exact ⟨p, vs1, v, rfl, rfl, g2, by rw [g3.len]; exact n, a _ _ _ s ((m.tk E.dlat).trans tk) (E1.write hi (das_app (g3.keep tk) (.cons (DaAt.keep tk r) .nil)))⟩
theorem sv_if {t : TT} {u u' : TS} (h : Tv K env t fun x => KIf x (Sv K env u O) (Sv K env u' O)) : Sv K env (tIfS t u u') O := fun H0 dl hs σ H D E a b c d e =>
  h H0 dl hs σ H _ E fun x H1 hx m q => by
    obtain ⟨hx⟩ := hx
    cases x
    · exact hx H0 dl hs σ H1 D (E.go m q) (fun x y z s t2 => a x y z s ((m.tk E.dlat).trans t2)) (fun x y z s t2 => b x y z s ((m.tk E.dlat).trans t2)) (fun x y z s t2 => c x y z s ((m.tk E.dlat).trans t2)) d e
    · exact hx H0 dl hs σ H1 D (E.go m q) (fun x y z s t2 => a x y z s ((m.tk E.dlat).trans t2)) (fun x y z s t2 => b x y z s ((m.tk E.dlat).trans t2)) (fun x y z s t2 => c x y z s ((m.tk E.dlat).trans t2)) d e
theorem sv_ret {te : TE} (h : Ev K env te fun x => O (.rt x)) : Sv K env (tRet te) O := fun H0 dl hs σ H D E a b c d e =>
  h H0 dl hs σ H _ E fun x v H1 hx m q r => d x v H1 hx (E.mv.trans m) q r
theorem sv_retN {te : TE} (h : Eln K env te fun l => O (.rn l)) : Sv K env (tRet te) O := fun H0 dl hs σ H D E a b c d e =>
  h H0 dl hs σ H _ E fun l p vs H1 hx m q n hp r => e l p vs H1 hx (E.mv.trans m) q (E.mv.fresh E.dlat n) hp r
theorem sv_retO {i : Nat} {p : Addr} {l : List Da} (hi : env[i]? = some (some (.own p l))) (h : O (.rn l)) : Sv K env (tRet (tVar i)) O := fun H0 dl hs σ H D E a b c d e => by
  obtain ⟨v, h1, rfl, vs, h2, h3, h4, _⟩ := E.slot i _ hi
  exact ⟨_, h1, e l p vs H h E.mv E.dlat h4 h2 h3⟩
theorem sv_retNone (h : O (.rt (.da .non))) : Sv K env tRetN O := fun H0 dl hs σ H D E a b c d e => d _ _ H h E.mv E.dlat .non
theorem sv_drop {te : TE} (h : Ev K env te fun _ => O (.nx env)) : Sv K env (tDrop te) O := fun H0 dl hs σ H D E a b c d e =>
  h H0 dl hs σ H _ E fun x v H1 hx m q r => a _ _ H1 hx (m.tk E.dlat) (E.go m q)
end
end My
namespace My
open PySem L2
/-! ### what is walked -/
structure Wd (K : PySem.W.Frag) (J : It) (l : List Da) (G : Hp → Prop) : Prop where
  go : ∀ i H, i < l.length → G H → J.go i H
  stop : ∀ H, G H → J.stop l.length H
  yld : ∀ i H x H', i < l.length → G H → J.yld i H x H' → Same H H' ∧ ∃ d, l[i]? = some d ∧ DaAt K H' d x
def Iv (K : PySem.W.Frag) (env : Evn) (wi : TI) (S : List Da → (Evn → Prop) → Prop) : Prop := ∀ (H0 : Hp) (dl : Dl) (hs : Hs) (σ : St) (H : Hp) (R : It → Hp → Prop), EnvAt K H0 dl hs H σ env →
  (∀ (l : List Da) (kp : Evn → Prop) (J : It) (H1 : Hp) (hs1 : Hs) (G : Hp → Prop), S l kp → Mv dl H H1 → DlAt dl H1 → Wd K J l G → EnvAt K H0 dl hs1 H1 σ env → (hs1 = hs ∨ ∃ p, hs1 = p :: hs) →
    (∀ (σ' : St) (H2 : Hp) (e : Evn), kp e → Tk K H1 H2 → EnvAt K H0 dl hs1 H2 σ' e → G H2) → R J H1) → wi σ H R
section
variable {K : PySem.W.Frag} {env : Evn} {S : List Da → (Evn → Prop) → Prop}
theorem wd_tup {H : Hp} {a : Addr} {l : List Da} : Wd K (Itt K a) l (fun H => ∃ vs, SqT K H a vs ∧ DasAt K H l vs) := by
  refine ⟨fun i H hi ⟨vs, h, r⟩ => ⟨vs, vs[i]'(by rw [r.len]; exact hi), h, by simp⟩, fun H ⟨vs, h, r⟩ => ⟨vs, h, by rw [r.len]; exact Nat.le_refl _⟩, fun i H x H' hi ⟨vs, h, r⟩ y => ?_⟩
  obtain ⟨rfl, f⟩ := y
  have e : l[i]? = some l[i] := by simp [hi]
  obtain ⟨v, e1, e2⟩ := r.at e
  have := f vs h
  rw [e1] at this
  cases this
  exact ⟨Same.refl _, _, e, e2⟩
theorem wd_list {a : Addr} {l : List Da} : Wd K (Itl K a) l (fun H => ∃ vs, SqL K H a vs ∧ DasAt K H l vs) := by
  refine ⟨fun i H hi ⟨vs, h, r⟩ => ⟨vs, vs[i]'(by rw [r.len]; exact hi), h, by simp⟩, fun H ⟨vs, h, r⟩ => ⟨vs, h, by rw [r.len]; exact Nat.le_refl _⟩, fun i H x H' hi ⟨vs, h, r⟩ y => ?_⟩
  obtain ⟨rfl, f⟩ := y
  have e : l[i]? = some l[i] := by simp [hi]
  obtain ⟨v, e1, e2⟩ := r.at e
  have := f vs h
  rw [e1] at this
  cases this
  exact ⟨Same.refl _, _, e, e2⟩
theorem iv_tup {tl : TE} (h : Ev K env tl fun x => KT x fun l => S l fun _ => True) : Iv K env (iTup K tl) S := fun H0 dl hs σ H R E k =>
  h H0 dl hs σ H _ E fun x v H1 hx m q r => by
    obtain ⟨l, rfl, s⟩ := hx
    obtain ⟨a, vs, rfl, h1, h2⟩ := da_tup r
    exact ⟨a, rfl, ⟨vs, h1⟩, k l _ _ H1 hs _ s m q (wd_tup (H := H1)) (E.go m q) (.inl rfl) fun σ' H2 e _ tk _ => ⟨vs, tk _ _ h1, h2.keep tk⟩⟩
theorem iv_listV {j : Nat} {a : Addr} {l : List Da} (hj : env[j]? = some (some (.ls a l))) (s : S l fun _ => True) : Iv K env (iList K (tVar j)) S := fun H0 dl hs σ H R E k => by
  obtain ⟨v, h1, rfl, h2⟩ := E.slot j _ hj
  obtain ⟨vs, h3, _⟩ := E.held _ h2
  refine ⟨_, h1, a, rfl, ⟨vs, h3.sq⟩, k l _ _ H hs _ s (.refl _ _) E.dlat wd_list E (.inl rfl) fun σ' H2 e _ tk E2 => ?_⟩
  obtain ⟨us, h4, h5, _⟩ := E2.held _ h2
  exact ⟨us, h4.sq, h5⟩
theorem iv_listO {j : Nat} {a : Addr} {l : List Da} (hj : env[j]? = some (some (.own a l))) (s : S l fun e => e[j]? = some (some (.own a l))) : Iv K env (iList K (tVar j)) S := fun H0 dl hs σ H R E k => by
  obtain ⟨v, h1, rfl, vs, h2, h3, _⟩ := E.slot j _ hj
  refine ⟨_, h1, a, rfl, ⟨vs, .inl (.inl h2)⟩, k l _ _ H hs _ s (.refl _ _) E.dlat wd_list E (.inl rfl) fun σ' H2 e he tk E2 => ?_⟩
  obtain ⟨_, _, _, us, h4, h5, _⟩ := E2.slot j _ he
  exact ⟨us, .inl (.inl h4), h5⟩
theorem iv_listN {tl : TE} (h : Eln K env tl fun l => S l fun _ => True) : Iv K env (iList K tl) S := fun H0 dl hs σ H R E k =>
  h H0 dl hs σ H _ E fun l a vs H1 s m q n ha r => by
    refine ⟨a, rfl, ⟨vs, .inl (.inl ha)⟩, k l _ _ H1 ((a, l) :: hs) _ s m q wd_list ((E.go m q).hold ha r (E.dlat.ne n) fun i b l' hb z => ?_) (.inr ⟨_, rfl⟩) fun σ' H2 e _ tk E2 => ?_⟩
    · obtain ⟨_, _, _, ws, h4, _⟩ := E.slot i _ hb
      rw [← z, n] at h4
      cases h4
    · obtain ⟨us, h4, h5, _⟩ := E2.held _ (List.mem_cons_self ..)
      exact ⟨us, h4.sq, h5⟩
structure KR1 (xs : List Vl) (R : Int → Prop) : Prop where
  h : ∃ j : Int, xs = [.da (.int j)] ∧ (-(2 ^ 62) ≤ j ∧ j < 2 ^ 62) ∧ R j
theorem k_r1 {j : Int} {R : Int → Prop} (b : -(2 ^ 62) ≤ j ∧ j < 2 ^ 62) (h : R j) : KR1 [.da (.int j)] R := ⟨j, rfl, b, h⟩
theorem iv_range1 {ta : TA} (h : Es K env ta fun xs => KR1 xs fun j => S ((List.range j.toNat).map fun i => .int (i : Nat)) fun _ => True) : Iv K env (iRng1 ta) S := fun H0 dl hs σ H R E k =>
  h H0 dl hs σ H _ E fun xs vs H1 hx m q r => by
    obtain ⟨j, rfl, ⟨j1, j2⟩, s⟩ := hx
    obtain ⟨v, rfl, r1⟩ := vls_one r
    have h1 := atm_at (show DaAt K H1 (.int j) v from r1) rfl
    refine ⟨j, by rw [h1], j1, j2, k _ _ _ H1 hs (fun _ => True) s m q ⟨fun i H hi _ => ?_, fun H _ => ?_, fun i H x H' hi _ y => ?_⟩ (E.go m q) (.inl rfl) fun _ _ _ _ _ _ => trivial⟩
    · rw [List.length_map, List.length_range] at hi; exact hi
    · rw [List.length_map, List.length_range]; exact Nat.le_refl _
    · obtain ⟨rfl, rfl⟩ := y
      rw [List.length_map, List.length_range] at hi
      exact ⟨Same.refl _, _, by rw [List.getElem?_map, List.getElem?_range hi]; rfl, by rw [Int.zero_add]; exact .int _⟩
theorem iv_range2 {ta : TA} (h : Es K env ta fun xs => ∃ i j : Int, xs = [.da (.int i), .da (.int j)] ∧ (-(2 ^ 62) ≤ i ∧ i < 2 ^ 62 ∧ -(2 ^ 62) ≤ j ∧ j < 2 ^ 62) ∧ S ((List.range (j - i).toNat).map fun n => .int (i + (n : Nat))) fun _ => True) : Iv K env (iRng2 ta) S := fun H0 dl hs σ H R E k =>
  h H0 dl hs σ H _ E fun xs vs H1 hx m q r => by
    obtain ⟨a, j, rfl, jj, s⟩ := hx
    obtain ⟨v, u, rfl, r1, r2⟩ := vls_two r
    have h1 := atm_at (show DaAt K H1 (.int a) v from r1) rfl
    have h2 := atm_at (show DaAt K H1 (.int j) u from r2) rfl
    refine ⟨a, j, by rw [h1, h2], jj, k _ _ _ H1 hs (fun _ => True) s m q ⟨fun i H hi _ => ?_, fun H _ => ?_, fun i H x H' hi _ y => ?_⟩ (E.go m q) (.inl rfl) fun _ _ _ _ _ _ => trivial⟩
    · rw [List.length_map, List.length_range] at hi; exact hi
    · rw [List.length_map, List.length_range]; exact Nat.le_refl _
    · obtain ⟨rfl, rfl⟩ := y
      rw [List.length_map, List.length_range] at hi
      exact ⟨Same.refl _, _, by rw [List.getElem?_map, List.getElem?_range hi]; rfl, .int _⟩
structure KTx (x : Vl) (R : List Nat → Prop) : Prop where
  h : ∃ cs : List Nat, x = .da (.str (tx cs)) ∧ R cs
theorem k_tx {cs : List Nat} {R : List Nat → Prop} (h : R cs) : KTx (.da (.str (tx cs))) R := ⟨cs, rfl, h⟩
theorem iv_str {te : TE} (h : Ev K env te fun x => KTx x fun cs => S (cs.map fun c => .str (tx [c])) fun _ => True) : Iv K env (iStr te) S := fun H0 dl hs σ H R E k =>
  h H0 dl hs σ H _ E fun x v H1 hx m q r => by
    obtain ⟨cs, rfl, s⟩ := hx
    have h1 := atm_at (show DaAt K H1 (.str (tx cs)) v from r) rfl
    have hz : (tx cs).cps.size = cs.length := by simp [tx]
    refine ⟨tx cs, h1, k _ _ _ H1 hs (fun _ => True) s m q ⟨fun i H hi _ => ?_, fun H _ => ?_, fun i H x H' hi _ y => ?_⟩ (E.go m q) (.inl rfl) fun _ _ _ _ _ _ => trivial⟩
    · rw [List.length_map] at hi
      show i < (tx cs).cps.size
      rw [hz]; exact hi
    · rw [List.length_map]
      show (tx cs).cps.size ≤ _
      rw [hz]; exact Nat.le_refl _
    · obtain ⟨rfl, c, hc, rfl⟩ := y
      have e : (tx cs).cps[i]? = cs[i]? := by simp [tx]
      rw [e] at hc
      exact ⟨Same.refl _, _, by rw [List.getElem?_map, hc]; rfl, .str _⟩
def pairs (l : List Da) : List Da := l.mapIdx fun i d => .tup [.int (i : Nat), d]
structure KT1 (xs : List Vl) (R : List Da → Prop) : Prop where
  h : ∃ l, xs = [.da (.tup l)] ∧ R l
theorem k_t1 {l : List Da} {R : List Da → Prop} (h : R l) : KT1 [.da (.tup l)] R := ⟨l, rfl, h⟩
theorem iv_enumT {ta : TA} (h : Es K env ta fun xs => KT1 xs fun l => S (pairs l) fun _ => True) : Iv K env (iEnumT K ta) S := fun H0 dl hs σ H R E k =>
  h H0 dl hs σ H _ E fun xs vs H1 hx m q r => by
    obtain ⟨l, rfl, s⟩ := hx
    obtain ⟨v, rfl, r1⟩ := vls_one r
    obtain ⟨a, us, rfl, h1, h2⟩ := da_tup r1
    have hl : (pairs l).length = l.length := by simp [pairs]
    refine ⟨a, us, rfl, h1, k _ _ _ H1 hs (fun H => SqT K H a us ∧ DasAt K H l us) s m q ⟨fun i H hi ⟨g, r⟩ => ?_, fun H ⟨g, r⟩ => ?_, fun i H x H' hi ⟨g, r⟩ y => ?_⟩ (E.go m q) (.inl rfl) fun σ' H2 e _ tk _ => ⟨tk _ _ h1, h2.keep tk⟩⟩
    · rw [hl] at hi
      exact ⟨us, us[i]'(by rw [r.len]; exact hi), g, by simp⟩
    · exact ⟨us, g, by rw [r.len, hl]⟩
    · obtain ⟨T, x, ⟨rfl, hT⟩, rfl, f⟩ := y
      rw [hl] at hi
      have e : l[i]? = some l[i] := by simp [hi]
      obtain ⟨v, e1, e2⟩ := r.at e
      have := f us g
      rw [e1] at this
      cases this
      refine ⟨same_upd hT, _, by simp [pairs, hi], .tup (SqT.of upd_same) (.cons (.int _) (.cons (DaAt.keep (.same (same_upd hT)) e2) .nil))⟩
end
end My
namespace My
open PySem L2
/-! ### targets -/
def Gv (K : PySem.W.Frag) (env : Evn) (g : TG) (ts : List Nat) (d : Da) (P : Evn → Prop) : Prop := ∀ (H0 : Hp) (dl : Dl) (hs : Hs) (σ : St) (H : Hp) (R : St → Hp → Prop) (v : V), EnvAt K H0 dl hs H σ env → DaAt K H d v →
  (∀ e σ', P e → EnvAt K H0 dl hs H σ' e → (∀ vs : List Nat, (∀ i ∈ ts, i ∈ vs) → wipe σ' vs = wipe σ vs) → R σ' H) → g v σ H R
theorem wipe_set2 {k : Nat} {o : Option V} {s : St} : ∀ vs : List Nat, (wipe (s.set k o) vs).set k none = (wipe s vs).set k none
  | [] => by
    show (s.set k o).set k none = s.set k none
    rw [List.set_set]
  | v :: r => by
    show ((wipe (s.set k o) r).set v none).set k none = ((wipe s r).set v none).set k none
    by_cases e : v = k
    · subst e
      rw [List.set_set, List.set_set]
      exact wipe_set2 r
    · rw [List.set_comm _ _ e, List.set_comm _ _ e, wipe_set2 r]
theorem wipe_set {k : Nat} {o : Option V} {s : St} : ∀ {vs : List Nat}, k ∈ vs → wipe (s.set k o) vs = wipe s vs
  | [], h => by cases h
  | v :: r, h => by
    show (wipe (s.set k o) r).set v none = (wipe s r).set v none
    by_cases e : k = v
    · subst e
      exact wipe_set2 r
    · rw [wipe_set ((List.mem_cons.mp h).resolve_left e)]
/-- the slots of a comprehension forgotten -/
def ewipe (env : Evn) : List Nat → Evn
  | [] => env
  | v :: vs => (ewipe env vs).set v none
theorem EnvAt.wipe {K : PySem.W.Frag} {H0 H : Hp} {dl : Dl} {hs : Hs} {σ : St} {env : Evn} (E : EnvAt K H0 dl hs H σ env) : ∀ vs : List Nat, EnvAt K H0 dl hs H (L2.wipe σ vs) (ewipe env vs)
  | [] => E
  | v :: r => (EnvAt.wipe E r).drop v none
section
variable {K : PySem.W.Frag} {env : Evn} {P : Evn → Prop}
theorem gv_name {i : Nat} {d : Da} (h : P (env.set i (some (.vl d)))) : Gv K env (gName i) [i] d P := fun H0 dl hs σ H R v E r k =>
  k _ _ h (E.set r) fun vs hv => wipe_set (hv i (by simp))
theorem gv_tup2 {i j : Nat} {a b : Da} (h : P ((env.set i (some (.vl a))).set j (some (.vl b)))) : Gv K env (gTup K 2 (gCons (gName i) (gCons (gName j) gNil))) [i, j] (.tup [a, b]) P := fun H0 dl hs σ H R v E r k => by
  obtain ⟨p, us, rfl, h1, h2⟩ := da_tup r
  cases h2 with
  | cons x1 r1 =>
    cases r1 with
    | cons x2 r2 =>
      cases r2
      exact ⟨p, _, rfl, h1, rfl, _, _, rfl, _, _, rfl, rfl, k _ _ h ((E.set x1).set x2) fun vs hv => by rw [wipe_set (hv j (by simp)), wipe_set (hv i (by simp))]⟩
theorem gv_tup3 {i j l : Nat} {a b c : Da} (h : P (((env.set i (some (.vl a))).set j (some (.vl b))).set l (some (.vl c)))) : Gv K env (gTup K 3 (gCons (gName i) (gCons (gName j) (gCons (gName l) gNil)))) [i, j, l] (.tup [a, b, c]) P := fun H0 dl hs σ H R v E r k => by
  obtain ⟨p, us, rfl, h1, h2⟩ := da_tup r
  cases h2 with
  | cons x1 r1 =>
    cases r1 with
    | cons x2 r2 =>
      cases r2 with
      | cons x3 r3 =>
        cases r3
        exact ⟨p, _, rfl, h1, rfl, _, _, rfl, _, _, rfl, _, _, rfl, rfl, k _ _ h (((E.set x1).set x2).set x3) fun vs hv => by rw [wipe_set (hv l (by simp)), wipe_set (hv j (by simp)), wipe_set (hv i (by simp))]⟩
theorem gx_name {i : Nat} {d : Da} (h : P (env.set i (some (.vl d)))) : ∃ ts, Gv K env (gName i) ts d P := ⟨_, gv_name h⟩
theorem gx_tup2 {i j : Nat} {a b : Da} (h : P ((env.set i (some (.vl a))).set j (some (.vl b)))) : ∃ ts, Gv K env (gTup K 2 (gCons (gName i) (gCons (gName j) gNil))) ts (.tup [a, b]) P := ⟨_, gv_tup2 h⟩
theorem gx_tup3 {i j l : Nat} {a b c : Da} (h : P (((env.set i (some (.vl a))).set j (some (.vl b))).set l (some (.vl c)))) : ∃ ts, Gv K env (gTup K 3 (gCons (gName i) (gCons (gName j) (gCons (gName l) gNil)))) ts (.tup [a, b, c]) P := ⟨_, gv_tup3 h⟩
/-! ### loops -/
/-- no held list is named that was not -/
def LsIn (env e : Evn) : Prop := ∀ (i : Nat) (b : Addr) (l : List Da), e[i]? = some (some (.ls b l)) → ∃ j : Nat, env[j]? = some (some (.ls b l))
def lsOf : Evn → List (Addr × List Da)
  | [] => []
  | some (.ls a l) :: r => (a, l) :: lsOf r
  | _ :: r => lsOf r
theorem lsOf_mem : ∀ {e : Evn} {i : Nat} {b : Addr} {l : List Da}, e[i]? = some (some (.ls b l)) → (b, l) ∈ lsOf e
  | [], _, _, _, h => by simp at h
  | o :: r, 0, b, l, h => by
    cases Option.some.inj h
    exact List.mem_cons_self ..
  | o :: r, i + 1, b, l, h => by
    have := lsOf_mem (e := r) (i := i) h
    rcases o with _ | s
    · exact this
    · cases s with
      | ls a l => exact List.mem_cons_of_mem _ this
      | _ => exact this
theorem mem_lsOf : ∀ {e : Evn} {b : Addr} {l : List Da}, (b, l) ∈ lsOf e → ∃ i : Nat, e[i]? = some (some (.ls b l))
  | [], _, _, h => by simp [lsOf] at h
  | o :: r, b, l, h => by
    have go : (b, l) ∈ lsOf r → ∃ i : Nat, (o :: r)[i]? = some (some (.ls b l)) := fun h => by
      obtain ⟨i, hi⟩ := mem_lsOf h
      exact ⟨i + 1, hi⟩
    rcases o with _ | s
    · exact go h
    · cases s with
      | ls a l2 =>
        rcases List.mem_cons.mp h with h | h
        · cases h
          exact ⟨0, rfl⟩
        · exact go h
      | _ => exact go h
theorem LsIn.of {env e : Evn} (h : lsOf e = lsOf env) : LsIn env e := fun i b l hi => mem_lsOf (by rw [← h]; exact lsOf_mem hi)
/-- e' knows less -/
inductive Wk : Evn → Evn → Prop where
  | nil : Wk [] []
  | no {o : Option Sl} {e e' : Evn} (h : Wk e e') : Wk (o :: e) (none :: e')
  | yes {o : Option Sl} {e e' : Evn} (h : Wk e e') : Wk (o :: e) (o :: e')
theorem Wk.refl : ∀ e : Evn, Wk e e
  | [] => .nil
  | _ :: e => .yes (Wk.refl e)
theorem Wk.len : ∀ {e e' : Evn}, Wk e e' → e'.length = e.length
  | _, _, .nil => rfl
  | _, _, .no h => by rw [List.length_cons, List.length_cons, h.len]
  | _, _, .yes h => by rw [List.length_cons, List.length_cons, h.len]
theorem Wk.le : ∀ {e e' : Evn}, Wk e e' → ∀ (i : Nat) (s : Sl), e'[i]? = some (some s) → e[i]? = some (some s)
  | _, _, .nil, i, s, h => h
  | _, _, .no h, 0, s, hi => by cases hi
  | _, _, .no h, i + 1, s, hi => h.le i s hi
  | _, _, .yes h, 0, s, hi => hi
  | _, _, .yes h, i + 1, s, hi => h.le i s hi
def lpO (env : Evn) (J : Evn → Prop) (O : Out → Prop) : Out → Prop
  | .nx e => J e
  | .ct e => J e
  | .bk e => LsIn env e ∧ O (.nx e)
  | o => O o
theorem l_nx {J : Evn → Prop} {O : Out → Prop} {e : Evn} (h : J e) : lpO env J O (.nx e) := h
theorem l_ct {J : Evn → Prop} {O : Out → Prop} {e : Evn} (h : J e) : lpO env J O (.ct e) := h
theorem l_bk {J : Evn → Prop} {O : Out → Prop} {e : Evn} (h1 : LsIn env e) (h : O (.nx e)) : lpO env J O (.bk e) := ⟨h1, h⟩
theorem l_rt {J : Evn → Prop} {O : Out → Prop} {x : Vl} (h : O (.rt x)) : lpO env J O (.rt x) := h
theorem l_rn {J : Evn → Prop} {O : Out → Prop} {x : List Da} (h : O (.rn x)) : lpO env J O (.rn x) := h
structure KFor (K : PySem.W.Frag) (env : Evn) (g : TG) (body : TS) (O : Out → Prop) (l : List Da) (kp : Evn → Prop) : Prop where
  h : ∃ I : Nat → Evn → Prop, (∃ e, Wk env e ∧ I 0 e) ∧ (∀ k e, I k e → kp e) ∧ (∀ k d e, l[k]? = some d → I k e → ∃ ts, Gv K e g ts d fun e' => Sv K e' body (lpO env (fun e => ∃ e2, Wk e e2 ∧ I (k + 1) e2) O)) ∧ ∀ e, I l.length e → LsIn env e ∧ O (.nx e)
/-- the slots by the number of turns -/
theorem k_for {g : TG} {body : TS} {O : Out → Prop} {l : List Da} {kp : Evn → Prop} (F : Nat → Evn) (h0 : Wk env (F 0)) (hk : ∀ k, kp (F k)) (hs : ∀ k d, l[k]? = some d → ∃ ts, Gv K (F k) g ts d fun e' => Sv K e' body (lpO env (fun e => ∃ e2, Wk e e2 ∧ e2 = F (k + 1)) O)) (hl : LsIn env (F l.length)) (hd : O (.nx (F l.length))) : KFor K env g body O l kp :=
  ⟨fun k e => e = F k, ⟨_, h0, rfl⟩, fun k e h => by rw [h]; exact hk k, fun k d e hd h => by rw [h]; exact hs k d hd, fun e h => by rw [h]; exact ⟨hl, hd⟩⟩
theorem k_forI {g : TG} {body : TS} {O : Out → Prop} {l : List Da} {kp : Evn → Prop} (I : Nat → Evn → Prop) (h0 : ∃ e, Wk env e ∧ I 0 e) (hk : ∀ k e, I k e → kp e) (hs : ∀ k d e, l[k]? = some d → I k e → ∃ ts, Gv K e g ts d fun e' => Sv K e' body (lpO env (fun e => ∃ e2, Wk e e2 ∧ I (k + 1) e2) O)) (hd : ∀ e, I l.length e → LsIn env e ∧ O (.nx e)) : KFor K env g body O l kp := ⟨I, h0, hk, hs, hd⟩
/-- the end of a turn -/
theorem l_nx' {O : Out → Prop} {e e2 : Evn} (w : Wk e e2) : lpO env (fun e => ∃ e3, Wk e e3 ∧ e3 = e2) O (.nx e) := ⟨_, w, rfl⟩
theorem sv_for {wi : TI} {g : TG} {body : TS} {O : Out → Prop} (h : Iv K env wi fun l kp => KFor K env g body O l kp) : Sv K env (tFor wi g body) O := fun H0 dl hs σ H D E a b c d_rt e_rn => by
  rw [tFor_eq]
  refine h H0 dl hs σ H _ E fun l kp J H1 hs1 G hk m q wd E1 hhs hG => ?_
  obtain ⟨I, i0, ik, is, ie⟩ := hk
  have wk : Walk J l.length G (fun i H x H' => Same H H' ∧ ∃ d, l[i]? = some d ∧ DaAt K H' d x) := ⟨fun i H hi g => wd.go i H hi g, fun H g => wd.stop H g, fun i H x H' hi g y => wd.yld i H x H' hi g y⟩
  have drop : ∀ (e' : Evn) (σ' : St) (H' : Hp), LsIn env e' → EnvAt K H0 dl hs1 H' σ' e' → EnvAt K H0 dl hs H' σ' e' := fun e' σ' H' hl E' => by
    rcases hhs with rfl | ⟨⟨p, pl⟩, rfl⟩
    · exact E'
    · refine E'.unhold fun i b l' hb => ?_
      obtain ⟨j, hj⟩ := hl i b l' hb
      obtain ⟨_, _, _, h2⟩ := E.slot j _ hj
      exact h2
  have fin : ForJ J g body D σ H1 := by
    refine for_it wk (fun i σ H => ∃ e1, I i e1 ∧ EnvAt K H0 dl hs1 H σ e1 ∧ Tk K H1 H) (by obtain ⟨e0, w0, i0⟩ := i0; exact ⟨e0, i0, E1.weak w0.len w0.le, .refl _ _⟩) (fun i σ' H' _ ⟨e1, h1, E', tk⟩ => hG σ' H' e1 (ik i e1 h1) tk E') (fun i x σ' H' H'' hi ⟨e1, h1, E', tk⟩ y => ?_) (fun σ' H' ⟨e1, h1, E', tk⟩ => ?_)
    · obtain ⟨sm, d, hd, hx⟩ := y
      have E2 : EnvAt K H0 dl hs1 H'' σ' e1 := E'.go (.same sm) (E'.dlat.same sm)
      have tk2 : Tk K H1 H'' := tk.trans (.same sm)
      obtain ⟨ts, hg⟩ := is i d e1 hd h1
      refine hg H0 dl hs1 σ' H'' _ x E2 hx fun e2 σ2 hb E3 _ => ?_
      refine hb H0 dl hs1 σ2 H'' _ E3 (fun e3 σ3 H3 s t E4 => by obtain ⟨e4, w4, s⟩ := s; exact ⟨e4, s, E4.weak w4.len w4.le, tk2.trans t⟩) (fun e3 σ3 H3 s t E4 => ?_) (fun e3 σ3 H3 s t E4 => by obtain ⟨e4, w4, s⟩ := s; exact ⟨e4, s, E4.weak w4.len w4.le, tk2.trans t⟩) (fun x v H3 s => d_rt x v H3 s) (fun l2 p vs H3 s => e_rn l2 p vs H3 s)
      exact a e3 σ3 H3 s.2 ((m.tk E.dlat).trans (tk2.trans t)) (drop e3 σ3 H3 s.1 E4)
    · obtain ⟨hl, ho⟩ := ie e1 h1
      exact a e1 σ' H' ho ((m.tk E.dlat).trans tk) (drop e1 σ' H' hl E')
  exact fin
end
end My
namespace My
open PySem L2
section
variable {K : PySem.W.Frag} {env : Evn}
/-- another list is written -/
theorem EnvAt.other {H0 H : Hp} {dl : Dl} {hs : Hs} {σ : St} (E : EnvAt K H0 dl hs H σ env) {p : Addr} {vs vs' : List V} (hp : H p = some (.lst vs)) (h0 : H0 p = none) (hh : ∀ q ∈ hs, q.1 ≠ p) (ho : ∀ (i : Nat) (b : Addr) (l : List Da), env[i]? = some (some (.own b l)) → b ≠ p) :
    EnvAt K H0 dl hs (upd H p (.lst vs')) σ env := by
  have tk : Tk K H (upd H p (.lst vs')) := .bl (.put hp)
  have n0 : ∀ b o, H0 b = some o → p ≠ b := fun b o e z => by rw [← z, h0] at e; cases e
  refine ⟨E.len, fun d l e => ?_, E.dl0, fun b o n e => by rw [upd_ne (fun z => n0 b o e z.symm)]; exact E.mv b o n e, fun q hq => ?_, fun j s hj => ?_, E.apart⟩
  · obtain ⟨_, _, _, _, _, _, q1, q2, _⟩ := E.dl0 d l e
    exact (E.dlat d l e).put (n0 _ _ q1) (n0 _ _ q2)
  · obtain ⟨ws, h1, h2, h3⟩ := E.held q hq
    exact ⟨ws, (upd_ne (hh q hq)).trans h1, h2.keep tk, h3⟩
  · obtain ⟨v, h1, h2⟩ := E.slot j s hj
    refine ⟨v, h1, ?_⟩
    cases s with
    | vl d => exact DaAt.keep tk h2
    | ls b l => exact h2
    | own b l1 =>
      obtain ⟨e, ws, hb, hd2, b0, bn⟩ := h2
      exact ⟨e, ws, by rw [upd_ne (ho j b l1 hj)]; exact hb, hd2.keep tk, b0, bn⟩
    | dr => exact h2
theorem ewipe_own : ∀ {vs : List Nat} {i : Nat} {s : Sl}, (ewipe env vs)[i]? = some (some s) → env[i]? = some (some s)
  | [], _, _, h => h
  | v :: r, i, s, h => by
    have ni : v ≠ i := fun e => by
      subst e
      have := (set_self h).2
      cases this
    rw [show ewipe env (v :: r) = (ewipe env r).set v none from rfl, List.getElem?_set_ne ni] at h
    exact ewipe_own h
theorem wipe_wipe {σ : St} : ∀ vs : List Nat, wipe (wipe σ vs) vs = wipe σ vs
  | [] => rfl
  | v :: r => by
    show (wipe ((wipe σ r).set v none) r).set v none = (wipe σ r).set v none
    rw [wipe_set2 r, wipe_wipe r]
structure KLc (K : PySem.W.Frag) (env : Evn) (g : TG) (vs : List Nat) (tt : TT) (te : TE) (S : List Da → Prop) (l : List Da) (kp : Evn → Prop) : Prop where
  h : kp (ewipe env vs) ∧ l.length ≤ sizeLine ∧ ∃ I : Nat → List Da → Prop, I 0 [] ∧
    (∀ k d acc, l[k]? = some d → I k acc → Gv K (ewipe env vs) g vs d fun e => Tv K e tt fun b => KIf b (Ev K e te fun y => KD y fun d' => I (k + 1) (acc ++ [d'])) (I (k + 1) acc)) ∧ ∀ acc, I l.length acc → S acc
theorem el_lc {wi : TI} {g : TG} {vs : List Nat} {tt : TT} {te : TE} {S : List Da → Prop} (h : Iv K env wi fun l kp => KLc K env g vs tt te S l kp) : Eln K env (tLc wi g tt te vs) S := fun H0 dl hs σ H Q E fin => by
  rw [tLc_eq]
  refine h H0 dl hs σ H _ E fun l kp J H1 hs1 G hk m q wd E1 hhs hG => ?_
  obtain ⟨hkp, hn, I, i0, is, ie⟩ := hk
  have wk : Walk J l.length G (fun i H x H' => Same H H' ∧ ∃ d, l[i]? = some d ∧ DaAt K H' d x) := ⟨fun i H hi g => wd.go i H hi g, fun H g => wd.stop H g, fun i H x H' hi g y => wd.yld i H x H' hi g y⟩
  intro D hD
  have h0 : H0 D = none := E1.mv.fresh E1.dlat hD
  have hh : ∀ p ∈ hs1, p.1 ≠ D := fun p hp z => by
    obtain ⟨ws, h1, _⟩ := E1.held p hp
    rw [z] at h1
    rw [show H1 D = some (.lst ws) from h1] at hD
    cases hD
  have E2 := E1.wipe vs
  have ho : ∀ (i : Nat) (b : Addr) (l' : List Da), (ewipe env vs)[i]? = some (some (.own b l')) → b ≠ D := fun i b l' hb z => by
    obtain ⟨_, _, _, ws, h1, _⟩ := E1.slot i _ (ewipe_own hb)
    rw [z, hD] at h1
    cases h1
  refine lc_it wk (fun i H => ∃ accD acc, I i accD ∧ accD.length ≤ i ∧ H D = some (.lst acc) ∧ DasAt K H accD acc ∧ EnvAt K H0 dl hs1 H (wipe σ vs) (ewipe env vs) ∧ Tk K H1 H ∧ Mv dl H1 H) ?_ ?_ ?_ ?_
  · refine ⟨[], [], i0, Nat.le_refl _, upd_same, .nil, E2.go (.same (same_upd hD)) (E2.dlat.same (same_upd hD)), .same (same_upd hD), .same (same_upd hD)⟩
  · rintro i H2 _ ⟨_, _, _, _, _, _, E3, tk, _⟩
    exact hG _ H2 _ hkp tk E3
  · rintro i x H2 H3 hi ⟨accD, acc, hI, ha, hDd, hr, E3, tk, mv⟩ ⟨sm, d, hd, hx⟩
    have E4 := E3.go (.same sm) (E3.dlat.same sm)
    have tk3 := tk.trans (.same sm)
    refine is i d accD hd hI H0 dl hs1 _ H3 _ x E4 hx fun e σ2 ht E5 hw => ⟨(hw vs fun _ h => h).trans (wipe_wipe vs), ?_⟩
    refine ht H0 dl hs1 σ2 H3 _ E5 fun b H4 hb m4 q4 => ?_
    have hD3 := sm _ _ hDd
    have nd : ∀ d l, dl = some (d, l) → D ≠ d := E1.dlat.ne hD
    have hD4 := m4 _ _ nd hD3
    have r3 : DasAt K H3 accD acc := hr.keep (.same sm)
    have mv3 := mv.trans (.same sm)
    obtain ⟨hb⟩ := hb
    cases b
    · exact ⟨accD, acc, hb, by omega, hD4, r3.keep (m4.tk E4.dlat), E4.go m4 q4, tk3.trans (m4.tk E4.dlat), mv3.trans m4⟩
    · refine hb H0 dl hs1 σ2 H4 _ (E5.go m4 q4) fun y v H5 hy m5 q5 rv => ?_
      obtain ⟨d', rfl, hI2⟩ := hy
      have hD5 := m5 _ _ nd hD4
      have m45 := m4.trans m5
      have r5 : DasAt K H5 accD acc := r3.keep (m45.tk E4.dlat)
      have tk5 : Tk K H5 (upd H5 D (.lst (acc ++ [v]))) := .bl (.put hD5)
      refine ⟨acc, hD5, by rw [r5.len]; omega, accD ++ [d'], acc ++ [v], hI2, by rw [List.length_append]; simp; omega, upd_same, das_app (r5.keep tk5) (.cons (DaAt.keep tk5 rv) .nil), (E4.go m45 q5).other hD5 h0 hh ho, (tk3.trans (m45.tk E4.dlat)).trans tk5, fun b o n e => ?_⟩
      rw [upd_ne (fun z => by rw [z, hD] at e; cases e)]
      exact (mv3.trans m45) b o n e
  · rintro H2 ⟨accD, acc, hI, _, hDd, hr, E3, tk, mv⟩
    exact fin accD D acc H2 (ie accD hI) (m.trans mv) E3.dlat (m.fresh q hD) hDd hr
/-! ### a def over data -/
def retO (S : Vl → Prop) : Out → Prop
  | .rt x => S x
  | .nx _ => S (.da .non)
  | _ => False
def rnO (S : List Da → Prop) : Out → Prop
  | .rn l => S l
  | _ => False
theorem r_rt {S : Vl → Prop} {x : Vl} (h : S x) : retO S (.rt x) := h
theorem r_nx {S : Vl → Prop} {e : Evn} (h : S (.da .non)) : retO S (.nx e) := h
theorem r_rn {S : List Da → Prop} {l : List Da} (h : S l) : rnO S (.rn l) := h
/-- the slots at a call: the lists by their addresses -/
inductive Ent : List Vl → Evn → Prop where
  | nil : Ent [] []
  | da {d : Da} {xs : List Vl} {e : Evn} (h : Ent xs e) : Ent (.da d :: xs) (some (.vl d) :: e)
  | ls {a : Addr} {l : List Da} {xs : List Vl} {e : Evn} (h : Ent xs e) : Ent (.ls l :: xs) (some (.ls a l) :: e)
theorem Ent.len : ∀ {xs : List Vl} {e : Evn}, Ent xs e → e.length = xs.length
  | _, _, .nil => rfl
  | _, _, .da h => by rw [List.length_cons, List.length_cons, h.len]
  | _, _, .ls h => by rw [List.length_cons, List.length_cons, h.len]
theorem ent_at {H : Hp} : ∀ {xs : List Vl} {vs : List V}, VlsAt K none H xs vs → ∃ (e : Evn) (hs : Hs), Ent xs e ∧ (∀ p ∈ hs, ∃ ws, Lq K H p.1 ws ∧ DasAt K H p.2 ws) ∧ ∀ (i : Nat) (s : Sl), e[i]? = some (some s) → ∃ v, vs[i]? = some v ∧ SlAt K H none hs H s v ∧ ∀ a l, s ≠ .own a l
  | _, _, .nil => ⟨[], [], .nil, fun p hp => (by cases hp), fun i s h => (by simp at h)⟩
  | .da d :: _, _, .cons (v := v) h r => by
    obtain ⟨e, hs, h1, h2, h3⟩ := ent_at r
    refine ⟨_, hs, .da h1, h2, fun i s hi => ?_⟩
    cases i with
    | zero =>
      cases Option.some.inj hi
      exact ⟨v, rfl, h, fun _ _ z => by cases z⟩
    | succ i => exact h3 i s hi
  | .ls l :: _, _, .cons (v := v) h r => by
    obtain ⟨e, hs, h1, h2, h3⟩ := ent_at r
    obtain ⟨a, us, rfl, g1, g2, _⟩ := h
    refine ⟨_, (a, l) :: hs, .ls (a := a) h1, fun p hp => ?_, fun i s hi => ?_⟩
    · rcases List.mem_cons.mp hp with rfl | hp
      · exact ⟨us, g1, g2⟩
      · exact h2 p hp
    · cases i with
      | zero =>
        cases Option.some.inj hi
        exact ⟨_, rfl, ⟨rfl, List.mem_cons_self ..⟩, fun _ _ z => by cases z⟩
      | succ i =>
        obtain ⟨v, e1, e2, e3⟩ := h3 i s hi
        refine ⟨v, e1, ?_, e3⟩
        cases s with
        | vl d => exact e2
        | ls b l' => exact ⟨e2.1, List.mem_cons_of_mem _ e2.2⟩
        | own b l' => exact absurd rfl (e3 b l')
        | dr => exact e2
theorem start_at {H : Hp} {N : List Str} {xs : List Vl} {vs : List V} (h : VlsAt K none H xs vs) : ∃ (e : Evn) (hs : Hs), Ent xs e ∧ EnvAt K H none hs H (L2.start N vs) (e ++ List.replicate (N.length - xs.length) none) := by
  obtain ⟨e, hs, h1, h2, h3⟩ := ent_at h
  have hv := h.len
  have he := h1.len
  have at_ : ∀ (i : Nat) (s : Sl), (e ++ List.replicate (N.length - xs.length) (none : Option Sl))[i]? = some (some s) → e[i]? = some (some s) := fun i s hi => by
    by_cases hl : i < e.length
    · rwa [List.getElem?_append_left hl] at hi
    · rw [List.getElem?_append_right (by omega), List.getElem?_replicate] at hi
      split at hi
      · cases hi
      · cases hi
  refine ⟨e, hs, h1, by unfold L2.start; rw [List.length_append, List.length_append, List.length_map, List.length_replicate, List.length_replicate, hv, he], fun d l z => (by cases z), fun d l z => (by cases z), .refl _ _, fun p hp => ?_, fun i s hi => ?_, fun i j a b l l' n hi hj => ?_⟩
  · obtain ⟨ws, q1, q2⟩ := h2 p hp
    exact ⟨ws, q1, q2, fun _ _ z => by cases z⟩
  · obtain ⟨v, e1, e2, _⟩ := h3 i s (at_ i s hi)
    refine ⟨v, ?_, e2⟩
    have hil := (List.getElem?_eq_some_iff.mp e1).1
    unfold L2.start
    rw [List.getElem?_append_left (by rw [List.length_map]; exact hil), List.getElem?_map, e1]
    rfl
  · obtain ⟨_, _, _, hno⟩ := h3 i _ (at_ i _ hi)
    exact absurd rfl (hno a l)
theorem fin_pu {pre : List Vl → (Vl → Prop) → Prop} {N : List Str} {t : TS} (h : ∀ xs R, pre xs R → ∀ e, Ent xs e → Sv K (e ++ List.replicate (N.length - xs.length) none) t (retO R)) {vs : List V} {H : Hp} {Q : VK} {E : XK} (hs : sp_pu K pre vs H Q E) :
    t { nx := fun _ H' => Q .non H', rt := Q } (L2.start N vs) H := by
  obtain ⟨xs, R, hx, hp, q⟩ := hs
  obtain ⟨e, hs, he, E⟩ := start_at (N := N) hx
  exact h xs R hp e he H none hs _ H _ E (fun e σ' H' o _ E' => q _ _ H' o E'.mv.toSame .non) (fun _ _ _ o => o.elim) (fun _ _ _ o => o.elim) (fun x v H' o m _ r => q x v H' o m.toSame r) (fun _ _ _ _ o => o.elim)
theorem fin_pn {pre : List Vl → (List Da → Prop) → Prop} {N : List Str} {t : TS} (h : ∀ xs R, pre xs R → ∀ e, Ent xs e → Sv K (e ++ List.replicate (N.length - xs.length) none) t (rnO R)) {vs : List V} {H : Hp} {Q : VK} {E : XK} (hs : sp_pn K pre vs H Q E) :
    t { nx := fun _ H' => Q .non H', rt := Q } (L2.start N vs) H := by
  obtain ⟨xs, R, hx, hp, q⟩ := hs
  obtain ⟨e, hs, he, E⟩ := start_at (N := N) hx
  exact h xs R hp e he H none hs _ H _ E (fun _ _ _ o => o.elim) (fun _ _ _ o => o.elim) (fun _ _ _ o => o.elim) (fun _ _ _ o => o.elim) (fun l a us H' o m _ h0 ha r => q l a us H' o m.toSame h0 ha r)
end
end My
namespace My
open PySem L2
section
variable {K : PySem.W.Frag} {env : Evn} {S : Vl → Prop}
theorem k_das_0 {S : List Da → Prop} (s : S []) : KDas [] S := ⟨_, rfl, by show (0 : Nat) ≤ sizeLine; decide, s⟩
theorem k_das_1 {a0 : Da} {S : List Da → Prop} (s : S [a0]) : KDas [.da a0] S := ⟨_, rfl, by show (1 : Nat) ≤ sizeLine; decide, s⟩
theorem k_das_2 {a0 a1 : Da} {S : List Da → Prop} (s : S [a0, a1]) : KDas [.da a0, .da a1] S := ⟨_, rfl, by show (2 : Nat) ≤ sizeLine; decide, s⟩
theorem k_das_3 {a0 a1 a2 : Da} {S : List Da → Prop} (s : S [a0, a1, a2]) : KDas [.da a0, .da a1, .da a2] S := ⟨_, rfl, by show (3 : Nat) ≤ sizeLine; decide, s⟩
theorem k_das_4 {a0 a1 a2 a3 : Da} {S : List Da → Prop} (s : S [a0, a1, a2, a3]) : KDas [.da a0, .da a1, .da a2, .da a3] S := ⟨_, rfl, by show (4 : Nat) ≤ sizeLine; decide, s⟩
theorem k_das_5 {a0 a1 a2 a3 a4 : Da} {S : List Da → Prop} (s : S [a0, a1, a2, a3, a4]) : KDas [.da a0, .da a1, .da a2, .da a3, .da a4] S := ⟨_, rfl, by show (5 : Nat) ≤ sizeLine; decide, s⟩
theorem k_das_6 {a0 a1 a2 a3 a4 a5 : Da} {S : List Da → Prop} (s : S [a0, a1, a2, a3, a4, a5]) : KDas [.da a0, .da a1, .da a2, .da a3, .da a4, .da a5] S := ⟨_, rfl, by show (6 : Nat) ≤ sizeLine; decide, s⟩
theorem k_das_7 {a0 a1 a2 a3 a4 a5 a6 : Da} {S : List Da → Prop} (s : S [a0, a1, a2, a3, a4, a5, a6]) : KDas [.da a0, .da a1, .da a2, .da a3, .da a4, .da a5, .da a6] S := ⟨_, rfl, by show (7 : Nat) ≤ sizeLine; decide, s⟩
theorem k_das_8 {a0 a1 a2 a3 a4 a5 a6 a7 : Da} {S : List Da → Prop} (s : S [a0, a1, a2, a3, a4, a5, a6, a7]) : KDas [.da a0, .da a1, .da a2, .da a3, .da a4, .da a5, .da a6, .da a7] S := ⟨_, rfl, by show (8 : Nat) ≤ sizeLine; decide, s⟩
theorem k_das_9 {a0 a1 a2 a3 a4 a5 a6 a7 a8 : Da} {S : List Da → Prop} (s : S [a0, a1, a2, a3, a4, a5, a6, a7, a8]) : KDas [.da a0, .da a1, .da a2, .da a3, .da a4, .da a5, .da a6, .da a7, .da a8] S := ⟨_, rfl, by show (9 : Nat) ≤ sizeLine; decide, s⟩
theorem k_das_10 {a0 a1 a2 a3 a4 a5 a6 a7 a8 a9 : Da} {S : List Da → Prop} (s : S [a0, a1, a2, a3, a4, a5, a6, a7, a8, a9]) : KDas [.da a0, .da a1, .da a2, .da a3, .da a4, .da a5, .da a6, .da a7, .da a8, .da a9] S := ⟨_, rfl, by show (10 : Nat) ≤ sizeLine; decide, s⟩
theorem k_das_11 {a0 a1 a2 a3 a4 a5 a6 a7 a8 a9 a10 : Da} {S : List Da → Prop} (s : S [a0, a1, a2, a3, a4, a5, a6, a7, a8, a9, a10]) : KDas [.da a0, .da a1, .da a2, .da a3, .da a4, .da a5, .da a6, .da a7, .da a8, .da a9, .da a10] S := ⟨_, rfl, by show (11 : Nat) ≤ sizeLine; decide, s⟩
theorem k_das_12 {a0 a1 a2 a3 a4 a5 a6 a7 a8 a9 a10 a11 : Da} {S : List Da → Prop} (s : S [a0, a1, a2, a3, a4, a5, a6, a7, a8, a9, a10, a11]) : KDas [.da a0, .da a1, .da a2, .da a3, .da a4, .da a5, .da a6, .da a7, .da a8, .da a9, .da a10, .da a11] S := ⟨_, rfl, by show (12 : Nat) ≤ sizeLine; decide, s⟩
theorem k_das_13 {a0 a1 a2 a3 a4 a5 a6 a7 a8 a9 a10 a11 a12 : Da} {S : List Da → Prop} (s : S [a0, a1, a2, a3, a4, a5, a6, a7, a8, a9, a10, a11, a12]) : KDas [.da a0, .da a1, .da a2, .da a3, .da a4, .da a5, .da a6, .da a7, .da a8, .da a9, .da a10, .da a11, .da a12] S := ⟨_, rfl, by show (13 : Nat) ≤ sizeLine; decide, s⟩
theorem k_das_14 {a0 a1 a2 a3 a4 a5 a6 a7 a8 a9 a10 a11 a12 a13 : Da} {S : List Da → Prop} (s : S [a0, a1, a2, a3, a4, a5, a6, a7, a8, a9, a10, a11, a12, a13]) : KDas [.da a0, .da a1, .da a2, .da a3, .da a4, .da a5, .da a6, .da a7, .da a8, .da a9, .da a10, .da a11, .da a12, .da a13] S := ⟨_, rfl, by show (14 : Nat) ≤ sizeLine; decide, s⟩
theorem k_das_15 {a0 a1 a2 a3 a4 a5 a6 a7 a8 a9 a10 a11 a12 a13 a14 : Da} {S : List Da → Prop} (s : S [a0, a1, a2, a3, a4, a5, a6, a7, a8, a9, a10, a11, a12, a13, a14]) : KDas [.da a0, .da a1, .da a2, .da a3, .da a4, .da a5, .da a6, .da a7, .da a8, .da a9, .da a10, .da a11, .da a12, .da a13, .da a14] S := ⟨_, rfl, by show (15 : Nat) ≤ sizeLine; decide, s⟩
theorem k_das_16 {a0 a1 a2 a3 a4 a5 a6 a7 a8 a9 a10 a11 a12 a13 a14 a15 : Da} {S : List Da → Prop} (s : S [a0, a1, a2, a3, a4, a5, a6, a7, a8, a9, a10, a11, a12, a13, a14, a15]) : KDas [.da a0, .da a1, .da a2, .da a3, .da a4, .da a5, .da a6, .da a7, .da a8, .da a9, .da a10, .da a11, .da a12, .da a13, .da a14, .da a15] S := ⟨_, rfl, by show (16 : Nat) ≤ sizeLine; decide, s⟩
theorem k_inT_0 {x : Str} {R : Bool → Prop} (h : R (inV (.str x) [])) : KIn (.da (.str x)) (.da (.tup [])) R := ⟨_, _, _, _, rfl, .inl rfl, rfl, rfl, h⟩
theorem k_inL_0 {x : Str} {R : Bool → Prop} (h : R (inV (.str x) [])) : KIn (.da (.str x)) (.ls []) R := ⟨_, _, _, _, rfl, .inr rfl, rfl, rfl, h⟩
theorem k_inT_1 {x : Str} {a0 : Str} {R : Bool → Prop} (h : R (inV (.str x) [.str a0])) : KIn (.da (.str x)) (.da (.tup [.str a0])) R := ⟨_, _, _, _, rfl, .inl rfl, rfl, rfl, h⟩
theorem k_inL_1 {x : Str} {a0 : Str} {R : Bool → Prop} (h : R (inV (.str x) [.str a0])) : KIn (.da (.str x)) (.ls [.str a0]) R := ⟨_, _, _, _, rfl, .inr rfl, rfl, rfl, h⟩
theorem k_inT_2 {x : Str} {a0 a1 : Str} {R : Bool → Prop} (h : R (inV (.str x) [.str a0, .str a1])) : KIn (.da (.str x)) (.da (.tup [.str a0, .str a1])) R := ⟨_, _, _, _, rfl, .inl rfl, rfl, rfl, h⟩
theorem k_inL_2 {x : Str} {a0 a1 : Str} {R : Bool → Prop} (h : R (inV (.str x) [.str a0, .str a1])) : KIn (.da (.str x)) (.ls [.str a0, .str a1]) R := ⟨_, _, _, _, rfl, .inr rfl, rfl, rfl, h⟩
theorem k_inT_3 {x : Str} {a0 a1 a2 : Str} {R : Bool → Prop} (h : R (inV (.str x) [.str a0, .str a1, .str a2])) : KIn (.da (.str x)) (.da (.tup [.str a0, .str a1, .str a2])) R := ⟨_, _, _, _, rfl, .inl rfl, rfl, rfl, h⟩
theorem k_inL_3 {x : Str} {a0 a1 a2 : Str} {R : Bool → Prop} (h : R (inV (.str x) [.str a0, .str a1, .str a2])) : KIn (.da (.str x)) (.ls [.str a0, .str a1, .str a2]) R := ⟨_, _, _, _, rfl, .inr rfl, rfl, rfl, h⟩
theorem k_inT_4 {x : Str} {a0 a1 a2 a3 : Str} {R : Bool → Prop} (h : R (inV (.str x) [.str a0, .str a1, .str a2, .str a3])) : KIn (.da (.str x)) (.da (.tup [.str a0, .str a1, .str a2, .str a3])) R := ⟨_, _, _, _, rfl, .inl rfl, rfl, rfl, h⟩
theorem k_inL_4 {x : Str} {a0 a1 a2 a3 : Str} {R : Bool → Prop} (h : R (inV (.str x) [.str a0, .str a1, .str a2, .str a3])) : KIn (.da (.str x)) (.ls [.str a0, .str a1, .str a2, .str a3]) R := ⟨_, _, _, _, rfl, .inr rfl, rfl, rfl, h⟩
theorem k_inT_5 {x : Str} {a0 a1 a2 a3 a4 : Str} {R : Bool → Prop} (h : R (inV (.str x) [.str a0, .str a1, .str a2, .str a3, .str a4])) : KIn (.da (.str x)) (.da (.tup [.str a0, .str a1, .str a2, .str a3, .str a4])) R := ⟨_, _, _, _, rfl, .inl rfl, rfl, rfl, h⟩
theorem k_inL_5 {x : Str} {a0 a1 a2 a3 a4 : Str} {R : Bool → Prop} (h : R (inV (.str x) [.str a0, .str a1, .str a2, .str a3, .str a4])) : KIn (.da (.str x)) (.ls [.str a0, .str a1, .str a2, .str a3, .str a4]) R := ⟨_, _, _, _, rfl, .inr rfl, rfl, rfl, h⟩
theorem k_inT_6 {x : Str} {a0 a1 a2 a3 a4 a5 : Str} {R : Bool → Prop} (h : R (inV (.str x) [.str a0, .str a1, .str a2, .str a3, .str a4, .str a5])) : KIn (.da (.str x)) (.da (.tup [.str a0, .str a1, .str a2, .str a3, .str a4, .str a5])) R := ⟨_, _, _, _, rfl, .inl rfl, rfl, rfl, h⟩
theorem k_inL_6 {x : Str} {a0 a1 a2 a3 a4 a5 : Str} {R : Bool → Prop} (h : R (inV (.str x) [.str a0, .str a1, .str a2, .str a3, .str a4, .str a5])) : KIn (.da (.str x)) (.ls [.str a0, .str a1, .str a2, .str a3, .str a4, .str a5]) R := ⟨_, _, _, _, rfl, .inr rfl, rfl, rfl, h⟩
theorem k_inT_7 {x : Str} {a0 a1 a2 a3 a4 a5 a6 : Str} {R : Bool → Prop} (h : R (inV (.str x) [.str a0, .str a1, .str a2, .str a3, .str a4, .str a5, .str a6])) : KIn (.da (.str x)) (.da (.tup [.str a0, .str a1, .str a2, .str a3, .str a4, .str a5, .str a6])) R := ⟨_, _, _, _, rfl, .inl rfl, rfl, rfl, h⟩
theorem k_inL_7 {x : Str} {a0 a1 a2 a3 a4 a5 a6 : Str} {R : Bool → Prop} (h : R (inV (.str x) [.str a0, .str a1, .str a2, .str a3, .str a4, .str a5, .str a6])) : KIn (.da (.str x)) (.ls [.str a0, .str a1, .str a2, .str a3, .str a4, .str a5, .str a6]) R := ⟨_, _, _, _, rfl, .inr rfl, rfl, rfl, h⟩
theorem k_inT_8 {x : Str} {a0 a1 a2 a3 a4 a5 a6 a7 : Str} {R : Bool → Prop} (h : R (inV (.str x) [.str a0, .str a1, .str a2, .str a3, .str a4, .str a5, .str a6, .str a7])) : KIn (.da (.str x)) (.da (.tup [.str a0, .str a1, .str a2, .str a3, .str a4, .str a5, .str a6, .str a7])) R := ⟨_, _, _, _, rfl, .inl rfl, rfl, rfl, h⟩
theorem k_inL_8 {x : Str} {a0 a1 a2 a3 a4 a5 a6 a7 : Str} {R : Bool → Prop} (h : R (inV (.str x) [.str a0, .str a1, .str a2, .str a3, .str a4, .str a5, .str a6, .str a7])) : KIn (.da (.str x)) (.ls [.str a0, .str a1, .str a2, .str a3, .str a4, .str a5, .str a6, .str a7]) R := ⟨_, _, _, _, rfl, .inr rfl, rfl, rfl, h⟩
theorem k_inT_9 {x : Str} {a0 a1 a2 a3 a4 a5 a6 a7 a8 : Str} {R : Bool → Prop} (h : R (inV (.str x) [.str a0, .str a1, .str a2, .str a3, .str a4, .str a5, .str a6, .str a7, .str a8])) : KIn (.da (.str x)) (.da (.tup [.str a0, .str a1, .str a2, .str a3, .str a4, .str a5, .str a6, .str a7, .str a8])) R := ⟨_, _, _, _, rfl, .inl rfl, rfl, rfl, h⟩
theorem k_inL_9 {x : Str} {a0 a1 a2 a3 a4 a5 a6 a7 a8 : Str} {R : Bool → Prop} (h : R (inV (.str x) [.str a0, .str a1, .str a2, .str a3, .str a4, .str a5, .str a6, .str a7, .str a8])) : KIn (.da (.str x)) (.ls [.str a0, .str a1, .str a2, .str a3, .str a4, .str a5, .str a6, .str a7, .str a8]) R := ⟨_, _, _, _, rfl, .inr rfl, rfl, rfl, h⟩
theorem k_inT_10 {x : Str} {a0 a1 a2 a3 a4 a5 a6 a7 a8 a9 : Str} {R : Bool → Prop} (h : R (inV (.str x) [.str a0, .str a1, .str a2, .str a3, .str a4, .str a5, .str a6, .str a7, .str a8, .str a9])) : KIn (.da (.str x)) (.da (.tup [.str a0, .str a1, .str a2, .str a3, .str a4, .str a5, .str a6, .str a7, .str a8, .str a9])) R := ⟨_, _, _, _, rfl, .inl rfl, rfl, rfl, h⟩
theorem k_inL_10 {x : Str} {a0 a1 a2 a3 a4 a5 a6 a7 a8 a9 : Str} {R : Bool → Prop} (h : R (inV (.str x) [.str a0, .str a1, .str a2, .str a3, .str a4, .str a5, .str a6, .str a7, .str a8, .str a9])) : KIn (.da (.str x)) (.ls [.str a0, .str a1, .str a2, .str a3, .str a4, .str a5, .str a6, .str a7, .str a8, .str a9]) R := ⟨_, _, _, _, rfl, .inr rfl, rfl, rfl, h⟩
theorem k_inT_11 {x : Str} {a0 a1 a2 a3 a4 a5 a6 a7 a8 a9 a10 : Str} {R : Bool → Prop} (h : R (inV (.str x) [.str a0, .str a1, .str a2, .str a3, .str a4, .str a5, .str a6, .str a7, .str a8, .str a9, .str a10])) : KIn (.da (.str x)) (.da (.tup [.str a0, .str a1, .str a2, .str a3, .str a4, .str a5, .str a6, .str a7, .str a8, .str a9, .str a10])) R := ⟨_, _, _, _, rfl, .inl rfl, rfl, rfl, h⟩
theorem k_inL_11 {x : Str} {a0 a1 a2 a3 a4 a5 a6 a7 a8 a9 a10 : Str} {R : Bool → Prop} (h : R (inV (.str x) [.str a0, .str a1, .str a2, .str a3, .str a4, .str a5, .str a6, .str a7, .str a8, .str a9, .str a10])) : KIn (.da (.str x)) (.ls [.str a0, .str a1, .str a2, .str a3, .str a4, .str a5, .str a6, .str a7, .str a8, .str a9, .str a10]) R := ⟨_, _, _, _, rfl, .inr rfl, rfl, rfl, h⟩
theorem k_inT_12 {x : Str} {a0 a1 a2 a3 a4 a5 a6 a7 a8 a9 a10 a11 : Str} {R : Bool → Prop} (h : R (inV (.str x) [.str a0, .str a1, .str a2, .str a3, .str a4, .str a5, .str a6, .str a7, .str a8, .str a9, .str a10, .str a11])) : KIn (.da (.str x)) (.da (.tup [.str a0, .str a1, .str a2, .str a3, .str a4, .str a5, .str a6, .str a7, .str a8, .str a9, .str a10, .str a11])) R := ⟨_, _, _, _, rfl, .inl rfl, rfl, rfl, h⟩
theorem k_inL_12 {x : Str} {a0 a1 a2 a3 a4 a5 a6 a7 a8 a9 a10 a11 : Str} {R : Bool → Prop} (h : R (inV (.str x) [.str a0, .str a1, .str a2, .str a3, .str a4, .str a5, .str a6, .str a7, .str a8, .str a9, .str a10, .str a11])) : KIn (.da (.str x)) (.ls [.str a0, .str a1, .str a2, .str a3, .str a4, .str a5, .str a6, .str a7, .str a8, .str a9, .str a10, .str a11]) R := ⟨_, _, _, _, rfl, .inr rfl, rfl, rfl, h⟩
structure KSl (l : List Da) (lo hi : Option Int) (R : List Da → Prop) : Prop where
  h : ¬ (HT.sIx l.length 0 lo = 0 ∧ HT.sIx l.length l.length hi = l.length) ∧ R (cutD l lo hi)
theorem ev_slT2 {te : TE} {tl th : TO} (h : Ev K env te fun x => KT x fun l => Eo K env tl fun lo => Eo K env th fun hi => KSl l lo hi fun r => S (.da (.tup r))) : Ev K env (tSl (rSlT K) te tl th) S :=
  ev_slT (h.imp fun x ⟨l, e, h⟩ => ⟨l, e, fun H0 dl hs σ H Q E k => h H0 dl hs σ H Q E fun lo H' hy => k lo H' fun H0 dl hs σ H Q E k => hy H0 dl hs σ H Q E fun hi H' hz => k hi H' hz.h⟩)
theorem cut_from' (k : Nat) (l : List Da) : cutD l (some (k : Int)) none = l.drop k := by
  unfold cutD
  rw [HT.sIx_nat, HT.sIx_none]
  by_cases h : k ≤ l.length
  · rw [Nat.min_eq_left h]
    exact List.take_of_length_le (by rw [List.length_drop]; exact Nat.le_refl _)
  · rw [Nat.min_eq_right (by omega), List.drop_of_length_le (by omega), List.drop_of_length_le (by omega)]
    simp
theorem k_sl_1 {a : Da} {l : List Da} {R : List Da → Prop} (h : R l) : KSl (a :: l) (some 1) none R := by
  refine ⟨fun ⟨z, _⟩ => ?_, ?_⟩
  · rw [show (some (1 : Int)) = some ((1 : Nat) : Int) from rfl, HT.sIx_nat, List.length_cons] at z
    omega
  · rw [show (some (1 : Int)) = some ((1 : Nat) : Int) from rfl, cut_from']
    exact h
theorem k_sl_2 {a b : Da} {l : List Da} {R : List Da → Prop} (h : R l) : KSl (a :: b :: l) (some 2) none R := by
  refine ⟨fun ⟨z, _⟩ => ?_, ?_⟩
  · rw [show (some (2 : Int)) = some ((2 : Nat) : Int) from rfl, HT.sIx_nat, List.length_cons, List.length_cons] at z
    omega
  · rw [show (some (2 : Int)) = some ((2 : Nat) : Int) from rfl, cut_from']
    exact h
theorem k_sl_m2 {a b : Da} {R : List Da → Prop} (h : R [a]) : KSl [a, b] none (some (-1)) R := ⟨by rintro ⟨_, z⟩; exact absurd z (by show (1 : Nat) ≠ 2; decide), h⟩
theorem k_sl_m3 {a b c : Da} {R : List Da → Prop} (h : R [a, b]) : KSl [a, b, c] none (some (-1)) R := ⟨by rintro ⟨_, z⟩; exact absurd z (by show (2 : Nat) ≠ 3; decide), h⟩
theorem k_sl_m4 {a b c d : Da} {R : List Da → Prop} (h : R [a, b, c]) : KSl [a, b, c, d] none (some (-1)) R := ⟨by rintro ⟨_, z⟩; exact absurd z (by show (3 : Nat) ≠ 4; decide), h⟩
theorem k_sl_m5 {a b c d e : Da} {R : List Da → Prop} (h : R [a, b, c, d]) : KSl [a, b, c, d, e] none (some (-1)) R := ⟨by rintro ⟨_, z⟩; exact absurd z (by show (4 : Nat) ≠ 5; decide), h⟩
structure KCat (l l2 : List Da) (R : List Da → Prop) : Prop where
  h : l.length + l2.length ≤ sizeLine ∧ R (l ++ l2)
theorem k_cat {l l2 : List Da} {R : List Da → Prop} (n : l.length + l2.length ≤ sizeLine) (h : R (l ++ l2)) : KCat l l2 R := ⟨n, h⟩
theorem k_cat1 {a b : Da} {R : List Da → Prop} (h : R [a, b]) : KCat [a] [b] R := ⟨by show (2 : Nat) ≤ sizeLine; decide, h⟩
theorem k_cat2 {a b c : Da} {R : List Da → Prop} (h : R [a, b, c]) : KCat [a, b] [c] R := ⟨by show (3 : Nat) ≤ sizeLine; decide, h⟩
theorem k_cat3 {a b c d : Da} {R : List Da → Prop} (h : R [a, b, c, d]) : KCat [a, b, c] [d] R := ⟨by show (4 : Nat) ≤ sizeLine; decide, h⟩
theorem k_cat23 {a b c d e : Da} {R : List Da → Prop} (h : R [a, b, c, d, e]) : KCat [a, b] [c, d, e] R := ⟨by show (5 : Nat) ≤ sizeLine; decide, h⟩
theorem ev_catU {ta tb : TE} (h : Ev K env ta fun x => KT x fun l => Ev K env tb fun y => KT y fun l2 => KCat l l2 fun r => S (.da (.tup r))) : Ev K env (tOp (rCatU K) ta tb) S := fun H0 dl hs σ H Q E k =>
  h H0 dl hs σ H _ E fun x v H1 hx m q r => by
    obtain ⟨l, rfl, hx⟩ := hx
    refine hx H0 dl hs σ H1 _ (E.go m q) fun y u H2 hy m2 q2 r2 => ?_
    obtain ⟨l2, rfl, n, s⟩ := hy
    obtain ⟨a, vs, rfl, h1, h2⟩ := da_tup (DaAt.keep (m2.tk q) r)
    obtain ⟨b, us, rfl, h3, h4⟩ := da_tup r2
    exact ⟨a, b, vs, us, rfl, rfl, h1, h3, by rw [h2.len, h4.len]; exact n, fun p H3 s3 hp => k _ _ H3 s ((m.trans m2).trans (.same s3)) (q2.same s3) (.tup hp ((das_app h2 h4).keep (.same s3)))⟩
theorem k_ix_0 {a : Da} {l : List Da} {S : Da → Prop} (h : S a) : ∃ d, atI (a :: l) 0 = some d ∧ S d := ⟨a, by
  unfold atI ixN
  rw [if_pos (Int.le_refl 0), if_pos (by rw [List.length_cons]; omega)]
  rfl, h⟩
theorem k_ix_1 {a b : Da} {l : List Da} {S : Da → Prop} (h : S b) : ∃ d, atI (a :: b :: l) 1 = some d ∧ S d := ⟨b, by
  unfold atI ixN
  rw [if_pos (by decide), if_pos (by rw [List.length_cons, List.length_cons]; omega)]
  rfl, h⟩
theorem range_da {m k : Nat} {d : Da} (h : ((List.range m).map fun i => Da.int (i : Nat))[k]? = some d) : k < m ∧ d = .int (k : Nat) := by
  rw [List.getElem?_map] at h
  obtain ⟨j, hj, rfl⟩ := Option.map_eq_some_iff.mp h
  have hl := (List.getElem?_eq_some_iff.mp hj).1
  rw [List.length_range] at hl
  rw [List.getElem?_range hl] at hj
  cases Option.some.inj hj
  exact ⟨hl, rfl⟩
theorem range_len {m : Nat} : ((List.range m).map fun i => Da.int (i : Nat)).length = m := by rw [List.length_map, List.length_range]
theorem toLineB {n : Nat} (h : n ≤ 16000000) : n < sizeLine := Nat.lt_of_le_of_lt h (by decide)
theorem sv_ext {O : Out → Prop} {i : Nat} {p : Addr} {l : List Da} {te : TE} (hi : env[i]? = some (some (.own p l))) (h : Eln K env te fun l2 => l.length + l2.length ≤ sizeLine ∧ O (.nx (env.set i (some (.own p (l ++ l2)))))) : Sv K env (tDrop (tBM K "list" rExtend (tVar i) (tCons te tNil))) O := fun H0 dl hs σ H D E a b c d e => by
  obtain ⟨v, h1, rfl, vs, h2, h3, _⟩ := E.slot i _ hi
  refine ⟨_, h1, .inl ⟨rfl, vs, .inl (.inl h2)⟩, ?_⟩
  refine h H0 dl hs σ H _ E fun l2 q2 vs2 H1 hx m q hn hq r => ?_
  obtain ⟨n, s⟩ := hx
  have E1 := E.go m q
  obtain ⟨w, e1, rfl, vs1, g2, g3, _⟩ := E1.slot i _ hi
  have tk : Tk K H1 (upd H1 p (.lst (vs1 ++ vs2))) := .bl (.put g2)
  exact ⟨p, q2, vs1, vs2, rfl, rfl, g2, hq, by rw [g3.len, r.len]; exact n, a _ _ _ s ((m.tk E.dlat).trans tk) (E1.write hi (das_app (g3.keep tk) (r.keep tk)))⟩
theorem pairs_at {l : List Da} {k : Nat} {d : Da} (h : (pairs l)[k]? = some d) : ∃ x, l[k]? = some x ∧ d = .tup [.int (k : Nat), x] := by
  unfold pairs at h
  rw [List.getElem?_mapIdx] at h
  obtain ⟨x, hx, rfl⟩ := Option.map_eq_some_iff.mp h
  exact ⟨x, hx, rfl⟩
theorem pairs_len {l : List Da} : (pairs l).length = l.length := by simp [pairs]
/-- a comprehension over what is given as a map -/
theorem k_lc {α : Type} {g : TG} {vs : List Nat} {tt : TT} {te : TE} {R : List Da → Prop} {kp : Evn → Prop} (L : List α) (f : α → Da) (p : α → Bool) (g' : α → Da) (hk : kp (ewipe env vs)) (hn : L.length ≤ sizeLine)
    (hs : ∀ x ∈ L, Gv K (ewipe env vs) g vs (f x) fun e => Tv K e tt fun b => b = p x ∧ (p x = true → Ev K e te fun y => y = .da (g' x))) (h : R ((L.filter p).map g')) : KLc K env g vs tt te R (L.map f) kp := by
  refine ⟨hk, by rw [List.length_map]; exact hn, fun k acc => acc = ((L.take k).filter p).map g', by simp, fun k d acc hd ha => ?_, fun acc ha => ?_⟩
  · rw [List.getElem?_map] at hd
    obtain ⟨x, hx, rfl⟩ := Option.map_eq_some_iff.mp hd
    subst ha
    have e : L.take (k + 1) = L.take k ++ [x] := by rw [List.take_succ, hx]; rfl
    intro H0 dl hs1 σ H Rr v E r fin
    refine hs x (List.mem_of_getElem? hx) H0 dl hs1 σ H Rr v E r fun e1 σ1 ht E1 hw => fin e1 σ1 (ht.imp fun b hb => ?_) E1 hw
    obtain ⟨rfl, hy⟩ := hb
    cases hp : p x
    · refine k_iff rfl ?_
      show _ = ((L.take (k + 1)).filter p).map g'
      rw [e, List.filter_append, List.map_append]
      simp [hp]
    · refine k_ift rfl ((hy hp).imp fun y hy => ?_)
      subst hy
      refine k_d ?_
      show _ = ((L.take (k + 1)).filter p).map g'
      rw [e, List.filter_append, List.map_append]
      simp [hp]
  · subst ha
    rw [List.length_map, List.take_length]
    exact h
theorem ev_orD {ta tb : TE} {a c : Bool} (ha : Ev K env ta fun x => x = .da (.bl a)) (hb : a = false → Ev K env tb fun y => y = .da (.bl c)) (s : S (.da (.bl (a || c)))) : Ev K env (tOrV ta tb) S := ev_orV (ha.imp fun x hx => by
  subst hx
  refine k_b ?_
  cases a
  · exact k_iff rfl ((hb rfl).imp fun y hy => by subst hy; exact s)
  · exact k_ift rfl s)
theorem ev_andD {ta tb : TE} {a c : Bool} (ha : Ev K env ta fun x => x = .da (.bl a)) (hb : a = true → Ev K env tb fun y => y = .da (.bl c)) (s : S (.da (.bl (a && c)))) : Ev K env (tAndV ta tb) S := ev_andV (ha.imp fun x hx => by
  subst hx
  refine k_b ?_
  cases a
  · exact k_iff rfl s
  · exact k_ift rfl ((hb rfl).imp fun y hy => by subst hy; exact s))
theorem cx_K {CX : CXT} {P : Program} {w : World} {mg : Str → Option Value} {base : Heap} {N : List Str} {q : Str} {sc : Scope} {f : Addr} {cd : Value} {A : Around} {o : List Env} {s : Shared} {H : Hp} {E : XK} : (cxOf CX P w K mg base N q sc f cd A o s H E).nox.K = K := rfl
theorem cx_K' {CX : CXT} {P : Program} {w : World} {mg : Str → Option Value} {base : Heap} {N : List Str} {q : Str} {sc : Scope} {f : Addr} {cd : Value} {A : Around} {o : List Env} {s : Shared} {H : Hp} {E : XK} : (cxOf CX P w K mg base N q sc f cd A o s H E).K = K := rfl
/-- the tests of a comprehension, where it has one -/
theorem k_ixT2 {l : List Da} {i : Int} {d : Da} {S : Da → Prop} (e : atI l i = some d) (h : S d) : ∃ d, atI l i = some d ∧ S d := ⟨d, e, h⟩
end
end My
namespace My
open PySem L2
mutual
def toPy : Da → PyData
  | .non => .none
  | .bl b => .bool b
  | .int i => .int i
  | .str s => .str s
  | .tup l => .tuple (toPys l)
def toPys : List Da → List PyData
  | [] => []
  | d :: l => toPy d :: toPys l
end
section
variable {K : PySem.W.Frag} {env : Evn} {S : Vl → Prop}
mutual
theorem dpy {H : Hp} : ∀ {d : Da} {v : V}, DaAt K H d v → L2.Dp K H v (toPy d)
  | _, _, .non => by rw [toPy]; exact .non
  | _, _, .bl b => by rw [toPy]; exact .bl b
  | _, _, .int i => by rw [toPy]; exact .int i
  | _, _, .str s => by rw [toPy]; exact .str s
  | _, _, .tup h r => by rw [toPy]; exact .tup h (dpys r)
theorem dpys {H : Hp} : ∀ {l : List Da} {vs : List V}, DasAt K H l vs → L2.DpAll K H vs (toPys l)
  | _, _, .nil => by rw [toPys]; exact .nil
  | _, _, .cons h r => by rw [toPys]; exact .cons (dpy h) (dpys r)
end
structure KEqD (x y : Vl) (R : Bool → Prop) : Prop where
  h : ∃ d e, x = .da d ∧ y = .da e ∧ SeqAt.shaped (toPy d) = true ∧ SeqAt.shaped (toPy e) = true ∧ R (PyData.eqv (toPy d) (toPy e))
theorem ev_eqD {ta tb : TE} (h : Ev K env ta fun x => Ev K env tb fun y => KEqD x y fun b => S (.da (.bl b))) : Ev K env (tOp (rEqD K) ta tb) S := fun H0 dl hs σ H Q E k =>
  h H0 dl hs σ H _ E fun x v H1 hx m q r => hx H0 dl hs σ H1 _ (E.go m q) fun y u H2 hy m2 q2 r2 => by
    obtain ⟨d, e, rfl, rfl, h1, h2, s⟩ := hy
    exact ⟨_, _, dpy (DaAt.keep (m2.tk q) r), dpy r2, h1, h2, k _ _ H2 s (m.trans m2) q2 (.bl _)⟩
theorem ev_neD {ta tb : TE} (h : Ev K env ta fun x => Ev K env tb fun y => KEqD x y fun b => S (.da (.bl (!b)))) : Ev K env (tOp (rNeD K) ta tb) S := fun H0 dl hs σ H Q E k =>
  h H0 dl hs σ H _ E fun x v H1 hx m q r => hx H0 dl hs σ H1 _ (E.go m q) fun y u H2 hy m2 q2 r2 => by
    obtain ⟨d, e, rfl, rfl, h1, h2, s⟩ := hy
    exact ⟨_, _, dpy (DaAt.keep (m2.tk q) r), dpy r2, h1, h2, k _ _ H2 s (m.trans m2) q2 (.bl _)⟩
theorem toPys_ints : ∀ p : List Int, toPys (p.map Da.int) = p.map PyData.int
  | [] => by rw [List.map_nil, toPys]; rfl
  | i :: p => by rw [List.map_cons, toPys, toPys_ints p, toPy]; rfl
theorem depthAll_ints : ∀ p : List Int, PyData.depthAll (p.map PyData.int) ≤ 1
  | [] => by simp [PyData.depthAll]
  | i :: p => by
    have := depthAll_ints p
    rw [List.map_cons, PyData.depthAll, PyData.depth]
    omega
theorem layAll_ints : ∀ p : List Int, PyData.canLayAll0 (p.map PyData.int) = true
  | [] => rfl
  | i :: p => by rw [List.map_cons, PyData.canLayAll0, PyData.canLay0, layAll_ints p]; rfl
theorem shaped_ints (p : List Int) : SeqAt.shaped (toPy (.tup (p.map Da.int))) = true := by
  unfold SeqAt.shaped
  rw [toPy, toPys_ints, PyData.canLay0, layAll_ints, PyData.depth]
  have := depthAll_ints p
  simp
  omega
theorem eqvAll_ints : ∀ p q : List Int, PyData.eqvAll (p.map PyData.int) (q.map PyData.int) = decide (p = q)
  | [], [] => rfl
  | [], _ :: _ => rfl
  | _ :: _, [] => rfl
  | i :: p, j :: q => by
    rw [List.map_cons, List.map_cons, PyData.eqvAll, eqvAll_ints p q, PyData.eqv, Bool.eq_iff_iff]
    simp
theorem k_eqInts {p q : List Int} {R : Bool → Prop} (h : R (decide (p = q))) : KEqD (.da (.tup (p.map Da.int))) (.da (.tup (q.map Da.int))) R :=
  ⟨_, _, rfl, rfl, shaped_ints p, shaped_ints q, by rw [toPy, toPy, toPys_ints, toPys_ints, PyData.eqv, eqvAll_ints]; exact h⟩
theorem k_eqInts0 {p : List Int} {R : Bool → Prop} (h : R (decide (p = []))) : KEqD (.da (.tup (p.map Da.int))) (.da (.tup [])) R := k_eqInts (q := []) h
theorem k_eqIntsC {i : Int} {p : List Int} {R : Bool → Prop} (h : R false) : KEqD (.da (.tup (Da.int i :: p.map Da.int))) (.da (.tup [])) R := k_eqInts (p := i :: p) (q := []) (by simpa using h)
/-- l[k] = v of one's own list -/
structure KPut (l : List Da) (k : Int) (R : Nat → Prop) : Prop where
  h : ∃ j, ixN l.length k = some j ∧ R j
theorem k_put {l : List Da} {j : Nat} {R : Nat → Prop} (hl : j < l.length) (h : R j) : KPut l ((j : Nat) : Int) R := ⟨j, by unfold ixN; rw [if_pos (Int.natCast_nonneg j), if_pos (by omega)]; rfl, h⟩
theorem k_put0 {a : Da} {l : List Da} {R : Nat → Prop} (h : R 0) : KPut (a :: l) 0 R := ⟨0, by unfold ixN; rw [if_pos (Int.le_refl 0), if_pos (by rw [List.length_cons]; omega)]; rfl, h⟩
theorem das_set {H : Hp} : ∀ {l : List Da} {vs : List V}, DasAt K H l vs → ∀ (j : Nat) {d : Da} {v : V}, DaAt K H d v → DasAt K H (l.set j d) (vs.set j v)
  | _, _, .nil, _, _, _, _ => .nil
  | _, _, .cons h r, 0, _, _, h2 => .cons h2 r
  | _, _, .cons h r, j + 1, _, _, h2 => .cons h (das_set r j h2)
theorem sv_put {O : Out → Prop} {i : Nat} {p : Addr} {l : List Da} {te ti : TE} (hi : env[i]? = some (some (.own p l))) (h : Ev K env te fun x => KD x fun d => Ev K env ti fun y => KI1 y fun k => KPut l k fun j => O (.nx (env.set i (some (.own p (l.set j d)))))) : Sv K env (tAsg te (gSub (tVar i) ti rSetL)) O := fun H0 dl hs σ H D E a b c d e =>
  h H0 dl hs σ H _ E fun x v H1 hx m q r => by
    obtain ⟨d, rfl, hx⟩ := hx
    have E1 := E.go m q
    obtain ⟨w, e1, rfl, vs, g2, g3, g4, _⟩ := E1.slot i _ hi
    refine ⟨_, e1, hx H0 dl hs σ H1 _ E1 fun y u H2 hy m2 q2 r2 => ?_⟩
    obtain ⟨k, rfl, j, hj, s⟩ := hy
    have h3 := atm_at (show DaAt K H2 (.int k) u from r2) rfl
    subst h3
    have E2 := E1.go m2 q2
    have gp := m2 _ _ (E.dl0.ne g4) g2
    have g5 : DasAt K H2 l vs := g3.keep (m2.tk q)
    have tk : Tk K H2 (upd H2 p (.lst (vs.set j v))) := .bl (.put gp)
    refine ⟨p, vs, k, j, rfl, rfl, gp, by rw [g5.len]; exact hj, a _ _ _ s (((m.trans m2).tk E.dlat).trans tk) (E2.write hi (das_set (g5.keep tk) j (DaAt.keep ((m2.tk q).trans tk) r)))⟩
end
end My
namespace My
open PySem L2
section
variable {K : PySem.W.Frag} {env : Evn} {S : Vl → Prop}
theorem k_ty_non_tuple {R : Bool → Prop} (h : R false) : KTy (.da .non) "tuple" R := ⟨false, (by decide +kernel : kitB "NoneType" "tuple" = some false), h⟩
theorem k_ty_non_bool {R : Bool → Prop} (h : R false) : KTy (.da .non) "bool" R := ⟨false, (by decide +kernel : kitB "NoneType" "bool" = some false), h⟩
theorem k_ty_non_int {R : Bool → Prop} (h : R false) : KTy (.da .non) "int" R := ⟨false, (by decide +kernel : kitB "NoneType" "int" = some false), h⟩
theorem k_ty_non_str {R : Bool → Prop} (h : R false) : KTy (.da .non) "str" R := ⟨false, (by decide +kernel : kitB "NoneType" "str" = some false), h⟩
theorem k_ty_non_list {R : Bool → Prop} (h : R false) : KTy (.da .non) "list" R := ⟨false, (by decide +kernel : kitB "NoneType" "list" = some false), h⟩
theorem k_ty_bl_tuple {a : Bool} {R : Bool → Prop} (h : R false) : KTy (.da (.bl a)) "tuple" R := ⟨false, (by decide +kernel : kitB "bool" "tuple" = some false), h⟩
theorem k_ty_bl_bool {a : Bool} {R : Bool → Prop} (h : R true) : KTy (.da (.bl a)) "bool" R := ⟨true, (by decide +kernel : kitB "bool" "bool" = some true), h⟩
theorem k_ty_bl_int {a : Bool} {R : Bool → Prop} (h : R true) : KTy (.da (.bl a)) "int" R := ⟨true, (by decide +kernel : kitB "bool" "int" = some true), h⟩
theorem k_ty_bl_str {a : Bool} {R : Bool → Prop} (h : R false) : KTy (.da (.bl a)) "str" R := ⟨false, (by decide +kernel : kitB "bool" "str" = some false), h⟩
theorem k_ty_bl_list {a : Bool} {R : Bool → Prop} (h : R false) : KTy (.da (.bl a)) "list" R := ⟨false, (by decide +kernel : kitB "bool" "list" = some false), h⟩
theorem k_ty_int_tuple {a : Int} {R : Bool → Prop} (h : R false) : KTy (.da (.int a)) "tuple" R := ⟨false, (by decide +kernel : kitB "int" "tuple" = some false), h⟩
theorem k_ty_int_bool {a : Int} {R : Bool → Prop} (h : R false) : KTy (.da (.int a)) "bool" R := ⟨false, (by decide +kernel : kitB "int" "bool" = some false), h⟩
theorem k_ty_int_int {a : Int} {R : Bool → Prop} (h : R true) : KTy (.da (.int a)) "int" R := ⟨true, (by decide +kernel : kitB "int" "int" = some true), h⟩
theorem k_ty_int_str {a : Int} {R : Bool → Prop} (h : R false) : KTy (.da (.int a)) "str" R := ⟨false, (by decide +kernel : kitB "int" "str" = some false), h⟩
theorem k_ty_int_list {a : Int} {R : Bool → Prop} (h : R false) : KTy (.da (.int a)) "list" R := ⟨false, (by decide +kernel : kitB "int" "list" = some false), h⟩
theorem k_ty_str_tuple {a : Str} {R : Bool → Prop} (h : R false) : KTy (.da (.str a)) "tuple" R := ⟨false, (by decide +kernel : kitB "str" "tuple" = some false), h⟩
theorem k_ty_str_bool {a : Str} {R : Bool → Prop} (h : R false) : KTy (.da (.str a)) "bool" R := ⟨false, (by decide +kernel : kitB "str" "bool" = some false), h⟩
theorem k_ty_str_int {a : Str} {R : Bool → Prop} (h : R false) : KTy (.da (.str a)) "int" R := ⟨false, (by decide +kernel : kitB "str" "int" = some false), h⟩
theorem k_ty_str_str {a : Str} {R : Bool → Prop} (h : R true) : KTy (.da (.str a)) "str" R := ⟨true, (by decide +kernel : kitB "str" "str" = some true), h⟩
theorem k_ty_str_list {a : Str} {R : Bool → Prop} (h : R false) : KTy (.da (.str a)) "list" R := ⟨false, (by decide +kernel : kitB "str" "list" = some false), h⟩
theorem k_ty_tup_tuple {a : List Da} {R : Bool → Prop} (h : R true) : KTy (.da (.tup a)) "tuple" R := ⟨true, (by decide +kernel : kitB "tuple" "tuple" = some true), h⟩
theorem k_ty_tup_bool {a : List Da} {R : Bool → Prop} (h : R false) : KTy (.da (.tup a)) "bool" R := ⟨false, (by decide +kernel : kitB "tuple" "bool" = some false), h⟩
theorem k_ty_tup_int {a : List Da} {R : Bool → Prop} (h : R false) : KTy (.da (.tup a)) "int" R := ⟨false, (by decide +kernel : kitB "tuple" "int" = some false), h⟩
theorem k_ty_tup_str {a : List Da} {R : Bool → Prop} (h : R false) : KTy (.da (.tup a)) "str" R := ⟨false, (by decide +kernel : kitB "tuple" "str" = some false), h⟩
theorem k_ty_tup_list {a : List Da} {R : Bool → Prop} (h : R false) : KTy (.da (.tup a)) "list" R := ⟨false, (by decide +kernel : kitB "tuple" "list" = some false), h⟩
theorem k_ty_ls_tuple {a : List Da} {R : Bool → Prop} (h : R false) : KTy (.ls a) "tuple" R := ⟨false, (by decide +kernel : kitB "list" "tuple" = some false), h⟩
theorem k_ty_ls_bool {a : List Da} {R : Bool → Prop} (h : R false) : KTy (.ls a) "bool" R := ⟨false, (by decide +kernel : kitB "list" "bool" = some false), h⟩
theorem k_ty_ls_int {a : List Da} {R : Bool → Prop} (h : R false) : KTy (.ls a) "int" R := ⟨false, (by decide +kernel : kitB "list" "int" = some false), h⟩
theorem k_ty_ls_str {a : List Da} {R : Bool → Prop} (h : R false) : KTy (.ls a) "str" R := ⟨false, (by decide +kernel : kitB "list" "str" = some false), h⟩
theorem k_ty_ls_list {a : List Da} {R : Bool → Prop} (h : R true) : KTy (.ls a) "list" R := ⟨true, (by decide +kernel : kitB "list" "list" = some true), h⟩
theorem ev_andAny {ta tb : TE} (ha : Ev K env ta fun x => KB x fun _ => True) (hb : Ev K env tb fun y => KB y fun _ => True) (s : ∀ b, S (.da (.bl b))) : Ev K env (tAndV ta tb) S := ev_andV (ha.imp fun x ⟨a, ea, _⟩ => by
  subst ea
  refine k_b ?_
  cases a
  · exact k_iff rfl (s _)
  · refine k_ift rfl (hb.imp fun y ⟨b, eb, _⟩ => ?_)
    subst eb
    exact s b)
/-- the ways of an if lead to slots of one kind -/
def jnI (I : Evn → Prop) (O : Out → Prop) : Out → Prop
  | .nx e => ∃ e', Wk e e' ∧ I e'
  | o => O o
theorem ji_nx {I : Evn → Prop} {O : Out → Prop} {e : Evn} (h : ∃ e', Wk e e' ∧ I e') : jnI I O (.nx e) := h
theorem ji_rt {O : Out → Prop} {I : Evn → Prop} {x : Vl} (h : O (.rt x)) : jnI I O (.rt x) := h
theorem ji_rn {O : Out → Prop} {I : Evn → Prop} {l : List Da} (h : O (.rn l)) : jnI I O (.rn l) := h
theorem ji_bk {O : Out → Prop} {I : Evn → Prop} {e : Evn} (h : O (.bk e)) : jnI I O (.bk e) := h
theorem ji_ct {O : Out → Prop} {I : Evn → Prop} {e : Evn} (h : O (.ct e)) : jnI I O (.ct e) := h
/-- both ways of an if lead to the same slots -/
def jnO (e' : Evn) (O : Out → Prop) : Out → Prop
  | .nx e => Wk e e'
  | o => O o
theorem j_nx {O : Out → Prop} {e e' : Evn} (h : Wk e e') : jnO e' O (.nx e) := h
theorem j_rt {O : Out → Prop} {e' : Evn} {x : Vl} (h : O (.rt x)) : jnO e' O (.rt x) := h
theorem j_rn {O : Out → Prop} {e' : Evn} {l : List Da} (h : O (.rn l)) : jnO e' O (.rn l) := h
theorem j_bk {O : Out → Prop} {e e' : Evn} (h : O (.bk e)) : jnO e' O (.bk e) := h
theorem j_ct {O : Out → Prop} {e e' : Evn} (h : O (.ct e)) : jnO e' O (.ct e) := h
theorem Sv.weak {t : TS} {O : Out → Prop} {e e' : Evn} (h : Sv K e' t O) (w : Wk e e') : Sv K e t O := fun H0 dl hs σ H D E => h H0 dl hs σ H D (E.weak w.len w.le)
theorem sv_join {st rest : TS} {O : Out → Prop} (e' : Evn) (h : Sv K env st (jnO e' O)) (hr : Sv K e' rest O) : Sv K env (tCut st rest) O := sv_cut (h.imp fun o ho => by
  cases o with
  | nx e => exact o_nx (hr.weak ho)
  | bk e => exact o_bk ho
  | ct e => exact o_ct ho
  | rt x => exact o_rt ho
  | rn l => exact o_rn ho)
theorem sv_joinI {st rest : TS} {O : Out → Prop} (I : Evn → Prop) (h : Sv K env st (jnI I O)) (hr : ∀ e, I e → Sv K e rest O) : Sv K env (tCut st rest) O := sv_cut (h.imp fun o ho => by
  cases o with
  | nx e =>
    obtain ⟨e', w, i⟩ := ho
    exact o_nx ((hr e' i).weak w)
  | bk e => exact o_bk ho
  | ct e => exact o_ct ho
  | rt x => exact o_rt ho
  | rn l => exact o_rn ho)
structure KI2s (xs : List Vl) (R : Int → Int → Prop) : Prop where
  h : ∃ i j, xs = [.da (.int i), .da (.int j)] ∧ R i j
theorem k_i2s {i j : Int} {R : Int → Int → Prop} (h : R i j) : KI2s [.da (.int i), .da (.int j)] R := ⟨i, j, rfl, h⟩
theorem ev_max2 {t : TA} (h : Es K env t fun xs => KI2s xs fun i j => S (.da (.int (if j > i then j else i)))) : Ev K env (tCB (fun xs H Q => ∃ i j, xs = [.int i, .int j] ∧ Q (.int (if j > i then j else i)) H) t) S := fun H0 dl hs σ H Q E k =>
  h H0 dl hs σ H _ E fun xs vs H1 hx m q r => by
    obtain ⟨i, j, rfl, s⟩ := hx
    obtain ⟨v, u, rfl, r1, r2⟩ := vls_two r
    have h1 := atm_at (show DaAt K H1 (.int i) v from r1) rfl
    have h2 := atm_at (show DaAt K H1 (.int j) u from r2) rfl
    exact ⟨i, j, by rw [h1, h2], k _ _ H1 s m q (.int _)⟩
theorem ev_min2 {t : TA} (h : Es K env t fun xs => KI2s xs fun i j => S (.da (.int (if j < i then j else i)))) : Ev K env (tCB (fun xs H Q => ∃ i j, xs = [.int i, .int j] ∧ Q (.int (if j < i then j else i)) H) t) S := fun H0 dl hs σ H Q E k =>
  h H0 dl hs σ H _ E fun xs vs H1 hx m q r => by
    obtain ⟨i, j, rfl, s⟩ := hx
    obtain ⟨v, u, rfl, r1, r2⟩ := vls_two r
    have h1 := atm_at (show DaAt K H1 (.int i) v from r1) rfl
    have h2 := atm_at (show DaAt K H1 (.int j) u from r2) rfl
    exact ⟨i, j, by rw [h1, h2], k _ _ H1 s m q (.int _)⟩
structure KIdx (l : List Da) (d : Da) (R : Nat → Prop) : Prop where
  h : ∃ as a j z, atms l = some as ∧ atm d = some a ∧ as[j]? = some z ∧ eqV z a = true ∧ (∀ (m : Nat) (z' : V), m < j → as[m]? = some z' → eqV z' a = false) ∧ R j
theorem ev_index {to te : TE} (h : Ev K env to fun x => KL x fun l => Ev K env te fun y => KD y fun d => KIdx l d fun j => S (.da (.int (j : Nat)))) : Ev K env (tBM K "list" (rIndex K) to (tCons te tNil)) S := fun H0 dl hs σ H Q E k =>
  h H0 dl hs σ H _ E fun x v H1 hx m q r => by
    obtain ⟨l, rfl, hx⟩ := hx
    obtain ⟨a, vs, rfl, h1, h2, n⟩ := r
    refine ⟨.inl ⟨rfl, vs, h1.sq⟩, hx H0 dl hs σ H1 _ (E.go m q) fun y u H2 hy m2 q2 r2 => ?_⟩
    obtain ⟨d, rfl, as, b, j, z, e1, e2, e3, e4, e5, s⟩ := hy
    have hb := atm_at (show DaAt K H2 d u from r2) e2
    subst hb
    have g1 : Lq K H2 a vs := m2.sql n h1
    rw [atms_at (h2.keep (m2.tk q)) e1] at g1
    exact ⟨a, as, u, j, z, rfl, rfl, g1.sq, atm_flat e2, atms_flat e1, e3, e4, e5, k _ _ H2 s (m.trans m2) q2 (.int _)⟩
end
end My
namespace My
open PySem L2
section
variable {K : PySem.W.Frag} {env : Evn} {S : Vl → Prop}
/-! ### defs that draw -/
def sp_dr (K : PySem.W.Frag) (pre : List Vl → (Vl → Prop) → Prop) : Sp := fun vs H Q _ => ∃ (d l : Addr) (ws : List V) (xs : List Vl) (R : Vl → Prop), vs = .ref d :: ws ∧ Dry H d l ∧ VlsAt K (some (d, l)) H xs ws ∧ pre xs R ∧
  ∀ x v H', R x → Mv (some (d, l)) H H' → Dry H' d l → VlAt K (some (d, l)) H' x v → Q v H'
def sp_dn (K : PySem.W.Frag) (pre : List Vl → (List Da → Prop) → Prop) : Sp := fun vs H Q _ => ∃ (d l : Addr) (ws : List V) (xs : List Vl) (R : List Da → Prop), vs = .ref d :: ws ∧ Dry H d l ∧ VlsAt K (some (d, l)) H xs ws ∧ pre xs R ∧
  ∀ m a us H', R m → Mv (some (d, l)) H H' → Dry H' d l → H a = none → H' a = some (.lst us) → DasAt K H' m us → Q (.ref a) H'
theorem dr_at {H0 H : Hp} {dl : Dl} {hs : Hs} {σ : St} {i : Nat} (E : EnvAt K H0 dl hs H σ env) (hi : env[i]? = some (some .dr)) : ∃ d l, dl = some (d, l) ∧ σ[i]? = some (some (.ref d)) := by
  obtain ⟨v, h1, d, l, e, rfl⟩ := E.slot i _ hi
  exact ⟨d, l, e, h1⟩
theorem ev_callD {pre : List Vl → (Vl → Prop) → Prop} {X : XK} {i : Nat} {t : TA} (hi : env[i]? = some (some .dr)) (h : Es K env t fun xs => pre xs fun x => isDa x ∧ S x) : Ev K env (tCall (sp_dr K pre) [] X (tCons (tVar i) t)) S := fun H0 dl hs σ H Q E k => by
  obtain ⟨d, l, rfl, h1⟩ := dr_at E hi
  refine ⟨_, h1, h H0 _ hs σ H _ E fun xs vs H1 hx m q r => ?_⟩
  refine ⟨d, l, vs, xs, _, by rw [List.append_nil], q d l rfl, r, hx, fun x v H2 hx s dy hv => ?_⟩
  obtain ⟨hd, s2⟩ := hx
  exact k x v H2 s2 (m.trans s) (fun d' l' e => by cases e; exact dy) hv
theorem el_callD {pre : List Vl → (List Da → Prop) → Prop} {X : XK} {i : Nat} {t : TA} {R : List Da → Prop} (hi : env[i]? = some (some .dr)) (h : Es K env t fun xs => pre xs R) : Eln K env (tCall (sp_dn K pre) [] X (tCons (tVar i) t)) R := fun H0 dl hs σ H Q E k => by
  obtain ⟨d, l, rfl, h1⟩ := dr_at E hi
  refine ⟨_, h1, h H0 _ hs σ H _ E fun xs vs H1 hx m q r => ?_⟩
  exact ⟨d, l, vs, xs, _, by rw [List.append_nil], q d l rfl, r, hx, fun m2 a us H2 hl s dy hn ha hd => k m2 a us H2 hl (m.trans s) (fun d' l' e => by cases e; exact dy) (m.fresh q hn) ha hd⟩
theorem ent_atD {d0 l0 : Addr} {H : Hp} : ∀ {xs : List Vl} {vs : List V}, VlsAt K (some (d0, l0)) H xs vs → ∃ (e : Evn) (hs : Hs), Ent xs e ∧ (∀ p ∈ hs, ∃ ws, Lq K H p.1 ws ∧ DasAt K H p.2 ws ∧ p.1 ≠ d0) ∧ ∀ (i : Nat) (s : Sl), e[i]? = some (some s) → ∃ v, vs[i]? = some v ∧ SlAt K H (some (d0, l0)) hs H s v ∧ ∀ a l, s ≠ .own a l
  | _, _, .nil => ⟨[], [], .nil, fun p hp => (by cases hp), fun i s h => (by simp at h)⟩
  | .da d :: _, _, .cons (v := v) h r => by
    obtain ⟨e, hs, h1, h2, h3⟩ := ent_atD r
    refine ⟨_, hs, .da h1, h2, fun i s hi => ?_⟩
    cases i with
    | zero =>
      cases Option.some.inj hi
      exact ⟨v, rfl, h, fun _ _ z => by cases z⟩
    | succ i => exact h3 i s hi
  | .ls l :: _, _, .cons (v := v) h r => by
    obtain ⟨e, hs, h1, h2, h3⟩ := ent_atD r
    obtain ⟨a, us, rfl, g1, g2, g3⟩ := h
    refine ⟨_, (a, l) :: hs, .ls (a := a) h1, fun p hp => ?_, fun i s hi => ?_⟩
    · rcases List.mem_cons.mp hp with rfl | hp
      · exact ⟨us, g1, g2, g3 _ _ rfl⟩
      · exact h2 p hp
    · cases i with
      | zero =>
        cases Option.some.inj hi
        exact ⟨_, rfl, ⟨rfl, List.mem_cons_self ..⟩, fun _ _ z => by cases z⟩
      | succ i =>
        obtain ⟨v, e1, e2, e3⟩ := h3 i s hi
        refine ⟨v, e1, ?_, e3⟩
        cases s with
        | vl d => exact e2
        | ls b l' => exact ⟨e2.1, List.mem_cons_of_mem _ e2.2⟩
        | own b l' => exact absurd rfl (e3 b l')
        | dr => exact e2
theorem start_atD {d l : Addr} {H : Hp} {N : List Str} {xs : List Vl} {vs : List V} (hD : Dry H d l) (h : VlsAt K (some (d, l)) H xs vs) : ∃ (e : Evn) (hs : Hs), Ent xs e ∧ EnvAt K H (some (d, l)) hs H (L2.start N (.ref d :: vs)) (some .dr :: e ++ List.replicate (N.length - (xs.length + 1)) none) := by
  obtain ⟨e, hs, h1, h2, h3⟩ := ent_atD h
  have hv := h.len
  have he := h1.len
  have dl0 : DlAt (some (d, l)) H := fun d' l' z => by cases z; exact hD
  have at_ : ∀ (i : Nat) (s : Sl), (e ++ List.replicate (N.length - (xs.length + 1)) (none : Option Sl))[i]? = some (some s) → e[i]? = some (some s) := fun i s hi => by
    by_cases hl : i < e.length
    · rwa [List.getElem?_append_left hl] at hi
    · rw [List.getElem?_append_right (by omega), List.getElem?_replicate] at hi
      split at hi
      · cases hi
      · cases hi
  have hst : L2.start N (.ref d :: vs) = some (.ref d) :: (vs.map some ++ List.replicate (N.length - (xs.length + 1)) none) := by
    unfold L2.start
    rw [List.map_cons, List.length_cons, hv]
    rfl
  rw [hst]
  refine ⟨e, hs, h1, by rw [List.cons_append, List.length_cons, List.length_cons, List.length_append, List.length_append, List.length_map, List.length_replicate, List.length_replicate, hv, he], dl0, dl0, .refl _ _, fun p hp => ?_, fun i s hi => ?_, fun i j a b l1 l' n hi hj => ?_⟩
  · obtain ⟨ws, q1, q2, q3⟩ := h2 p hp
    exact ⟨ws, q1, q2, fun _ _ z => by cases z; exact q3⟩
  · cases i with
    | zero =>
      cases Option.some.inj hi
      exact ⟨_, rfl, d, l, rfl, rfl⟩
    | succ i =>
      obtain ⟨v, e1, e2, _⟩ := h3 i s (at_ i s hi)
      refine ⟨v, ?_, e2⟩
      have hil := (List.getElem?_eq_some_iff.mp e1).1
      rw [List.getElem?_cons_succ, List.getElem?_append_left (by rw [List.length_map]; exact hil), List.getElem?_map, e1]
      rfl
  · cases i with
    | zero => cases hi
    | succ i =>
      obtain ⟨_, _, _, hno⟩ := h3 i _ (at_ i _ hi)
      exact absurd rfl (hno a l1)
theorem fin_dr {pre : List Vl → (Vl → Prop) → Prop} {N : List Str} {t : TS} (h : ∀ xs R, pre xs R → ∀ e, Ent xs e → Sv K (some .dr :: e ++ List.replicate (N.length - (xs.length + 1)) none) t (retO R)) {vs : List V} {H : Hp} {Q : VK} {E : XK} (hs : sp_dr K pre vs H Q E) :
    t { nx := fun _ H' => Q .non H', rt := Q } (L2.start N vs) H := by
  obtain ⟨d, l, ws, xs, R, rfl, hD, hx, hp, q⟩ := hs
  obtain ⟨e, hs, he, E⟩ := start_atD (N := N) hD hx
  exact h xs R hp e he H _ hs _ H _ E (fun e σ' H' o _ E' => q _ _ H' o E'.mv (E'.dlat _ _ rfl) .non) (fun _ _ _ o => o.elim) (fun _ _ _ o => o.elim) (fun x v H' o m dy r => q x v H' o m (dy _ _ rfl) r) (fun _ _ _ _ o => o.elim)
theorem fin_dn {pre : List Vl → (List Da → Prop) → Prop} {N : List Str} {t : TS} (h : ∀ xs R, pre xs R → ∀ e, Ent xs e → Sv K (some .dr :: e ++ List.replicate (N.length - (xs.length + 1)) none) t (rnO R)) {vs : List V} {H : Hp} {Q : VK} {E : XK} (hs : sp_dn K pre vs H Q E) :
    t { nx := fun _ H' => Q .non H', rt := Q } (L2.start N vs) H := by
  obtain ⟨d, l, ws, xs, R, rfl, hD, hx, hp, q⟩ := hs
  obtain ⟨e, hs, he, E⟩ := start_atD (N := N) hD hx
  exact h xs R hp e he H _ hs _ H _ E (fun _ _ _ o => o.elim) (fun _ _ _ o => o.elim) (fun _ _ _ o => o.elim) (fun _ _ _ o => o.elim) (fun m a us H' o mv dy h0 ha r => q m a us H' o mv (dy _ _ rfl) h0 ha r)
/-- a drawn number -/
structure KNx (m : Int) (R : Int → Prop) : Prop where
  h : 0 < m ∧ ∀ r, 0 ≤ r → r < m → R r
theorem k_nx {m : Int} {R : Int → Prop} (h : 0 < m) (q : ∀ r, 0 ≤ r → r < m → R r) : KNx m R := ⟨h, q⟩
/-- text[i], text[a:b] -/
structure KIS (x y : Vl) (R : Nat → Prop) : Prop where
  h : ∃ (cs : List Nat) (i : Int) (c : Nat), x = .da (.str (tx cs)) ∧ y = .da (.int i) ∧ cs.length ≤ sizeLine ∧ atI cs i = some c ∧ R c
theorem k_is' {cs : List Nat} {i : Int} {c : Nat} {R : Nat → Prop} (n : cs.length ≤ sizeLine) (e : atI cs i = some c) (h : R c) : KIS (.da (.str (tx cs))) (.da (.int i)) R := ⟨cs, i, c, rfl, rfl, n, e, h⟩
theorem ev_ixS {ta tb : TE} (h : Ev K env ta fun x => Ev K env tb fun y => KIS x y fun c => S (.da (.str (tx [c])))) : Ev K env (tOp rIxS ta tb) S := fun H0 dl hs σ H Q E k =>
  h H0 dl hs σ H _ E fun x v H1 hx m q r => hx H0 dl hs σ H1 _ (E.go m q) fun y u H2 hy m2 q2 r2 => by
    obtain ⟨cs, i, c, rfl, rfl, n, e, s⟩ := hy
    have h1 := atm_at (show DaAt K H1 (.str (tx cs)) v from r) rfl
    have h2 := atm_at (show DaAt K H2 (.int i) u from r2) rfl
    subst h1 h2
    exact ⟨tx cs, i, c, rfl, rfl, by rw [tx_len]; exact n, e, k _ _ H2 s (m.trans m2) q2 (.str _)⟩
structure KTs (x : Vl) (R : Str → Prop) : Prop where
  h : ∃ z, x = .da (.str z) ∧ R z
theorem k_ts {z : Str} {R : Str → Prop} (h : R z) : KTs (.da (.str z)) R := ⟨z, rfl, h⟩
end
end My
namespace My
open PySem L2
def hdT : Tr → Str
  | .empty => Str.ofString "empty"
  | .set _ => Str.ofString "set"
  | .edge _ => Str.ofString "edge"
  | .same _ => Str.ofString "same"
  | .seq _ => Str.ofString "seq"
  | .alt _ => Str.ofString "alt"
  | .rep _ _ _ _ => Str.ofString "repeat"
  | .grp _ _ => Str.ofString "group"
  | .look _ _ _ => Str.ofString "look"
def tlT : Tr → List Da
  | .empty => []
  | .set cs => [.str (tx cs)]
  | .edge k => [.str (tx k)]
  | .same n => [.str (tx n)]
  | .seq ts => [.tup (toDas ts)]
  | .alt ts => [.tup (toDas ts)]
  | .rep t lo hi lz => [toDa t, .int lo, hiD hi, .bl lz]
  | .grp n t => [.str (tx n), toDa t]
  | .look sd b t => [.str (tx sd), .bl b, toDa t]
theorem toDa_hd (t : Tr) : toDa t = .tup (.str (hdT t) :: tlT t) := by
  cases t <;> rw [toDa, hdT, tlT]
theorem k_tT {t : Tr} {R : List Da → Prop} (h : R (.str (hdT t) :: tlT t)) : KT (.da (toDa t)) R := ⟨_, by rw [toDa_hd], h⟩
theorem fl_all {α : Type} (L : List α) : (L.filter fun _ => true) = L := by simp
theorem hd_same (t : Tr) : decide (hdT t = Str.ofString "same") = isSame t := by
  cases t <;> rw [hdT, isSame] <;> first | decide +kernel | (intro _ e; cases e)
theorem hd_look (t : Tr) : decide (hdT t = Str.ofString "look") = isLook t := by
  cases t <;> rw [hdT, isLook] <;> first | decide +kernel | (intro _ _ _ e; cases e)
theorem hd_edge (t : Tr) : decide (hdT t = Str.ofString "edge") = isEdge t := by
  cases t <;> rw [hdT, isEdge] <;> first | decide +kernel | (intro _ e; cases e)
theorem List.reverseRecOn' {α : Type} {motive : List α → Prop} (l : List α) (nil : motive []) (snoc : ∀ (L : List α) (x : α), motive L → motive (L ++ [x])) : motive l := by
  have h : ∀ l : List α, motive l.reverse := fun l => by
    induction l with
    | nil => exact nil
    | cons x l ih => rw [List.reverse_cons]; exact snoc _ _ ih
  have := h l.reverse
  rwa [List.reverse_reverse] at this
/-- names gathered, each at its first place -/
def addN (acc : List (List Nat)) (n : List Nat) : List (List Nat) := if n ∈ acc then acc else acc ++ [n]
def ddN (L : List (List Nat)) : List (List Nat) := L.foldl addN []
theorem mem_addN {acc : List (List Nat)} {n m : List Nat} : m ∈ addN acc n ↔ m ∈ acc ∨ m = n := by
  unfold addN
  split
  · rename_i h
    exact ⟨.inl, fun h2 => h2.elim id fun e => e ▸ h⟩
  · rw [List.mem_append, List.mem_singleton]
theorem mem_foldN : ∀ {L acc : List (List Nat)} {m : List Nat}, m ∈ L.foldl addN acc ↔ m ∈ acc ∨ m ∈ L
  | [], acc, m => by simp
  | n :: L, acc, m => by
    rw [List.foldl_cons, mem_foldN, mem_addN, List.mem_cons, or_assoc]
theorem foldN_dd (acc : List (List Nat)) : ∀ L : List (List Nat), (ddN L).foldl addN acc = L.foldl addN acc := by
  intro L
  induction L using List.reverseRecOn' with
  | nil => rfl
  | snoc L x ih =>
    have e : ddN (L ++ [x]) = addN (ddN L) x := by unfold ddN; rw [List.foldl_append]; rfl
    have hx : (L ++ [x]).foldl addN acc = addN (L.foldl addN acc) x := by rw [List.foldl_append]; rfl
    rw [e, hx]
    by_cases h : x ∈ ddN L
    · have h2 : x ∈ L.foldl addN acc := by rw [← ih]; exact mem_foldN.mpr (.inr h)
      have e1 : addN (ddN L) x = ddN L := if_pos h
      have e2 : addN (L.foldl addN acc) x = L.foldl addN acc := if_pos h2
      rw [e1, e2]
      exact ih
    · have e1 : addN (ddN L) x = ddN L ++ [x] := if_neg h
      rw [e1, List.foldl_append, ih]
      rfl
theorem foldN_len : ∀ {L acc : List (List Nat)}, (L.foldl addN acc).length ≤ acc.length + L.length
  | [], acc => by simp
  | n :: L, acc => by
    rw [List.foldl_cons]
    have := foldN_len (L := L) (acc := addN acc n)
    have h : (addN acc n).length ≤ acc.length + 1 := by
      unfold addN
      split
      · omega
      · rw [List.length_append]; simp
    rw [List.length_cons]
    omega
theorem atms_tx : ∀ ns : List (List Nat), atms (ns.map fun n => Da.str (tx n)) = some (ns.map fun n => V.str (tx n))
  | [] => rfl
  | n :: ns => by rw [List.map_cons, List.map_cons, atms, atms_tx ns]; rfl
theorem k_inN {n : List Nat} {ns : List (List Nat)} {R : Bool → Prop} (h : R (decide (n ∈ ns))) : KIn (.da (.str (tx n))) (.ls (ns.map fun n => Da.str (tx n))) R := k_inL rfl (atms_tx ns) (by rw [in_tx]; exact h)
theorem atms_strs : ∀ ns : List Str, atms (ns.map Da.str) = some (ns.map V.str)
  | [] => rfl
  | n :: ns => by rw [List.map_cons, List.map_cons, atms, atms_strs ns]; rfl
theorem inV_strs (s : Str) : ∀ ns : List Str, inV (V.str s) (ns.map V.str) = decide (s ∈ ns)
  | [] => by simp [inV]
  | n :: ns => by
    have ih := inV_strs s ns
    unfold inV at ih ⊢
    rw [List.map_cons, List.any_cons, ih, Bool.eq_iff_iff]
    simp only [Bool.or_eq_true, decide_eq_true_eq, List.mem_cons, eqV, beq_iff_eq]
    exact or_congr ⟨Eq.symm, Eq.symm⟩ Iff.rfl
theorem k_inStrs {s : Str} {ns : List Str} {R : Bool → Prop} (h : R (decide (s ∈ ns))) : KIn (.da (.str s)) (.ls (ns.map Da.str)) R := k_inL rfl (atms_strs ns) (by rw [inV_strs]; exact h)
/-- the name of a group -/
def gname : Tr → Option (List Nat)
  | .grp n _ => some n
  | _ => none
mutual
theorem gn_nodes : ∀ t : Tr, (nodesT t).filterMap gname = gn t
  | .seq ts => by rw [nodesT, gn, ← gns_nodes ts]; rfl
  | .alt ts => by rw [nodesT, gn, ← gns_nodes ts]; rfl
  | .rep t _ _ _ => by rw [nodesT, gn, ← gn_nodes t]; rfl
  | .grp n t => by rw [nodesT, gn, ← gn_nodes t]; rfl
  | .look _ _ t => by rw [nodesT, gn, ← gn_nodes t]; rfl
  | .empty => by rw [nodesT, gn]; rfl
  | .set _ => by rw [nodesT, gn]; rfl
  | .edge _ => by rw [nodesT, gn]; rfl
  | .same _ => by rw [nodesT, gn]; rfl
theorem gns_nodes : ∀ ts : List Tr, (nodesK ts).filterMap gname = gns ts
  | [] => by rw [nodesK, gns]; rfl
  | t :: ts => by rw [nodesK, gns, List.filterMap_append, gn_nodes t, gns_nodes ts]
end
theorem gn_kids (t : Tr) : gn t = (gname t).toList ++ gns (kids t) := by
  cases t <;> simp [gn, gname, kids, gns]
end My
namespace My
open PySem L2
/-! ### data back to trees -/
theorem da_strR {K : PySem.W.Frag} {H : Hp} {s : Str} {v : V} (h : DaAt K H (.str s) v) : v = .str s := by cases h; rfl
mutual
theorem TrAt.of {K : PySem.W.Frag} {H : Hp} : ∀ {t : Tr} {v : V}, DaAt K H (toDa t) v → TrAt K H t v
  | .empty, _, h => by
    rw [toDa] at h
    cases h with
    | tup h r => cases r with
      | cons a r => cases r; cases a; exact .empty h
  | .set _, _, h => by
    rw [toDa] at h
    cases h with
    | tup h r => cases r with
      | cons a r => cases r with
        | cons b r => cases r; cases a; cases b; exact .set h
  | .edge _, _, h => by
    rw [toDa] at h
    cases h with
    | tup h r => cases r with
      | cons a r => cases r with
        | cons b r => cases r; cases a; cases b; exact .edge h
  | .same _, _, h => by
    rw [toDa] at h
    cases h with
    | tup h r => cases r with
      | cons a r => cases r with
        | cons b r => cases r; cases a; cases b; exact .same h
  | .seq ts, _, h => by
    rw [toDa] at h
    cases h with
    | tup h r => cases r with
      | cons a r => cases r with
        | cons b r =>
          cases r; cases a
          cases b with
          | tup h2 r2 => exact .seq h h2 (TrsAt.of r2)
  | .alt ts, _, h => by
    rw [toDa] at h
    cases h with
    | tup h r => cases r with
      | cons a r => cases r with
        | cons b r =>
          cases r; cases a
          cases b with
          | tup h2 r2 => exact .alt h h2 (TrsAt.of r2)
  | .rep t lo hi lz, _, h => by
    rw [toDa] at h
    cases h with
    | tup h r => cases r with
      | cons a r => cases r with
        | cons b r => cases r with
          | cons c r => cases r with
            | cons d r => cases r with
              | cons e r =>
                cases r; cases a; cases c; cases e
                cases hi with
                | none => cases d; exact .rep h (TrAt.of b)
                | some i => cases d; exact .rep h (TrAt.of b)
  | .grp n t, _, h => by
    rw [toDa] at h
    cases h with
    | tup h r => cases r with
      | cons a r => cases r with
        | cons b r => cases r with
          | cons c r => cases r; cases a; cases b; exact .grp h (TrAt.of c)
  | .look sd b t, _, h => by
    rw [toDa] at h
    cases h with
    | tup h r => cases r with
      | cons a r => cases r with
        | cons b r => cases r with
          | cons c r => cases r with
            | cons d r => cases r; cases a; cases b; cases c; exact .look h (TrAt.of d)
theorem TrsAt.of {K : PySem.W.Frag} {H : Hp} : ∀ {ts : List Tr} {vs : List V}, DasAt K H (toDas ts) vs → TrsAt K H ts vs
  | [], _, h => by rw [toDas] at h; cases h; exact .nil
  | t :: ts, _, h => by
    rw [toDas] at h
    cases h with
    | cons h r => exact .cons (TrAt.of h) (TrsAt.of r)
end
section
variable {K : PySem.W.Frag} {env : Evn} {S : Vl → Prop}
/-! ### calls of defs that draw, whatever their promise says -/
def DrOk (K : PySem.W.Frag) (sp : Sp) (xs : List Vl) (S : Da → Prop) : Prop := ∀ (d l : Addr) (ws : List V) (H : Hp) (Q : VK) (E : XK), Dry H d l → VlsAt K (some (d, l)) H xs ws →
  (∀ x v H', S x → Dry H' d l → But d H H' → DaAt K H' x v → Q v H') → sp (.ref d :: ws) H Q E
theorem ev_dr {sp : Sp} {X : XK} {i : Nat} {t : TA} (hi : env[i]? = some (some .dr)) (h : Es K env t fun xs => DrOk K sp xs fun x => S (.da x)) : Ev K env (tCall sp [] X (tCons (tVar i) t)) S := fun H0 dl hs σ H Q E k => by
  obtain ⟨d, l, rfl, h1⟩ := dr_at E hi
  refine ⟨_, h1, h H0 _ hs σ H _ E fun xs vs H1 hx m q r => ?_⟩
  show sp ((V.ref d :: vs) ++ []) H1 Q X
  rw [List.append_nil]
  exact hx d l vs H1 _ _ (q _ _ rfl) r (fun x v H2 s dy b hv => k (.da x) v H2 s (m.trans (.ofBut b)) (fun d' l' e => by cases e; exact dy) hv)
theorem vls_nil {dl : Dl} {H : Hp} {vs : List V} (h : VlsAt K dl H [] vs) : vs = [] := by cases h; rfl
theorem vl_atm {dl : Dl} {H : Hp} {d : Da} {v a : V} (h : VlAt K dl H (.da d) v) (e : atm d = some a) : v = a := atm_at (show DaAt K H d v from h) e
/-- text[a:b] -/
theorem ev_slS {te : TE} {tl th : TO} (h : Ev K env te fun x => KTs x fun z => Eo K env tl fun lo => Eo K env th fun hi => z.length ≤ sizeLine ∧ S (.da (.str (cutS z lo hi)))) : Ev K env (tSl rSlS te tl th) S := fun H0 dl hs σ H Q E k =>
  h H0 dl hs σ H _ E fun x v H1 hx m q r => by
    obtain ⟨z, rfl, hx⟩ := hx
    have h1 := vl_atm r rfl
    subst h1
    refine hx H0 dl hs σ H1 _ (E.go m q) fun lo H2 hy m2 q2 => hy H0 dl hs σ H2 _ (E.go (m.trans m2) q2) fun hi H3 hz m3 q3 => ?_
    obtain ⟨n, s⟩ := hz
    exact ⟨z, rfl, n, k _ _ H3 s (m.trans (m2.trans m3)) q3 (.str _)⟩
/-- list + list: a new one -/
theorem el_cat {ta tb : TE} {R : List Da → Prop} (h : Ev K env ta fun x => KL x fun l => Ev K env tb fun y => KL y fun l2 => l.length + l2.length ≤ sizeLine ∧ R (l ++ l2)) : Eln K env (tOp rCat ta tb) R := fun H0 dl hs σ H Q E k =>
  h H0 dl hs σ H _ E fun x v H1 hx m q r => by
    obtain ⟨l, rfl, hx⟩ := hx
    refine hx H0 dl hs σ H1 _ (E.go m q) fun y u H2 hy m2 q2 r2 => ?_
    obtain ⟨l2, rfl, n, s⟩ := hy
    obtain ⟨a, vs, rfl, h1, h2, na⟩ := r
    obtain ⟨b, us, rfl, h3, h4, nb⟩ := r2
    have h5 : DasAt K H2 l vs := h2.keep (m2.tk q)
    refine ⟨a, b, vs, us, rfl, rfl, m2 _ _ na h1, h3, by rw [h5.len, h4.len]; exact n, fun p hp => ?_⟩
    have hn : H p = none := (m.trans m2).fresh q2 hp
    exact k _ _ _ _ s ((m.trans m2).trans (.same (same_upd hp))) (q2.same (same_upd hp)) hn upd_same ((das_app h5 h4).keep (.same (same_upd hp)))
/-- the draw's last number set -/
theorem sv_putD {O : Out → Prop} {i : Nat} {n : Int} (hi : env[i]? = some (some .dr)) (h : O (.nx env)) : Sv K env (tAsg (tC (.int n)) (gSub (tVar i) (tC (.int 4)) rSetL)) O := fun H0 dl hs σ H D E a b c d e => by
  obtain ⟨p, l, rfl, h1⟩ := dr_at E hi
  obtain ⟨x, y, z, w, ds, ne, g1, g2, g3⟩ := E.dlat _ _ rfl
  refine ⟨_, h1, p, _, 4, 4, rfl, rfl, g1, rfl, ?_⟩
  have m : Mv (some (p, l)) H (upd H p (.lst [.int x, .int y, .int z, .ref l, .int n])) := .ofBut .put
  have q : DlAt (some (p, l)) (upd H p (.lst [.int x, .int y, .int z, .ref l, .int n])) := fun d' l' e => by
    cases e
    exact ⟨x, y, z, n, ds, ne, upd_same, (upd_ne ne.symm).trans g2, g3⟩
  exact a _ _ _ h (m.tk E.dlat) (E.go m q)
end
end My
namespace My
open PySem L2
section
variable {K : PySem.W.Frag} {env : Evn} {S : Vl → Prop} {O : Out → Prop}
/-! ### while -/
def whO (m : Nat) (I : Nat → Evn → Prop) (O : Out → Prop) : Out → Prop
  | .nx e => ∃ j, j < m ∧ ∃ e2, Wk e e2 ∧ I j e2
  | .ct e => ∃ j, j < m ∧ ∃ e2, Wk e e2 ∧ I j e2
  | .bk e => O (.nx e)
  | .rt x => O (.rt x)
  | .rn l => O (.rn l)
theorem w_nx {m : Nat} {I : Nat → Evn → Prop} {e : Evn} (j : Nat) (h : j < m) (e2 : Evn) (w : Wk e e2) (i : I j e2) : whO m I O (.nx e) := ⟨j, h, e2, w, i⟩
theorem w_ct {m : Nat} {I : Nat → Evn → Prop} {e : Evn} (j : Nat) (h : j < m) (e2 : Evn) (w : Wk e e2) (i : I j e2) : whO m I O (.ct e) := ⟨j, h, e2, w, i⟩
theorem w_rt {m : Nat} {I : Nat → Evn → Prop} {x : Vl} (h : O (.rt x)) : whO m I O (.rt x) := h
theorem w_rn {m : Nat} {I : Nat → Evn → Prop} {l : List Da} (h : O (.rn l)) : whO m I O (.rn l) := h
/-- slots of which I speaks, with a number that falls -/
theorem sv_while {c : TT} {tb : TS} (I : Nat → Evn → Prop) (h0 : ∃ m e, Wk env e ∧ I m e) (hI : ∀ m e, I m e → Tv K e c fun b => KIf b (Sv K e tb (whO m I O)) (O (.nx e))) : Sv K env (tWhile c tb) O := fun H0 dl hs σ H D E a b c' d r => by
  obtain ⟨m, e0, w, i0⟩ := h0
  refine ⟨fun j σ' H' => ∃ e1, I j e1 ∧ Tk K H H' ∧ EnvAt K H0 dl hs H' σ' e1, ⟨m, e0, i0, .refl _ _, E.weak w.len w.le⟩, ?_⟩
  rintro j σ1 H1 ⟨e1, i1, tk, E1⟩
  refine hI j e1 i1 H0 dl hs σ1 H1 _ E1 fun x H2 hx mv q => ?_
  obtain ⟨hx⟩ := hx
  have tk2 := tk.trans (mv.tk E1.dlat)
  cases x
  · exact a e1 σ1 H2 hx tk2 (E1.go mv q)
  · refine ⟨fun σ' H' => ∃ j', j' < j ∧ ∃ e2, I j' e2 ∧ Tk K H H' ∧ EnvAt K H0 dl hs H' σ' e2, fun σ' H' ⟨j', l, e2, z⟩ => ⟨j', l, e2, z⟩, ?_⟩
    exact hx H0 dl hs σ1 H2 _ (E1.go mv q) (fun x σ' H' ⟨j', l, e2, w, i⟩ t2 E' => ⟨j', l, e2, i, tk2.trans t2, E'.weak w.len w.le⟩) (fun x σ' H' s t2 E' => a _ _ _ s (tk2.trans t2) E') (fun x σ' H' ⟨j', l, e2, w, i⟩ t2 E' => ⟨j', l, e2, i, tk2.trans t2, E'.weak w.len w.le⟩) d r
/-! ### a, b = .. -/
structure KD2 (x : Vl) (R : Da → Da → Prop) : Prop where
  h : ∃ a b, x = .da (.tup [a, b]) ∧ R a b
theorem k_d2 {a b : Da} {R : Da → Da → Prop} (h : R a b) : KD2 (.da (.tup [a, b])) R := ⟨a, b, rfl, h⟩
theorem sv_set2 {i j : Nat} {te : TE} (h : Ev K env te fun x => KD2 x fun a b => O (.nx ((env.set i (some (.vl a))).set j (some (.vl b))))) : Sv K env (tAsg te (gTup K 2 (gCons (gName i) (gCons (gName j) gNil)))) O := fun H0 dl hs σ H D E a b c d e =>
  h H0 dl hs σ H _ E fun x v H1 hx m q r => by
    obtain ⟨y, z, rfl, s⟩ := hx
    exact (gv_tup2 (P := fun e => O (.nx e)) s) H0 dl hs σ H1 _ v (E.go m q) r fun e1 σ' o E' _ => a _ _ H1 o (m.tk E.dlat) E'
/-! ### texts by their signs -/
theorem ev_lit {s : Str} {cs : List Nat} (e : s = tx cs) (h : S (.da (.str (tx cs)))) : Ev K env (tC (.str s)) S := ev_str (by rw [e]; exact h)
structure KX2 (x y : Vl) (R : List Nat → List Nat → Prop) : Prop where
  h : ∃ a b, x = .da (.str (tx a)) ∧ y = .da (.str (tx b)) ∧ a.length + b.length ≤ sizeLine ∧ R a b
theorem k_x2 {a b : List Nat} {R : List Nat → List Nat → Prop} (n : a.length + b.length ≤ sizeLine) (h : R a b) : KX2 (.da (.str (tx a))) (.da (.str (tx b))) R := ⟨a, b, rfl, rfl, n, h⟩
theorem ev_catX {ta tb : TE} (h : Ev K env ta fun x => Ev K env tb fun y => KX2 x y fun a b => S (.da (.str (tx (a ++ b))))) : Ev K env (tOp (fun x y H Q => ∃ i j, x = .str i ∧ y = .str j ∧ i.length + j.length ≤ sizeLine ∧ Q (.str (i ++ j)) H) ta tb) S :=
  ev_catS (h.imp fun x hx => hx.imp fun y ⟨a, b, e1, e2, n, s⟩ => by
    subst e1 e2
    exact k_s2 (by rw [tx_len, tx_len]; exact n) (by rw [tx_app]; exact s))
/-- a sign in a text -/
structure KSg (x y : Vl) (R : Nat → List Nat → Prop) : Prop where
  h : ∃ c cs, x = .da (.str (tx [c])) ∧ y = .da (.str (tx cs)) ∧ R c cs
theorem k_sg {c : Nat} {cs : List Nat} {R : Nat → List Nat → Prop} (h : R c cs) : KSg (.da (.str (tx [c]))) (.da (.str (tx cs))) R := ⟨c, cs, rfl, rfl, h⟩
theorem ev_inS {ta tb : TE} (h : Ev K env ta fun x => Ev K env tb fun y => KSg x y fun c cs => S (.da (.bl (decide (c ∈ cs))))) : Ev K env (tOp (fun x y H Q => ∃ (c : Nat) (z : Str), x = .str ⟨#[c]⟩ ∧ y = .str z ∧ Q (.bl (decide (c ∈ z.cps.toList))) H) ta tb) S := fun H0 dl hs σ H Q E k =>
  h H0 dl hs σ H _ E fun x v H1 hx m q r => hx H0 dl hs σ H1 _ (E.go m q) fun y u H2 hy m2 q2 r2 => by
    obtain ⟨c, cs, rfl, rfl, s⟩ := hy
    have h1 := vl_atm r rfl
    have h2 := vl_atm r2 rfl
    subst h1 h2
    exact ⟨c, tx cs, rfl, rfl, k _ _ H2 s (m.trans m2) q2 (.bl _)⟩
theorem ev_ninS {ta tb : TE} (h : Ev K env ta fun x => Ev K env tb fun y => KSg x y fun c cs => S (.da (.bl (!decide (c ∈ cs))))) : Ev K env (tOp (fun x y H Q => ∃ (c : Nat) (z : Str), x = .str ⟨#[c]⟩ ∧ y = .str z ∧ Q (.bl (!decide (c ∈ z.cps.toList))) H) ta tb) S := fun H0 dl hs σ H Q E k =>
  h H0 dl hs σ H _ E fun x v H1 hx m q r => hx H0 dl hs σ H1 _ (E.go m q) fun y u H2 hy m2 q2 r2 => by
    obtain ⟨c, cs, rfl, rfl, s⟩ := hy
    have h1 := vl_atm r rfl
    have h2 := vl_atm r2 rfl
    subst h1 h2
    exact ⟨c, tx cs, rfl, rfl, k _ _ H2 s (m.trans m2) q2 (.bl _)⟩
/-- a text as a test -/
structure KTt (x : Vl) (R : Bool → Prop) : Prop where
  h : ∃ cs : List Nat, x = .da (.str (tx cs)) ∧ cs.length ≤ sizeLine ∧ R (cs.length != 0)
theorem k_tt {cs : List Nat} {R : Bool → Prop} (n : cs.length ≤ sizeLine) (h : R (cs.length != 0)) : KTt (.da (.str (tx cs))) R := ⟨cs, rfl, n, h⟩
theorem tv_tru {ta : TE} {R : Bool → Prop} (h : Ev K env ta fun x => KTt x R) : Tv K env (fun σ H Q => ta σ H fun x H' => ∃ k, TruV K x H' k ∧ Q k H') R := fun H0 dl hs σ H Q E k =>
  h H0 dl hs σ H _ E fun x v H1 hx m q r => by
    obtain ⟨cs, rfl, n, s⟩ := hx
    have h1 := vl_atm r rfl
    subst h1
    refine ⟨cs.length != 0, ?_, k _ H1 s m q⟩
    exact ⟨by rw [tx_len]; exact n, by rw [tx_len, Bool.eq_iff_iff]; simp⟩
/-- "".join(texts) -/
structure KTL (x : Vl) (R : List (List Nat) → Prop) : Prop where
  h : ∃ ss : List (List Nat), x = .ls (ss.map fun s => .str (tx s)) ∧ (ss.map (·.length)).sum ≤ 16777216 ∧ R ss
theorem k_tl {ss : List (List Nat)} {R : List (List Nat) → Prop} (n : (ss.map (·.length)).sum ≤ 16777216) (h : R ss) : KTL (.ls (ss.map fun s => .str (tx s))) R := ⟨ss, rfl, n, h⟩
theorem das_txs {H : Hp} : ∀ {ss : List (List Nat)} {vs : List V}, DasAt K H (ss.map fun s => Da.str (tx s)) vs → vs = ss.map fun s => V.str (tx s)
  | [], _, .nil => rfl
  | b :: bs, _, .cons h r => by cases h; rw [das_txs r]; rfl
theorem flat_join (ss : List (List Nat)) : Txt.join (tx []) (ss.map tx) = tx ss.flatten := join_tx ss
theorem ev_join {tb : TE} (h : Ev K env tb fun y => KTL y fun ss => S (.da (.str (tx ss.flatten)))) : Ev K env (tM1 (rJoin K) (tC (.str (tx []))) tb) S := fun H0 dl hs σ H Q E k =>
  ⟨⟨_, rfl⟩, h H0 dl hs σ H _ E fun y u H2 hy m2 q2 r2 => by
    obtain ⟨ss, rfl, n, s⟩ := hy
    obtain ⟨p, vs, rfl, h1, h2, _⟩ := r2
    rw [das_txs h2] at h1
    refine ⟨tx [], rfl, p, rfl, ss.map tx, .inl ?_, ?_, ?_⟩
    · rw [List.map_map]; exact h1.sq
    · rw [List.map_map, show (tx []).length = 0 from rfl, Nat.mul_zero, Nat.add_zero]
      have e : ((fun x : Str => x.length) ∘ tx) = fun s : List Nat => s.length := funext fun s => tx_len s
      rw [e]; exact n
    · rw [flat_join]
      exact k _ _ H2 s m2 q2 (.str _)⟩
theorem ev_joinE {tb : TE} (h : Ev K env tb fun y => KTL y fun ss => S (.da (.str (tx ss.flatten)))) : Ev K env (tM1 (rJoin K) (tC (.str (Str.ofString ""))) tb) S := by
  rw [show Str.ofString "" = tx [] by decide +kernel]
  exact ev_join h
/-- get of a dict of the module -/
def ktS (kvs : List (Str × Str)) (k z : Str) : Str := match kvs.lookup k with | some x => x | none => z
theorem ev_kget {d : Addr} {kvs : List (Str × Str)} {ty tz : TE} (h : Ev K env ty fun x => KTs x fun k => Ev K env tz fun y => KTs y fun z => S (.da (.str (ktS kvs k z)))) : Ev K env (tKGet d kvs (tC (.ref d)) ty tz) S := fun H0 dl hs σ H Q E fin =>
  ⟨rfl, h H0 dl hs σ H _ E fun x v H1 hx m q r => by
    obtain ⟨k, rfl, hx⟩ := hx
    have h1 := vl_atm r rfl
    subst h1
    refine hx H0 dl hs σ H1 _ (E.go m q) fun y u H2 hy m2 q2 r2 => ?_
    obtain ⟨z, rfl, s⟩ := hy
    have h2 := vl_atm r2 rfl
    subst h2
    refine ⟨k, rfl, ?_⟩
    have e : ktAt kvs k (.str z) = .str (ktS kvs k z) := by
      unfold ktAt ktS
      cases kvs.lookup k <;> rfl
    rw [e]
    exact fin _ _ H2 s (m.trans m2) q2 (.str _)⟩
end
end My
namespace My
open PySem L2
/-! ### templates and their written forms -/
abbrev TSP : List Nat := [92, 123, 125]
abbrev OSP : List Nat := [92, 123, 125, 124]
def unesc (c : Nat) : Nat := if c = 110 then 10 else if c = 116 then 9 else c
def esc (sp : List Nat) (c : Nat) : List Nat := if c ∈ sp then [92, c] else if c = 10 then [92, 110] else if c = 9 then [92, 116] else [c]
/-- s written, some way -/
inductive Sp2 (sp : List Nat) : List Nat → List Nat → Prop where
  | nil : Sp2 sp [] []
  | es {c d : Nat} {s w : List Nat} (hd : d ∈ sp ++ [110, 116]) (e : unesc d = c) (h : Sp2 sp s w) : Sp2 sp (c :: s) (92 :: d :: w)
  | raw {c : Nat} {s w : List Nat} (hc : c ∉ sp) (h : Sp2 sp s w) : Sp2 sp (c :: s) (c :: w)
def SpO (sp : List Nat) : Prop := 92 ∈ sp ∧ 110 ∉ sp ∧ 116 ∉ sp
theorem spo_t : SpO TSP := ⟨by decide, by decide, by decide⟩
theorem spo_o : SpO OSP := ⟨by decide, by decide, by decide⟩
theorem Sp2.app {sp s1 w1 s2 w2 : List Nat} (h : Sp2 sp s1 w1) (g : Sp2 sp s2 w2) : Sp2 sp (s1 ++ s2) (w1 ++ w2) := by
  induction h with
  | nil => exact g
  | es hd e _ ih => exact .es hd e ih
  | raw hc _ ih => exact .raw hc ih
theorem Sp2.esc {sp s w : List Nat} {c : Nat} (o : SpO sp) (h : Sp2 sp s w) : Sp2 sp (c :: s) (esc sp c ++ w) := by
  unfold My.esc
  by_cases h1 : c ∈ sp
  · rw [if_pos h1]
    refine .es (List.mem_append_left _ h1) ?_ h
    unfold unesc
    rw [if_neg (fun e : c = 110 => o.2.1 (e ▸ h1)), if_neg (fun e : c = 116 => o.2.2 (e ▸ h1))]
  · rw [if_neg h1]
    by_cases h2 : c = 10
    · rw [if_pos h2, h2]; exact .es (List.mem_append_right _ (by simp)) rfl h
    · rw [if_neg h2]
      by_cases h3 : c = 9
      · rw [if_pos h3, h3]; exact .es (List.mem_append_right _ (by simp)) rfl h
      · rw [if_neg h3]; exact .raw h1 h
theorem Sp2.len {sp s w : List Nat} (h : Sp2 sp s w) : w.length ≤ 2 * s.length ∧ s.length ≤ w.length := by
  induction h with
  | nil => simp
  | es _ _ _ ih => simp only [List.length_cons]; omega
  | raw _ _ ih => simp only [List.length_cons]; omega
theorem Sp2.canon {sp : List Nat} (o : SpO sp) : ∀ s : List Nat, Sp2 sp s (s.flatMap (My.esc sp))
  | [] => .nil
  | c :: s => by rw [List.flatMap_cons]; exact .esc o (Sp2.canon o s)
theorem Sp2.head {sp s w : List Nat} (h : Sp2 sp s w) (o : 92 ∈ sp) {x : Nat} {r : List Nat} (e : w = x :: r) : x = 92 ∨ x ∉ sp := by
  cases h with
  | nil => cases e
  | es _ _ _ => cases e; exact .inl rfl
  | raw hc _ => cases e; exact .inr hc
inductive Pt where
  | te (s : List Nat)
  | wh
  | gr (n o : List Nat)
abbrev LET : List Nat := [97, 98, 99, 100, 101, 102, 103, 104, 105, 106, 107, 108, 109, 110, 111, 112, 113, 114, 115, 116, 117, 118, 119, 120, 121, 122]
abbrev NSG : List Nat := [48, 49, 50, 51, 52, 53, 54, 55, 56, 57, 95, 97, 98, 99, 100, 101, 102, 103, 104, 105, 106, 107, 108, 109, 110, 111, 112, 113, 114, 115, 116, 117, 118, 119, 120, 121, 122]
def NmOk (n : List Nat) : Prop := (∃ c r, n = c :: r ∧ c ∈ LET ∧ ∀ x ∈ r, x ∈ NSG) ∧ n.length ≤ 12
/-- the canonical writing -/
def wrP : Pt → List Nat
  | .te s => s.flatMap (esc TSP)
  | .wh => [123, 125]
  | .gr n o => 123 :: n ++ (if o = [] then [] else 124 :: o.flatMap (esc OSP)) ++ [125]
inductive WrP : Pt → List Nat → Prop where
  | te {s w : List Nat} (h : Sp2 TSP s w) : WrP (.te s) w
  | wh : WrP .wh [123, 125]
  | gr0 {n : List Nat} : WrP (.gr n []) (123 :: n ++ [125])
  | gr1 {n o w : List Nat} (h : Sp2 OSP o w) : WrP (.gr n o) (123 :: n ++ 124 :: w ++ [125])
inductive WrT : List Pt → List Nat → Prop where
  | nil : WrT [] []
  | cons {p : Pt} {w : List Nat} {ps : List Pt} {ws : List Nat} (h : WrP p w) (r : WrT ps ws) : WrT (p :: ps) (w ++ ws)
theorem WrT.snoc {p : Pt} {w : List Nat} {ps : List Pt} {ws : List Nat} (r : WrT ps ws) (h : WrP p w) : WrT (ps ++ [p]) (ws ++ w) := by
  induction r with
  | nil => have := WrT.cons h .nil; rwa [List.append_nil] at this
  | cons g _ ih => rw [List.append_assoc]; exact .cons g ih
theorem wrP_ok : ∀ p : Pt, WrP p (wrP p)
  | .te s => .te (Sp2.canon spo_t s)
  | .wh => .wh
  | .gr n o => by
    by_cases h : o = []
    · subst h
      have := @WrP.gr0 n
      rw [wrP, if_pos rfl, List.append_nil]
      exact this
    · have := WrP.gr1 (n := n) (Sp2.canon spo_o o)
      rw [wrP, if_neg h]
      exact this
def PtOk (m : Nat) : Pt → Prop
  | .te s => s ≠ [] ∧ s.length ≤ m ∧ ∀ c ∈ s, c ∈ SG
  | .wh => True
  | .gr n o => NmOk n ∧ o.length ≤ m ∧ ∀ c ∈ o, c ∈ SG
def isTe : Pt → Bool
  | .te _ => true
  | _ => false
structure TOk (k m : Nat) (ps : List Pt) : Prop where
  len : ps.length ≤ k
  ok : ∀ p ∈ ps, PtOk m p
  apart : ∀ (i : Nat) (p q : Pt), ps[i]? = some p → ps[i + 1]? = some q → isTe p = true → isTe q = false
theorem TOk.mono {k m k2 m2 : Nat} {ps : List Pt} (h : TOk k m ps) (h1 : k ≤ k2) (h2 : m ≤ m2) : TOk k2 m2 ps := by
  refine ⟨Nat.le_trans h.len h1, fun p hp => ?_, h.apart⟩
  have := h.ok p hp
  cases p with
  | te s => exact ⟨this.1, Nat.le_trans this.2.1 h2, this.2.2⟩
  | wh => trivial
  | gr n o => exact ⟨this.1, Nat.le_trans this.2.1 h2, this.2.2⟩
theorem TOk.nil {k m : Nat} : TOk k m [] := ⟨by simp, fun p hp => (by cases hp), fun i p q h => (by simp at h)⟩
theorem TOk.snoc {k m : Nat} {ps : List Pt} {p : Pt} (h : TOk k m ps) (hp : PtOk m p) (hl : isTe p = true → ∀ q, ps.getLast? = some q → isTe q = false) : TOk (k + 1) m (ps ++ [p]) := by
  refine ⟨by rw [List.length_append]; simp; exact h.len, fun q hq => ?_, fun i a b ha hb ta => ?_⟩
  · rcases List.mem_append.mp hq with hq | hq
    · exact h.ok q hq
    · rw [List.mem_singleton.mp hq]; exact hp
  · have hi : i + 1 < (ps ++ [p]).length := (List.getElem?_eq_some_iff.mp hb).1
    rw [List.length_append, List.length_singleton] at hi
    by_cases c : i + 1 < ps.length
    · rw [List.getElem?_append_left (by omega)] at ha
      rw [List.getElem?_append_left c] at hb
      exact h.apart i a b ha hb ta
    · have e : i + 1 = ps.length := by omega
      rw [List.getElem?_append_left (by omega)] at ha
      rw [e, List.getElem?_append_right (Nat.le_refl _), Nat.sub_self] at hb
      cases hb
      cases hb : isTe p with
      | false => rfl
      | true =>
        have := hl hb a (by rw [List.getLast?_eq_getElem?, ← ha]; congr 1; omega)
        rw [this] at ta
        cases ta
theorem TOk.tail {k m : Nat} {p : Pt} {ps : List Pt} (h : TOk k m (p :: ps)) : TOk k m ps :=
  ⟨by have := h.len; rw [List.length_cons] at this; omega, fun q hq => h.ok q (List.mem_cons_of_mem _ hq), fun i a b ha hb => h.apart (i + 1) a b (by rw [List.getElem?_cons_succ]; exact ha) (by rw [List.getElem?_cons_succ]; exact hb)⟩
theorem WrP.len {m : Nat} {p : Pt} {w : List Nat} (h : WrP p w) (o : PtOk m p) : w.length ≤ 2 * m + 15 ∧ 0 < w.length := by
  cases h with
  | te h =>
    have h1 := h.len
    have h2 := o.2.1
    have h3 := List.length_pos_iff.mpr o.1
    omega
  | wh => simp
  | gr0 =>
    have := o.1.2
    simp
    omega
  | gr1 h =>
    have h1 := h.len
    have h2 := o.2.1
    have h3 := o.1.2
    simp
    omega
theorem WrT.len {k m : Nat} {ps : List Pt} {w : List Nat} (h : WrT ps w) (o : ∀ p ∈ ps, PtOk m p) : w.length ≤ (2 * m + 15) * ps.length := by
  induction h with
  | nil => simp
  | cons g _ ih =>
    have h1 := g.len (o _ (List.mem_cons_self ..))
    have h2 := ih (fun p hp => o p (List.mem_cons_of_mem _ hp))
    rw [List.length_append, List.length_cons, Nat.mul_add, Nat.mul_one]
    omega
/-- how a written part begins -/
theorem WrP.head {m : Nat} {p : Pt} {w : List Nat} (h : WrP p w) (o : PtOk m p) : ∃ c r, w = c :: r ∧ (c = 123 ↔ isTe p = false) := by
  cases h with
  | te h =>
    have h1 := h.len
    have h3 := List.length_pos_iff.mpr o.1
    cases hw : w with
    | nil => have h2 := h1.2; rw [hw, List.length_nil] at h2; omega
    | cons c r =>
      refine ⟨c, r, rfl, ?_⟩
      have := h.head (by decide) hw
      constructor
      · intro e
        subst e
        rcases this with e | e
        · cases e
        · exact absurd (by decide) e
      · intro e; cases e
  | wh => exact ⟨123, [125], rfl, by simp [isTe]⟩
  | gr0 => exact ⟨123, _, rfl, by simp [isTe]⟩
  | gr1 h => exact ⟨123, _, rfl, by simp [isTe]⟩
theorem WrT.head {k m : Nat} {p : Pt} {ps : List Pt} {w ws : List Nat} (g : WrP p w) (h : WrT ps ws) (o : TOk k m (p :: ps)) (t : isTe p = true) : ws = [] ∨ ∃ r, ws = 123 :: r := by
  cases h with
  | nil => exact .inl rfl
  | cons g2 r2 =>
    have := o.apart 0 _ _ rfl rfl t
    obtain ⟨c, r, e, hc⟩ := g2.head (o.ok _ (List.mem_cons_of_mem _ (List.mem_cons_self ..)))
    rw [e, hc.mpr this]
    exact .inr ⟨_, rfl⟩
theorem nm_head {n : List Nat} (h : NmOk n) : ∃ c r, n = c :: r ∧ c ∈ LET ∧ c ≠ 125 := by
  obtain ⟨⟨c, r, e, hc, _⟩, _⟩ := h
  exact ⟨c, r, e, hc, fun z => by subst z; exact absurd hc (by decide)⟩
theorem nm_at {n : List Nat} (h : NmOk n) {j c : Nat} (hc : n[j]? = some c) : c ∈ NSG ∧ c ≠ 125 ∧ c ≠ 124 := by
  obtain ⟨⟨a, r, e, ha, hr⟩, _⟩ := h
  have : c ∈ NSG := by
    have hm := List.mem_of_getElem? hc
    rw [e] at hm
    rcases List.mem_cons.mp hm with rfl | hm
    · have : ∀ x ∈ LET, x ∈ NSG := by decide
      exact this _ ha
    · exact hr _ hm
  exact ⟨this, fun z => by subst z; exact absurd this (by decide), fun z => by subst z; exact absurd this (by decide)⟩
theorem sg_nm : ∀ c ∈ NSG, c ∈ SG := by decide
theorem NmOk.sg {n : List Nat} (h : NmOk n) : ∀ c ∈ n, c ∈ SG := fun c hc => by
  obtain ⟨j, hj⟩ := List.getElem?_of_mem hc
  exact sg_nm c (nm_at h hj).1
end My
namespace My
open PySem L2
/-! ### a reader, sign by sign -/
inductive Ms where
  | tx (s : List Nat)
  | es (s : List Nat)
  | nm (n : List Nat)
  | ot (n o : List Nat)
  | ie (n o : List Nat)
def nmTo (n : List Nat) (c : Nat) : Bool := if n = [] then decide (c ∈ LET) else decide (n.length < 12) && decide (c ∈ NSG)
def stp : Ms → Nat → Option (Ms × List Pt)
  | .tx s, c => if c = 92 then some (.es s, []) else if c = 123 then some (.nm [], if s = [] then [] else [.te s]) else if c = 125 then none else some (.tx (s ++ [c]), [])
  | .es s, c => if c ∈ TSP ++ [110, 116] then some (.tx (s ++ [unesc c]), []) else none
  | .nm n, c => if c = 125 then some (.tx [], [if n = [] then .wh else .gr n []]) else if c = 124 ∧ n ≠ [] then some (.ot n [], []) else if nmTo n c = true then some (.nm (n ++ [c]), []) else none
  | .ot n o, c => if c = 125 then some (.tx [], [.gr n o]) else if c = 92 then some (.ie n o, []) else if c = 123 ∨ c = 124 then none else some (.ot n (o ++ [c]), [])
  | .ie n o, c => if c ∈ OSP ++ [110, 116] then some (.ot n (o ++ [unesc c]), []) else none
def flu (s : List Nat) : List Pt := if s = [] then [] else [.te s]
def endM : Ms → Nat → List Pt → Nat ⊕ List Pt
  | .tx s, _, ps => .inr (ps ++ flu s)
  | _, i, _ => .inl i
def runM : Ms → List Nat → Nat → List Pt → Nat ⊕ List Pt
  | st, [], i, ps => endM st i ps
  | st, c :: r, i, ps => match stp st c with
    | none => .inl i
    | some (st', a) => runM st' r (i + 1) (ps ++ a)
theorem run_none {st : Ms} {c : Nat} {r : List Nat} {i : Nat} {ps : List Pt} (h : stp st c = none) : runM st (c :: r) i ps = .inl i := by rw [runM, h]
theorem run_some {st st' : Ms} {c : Nat} {r : List Nat} {i : Nat} {ps a : List Pt} (h : stp st c = some (st', a)) : runM st (c :: r) i ps = runM st' r (i + 1) (ps ++ a) := by rw [runM, h]
/-- signs up to one that stops, or to a fault -/
def scan (sp : List Nat) (st : Nat) : List Nat → List Nat → Nat → Nat ⊕ (List Nat × Nat)
  | [], f, k => .inr (f, k)
  | c :: r, f, k => if c = st then .inr (f, k) else if c = 92 then (match r with
      | [] => .inl (k + 1)
      | d :: r' => if d ∈ sp ++ [110, 116] then scan sp st r' (f ++ [unesc d]) (k + 2) else .inl (k + 1)) else if c ∈ sp then .inl k else scan sp st r (f ++ [c]) (k + 1)
section
variable {sp r f : List Nat} {st c d k : Nat}
theorem scan_st (h : c = st) : scan sp st (c :: r) f k = .inr (f, k) := by cases r <;> rw [scan, if_pos h]
theorem scan_e0 (h1 : ¬ c = st) (h2 : c = 92) : scan sp st [c] f k = .inl (k + 1) := by rw [scan, if_neg h1, if_pos h2]
theorem scan_es (h1 : ¬ c = st) (h2 : c = 92) : scan sp st (c :: d :: r) f k = if d ∈ sp ++ [110, 116] then scan sp st r (f ++ [unesc d]) (k + 2) else .inl (k + 1) := by rw [scan, if_neg h1, if_pos h2]
theorem scan_sp (h1 : ¬ c = st) (h2 : ¬ c = 92) (h3 : c ∈ sp) : scan sp st (c :: r) f k = .inl k := by cases r <;> rw [scan, if_neg h1, if_neg h2, if_pos h3]
theorem scan_go (h1 : ¬ c = st) (h2 : ¬ c = 92) (h3 : c ∉ sp) : scan sp st (c :: r) f k = scan sp st r (f ++ [c]) (k + 1) := by cases r <;> (conv => lhs; rw [scan, if_neg h1, if_neg h2, if_neg h3])
end
theorem scan_text : ∀ (r f : List Nat) (k : Nat), (∀ e, scan TSP 123 r f k = .inl e → ∀ ps, runM (.tx f) r k ps = .inl e) ∧
    ∀ f' k', scan TSP 123 r f k = .inr (f', k') → k ≤ k' ∧ k' ≤ k + r.length ∧ (r.drop (k' - k) = [] ∨ ∃ r', r.drop (k' - k) = 123 :: r') ∧ ∀ ps, runM (.tx f) r k ps = runM (.tx f') (r.drop (k' - k)) k' ps
  | [], f, k => ⟨fun e h => (by rw [scan] at h; cases h), fun f' k' h => by
      rw [scan] at h; cases h; exact ⟨Nat.le_refl _, Nat.le_refl _, .inl (by simp), fun ps => by simp⟩⟩
  | [c], f, k => by
    by_cases h1 : c = 123
    · refine ⟨fun e h => (by rw [scan, if_pos h1] at h; cases h), fun f' k' h => ?_⟩
      rw [scan, if_pos h1] at h; cases h
      exact ⟨Nat.le_refl _, by simp, .inr ⟨[], by simp [h1]⟩, fun ps => by simp⟩
    · by_cases h2 : c = 92
      · refine ⟨fun e h ps => ?_, fun f' k' h => ?_⟩
        · rw [scan, if_neg h1, if_pos h2] at h
          cases h
          rw [run_some (st' := .es f) (a := []) (by rw [stp, if_pos h2])]; rfl
        · rw [scan, if_neg h1, if_pos h2] at h; cases h
      · by_cases h3 : c ∈ TSP
        · have h4 : c = 125 := by simp at h3; omega
          refine ⟨fun e h ps => ?_, fun f' k' h => ?_⟩
          · rw [scan, if_neg h1, if_neg h2, if_pos h3] at h; cases h
            exact run_none (by rw [stp, if_neg h2, if_neg h1, if_pos h4])
          · rw [scan, if_neg h1, if_neg h2, if_pos h3] at h; cases h
        · have h4 : ¬ c = 125 := fun z => h3 (by simp [z])
          refine ⟨fun e h => ?_, fun f' k' h => ?_⟩
          · rw [scan, if_neg h1, if_neg h2, if_neg h3, scan] at h; cases h
          · rw [scan, if_neg h1, if_neg h2, if_neg h3, scan] at h; cases h
            refine ⟨by omega, by simp, .inl (by simp), fun ps => ?_⟩
            rw [run_some (st' := .tx (f ++ [c])) (a := []) (by rw [stp, if_neg h2, if_neg h1, if_neg h4])]
            simp
  | c :: d :: r, f, k => by
    by_cases h1 : c = 123
    · refine ⟨fun e h => (by rw [scan, if_pos h1] at h; cases h), fun f' k' h => ?_⟩
      rw [scan, if_pos h1] at h; cases h
      exact ⟨Nat.le_refl _, by simp, .inr ⟨d :: r, by simp [h1]⟩, fun ps => by simp⟩
    · by_cases h2 : c = 92
      · by_cases h5 : d ∈ TSP ++ [110, 116]
        · have ih := scan_text r (f ++ [unesc d]) (k + 2)
          have go : ∀ ps, runM (.tx f) (c :: d :: r) k ps = runM (.tx (f ++ [unesc d])) r (k + 2) ps := fun ps => by
            rw [run_some (st' := .es f) (a := []) (by rw [stp, if_pos h2]), run_some (st' := .tx (f ++ [unesc d])) (a := []) (by rw [stp, if_pos h5])]
            simp
          refine ⟨fun e h ps => ?_, fun f' k' h => ?_⟩
          · rw [scan, if_neg h1, if_pos h2] at h
            try simp only at h
            rw [if_pos h5] at h
            rw [go]; exact ih.1 e h ps
          · rw [scan, if_neg h1, if_pos h2] at h
            try simp only at h
            rw [if_pos h5] at h
            obtain ⟨a1, a2, a3, a4⟩ := ih.2 f' k' h
            have e : (c :: d :: r).drop (k' - k) = r.drop (k' - (k + 2)) := by rw [show k' - k = (k' - (k + 2)) + 2 by omega]; rfl
            refine ⟨by omega, by simp only [List.length_cons]; omega, by rw [e]; exact a3, fun ps => by rw [go, e]; exact a4 ps⟩
        · refine ⟨fun e h ps => ?_, fun f' k' h => ?_⟩
          · rw [scan, if_neg h1, if_pos h2] at h
            try simp only at h
            rw [if_neg h5] at h
            cases h
            rw [run_some (st' := .es f) (a := []) (by rw [stp, if_pos h2]), run_none (by rw [stp, if_neg h5])]
          · rw [scan, if_neg h1, if_pos h2] at h
            try simp only at h
            rw [if_neg h5] at h
            cases h
      · by_cases h3 : c ∈ TSP
        · have h4 : c = 125 := by simp at h3; omega
          refine ⟨fun e h ps => ?_, fun f' k' h => ?_⟩
          · rw [scan, if_neg h1, if_neg h2, if_pos h3] at h; cases h
            exact run_none (by rw [stp, if_neg h2, if_neg h1, if_pos h4])
          · rw [scan, if_neg h1, if_neg h2, if_pos h3] at h; cases h
        · have h4 : ¬ c = 125 := fun z => h3 (by simp [z])
          have ih := scan_text (d :: r) (f ++ [c]) (k + 1)
          have go : ∀ ps, runM (.tx f) (c :: d :: r) k ps = runM (.tx (f ++ [c])) (d :: r) (k + 1) ps := fun ps => by
            rw [run_some (st' := .tx (f ++ [c])) (a := []) (by rw [stp, if_neg h2, if_neg h1, if_neg h4])]
            simp
          refine ⟨fun e h ps => ?_, fun f' k' h => ?_⟩
          · rw [scan, if_neg h1, if_neg h2, if_neg h3] at h
            rw [go]; exact ih.1 e h ps
          · rw [scan, if_neg h1, if_neg h2, if_neg h3] at h
            obtain ⟨a1, a2, a3, a4⟩ := ih.2 f' k' h
            have e : (c :: d :: r).drop (k' - k) = (d :: r).drop (k' - (k + 1)) := by rw [show k' - k = (k' - (k + 1)) + 1 by omega]; rfl
            simp only [List.length_cons] at a2
            refine ⟨by omega, by simp only [List.length_cons]; omega, by rw [e]; exact a3, fun ps => by rw [go, e]; exact a4 ps⟩
theorem osp_cases {c : Nat} (h : c ∈ OSP) (h1 : ¬ c = 125) (h2 : ¬ c = 92) : c = 123 ∨ c = 124 := by simp at h; omega
theorem osp_not {c : Nat} (h : c ∉ OSP) : ¬ (c = 123 ∨ c = 124) := fun z => h (by rcases z with z | z <;> simp [z])
theorem scan_other (n : List Nat) : ∀ (r f : List Nat) (k : Nat), (∀ e, scan OSP 125 r f k = .inl e → ∀ ps, runM (.ot n f) r k ps = .inl e) ∧
    ∀ f' k', scan OSP 125 r f k = .inr (f', k') → k ≤ k' ∧ k' ≤ k + r.length ∧ (r.drop (k' - k) = [] ∨ ∃ r', r.drop (k' - k) = 125 :: r') ∧ ∀ ps, runM (.ot n f) r k ps = runM (.ot n f') (r.drop (k' - k)) k' ps
  | [], f, k => ⟨fun e h => (by rw [scan] at h; cases h), fun f' k' h => by
      rw [scan] at h; cases h; exact ⟨Nat.le_refl _, Nat.le_refl _, .inl (by simp), fun ps => by simp⟩⟩
  | [c], f, k => by
    by_cases h1 : c = 125
    · refine ⟨fun e h => (by rw [scan, if_pos h1] at h; cases h), fun f' k' h => ?_⟩
      rw [scan, if_pos h1] at h; cases h
      exact ⟨Nat.le_refl _, by simp, .inr ⟨[], by simp [h1]⟩, fun ps => by simp⟩
    · by_cases h2 : c = 92
      · refine ⟨fun e h ps => ?_, fun f' k' h => ?_⟩
        · rw [scan, if_neg h1, if_pos h2] at h
          cases h
          rw [run_some (st' := .ie n f) (a := []) (by rw [stp, if_neg h1, if_pos h2])]; rfl
        · rw [scan, if_neg h1, if_pos h2] at h; cases h
      · by_cases h3 : c ∈ OSP
        · refine ⟨fun e h ps => ?_, fun f' k' h => ?_⟩
          · rw [scan, if_neg h1, if_neg h2, if_pos h3] at h; cases h
            exact run_none (by rw [stp, if_neg h1, if_neg h2, if_pos (osp_cases h3 h1 h2)])
          · rw [scan, if_neg h1, if_neg h2, if_pos h3] at h; cases h
        · refine ⟨fun e h => ?_, fun f' k' h => ?_⟩
          · rw [scan, if_neg h1, if_neg h2, if_neg h3, scan] at h; cases h
          · rw [scan, if_neg h1, if_neg h2, if_neg h3, scan] at h; cases h
            refine ⟨by omega, by simp, .inl (by simp), fun ps => ?_⟩
            rw [run_some (st' := .ot n (f ++ [c])) (a := []) (by rw [stp, if_neg h1, if_neg h2, if_neg (osp_not h3)])]
            simp
  | c :: d :: r, f, k => by
    by_cases h1 : c = 125
    · refine ⟨fun e h => (by rw [scan, if_pos h1] at h; cases h), fun f' k' h => ?_⟩
      rw [scan, if_pos h1] at h; cases h
      exact ⟨Nat.le_refl _, by simp, .inr ⟨d :: r, by simp [h1]⟩, fun ps => by simp⟩
    · by_cases h2 : c = 92
      · by_cases h5 : d ∈ OSP ++ [110, 116]
        · have ih := scan_other n r (f ++ [unesc d]) (k + 2)
          have go : ∀ ps, runM (.ot n f) (c :: d :: r) k ps = runM (.ot n (f ++ [unesc d])) r (k + 2) ps := fun ps => by
            rw [run_some (st' := .ie n f) (a := []) (by rw [stp, if_neg h1, if_pos h2]), run_some (st' := .ot n (f ++ [unesc d])) (a := []) (by rw [stp, if_pos h5])]
            simp
          refine ⟨fun e h ps => ?_, fun f' k' h => ?_⟩
          · rw [scan, if_neg h1, if_pos h2] at h
            try simp only at h
            rw [if_pos h5] at h
            rw [go]; exact ih.1 e h ps
          · rw [scan, if_neg h1, if_pos h2] at h
            try simp only at h
            rw [if_pos h5] at h
            obtain ⟨a1, a2, a3, a4⟩ := ih.2 f' k' h
            have e : (c :: d :: r).drop (k' - k) = r.drop (k' - (k + 2)) := by rw [show k' - k = (k' - (k + 2)) + 2 by omega]; rfl
            refine ⟨by omega, by simp only [List.length_cons]; omega, by rw [e]; exact a3, fun ps => by rw [go, e]; exact a4 ps⟩
        · refine ⟨fun e h ps => ?_, fun f' k' h => ?_⟩
          · rw [scan, if_neg h1, if_pos h2] at h
            try simp only at h
            rw [if_neg h5] at h
            cases h
            rw [run_some (st' := .ie n f) (a := []) (by rw [stp, if_neg h1, if_pos h2]), run_none (by rw [stp, if_neg h5])]
          · rw [scan, if_neg h1, if_pos h2] at h
            try simp only at h
            rw [if_neg h5] at h
            cases h
      · by_cases h3 : c ∈ OSP
        · refine ⟨fun e h ps => ?_, fun f' k' h => ?_⟩
          · rw [scan, if_neg h1, if_neg h2, if_pos h3] at h; cases h
            exact run_none (by rw [stp, if_neg h1, if_neg h2, if_pos (osp_cases h3 h1 h2)])
          · rw [scan, if_neg h1, if_neg h2, if_pos h3] at h; cases h
        · have ih := scan_other n (d :: r) (f ++ [c]) (k + 1)
          have go : ∀ ps, runM (.ot n f) (c :: d :: r) k ps = runM (.ot n (f ++ [c])) (d :: r) (k + 1) ps := fun ps => by
            rw [run_some (st' := .ot n (f ++ [c])) (a := []) (by rw [stp, if_neg h1, if_neg h2, if_neg (osp_not h3)])]
            simp
          refine ⟨fun e h ps => ?_, fun f' k' h => ?_⟩
          · rw [scan, if_neg h1, if_neg h2, if_neg h3] at h
            rw [go]; exact ih.1 e h ps
          · rw [scan, if_neg h1, if_neg h2, if_neg h3] at h
            obtain ⟨a1, a2, a3, a4⟩ := ih.2 f' k' h
            have e : (c :: d :: r).drop (k' - k) = (d :: r).drop (k' - (k + 1)) := by rw [show k' - k = (k' - (k + 1)) + 1 by omega]; rfl
            simp only [List.length_cons] at a2
            refine ⟨by omega, by simp only [List.length_cons]; omega, by rw [e]; exact a3, fun ps => by rw [go, e]; exact a4 ps⟩
theorem scan_mono (sp : List Nat) (st : Nat) : ∀ (r f : List Nat) (k : Nat) (f' : List Nat) (k' : Nat), scan sp st r f k = .inr (f', k') → f.length ≤ f'.length
  | [], f, k, f', k', h => by rw [scan] at h; cases h; exact Nat.le_refl _
  | [c], f, k, f', k', h => by
    by_cases h1 : c = st
    · rw [scan_st h1] at h; cases h; exact Nat.le_refl _
    · by_cases h2 : c = 92
      · rw [scan_e0 h1 h2] at h; cases h
      · by_cases h3 : c ∈ sp
        · rw [scan_sp h1 h2 h3] at h; cases h
        · rw [scan_go h1 h2 h3, scan] at h; cases h; simp
  | c :: d :: r, f, k, f', k', h => by
    by_cases h1 : c = st
    · rw [scan_st h1] at h; cases h; exact Nat.le_refl _
    · by_cases h2 : c = 92
      · rw [scan_es h1 h2] at h
        split at h
        · have := scan_mono sp st r _ _ f' k' h
          rw [List.length_append] at this
          omega
        · cases h
      · by_cases h3 : c ∈ sp
        · rw [scan_sp h1 h2 h3] at h; cases h
        · rw [scan_go h1 h2 h3] at h
          have := scan_mono sp st (d :: r) _ _ f' k' h
          rw [List.length_append] at this
          omega
theorem scan_ne {sp : List Nat} {st : Nat} {r : List Nat} {k : Nat} {f' : List Nat} {k' : Nat} (h : scan sp st r [] k = .inr (f', k')) (hr : ∃ c r', r = c :: r' ∧ ¬ c = st) : f' ≠ [] := fun e => by
  obtain ⟨c, r', rfl, h1⟩ := hr
  subst e
  by_cases h2 : c = 92
  · cases r' with
    | nil => rw [scan_e0 h1 h2] at h; cases h
    | cons d r' =>
      rw [scan_es h1 h2] at h
      split at h
      · have := scan_mono sp st _ _ _ _ _ h
        simp at this
      · cases h
  · by_cases h3 : c ∈ sp
    · rw [scan_sp h1 h2 h3] at h; cases h
    · rw [scan_go h1 h2 h3] at h
      have := scan_mono sp st _ _ _ _ _ h
      simp at this
/-- what is found has no foreign signs -/
def PtS : Pt → Prop
  | .te s => ∀ c ∈ s, c ∈ SG
  | .wh => True
  | .gr n o => (∀ c ∈ n, c ∈ SG) ∧ ∀ c ∈ o, c ∈ SG
def MsS : Ms → Prop
  | .tx s => ∀ c ∈ s, c ∈ SG
  | .es s => ∀ c ∈ s, c ∈ SG
  | .nm n => ∀ c ∈ n, c ∈ SG
  | .ot n o => (∀ c ∈ n, c ∈ SG) ∧ ∀ c ∈ o, c ∈ SG
  | .ie n o => (∀ c ∈ n, c ∈ SG) ∧ ∀ c ∈ o, c ∈ SG
theorem sg_snoc {s : List Nat} {c : Nat} (h : ∀ x ∈ s, x ∈ SG) (hc : c ∈ SG) : ∀ x ∈ s ++ [c], x ∈ SG := fun x hx => by
  rcases List.mem_append.mp hx with hx | hx
  · exact h x hx
  · rw [List.mem_singleton.mp hx]; exact hc
theorem sg_unesc {c : Nat} (h : c ∈ SG) : unesc c ∈ SG := by
  unfold unesc
  split
  · decide
  · split
    · decide
    · exact h
theorem stp_ok {st st' : Ms} {c : Nat} {a : List Pt} (h : stp st c = some (st', a)) (hs : MsS st) (hc : c ∈ SG) : MsS st' ∧ (∀ p ∈ a, PtS p) ∧ a.length ≤ 1 := by
  cases st with
  | tx s =>
    rw [stp] at h
    split at h
    · cases h; exact ⟨hs, by simp, by simp⟩
    · split at h
      · cases h
        refine ⟨fun x hx => (by cases hx), ?_, ?_⟩
        · split
          · simp
          · intro p hp; rw [List.mem_singleton.mp hp]; exact hs
        · split <;> simp
      · split at h
        · cases h
        · cases h; exact ⟨sg_snoc hs hc, by simp, by simp⟩
  | es s =>
    rw [stp] at h
    split at h
    · cases h; exact ⟨sg_snoc hs (sg_unesc hc), by simp, by simp⟩
    · cases h
  | nm n =>
    rw [stp] at h
    split at h
    · cases h
      refine ⟨fun x hx => (by cases hx), ?_, by simp⟩
      intro p hp
      rw [List.mem_singleton.mp hp]
      split
      · trivial
      · exact ⟨hs, fun x hx => (by cases hx)⟩
    · split at h
      · cases h; exact ⟨⟨hs, fun x hx => (by cases hx)⟩, by simp, by simp⟩
      · split at h
        · cases h; exact ⟨sg_snoc hs hc, by simp, by simp⟩
        · cases h
  | ot n o =>
    rw [stp] at h
    split at h
    · cases h
      refine ⟨fun x hx => (by cases hx), ?_, by simp⟩
      intro p hp; rw [List.mem_singleton.mp hp]; exact hs
    · split at h
      · cases h; exact ⟨hs, by simp, by simp⟩
      · split at h
        · cases h
        · cases h; exact ⟨⟨hs.1, sg_snoc hs.2 hc⟩, by simp, by simp⟩
  | ie n o =>
    rw [stp] at h
    split at h
    · cases h; exact ⟨⟨hs.1, sg_snoc hs.2 (sg_unesc hc)⟩, by simp, by simp⟩
    · cases h
theorem run_ok : ∀ {r : List Nat} {st : Ms} {i : Nat} {ps qs : List Pt}, runM st r i ps = .inr qs → MsS st → (∀ c ∈ r, c ∈ SG) → (∀ p ∈ ps, PtS p) → (∀ p ∈ qs, PtS p) ∧ qs.length ≤ ps.length + r.length + 1
  | [], st, i, ps, qs, h, hs, hr, hp => by
    rw [runM] at h
    cases st <;> rw [endM] at h <;> cases h
    rename_i s
    refine ⟨fun p hm => ?_, ?_⟩
    · rcases List.mem_append.mp hm with hm | hm
      · exact hp p hm
      · unfold flu at hm
        split at hm
        · cases hm
        · rw [List.mem_singleton.mp hm]; exact hs
    · rw [List.length_append]
      unfold flu
      split <;> simp
  | c :: r, st, i, ps, qs, h, hs, hr, hp => by
    cases hst : stp st c with
    | none => rw [run_none hst] at h; cases h
    | some x =>
      obtain ⟨st', a⟩ := x
      rw [run_some hst] at h
      obtain ⟨h1, h2, h3⟩ := stp_ok hst hs (hr c (List.mem_cons_self ..))
      obtain ⟨g1, g2⟩ := run_ok h h1 (fun x hx => hr x (List.mem_cons_of_mem _ hx)) (fun p hm => by
        rcases List.mem_append.mp hm with hm | hm
        · exact hp p hm
        · exact h2 p hm)
      refine ⟨g1, ?_⟩
      rw [List.length_append] at g2
      rw [List.length_cons]
      omega
end My
namespace My
open PySem L2
/-! ### statements that may raise, and what is known at a return -/
inductive Oux where
  | nx (e : Evn)
  | bk (e : Evn)
  | ct (e : Evn)
  | rt (e : Evn) (x : Vl)
  | rn (e : Evn) (l : List Da)
/-- what is wished of errors of the class at C, with one field -/
def Wsh (K : PySem.W.Frag) (H0 : Hp) (dl : Dl) (C : Addr) (f : Str) (F : Da → Prop) (E : XK) : Prop := ∀ (d : Da) (v : V) (c : Addr) (H' : Hp), F d → Mv dl H0 H' → DlAt dl H' → DaAt K H' d v → H' c = some (.xd [(f, v)]) → E (.ref C) (some c) H'
def Sx (K : PySem.W.Frag) (C : Addr) (f : Str) (F : Da → Prop) (E : XK) (env : Evn) (t : TS) (O : Oux → Prop) : Prop := ∀ (H0 : Hp) (dl : Dl) (hs : Hs) (σ : St) (H : Hp) (D : Ends), EnvAt K H0 dl hs H σ env →
  (∀ e σ' H', O (.nx e) → Tk K H H' → EnvAt K H0 dl hs H' σ' e → D.nx σ' H') → (∀ e σ' H', O (.bk e) → Tk K H H' → EnvAt K H0 dl hs H' σ' e → D.bk σ' H') → (∀ e σ' H', O (.ct e) → Tk K H H' → EnvAt K H0 dl hs H' σ' e → D.ct σ' H') →
  (∀ e σ' x v H', O (.rt e x) → EnvAt K H0 dl hs H' σ' e → VlAt K dl H' x v → D.rt v H') →
  (∀ e σ' l a vs H', O (.rn e l) → EnvAt K H0 dl hs H' σ' e → H0 a = none → (∀ (i : Nat) (b : Addr) (l' : List Da), e[i]? = some (some (.own b l')) → a ≠ b) → H' a = some (.lst vs) → DasAt K H' l vs → D.rt (.ref a) H') →
  Wsh K H0 dl C f F E → t D σ H
def liO (O : Oux → Prop) : Out → Prop
  | .nx e => O (.nx e)
  | .bk e => O (.bk e)
  | .ct e => O (.ct e)
  | .rt _ => False
  | .rn _ => False
theorem li_nx {O : Oux → Prop} {e : Evn} (h : O (.nx e)) : liO O (.nx e) := h
theorem li_bk {O : Oux → Prop} {e : Evn} (h : O (.bk e)) : liO O (.bk e) := h
theorem li_ct {O : Oux → Prop} {e : Evn} (h : O (.ct e)) : liO O (.ct e) := h
section
variable {K : PySem.W.Frag} {C : Addr} {f : Str} {F : Da → Prop} {E : XK} {env : Evn} {O : Oux → Prop}
/-- a statement that neither raises nor returns -/
theorem sx_of {t : TS} (h : Sv K env t (liO O)) : Sx K C f F E env t O := fun H0 dl hs σ H D E' a b c d r w =>
  h H0 dl hs σ H D E' (fun e s H' o => a e s H' o) (fun e s H' o => b e s H' o) (fun e s H' o => c e s H' o) (fun _ _ _ o => o.elim) (fun _ _ _ _ o => o.elim)
theorem sx_ofA {te : TE} {g : TG} (h : Sv K env (tAsg te g) (liO O)) : Sx K C f F E env (tAsg te g) O := sx_of h
theorem sx_ofD {te : TE} (h : Sv K env (tDrop te) (liO O)) : Sx K C f F E env (tDrop te) O := sx_of h
theorem sx_ofN (h : Sv K env tNext (liO O)) : Sx K C f F E env tNext O := sx_of h
def sqX (K : PySem.W.Frag) (C : Addr) (f : Str) (F : Da → Prop) (E : XK) (u : TS) (O : Oux → Prop) : Oux → Prop
  | .nx e => Sx K C f F E e u O
  | .bk e => O (.bk e)
  | .ct e => O (.ct e)
  | .rt e x => O (.rt e x)
  | .rn e l => O (.rn e l)
theorem q_nx {u : TS} {e : Evn} (h : Sx K C f F E e u O) : sqX K C f F E u O (.nx e) := h
theorem q_bk {u : TS} {e : Evn} (h : O (.bk e)) : sqX K C f F E u O (.bk e) := h
theorem q_ct {u : TS} {e : Evn} (h : O (.ct e)) : sqX K C f F E u O (.ct e) := h
theorem q_rt {u : TS} {e : Evn} {x : Vl} (h : O (.rt e x)) : sqX K C f F E u O (.rt e x) := h
theorem q_rn {u : TS} {e : Evn} {l : List Da} (h : O (.rn e l)) : sqX K C f F E u O (.rn e l) := h
theorem sx_seq {t u : TS} (h : Sx K C f F E env t (sqX K C f F E u O)) : Sx K C f F E env (tSeq t u) O := fun H0 dl hs σ H D E' a b c d r w =>
  h H0 dl hs σ H _ E' (fun e1 σ' H' (s : Sx K C f F E e1 u O) tk E1 => s H0 dl hs σ' H' D E1 (fun x y z s t2 => a x y z s (tk.trans t2)) (fun x y z s t2 => b x y z s (tk.trans t2)) (fun x y z s t2 => c x y z s (tk.trans t2)) d r w) (fun x y z s => b x y z s) (fun x y z s => c x y z s) (fun e s x v H' o => d e s x v H' o) (fun e s l a v H' o => r e s l a v H' o) w
theorem sx_cut {t u : TS} (h : Sx K C f F E env t (sqX K C f F E u O)) : Sx K C f F E env (tCut t u) O := fun H0 dl hs σ H D E' a b c d r w => by
  refine ⟨fun σ' H' => ∃ e1, Sx K C f F E e1 u O ∧ Tk K H H' ∧ EnvAt K H0 dl hs H' σ' e1, ?_, fun σ' H' ⟨e1, s, tk, E1⟩ => s H0 dl hs σ' H' D E1 (fun x y z s t2 => a x y z s (tk.trans t2)) (fun x y z s t2 => b x y z s (tk.trans t2)) (fun x y z s t2 => c x y z s (tk.trans t2)) d r w⟩
  exact h H0 dl hs σ H _ E' (fun e1 σ' H' (s : Sx K C f F E e1 u O) tk E1 => ⟨e1, s, tk, E1⟩) (fun x y z s => b x y z s) (fun x y z s => c x y z s) (fun e s x v H' o => d e s x v H' o) (fun e s l a v H' o => r e s l a v H' o) w
theorem sx_if {t : TT} {u u' : TS} (h : Tv K env t fun x => KIf x (Sx K C f F E env u O) (Sx K C f F E env u' O)) : Sx K C f F E env (tIfS t u u') O := fun H0 dl hs σ H D E' a b c d r w =>
  h H0 dl hs σ H _ E' fun x H1 hx m q => by
    obtain ⟨hx⟩ := hx
    cases x
    · exact hx H0 dl hs σ H1 D (E'.go m q) (fun x y z s t2 => a x y z s ((m.tk E'.dlat).trans t2)) (fun x y z s t2 => b x y z s ((m.tk E'.dlat).trans t2)) (fun x y z s t2 => c x y z s ((m.tk E'.dlat).trans t2)) d r w
    · exact hx H0 dl hs σ H1 D (E'.go m q) (fun x y z s t2 => a x y z s ((m.tk E'.dlat).trans t2)) (fun x y z s t2 => b x y z s ((m.tk E'.dlat).trans t2)) (fun x y z s t2 => c x y z s ((m.tk E'.dlat).trans t2)) d r w
theorem sx_ret {te : TE} (h : Ev K env te fun x => O (.rt env x)) : Sx K C f F E env (tRet te) O := fun H0 dl hs σ H D E' a b c d r w =>
  h H0 dl hs σ H _ E' fun x v H1 hx m q hv => d env σ x v H1 hx (E'.go m q) hv
theorem sx_retN {te : TE} (h : Eln K env te fun l => O (.rn env l)) : Sx K C f F E env (tRet te) O := fun H0 dl hs σ H D E' a b c d r w =>
  h H0 dl hs σ H _ E' fun l p vs H1 hx m q n hp hv => r env σ l p vs H1 hx (E'.go m q) (E'.mv.fresh E'.dlat n) (fun i b l' hi z => by
    obtain ⟨v, e1, _, ws, h1, _⟩ := E'.slot i _ hi
    rw [z, h1] at n
    cases n) hp hv
theorem sx_retNone (h : O (.rt env (.da .non))) : Sx K C f F E env tRetN O := fun H0 dl hs σ H D E' a b c d r w => d env σ _ _ H h E' .non
def whX (m : Nat) (I : Nat → Evn → Prop) (O : Oux → Prop) : Oux → Prop
  | .nx e => ∃ j, j < m ∧ ∃ e2, Wk e e2 ∧ I j e2
  | .ct e => ∃ j, j < m ∧ ∃ e2, Wk e e2 ∧ I j e2
  | .bk e => O (.nx e)
  | .rt e x => O (.rt e x)
  | .rn e l => O (.rn e l)
theorem wx_nx {m : Nat} {I : Nat → Evn → Prop} {e : Evn} (j : Nat) (h : j < m) (e2 : Evn) (w : Wk e e2) (i : I j e2) : whX m I O (.nx e) := ⟨j, h, e2, w, i⟩
theorem wx_rt {m : Nat} {I : Nat → Evn → Prop} {e : Evn} {x : Vl} (h : O (.rt e x)) : whX m I O (.rt e x) := h
theorem sx_while {c : TT} {tb : TS} (I : Nat → Evn → Prop) (h0 : ∃ m e, Wk env e ∧ I m e) (hI : ∀ m e, I m e → Tv K e c fun b => KIf b (Sx K C f F E e tb (whX m I O)) (O (.nx e))) : Sx K C f F E env (tWhile c tb) O := fun H0 dl hs σ H D E' a b c' d r w' => by
  obtain ⟨m, e0, w, i0⟩ := h0
  refine ⟨fun j σ' H' => ∃ e1, I j e1 ∧ Tk K H H' ∧ EnvAt K H0 dl hs H' σ' e1, ⟨m, e0, i0, .refl _ _, E'.weak w.len w.le⟩, ?_⟩
  rintro j σ1 H1 ⟨e1, i1, tk, E1⟩
  refine hI j e1 i1 H0 dl hs σ1 H1 _ E1 fun x H2 hx mv q => ?_
  obtain ⟨hx⟩ := hx
  have tk2 := tk.trans (mv.tk E1.dlat)
  cases x
  · exact a e1 σ1 H2 hx tk2 (E1.go mv q)
  · refine ⟨fun σ' H' => ∃ j', j' < j ∧ ∃ e2, I j' e2 ∧ Tk K H H' ∧ EnvAt K H0 dl hs H' σ' e2, fun σ' H' ⟨j', l, e2, z⟩ => ⟨j', l, e2, z⟩, ?_⟩
    exact hx H0 dl hs σ1 H2 _ (E1.go mv q) (fun x σ' H' ⟨j', l, e2, w, i⟩ t2 E2 => ⟨j', l, e2, i, tk2.trans t2, E2.weak w.len w.le⟩) (fun x σ' H' s t2 E2 => a _ _ _ s (tk2.trans t2) E2) (fun x σ' H' ⟨j', l, e2, w, i⟩ t2 E2 => ⟨j', l, e2, i, tk2.trans t2, E2.weak w.len w.le⟩) (fun e s x v H' o => d e s x v H' o) (fun e s l a v H' o => r e s l a v H' o) w'
/-! ### calls of defs that may raise -/
def sp_px (K : PySem.W.Frag) (C : Addr) (f : Str) (pre : List Vl → (Vl → Prop) → (Da → Prop) → Prop) : Sp := fun vs H Q E => ∃ xs R F, VlsAt K none H xs vs ∧ pre xs R F ∧ (∀ x v H', R x → Same H H' → VlAt K none H' x v → Q v H') ∧
  ∀ (d : Da) (v : V) (c : Addr) (H' : Hp), F d → Same H H' → DaAt K H' d v → H' c = some (.xd [(f, v)]) → E (.ref C) (some c) H'
theorem ev_px {pre : List Vl → (Vl → Prop) → (Da → Prop) → Prop} {t : TA} {S : Vl → Prop} (h : Es K env t fun xs => pre xs (fun x => isDa x ∧ S x) F) {H0 : Hp} {dl : Dl} {hs : Hs} {σ : St} {H : Hp} {Q : VK} (E' : EnvAt K H0 dl hs H σ env) (w : Wsh K H0 dl C f F E)
    (k : ∀ x v H', S x → Mv dl H H' → DlAt dl H' → VlAt K dl H' x v → Q v H') : tCallS (sp_px K C f pre) (WE fun cls d _ H => E cls d H) t σ H Q :=
  h H0 dl hs σ H _ E' fun xs vs H1 hx m q r => ⟨xs, _, _, r.bare, hx, fun x v H2 ⟨hd, s2⟩ s hv => by
    cases x with
    | da d => exact k _ v H2 s2 (m.trans (.same s)) (q.same s) hv
    | ls l => exact hd.elim, fun d v c H2 hf s hv hc => w d v c H2 hf (E'.mv.trans (m.trans (.same s))) (q.same s) hv hc⟩
theorem sx_setX {pre : List Vl → (Vl → Prop) → (Da → Prop) → Prop} {t : TA} {i : Nat} (h : Es K env t fun xs => pre xs (fun x => isDa x ∧ KD x fun d => O (.nx (env.set i (some (.vl d))))) F) :
    Sx K C f F E env (tAsg (tCallS (sp_px K C f pre) (WE fun cls d _ H => E cls d H) t) (gName i)) O := fun H0 dl hs σ H D E' a b c d r w =>
  ev_px h E' w fun x v H1 hx m q hv => by
    obtain ⟨y, rfl, s⟩ := hx
    exact a _ _ H1 s (m.tk E'.dlat) ((E'.go m q).set hv)
theorem sx_set2X {pre : List Vl → (Vl → Prop) → (Da → Prop) → Prop} {t : TA} {i j : Nat} (h : Es K env t fun xs => pre xs (fun x => isDa x ∧ KD2 x fun y z => O (.nx ((env.set i (some (.vl y))).set j (some (.vl z))))) F) :
    Sx K C f F E env (tAsg (tCallS (sp_px K C f pre) (WE fun cls d _ H => E cls d H) t) (gTup K 2 (gCons (gName i) (gCons (gName j) gNil)))) O := fun H0 dl hs σ H D E' a b c d r w =>
  ev_px h E' w fun x v H1 hx m q hv => by
    obtain ⟨y, z, rfl, s⟩ := hx
    exact (gv_tup2 (P := fun e => O (.nx e)) s) H0 dl hs σ H1 _ v (E'.go m q) hv fun e1 σ' o E1 _ => a _ _ H1 o (m.tk E'.dlat) E1
theorem sx_dropX {pre : List Vl → (Vl → Prop) → (Da → Prop) → Prop} {t : TA} (h : Es K env t fun xs => pre xs (fun x => isDa x ∧ O (.nx env)) F) :
    Sx K C f F E env (tDrop (tCallS (sp_px K C f pre) (WE fun cls d _ H => E cls d H) t)) O := fun H0 dl hs σ H D E' a b c d r w =>
  ev_px h E' w fun x v H1 hx m q hv => a _ _ H1 hx (m.tk E'.dlat) (E'.go m q)
/-- the promise of an __init__ that keeps its one argument -/
def sp_init (C : Addr) (f : Str) : Sp := fun vs H Q _ => ∃ (a : Addr) (v : V), vs = [.ref a, v] ∧ H a = some (exo a C none) ∧ ∀ dx, H dx = none → dx ≠ a → Q .non (upd (upd H dx (exd dx [(f, v)])) a (exo a C (some dx)))
theorem sx_raise {t : TA} (h : Es K env t fun xs => ∃ d, xs = [.da d] ∧ F d) : Sx K C f F E env (fun _ σ H => tMkO C (sp_init C f) [] t σ H fun cls d H' => E cls d H') O := fun H0 dl hs σ H D E' a b c d r w =>
  h H0 dl hs σ H _ E' fun xs vs H1 hx m q hv => by
    obtain ⟨y, rfl, hF⟩ := hx
    obtain ⟨v, rfl, hv2⟩ := vls_one hv
    refine ⟨by simp, fun a' na => ⟨a', v, rfl, upd_same, fun dx nd hd => ⟨rfl, dx, [(f, v)], upd_same, ?_, ?_, ?_⟩⟩⟩
    · rw [upd_ne hd]; exact upd_same
    · rw [upd_ne hd] at nd; exact nd
    · have nd1 : H1 dx = none := by rw [upd_ne hd] at nd; exact nd
      have sm : Same H1 (upd (del (upd (upd (upd H1 a' (exo a' C none)) dx (exd dx [(f, v)])) a' (exo a' C (some dx))) a') dx (.xd [(f, v)])) := fun b o e => by
        have n1 : b ≠ a' := ne_of_none e na
        have n2 : b ≠ dx := ne_of_none e nd1
        rw [upd_ne n2, del_ne n1, upd_ne n1, upd_ne n2, upd_ne n1]
        exact e
      exact w y v dx _ hF (E'.mv.trans (m.trans (.same sm))) (q.same sm) (DaAt.keep (.same sm) hv2) upd_same
def retX (R : Vl → Prop) : Oux → Prop
  | .rt _ x => R x
  | .nx _ => R (.da .non)
  | _ => False
theorem fin_px {pre : List Vl → (Vl → Prop) → (Da → Prop) → Prop} {N : List Str} {t : TS} {vs : List V} {H : Hp} {Q : VK} (h : ∀ xs R F, pre xs R F → ∀ e, Ent xs e → Sx K C f F E (e ++ List.replicate (N.length - xs.length) none) t (retX R)) (hs : sp_px K C f pre vs H Q E) :
    t { nx := fun _ H' => Q .non H', rt := Q } (L2.start N vs) H := by
  obtain ⟨xs, R, F, hx, hp, q, w⟩ := hs
  obtain ⟨e, hs, he, E'⟩ := start_at (N := N) hx
  exact h xs R F hp e he H none hs _ H _ E' (fun e σ' H' o _ E' => q _ _ H' o E'.mv.toSame .non) (fun _ _ _ o => o.elim) (fun _ _ _ o => o.elim) (fun e σ' x v H' o E2 hv => q x v H' o E2.mv.toSame hv) (fun _ _ _ _ _ _ o => o.elim) (fun d v c H' hf m _ hv hc => w d v c H' hf m.toSame hv hc)
theorem rx_rt {R : Vl → Prop} {e : Evn} {x : Vl} (h : R x) : retX R (.rt e x) := h
end
/-! ### isinstance of an error in hand -/
structure XiC (K : PySem.W.Frag) (D : Addr) : Prop where
  hc : PySem.W.isClsIn K D = true
  hg : PySem.W.findIn K (.ref D) "__getattribute__" = some (some (.builtin "BaseException.__getattribute__"))
  hk : PySem.W.findIn K (.ref D) "__getattr__" = some none
  hs : PySem.W.subIn K (.ref D) (.type "BaseException") = some true
  ha : PySem.W.findIn K (.ref D) "__class__" = some (some (.builtin "object.__class__"))
  hn : PySem.W.specialIn K (.builtin "object.__class__") "__get__" = some (some (.builtin "getset_descriptor.__get__"))
  ht : PySem.W.takesIn K (.builtin "object.__class__") = some true
  hm : PySem.W.mroIn K D (.type "object") = some true
def rIsX (K : PySem.W.Frag) (D a : Addr) (cls : Value) (d : Option Addr) : List V → Hp → VK → Prop := fun xs H Q => ∃ (c : V) (b : Bool) (dd : Addr) (fs : List (Str × V)), xs = [.ref a, c] ∧ cls = .ref D ∧ d = some dd ∧ H dd = some (.xd fs) ∧
  ((∃ cv, ClsV c cv ∧ PySem.W.kitOne K (.ref D) cv = some b) ∨ ∃ (tp : Addr) (cs : List V) (us : List Value), c = .ref tp ∧ H tp = some (.tup cs) ∧ Paired ClsV cs us ∧ PySem.W.kitAny K (.ref D) us = some b) ∧ Q (.bl b) H
open PyProof.Rows PySem.Spec in
theorem call_isX {X : Cx} {a D : Addr} {oe : Obj} {cls : Value} {d : Option Addr} {pn : List (Addr × Obj)} (C : XiC X.K D) (hz : Zc cls d oe) (hf : ∃ vs, oe.data = .fields vs) : CallR (X.suite a ((a, oe) :: pn)) (.builtin "isinstance") (rIsX X.K D a cls d) := by
  intro pins s σ H xs us Q I r h
  obtain ⟨c, b, dd, fs, rfl, rfl, rfl, hd, hk, q⟩ := h
  obtain ⟨u1, u2, rfl, r1, r2⟩ := vals2 r
  obtain rfl : u1 = Value.ref a := r1
  obtain ⟨hget, _⟩ := I.pin (a, oe) (List.mem_append_left _ List.mem_cons_self)
  obtain ⟨vs, hv⟩ := hf
  obtain ⟨mA, hns, _⟩ := (show ObjOk X.prog X.w H s.heap dd (.xd fs) from I.hok dd _ hd)
  obtain ⟨od, ho, _⟩ := lookIn_ns hns
  have J : PySem.W.InstAt s.heap a oe D (some od) := ⟨hget, hz.1, by unfold PySem.W.notCls; rw [hv] <;> rfl, by rw [hz.2]; exact ho⟩
  have Z := PySem.W.kitx_exc (x := a) (ox := oe) (od := some od) C.hc C.hg C.hk C.hs C.ha C.hn C.ht C.hm
  rcases hk with ⟨cv, hcv, e⟩ | ⟨tp, cs, ws, rfl, hT, k, e⟩
  · have e2 := hcv.eq r2
    subst e2
    exact PySem.W.kia_one Z I.kIn J e (fun z => nomatch z) fun tk => ⟨.bl b, H, I.tok tk, rfl, q⟩
  · obtain rfl : u2 = Value.ref tp := r2
    obtain ⟨_, its, rv, o, h1, h2, n, h3⟩ := (show ObjOk X.prog X.w H s.heap tp (.tup cs) from I.hok tp _ hT)
    have e3 := ClsV.all k rv
    subst e3
    obtain ⟨oc, od, dt, sl⟩ := o
    simp only at h2 h3
    subst h2 h3
    exact PySem.W.kia_tup Z I.kIn J h1 e (fun z => nomatch z) fun tk => ⟨.bl b, H, I.tok tk, rfl, q⟩
/-! ### text.find(sign, index) -/
def fndFrom (a b : Str) (i : Int) : Int := match PySem.Builtin.Str.occurrences a b (PySem.fromIndex a.length i) a.length 1 with | k :: _ => (k : Int) | [] => -1
def rFind2 : V → List V → Hp → VK → Prop := fun x xs H Q => ∃ a b i, x = .str a ∧ xs = [.str b, .int i] ∧ Q (.int (fndFrom a b i)) H
theorem mt_find2 {X : Cx} : MtR X "str.find" rFind2 := by
  intro pins s σ H x xs v us Q I rx rs h
  obtain ⟨a, b, i, rfl, rfl, q⟩ := h
  obtain ⟨t, rfl⟩ := rx
  cases rs with
  | cons r1 rs =>
    cases rs with
    | cons r2 rs =>
      cases rs
      obtain ⟨u, rfl⟩ := r1
      obtain ⟨z, rfl⟩ := r2
      exact PySem.call_gives PySem.F.slot_str_find (PySem.typeIs_str _ _ _) PySem.F.entry_str_find (PySem.F.args_str_find_3 _ _ _) (PySem.gives_str_find_from a b i t u z) ⟨.int (fndFrom a b i), H, I.tok _, ⟨_, rfl⟩, q⟩
/-! ### the second layer of errors: their context is known -/
theorem takes0N {X : Cx} : L2N.Takes X (fun _ _ _ _ => False) := fun _ _ x => by
  obtain ⟨_, _, _, _, _, _, _, _, _, _, _, _, _, _, _, _, z⟩ := x
  exact z.elim
theorem okN {P : Program} {w : World} {K : PySem.W.Frag} {mg : Str → Option Value} {base : Heap} {x q : Str} {st : Stmt} {f : Addr} {fd : FuncData} {N ps : List Str} {k : Nat} {sp : Sp} (F : Fun K x q st f fd) (S : FnScope N ps (defScope st)) (hl : ∀ vs H Q E, sp vs H Q E → vs.length = ps.length)
    (hB : ∀ (c : Value) (A : Around) (out : List Env) (s : Shared) (H : Hp) (vs : List V) (Q : VK) (E : XK), Room k (A.deeper (PyProof.Rows.envOfC q (defScope st) s.heap.objs.size f c)) → sp vs H Q E → ∃ t, PSs (cxOf (L2N.CX P w) P w K mg base N q (defScope st) f c A out s H E) (defBody st) t ∧ t { nx := fun _ H' => Q .non H', rt := Q } (L2.start N vs) H) :
    FnOk P w K mg base (L2N.CX P w) (k + 1) f fd ps sp := by
  obtain ⟨_, _, _, _, _, _, c, _, _, e, lk, hc⟩ := F.ex
  subst e
  exact fn_of lk hc S hl fun A out s H vs Q E r h => hB c A out s H vs Q E r h
theorem okH {P : Program} {w : World} {K : PySem.W.Frag} {mg : Str → Option Value} {base : Heap} {x q : Str} {st : Stmt} {f : Addr} {fd : FuncData} {N ps : List Str} {k : Nat} {sp : Sp} (F : Fun K x q st f fd) (S : FnScope N ps (defScope st)) (hl : ∀ vs H Q E, sp vs H Q E → vs.length = ps.length)
    (hB : ∀ (c : Value) (A : Around) (out : List Env) (s : Shared) (H : Hp) (vs : List V) (Q : VK) (E : XK) (p : Addr × Obj), L2H.Hot1 A p → sp vs H Q E → ∃ t, PSs (L2H.cxH CX0 P w K mg base N q (defScope st) f c A out s H E p) (defBody st) t ∧ t { nx := fun _ H' => Q .non H', rt := Q } (L2.start N vs) H) :
    L2H.FnH P w K mg base CX0 (k + 1) f fd ps sp := by
  obtain ⟨_, _, _, _, _, _, c, _, _, e, lk, hc⟩ := F.ex
  subst e
  exact L2H.fn_ofH lk hc S hl fun A out s H vs Q E p hot _ h => hB c A out s H vs Q E p hot h
theorem passH {X : Cx} {σ : L2.St} {E : XK} : PassesAt CX0 X σ E := fun _ _ _ _ _ _ h => h.elim
theorem hot_of {X : Cx} {a : Addr} {oe : Obj} {cls : Value} {d : Option Addr} {pn : List (Addr × Obj)} (hz : L2N.Zn cls d oe) (hf : ∃ vs, oe.data = .fields vs) : L2H.HotC (X.suite a ((a, oe) :: pn)) := by
  obtain ⟨vs, hd⟩ := hf
  exact ⟨(a, oe), ⟨rfl, vs, hd, hz.2.2 vs hd⟩, List.mem_cons_self⟩
open PyProof.Rows PySem.Spec in
/-- C(v), its own __init__ a def -/
theorem pmkN {X : Cx} {CX : CXT} {x : Str} {e : Expr} {ta : TA} {p pos : Pos} {C fI : Addr} {k : Nat} {fd : FuncData} {ps : List Str} {sp : Sp} (T : OexC X.K C) (iC : PySem.W.findIn X.K (.ref C) "__init__" = some (some (.ref fI))) (tI : PySem.W.typeIn X.K (.ref fI) = some (.type "function"))
    (F : FnOk X.prog X.w X.K X.mg X.base CX k fI fd ps sp) (hr : Room (k + 1) X.A) (hb : Binds X.K fd ps []) (hx : Passes CX X (fun _ _ _ => False)) (hg : Gl X x) (hm : X.mg x = some (.ref C)) (ha : PA X [e] ta)
    (hdb : (x == ("__debug__" : Str)) = false := by decide) (he : starEach [e] X.env = (false, eval e X.env) :: starEach [] X.env := by rfl) (hpl : (backTo pos (starEach [] X.env)).any (·.1) = false := by rfl) :
    L2N.PMk X (.Call (.Name x p) [e] [] pos) (tMkO C sp [] ta) := by
  intro pins s σ H Q I h
  obtain ⟨_, _, _, _, bmro, _, _, _, _, _, _, _, _, _, _, lC, hbm⟩ := T.cls
  refine wpAny_Call_Name_kw (ld_glob I hg hm ?_ hdb)
  refine PySem.W.callWith_K (h₀ := X.base) I.ok.mod.kin T.kC (thn (ha.run pos pins s σ H _ I h) fun us s1 hh => ?_) he hpl
  obtain ⟨vs, H1, J, rv, hz, q1⟩ := hh
  refine ⟨J.kIn, ?_⟩
  show wpAny _ _ (call (.ref C) us) _ _ _
  obtain ⟨h0, gs, dw, tok, oss⟩ := s1
  have le : h0.objs.size ≤ h0.objs.size + 1 := Nat.le_succ _
  have nw : H1 (h0.objs.size + 1) = none := J.hok.fresh le
  have hq := q1 (h0.objs.size + 1) nw
  have st : ∀ b o, h0.get? b = some o → ((h0.push (PySem.W.kdv_tup us)).push (PySem.HandSPX.excO C h0.objs.size)).get? b = some o := fun b o z => Heap.get?_push_of_some _ (Heap.get?_push_of_some _ z)
  have at1 : ((h0.push (PySem.W.kdv_tup us)).push (PySem.HandSPX.excO C h0.objs.size)).get? (h0.objs.size + 1) = some (PySem.HandSPX.excO C h0.objs.size) := by heap_get
  have J2 : Inv X pins σ (upd H1 (h0.objs.size + 1) (exo (h0.objs.size + 1) C none)) ⟨(h0.push (PySem.W.kdv_tup us)).push (PySem.HandSPX.excO C h0.objs.size), gs, dw, tok, oss⟩ :=
    J.laid (t' := tok) (a := h0.objs.size + 1) (o := exo (h0.objs.size + 1) C none) (h' := (h0.push (PySem.W.kdv_tup us)).push (PySem.HandSPX.excO C h0.objs.size)) st le (exo_ok at1)
  rw [List.append_nil] at hq
  have rv2 : Vals (V.ref (h0.objs.size + 1) :: vs) (Value.ref (h0.objs.size + 1) :: us) := .cons rfl rv
  have ln : (Value.ref (h0.objs.size + 1) :: us ++ []).length = ps.length := by
    have z := rv2.length
    rw [F.len _ _ _ _ hq] at z
    rw [List.append_nil]
    exact z.symm
  have lu : us.length ≤ sizeLine := by
    rw [← Paired.length rv, sizeLine_eq]
    omega
  have bd := hb _ (Value.ref (h0.objs.size + 1) :: us) J2.kIn ln
  rw [List.append_nil] at bd
  have run1 := F.run _ X.stack _ _ ⟨Value.ref (h0.objs.size + 1) :: us, []⟩ (Value.ref (h0.objs.size + 1) :: us) _ _ (fun _ _ _ => False) (hr.make C us []) (J2.env0.make C us []) bd rv2 hq
  refine wpAny_call (PySem.HandSPX.call_own PySem.F.excBase_ValueError (fun Y => PySem.HandSPX.refsVE_contains Y bmro hbm) (J.kIn _ _ lC) (PySem.W.looks_findIn J.kIn iC) (fun self => PySem.W.bind_fn J.kIn self tI) lu (codeAny_mono run1 fun r s' hq' => ?_))
  cases r with
  | error er => exact hx pins σ _ _ er s' J2 hq'
  | ok fl =>
    cases fl with
    | next => exact hq'.elim
    | brk => exact hq'.elim
    | cont => exact hq'.elim
    | ret u =>
      obtain ⟨v, H2, os2, br, un, hk, rv3, ev, d, fs, ea, ed, hd1, q2⟩ := hq'
      subst ev
      obtain ⟨h2, g2, d2, t2, os'⟩ := s'
      obtain ⟨t0, G, L, kG, ge, hoe, na⟩ := mk_end0 (d2 := d2) (t2 := t2) J le st un hk os2 br ea ed hd1
      exact ⟨rv3, h0.objs.size + 1, _, _, ⟨G, g2, d2, t2, os'⟩, _, .ref C, some d, rfl, L, kG, ge, hoe, ⟨rfl, rfl, fun vs hv => by cases hv; rfl⟩, rfl, rfl, na, rfl, br, raises_own T.exC T.tyC, q2⟩
end My
namespace My
open PySem L2
section
variable {K : PySem.W.Frag} {env : Evn} {S : Vl → Prop}
theorem ev_q0 (h : S (.da (.str (tx [97, 98, 99, 100, 101, 102, 103, 104, 105, 106, 107, 108, 109, 110, 111, 112, 113, 114, 115, 116, 117, 118, 119, 120, 121, 122])))) : Ev K env (tC (.str "abcdefghijklmnopqrstuvwxyz")) S := ev_lit (by decide +kernel) h
theorem ev_q1 (h : S (.da (.str (tx [48, 49, 50, 51, 52, 53, 54, 55, 56, 57, 95, 97, 98, 99, 100, 101, 102, 103, 104, 105, 106, 107, 108, 109, 110, 111, 112, 113, 114, 115, 116, 117, 118, 119, 120, 121, 122])))) : Ev K env (tC (.str "0123456789_abcdefghijklmnopqrstuvwxyz")) S := ev_lit (by decide +kernel) h
theorem ev_q2 (h : S (.da (.str (tx [92, 123, 125])))) : Ev K env (tC (.str "\\{}")) S := ev_lit (by decide +kernel) h
theorem ev_q3 (h : S (.da (.str (tx [92, 123, 125, 124])))) : Ev K env (tC (.str "\\{}|")) S := ev_lit (by decide +kernel) h
theorem ev_q4 (h : S (.da (.str (tx [110])))) : Ev K env (tC (.str "n")) S := ev_lit (by decide +kernel) h
theorem ev_q5 (h : S (.da (.str (tx [116])))) : Ev K env (tC (.str "t")) S := ev_lit (by decide +kernel) h
theorem ev_q6 (h : S (.da (.str (tx [10])))) : Ev K env (tC (.str "\n")) S := ev_lit (by decide +kernel) h
theorem ev_q7 (h : S (.da (.str (tx [9])))) : Ev K env (tC (.str "\t")) S := ev_lit (by decide +kernel) h
theorem ev_q8 (h : S (.da (.str (tx [])))) : Ev K env (tC (.str "")) S := ev_lit (by decide +kernel) h
theorem ev_q9 (h : S (.da (.str (tx [92, 123, 125, 124, 110, 116, 10, 9])))) : Ev K env (tC (.str "\\{}|nt\n\t")) S := ev_lit (by decide +kernel) h
theorem ev_q10 (h : S (.da (.str (tx [97, 98, 99, 100, 101, 102, 103, 104, 105, 106, 107, 108, 109, 110, 111, 112, 113, 114, 115, 116, 117, 118, 119, 120, 121, 122, 48, 49, 50, 51, 52, 53, 54, 55, 56, 57, 95])))) : Ev K env (tC (.str "abcdefghijklmnopqrstuvwxyz0123456789_")) S := ev_lit (by decide +kernel) h
theorem ev_q11 (h : S (.da (.str (tx [125])))) : Ev K env (tC (.str "}")) S := ev_lit (by decide +kernel) h
theorem ev_q12 (h : S (.da (.str (tx [97, 98, 99, 100, 101, 102, 103, 104, 105, 106, 107, 108, 109, 110, 111, 112, 113, 114, 115, 116, 117, 118, 119, 120, 121, 122, 123, 124, 125, 126])))) : Ev K env (tC (.str "abcdefghijklmnopqrstuvwxyz{|}~")) S := ev_lit (by decide +kernel) h
theorem ev_q13 (h : S (.da (.str (tx [48, 49, 50, 51, 52, 53, 54, 55, 56, 57, 95])))) : Ev K env (tC (.str "0123456789_")) S := ev_lit (by decide +kernel) h
theorem ev_q14 (h : S (.da (.str (tx [92, 123, 125, 124, 110, 116, 95, 57, 97, 90, 45, 32, 10, 9])))) : Ev K env (tC (.str "\\{}|nt_9aZ- \n\t")) S := ev_lit (by decide +kernel) h
theorem ev_q15 (h : S (.da (.str (tx [116, 101, 120, 116])))) : Ev K env (tC (.str "text")) S := ev_lit (by decide +kernel) h
theorem ev_q16 (h : S (.da (.str (tx [123])))) : Ev K env (tC (.str "{")) S := ev_lit (by decide +kernel) h
theorem ev_q17 (h : S (.da (.str (tx [124])))) : Ev K env (tC (.str "|")) S := ev_lit (by decide +kernel) h
theorem ev_q18 (h : S (.da (.str (tx [103, 114, 111, 117, 112])))) : Ev K env (tC (.str "group")) S := ev_lit (by decide +kernel) h
theorem ev_q19 (h : S (.da (.str (tx [92])))) : Ev K env (tC (.str "\\")) S := ev_lit (by decide +kernel) h
theorem ev_q20 (h : S (.da (.str (tx [101, 115, 99, 97, 112, 101])))) : Ev K env (tC (.str "escape")) S := ev_lit (by decide +kernel) h
theorem ev_q21 (h : S (.da (.str (tx [92, 123, 125, 110, 116])))) : Ev K env (tC (.str "\\{}nt")) S := ev_lit (by decide +kernel) h
theorem ev_q22 (h : S (.da (.str (tx [105, 110, 110, 101, 114, 32, 101, 115, 99, 97, 112, 101])))) : Ev K env (tC (.str "inner escape")) S := ev_lit (by decide +kernel) h
theorem ev_q23 (h : S (.da (.str (tx [92, 123, 125, 124, 110, 116])))) : Ev K env (tC (.str "\\{}|nt")) S := ev_lit (by decide +kernel) h
theorem ev_q24 (h : S (.da (.str (tx [111, 116, 104, 101, 114])))) : Ev K env (tC (.str "other")) S := ev_lit (by decide +kernel) h
theorem ev_q25 (h : S (.da (.str (tx [110, 97, 109, 101])))) : Ev K env (tC (.str "name")) S := ev_lit (by decide +kernel) h
theorem ev_q26 (h : S (.da (.str (tx [123, 124])))) : Ev K env (tC (.str "{|")) S := ev_lit (by decide +kernel) h
theorem ev_q27 (h : S (.da (.str (tx [119, 104, 111, 108, 101])))) : Ev K env (tC (.str "whole")) S := ev_lit (by decide +kernel) h
theorem ev_q28 (h : S (.da (.str (tx [110, 116])))) : Ev K env (tC (.str "nt")) S := ev_lit (by decide +kernel) h
theorem ev_q29 (h : S (.da (.str (tx [92, 110])))) : Ev K env (tC (.str "\\n")) S := ev_lit (by decide +kernel) h
theorem ev_q30 (h : S (.da (.str (tx [123, 125])))) : Ev K env (tC (.str "{}")) S := ev_lit (by decide +kernel) h
theorem ev_q31 (h : S (.da (.str (tx [124, 97, 125])))) : Ev K env (tC (.str "|a}")) S := ev_lit (by decide +kernel) h
theorem ev_q32 (h : S (.da (.str (tx [45, 125])))) : Ev K env (tC (.str "-}")) S := ev_lit (by decide +kernel) h
theorem ev_q33 (h : S (.da (.str (tx [92, 116])))) : Ev K env (tC (.str "\\t")) S := ev_lit (by decide +kernel) h
end
end My
namespace My
open PySem L2
def topS (i : Nat) : Stmt := PySem.Challenge.pw_surespan_k87_template_faults.main.body.getD i (.Pass ⟨0, 0, 0, 0⟩)
abbrev s_TemplateFault_Minit : Stmt := inClass (topS 3) 0
abbrev n_TemplateFault_Minit : List Str := ["self", "index"]
theorem sc_TemplateFault_Minit : FnScope n_TemplateFault_Minit ["self", "index"] (defScope s_TemplateFault_Minit) := ⟨rfl, rfl, rfl, by decide +kernel, rfl, by decide +kernel, by decide +kernel⟩
abbrev s_read_template : Stmt := topS 20
abbrev n_read_template : List Str := ["text", "parts", "index", "part", "signs"]
theorem sc_read_template : FnScope n_read_template ["text"] (defScope s_read_template) := ⟨rfl, rfl, rfl, by decide +kernel, rfl, by decide +kernel, by decide +kernel⟩
abbrev s_read_brace : Stmt := topS 21
abbrev n_read_brace : List Str := ["text", "index", "end", "name", "other"]
theorem sc_read_brace : FnScope n_read_brace ["text", "index"] (defScope s_read_brace) := ⟨rfl, rfl, rfl, by decide +kernel, rfl, by decide +kernel, by decide +kernel⟩
abbrev s_read_signs : Stmt := topS 22
abbrev n_read_signs : List Str := ["text", "index", "stop", "specials", "found", "sign"]
theorem sc_read_signs : FnScope n_read_signs ["text", "index", "stop", "specials"] (defScope s_read_signs) := ⟨rfl, rfl, rfl, by decide +kernel, rfl, by decide +kernel, by decide +kernel⟩
abbrev s_demand_sign : Stmt := topS 23
abbrev n_demand_sign : List Str := ["text", "index", "allowed"]
theorem sc_demand_sign : FnScope n_demand_sign ["text", "index", "allowed"] (defScope s_demand_sign) := ⟨rfl, rfl, rfl, by decide +kernel, rfl, by decide +kernel, by decide +kernel⟩
abbrev s_Ldraw : Stmt := topS 25
abbrev n_Ldraw : List Str := ["_law_script", "_law_digits", "_law_one", "_law_two", "_law_cell", "_law_rest", "_law_k"]
theorem sc_Ldraw : FnScope n_Ldraw ["_law_script"] (defScope s_Ldraw) := ⟨rfl, rfl, rfl, by decide +kernel, rfl, by decide +kernel, by decide +kernel⟩
abbrev s_Lnext : Stmt := topS 26
abbrev n_Lnext : List Str := ["_law_draw_here", "_law_many", "_law_at"]
theorem sc_Lnext : FnScope n_Lnext ["_law_draw_here", "_law_many"] (defScope s_Lnext) := ⟨rfl, rfl, rfl, by decide +kernel, rfl, by decide +kernel, by decide +kernel⟩
abbrev s_Lsigns : Stmt := topS 27
abbrev n_Lsigns : List Str := ["_law_signs_here"]
theorem sc_Lsigns : FnScope n_Lsigns [] (defScope s_Lsigns) := ⟨rfl, rfl, rfl, by decide +kernel, rfl, by decide +kernel, by decide +kernel⟩
abbrev s_Lint : Stmt := topS 28
abbrev n_Lint : List Str := ["_law_value"]
theorem sc_Lint : FnScope n_Lint ["_law_value"] (defScope s_Lint) := ⟨rfl, rfl, rfl, by decide +kernel, rfl, by decide +kernel, by decide +kernel⟩
abbrev s_Lnew_name : Stmt := topS 29
abbrev n_Lnew_name : List Str := ["_law_draw_here", "_law_firsts", "_law_others", "_law_name", "_law_k"]
theorem sc_Lnew_name : FnScope n_Lnew_name ["_law_draw_here"] (defScope s_Lnew_name) := ⟨rfl, rfl, rfl, by decide +kernel, rfl, by decide +kernel, by decide +kernel⟩
abbrev s_Lpiece : Stmt := topS 30
abbrev n_Lpiece : List Str := ["_law_draw_here", "_law_most", "_law_signs_here", "_law_odd", "_law_piece_here", "_law_k"]
theorem sc_Lpiece : FnScope n_Lpiece ["_law_draw_here", "_law_most"] (defScope s_Lpiece) := ⟨rfl, rfl, rfl, by decide +kernel, rfl, by decide +kernel, by decide +kernel⟩
abbrev s_Ltemplate : Stmt := topS 31
abbrev n_Ltemplate : List Str := ["_law_draw_here", "_law_many", "_law_most", "_law_parts", "_law_k", "_law_choice", "_law_piece_here"]
theorem sc_Ltemplate : FnScope n_Ltemplate ["_law_draw_here", "_law_many", "_law_most"] (defScope s_Ltemplate) := ⟨rfl, rfl, rfl, by decide +kernel, rfl, by decide +kernel, by decide +kernel⟩
abbrev s_Lspelled : Stmt := topS 32
abbrev n_Lspelled : List Str := ["_law_draw_here", "_law_signs_here", "_law_special", "_law_free", "_law_written_here", "_law_sign", "_law_raw"]
theorem sc_Lspelled : FnScope n_Lspelled ["_law_draw_here", "_law_signs_here", "_law_special", "_law_free"] (defScope s_Lspelled) := ⟨rfl, rfl, rfl, by decide +kernel, rfl, by decide +kernel, by decide +kernel⟩
abbrev s_Lwritten : Stmt := topS 33
abbrev n_Lwritten : List Str := ["_law_draw_here", "_law_template_here", "_law_free", "_law_written_here", "_law_part"]
theorem sc_Lwritten : FnScope n_Lwritten ["_law_draw_here", "_law_template_here", "_law_free"] (defScope s_Lwritten) := ⟨rfl, rfl, rfl, by decide +kernel, rfl, by decide +kernel, by decide +kernel⟩
abbrev s_Lsame_template : Stmt := topS 34
abbrev n_Lsame_template : List Str := ["_law_found", "_law_due", "_law_part", "_law_word"]
theorem sc_Lsame_template : FnScope n_Lsame_template ["_law_found", "_law_due"] (defScope s_Lsame_template) := ⟨rfl, rfl, rfl, by decide +kernel, rfl, by decide +kernel, by decide +kernel⟩
abbrev s_Lspoilt : Stmt := topS 35
abbrev n_Lspoilt : List Str := ["_law_draw_here", "_law_text", "_law_letters", "_law_sign", "_law_at", "_law_choice", "_law_name", "_law_k"]
theorem sc_Lspoilt : FnScope n_Lspoilt ["_law_draw_here", "_law_text"] (defScope s_Lspoilt) := ⟨rfl, rfl, rfl, by decide +kernel, rfl, by decide +kernel, by decide +kernel⟩
abbrev s_Lmeant : Stmt := topS 36
abbrev n_Lmeant : List Str := ["_law_sign"]
theorem sc_Lmeant : FnScope n_Lmeant ["_law_sign"] (defScope s_Lmeant) := ⟨rfl, rfl, rfl, by decide +kernel, rfl, by decide +kernel, by decide +kernel⟩
abbrev s_Lnamed : Stmt := topS 37
abbrev n_Lnamed : List Str := ["_law_sign", "_law_name", "_law_letters"]
theorem sc_Lnamed : FnScope n_Lnamed ["_law_sign", "_law_name"] (defScope s_Lnamed) := ⟨rfl, rfl, rfl, by decide +kernel, rfl, by decide +kernel, by decide +kernel⟩
abbrev s_Lstepped : Stmt := topS 38
abbrev n_Lstepped : List Str := ["_law_state", "_law_sign", "_law_parts", "_law_place"]
theorem sc_Lstepped : FnScope n_Lstepped ["_law_state", "_law_sign", "_law_parts"] (defScope s_Lstepped) := ⟨rfl, rfl, rfl, by decide +kernel, rfl, by decide +kernel, by decide +kernel⟩
abbrev s_Lread : Stmt := topS 39
abbrev n_Lread : List Str := ["_law_text", "_law_parts", "_law_state", "_law_k"]
theorem sc_Lread : FnScope n_Lread ["_law_text"] (defScope s_Lread) := ⟨rfl, rfl, rfl, by decide +kernel, rfl, by decide +kernel, by decide +kernel⟩
abbrev s_Lright : Stmt := topS 40
abbrev n_Lright : List Str := ["_law_text", "_law_due", "_law_found", "e"]
theorem sc_Lright : FnScope n_Lright ["_law_text"] (defScope s_Lright) := ⟨rfl, rfl, rfl, by decide +kernel, rfl, by decide +kernel, by decide +kernel⟩
abbrev s_law : Stmt := topS 41
abbrev n_law : List Str := ["_law_script", "_law_draw_here", "_law_template_here", "_law_texts", "_law_k", "_law_text"]
theorem sc_law : FnScope n_law ["_law_script"] (defScope s_law) := ⟨rfl, rfl, rfl, by decide +kernel, rfl, by decide +kernel, by decide +kernel⟩
structure Top (K : PySem.W.Frag) (mg : Str → Option Value) : Type where
  tw : World
  f_read_template : Addr
  fd_read_template : FuncData
  F_read_template : Fun K "read_template" "read_template" s_read_template f_read_template fd_read_template
  B_read_template : Binds K fd_read_template ["text"] []
  g_read_template : mg "read_template" = some (.ref f_read_template)
  f_read_brace : Addr
  fd_read_brace : FuncData
  F_read_brace : Fun K "read_brace" "read_brace" s_read_brace f_read_brace fd_read_brace
  B_read_brace : Binds K fd_read_brace ["text", "index"] []
  g_read_brace : mg "read_brace" = some (.ref f_read_brace)
  f_read_signs : Addr
  fd_read_signs : FuncData
  F_read_signs : Fun K "read_signs" "read_signs" s_read_signs f_read_signs fd_read_signs
  B_read_signs : Binds K fd_read_signs ["text", "index", "stop", "specials"] []
  g_read_signs : mg "read_signs" = some (.ref f_read_signs)
  f_demand_sign : Addr
  fd_demand_sign : FuncData
  F_demand_sign : Fun K "demand_sign" "demand_sign" s_demand_sign f_demand_sign fd_demand_sign
  B_demand_sign : Binds K fd_demand_sign ["text", "index", "allowed"] []
  g_demand_sign : mg "demand_sign" = some (.ref f_demand_sign)
  f_Ldraw : Addr
  fd_Ldraw : FuncData
  F_Ldraw : Fun K "_law_draw" "_law_draw" s_Ldraw f_Ldraw fd_Ldraw
  B_Ldraw : Binds K fd_Ldraw ["_law_script"] []
  g_Ldraw : mg "_law_draw" = some (.ref f_Ldraw)
  f_Lnext : Addr
  fd_Lnext : FuncData
  F_Lnext : Fun K "_law_next" "_law_next" s_Lnext f_Lnext fd_Lnext
  B_Lnext : Binds K fd_Lnext ["_law_draw_here", "_law_many"] []
  g_Lnext : mg "_law_next" = some (.ref f_Lnext)
  f_Lsigns : Addr
  fd_Lsigns : FuncData
  F_Lsigns : Fun K "_law_signs" "_law_signs" s_Lsigns f_Lsigns fd_Lsigns
  B_Lsigns : Binds K fd_Lsigns [] []
  g_Lsigns : mg "_law_signs" = some (.ref f_Lsigns)
  f_Lint : Addr
  fd_Lint : FuncData
  F_Lint : Fun K "_law_int" "_law_int" s_Lint f_Lint fd_Lint
  B_Lint : Binds K fd_Lint ["_law_value"] []
  g_Lint : mg "_law_int" = some (.ref f_Lint)
  f_Lnew_name : Addr
  fd_Lnew_name : FuncData
  F_Lnew_name : Fun K "_law_new_name" "_law_new_name" s_Lnew_name f_Lnew_name fd_Lnew_name
  B_Lnew_name : Binds K fd_Lnew_name ["_law_draw_here"] []
  g_Lnew_name : mg "_law_new_name" = some (.ref f_Lnew_name)
  f_Lpiece : Addr
  fd_Lpiece : FuncData
  F_Lpiece : Fun K "_law_piece" "_law_piece" s_Lpiece f_Lpiece fd_Lpiece
  B_Lpiece : Binds K fd_Lpiece ["_law_draw_here", "_law_most"] []
  g_Lpiece : mg "_law_piece" = some (.ref f_Lpiece)
  f_Ltemplate : Addr
  fd_Ltemplate : FuncData
  F_Ltemplate : Fun K "_law_template" "_law_template" s_Ltemplate f_Ltemplate fd_Ltemplate
  B_Ltemplate : Binds K fd_Ltemplate ["_law_draw_here", "_law_many", "_law_most"] []
  g_Ltemplate : mg "_law_template" = some (.ref f_Ltemplate)
  f_Lspelled : Addr
  fd_Lspelled : FuncData
  F_Lspelled : Fun K "_law_spelled" "_law_spelled" s_Lspelled f_Lspelled fd_Lspelled
  B_Lspelled : Binds K fd_Lspelled ["_law_draw_here", "_law_signs_here", "_law_special", "_law_free"] []
  g_Lspelled : mg "_law_spelled" = some (.ref f_Lspelled)
  f_Lwritten : Addr
  fd_Lwritten : FuncData
  F_Lwritten : Fun K "_law_written" "_law_written" s_Lwritten f_Lwritten fd_Lwritten
  B_Lwritten : Binds K fd_Lwritten ["_law_draw_here", "_law_template_here", "_law_free"] []
  g_Lwritten : mg "_law_written" = some (.ref f_Lwritten)
  f_Lsame_template : Addr
  fd_Lsame_template : FuncData
  F_Lsame_template : Fun K "_law_same_template" "_law_same_template" s_Lsame_template f_Lsame_template fd_Lsame_template
  B_Lsame_template : Binds K fd_Lsame_template ["_law_found", "_law_due"] []
  g_Lsame_template : mg "_law_same_template" = some (.ref f_Lsame_template)
  f_Lspoilt : Addr
  fd_Lspoilt : FuncData
  F_Lspoilt : Fun K "_law_spoilt" "_law_spoilt" s_Lspoilt f_Lspoilt fd_Lspoilt
  B_Lspoilt : Binds K fd_Lspoilt ["_law_draw_here", "_law_text"] []
  g_Lspoilt : mg "_law_spoilt" = some (.ref f_Lspoilt)
  f_Lmeant : Addr
  fd_Lmeant : FuncData
  F_Lmeant : Fun K "_law_meant" "_law_meant" s_Lmeant f_Lmeant fd_Lmeant
  B_Lmeant : Binds K fd_Lmeant ["_law_sign"] []
  g_Lmeant : mg "_law_meant" = some (.ref f_Lmeant)
  f_Lnamed : Addr
  fd_Lnamed : FuncData
  F_Lnamed : Fun K "_law_named" "_law_named" s_Lnamed f_Lnamed fd_Lnamed
  B_Lnamed : Binds K fd_Lnamed ["_law_sign", "_law_name"] []
  g_Lnamed : mg "_law_named" = some (.ref f_Lnamed)
  f_Lstepped : Addr
  fd_Lstepped : FuncData
  F_Lstepped : Fun K "_law_stepped" "_law_stepped" s_Lstepped f_Lstepped fd_Lstepped
  B_Lstepped : Binds K fd_Lstepped ["_law_state", "_law_sign", "_law_parts"] []
  g_Lstepped : mg "_law_stepped" = some (.ref f_Lstepped)
  f_Lread : Addr
  fd_Lread : FuncData
  F_Lread : Fun K "_law_read" "_law_read" s_Lread f_Lread fd_Lread
  B_Lread : Binds K fd_Lread ["_law_text"] []
  g_Lread : mg "_law_read" = some (.ref f_Lread)
  f_Lright : Addr
  fd_Lright : FuncData
  F_Lright : Fun K "_law_right" "_law_right" s_Lright f_Lright fd_Lright
  B_Lright : Binds K fd_Lright ["_law_text"] []
  g_Lright : mg "_law_right" = some (.ref f_Lright)
  f_law : Addr
  fd_law : FuncData
  F_law : Fun K "law" "law" s_law f_law fd_law
  B_law : Binds K fd_law ["_law_script"] []
  g_law : mg "law" = some (.ref f_law)
  c_TemplateFault : Addr
  g_TemplateFault : mg "TemplateFault" = some (.ref c_TemplateFault)
  c_SpanError : Addr
  g_SpanError : mg "SpanError" = some (.ref c_SpanError)
  c_PatternFault : Addr
  g_PatternFault : mg "PatternFault" = some (.ref c_PatternFault)
  c_UnknownGroup : Addr
  g_UnknownGroup : mg "UnknownGroup" = some (.ref c_UnknownGroup)
  c_BadTree : Addr
  g_BadTree : mg "BadTree" = some (.ref c_BadTree)
  c_NotRegular : Addr
  g_NotRegular : mg "NotRegular" = some (.ref c_NotRegular)
  c_NotPlain : Addr
  g_NotPlain : mg "NotPlain" = some (.ref c_NotPlain)
  c_StreamClosed : Addr
  g_StreamClosed : mg "StreamClosed" = some (.ref c_StreamClosed)
  c_OutOfSteps : Addr
  g_OutOfSteps : mg "OutOfSteps" = some (.ref c_OutOfSteps)
  c_TooManyStates : Addr
  g_TooManyStates : mg "TooManyStates" = some (.ref c_TooManyStates)
  c_TooManyAnswers : Addr
  g_TooManyAnswers : mg "TooManyAnswers" = some (.ref c_TooManyAnswers)
  c_NoSuchText : Addr
  g_NoSuchText : mg "NoSuchText" = some (.ref c_NoSuchText)
  f_TemplateFault_Minit : Addr
  fd_TemplateFault_Minit : FuncData
  F_TemplateFault_Minit : Fun K "__init__" "TemplateFault.__init__" s_TemplateFault_Minit f_TemplateFault_Minit fd_TemplateFault_Minit
  B_TemplateFault_Minit : Binds K fd_TemplateFault_Minit ["self", "index"] []
  ox_TemplateFault : OexC K c_TemplateFault
  xf_TemplateFault : XfC K c_TemplateFault
  xi_TemplateFault : XiC K c_TemplateFault
  no_TemplateFault : PySem.W.findIn K (.ref c_TemplateFault) "index" = some none
  ic_TemplateFault : PySem.W.findIn K (.ref c_TemplateFault) "__init__" = some (some (.ref f_TemplateFault_Minit))
  ti_TemplateFault : PySem.W.typeIn K (.ref f_TemplateFault_Minit) = some (.type "function")
  kq_TemplateFault_TemplateFault : PySem.W.kitOne K (.ref c_TemplateFault) (.ref c_TemplateFault) = some true
  kq_TemplateFault_ValueError : PySem.W.kitOne K (.ref c_TemplateFault) (.type "ValueError") = some true
  kq_TemplateFault_PatternFault : PySem.W.kitOne K (.ref c_TemplateFault) (.ref c_PatternFault) = some false
  kq_TemplateFault_UnknownGroup : PySem.W.kitOne K (.ref c_TemplateFault) (.ref c_UnknownGroup) = some false
  kq_TemplateFault_BadTree : PySem.W.kitOne K (.ref c_TemplateFault) (.ref c_BadTree) = some false
  kq_TemplateFault_NotRegular : PySem.W.kitOne K (.ref c_TemplateFault) (.ref c_NotRegular) = some false
  kq_TemplateFault_NotPlain : PySem.W.kitOne K (.ref c_TemplateFault) (.ref c_NotPlain) = some false
  kq_TemplateFault_StreamClosed : PySem.W.kitOne K (.ref c_TemplateFault) (.ref c_StreamClosed) = some false
  kq_TemplateFault_OutOfSteps : PySem.W.kitOne K (.ref c_TemplateFault) (.ref c_OutOfSteps) = some false
  kq_TemplateFault_TooManyStates : PySem.W.kitOne K (.ref c_TemplateFault) (.ref c_TooManyStates) = some false
  kq_TemplateFault_TooManyAnswers : PySem.W.kitOne K (.ref c_TemplateFault) (.ref c_TooManyAnswers) = some false
  kq_TemplateFault_NoSuchText : PySem.W.kitOne K (.ref c_TemplateFault) (.ref c_NoSuchText) = some false
  ex_TemplateFault : PySem.W.exmOne K (.ref c_TemplateFault) (.ref c_SpanError) = some true
  t_NAME_STARTS : Tok
  g_NAME_STARTS : mg "NAME_STARTS" = some (.str "abcdefghijklmnopqrstuvwxyz" t_NAME_STARTS)
  t_NAME_SIGNS : Tok
  g_NAME_SIGNS : mg "NAME_SIGNS" = some (.str "0123456789_abcdefghijklmnopqrstuvwxyz" t_NAME_SIGNS)
  t_NAME_LENGTH : Tok
  g_NAME_LENGTH : mg "NAME_LENGTH" = some (.int 12 t_NAME_LENGTH)
  d_ESCAPED : Addr
  g_ESCAPED : mg "ESCAPED" = some (.ref d_ESCAPED)
  kt_ESCAPED : KTab K tw d_ESCAPED [("n", "\n"), ("t", "\t")]
  t_TEXT_SPECIALS : Tok
  g_TEXT_SPECIALS : mg "TEXT_SPECIALS" = some (.str "\\{}" t_TEXT_SPECIALS)
  t_OTHER_SPECIALS : Tok
  g_OTHER_SPECIALS : mg "OTHER_SPECIALS" = some (.str "\\{}|" t_OTHER_SPECIALS)
  b_ValueError : mg "ValueError" = none
  b_bool : mg "bool" = none
  b_int : mg "int" = none
  b_isinstance : mg "isinstance" = none
  b_len : mg "len" = none
  b_range : mg "range" = none
  b_str : mg "str" = none
  b_tuple : mg "tuple" = none
end My
namespace My
open PySem L2
local macro_rules | `(tactic| walk_at "rd") => `(tactic| simp only [tSeq, tNext, tAsg, tOp, tUn, tC, tVar, gName, gSub, tCons, tNil, tCB, tIfS, tIf, tTest, tB, tAnd, tOr, tNot, tAndV, tOrV, tNotV, tRet, tRetN, tDrop, tLst, tTup, tCall, tSl, tNoPart, tPart, tM0, tM1, tBM, tBM0, tYes, tFor_eq, tLc_eq, iList, iRng1, iRng2, iStr, sg_tx, c_empty, rstrip_sign, find_sign, cut_last, cut_to, cut_from, cut_mid, cut_to_lit, cut_from_lit, and_assoc, flat_rep, List.length_replicate, tx_len, tx_eq, tx_app, tx_cps, rI0, rI, rU, rEq, rNe, rIxL, rIxS, rIxT, rSetL, rAppend, rPopAt, rSlS, rSlL, rIn, rMulS, rLtD, rJoin, rLenQ, rListOf,  tRevS, 
  scal, L2.start, List.map_cons, List.map_nil, List.length_cons, List.length_nil, List.replicate, List.cons_append, List.nil_append, List.append_nil,
  List.getElem?_cons_zero, List.getElem?_cons_succ, List.set_cons_zero, List.set_cons_succ, Nat.sub_zero, Nat.reduceSub, Nat.reduceAdd, Nat.zero_add, id_eq, Int.reduceToNat, exists_or,
  V.int.injEq, V.str.injEq, V.bl.injEq, V.ref.injEq, Option.some.injEq, List.cons.injEq, exists_and_left, exists_eq_left', exists_eq_left, exists_eq, exists_eq', and_true, true_and, reduceCtorEq, false_and, and_false, exists_false, false_or, or_false, decide_eq_true_eq, Bool.not_eq_true', decide_eq_false_iff_not, Bool.not_not, Bool.false_eq_true, ↓reduceIte, if_true, if_false])

local macro_rules | `(tactic| walk_at "ne") => `(tactic| first | assumption | (refine Ne.symm ?_; assumption) | exact (ne_of_none (by assumption) (by assumption)) | exact (ne_of_none (by assumption) (by assumption)).symm)
local macro_rules | `(tactic| walk_at "hp") => `(tactic| first | assumption | exact upd_same | exact (upd_ne (by walk_at "ne")).trans (by walk_at "hp"))
local macro_rules | `(tactic| walk_at "st1") => `(tactic| first
  | refine ⟨_, Or.inl (Or.inl (by walk_at "hp")), ?_⟩
  | refine ⟨_, Or.inl (Or.inl (Or.inl (by walk_at "hp"))), ?_⟩
  | refine ⟨_, (show _ = some (HO.lst _) by walk_at "hp"), ?_⟩
  | refine ⟨_, rfl, ?_⟩
  | refine ⟨(rfl : ("str" : String) = "str"), ?_⟩
  | refine ⟨Or.inr ⟨by decide, by decide⟩, ?_⟩
  | refine ⟨⟨by decide, by decide⟩, ?_⟩
  | refine ⟨by decide, ?_⟩
  | refine ⟨by assumption, ?_⟩)
local macro_rules | `(tactic| walk_at "st") => `(tactic| repeat walk_at "st1")
local macro_rules | `(tactic| walk_at "go") => `(tactic| repeat first | walk_at "st1" | walk_at "rd")
section
variable {P : Program} {w : World} {K : PySem.W.Frag} {mg : Str → Option Value} {base : Heap}
def sp_Lsigns : Sp := fun vs H Q _ => vs = [] ∧ Q (.str (tx SG)) H
theorem atI_ints {ds : List Int} {a : Int} (h0 : 0 ≤ a) (h1 : a < ((ds.map V.int).length : Nat)) : ∃ z, atI (ds.map V.int) a = some (V.int z) := by
  obtain ⟨n, rfl⟩ := Int.eq_ofNat_of_zero_le h0
  have h2 : n < ds.length := by rw [List.length_map] at h1; omega
  refine ⟨ds[n], atI_nat ?_⟩
  rw [List.getElem?_map, List.getElem?_eq_getElem h2]
  rfl
def sp_Lnext : Sp := fun vs H Q _ => ∃ (d l : Addr) (m : Int), vs = [.ref d, .int m] ∧ Dry H d l ∧ 0 < m ∧ ∀ (r : Int) (H' : Hp), 0 ≤ r → r < m → Dry H' d l → But d H H' → Q (.int r) H'
theorem ok_Lnext (T : Top K mg) : FnOk P w K mg base CX0 1 T.f_Lnext T.fd_Lnext ["_law_draw_here", "_law_many"] sp_Lnext := by
  refine T.F_Lnext.ok sc_Lnext (fun vs H Q E h => ?_) (fun cdv A outer s H vs Q E hr h => ?_)
  · obtain ⟨d, l, m, rfl, _⟩ := h
    rfl
  · obtain ⟨d, l, m, rfl, hD, hm, q⟩ := h
    refine ⟨_, (pss_cons (ps_set (i := 2) sc_Lnext.nd rfl (Or.inl rfl) (pe_ix (r := rIxL K) ix_list (pv 0) pe_int (fun _ _ => rfl)))
       (pss_cons (ps_if (pt_cmpR op_lt (pv 2) (pe_callB (r := rLenQ K) call_lenQ (by rfl) T.b_len PySem.boot_len (pa_cons (pe_ix (r := rIxL K) ix_list (pv 0) pe_int (fun _ _ => rfl)) pa_nil)) (nomark _)) (pss_cons (ps_asg (pe_op op_add (pv 2) pe_int) (pg_sub (pv 0) pe_int set_list))
       (pss_one (ps_ret (pe_op op_mod (pe_callTy call_int1 (by rfl) T.b_int (by decide +kernel) (pa_cons (pe_ix (r := rIxL K) ix_list (pe_ix (r := rIxL K) ix_list (pv 0) pe_int (fun _ _ => rfl)) (pv 2) (fun _ _ => rfl)) pa_nil)) (pv 1))))) pss_nil)
       (pss_cons (ps_asg (pe_op op_mod (pe_callTy call_int1 (by rfl) T.b_int (by decide +kernel) (pa_cons (pe_op op_add (pe_op op_mul (pe_ix (r := rIxL K) ix_list (pv 0) pe_int (fun _ _ => rfl)) pe_int) pe_int) pa_nil)) pe_int) (pg_sub (pv 0) pe_int set_list))
       (pss_cons (ps_asg (pe_op op_mod (pe_callTy call_int1 (by rfl) T.b_int (by decide +kernel) (pa_cons (pe_op op_add (pe_op op_mul (pe_ix (r := rIxL K) ix_list (pv 0) pe_int (fun _ _ => rfl)) pe_int) pe_int) pa_nil)) pe_int) (pg_sub (pv 0) pe_int set_list))
       (pss_one (ps_ret (pe_op op_mod (pe_callTy call_int1 (by rfl) T.b_int (by decide +kernel) (pa_cons (pe_op op_add (pe_op op_fdiv (pe_ix (r := rIxL K) ix_list (pv 0) pe_int (fun _ _ => rfl)) pe_int) (pe_op op_fdiv (pe_ix (r := rIxL K) ix_list (pv 0) pe_int (fun _ _ => rfl)) pe_int)) pa_nil)) (pv 1)))))))), ?_⟩
    obtain ⟨a, b, c, e0, ds, hn, h1, h2, h3⟩ := hD
    have nl : l ≠ d := hn.symm
    walk_at "rd"
    walk_at "go"
    split
    · rename_i hlt
      walk_at "go"
      obtain ⟨z, hz⟩ := atI_ints h3 hlt
      refine ⟨_, hz, .inl ⟨_, rfl, hm, ?_⟩⟩
      exact q _ _ (Int.emod_nonneg _ (by omega)) (Int.emod_lt_of_pos _ hm) ⟨a + 1, b, c, e0, ds, hn, upd_same, (upd_ne nl).trans h2, by omega⟩ .put
    · walk_at "go"
      refine q _ _ (Int.emod_nonneg _ (by omega)) (Int.emod_lt_of_pos _ hm) ⟨a, _, _, e0, ds, hn, upd_same, (upd_ne nl).trans ((upd_ne nl).trans h2), h3⟩ (.trans .put .put)
theorem ok_Lsigns (T : Top K mg) : FnOk P w K mg base CX0 1 T.f_Lsigns T.fd_Lsigns [] sp_Lsigns := by
  refine T.F_Lsigns.ok sc_Lsigns (fun vs H Q E h => ?_) (fun cdv A outer s H vs Q E hr h => ?_)
  · obtain ⟨rfl, _⟩ := h
    rfl
  · obtain ⟨rfl, q⟩ := h
    refine ⟨_, (pss_cons (ps_set (i := 0) sc_Lsigns.nd rfl (Or.inl rfl) pe_str)
       (pss_one (ps_ret (pe_op op_add_str (pv 0) pe_str)))), ?_⟩
    walk_at "rd"
    refine ⟨by decide, ?_⟩
    exact sgs_tx ▸ q
end
end My
namespace My
open PySem L2
local macro_rules | `(tactic| walk_at "rd") => `(tactic| simp only [tSeq, tNext, tAsg, tOp, tUn, tC, tVar, gName, gSub, tCons, tNil, tCB, tIfS, tIf, tTest, tB, tAnd, tOr, tNot, tAndV, tOrV, tNotV, tRet, tRetN, tDrop, tLst, tTup, tCall, tSl, tNoPart, tPart, tM0, tM1, tBM, tBM0, tYes, tFor_eq, tLc_eq, iList, iRng1, iRng2, iStr, sg_tx, c_empty, rstrip_sign, find_sign, cut_last, cut_to, cut_from, cut_mid, cut_to_lit, cut_from_lit, and_assoc, flat_rep, List.length_replicate, tx_len, tx_eq, tx_app, tx_cps, rI0, rI, rU, rEq, rNe, rIxL, rIxS, rIxT, rSetL, rAppend, rPopAt, rSlS, rSlL, rIn, rMulS, rLtD, rJoin, rLenQ, rListOf,  tRevS, 
  scal, L2.start, List.map_cons, List.map_nil, List.length_cons, List.length_nil, List.replicate, List.cons_append, List.nil_append, List.append_nil,
  List.getElem?_cons_zero, List.getElem?_cons_succ, List.set_cons_zero, List.set_cons_succ, Nat.sub_zero, Nat.reduceSub, Nat.reduceAdd, Nat.zero_add, id_eq, Int.reduceToNat, exists_or,
  V.int.injEq, V.str.injEq, V.bl.injEq, V.ref.injEq, Option.some.injEq, List.cons.injEq, exists_and_left, exists_eq_left', exists_eq_left, exists_eq, exists_eq', and_true, true_and, reduceCtorEq, false_and, and_false, exists_false, false_or, or_false, decide_eq_true_eq, Bool.not_eq_true', decide_eq_false_iff_not, Bool.not_not, Bool.false_eq_true, ↓reduceIte, if_true, if_false])

local macro_rules | `(tactic| walk_at "ne") => `(tactic| first | assumption | (refine Ne.symm ?_; assumption) | exact (ne_of_none (by assumption) (by assumption)) | exact (ne_of_none (by assumption) (by assumption)).symm)
local macro_rules | `(tactic| walk_at "hp") => `(tactic| first | assumption | exact upd_same | exact (upd_ne (by walk_at "ne")).trans (by walk_at "hp"))
local macro_rules | `(tactic| walk_at "st1") => `(tactic| first
  | refine ⟨_, Or.inl (Or.inl (by walk_at "hp")), ?_⟩
  | refine ⟨_, Or.inl (Or.inl (Or.inl (by walk_at "hp"))), ?_⟩
  | refine ⟨_, (show _ = some (HO.lst _) by walk_at "hp"), ?_⟩
  | refine ⟨_, rfl, ?_⟩
  | refine ⟨(rfl : ("str" : String) = "str"), ?_⟩
  | refine ⟨Or.inr ⟨by decide, by decide⟩, ?_⟩
  | refine ⟨⟨by decide, by decide⟩, ?_⟩
  | refine ⟨by decide, ?_⟩
  | refine ⟨by assumption, ?_⟩)
local macro_rules | `(tactic| walk_at "st") => `(tactic| repeat walk_at "st1")
local macro_rules | `(tactic| walk_at "go") => `(tactic| repeat first | walk_at "st1" | walk_at "rd")
local macro_rules | `(tactic| walk_at "wk") => `(tactic| repeat first | exact Wk.nil | apply Wk.yes | apply Wk.no)
local macro_rules | `(tactic| walk_at "ds1") => `(tactic| first
  | ((with_reducible show Sv _ _ _ _); (first | (with_reducible apply sv_set2) | (with_reducible apply sv_seq) | (with_reducible apply sv_if) | (((with_reducible apply sv_retO); next => rfl)) | (with_reducible refine sv_retN (el_lst ?_)) | (with_reducible refine sv_retN (el_call ?_)) | (with_reducible refine sv_retN (el_lc ?_)) | (with_reducible refine sv_retN (el_list ?_)) | (with_reducible refine sv_retN (el_cat ?_)) | (with_reducible apply sv_ret) | (with_reducible refine sv_setN (el_lst ?_)) | (with_reducible refine sv_setN (el_call ?_)) | (with_reducible refine sv_setN (el_lc ?_)) | (with_reducible refine sv_setN (el_list ?_)) | (with_reducible refine sv_setN (el_cat ?_)) | (with_reducible refine sv_setN (el_callD rfl ?_)) | (((with_reducible apply sv_putD); next => rfl)) | (with_reducible apply sv_set) | (((with_reducible apply sv_app); next => rfl)) | (((with_reducible apply sv_ext); next => rfl)) | (((with_reducible apply sv_put); next => rfl)) | (with_reducible apply sv_for) | (with_reducible apply sv_nil) | (with_reducible apply sv_retNone) | (with_reducible apply sv_drop)))
  | ((with_reducible show Ev _ _ _ _); (first | (with_reducible apply ev_q0) | (with_reducible apply ev_q1) | (with_reducible apply ev_q2) | (with_reducible apply ev_q3) | (with_reducible apply ev_q4) | (with_reducible apply ev_q5) | (with_reducible apply ev_q6) | (with_reducible apply ev_q7) | (with_reducible apply ev_q8) | (with_reducible apply ev_q9) | (with_reducible apply ev_q10) | (with_reducible apply ev_q11) | (with_reducible apply ev_q12) | (with_reducible apply ev_q13) | (with_reducible apply ev_q14) | (with_reducible apply ev_q15) | (with_reducible apply ev_q16) | (with_reducible apply ev_q17) | (with_reducible apply ev_q18) | (with_reducible apply ev_q19) | (with_reducible apply ev_q20) | (with_reducible apply ev_q21) | (with_reducible apply ev_q22) | (with_reducible apply ev_q23) | (with_reducible apply ev_q24) | (with_reducible apply ev_q25) | (with_reducible apply ev_q26) | (with_reducible apply ev_q27) | (with_reducible apply ev_q28) | (with_reducible apply ev_q29) | (with_reducible apply ev_q30) | (with_reducible apply ev_q31) | (with_reducible apply ev_q32) | (with_reducible apply ev_q33) | (with_reducible apply ev_catX) | (with_reducible apply ev_inS) | (with_reducible apply ev_ninS) | (with_reducible apply ev_joinE) | (with_reducible apply ev_kget) | (((with_reducible apply ev_var); next => rfl)) | (((with_reducible apply ev_varO); next => rfl)) | (((with_reducible apply ev_varL); next => rfl)) | (((with_reducible apply ev_callD); next => rfl)) | (((with_reducible apply ev_dr); next => rfl)) | (with_reducible apply ev_max2) | (with_reducible apply ev_min2) | (with_reducible apply ev_index) | (with_reducible apply ev_eqD) | (with_reducible apply ev_neD) | (with_reducible apply ev_int) | (with_reducible apply ev_bl) | (with_reducible apply ev_non) | (with_reducible apply ev_ixT) | (with_reducible apply ev_call) | (with_reducible apply ev_eq) | (with_reducible apply ev_tup) | (with_reducible apply ev_in) | (with_reducible apply ev_ixL) | (with_reducible apply ev_ne) | (with_reducible apply ev_i0) | (with_reducible apply ev_ib) | (with_reducible apply ev_isi) | (with_reducible apply ev_isN) | (with_reducible apply ev_notN) | (with_reducible apply ev_isB) | (with_reducible apply ev_notB) | (with_reducible apply ev_slT2) | (with_reducible apply ev_catU) | (with_reducible apply ev_iC) | (with_reducible apply ev_ixS) | (with_reducible apply ev_slS) | (with_reducible apply ev_u) | (with_reducible apply ev_notV) | (with_reducible apply ev_if) | (with_reducible apply ev_len) | (with_reducible apply ev_lenS) | (with_reducible apply ev_tuple) | (with_reducible apply ev_all) | (with_reducible refine Ev.ofNew (el_lst ?_)) | (with_reducible refine Ev.ofNew (el_call ?_)) | (with_reducible refine Ev.ofNew (el_lc ?_)) | (with_reducible refine Ev.ofNew (el_list ?_)) | (with_reducible refine Ev.ofNew (el_cat ?_))))
  | ((with_reducible show Es _ _ _ _); (first | (with_reducible apply es_cons) | (with_reducible apply es_nil)))
  | ((with_reducible show Tv _ _ _ _); (first | (with_reducible apply tv_test) | (with_reducible apply tv_not) | (with_reducible apply tv_and) | (with_reducible apply tv_or) | (with_reducible apply tv_b) | (with_reducible apply tv_yes) | (with_reducible apply tv_tru)))
  | ((with_reducible show Eln _ _ _ _); (first | (with_reducible apply el_lst) | (with_reducible apply el_call) | (with_reducible apply el_lc) | (with_reducible apply el_list) | (with_reducible apply el_cat)))
  | ((with_reducible show Eo _ _ _ _); (first | (with_reducible apply eo_no) | (with_reducible apply eo_some)))
  | ((with_reducible show Iv _ _ _ _); (first | (with_reducible apply iv_tup) | (with_reducible apply iv_range1) | (with_reducible apply iv_str) | (with_reducible apply iv_enumT) | (((with_reducible apply iv_listV); next => rfl)) | (((with_reducible apply iv_listO); next => rfl)) | (with_reducible refine iv_listN (el_lst ?_)) | (with_reducible refine iv_listN (el_call ?_)) | (with_reducible refine iv_listN (el_lc ?_)) | (with_reducible refine iv_listN (el_list ?_)) | (with_reducible refine iv_listN (el_cat ?_))))
  | ((with_reducible show Gv _ _ _ _ _ _); (first | (with_reducible apply gv_name) | (with_reducible apply gv_tup2) | (with_reducible apply gv_tup3)))
  | ((with_reducible show seqO _ _ _ _); (first | (with_reducible apply o_nx) | (with_reducible apply o_rt) | (with_reducible apply o_rn) | (with_reducible apply o_bk) | (with_reducible apply o_ct)))
  | ((with_reducible show jnI _ _ _); (first | (with_reducible apply ji_nx) | (with_reducible apply ji_rt) | (with_reducible apply ji_rn) | (with_reducible apply ji_bk) | (with_reducible apply ji_ct)))
  | ((with_reducible show jnO _ _ _); (first | (with_reducible apply j_nx) | (with_reducible apply j_rt) | (with_reducible apply j_rn) | (with_reducible apply j_bk) | (with_reducible apply j_ct)))
  | ((with_reducible show lpO _ _ _ _); (first | (with_reducible apply l_rt) | (with_reducible apply l_rn) | (with_reducible apply l_ct) | (with_reducible apply l_nx')))
  | ((with_reducible show retO _ _); (first | (with_reducible apply r_rt) | (with_reducible apply r_nx)))
  | (with_reducible apply r_rn)
  | ((with_reducible show KIf _ _ _); (first | (((with_reducible apply k_ift); next => first | decide +kernel | rfl)) | (((with_reducible apply k_iff); next => first | decide +kernel | rfl))))
  | ((with_reducible show KEq _ _ _); (first | (with_reducible apply k_eqS) | (with_reducible apply k_eqI) | (with_reducible apply k_eqB) | (((with_reducible apply k_eqO); next => rfl; next => rfl; next => rfl; next => rfl))))
  | ((with_reducible show KDas _ _); (first | (with_reducible apply k_das_0) | (with_reducible apply k_das_1) | (with_reducible apply k_das_2) | (with_reducible apply k_das_3) | (with_reducible apply k_das_4) | (with_reducible apply k_das_5) | (with_reducible apply k_das_6) | (with_reducible apply k_das_7) | (with_reducible apply k_das_8) | (with_reducible apply k_das_9) | (with_reducible apply k_das_10) | (with_reducible apply k_das_11) | (with_reducible apply k_das_12) | (with_reducible apply k_das_13) | (with_reducible apply k_das_14) | (with_reducible apply k_das_15) | (with_reducible apply k_das_16)))
  | ((with_reducible show KIn _ _ _); (first | (with_reducible apply k_inT_0) | (with_reducible apply k_inL_0) | (with_reducible apply k_inT_1) | (with_reducible apply k_inL_1) | (with_reducible apply k_inT_2) | (with_reducible apply k_inL_2) | (with_reducible apply k_inT_3) | (with_reducible apply k_inL_3) | (with_reducible apply k_inT_4) | (with_reducible apply k_inL_4) | (with_reducible apply k_inT_5) | (with_reducible apply k_inL_5) | (with_reducible apply k_inT_6) | (with_reducible apply k_inL_6) | (with_reducible apply k_inT_7) | (with_reducible apply k_inL_7) | (with_reducible apply k_inT_8) | (with_reducible apply k_inL_8) | (with_reducible apply k_inT_9) | (with_reducible apply k_inL_9) | (with_reducible apply k_inT_10) | (with_reducible apply k_inL_10) | (with_reducible apply k_inT_11) | (with_reducible apply k_inL_11) | (with_reducible apply k_inT_12) | (with_reducible apply k_inL_12) | (with_reducible apply k_inN) | (((with_reducible apply k_inT); next => rfl; next => rfl)) | (((with_reducible apply k_inL); next => rfl; next => rfl))))
  | ((with_reducible show KEqD _ _ _); (first | (with_reducible apply k_eqIntsC) | (with_reducible apply k_eqInts0) | (with_reducible apply k_eqInts)))
  | (with_reducible apply k_put0)
  | ((with_reducible show KTy _ _ _); (first | (with_reducible apply k_ty_tup_tuple) | (with_reducible apply k_ty_tup_bool) | (with_reducible apply k_ty_tup_int) | (with_reducible apply k_ty_tup_str) | (with_reducible apply k_ty_tup_list) | (with_reducible apply k_ty_ls_tuple) | (with_reducible apply k_ty_ls_bool) | (with_reducible apply k_ty_ls_int) | (with_reducible apply k_ty_ls_str) | (with_reducible apply k_ty_ls_list) | (with_reducible apply k_ty_int_tuple) | (with_reducible apply k_ty_int_bool) | (with_reducible apply k_ty_int_int) | (with_reducible apply k_ty_int_str) | (with_reducible apply k_ty_int_list) | (with_reducible apply k_ty_str_tuple) | (with_reducible apply k_ty_str_bool) | (with_reducible apply k_ty_str_int) | (with_reducible apply k_ty_str_str) | (with_reducible apply k_ty_str_list) | (with_reducible apply k_ty_bl_tuple) | (with_reducible apply k_ty_bl_bool) | (with_reducible apply k_ty_bl_int) | (with_reducible apply k_ty_bl_str) | (with_reducible apply k_ty_bl_list) | (with_reducible apply k_ty_non_tuple) | (with_reducible apply k_ty_non_bool) | (with_reducible apply k_ty_non_int) | (with_reducible apply k_ty_non_str) | (with_reducible apply k_ty_non_list)))
  | ((with_reducible show KSl _ _ _ _); (first | (with_reducible apply k_sl_1) | (with_reducible apply k_sl_2) | (with_reducible apply k_sl_m2) | (with_reducible apply k_sl_m3) | (with_reducible apply k_sl_m4) | (with_reducible apply k_sl_m5)))
  | ((with_reducible show KCat _ _ _); (first | (with_reducible apply k_cat1) | (with_reducible apply k_cat2) | (with_reducible apply k_cat3) | (with_reducible apply k_cat23)))
  | ((with_reducible show KLen _ _); (first | (with_reducible apply k_lenT) | (with_reducible apply k_lenL)))
  | ((with_reducible show KSq _ _); (first | (with_reducible apply k_sqT) | (with_reducible apply k_sqL)))
  | (with_reducible apply k_i2s)
  | (with_reducible apply k_d)
  | ((with_reducible show KT _ _); (first | (with_reducible apply k_t) | (with_reducible apply k_tT)))
  | (with_reducible apply k_l)
  | (with_reducible apply k_i1)
  | (with_reducible apply k_i2)
  | (with_reducible apply k_b)
  | (with_reducible apply k_n)
  | (with_reducible apply k_tx)
  | (with_reducible apply k_t1)
  | (with_reducible apply k_ts)
  | with_reducible apply k_ix_0
  | with_reducible apply k_ix_1
  | ((with_reducible apply k_ixT2); next => rfl)
  | with_reducible apply gx_name
  | with_reducible apply gx_tup2
  | with_reducible apply gx_tup3
  | with_reducible refine (fun (p : Addr) => (?_ : seqO _ _ _ _))
  | with_reducible refine (fun (p : Addr) => (?_ : lpO _ _ _ _))
  | with_reducible refine (fun (p : Addr) => (?_ : liO _ _))
  | (with_reducible apply k_d2)
  | (with_reducible apply k_sg)
  | ((with_reducible show Sx _ _ _ _ _ _ _ _); (first | (with_reducible apply sx_seq) | (with_reducible apply sx_if) | (with_reducible apply sx_setX) | (with_reducible apply sx_set2X) | (with_reducible apply sx_dropX) | (with_reducible apply sx_raise) | (with_reducible refine sx_retN (el_lst ?_)) | (with_reducible refine sx_retN (el_call ?_)) | (with_reducible refine sx_retN (el_lc ?_)) | (with_reducible refine sx_retN (el_list ?_)) | (with_reducible refine sx_retN (el_cat ?_)) | (with_reducible apply sx_ret) | (with_reducible apply sx_retNone) | (with_reducible apply sx_ofA) | (with_reducible apply sx_ofD) | (with_reducible apply sx_ofN)))
  | ((with_reducible show sqX _ _ _ _ _ _ _ _); (first | (with_reducible apply q_nx) | (with_reducible apply q_rt) | (with_reducible apply q_rn) | (with_reducible apply q_bk) | (with_reducible apply q_ct)))
  | ((with_reducible show liO _ _); (first | (with_reducible apply li_nx) | (with_reducible apply li_bk) | (with_reducible apply li_ct)))
  | (with_reducible apply rx_rt)
  | (with_reducible apply wx_rt))
local macro_rules | `(tactic| walk_at "ds") => `(tactic| repeat walk_at "ds1")
local macro_rules | `(tactic| walk_at "d0") => `(tactic| (try simp only [cx_K, cx_K', List.map_cons, List.map_nil]))
local macro_rules | `(tactic| walk_at "da") => `(tactic| repeat first | walk_at "ds1" | (with_reducible apply sv_cut) | (with_reducible apply sx_cut))
section
variable {P : Program} {w : World} {K : PySem.W.Frag} {mg : Str → Option Value} {base : Heap}
theorem k_dr_next {m : Int} {S : Da → Prop} (h : 0 < m) (q : ∀ r, 0 ≤ r → r < m → S (.int r)) : DrOk K sp_Lnext [.da (.int m)] S := fun d l ws H Q E hD r k => by
  obtain ⟨v, rfl, r1⟩ := vls_one r
  have e := vl_atm r1 rfl
  subst e
  exact ⟨d, l, m, rfl, hD, h, fun r H' h0 h1 hD' hB => k (.int r) _ H' (q r h0 h1) hD' hB (.int r)⟩
end
end My
namespace My
open PySem L2
local macro_rules | `(tactic| walk_at "rd") => `(tactic| simp only [tSeq, tNext, tAsg, tOp, tUn, tC, tVar, gName, gSub, tCons, tNil, tCB, tIfS, tIf, tTest, tB, tAnd, tOr, tNot, tAndV, tOrV, tNotV, tRet, tRetN, tDrop, tLst, tTup, tCall, tSl, tNoPart, tPart, tM0, tM1, tBM, tBM0, tYes, tFor_eq, tLc_eq, iList, iRng1, iRng2, iStr, sg_tx, c_empty, rstrip_sign, find_sign, cut_last, cut_to, cut_from, cut_mid, cut_to_lit, cut_from_lit, and_assoc, flat_rep, List.length_replicate, tx_len, tx_eq, tx_app, tx_cps, rI0, rI, rU, rEq, rNe, rIxL, rIxS, rIxT, rSetL, rAppend, rPopAt, rSlS, rSlL, rIn, rMulS, rLtD, rJoin, rLenQ, rListOf,  tRevS, 
  scal, L2.start, List.map_cons, List.map_nil, List.length_cons, List.length_nil, List.replicate, List.cons_append, List.nil_append, List.append_nil,
  List.getElem?_cons_zero, List.getElem?_cons_succ, List.set_cons_zero, List.set_cons_succ, Nat.sub_zero, Nat.reduceSub, Nat.reduceAdd, Nat.zero_add, id_eq, Int.reduceToNat, exists_or,
  V.int.injEq, V.str.injEq, V.bl.injEq, V.ref.injEq, Option.some.injEq, List.cons.injEq, exists_and_left, exists_eq_left', exists_eq_left, exists_eq, exists_eq', and_true, true_and, reduceCtorEq, false_and, and_false, exists_false, false_or, or_false, decide_eq_true_eq, Bool.not_eq_true', decide_eq_false_iff_not, Bool.not_not, Bool.false_eq_true, ↓reduceIte, if_true, if_false])

local macro_rules | `(tactic| walk_at "ne") => `(tactic| first | assumption | (refine Ne.symm ?_; assumption) | exact (ne_of_none (by assumption) (by assumption)) | exact (ne_of_none (by assumption) (by assumption)).symm)
local macro_rules | `(tactic| walk_at "hp") => `(tactic| first | assumption | exact upd_same | exact (upd_ne (by walk_at "ne")).trans (by walk_at "hp"))
local macro_rules | `(tactic| walk_at "st1") => `(tactic| first
  | refine ⟨_, Or.inl (Or.inl (by walk_at "hp")), ?_⟩
  | refine ⟨_, Or.inl (Or.inl (Or.inl (by walk_at "hp"))), ?_⟩
  | refine ⟨_, (show _ = some (HO.lst _) by walk_at "hp"), ?_⟩
  | refine ⟨_, rfl, ?_⟩
  | refine ⟨(rfl : ("str" : String) = "str"), ?_⟩
  | refine ⟨Or.inr ⟨by decide, by decide⟩, ?_⟩
  | refine ⟨⟨by decide, by decide⟩, ?_⟩
  | refine ⟨by decide, ?_⟩
  | refine ⟨by assumption, ?_⟩)
local macro_rules | `(tactic| walk_at "st") => `(tactic| repeat walk_at "st1")
local macro_rules | `(tactic| walk_at "go") => `(tactic| repeat first | walk_at "st1" | walk_at "rd")
local macro_rules | `(tactic| walk_at "wk") => `(tactic| repeat first | exact Wk.nil | apply Wk.yes | apply Wk.no)
local macro_rules | `(tactic| walk_at "ds1") => `(tactic| first
  | ((with_reducible show Sv _ _ _ _); (first | (with_reducible apply sv_set2) | (with_reducible apply sv_seq) | (with_reducible apply sv_if) | (((with_reducible apply sv_retO); next => rfl)) | (with_reducible refine sv_retN (el_lst ?_)) | (with_reducible refine sv_retN (el_call ?_)) | (with_reducible refine sv_retN (el_lc ?_)) | (with_reducible refine sv_retN (el_list ?_)) | (with_reducible refine sv_retN (el_cat ?_)) | (with_reducible apply sv_ret) | (with_reducible refine sv_setN (el_lst ?_)) | (with_reducible refine sv_setN (el_call ?_)) | (with_reducible refine sv_setN (el_lc ?_)) | (with_reducible refine sv_setN (el_list ?_)) | (with_reducible refine sv_setN (el_cat ?_)) | (with_reducible refine sv_setN (el_callD rfl ?_)) | (((with_reducible apply sv_putD); next => rfl)) | (with_reducible apply sv_set) | (((with_reducible apply sv_app); next => rfl)) | (((with_reducible apply sv_ext); next => rfl)) | (((with_reducible apply sv_put); next => rfl)) | (with_reducible apply sv_for) | (with_reducible apply sv_nil) | (with_reducible apply sv_retNone) | (with_reducible apply sv_drop)))
  | ((with_reducible show Ev _ _ _ _); (first | (with_reducible apply ev_q0) | (with_reducible apply ev_q1) | (with_reducible apply ev_q2) | (with_reducible apply ev_q3) | (with_reducible apply ev_q4) | (with_reducible apply ev_q5) | (with_reducible apply ev_q6) | (with_reducible apply ev_q7) | (with_reducible apply ev_q8) | (with_reducible apply ev_q9) | (with_reducible apply ev_q10) | (with_reducible apply ev_q11) | (with_reducible apply ev_q12) | (with_reducible apply ev_q13) | (with_reducible apply ev_q14) | (with_reducible apply ev_q15) | (with_reducible apply ev_q16) | (with_reducible apply ev_q17) | (with_reducible apply ev_q18) | (with_reducible apply ev_q19) | (with_reducible apply ev_q20) | (with_reducible apply ev_q21) | (with_reducible apply ev_q22) | (with_reducible apply ev_q23) | (with_reducible apply ev_q24) | (with_reducible apply ev_q25) | (with_reducible apply ev_q26) | (with_reducible apply ev_q27) | (with_reducible apply ev_q28) | (with_reducible apply ev_q29) | (with_reducible apply ev_q30) | (with_reducible apply ev_q31) | (with_reducible apply ev_q32) | (with_reducible apply ev_q33) | (with_reducible apply ev_catX) | (with_reducible apply ev_inS) | (with_reducible apply ev_ninS) | (with_reducible apply ev_joinE) | (with_reducible apply ev_kget) | (((with_reducible apply ev_var); next => rfl)) | (((with_reducible apply ev_varO); next => rfl)) | (((with_reducible apply ev_varL); next => rfl)) | (((with_reducible apply ev_callD); next => rfl)) | (((with_reducible apply ev_dr); next => rfl)) | (with_reducible apply ev_max2) | (with_reducible apply ev_min2) | (with_reducible apply ev_index) | (with_reducible apply ev_eqD) | (with_reducible apply ev_neD) | (with_reducible apply ev_int) | (with_reducible apply ev_bl) | (with_reducible apply ev_non) | (with_reducible apply ev_ixT) | (with_reducible apply ev_call) | (with_reducible apply ev_eq) | (with_reducible apply ev_tup) | (with_reducible apply ev_in) | (with_reducible apply ev_ixL) | (with_reducible apply ev_ne) | (with_reducible apply ev_i0) | (with_reducible apply ev_ib) | (with_reducible apply ev_isi) | (with_reducible apply ev_isN) | (with_reducible apply ev_notN) | (with_reducible apply ev_isB) | (with_reducible apply ev_notB) | (with_reducible apply ev_slT2) | (with_reducible apply ev_catU) | (with_reducible apply ev_iC) | (with_reducible apply ev_ixS) | (with_reducible apply ev_slS) | (with_reducible apply ev_u) | (with_reducible apply ev_notV) | (with_reducible apply ev_if) | (with_reducible apply ev_len) | (with_reducible apply ev_lenS) | (with_reducible apply ev_tuple) | (with_reducible apply ev_all) | (with_reducible refine Ev.ofNew (el_lst ?_)) | (with_reducible refine Ev.ofNew (el_call ?_)) | (with_reducible refine Ev.ofNew (el_lc ?_)) | (with_reducible refine Ev.ofNew (el_list ?_)) | (with_reducible refine Ev.ofNew (el_cat ?_))))
  | ((with_reducible show Es _ _ _ _); (first | (with_reducible apply es_cons) | (with_reducible apply es_nil)))
  | ((with_reducible show Tv _ _ _ _); (first | (with_reducible apply tv_test) | (with_reducible apply tv_not) | (with_reducible apply tv_and) | (with_reducible apply tv_or) | (with_reducible apply tv_b) | (with_reducible apply tv_yes) | (with_reducible apply tv_tru)))
  | ((with_reducible show Eln _ _ _ _); (first | (with_reducible apply el_lst) | (with_reducible apply el_call) | (with_reducible apply el_lc) | (with_reducible apply el_list) | (with_reducible apply el_cat)))
  | ((with_reducible show Eo _ _ _ _); (first | (with_reducible apply eo_no) | (with_reducible apply eo_some)))
  | ((with_reducible show Iv _ _ _ _); (first | (with_reducible apply iv_tup) | (with_reducible apply iv_range1) | (with_reducible apply iv_str) | (with_reducible apply iv_enumT) | (((with_reducible apply iv_listV); next => rfl)) | (((with_reducible apply iv_listO); next => rfl)) | (with_reducible refine iv_listN (el_lst ?_)) | (with_reducible refine iv_listN (el_call ?_)) | (with_reducible refine iv_listN (el_lc ?_)) | (with_reducible refine iv_listN (el_list ?_)) | (with_reducible refine iv_listN (el_cat ?_))))
  | ((with_reducible show Gv _ _ _ _ _ _); (first | (with_reducible apply gv_name) | (with_reducible apply gv_tup2) | (with_reducible apply gv_tup3)))
  | ((with_reducible show seqO _ _ _ _); (first | (with_reducible apply o_nx) | (with_reducible apply o_rt) | (with_reducible apply o_rn) | (with_reducible apply o_bk) | (with_reducible apply o_ct)))
  | ((with_reducible show jnI _ _ _); (first | (with_reducible apply ji_nx) | (with_reducible apply ji_rt) | (with_reducible apply ji_rn) | (with_reducible apply ji_bk) | (with_reducible apply ji_ct)))
  | ((with_reducible show jnO _ _ _); (first | (with_reducible apply j_nx) | (with_reducible apply j_rt) | (with_reducible apply j_rn) | (with_reducible apply j_bk) | (with_reducible apply j_ct)))
  | ((with_reducible show lpO _ _ _ _); (first | (with_reducible apply l_rt) | (with_reducible apply l_rn) | (with_reducible apply l_ct) | (with_reducible apply l_nx')))
  | ((with_reducible show retO _ _); (first | (with_reducible apply r_rt) | (with_reducible apply r_nx)))
  | (with_reducible apply r_rn)
  | ((with_reducible show KIf _ _ _); (first | (((with_reducible apply k_ift); next => first | decide +kernel | rfl)) | (((with_reducible apply k_iff); next => first | decide +kernel | rfl))))
  | ((with_reducible show KEq _ _ _); (first | (with_reducible apply k_eqS) | (with_reducible apply k_eqI) | (with_reducible apply k_eqB) | (((with_reducible apply k_eqO); next => rfl; next => rfl; next => rfl; next => rfl))))
  | ((with_reducible show KDas _ _); (first | (with_reducible apply k_das_0) | (with_reducible apply k_das_1) | (with_reducible apply k_das_2) | (with_reducible apply k_das_3) | (with_reducible apply k_das_4) | (with_reducible apply k_das_5) | (with_reducible apply k_das_6) | (with_reducible apply k_das_7) | (with_reducible apply k_das_8) | (with_reducible apply k_das_9) | (with_reducible apply k_das_10) | (with_reducible apply k_das_11) | (with_reducible apply k_das_12) | (with_reducible apply k_das_13) | (with_reducible apply k_das_14) | (with_reducible apply k_das_15) | (with_reducible apply k_das_16)))
  | ((with_reducible show KIn _ _ _); (first | (with_reducible apply k_inT_0) | (with_reducible apply k_inL_0) | (with_reducible apply k_inT_1) | (with_reducible apply k_inL_1) | (with_reducible apply k_inT_2) | (with_reducible apply k_inL_2) | (with_reducible apply k_inT_3) | (with_reducible apply k_inL_3) | (with_reducible apply k_inT_4) | (with_reducible apply k_inL_4) | (with_reducible apply k_inT_5) | (with_reducible apply k_inL_5) | (with_reducible apply k_inT_6) | (with_reducible apply k_inL_6) | (with_reducible apply k_inT_7) | (with_reducible apply k_inL_7) | (with_reducible apply k_inT_8) | (with_reducible apply k_inL_8) | (with_reducible apply k_inT_9) | (with_reducible apply k_inL_9) | (with_reducible apply k_inT_10) | (with_reducible apply k_inL_10) | (with_reducible apply k_inT_11) | (with_reducible apply k_inL_11) | (with_reducible apply k_inT_12) | (with_reducible apply k_inL_12) | (with_reducible apply k_inN) | (((with_reducible apply k_inT); next => rfl; next => rfl)) | (((with_reducible apply k_inL); next => rfl; next => rfl))))
  | ((with_reducible show KEqD _ _ _); (first | (with_reducible apply k_eqIntsC) | (with_reducible apply k_eqInts0) | (with_reducible apply k_eqInts)))
  | (with_reducible apply k_put0)
  | ((with_reducible show KTy _ _ _); (first | (with_reducible apply k_ty_tup_tuple) | (with_reducible apply k_ty_tup_bool) | (with_reducible apply k_ty_tup_int) | (with_reducible apply k_ty_tup_str) | (with_reducible apply k_ty_tup_list) | (with_reducible apply k_ty_ls_tuple) | (with_reducible apply k_ty_ls_bool) | (with_reducible apply k_ty_ls_int) | (with_reducible apply k_ty_ls_str) | (with_reducible apply k_ty_ls_list) | (with_reducible apply k_ty_int_tuple) | (with_reducible apply k_ty_int_bool) | (with_reducible apply k_ty_int_int) | (with_reducible apply k_ty_int_str) | (with_reducible apply k_ty_int_list) | (with_reducible apply k_ty_str_tuple) | (with_reducible apply k_ty_str_bool) | (with_reducible apply k_ty_str_int) | (with_reducible apply k_ty_str_str) | (with_reducible apply k_ty_str_list) | (with_reducible apply k_ty_bl_tuple) | (with_reducible apply k_ty_bl_bool) | (with_reducible apply k_ty_bl_int) | (with_reducible apply k_ty_bl_str) | (with_reducible apply k_ty_bl_list) | (with_reducible apply k_ty_non_tuple) | (with_reducible apply k_ty_non_bool) | (with_reducible apply k_ty_non_int) | (with_reducible apply k_ty_non_str) | (with_reducible apply k_ty_non_list)))
  | ((with_reducible show KSl _ _ _ _); (first | (with_reducible apply k_sl_1) | (with_reducible apply k_sl_2) | (with_reducible apply k_sl_m2) | (with_reducible apply k_sl_m3) | (with_reducible apply k_sl_m4) | (with_reducible apply k_sl_m5)))
  | ((with_reducible show KCat _ _ _); (first | (with_reducible apply k_cat1) | (with_reducible apply k_cat2) | (with_reducible apply k_cat3) | (with_reducible apply k_cat23)))
  | ((with_reducible show KLen _ _); (first | (with_reducible apply k_lenT) | (with_reducible apply k_lenL)))
  | ((with_reducible show KSq _ _); (first | (with_reducible apply k_sqT) | (with_reducible apply k_sqL)))
  | (with_reducible apply k_i2s)
  | (with_reducible apply k_d)
  | ((with_reducible show KT _ _); (first | (with_reducible apply k_t) | (with_reducible apply k_tT)))
  | (with_reducible apply k_l)
  | (with_reducible apply k_i1)
  | (with_reducible apply k_i2)
  | (with_reducible apply k_b)
  | (with_reducible apply k_n)
  | (with_reducible apply k_tx)
  | (with_reducible apply k_t1)
  | (with_reducible apply k_ts)
  | with_reducible apply k_ix_0
  | with_reducible apply k_ix_1
  | ((with_reducible apply k_ixT2); next => rfl)
  | with_reducible apply gx_name
  | with_reducible apply gx_tup2
  | with_reducible apply gx_tup3
  | with_reducible refine (fun (p : Addr) => (?_ : seqO _ _ _ _))
  | with_reducible refine (fun (p : Addr) => (?_ : lpO _ _ _ _))
  | with_reducible refine (fun (p : Addr) => (?_ : liO _ _))
  | (with_reducible apply k_d2)
  | (with_reducible apply k_sg)
  | ((with_reducible show Sx _ _ _ _ _ _ _ _); (first | (with_reducible apply sx_seq) | (with_reducible apply sx_if) | (with_reducible apply sx_setX) | (with_reducible apply sx_set2X) | (with_reducible apply sx_dropX) | (with_reducible apply sx_raise) | (with_reducible refine sx_retN (el_lst ?_)) | (with_reducible refine sx_retN (el_call ?_)) | (with_reducible refine sx_retN (el_lc ?_)) | (with_reducible refine sx_retN (el_list ?_)) | (with_reducible refine sx_retN (el_cat ?_)) | (with_reducible apply sx_ret) | (with_reducible apply sx_retNone) | (with_reducible apply sx_ofA) | (with_reducible apply sx_ofD) | (with_reducible apply sx_ofN)))
  | ((with_reducible show sqX _ _ _ _ _ _ _ _); (first | (with_reducible apply q_nx) | (with_reducible apply q_rt) | (with_reducible apply q_rn) | (with_reducible apply q_bk) | (with_reducible apply q_ct)))
  | ((with_reducible show liO _ _); (first | (with_reducible apply li_nx) | (with_reducible apply li_bk) | (with_reducible apply li_ct)))
  | (with_reducible apply rx_rt)
  | (with_reducible apply wx_rt))
local macro_rules | `(tactic| walk_at "ds") => `(tactic| repeat walk_at "ds1")
local macro_rules | `(tactic| walk_at "d0") => `(tactic| (try simp only [cx_K, cx_K', List.map_cons, List.map_nil]))
local macro_rules | `(tactic| walk_at "da") => `(tactic| repeat first | walk_at "ds1" | (with_reducible apply sv_cut) | (with_reducible apply sx_cut))
section
variable {P : Program} {w : World} {K : PySem.W.Frag} {mg : Str → Option Value} {base : Heap}
theorem lk1 {a b : List Nat} {x : Str} {r : List (Str × Str)} (h : a = b) : List.lookup (tx a) ((tx b, x) :: r) = some x := by subst h; rw [List.lookup_cons, beq_self_eq_true]
theorem lk2 {a b : List Nat} {x : Str} {r : List (Str × Str)} (h : a ≠ b) : List.lookup (tx a) ((tx b, x) :: r) = List.lookup (tx a) r := by
  have e : (tx a == tx b) = false := beq_false_of_ne (fun e => h (by rwa [tx_eq] at e))
  rw [List.lookup_cons, e]
theorem kt_ess (c : Nat) : ktS [(Str.ofString "\n", Str.ofString "\\n"), (Str.ofString "\t", Str.ofString "\\t")] (tx [c]) (tx [c]) = tx (if c = 10 then [92, 110] else if c = 9 then [92, 116] else [c]) := by
  rw [show Str.ofString "\n" = tx [10] by decide +kernel, show Str.ofString "\\n" = tx [92, 110] by decide +kernel, show Str.ofString "\t" = tx [9] by decide +kernel, show Str.ofString "\\t" = tx [92, 116] by decide +kernel]
  unfold ktS
  by_cases h1 : c = 10
  · rw [lk1 (by rw [h1]), if_pos h1]
  · rw [lk2 (fun e => h1 (by simpa using e)), if_neg h1]
    by_cases h2 : c = 9
    · rw [lk1 (by rw [h2]), if_pos h2]
    · rw [lk2 (fun e => h2 (by simpa using e)), if_neg h2]
      rfl
theorem kt_esd (c : Nat) : ktS [(Str.ofString "n", Str.ofString "\n"), (Str.ofString "t", Str.ofString "\t")] (tx [c]) (tx [c]) = tx [unesc c] := by
  rw [show Str.ofString "\n" = tx [10] by decide +kernel, show Str.ofString "n" = tx [110] by decide +kernel, show Str.ofString "\t" = tx [9] by decide +kernel, show Str.ofString "t" = tx [116] by decide +kernel]
  unfold ktS unesc
  by_cases h1 : c = 110
  · rw [lk1 (by rw [h1]), if_pos h1]
  · rw [lk2 (fun e => h1 (by simpa using e)), if_neg h1]
    by_cases h2 : c = 116
    · rw [lk1 (by rw [h2]), if_pos h2]
    · rw [lk2 (fun e => h2 (by simpa using e)), if_neg h2]
      rfl
theorem decT {p : Prop} [Decidable p] (h : p) : decide p = true := decide_eq_true h
theorem decF {p : Prop} [Decidable p] (h : ¬p) : decide p = false := decide_eq_false h
theorem toL {n : Nat} (h : n ≤ 16000000) : n ≤ sizeLine := Nat.le_of_lt (toLineB h)
theorem txL {cs : List Nat} (h : cs.length ≤ 16000000) : (tx cs).length ≤ sizeLine := by rw [tx_len]; exact toL h
def ptD : Pt → Da
  | .te s => .tup [.str (tx [116, 101, 120, 116]), .str (tx s)]
  | .wh => .tup [.str (tx [119, 104, 111, 108, 101])]
  | .gr n o => .tup [.str (tx [103, 114, 111, 117, 112]), .str (tx n), .str (tx o)]
theorem esc_len (sp : List Nat) (c : Nat) : (esc sp c).length ≤ 2 := by
  unfold esc
  split
  · simp
  · split
    · simp
    · split <;> simp
theorem map_sum_le {α : Type} (f : α → Nat) (b : Nat) : ∀ l : List α, (∀ x ∈ l, f x ≤ b) → (l.map f).sum ≤ b * l.length
  | [], _ => by simp
  | x :: l, h => by
    have h1 := map_sum_le f b l (fun y hy => h y (List.mem_cons_of_mem _ hy))
    have h2 := h x (List.mem_cons_self ..)
    rw [List.map_cons, List.sum_cons, List.length_cons, Nat.mul_add, Nat.mul_one]
    omega
theorem filt_true {α β : Type} (l : List α) (f : α → β) : (l.filter fun _ => true).map f = l.map f := by rw [List.filter_eq_self.mpr (fun _ _ => rfl)]
theorem ev_andF {K : PySem.W.Frag} {env : Evn} {S : Vl → Prop} {ta tb : TE} {a : Bool} (ha : Ev K env ta fun x => x = .da (.bl a)) (hb : Ev K env tb fun y => KB y fun _ => True) (s : ∀ b, (b = true → a = true) → S (.da (.bl b))) : Ev K env (tAndV ta tb) S := ev_andV (ha.imp fun x hx => by
  subst hx
  refine ⟨a, rfl, ?_⟩
  cases a
  · exact k_iff rfl (s false (fun z => by cases z))
  · exact k_ift rfl (hb.imp fun y ⟨b, e, _⟩ => by subst e; exact s b (fun _ => rfl)))
theorem dq_f {a b : List Nat} (h : a ≠ b) : decide (tx a = tx b) = false := decide_eq_false (by rw [tx_eq]; exact h)
theorem nq_t {a b : List Nat} (h : a ≠ b) : (!decide (tx a = tx b)) = true := by rw [dq_f h]; rfl
theorem one_ne {a b : Nat} (h : a ≠ b) : [a] ≠ [b] := fun e => h (by simpa using e)
end
end My
namespace My
open PySem L2
local macro_rules | `(tactic| walk_at "rd") => `(tactic| simp only [tSeq, tNext, tAsg, tOp, tUn, tC, tVar, gName, gSub, tCons, tNil, tCB, tIfS, tIf, tTest, tB, tAnd, tOr, tNot, tAndV, tOrV, tNotV, tRet, tRetN, tDrop, tLst, tTup, tCall, tSl, tNoPart, tPart, tM0, tM1, tBM, tBM0, tYes, tFor_eq, tLc_eq, iList, iRng1, iRng2, iStr, sg_tx, c_empty, rstrip_sign, find_sign, cut_last, cut_to, cut_from, cut_mid, cut_to_lit, cut_from_lit, and_assoc, flat_rep, List.length_replicate, tx_len, tx_eq, tx_app, tx_cps, rI0, rI, rU, rEq, rNe, rIxL, rIxS, rIxT, rSetL, rAppend, rPopAt, rSlS, rSlL, rIn, rMulS, rLtD, rJoin, rLenQ, rListOf,  tRevS, 
  scal, L2.start, List.map_cons, List.map_nil, List.length_cons, List.length_nil, List.replicate, List.cons_append, List.nil_append, List.append_nil,
  List.getElem?_cons_zero, List.getElem?_cons_succ, List.set_cons_zero, List.set_cons_succ, Nat.sub_zero, Nat.reduceSub, Nat.reduceAdd, Nat.zero_add, id_eq, Int.reduceToNat, exists_or,
  V.int.injEq, V.str.injEq, V.bl.injEq, V.ref.injEq, Option.some.injEq, List.cons.injEq, exists_and_left, exists_eq_left', exists_eq_left, exists_eq, exists_eq', and_true, true_and, reduceCtorEq, false_and, and_false, exists_false, false_or, or_false, decide_eq_true_eq, Bool.not_eq_true', decide_eq_false_iff_not, Bool.not_not, Bool.false_eq_true, ↓reduceIte, if_true, if_false])

local macro_rules | `(tactic| walk_at "ne") => `(tactic| first | assumption | (refine Ne.symm ?_; assumption) | exact (ne_of_none (by assumption) (by assumption)) | exact (ne_of_none (by assumption) (by assumption)).symm)
local macro_rules | `(tactic| walk_at "hp") => `(tactic| first | assumption | exact upd_same | exact (upd_ne (by walk_at "ne")).trans (by walk_at "hp"))
local macro_rules | `(tactic| walk_at "st1") => `(tactic| first
  | refine ⟨_, Or.inl (Or.inl (by walk_at "hp")), ?_⟩
  | refine ⟨_, Or.inl (Or.inl (Or.inl (by walk_at "hp"))), ?_⟩
  | refine ⟨_, (show _ = some (HO.lst _) by walk_at "hp"), ?_⟩
  | refine ⟨_, rfl, ?_⟩
  | refine ⟨(rfl : ("str" : String) = "str"), ?_⟩
  | refine ⟨Or.inr ⟨by decide, by decide⟩, ?_⟩
  | refine ⟨⟨by decide, by decide⟩, ?_⟩
  | refine ⟨by decide, ?_⟩
  | refine ⟨by assumption, ?_⟩)
local macro_rules | `(tactic| walk_at "st") => `(tactic| repeat walk_at "st1")
local macro_rules | `(tactic| walk_at "go") => `(tactic| repeat first | walk_at "st1" | walk_at "rd")
local macro_rules | `(tactic| walk_at "wk") => `(tactic| repeat first | exact Wk.nil | apply Wk.yes | apply Wk.no)
local macro_rules | `(tactic| walk_at "ds1") => `(tactic| first
  | ((with_reducible show Sv _ _ _ _); (first | (with_reducible apply sv_set2) | (with_reducible apply sv_seq) | (with_reducible apply sv_if) | (((with_reducible apply sv_retO); next => rfl)) | (with_reducible refine sv_retN (el_lst ?_)) | (with_reducible refine sv_retN (el_call ?_)) | (with_reducible refine sv_retN (el_lc ?_)) | (with_reducible refine sv_retN (el_list ?_)) | (with_reducible refine sv_retN (el_cat ?_)) | (with_reducible apply sv_ret) | (with_reducible refine sv_setN (el_lst ?_)) | (with_reducible refine sv_setN (el_call ?_)) | (with_reducible refine sv_setN (el_lc ?_)) | (with_reducible refine sv_setN (el_list ?_)) | (with_reducible refine sv_setN (el_cat ?_)) | (with_reducible refine sv_setN (el_callD rfl ?_)) | (((with_reducible apply sv_putD); next => rfl)) | (with_reducible apply sv_set) | (((with_reducible apply sv_app); next => rfl)) | (((with_reducible apply sv_ext); next => rfl)) | (((with_reducible apply sv_put); next => rfl)) | (with_reducible apply sv_for) | (with_reducible apply sv_nil) | (with_reducible apply sv_retNone) | (with_reducible apply sv_drop)))
  | ((with_reducible show Ev _ _ _ _); (first | (with_reducible apply ev_q0) | (with_reducible apply ev_q1) | (with_reducible apply ev_q2) | (with_reducible apply ev_q3) | (with_reducible apply ev_q4) | (with_reducible apply ev_q5) | (with_reducible apply ev_q6) | (with_reducible apply ev_q7) | (with_reducible apply ev_q8) | (with_reducible apply ev_q9) | (with_reducible apply ev_q10) | (with_reducible apply ev_q11) | (with_reducible apply ev_q12) | (with_reducible apply ev_q13) | (with_reducible apply ev_q14) | (with_reducible apply ev_q15) | (with_reducible apply ev_q16) | (with_reducible apply ev_q17) | (with_reducible apply ev_q18) | (with_reducible apply ev_q19) | (with_reducible apply ev_q20) | (with_reducible apply ev_q21) | (with_reducible apply ev_q22) | (with_reducible apply ev_q23) | (with_reducible apply ev_q24) | (with_reducible apply ev_q25) | (with_reducible apply ev_q26) | (with_reducible apply ev_q27) | (with_reducible apply ev_q28) | (with_reducible apply ev_q29) | (with_reducible apply ev_q30) | (with_reducible apply ev_q31) | (with_reducible apply ev_q32) | (with_reducible apply ev_q33) | (with_reducible apply ev_catX) | (with_reducible apply ev_inS) | (with_reducible apply ev_ninS) | (with_reducible apply ev_joinE) | (with_reducible apply ev_kget) | (((with_reducible apply ev_var); next => rfl)) | (((with_reducible apply ev_varO); next => rfl)) | (((with_reducible apply ev_varL); next => rfl)) | (((with_reducible apply ev_callD); next => rfl)) | (((with_reducible apply ev_dr); next => rfl)) | (with_reducible apply ev_max2) | (with_reducible apply ev_min2) | (with_reducible apply ev_index) | (with_reducible apply ev_eqD) | (with_reducible apply ev_neD) | (with_reducible apply ev_int) | (with_reducible apply ev_bl) | (with_reducible apply ev_non) | (with_reducible apply ev_ixT) | (with_reducible apply ev_call) | (with_reducible apply ev_eq) | (with_reducible apply ev_tup) | (with_reducible apply ev_in) | (with_reducible apply ev_ixL) | (with_reducible apply ev_ne) | (with_reducible apply ev_i0) | (with_reducible apply ev_ib) | (with_reducible apply ev_isi) | (with_reducible apply ev_isN) | (with_reducible apply ev_notN) | (with_reducible apply ev_isB) | (with_reducible apply ev_notB) | (with_reducible apply ev_slT2) | (with_reducible apply ev_catU) | (with_reducible apply ev_iC) | (with_reducible apply ev_ixS) | (with_reducible apply ev_slS) | (with_reducible apply ev_u) | (with_reducible apply ev_notV) | (with_reducible apply ev_if) | (with_reducible apply ev_len) | (with_reducible apply ev_lenS) | (with_reducible apply ev_tuple) | (with_reducible apply ev_all) | (with_reducible refine Ev.ofNew (el_lst ?_)) | (with_reducible refine Ev.ofNew (el_call ?_)) | (with_reducible refine Ev.ofNew (el_lc ?_)) | (with_reducible refine Ev.ofNew (el_list ?_)) | (with_reducible refine Ev.ofNew (el_cat ?_))))
  | ((with_reducible show Es _ _ _ _); (first | (with_reducible apply es_cons) | (with_reducible apply es_nil)))
  | ((with_reducible show Tv _ _ _ _); (first | (with_reducible apply tv_test) | (with_reducible apply tv_not) | (with_reducible apply tv_and) | (with_reducible apply tv_or) | (with_reducible apply tv_b) | (with_reducible apply tv_yes) | (with_reducible apply tv_tru)))
  | ((with_reducible show Eln _ _ _ _); (first | (with_reducible apply el_lst) | (with_reducible apply el_call) | (with_reducible apply el_lc) | (with_reducible apply el_list) | (with_reducible apply el_cat)))
  | ((with_reducible show Eo _ _ _ _); (first | (with_reducible apply eo_no) | (with_reducible apply eo_some)))
  | ((with_reducible show Iv _ _ _ _); (first | (with_reducible apply iv_tup) | (with_reducible apply iv_range1) | (with_reducible apply iv_str) | (with_reducible apply iv_enumT) | (((with_reducible apply iv_listV); next => rfl)) | (((with_reducible apply iv_listO); next => rfl)) | (with_reducible refine iv_listN (el_lst ?_)) | (with_reducible refine iv_listN (el_call ?_)) | (with_reducible refine iv_listN (el_lc ?_)) | (with_reducible refine iv_listN (el_list ?_)) | (with_reducible refine iv_listN (el_cat ?_))))
  | ((with_reducible show Gv _ _ _ _ _ _); (first | (with_reducible apply gv_name) | (with_reducible apply gv_tup2) | (with_reducible apply gv_tup3)))
  | ((with_reducible show seqO _ _ _ _); (first | (with_reducible apply o_nx) | (with_reducible apply o_rt) | (with_reducible apply o_rn) | (with_reducible apply o_bk) | (with_reducible apply o_ct)))
  | ((with_reducible show jnI _ _ _); (first | (with_reducible apply ji_nx) | (with_reducible apply ji_rt) | (with_reducible apply ji_rn) | (with_reducible apply ji_bk) | (with_reducible apply ji_ct)))
  | ((with_reducible show jnO _ _ _); (first | (with_reducible apply j_nx) | (with_reducible apply j_rt) | (with_reducible apply j_rn) | (with_reducible apply j_bk) | (with_reducible apply j_ct)))
  | ((with_reducible show lpO _ _ _ _); (first | (with_reducible apply l_rt) | (with_reducible apply l_rn) | (with_reducible apply l_ct) | (with_reducible apply l_nx')))
  | ((with_reducible show retO _ _); (first | (with_reducible apply r_rt) | (with_reducible apply r_nx)))
  | (with_reducible apply r_rn)
  | ((with_reducible show KIf _ _ _); (first | (((with_reducible apply k_ift); next => first | decide +kernel | rfl)) | (((with_reducible apply k_iff); next => first | decide +kernel | rfl))))
  | ((with_reducible show KEq _ _ _); (first | (with_reducible apply k_eqS) | (with_reducible apply k_eqI) | (with_reducible apply k_eqB) | (((with_reducible apply k_eqO); next => rfl; next => rfl; next => rfl; next => rfl))))
  | ((with_reducible show KDas _ _); (first | (with_reducible apply k_das_0) | (with_reducible apply k_das_1) | (with_reducible apply k_das_2) | (with_reducible apply k_das_3) | (with_reducible apply k_das_4) | (with_reducible apply k_das_5) | (with_reducible apply k_das_6) | (with_reducible apply k_das_7) | (with_reducible apply k_das_8) | (with_reducible apply k_das_9) | (with_reducible apply k_das_10) | (with_reducible apply k_das_11) | (with_reducible apply k_das_12) | (with_reducible apply k_das_13) | (with_reducible apply k_das_14) | (with_reducible apply k_das_15) | (with_reducible apply k_das_16)))
  | ((with_reducible show KIn _ _ _); (first | (with_reducible apply k_inT_0) | (with_reducible apply k_inL_0) | (with_reducible apply k_inT_1) | (with_reducible apply k_inL_1) | (with_reducible apply k_inT_2) | (with_reducible apply k_inL_2) | (with_reducible apply k_inT_3) | (with_reducible apply k_inL_3) | (with_reducible apply k_inT_4) | (with_reducible apply k_inL_4) | (with_reducible apply k_inT_5) | (with_reducible apply k_inL_5) | (with_reducible apply k_inT_6) | (with_reducible apply k_inL_6) | (with_reducible apply k_inT_7) | (with_reducible apply k_inL_7) | (with_reducible apply k_inT_8) | (with_reducible apply k_inL_8) | (with_reducible apply k_inT_9) | (with_reducible apply k_inL_9) | (with_reducible apply k_inT_10) | (with_reducible apply k_inL_10) | (with_reducible apply k_inT_11) | (with_reducible apply k_inL_11) | (with_reducible apply k_inT_12) | (with_reducible apply k_inL_12) | (with_reducible apply k_inN) | (((with_reducible apply k_inT); next => rfl; next => rfl)) | (((with_reducible apply k_inL); next => rfl; next => rfl))))
  | ((with_reducible show KEqD _ _ _); (first | (with_reducible apply k_eqIntsC) | (with_reducible apply k_eqInts0) | (with_reducible apply k_eqInts)))
  | (with_reducible apply k_put0)
  | ((with_reducible show KTy _ _ _); (first | (with_reducible apply k_ty_tup_tuple) | (with_reducible apply k_ty_tup_bool) | (with_reducible apply k_ty_tup_int) | (with_reducible apply k_ty_tup_str) | (with_reducible apply k_ty_tup_list) | (with_reducible apply k_ty_ls_tuple) | (with_reducible apply k_ty_ls_bool) | (with_reducible apply k_ty_ls_int) | (with_reducible apply k_ty_ls_str) | (with_reducible apply k_ty_ls_list) | (with_reducible apply k_ty_int_tuple) | (with_reducible apply k_ty_int_bool) | (with_reducible apply k_ty_int_int) | (with_reducible apply k_ty_int_str) | (with_reducible apply k_ty_int_list) | (with_reducible apply k_ty_str_tuple) | (with_reducible apply k_ty_str_bool) | (with_reducible apply k_ty_str_int) | (with_reducible apply k_ty_str_str) | (with_reducible apply k_ty_str_list) | (with_reducible apply k_ty_bl_tuple) | (with_reducible apply k_ty_bl_bool) | (with_reducible apply k_ty_bl_int) | (with_reducible apply k_ty_bl_str) | (with_reducible apply k_ty_bl_list) | (with_reducible apply k_ty_non_tuple) | (with_reducible apply k_ty_non_bool) | (with_reducible apply k_ty_non_int) | (with_reducible apply k_ty_non_str) | (with_reducible apply k_ty_non_list)))
  | ((with_reducible show KSl _ _ _ _); (first | (with_reducible apply k_sl_1) | (with_reducible apply k_sl_2) | (with_reducible apply k_sl_m2) | (with_reducible apply k_sl_m3) | (with_reducible apply k_sl_m4) | (with_reducible apply k_sl_m5)))
  | ((with_reducible show KCat _ _ _); (first | (with_reducible apply k_cat1) | (with_reducible apply k_cat2) | (with_reducible apply k_cat3) | (with_reducible apply k_cat23)))
  | ((with_reducible show KLen _ _); (first | (with_reducible apply k_lenT) | (with_reducible apply k_lenL)))
  | ((with_reducible show KSq _ _); (first | (with_reducible apply k_sqT) | (with_reducible apply k_sqL)))
  | (with_reducible apply k_i2s)
  | (with_reducible apply k_d)
  | ((with_reducible show KT _ _); (first | (with_reducible apply k_t) | (with_reducible apply k_tT)))
  | (with_reducible apply k_l)
  | (with_reducible apply k_i1)
  | (with_reducible apply k_i2)
  | (with_reducible apply k_b)
  | (with_reducible apply k_n)
  | (with_reducible apply k_tx)
  | (with_reducible apply k_t1)
  | (with_reducible apply k_ts)
  | with_reducible apply k_ix_0
  | with_reducible apply k_ix_1
  | ((with_reducible apply k_ixT2); next => rfl)
  | with_reducible apply gx_name
  | with_reducible apply gx_tup2
  | with_reducible apply gx_tup3
  | with_reducible refine (fun (p : Addr) => (?_ : seqO _ _ _ _))
  | with_reducible refine (fun (p : Addr) => (?_ : lpO _ _ _ _))
  | with_reducible refine (fun (p : Addr) => (?_ : liO _ _))
  | (with_reducible apply k_d2)
  | (with_reducible apply k_sg)
  | ((with_reducible show Sx _ _ _ _ _ _ _ _); (first | (with_reducible apply sx_seq) | (with_reducible apply sx_if) | (with_reducible apply sx_setX) | (with_reducible apply sx_set2X) | (with_reducible apply sx_dropX) | (with_reducible apply sx_raise) | (with_reducible refine sx_retN (el_lst ?_)) | (with_reducible refine sx_retN (el_call ?_)) | (with_reducible refine sx_retN (el_lc ?_)) | (with_reducible refine sx_retN (el_list ?_)) | (with_reducible refine sx_retN (el_cat ?_)) | (with_reducible apply sx_ret) | (with_reducible apply sx_retNone) | (with_reducible apply sx_ofA) | (with_reducible apply sx_ofD) | (with_reducible apply sx_ofN)))
  | ((with_reducible show sqX _ _ _ _ _ _ _ _); (first | (with_reducible apply q_nx) | (with_reducible apply q_rt) | (with_reducible apply q_rn) | (with_reducible apply q_bk) | (with_reducible apply q_ct)))
  | ((with_reducible show liO _ _); (first | (with_reducible apply li_nx) | (with_reducible apply li_bk) | (with_reducible apply li_ct)))
  | (with_reducible apply rx_rt)
  | (with_reducible apply wx_rt))
local macro_rules | `(tactic| walk_at "ds") => `(tactic| repeat walk_at "ds1")
local macro_rules | `(tactic| walk_at "d0") => `(tactic| (try simp only [cx_K, cx_K', List.map_cons, List.map_nil]))
local macro_rules | `(tactic| walk_at "da") => `(tactic| repeat first | walk_at "ds1" | (with_reducible apply sv_cut) | (with_reducible apply sx_cut))
section
variable {P : Program} {w : World} {K : PySem.W.Frag} {mg : Str → Option Value} {base : Heap}
theorem sig_at {L : List Nat} {r : Int} (h0 : 0 ≤ r) (h1 : r < L.length) : ∃ c, atI L r = some c ∧ c ∈ L := by
  obtain ⟨j, e, h, hj⟩ := atI_pos h0 h1
  exact ⟨_, hj, List.getElem_mem h⟩
def pre_sgs : List Vl → (Vl → Prop) → Prop := fun xs R => xs = [] ∧ R (.da (.str (tx SG)))
theorem ev_sgs {K : PySem.W.Frag} {env : Evn} {S : Vl → Prop} {X : XK} (h : S (.da (.str (tx SG)))) : Ev K env (tCall sp_Lsigns [] X tNil) S := fun H0 dl hs σ H Q E k => ⟨rfl, k _ _ H h (.refl _ _) E.dlat (.str _)⟩
def pre_nn : List Vl → (Vl → Prop) → Prop := fun xs R => xs = [] ∧ ∀ n, NmOk n → R (.da (.str (tx n)))
theorem ok_Lnew_name (T : Top K mg) : FnOk P w K mg base CX0 2 T.f_Lnew_name T.fd_Lnew_name ["_law_draw_here"] (sp_dr K pre_nn) := by
  refine T.F_Lnew_name.ok sc_Lnew_name (fun vs H Q E h => ?_) (fun cdv A outer s H vs Q E hr h => ⟨_, (pss_cons (ps_set (i := 1) sc_Lnew_name.nd rfl (Or.inl rfl) pe_str)
       (pss_cons (ps_set (i := 2) sc_Lnew_name.nd rfl (Or.inl rfl) (pe_op op_add_str (pv 1) pe_str))
       (pss_cons (ps_set (i := 3) sc_Lnew_name.nd rfl (Or.inl rfl) (pe_ix ix_str (pv 1) (pe_call (ok_Lnext T) (hr.mono (by decide)) (by rfl) T.g_Lnext T.F_Lnext.kp T.B_Lnext .nil pass0 (pa_cons (pv 0) (pa_cons pe_int pa_nil))) (fun _ _ => rfl)))
       (pss_cons (ps_for PassesOwn.never rfl (pi_range1 rfl T.b_range (pa_cons (pe_call (ok_Lnext T) (hr.mono (by decide)) (by rfl) T.g_Lnext T.F_Lnext.kp T.B_Lnext .nil pass0 (pa_cons (pv 0) (pa_cons pe_int pa_nil))) pa_nil)) (pg_name (i := 4) sc_Lnew_name.nd rfl (Or.inl rfl))
       (pss_one (ps_set (i := 3) sc_Lnew_name.nd rfl (Or.inl rfl) (pe_op op_add_str (pv 3) (pe_ix ix_str (pv 2) (pe_call (ok_Lnext T) (hr.mono (by decide)) (by rfl) T.g_Lnext T.F_Lnext.kp T.B_Lnext .nil pass0 (pa_cons (pv 0) (pa_cons pe_int pa_nil))) (fun _ _ => rfl))))))
       (pss_one (ps_ret (pv 3))))))), fin_dr (N := n_Lnew_name) (fun xs R hp e he => ?_) h⟩)
  · obtain ⟨d, l, ws, xs, R, rfl, _, hx, ⟨rfl, _⟩, _⟩ := h
    cases hx
    rfl
  · obtain ⟨rfl, q⟩ := hp
    cases he
    walk_at "d0"
    walk_at "ds"
    refine k_x2 (toL (by decide)) ?_
    walk_at "ds"
    refine k_dr_next (by decide) (fun r h0 h1 => ?_)
    obtain ⟨c, hc, hm⟩ := sig_at (L := LET) h0 h1
    walk_at "ds"
    refine k_is' (toL (by decide)) hc ?_
    walk_at "ds"
    refine k_dr_next (by decide) (fun k k0 k1 => ?_)
    walk_at "ds"
    refine k_r1 ⟨by omega, by omega⟩ ?_
    refine k_forI (fun i e => ∃ n : List Nat, e = [some .dr, some (.vl (.str (tx LET))), some (.vl (.str (tx (LET ++ [48, 49, 50, 51, 52, 53, 54, 55, 56, 57, 95])))), some (.vl (.str (tx (c :: n)))), none] ∧ (∀ x ∈ n, x ∈ NSG) ∧ n.length = i) ⟨_, ?_, [], rfl, fun x hx => (by cases hx), rfl⟩ (fun _ _ _ => trivial) (fun i d e hd hI => ?_) (fun e hI => ?_)
    · walk_at "wk"
    · obtain ⟨n, rfl, hn, rfl⟩ := hI
      have hi := (List.getElem?_eq_some_iff.mp hd).1
      rw [List.length_map, List.length_range] at hi
      obtain rfl : d = .int (n.length : Nat) := by
        rw [List.getElem?_map, List.getElem?_range hi] at hd
        cases hd; rfl
      walk_at "ds"
      refine k_dr_next (by decide) (fun r h0 h1 => ?_)
      obtain ⟨c2, hc2, hm2⟩ := sig_at (L := LET ++ [48, 49, 50, 51, 52, 53, 54, 55, 56, 57, 95]) h0 (Int.lt_of_lt_of_le h1 (by decide))
      walk_at "ds"
      refine k_is' (toL (by decide)) hc2 ?_
      walk_at "ds"
      refine k_x2 (toL (by simp only [List.length_append, List.length_cons, List.length_nil]; omega)) ?_
      walk_at "ds"
      refine ⟨_, ?_, n ++ [c2], rfl, fun x hx => ?_, by simp⟩
      · walk_at "wk"
      · rcases List.mem_append.mp hx with hx | hx
        · exact hn x hx
        · rw [List.mem_singleton.mp hx]
          have : ∀ y ∈ LET ++ [48, 49, 50, 51, 52, 53, 54, 55, 56, 57, 95], y ∈ NSG := by decide
          exact this _ hm2
    · obtain ⟨n, rfl, hn, hl⟩ := hI
      rw [List.length_map, List.length_range] at hl
      refine ⟨.of rfl, ?_⟩
      walk_at "ds"
      exact q _ ⟨⟨c, n, rfl, hm, hn⟩, by rw [List.length_cons]; omega⟩
def pre_pc : List Vl → (Vl → Prop) → Prop := fun xs R => ∃ (m : Int), xs = [.da (.int m)] ∧ 0 ≤ m ∧ m ≤ 200 ∧ ∀ s : List Nat, (s.length : Int) ≤ m → (∀ c ∈ s, c ∈ SG) → R (.da (.str (tx s)))
theorem ok_Lpiece (T : Top K mg) : FnOk P w K mg base CX0 2 T.f_Lpiece T.fd_Lpiece ["_law_draw_here", "_law_most"] (sp_dr K pre_pc) := by
  refine T.F_Lpiece.ok sc_Lpiece (fun vs H Q E h => ?_) (fun cdv A outer s H vs Q E hr h => ⟨_, (pss_cons (ps_set (i := 2) sc_Lpiece.nd rfl (Or.inl rfl) (pe_call0 (ok_Lsigns T) (hr.mono (by decide)) (by rfl) T.g_Lsigns T.F_Lsigns.kp T.B_Lsigns .nil pass0))
       (pss_cons (ps_set (i := 3) sc_Lpiece.nd rfl (Or.inl rfl) pe_str)
       (pss_cons (ps_set (i := 4) sc_Lpiece.nd rfl (Or.inl rfl) pe_str)
       (pss_cons (ps_for PassesOwn.never rfl (pi_range1 rfl T.b_range (pa_cons (pe_call (ok_Lnext T) (hr.mono (by decide)) (by rfl) T.g_Lnext T.F_Lnext.kp T.B_Lnext .nil pass0 (pa_cons (pv 0) (pa_cons (pe_op op_add (pv 1) pe_int) pa_nil))) pa_nil)) (pg_name (i := 5) sc_Lpiece.nd rfl (Or.inl rfl))
       (pss_one (ps_if (pt_cmpR op_eq (pe_call (ok_Lnext T) (hr.mono (by decide)) (by rfl) T.g_Lnext T.F_Lnext.kp T.B_Lnext .nil pass0 (pa_cons (pv 0) (pa_cons pe_int pa_nil))) pe_int (nomark _)) (pss_one (ps_set (i := 4) sc_Lpiece.nd rfl (Or.inl rfl) (pe_op op_add_str (pv 4) (pe_ix ix_str (pv 3) (pe_call (ok_Lnext T) (hr.mono (by decide)) (by rfl) T.g_Lnext T.F_Lnext.kp T.B_Lnext .nil pass0 (pa_cons (pv 0) (pa_cons pe_int pa_nil))) (fun _ _ => rfl))))) (pss_one (ps_set (i := 4) sc_Lpiece.nd rfl (Or.inl rfl) (pe_op op_add_str (pv 4) (pe_ix ix_str (pv 2) (pe_call (ok_Lnext T) (hr.mono (by decide)) (by rfl) T.g_Lnext T.F_Lnext.kp T.B_Lnext .nil pass0 (pa_cons (pv 0) (pa_cons pe_int pa_nil))) (fun _ _ => rfl))))))))
       (pss_one (ps_ret (pv 4))))))), fin_dr (N := n_Lpiece) (fun xs R hp e he => ?_) h⟩)
  · obtain ⟨d, l, ws, xs, R, rfl, _, hx, ⟨m, rfl, _⟩, _⟩ := h
    rw [List.length_cons, hx.len]
    rfl
  · obtain ⟨m, rfl, m0, m1, q⟩ := hp
    rcases he with _ | he
    cases he
    walk_at "d0"
    walk_at "ds"
    refine ev_sgs ?_
    walk_at "ds"
    refine k_dr_next (by omega) (fun k k0 k1 => ?_)
    walk_at "ds"
    refine k_r1 ⟨by omega, by omega⟩ ?_
    refine k_forI (fun i e => ∃ n : List Nat, e = [some .dr, some (.vl (.int m)), some (.vl (.str (tx SG))), some (.vl (.str (tx [92, 123, 125, 124, 110, 116, 10, 9]))), some (.vl (.str (tx n))), none] ∧ (∀ x ∈ n, x ∈ SG) ∧ n.length = i) ⟨_, ?_, [], rfl, fun x hx => (by cases hx), rfl⟩ (fun _ _ _ => trivial) (fun i d e hd hI => ?_) (fun e hI => ?_)
    · walk_at "wk"
    · obtain ⟨n, rfl, hn, rfl⟩ := hI
      have hi := (List.getElem?_eq_some_iff.mp hd).1
      rw [List.length_map, List.length_range] at hi
      obtain rfl : d = .int (n.length : Nat) := by
        rw [List.getElem?_map, List.getElem?_range hi] at hd
        cases hd; rfl
      have fin : ∀ c ∈ SG, ∀ x ∈ n ++ [c], x ∈ SG := fun c hc x hx => by
        rcases List.mem_append.mp hx with hx | hx
        · exact hn x hx
        · rw [List.mem_singleton.mp hx]; exact hc
      walk_at "ds"
      refine k_dr_next (by decide) (fun r h0 h1 => ?_)
      walk_at "ds"
      refine k_if (fun _ => ?_) (fun _ => ?_)
      · walk_at "ds"
        refine k_dr_next (by decide) (fun r h0 h1 => ?_)
        obtain ⟨c2, hc2, hm2⟩ := sig_at (L := [92, 123, 125, 124, 110, 116, 10, 9]) h0 h1
        walk_at "ds"
        refine k_is' (toL (by decide)) hc2 ?_
        walk_at "ds"
        refine k_x2 (toL (by simp only [List.length_append, List.length_cons, List.length_nil]; omega)) ?_
        walk_at "ds"
        refine ⟨_, ?_, n ++ [c2], rfl, fin c2 ?_, by simp⟩
        · walk_at "wk"
        · have : ∀ y ∈ [92, 123, 125, 124, 110, 116, 10, 9], y ∈ SG := by decide
          exact this _ hm2
      · walk_at "ds"
        refine k_dr_next (by decide) (fun r h0 h1 => ?_)
        obtain ⟨c2, hc2, hm2⟩ := sig_at (L := SG) h0 (by rw [SG_len]; exact h1)
        walk_at "ds"
        refine k_is' (toL (by rw [SG_len]; decide)) hc2 ?_
        walk_at "ds"
        refine k_x2 (toL (by simp only [List.length_append, List.length_cons, List.length_nil]; omega)) ?_
        walk_at "ds"
        refine ⟨_, ?_, n ++ [c2], rfl, fin c2 hm2, by simp⟩
        walk_at "wk"
    · obtain ⟨n, rfl, hn, hl⟩ := hI
      rw [List.length_map, List.length_range] at hl
      refine ⟨.of rfl, ?_⟩
      walk_at "ds"
      exact q _ (by omega) hn
def pre_tm : List Vl → (Vl → Prop) → Prop := fun xs R => ∃ (k m : Int), xs = [.da (.int k), .da (.int m)] ∧ 0 ≤ k ∧ k ≤ 20 ∧ 0 ≤ m ∧ m ≤ 200 ∧ ∀ ps : List Pt, TOk k.toNat m.toNat ps → R (.da (.tup (ps.map ptD)))
theorem ok_Ltemplate (T : Top K mg) : FnOk P w K mg base CX0 3 T.f_Ltemplate T.fd_Ltemplate ["_law_draw_here", "_law_many", "_law_most"] (sp_dr K pre_tm) := by
  refine T.F_Ltemplate.ok sc_Ltemplate (fun vs H Q E h => ?_) (fun cdv A outer s H vs Q E hr h => ⟨_, (pss_cons (ps_set (i := 3) sc_Ltemplate.nd rfl (Or.inl rfl) (pe_lst pa_nil))
       (pss_cons (ps_for PassesOwn.never rfl (pi_range1 rfl T.b_range (pa_cons (pv 1) pa_nil)) (pg_name (i := 4) sc_Ltemplate.nd rfl (Or.inl rfl))
       (pss_cons (ps_set (i := 5) sc_Ltemplate.nd rfl (Or.inl rfl) (pe_call (ok_Lnext T) (hr.mono (by decide)) (by rfl) T.g_Lnext T.F_Lnext.kp T.B_Lnext .nil pass0 (pa_cons (pv 0) (pa_cons pe_int pa_nil))))
       (pss_cons (ps_set (i := 6) sc_Ltemplate.nd rfl (Or.inl rfl) (pe_call (ok_Lpiece T) (hr.mono (by decide)) (by rfl) T.g_Lpiece T.F_Lpiece.kp T.B_Lpiece .nil pass0 (pa_cons (pv 0) (pa_cons (pv 2) pa_nil))))
       (pss_one (ps_if (PW.pt (pw_and (pt_cmpR op_lt (pv 5) pe_int (nomark _)) (pw_and (pt_cmpR op_ne (pv 6) pe_str (nomark _)) (pw_and1 (PW.pt (pw_or (pt_cmpR op_eq (pe_callB (r := rLenQ K) call_lenQ (by rfl) T.b_len PySem.boot_len (pa_cons (pv 3) pa_nil)) pe_int (nomark _)) (pw_or1 (pt_cmpR op_ne (pe_ix (r := rIxT K) ix_tup (pe_ix (r := rIxL K) ix_list (pv 3) (pe_un un_neg pe_int) (fun _ _ => rfl)) pe_int (fun _ _ => rfl)) pe_str (nomark _))))))))) (pss_one (ps_expr (pe_bm PySem.F.plainAttrs_list PySem.F.slot_list_append PySem.F.type_list_append mt_append (pv 3) (pa_cons (pe_tup (pa_cons pe_str (pa_cons (pv 6) pa_nil))) pa_nil)))) (pss_one (ps_if (pt_cmpR op_eq (pv 5) pe_int (nomark _)) (pss_one (ps_expr (pe_bm PySem.F.plainAttrs_list PySem.F.slot_list_append PySem.F.type_list_append mt_append (pv 3) (pa_cons (pe_tup (pa_cons pe_str pa_nil)) pa_nil)))) (pss_one (ps_if (pt_cmpR op_eq (pv 5) pe_int (nomark _)) (pss_one (ps_expr (pe_bm PySem.F.plainAttrs_list PySem.F.slot_list_append PySem.F.type_list_append mt_append (pv 3) (pa_cons (pe_tup (pa_cons pe_str (pa_cons (pe_call (ok_Lnew_name T) (hr.mono (by decide)) (by rfl) T.g_Lnew_name T.F_Lnew_name.kp T.B_Lnew_name .nil pass0 (pa_cons (pv 0) pa_nil)) (pa_cons pe_str pa_nil)))) pa_nil)))) (pss_one (ps_expr (pe_bm PySem.F.plainAttrs_list PySem.F.slot_list_append PySem.F.type_list_append mt_append (pv 3) (pa_cons (pe_tup (pa_cons pe_str (pa_cons (pe_call (ok_Lnew_name T) (hr.mono (by decide)) (by rfl) T.g_Lnew_name T.F_Lnew_name.kp T.B_Lnew_name .nil pass0 (pa_cons (pv 0) pa_nil)) (pa_cons (pv 6) pa_nil)))) pa_nil)))))))))))))
       (pss_one (ps_ret (pe_callTy (r := rTupOf K) call_tupO (by rfl) T.b_tuple (by decide +kernel) (pa_cons (pv 3) pa_nil)))))), fin_dr (N := n_Ltemplate) (fun xs R hp e he => ?_) h⟩)
  · obtain ⟨d, l, ws, xs, R, rfl, _, hx, ⟨k, m, rfl, _⟩, _⟩ := h
    rw [List.length_cons, hx.len]
    rfl
  · obtain ⟨k, m, rfl, k0, k1, m0, m1, q⟩ := hp
    rcases he with _ | he
    rcases he with _ | he
    cases he
    walk_at "d0"
    walk_at "ds"
    rename_i pa
    refine k_r1 ⟨by omega, by omega⟩ ?_
    refine k_forI (fun i e => ∃ ps : List Pt, e = [some .dr, some (.vl (.int k)), some (.vl (.int m)), some (.own pa (ps.map ptD)), none, none, none] ∧ TOk i m.toNat ps) ⟨_, ?_, [], rfl, .nil⟩ (fun _ _ _ => trivial) (fun i d e hd hI => ?_) (fun e hI => ?_)
    · walk_at "wk"
    · obtain ⟨ps, rfl, ho⟩ := hI
      have hi := (List.getElem?_eq_some_iff.mp hd).1
      rw [List.length_map, List.length_range] at hi
      obtain rfl : d = .int (i : Nat) := by
        rw [List.getElem?_map, List.getElem?_range hi] at hd
        cases hd; rfl
      have hl := ho.len
      have line : (ps.map ptD).length < sizeLine := toLineB (by rw [List.length_map]; omega)
      walk_at "ds"
      refine k_dr_next (by decide) (fun r h0 h1 => ?_)
      walk_at "ds"
      refine ⟨m, rfl, m0, m1, fun s hs1 hs2 => ⟨trivial, ?_⟩⟩
      walk_at "ds"
      have cont : ∀ p : Pt, PtOk m.toNat p → isTe p = false → TOk (i + 1) m.toNat (ps ++ [p]) := fun p hp ht => ho.snoc hp (fun z => by rw [ht] at z; cases z)
      walk_at "ds"
      refine k_if (fun _ => ?_) (fun _ => ?_)
      · walk_at "ds"
        refine k_if (fun hs => ?_) (fun _ => ?_)
        · have hs0 : s ≠ [] := by simpa [tx_eq] using hs
          walk_at "ds"
          refine k_if (fun h0 => ?_) (fun h0 => ?_)
          · have hp0 : ps = [] := by
              rw [List.length_map] at h0
              exact List.length_eq_zero_iff.mp (by simpa using h0)
            walk_at "ds"
            refine ⟨line, ?_⟩
            walk_at "ds"
            refine ⟨_, ?_, ps ++ [.te s], rfl, ho.snoc (p := .te s) ⟨hs0, by omega, hs2⟩ (fun _ q hq => ?_)⟩
            · rw [List.map_append]
              walk_at "wk"
            · rw [hp0] at hq; cases hq
          · have hp0 : ps ≠ [] := fun z => by rw [z] at h0; simp at h0
            obtain ⟨q, hq⟩ : ∃ q, ps.getLast? = some q := ⟨_, List.getLast?_eq_some_getLast hp0⟩
            walk_at "ds"
            have hq2 : atI (ps.map ptD) (-1) = some (ptD q) := by
              rw [atI_neg1 (s := ps.map ptD) (by simpa using hp0), List.getLast_map]
              have := (List.getLast?_eq_some_getLast hp0).symm.trans hq
              rw [Option.some.inj this]
            refine ⟨_, hq2, ?_⟩
            cases q with
            | te s2 =>
              rw [ptD]
              walk_at "ds"
              refine k_if (fun _ => ?_) (fun _ => ?_)
              · walk_at "ds"
                refine ⟨line, ?_⟩
                walk_at "ds"
                refine ⟨_, ?_, ps ++ [.wh], rfl, cont .wh trivial rfl⟩
                rw [List.map_append]
                walk_at "wk"
              · walk_at "ds"
                refine k_if (fun _ => ?_) (fun _ => ?_)
                · walk_at "ds"
                  refine ⟨rfl, fun n hn => ⟨trivial, ?_⟩⟩
                  walk_at "ds"
                  refine ⟨line, ?_⟩
                  walk_at "ds"
                  refine ⟨_, ?_, ps ++ [.gr n []], rfl, cont (.gr n []) ⟨hn, by simp, by simp⟩ rfl⟩
                  rw [List.map_append]
                  walk_at "wk"
                · walk_at "ds"
                  refine ⟨rfl, fun n hn => ⟨trivial, ?_⟩⟩
                  walk_at "ds"
                  refine ⟨line, ?_⟩
                  walk_at "ds"
                  refine ⟨_, ?_, ps ++ [.gr n s], rfl, cont (.gr n s) ⟨hn, by omega, hs2⟩ rfl⟩
                  rw [List.map_append]
                  walk_at "wk"
            | wh =>
              rw [ptD]
              walk_at "ds"
              walk_at "ds"
              refine ⟨line, ?_⟩
              walk_at "ds"
              refine ⟨_, ?_, ps ++ [.te s], rfl, ho.snoc (p := .te s) ⟨hs0, by omega, hs2⟩ (fun _ z hq => ?_)⟩
              · rw [List.map_append]
                walk_at "wk"
              · have := Option.some.inj (hq.symm.trans ‹ps.getLast? = some Pt.wh›)
                rw [this]
                rfl
            | gr n2 o2 =>
              rw [ptD]
              walk_at "ds"
              walk_at "ds"
              refine ⟨line, ?_⟩
              walk_at "ds"
              refine ⟨_, ?_, ps ++ [.te s], rfl, ho.snoc (p := .te s) ⟨hs0, by omega, hs2⟩ (fun _ z hq => ?_)⟩
              · rw [List.map_append]
                walk_at "wk"
              · have := Option.some.inj (hq.symm.trans ‹ps.getLast? = some (Pt.gr n2 o2)›)
                rw [this]
                rfl
        · walk_at "ds"
          refine k_if (fun _ => ?_) (fun _ => ?_)
          · walk_at "ds"
            refine ⟨line, ?_⟩
            walk_at "ds"
            refine ⟨_, ?_, ps ++ [.wh], rfl, cont .wh trivial rfl⟩
            rw [List.map_append]
            walk_at "wk"
          · walk_at "ds"
            refine k_if (fun _ => ?_) (fun _ => ?_)
            · walk_at "ds"
              refine ⟨rfl, fun n hn => ⟨trivial, ?_⟩⟩
              walk_at "ds"
              refine ⟨line, ?_⟩
              walk_at "ds"
              refine ⟨_, ?_, ps ++ [.gr n []], rfl, cont (.gr n []) ⟨hn, by simp, by simp⟩ rfl⟩
              rw [List.map_append]
              walk_at "wk"
            · walk_at "ds"
              refine ⟨rfl, fun n hn => ⟨trivial, ?_⟩⟩
              walk_at "ds"
              refine ⟨line, ?_⟩
              walk_at "ds"
              refine ⟨_, ?_, ps ++ [.gr n s], rfl, cont (.gr n s) ⟨hn, by omega, hs2⟩ rfl⟩
              rw [List.map_append]
              walk_at "wk"
      · walk_at "ds"
        refine k_if (fun _ => ?_) (fun _ => ?_)
        · walk_at "ds"
          refine ⟨line, ?_⟩
          walk_at "ds"
          refine ⟨_, ?_, ps ++ [.wh], rfl, cont .wh trivial rfl⟩
          rw [List.map_append]
          walk_at "wk"
        · walk_at "ds"
          refine k_if (fun _ => ?_) (fun _ => ?_)
          · walk_at "ds"
            refine ⟨rfl, fun n hn => ⟨trivial, ?_⟩⟩
            walk_at "ds"
            refine ⟨line, ?_⟩
            walk_at "ds"
            refine ⟨_, ?_, ps ++ [.gr n []], rfl, cont (.gr n []) ⟨hn, by simp, by simp⟩ rfl⟩
            rw [List.map_append]
            walk_at "wk"
          · walk_at "ds"
            refine ⟨rfl, fun n hn => ⟨trivial, ?_⟩⟩
            walk_at "ds"
            refine ⟨line, ?_⟩
            walk_at "ds"
            refine ⟨_, ?_, ps ++ [.gr n s], rfl, cont (.gr n s) ⟨hn, by omega, hs2⟩ rfl⟩
            rw [List.map_append]
            walk_at "wk"
    · obtain ⟨ps, rfl, ho⟩ := hI
      rw [List.length_map, List.length_range] at ho
      refine ⟨.of rfl, ?_⟩
      walk_at "ds"
      exact q _ ho

def pre_sp : List Vl → (Vl → Prop) → Prop := fun xs R => ∃ (s sp : List Nat) (fr : Bool), xs = [.da (.str (tx s)), .da (.str (tx sp)), .da (.bl fr)] ∧ SpO sp ∧ s.length ≤ 300 ∧ ∀ w, Sp2 sp s w → (fr = false → w = s.flatMap (esc sp)) → R (.da (.str (tx w)))
theorem Sp2.snoc {sp s w p : List Nat} {c : Nat} (h : Sp2 sp s w) (g : Sp2 sp [c] p) : Sp2 sp (s ++ [c]) (w ++ p) := h.app g
theorem sp_one {sp : List Nat} {c : Nat} (o : SpO sp) : Sp2 sp [c] (esc sp c) := by
  have := Sp2.esc (c := c) o .nil
  rwa [List.append_nil] at this
theorem sp_raw {sp : List Nat} {c : Nat} (h : c ∉ sp) : Sp2 sp [c] [c] := .raw h .nil
theorem ok_Lspelled (T : Top K mg) : FnOk P w K mg base CX0 2 T.f_Lspelled T.fd_Lspelled ["_law_draw_here", "_law_signs_here", "_law_special", "_law_free"] (sp_dr K pre_sp) := by
  refine T.F_Lspelled.ok sc_Lspelled (fun vs H Q E h => ?_) (fun cdv A outer s H vs Q E hr h => ⟨_, (pss_cons (ps_set (i := 4) sc_Lspelled.nd rfl (Or.inl rfl) pe_str)
       (pss_cons (ps_for PassesOwn.never rfl (pi_str (pv 1)) (pg_name (i := 5) sc_Lspelled.nd rfl (Or.inl rfl))
       (pss_cons (ps_set (i := 6) sc_Lspelled.nd rfl (Or.inl rfl) (pe_and (pv 3) (pe_one (pe_cmpR op_eq (pe_call (ok_Lnext T) (hr.mono (by decide)) (by rfl) T.g_Lnext T.F_Lnext.kp T.B_Lnext .nil pass0 (pa_cons (pv 0) (pa_cons pe_int pa_nil))) pe_int (nomark _)))))
       (pss_one (ps_if (pt_cmpR op_in_sign (pv 5) (pv 2) (by rfl)) (pss_one (ps_set (i := 4) sc_Lspelled.nd rfl (Or.inl rfl) (pe_op op_add_str (pe_op op_add_str (pv 4) pe_str) (pv 5)))) (pss_one (ps_if (PW.pt (pw_and (pt_cmpR op_eq (pv 5) pe_str (nomark _)) (pw_and1 (pt_not (pt_val (pv 6)))))) (pss_one (ps_set (i := 4) sc_Lspelled.nd rfl (Or.inl rfl) (pe_op op_add_str (pv 4) pe_str))) (pss_one (ps_if (PW.pt (pw_and (pt_cmpR op_eq (pv 5) pe_str (nomark _)) (pw_and1 (pt_not (pt_val (pv 6)))))) (pss_one (ps_set (i := 4) sc_Lspelled.nd rfl (Or.inl rfl) (pe_op op_add_str (pv 4) pe_str))) (pss_one (ps_set (i := 4) sc_Lspelled.nd rfl (Or.inl rfl) (pe_op op_add_str (pv 4) (pv 5))))))))))))
       (pss_one (ps_ret (pv 4))))), fin_dr (N := n_Lspelled) (fun xs R hp e he => ?_) h⟩)
  · obtain ⟨d, l, ws, xs, R, rfl, _, hx, ⟨s, sp, fr, rfl, _⟩, _⟩ := h
    rw [List.length_cons, hx.len]
    rfl
  · obtain ⟨s, sp, fr, rfl, o, hs, q⟩ := hp
    rcases he with _ | he
    rcases he with _ | he
    rcases he with _ | he
    cases he
    walk_at "d0"
    walk_at "ds"
    refine k_forI (fun i e => ∃ w : List Nat, e = [some .dr, some (.vl (.str (tx s))), some (.vl (.str (tx sp))), some (.vl (.bl fr)), some (.vl (.str (tx w))), none, none] ∧ Sp2 sp (s.take i) w ∧ (fr = false → w = (s.take i).flatMap (esc sp))) ⟨_, ?_, [], rfl, by rw [List.take_zero]; exact .nil, fun _ => rfl⟩ (fun _ _ _ => trivial) (fun i d e hd hI => ?_) (fun e hI => ?_)
    · walk_at "wk"
    · obtain ⟨w, rfl, hw, hf⟩ := hI
      rw [List.getElem?_map] at hd
      obtain ⟨c, hc, rfl⟩ := Option.map_eq_some_iff.mp hd
      have hl := hw.len.1
      have hl2 : (s.take i).length ≤ s.length := List.length_take_le' ..
      have et : s.take (i + 1) = s.take i ++ [c] := by rw [List.take_succ, hc]; rfl
      have fin : ∀ p : List Nat, Sp2 sp [c] p → (fr = false → p = esc sp c) → Sp2 sp (s.take (i + 1)) (w ++ p) ∧ (fr = false → w ++ p = (s.take (i + 1)).flatMap (esc sp)) := fun p h1 h2 => by
        rw [et]
        refine ⟨hw.snoc h1, fun z => ?_⟩
        rw [hf z, h2 z, List.flatMap_append]
        simp
      walk_at "ds"
      refine ev_andF (a := fr) ?_ ?_ (fun b hb => ?_)
      · walk_at "ds"
        rfl
      · walk_at "ds"
        refine k_dr_next (by decide) (fun r h0 h1 => ?_)
        walk_at "ds"
        trivial
      walk_at "ds"
      by_cases h1 : c ∈ sp
      · refine k_ift (decT h1) ?_
        have e1 : esc sp c = [92, c] := by unfold esc; rw [if_pos h1]
        walk_at "ds"
        refine k_x2 (toL (by simp only [List.length_append, List.length_cons, List.length_nil]; omega)) ?_
        walk_at "ds"
        refine k_x2 (toL (by simp only [List.length_append, List.length_cons, List.length_nil]; omega)) ?_
        walk_at "ds"
        have f := fin [92, c] (e1 ▸ sp_one o) (fun _ => e1.symm)
        refine ⟨_, ?_, w ++ [92] ++ [c], rfl, by rw [List.append_assoc]; exact f⟩
        walk_at "wk"
      · refine k_iff (decF h1) ?_
        cases b with
        | true =>
          have hfr := hb rfl
          walk_at "ds"
          refine k_if (fun _ => ?_) (fun _ => ?_) <;> (walk_at "ds"; refine k_if (fun _ => ?_) (fun _ => ?_) <;> (walk_at "ds"; refine k_x2 (toL (by simp only [List.length_append, List.length_cons, List.length_nil]; omega)) ?_; walk_at "ds"; refine ⟨_, ?_, w ++ [c], rfl, fin [c] (sp_raw h1) (fun z => by rw [hfr] at z; cases z)⟩; walk_at "wk"))
        | false =>
          walk_at "ds"
          by_cases h2 : c = 10
          · have e1 : esc sp c = [92, 110] := by unfold esc; rw [if_neg h1, if_pos h2]
            refine k_ift (by rw [h2]; simp) ?_
            walk_at "ds"
            refine k_x2 (toL (by simp only [List.length_append, List.length_cons, List.length_nil]; omega)) ?_
            walk_at "ds"
            refine ⟨_, ?_, w ++ [92, 110], rfl, fin _ (e1 ▸ sp_one o) (fun _ => e1.symm)⟩
            walk_at "wk"
          · refine k_iff (by simpa [tx_eq] using h2) ?_
            walk_at "ds"
            by_cases h3 : c = 9
            · have e1 : esc sp c = [92, 116] := by unfold esc; rw [if_neg h1, if_neg h2, if_pos h3]
              refine k_ift (by rw [h3]; simp) ?_
              walk_at "ds"
              refine k_x2 (toL (by simp only [List.length_append, List.length_cons, List.length_nil]; omega)) ?_
              walk_at "ds"
              refine ⟨_, ?_, w ++ [92, 116], rfl, fin _ (e1 ▸ sp_one o) (fun _ => e1.symm)⟩
              walk_at "wk"
            · have e1 : esc sp c = [c] := by unfold esc; rw [if_neg h1, if_neg h2, if_neg h3]
              refine k_iff (by simpa [tx_eq] using h3) ?_
              walk_at "ds"
              refine k_x2 (toL (by simp only [List.length_append, List.length_cons, List.length_nil]; omega)) ?_
              walk_at "ds"
              refine ⟨_, ?_, w ++ [c], rfl, fin _ (e1 ▸ sp_one o) (fun _ => e1.symm)⟩
              walk_at "wk"
    · obtain ⟨w, rfl, hw, hf⟩ := hI
      rw [List.length_map, List.take_length] at hw hf
      refine ⟨.of rfl, ?_⟩
      walk_at "ds"
      exact q _ hw hf
end
end My
namespace My
open PySem L2
local macro_rules | `(tactic| walk_at "rd") => `(tactic| simp only [tSeq, tNext, tAsg, tOp, tUn, tC, tVar, gName, gSub, tCons, tNil, tCB, tIfS, tIf, tTest, tB, tAnd, tOr, tNot, tAndV, tOrV, tNotV, tRet, tRetN, tDrop, tLst, tTup, tCall, tSl, tNoPart, tPart, tM0, tM1, tBM, tBM0, tYes, tFor_eq, tLc_eq, iList, iRng1, iRng2, iStr, sg_tx, c_empty, rstrip_sign, find_sign, cut_last, cut_to, cut_from, cut_mid, cut_to_lit, cut_from_lit, and_assoc, flat_rep, List.length_replicate, tx_len, tx_eq, tx_app, tx_cps, rI0, rI, rU, rEq, rNe, rIxL, rIxS, rIxT, rSetL, rAppend, rPopAt, rSlS, rSlL, rIn, rMulS, rLtD, rJoin, rLenQ, rListOf,  tRevS, 
  scal, L2.start, List.map_cons, List.map_nil, List.length_cons, List.length_nil, List.replicate, List.cons_append, List.nil_append, List.append_nil,
  List.getElem?_cons_zero, List.getElem?_cons_succ, List.set_cons_zero, List.set_cons_succ, Nat.sub_zero, Nat.reduceSub, Nat.reduceAdd, Nat.zero_add, id_eq, Int.reduceToNat, exists_or,
  V.int.injEq, V.str.injEq, V.bl.injEq, V.ref.injEq, Option.some.injEq, List.cons.injEq, exists_and_left, exists_eq_left', exists_eq_left, exists_eq, exists_eq', and_true, true_and, reduceCtorEq, false_and, and_false, exists_false, false_or, or_false, decide_eq_true_eq, Bool.not_eq_true', decide_eq_false_iff_not, Bool.not_not, Bool.false_eq_true, ↓reduceIte, if_true, if_false])

local macro_rules | `(tactic| walk_at "ne") => `(tactic| first | assumption | (refine Ne.symm ?_; assumption) | exact (ne_of_none (by assumption) (by assumption)) | exact (ne_of_none (by assumption) (by assumption)).symm)
local macro_rules | `(tactic| walk_at "hp") => `(tactic| first | assumption | exact upd_same | exact (upd_ne (by walk_at "ne")).trans (by walk_at "hp"))
local macro_rules | `(tactic| walk_at "st1") => `(tactic| first
  | refine ⟨_, Or.inl (Or.inl (by walk_at "hp")), ?_⟩
  | refine ⟨_, Or.inl (Or.inl (Or.inl (by walk_at "hp"))), ?_⟩
  | refine ⟨_, (show _ = some (HO.lst _) by walk_at "hp"), ?_⟩
  | refine ⟨_, rfl, ?_⟩
  | refine ⟨(rfl : ("str" : String) = "str"), ?_⟩
  | refine ⟨Or.inr ⟨by decide, by decide⟩, ?_⟩
  | refine ⟨⟨by decide, by decide⟩, ?_⟩
  | refine ⟨by decide, ?_⟩
  | refine ⟨by assumption, ?_⟩)
local macro_rules | `(tactic| walk_at "st") => `(tactic| repeat walk_at "st1")
local macro_rules | `(tactic| walk_at "go") => `(tactic| repeat first | walk_at "st1" | walk_at "rd")
local macro_rules | `(tactic| walk_at "wk") => `(tactic| repeat first | exact Wk.nil | apply Wk.yes | apply Wk.no)
local macro_rules | `(tactic| walk_at "ds1") => `(tactic| first
  | ((with_reducible show Sv _ _ _ _); (first | (with_reducible apply sv_set2) | (with_reducible apply sv_seq) | (with_reducible apply sv_if) | (((with_reducible apply sv_retO); next => rfl)) | (with_reducible refine sv_retN (el_lst ?_)) | (with_reducible refine sv_retN (el_call ?_)) | (with_reducible refine sv_retN (el_lc ?_)) | (with_reducible refine sv_retN (el_list ?_)) | (with_reducible refine sv_retN (el_cat ?_)) | (with_reducible apply sv_ret) | (with_reducible refine sv_setN (el_lst ?_)) | (with_reducible refine sv_setN (el_call ?_)) | (with_reducible refine sv_setN (el_lc ?_)) | (with_reducible refine sv_setN (el_list ?_)) | (with_reducible refine sv_setN (el_cat ?_)) | (with_reducible refine sv_setN (el_callD rfl ?_)) | (((with_reducible apply sv_putD); next => rfl)) | (with_reducible apply sv_set) | (((with_reducible apply sv_app); next => rfl)) | (((with_reducible apply sv_ext); next => rfl)) | (((with_reducible apply sv_put); next => rfl)) | (with_reducible apply sv_for) | (with_reducible apply sv_nil) | (with_reducible apply sv_retNone) | (with_reducible apply sv_drop)))
  | ((with_reducible show Ev _ _ _ _); (first | (with_reducible apply ev_q0) | (with_reducible apply ev_q1) | (with_reducible apply ev_q2) | (with_reducible apply ev_q3) | (with_reducible apply ev_q4) | (with_reducible apply ev_q5) | (with_reducible apply ev_q6) | (with_reducible apply ev_q7) | (with_reducible apply ev_q8) | (with_reducible apply ev_q9) | (with_reducible apply ev_q10) | (with_reducible apply ev_q11) | (with_reducible apply ev_q12) | (with_reducible apply ev_q13) | (with_reducible apply ev_q14) | (with_reducible apply ev_q15) | (with_reducible apply ev_q16) | (with_reducible apply ev_q17) | (with_reducible apply ev_q18) | (with_reducible apply ev_q19) | (with_reducible apply ev_q20) | (with_reducible apply ev_q21) | (with_reducible apply ev_q22) | (with_reducible apply ev_q23) | (with_reducible apply ev_q24) | (with_reducible apply ev_q25) | (with_reducible apply ev_q26) | (with_reducible apply ev_q27) | (with_reducible apply ev_q28) | (with_reducible apply ev_q29) | (with_reducible apply ev_q30) | (with_reducible apply ev_q31) | (with_reducible apply ev_q32) | (with_reducible apply ev_q33) | (with_reducible apply ev_catX) | (with_reducible apply ev_inS) | (with_reducible apply ev_ninS) | (with_reducible apply ev_joinE) | (with_reducible apply ev_kget) | (((with_reducible apply ev_var); next => rfl)) | (((with_reducible apply ev_varO); next => rfl)) | (((with_reducible apply ev_varL); next => rfl)) | (((with_reducible apply ev_callD); next => rfl)) | (((with_reducible apply ev_dr); next => rfl)) | (with_reducible apply ev_max2) | (with_reducible apply ev_min2) | (with_reducible apply ev_index) | (with_reducible apply ev_eqD) | (with_reducible apply ev_neD) | (with_reducible apply ev_int) | (with_reducible apply ev_bl) | (with_reducible apply ev_non) | (with_reducible apply ev_ixT) | (with_reducible apply ev_call) | (with_reducible apply ev_eq) | (with_reducible apply ev_tup) | (with_reducible apply ev_in) | (with_reducible apply ev_ixL) | (with_reducible apply ev_ne) | (with_reducible apply ev_i0) | (with_reducible apply ev_ib) | (with_reducible apply ev_isi) | (with_reducible apply ev_isN) | (with_reducible apply ev_notN) | (with_reducible apply ev_isB) | (with_reducible apply ev_notB) | (with_reducible apply ev_slT2) | (with_reducible apply ev_catU) | (with_reducible apply ev_iC) | (with_reducible apply ev_ixS) | (with_reducible apply ev_slS) | (with_reducible apply ev_u) | (with_reducible apply ev_notV) | (with_reducible apply ev_if) | (with_reducible apply ev_len) | (with_reducible apply ev_lenS) | (with_reducible apply ev_tuple) | (with_reducible apply ev_all) | (with_reducible refine Ev.ofNew (el_lst ?_)) | (with_reducible refine Ev.ofNew (el_call ?_)) | (with_reducible refine Ev.ofNew (el_lc ?_)) | (with_reducible refine Ev.ofNew (el_list ?_)) | (with_reducible refine Ev.ofNew (el_cat ?_))))
  | ((with_reducible show Es _ _ _ _); (first | (with_reducible apply es_cons) | (with_reducible apply es_nil)))
  | ((with_reducible show Tv _ _ _ _); (first | (with_reducible apply tv_test) | (with_reducible apply tv_not) | (with_reducible apply tv_and) | (with_reducible apply tv_or) | (with_reducible apply tv_b) | (with_reducible apply tv_yes) | (with_reducible apply tv_tru)))
  | ((with_reducible show Eln _ _ _ _); (first | (with_reducible apply el_lst) | (with_reducible apply el_call) | (with_reducible apply el_lc) | (with_reducible apply el_list) | (with_reducible apply el_cat)))
  | ((with_reducible show Eo _ _ _ _); (first | (with_reducible apply eo_no) | (with_reducible apply eo_some)))
  | ((with_reducible show Iv _ _ _ _); (first | (with_reducible apply iv_tup) | (with_reducible apply iv_range1) | (with_reducible apply iv_str) | (with_reducible apply iv_enumT) | (((with_reducible apply iv_listV); next => rfl)) | (((with_reducible apply iv_listO); next => rfl)) | (with_reducible refine iv_listN (el_lst ?_)) | (with_reducible refine iv_listN (el_call ?_)) | (with_reducible refine iv_listN (el_lc ?_)) | (with_reducible refine iv_listN (el_list ?_)) | (with_reducible refine iv_listN (el_cat ?_))))
  | ((with_reducible show Gv _ _ _ _ _ _); (first | (with_reducible apply gv_name) | (with_reducible apply gv_tup2) | (with_reducible apply gv_tup3)))
  | ((with_reducible show seqO _ _ _ _); (first | (with_reducible apply o_nx) | (with_reducible apply o_rt) | (with_reducible apply o_rn) | (with_reducible apply o_bk) | (with_reducible apply o_ct)))
  | ((with_reducible show jnI _ _ _); (first | (with_reducible apply ji_nx) | (with_reducible apply ji_rt) | (with_reducible apply ji_rn) | (with_reducible apply ji_bk) | (with_reducible apply ji_ct)))
  | ((with_reducible show jnO _ _ _); (first | (with_reducible apply j_nx) | (with_reducible apply j_rt) | (with_reducible apply j_rn) | (with_reducible apply j_bk) | (with_reducible apply j_ct)))
  | ((with_reducible show lpO _ _ _ _); (first | (with_reducible apply l_rt) | (with_reducible apply l_rn) | (with_reducible apply l_ct) | (with_reducible apply l_nx')))
  | ((with_reducible show retO _ _); (first | (with_reducible apply r_rt) | (with_reducible apply r_nx)))
  | (with_reducible apply r_rn)
  | ((with_reducible show KIf _ _ _); (first | (((with_reducible apply k_ift); next => first | decide +kernel | rfl)) | (((with_reducible apply k_iff); next => first | decide +kernel | rfl))))
  | ((with_reducible show KEq _ _ _); (first | (with_reducible apply k_eqS) | (with_reducible apply k_eqI) | (with_reducible apply k_eqB) | (((with_reducible apply k_eqO); next => rfl; next => rfl; next => rfl; next => rfl))))
  | ((with_reducible show KDas _ _); (first | (with_reducible apply k_das_0) | (with_reducible apply k_das_1) | (with_reducible apply k_das_2) | (with_reducible apply k_das_3) | (with_reducible apply k_das_4) | (with_reducible apply k_das_5) | (with_reducible apply k_das_6) | (with_reducible apply k_das_7) | (with_reducible apply k_das_8) | (with_reducible apply k_das_9) | (with_reducible apply k_das_10) | (with_reducible apply k_das_11) | (with_reducible apply k_das_12) | (with_reducible apply k_das_13) | (with_reducible apply k_das_14) | (with_reducible apply k_das_15) | (with_reducible apply k_das_16)))
  | ((with_reducible show KIn _ _ _); (first | (with_reducible apply k_inT_0) | (with_reducible apply k_inL_0) | (with_reducible apply k_inT_1) | (with_reducible apply k_inL_1) | (with_reducible apply k_inT_2) | (with_reducible apply k_inL_2) | (with_reducible apply k_inT_3) | (with_reducible apply k_inL_3) | (with_reducible apply k_inT_4) | (with_reducible apply k_inL_4) | (with_reducible apply k_inT_5) | (with_reducible apply k_inL_5) | (with_reducible apply k_inT_6) | (with_reducible apply k_inL_6) | (with_reducible apply k_inT_7) | (with_reducible apply k_inL_7) | (with_reducible apply k_inT_8) | (with_reducible apply k_inL_8) | (with_reducible apply k_inT_9) | (with_reducible apply k_inL_9) | (with_reducible apply k_inT_10) | (with_reducible apply k_inL_10) | (with_reducible apply k_inT_11) | (with_reducible apply k_inL_11) | (with_reducible apply k_inT_12) | (with_reducible apply k_inL_12) | (with_reducible apply k_inN) | (((with_reducible apply k_inT); next => rfl; next => rfl)) | (((with_reducible apply k_inL); next => rfl; next => rfl))))
  | ((with_reducible show KEqD _ _ _); (first | (with_reducible apply k_eqIntsC) | (with_reducible apply k_eqInts0) | (with_reducible apply k_eqInts)))
  | (with_reducible apply k_put0)
  | ((with_reducible show KTy _ _ _); (first | (with_reducible apply k_ty_tup_tuple) | (with_reducible apply k_ty_tup_bool) | (with_reducible apply k_ty_tup_int) | (with_reducible apply k_ty_tup_str) | (with_reducible apply k_ty_tup_list) | (with_reducible apply k_ty_ls_tuple) | (with_reducible apply k_ty_ls_bool) | (with_reducible apply k_ty_ls_int) | (with_reducible apply k_ty_ls_str) | (with_reducible apply k_ty_ls_list) | (with_reducible apply k_ty_int_tuple) | (with_reducible apply k_ty_int_bool) | (with_reducible apply k_ty_int_int) | (with_reducible apply k_ty_int_str) | (with_reducible apply k_ty_int_list) | (with_reducible apply k_ty_str_tuple) | (with_reducible apply k_ty_str_bool) | (with_reducible apply k_ty_str_int) | (with_reducible apply k_ty_str_str) | (with_reducible apply k_ty_str_list) | (with_reducible apply k_ty_bl_tuple) | (with_reducible apply k_ty_bl_bool) | (with_reducible apply k_ty_bl_int) | (with_reducible apply k_ty_bl_str) | (with_reducible apply k_ty_bl_list) | (with_reducible apply k_ty_non_tuple) | (with_reducible apply k_ty_non_bool) | (with_reducible apply k_ty_non_int) | (with_reducible apply k_ty_non_str) | (with_reducible apply k_ty_non_list)))
  | ((with_reducible show KSl _ _ _ _); (first | (with_reducible apply k_sl_1) | (with_reducible apply k_sl_2) | (with_reducible apply k_sl_m2) | (with_reducible apply k_sl_m3) | (with_reducible apply k_sl_m4) | (with_reducible apply k_sl_m5)))
  | ((with_reducible show KCat _ _ _); (first | (with_reducible apply k_cat1) | (with_reducible apply k_cat2) | (with_reducible apply k_cat3) | (with_reducible apply k_cat23)))
  | ((with_reducible show KLen _ _); (first | (with_reducible apply k_lenT) | (with_reducible apply k_lenL)))
  | ((with_reducible show KSq _ _); (first | (with_reducible apply k_sqT) | (with_reducible apply k_sqL)))
  | (with_reducible apply k_i2s)
  | (with_reducible apply k_d)
  | ((with_reducible show KT _ _); (first | (with_reducible apply k_t) | (with_reducible apply k_tT)))
  | (with_reducible apply k_l)
  | (with_reducible apply k_i1)
  | (with_reducible apply k_i2)
  | (with_reducible apply k_b)
  | (with_reducible apply k_n)
  | (with_reducible apply k_tx)
  | (with_reducible apply k_t1)
  | (with_reducible apply k_ts)
  | with_reducible apply k_ix_0
  | with_reducible apply k_ix_1
  | ((with_reducible apply k_ixT2); next => rfl)
  | with_reducible apply gx_name
  | with_reducible apply gx_tup2
  | with_reducible apply gx_tup3
  | with_reducible refine (fun (p : Addr) => (?_ : seqO _ _ _ _))
  | with_reducible refine (fun (p : Addr) => (?_ : lpO _ _ _ _))
  | with_reducible refine (fun (p : Addr) => (?_ : liO _ _))
  | (with_reducible apply k_d2)
  | (with_reducible apply k_sg)
  | ((with_reducible show Sx _ _ _ _ _ _ _ _); (first | (with_reducible apply sx_seq) | (with_reducible apply sx_if) | (with_reducible apply sx_setX) | (with_reducible apply sx_set2X) | (with_reducible apply sx_dropX) | (with_reducible apply sx_raise) | (with_reducible refine sx_retN (el_lst ?_)) | (with_reducible refine sx_retN (el_call ?_)) | (with_reducible refine sx_retN (el_lc ?_)) | (with_reducible refine sx_retN (el_list ?_)) | (with_reducible refine sx_retN (el_cat ?_)) | (with_reducible apply sx_ret) | (with_reducible apply sx_retNone) | (with_reducible apply sx_ofA) | (with_reducible apply sx_ofD) | (with_reducible apply sx_ofN)))
  | ((with_reducible show sqX _ _ _ _ _ _ _ _); (first | (with_reducible apply q_nx) | (with_reducible apply q_rt) | (with_reducible apply q_rn) | (with_reducible apply q_bk) | (with_reducible apply q_ct)))
  | ((with_reducible show liO _ _); (first | (with_reducible apply li_nx) | (with_reducible apply li_bk) | (with_reducible apply li_ct)))
  | (with_reducible apply rx_rt)
  | (with_reducible apply wx_rt))
local macro_rules | `(tactic| walk_at "ds") => `(tactic| repeat walk_at "ds1")
local macro_rules | `(tactic| walk_at "d0") => `(tactic| (try simp only [cx_K, cx_K', List.map_cons, List.map_nil]))
local macro_rules | `(tactic| walk_at "da") => `(tactic| repeat first | walk_at "ds1" | (with_reducible apply sv_cut) | (with_reducible apply sx_cut))
section
variable {P : Program} {w : World} {K : PySem.W.Frag} {mg : Str → Option Value} {base : Heap}
def pre_wrn : List Vl → (Vl → Prop) → Prop := fun xs R => ∃ (ps : List Pt) (m : Nat) (fr : Bool), xs = [.da (.tup (ps.map ptD)), .da (.bl fr)] ∧ (∀ p ∈ ps, PtOk m p) ∧ m ≤ 200 ∧ ps.length ≤ 20 ∧ ∀ w, WrT ps w → (fr = false → w = ps.flatMap wrP) → R (.da (.str (tx w)))
theorem wrt_len {ps : List Pt} {w : List Nat} {m : Nat} (h : WrT ps w) (o : ∀ p ∈ ps, PtOk m p) (hm : m ≤ 200) (hl : ps.length ≤ 20) : w.length ≤ 8300 := by
  have := h.len (k := 0) o
  have h2 : (2 * m + 15) * ps.length ≤ 415 * 20 := Nat.mul_le_mul (by omega) hl
  omega
theorem ok_Lwritten (T : Top K mg) : FnOk P w K mg base CX0 3 T.f_Lwritten T.fd_Lwritten ["_law_draw_here", "_law_template_here", "_law_free"] (sp_dr K pre_wrn) := by
  refine T.F_Lwritten.ok sc_Lwritten (fun vs H Q E h => ?_) (fun cdv A outer s H vs Q E hr h => ⟨_, (pss_cons (ps_set (i := 3) sc_Lwritten.nd rfl (Or.inl rfl) pe_str)
       (pss_cons (ps_for PassesOwn.never rfl (pi_tup (pv 1)) (pg_name (i := 4) sc_Lwritten.nd rfl (Or.inl rfl))
       (pss_one (ps_if (pt_cmpR op_eq (pe_ix (r := rIxT K) ix_tup (pv 4) pe_int (fun _ _ => rfl)) pe_str (nomark _)) (pss_one (ps_set (i := 3) sc_Lwritten.nd rfl (Or.inl rfl) (pe_op op_add_str (pv 3) (pe_call (ok_Lspelled T) (hr.mono (by decide)) (by rfl) T.g_Lspelled T.F_Lspelled.kp T.B_Lspelled .nil pass0 (pa_cons (pv 0) (pa_cons (pe_ix (r := rIxT K) ix_tup (pv 4) pe_int (fun _ _ => rfl)) (pa_cons pe_str (pa_cons (pv 2) pa_nil)))))))) (pss_one (ps_if (pt_cmpR op_eq (pe_ix (r := rIxT K) ix_tup (pv 4) pe_int (fun _ _ => rfl)) pe_str (nomark _)) (pss_one (ps_set (i := 3) sc_Lwritten.nd rfl (Or.inl rfl) (pe_op op_add_str (pv 3) pe_str))) (pss_cons (ps_set (i := 3) sc_Lwritten.nd rfl (Or.inl rfl) (pe_op op_add_str (pe_op op_add_str (pv 3) pe_str) (pe_ix (r := rIxT K) ix_tup (pv 4) pe_int (fun _ _ => rfl))))
       (pss_cut (ps_if (PW.pt (pw_or (pt_cmpR op_ne (pe_ix (r := rIxT K) ix_tup (pv 4) pe_int (fun _ _ => rfl)) pe_str (nomark _)) (pw_or1 (PW.pt (pw_and (pt_val (pv 2)) (pw_and1 (pt_cmpR op_eq (pe_call (ok_Lnext T) (hr.mono (by decide)) (by rfl) T.g_Lnext T.F_Lnext.kp T.B_Lnext .nil pass0 (pa_cons (pv 0) (pa_cons pe_int pa_nil))) pe_int (nomark _)))))))) (pss_one (ps_set (i := 3) sc_Lwritten.nd rfl (Or.inl rfl) (pe_op op_add_str (pe_op op_add_str (pv 3) pe_str) (pe_call (ok_Lspelled T) (hr.mono (by decide)) (by rfl) T.g_Lspelled T.F_Lspelled.kp T.B_Lspelled .nil pass0 (pa_cons (pv 0) (pa_cons (pe_ix (r := rIxT K) ix_tup (pv 4) pe_int (fun _ _ => rfl)) (pa_cons pe_str (pa_cons (pv 2) pa_nil)))))))) pss_nil)
       (pss_one (ps_set (i := 3) sc_Lwritten.nd rfl (Or.inl rfl) (pe_op op_add_str (pv 3) pe_str))))))))))
       (pss_one (ps_ret (pv 3))))), fin_dr (N := n_Lwritten) (fun xs R hp e he => ?_) h⟩)
  · obtain ⟨d, l, ws, xs, R, rfl, _, hx, ⟨ps, m, fr, rfl, _⟩, _⟩ := h
    rw [List.length_cons, hx.len]
    rfl
  · obtain ⟨ps, m, fr, rfl, o, hm, hl, q⟩ := hp
    rcases he with _ | he
    rcases he with _ | he
    cases he
    walk_at "d0"
    walk_at "ds"
    refine k_forI (fun i e => ∃ w : List Nat, e = [some .dr, some (.vl (.tup (ps.map ptD))), some (.vl (.bl fr)), some (.vl (.str (tx w))), none] ∧ WrT (ps.take i) w ∧ (fr = false → w = (ps.take i).flatMap wrP)) ⟨_, ?_, [], rfl, by rw [List.take_zero]; exact .nil, fun _ => rfl⟩ (fun _ _ _ => trivial) (fun i d e hd hI => ?_) (fun e hI => ?_)
    · walk_at "wk"
    · obtain ⟨w, rfl, hw, hf⟩ := hI
      rw [List.getElem?_map] at hd
      obtain ⟨p, hp, rfl⟩ := Option.map_eq_some_iff.mp hd
      have ho := o p (List.mem_of_getElem? hp)
      have hlt : (ps.take i).length ≤ ps.length := List.length_take_le' ..
      have hwl := wrt_len hw (fun p hp => o p (List.mem_of_mem_take hp)) hm (by omega)
      have et : ps.take (i + 1) = ps.take i ++ [p] := by rw [List.take_succ, hp]; rfl
      have fin : ∀ v : List Nat, WrP p v → (fr = false → v = wrP p) → WrT (ps.take (i + 1)) (w ++ v) ∧ (fr = false → w ++ v = (ps.take (i + 1)).flatMap wrP) := fun v h1 h2 => by
        rw [et]
        refine ⟨hw.snoc h1, fun z => ?_⟩
        rw [hf z, h2 z, List.flatMap_append]
        simp
      cases p with
      | te s =>
        have l1 := ho.2.1
        rw [ptD]
        walk_at "ds"
        refine ⟨s, TSP, fr, rfl, spo_t, by omega, fun v hv hv2 => ⟨trivial, ?_⟩⟩
        have l2 := hv.len.1
        walk_at "ds"
        refine k_x2 (toL (by omega)) ?_
        walk_at "ds"
        refine ⟨_, ?_, w ++ v, rfl, fin v (.te hv) (fun z => hv2 z)⟩
        walk_at "wk"
      | wh =>
        rw [ptD]
        walk_at "ds"
        refine k_x2 (toL (by simp only [List.length_append, List.length_cons, List.length_nil]; omega)) ?_
        walk_at "ds"
        refine ⟨_, ?_, w ++ [123, 125], rfl, fin _ .wh (fun z => rfl)⟩
        walk_at "wk"
      | gr n x =>
        have l1 := ho.2.1
        have l2 := ho.1.2
        rw [ptD]
        walk_at "ds"
        refine k_x2 (toL (by simp only [List.length_append, List.length_cons, List.length_nil]; omega)) ?_
        walk_at "ds"
        refine k_x2 (toL (by simp only [List.length_append, List.length_cons, List.length_nil]; omega)) ?_
        walk_at "ds"
        refine sv_joinI (fun e => ∃ v u : List Nat, e = [some .dr, some (.vl (.tup (ps.map ptD))), some (.vl (.bl fr)), some (.vl (.str (tx u))), none] ∧ u = w ++ [123] ++ n ++ v ∧ v.length ≤ 500 ∧ WrP (.gr n x) (123 :: n ++ v ++ [125]) ∧ (fr = false → 123 :: n ++ v ++ [125] = wrP (.gr n x))) ?_ (fun e hE => ?_)
        · have yes : ∀ v, Sp2 OSP x v → (fr = false → x ≠ [] ∧ v = x.flatMap (esc OSP)) → (124 :: v).length ≤ 500 ∧ WrP (.gr n x) (123 :: n ++ 124 :: v ++ [125]) ∧ (fr = false → 123 :: n ++ 124 :: v ++ [125] = wrP (.gr n x)) := fun v h1 h2 => by
            have := h1.len.1
            refine ⟨by simp; omega, .gr1 h1, fun z => ?_⟩
            obtain ⟨g1, g2⟩ := h2 z
            rw [wrP, if_neg g1, g2]
          walk_at "ds"
          by_cases hx : x = []
          · subst hx
            refine k_iff (by simp) ?_
            walk_at "ds"
            cases fr with
            | false =>
              walk_at "ds"
              refine ⟨_, ?_, [], w ++ [123] ++ n, rfl, by rw [List.append_nil], by simp, by rw [List.append_nil]; exact .gr0, fun _ => by rw [wrP, if_pos rfl]⟩
              walk_at "wk"
            | true =>
              walk_at "ds"
              refine k_dr_next (by decide) (fun r h0 h1 => ?_)
              walk_at "ds"
              refine k_if (fun _ => ?_) (fun _ => ?_)
              · walk_at "ds"
                refine k_x2 (toL (by simp only [List.length_append, List.length_cons, List.length_nil]; omega)) ?_
                walk_at "ds"
                refine ⟨[], OSP, true, rfl, spo_o, by simp, fun v hv hv2 => ⟨trivial, ?_⟩⟩
                have l3 := hv.len.1
                rw [List.length_nil] at l3
                walk_at "ds"
                refine k_x2 (toL (by simp only [List.length_append, List.length_cons, List.length_nil]; omega)) ?_
                walk_at "ds"
                refine ⟨_, ?_, 124 :: v, w ++ [123] ++ n ++ [124] ++ v, rfl, by simp only [List.append_assoc, List.singleton_append], yes v hv (fun z => by cases z)⟩
                walk_at "wk"
              · walk_at "ds"
                refine ⟨_, ?_, [], w ++ [123] ++ n, rfl, by rw [List.append_nil], by simp, by rw [List.append_nil]; exact .gr0, fun _ => by rw [wrP, if_pos rfl]⟩
                walk_at "wk"
          · refine k_ift (by simpa [tx_eq] using hx) ?_
            walk_at "ds"
            refine k_x2 (toL (by simp only [List.length_append, List.length_cons, List.length_nil]; omega)) ?_
            walk_at "ds"
            refine ⟨x, OSP, fr, rfl, spo_o, by omega, fun v hv hv2 => ⟨trivial, ?_⟩⟩
            have l3 := hv.len.1
            walk_at "ds"
            refine k_x2 (toL (by simp only [List.length_append, List.length_cons, List.length_nil]; omega)) ?_
            walk_at "ds"
            refine ⟨_, ?_, 124 :: v, w ++ [123] ++ n ++ [124] ++ v, rfl, by simp only [List.append_assoc, List.singleton_append], yes v hv (fun z => ⟨hx, hv2 z⟩)⟩
            walk_at "wk"
        · obtain ⟨v, _, rfl, rfl, hv0, hv1, hv2⟩ := hE
          walk_at "ds"
          refine k_x2 (toL (by simp only [List.length_append, List.length_cons, List.length_nil]; omega)) ?_
          walk_at "ds"
          have f := fin _ hv1 hv2
          refine ⟨_, ?_, w ++ [123] ++ n ++ v ++ [125], rfl, by simpa using f⟩
          walk_at "wk"
    · obtain ⟨w, rfl, hw, hf⟩ := hI
      rw [List.length_map, List.take_length] at hw hf
      refine ⟨.of rfl, ?_⟩
      walk_at "ds"
      exact q _ hw hf
mutual
theorem eqv_refl : ∀ d : Da, PyData.eqv (toPy d) (toPy d) = true
  | .non => by rw [toPy]; rfl
  | .bl b => by rw [toPy, PyData.eqv]; simp
  | .int i => by rw [toPy, PyData.eqv]; simp
  | .str s => by rw [toPy, PyData.eqv]; simp
  | .tup l => by rw [toPy, PyData.eqv]; exact eqvs_refl l
theorem eqvs_refl : ∀ l : List Da, PyData.eqvAll (toPys l) (toPys l) = true
  | [] => by rw [toPys]; rfl
  | d :: l => by rw [toPys, PyData.eqvAll, eqv_refl d, eqvs_refl l]; rfl
end
theorem k_eqR {d : Da} {R : Bool → Prop} (h : SeqAt.shaped (toPy d) = true) (r : R true) : KEqD (.da d) (.da d) R := ⟨d, d, rfl, rfl, h, h, by rw [eqv_refl]; exact r⟩
theorem lay_s {s : List Nat} (h : ∀ c ∈ s, c ∈ SG) : PyData.canLay0 (.str (tx s)) = true := by
  rw [PyData.canLay0]
  exact ok_tx h
theorem lay_pt {p : Pt} (h : PtS p) : PyData.canLay0 (toPy (ptD p)) = true ∧ PyData.depth (toPy (ptD p)) ≤ 2 := by
  cases p with
  | te s =>
    rw [ptD]
    simp only [toPy, toPys, PyData.canLay0, PyData.canLayAll0, PyData.depth, PyData.depthAll]
    refine ⟨?_, by simp⟩
    rw [ok_tx h, ok_tx (by decide)]
    rfl
  | wh =>
    rw [ptD]
    simp only [toPy, toPys, PyData.canLay0, PyData.canLayAll0, PyData.depth, PyData.depthAll]
    refine ⟨?_, by simp⟩
    rw [ok_tx (by decide)]
    rfl
  | gr n o =>
    rw [ptD]
    simp only [toPy, toPys, PyData.canLay0, PyData.canLayAll0, PyData.depth, PyData.depthAll]
    refine ⟨?_, by simp⟩
    rw [ok_tx h.2, ok_tx h.1, ok_tx (by decide)]
    rfl
theorem lay_pts : ∀ {ps : List Pt}, (∀ p ∈ ps, PtS p) → PyData.canLayAll0 (toPys (ps.map ptD)) = true ∧ PyData.depthAll (toPys (ps.map ptD)) ≤ 2
  | [], _ => by rw [List.map_nil, toPys]; exact ⟨rfl, by simp [PyData.depthAll]⟩
  | p :: ps, h => by
    have h1 := lay_pt (h p (List.mem_cons_self ..))
    have h2 := lay_pts (fun q hq => h q (List.mem_cons_of_mem _ hq))
    rw [List.map_cons, toPys, PyData.canLayAll0, PyData.depthAll, h1.1, h2.1]
    exact ⟨rfl, by have := h1.2; have := h2.2; omega⟩
theorem shaped_pts {ps : List Pt} (h : ∀ p ∈ ps, PtS p) : SeqAt.shaped (toPy (.tup (ps.map ptD))) = true := by
  have h2 := lay_pts h
  unfold SeqAt.shaped
  rw [toPy, PyData.canLay0, h2.1, PyData.depth]
  have := h2.2
  simp
  omega
def pre_st : List Vl → (Vl → Prop) → Prop := fun xs R => ∃ (ps : List Pt), xs = [.da (.tup (ps.map ptD)), .da (.tup (ps.map ptD))] ∧ (∀ p ∈ ps, PtS p) ∧ R (.da (.bl true))
theorem ok_Lsame_template (T : Top K mg) : FnOk P w K mg base CX0 1 T.f_Lsame_template T.fd_Lsame_template ["_law_found", "_law_due"] (sp_pu K pre_st) := by
  refine T.F_Lsame_template.ok sc_Lsame_template (fun vs H Q E h => ?_) (fun cdv A outer s H vs Q E hr h => ⟨_, (pss_cons (ps_if (PW.pt (pw_or (pt_not (pt_val (pe_callB (r := rIsi K) call_isi (by rfl) T.b_isinstance (by decide +kernel) (pa_cons (pv 0) (pa_cons (pe_bltn (v := .ty "tuple") (u := .type "tuple") (by rfl) T.b_tuple (by decide +kernel) rfl) pa_nil))))) (pw_or1 (pt_cmpR op_ne (pe_callB (r := rLenQ K) call_lenQ (by rfl) T.b_len PySem.boot_len (pa_cons (pv 0) pa_nil)) (pe_callB (r := rLenQ K) call_lenQ (by rfl) T.b_len PySem.boot_len (pa_cons (pv 1) pa_nil)) (nomark _))))) (pss_one (ps_ret pe_bl)) pss_nil)
       (pss_cons (ps_for PassesOwn.never rfl (pi_tup (pv 0)) (pg_name (i := 2) sc_Lsame_template.nd rfl (Or.inl rfl))
       (pss_cons (ps_if (pt_not (pt_val (pe_callB (r := rIsi K) call_isi (by rfl) T.b_isinstance (by decide +kernel) (pa_cons (pv 2) (pa_cons (pe_bltn (v := .ty "tuple") (u := .type "tuple") (by rfl) T.b_tuple (by decide +kernel) rfl) pa_nil))))) (pss_one (ps_ret pe_bl)) pss_nil)
       (pss_one (ps_for PassesOwn.never rfl (pi_tup (pv 2)) (pg_name (i := 3) sc_Lsame_template.nd rfl (Or.inl rfl))
       (pss_one (ps_if (pt_not (pt_val (pe_callB (r := rIsi K) call_isi (by rfl) T.b_isinstance (by decide +kernel) (pa_cons (pv 3) (pa_cons (pe_bltn (v := .ty "str") (u := .type "str") (by rfl) T.b_str (by decide +kernel) rfl) pa_nil))))) (pss_one (ps_ret pe_bl)) pss_nil))))))
       (pss_one (ps_ret (pe_cmpR (r := rEqD K) (op_eqD hr.units) (pv 0) (pv 1) (nomark _)))))), fin_pu (N := n_Lsame_template) (fun xs R hp e he => ?_) h⟩)
  · obtain ⟨xs, R, hx, ⟨ps, rfl, _⟩, _⟩ := h
    exact hx.len
  · obtain ⟨ps, rfl, o, q⟩ := hp
    rcases he with _ | he
    rcases he with _ | he
    cases he
    walk_at "d0"
    walk_at "ds"
    refine k_iff (by simp) ?_
    walk_at "ds"
    refine k_forI (fun i e => e = [some (.vl (.tup (ps.map ptD))), some (.vl (.tup (ps.map ptD))), none, none]) ⟨_, ?_, rfl⟩ (fun _ _ _ => trivial) (fun i d e hd hI => ?_) (fun e hI => ?_)
    · walk_at "wk"
    · subst hI
      rw [List.getElem?_map] at hd
      obtain ⟨p, hp, rfl⟩ := Option.map_eq_some_iff.mp hd
      have hstr : ∃ l : List Str, ptD p = .tup (l.map Da.str) := by
        cases p with
        | te s => exact ⟨[_, _], rfl⟩
        | wh => exact ⟨[_], rfl⟩
        | gr n o => exact ⟨[_, _, _], rfl⟩
      obtain ⟨l, el⟩ := hstr
      rw [el]
      walk_at "ds"
      refine k_forI (fun i e => e = [some (.vl (.tup (ps.map ptD))), some (.vl (.tup (ps.map ptD))), none, none]) ⟨_, ?_, rfl⟩ (fun _ _ _ => trivial) (fun i d e hd hI => ?_) (fun e hI => ?_)
      · walk_at "wk"
      · subst hI
        rw [List.getElem?_map] at hd
        obtain ⟨z, hz, rfl⟩ := Option.map_eq_some_iff.mp hd
        walk_at "ds"
        walk_at "wk"
      · subst hI
        refine ⟨.of rfl, ?_⟩
        walk_at "ds"
        walk_at "wk"
    · subst hI
      refine ⟨.of rfl, ?_⟩
      walk_at "ds"
      refine k_eqR (shaped_pts o) ?_
      walk_at "ds"
      exact q
end
end My
namespace My
open PySem L2
local macro_rules | `(tactic| walk_at "rd") => `(tactic| simp only [tSeq, tNext, tAsg, tOp, tUn, tC, tVar, gName, gSub, tCons, tNil, tCB, tIfS, tIf, tTest, tB, tAnd, tOr, tNot, tAndV, tOrV, tNotV, tRet, tRetN, tDrop, tLst, tTup, tCall, tSl, tNoPart, tPart, tM0, tM1, tBM, tBM0, tYes, tFor_eq, tLc_eq, iList, iRng1, iRng2, iStr, sg_tx, c_empty, rstrip_sign, find_sign, cut_last, cut_to, cut_from, cut_mid, cut_to_lit, cut_from_lit, and_assoc, flat_rep, List.length_replicate, tx_len, tx_eq, tx_app, tx_cps, rI0, rI, rU, rEq, rNe, rIxL, rIxS, rIxT, rSetL, rAppend, rPopAt, rSlS, rSlL, rIn, rMulS, rLtD, rJoin, rLenQ, rListOf,  tRevS, 
  scal, L2.start, List.map_cons, List.map_nil, List.length_cons, List.length_nil, List.replicate, List.cons_append, List.nil_append, List.append_nil,
  List.getElem?_cons_zero, List.getElem?_cons_succ, List.set_cons_zero, List.set_cons_succ, Nat.sub_zero, Nat.reduceSub, Nat.reduceAdd, Nat.zero_add, id_eq, Int.reduceToNat, exists_or,
  V.int.injEq, V.str.injEq, V.bl.injEq, V.ref.injEq, Option.some.injEq, List.cons.injEq, exists_and_left, exists_eq_left', exists_eq_left, exists_eq, exists_eq', and_true, true_and, reduceCtorEq, false_and, and_false, exists_false, false_or, or_false, decide_eq_true_eq, Bool.not_eq_true', decide_eq_false_iff_not, Bool.not_not, Bool.false_eq_true, ↓reduceIte, if_true, if_false])

local macro_rules | `(tactic| walk_at "ne") => `(tactic| first | assumption | (refine Ne.symm ?_; assumption) | exact (ne_of_none (by assumption) (by assumption)) | exact (ne_of_none (by assumption) (by assumption)).symm)
local macro_rules | `(tactic| walk_at "hp") => `(tactic| first | assumption | exact upd_same | exact (upd_ne (by walk_at "ne")).trans (by walk_at "hp"))
local macro_rules | `(tactic| walk_at "st1") => `(tactic| first
  | refine ⟨_, Or.inl (Or.inl (by walk_at "hp")), ?_⟩
  | refine ⟨_, Or.inl (Or.inl (Or.inl (by walk_at "hp"))), ?_⟩
  | refine ⟨_, (show _ = some (HO.lst _) by walk_at "hp"), ?_⟩
  | refine ⟨_, rfl, ?_⟩
  | refine ⟨(rfl : ("str" : String) = "str"), ?_⟩
  | refine ⟨Or.inr ⟨by decide, by decide⟩, ?_⟩
  | refine ⟨⟨by decide, by decide⟩, ?_⟩
  | refine ⟨by decide, ?_⟩
  | refine ⟨by assumption, ?_⟩)
local macro_rules | `(tactic| walk_at "st") => `(tactic| repeat walk_at "st1")
local macro_rules | `(tactic| walk_at "go") => `(tactic| repeat first | walk_at "st1" | walk_at "rd")
local macro_rules | `(tactic| walk_at "wk") => `(tactic| repeat first | exact Wk.nil | apply Wk.yes | apply Wk.no)
local macro_rules | `(tactic| walk_at "ds1") => `(tactic| first
  | ((with_reducible show Sv _ _ _ _); (first | (with_reducible apply sv_set2) | (with_reducible apply sv_seq) | (with_reducible apply sv_if) | (((with_reducible apply sv_retO); next => rfl)) | (with_reducible refine sv_retN (el_lst ?_)) | (with_reducible refine sv_retN (el_call ?_)) | (with_reducible refine sv_retN (el_lc ?_)) | (with_reducible refine sv_retN (el_list ?_)) | (with_reducible refine sv_retN (el_cat ?_)) | (with_reducible apply sv_ret) | (with_reducible refine sv_setN (el_lst ?_)) | (with_reducible refine sv_setN (el_call ?_)) | (with_reducible refine sv_setN (el_lc ?_)) | (with_reducible refine sv_setN (el_list ?_)) | (with_reducible refine sv_setN (el_cat ?_)) | (with_reducible refine sv_setN (el_callD rfl ?_)) | (((with_reducible apply sv_putD); next => rfl)) | (with_reducible apply sv_set) | (((with_reducible apply sv_app); next => rfl)) | (((with_reducible apply sv_ext); next => rfl)) | (((with_reducible apply sv_put); next => rfl)) | (with_reducible apply sv_for) | (with_reducible apply sv_nil) | (with_reducible apply sv_retNone) | (with_reducible apply sv_drop)))
  | ((with_reducible show Ev _ _ _ _); (first | (with_reducible apply ev_q0) | (with_reducible apply ev_q1) | (with_reducible apply ev_q2) | (with_reducible apply ev_q3) | (with_reducible apply ev_q4) | (with_reducible apply ev_q5) | (with_reducible apply ev_q6) | (with_reducible apply ev_q7) | (with_reducible apply ev_q8) | (with_reducible apply ev_q9) | (with_reducible apply ev_q10) | (with_reducible apply ev_q11) | (with_reducible apply ev_q12) | (with_reducible apply ev_q13) | (with_reducible apply ev_q14) | (with_reducible apply ev_q15) | (with_reducible apply ev_q16) | (with_reducible apply ev_q17) | (with_reducible apply ev_q18) | (with_reducible apply ev_q19) | (with_reducible apply ev_q20) | (with_reducible apply ev_q21) | (with_reducible apply ev_q22) | (with_reducible apply ev_q23) | (with_reducible apply ev_q24) | (with_reducible apply ev_q25) | (with_reducible apply ev_q26) | (with_reducible apply ev_q27) | (with_reducible apply ev_q28) | (with_reducible apply ev_q29) | (with_reducible apply ev_q30) | (with_reducible apply ev_q31) | (with_reducible apply ev_q32) | (with_reducible apply ev_q33) | (with_reducible apply ev_catX) | (with_reducible apply ev_inS) | (with_reducible apply ev_ninS) | (with_reducible apply ev_joinE) | (with_reducible apply ev_kget) | (((with_reducible apply ev_var); next => rfl)) | (((with_reducible apply ev_varO); next => rfl)) | (((with_reducible apply ev_varL); next => rfl)) | (((with_reducible apply ev_callD); next => rfl)) | (((with_reducible apply ev_dr); next => rfl)) | (with_reducible apply ev_max2) | (with_reducible apply ev_min2) | (with_reducible apply ev_index) | (with_reducible apply ev_eqD) | (with_reducible apply ev_neD) | (with_reducible apply ev_int) | (with_reducible apply ev_bl) | (with_reducible apply ev_non) | (with_reducible apply ev_ixT) | (with_reducible apply ev_call) | (with_reducible apply ev_eq) | (with_reducible apply ev_tup) | (with_reducible apply ev_in) | (with_reducible apply ev_ixL) | (with_reducible apply ev_ne) | (with_reducible apply ev_i0) | (with_reducible apply ev_ib) | (with_reducible apply ev_isi) | (with_reducible apply ev_isN) | (with_reducible apply ev_notN) | (with_reducible apply ev_isB) | (with_reducible apply ev_notB) | (with_reducible apply ev_slT2) | (with_reducible apply ev_catU) | (with_reducible apply ev_iC) | (with_reducible apply ev_ixS) | (with_reducible apply ev_slS) | (with_reducible apply ev_u) | (with_reducible apply ev_notV) | (with_reducible apply ev_if) | (with_reducible apply ev_len) | (with_reducible apply ev_lenS) | (with_reducible apply ev_tuple) | (with_reducible apply ev_all) | (with_reducible refine Ev.ofNew (el_lst ?_)) | (with_reducible refine Ev.ofNew (el_call ?_)) | (with_reducible refine Ev.ofNew (el_lc ?_)) | (with_reducible refine Ev.ofNew (el_list ?_)) | (with_reducible refine Ev.ofNew (el_cat ?_))))
  | ((with_reducible show Es _ _ _ _); (first | (with_reducible apply es_cons) | (with_reducible apply es_nil)))
  | ((with_reducible show Tv _ _ _ _); (first | (with_reducible apply tv_test) | (with_reducible apply tv_not) | (with_reducible apply tv_and) | (with_reducible apply tv_or) | (with_reducible apply tv_b) | (with_reducible apply tv_yes) | (with_reducible apply tv_tru)))
  | ((with_reducible show Eln _ _ _ _); (first | (with_reducible apply el_lst) | (with_reducible apply el_call) | (with_reducible apply el_lc) | (with_reducible apply el_list) | (with_reducible apply el_cat)))
  | ((with_reducible show Eo _ _ _ _); (first | (with_reducible apply eo_no) | (with_reducible apply eo_some)))
  | ((with_reducible show Iv _ _ _ _); (first | (with_reducible apply iv_tup) | (with_reducible apply iv_range1) | (with_reducible apply iv_str) | (with_reducible apply iv_enumT) | (((with_reducible apply iv_listV); next => rfl)) | (((with_reducible apply iv_listO); next => rfl)) | (with_reducible refine iv_listN (el_lst ?_)) | (with_reducible refine iv_listN (el_call ?_)) | (with_reducible refine iv_listN (el_lc ?_)) | (with_reducible refine iv_listN (el_list ?_)) | (with_reducible refine iv_listN (el_cat ?_))))
  | ((with_reducible show Gv _ _ _ _ _ _); (first | (with_reducible apply gv_name) | (with_reducible apply gv_tup2) | (with_reducible apply gv_tup3)))
  | ((with_reducible show seqO _ _ _ _); (first | (with_reducible apply o_nx) | (with_reducible apply o_rt) | (with_reducible apply o_rn) | (with_reducible apply o_bk) | (with_reducible apply o_ct)))
  | ((with_reducible show jnI _ _ _); (first | (with_reducible apply ji_nx) | (with_reducible apply ji_rt) | (with_reducible apply ji_rn) | (with_reducible apply ji_bk) | (with_reducible apply ji_ct)))
  | ((with_reducible show jnO _ _ _); (first | (with_reducible apply j_nx) | (with_reducible apply j_rt) | (with_reducible apply j_rn) | (with_reducible apply j_bk) | (with_reducible apply j_ct)))
  | ((with_reducible show lpO _ _ _ _); (first | (with_reducible apply l_rt) | (with_reducible apply l_rn) | (with_reducible apply l_ct) | (with_reducible apply l_nx')))
  | ((with_reducible show retO _ _); (first | (with_reducible apply r_rt) | (with_reducible apply r_nx)))
  | (with_reducible apply r_rn)
  | ((with_reducible show KIf _ _ _); (first | (((with_reducible apply k_ift); next => first | decide +kernel | rfl)) | (((with_reducible apply k_iff); next => first | decide +kernel | rfl))))
  | ((with_reducible show KEq _ _ _); (first | (with_reducible apply k_eqS) | (with_reducible apply k_eqI) | (with_reducible apply k_eqB) | (((with_reducible apply k_eqO); next => rfl; next => rfl; next => rfl; next => rfl))))
  | ((with_reducible show KDas _ _); (first | (with_reducible apply k_das_0) | (with_reducible apply k_das_1) | (with_reducible apply k_das_2) | (with_reducible apply k_das_3) | (with_reducible apply k_das_4) | (with_reducible apply k_das_5) | (with_reducible apply k_das_6) | (with_reducible apply k_das_7) | (with_reducible apply k_das_8) | (with_reducible apply k_das_9) | (with_reducible apply k_das_10) | (with_reducible apply k_das_11) | (with_reducible apply k_das_12) | (with_reducible apply k_das_13) | (with_reducible apply k_das_14) | (with_reducible apply k_das_15) | (with_reducible apply k_das_16)))
  | ((with_reducible show KIn _ _ _); (first | (with_reducible apply k_inT_0) | (with_reducible apply k_inL_0) | (with_reducible apply k_inT_1) | (with_reducible apply k_inL_1) | (with_reducible apply k_inT_2) | (with_reducible apply k_inL_2) | (with_reducible apply k_inT_3) | (with_reducible apply k_inL_3) | (with_reducible apply k_inT_4) | (with_reducible apply k_inL_4) | (with_reducible apply k_inT_5) | (with_reducible apply k_inL_5) | (with_reducible apply k_inT_6) | (with_reducible apply k_inL_6) | (with_reducible apply k_inT_7) | (with_reducible apply k_inL_7) | (with_reducible apply k_inT_8) | (with_reducible apply k_inL_8) | (with_reducible apply k_inT_9) | (with_reducible apply k_inL_9) | (with_reducible apply k_inT_10) | (with_reducible apply k_inL_10) | (with_reducible apply k_inT_11) | (with_reducible apply k_inL_11) | (with_reducible apply k_inT_12) | (with_reducible apply k_inL_12) | (with_reducible apply k_inN) | (((with_reducible apply k_inT); next => rfl; next => rfl)) | (((with_reducible apply k_inL); next => rfl; next => rfl))))
  | ((with_reducible show KEqD _ _ _); (first | (with_reducible apply k_eqIntsC) | (with_reducible apply k_eqInts0) | (with_reducible apply k_eqInts)))
  | (with_reducible apply k_put0)
  | ((with_reducible show KTy _ _ _); (first | (with_reducible apply k_ty_tup_tuple) | (with_reducible apply k_ty_tup_bool) | (with_reducible apply k_ty_tup_int) | (with_reducible apply k_ty_tup_str) | (with_reducible apply k_ty_tup_list) | (with_reducible apply k_ty_ls_tuple) | (with_reducible apply k_ty_ls_bool) | (with_reducible apply k_ty_ls_int) | (with_reducible apply k_ty_ls_str) | (with_reducible apply k_ty_ls_list) | (with_reducible apply k_ty_int_tuple) | (with_reducible apply k_ty_int_bool) | (with_reducible apply k_ty_int_int) | (with_reducible apply k_ty_int_str) | (with_reducible apply k_ty_int_list) | (with_reducible apply k_ty_str_tuple) | (with_reducible apply k_ty_str_bool) | (with_reducible apply k_ty_str_int) | (with_reducible apply k_ty_str_str) | (with_reducible apply k_ty_str_list) | (with_reducible apply k_ty_bl_tuple) | (with_reducible apply k_ty_bl_bool) | (with_reducible apply k_ty_bl_int) | (with_reducible apply k_ty_bl_str) | (with_reducible apply k_ty_bl_list) | (with_reducible apply k_ty_non_tuple) | (with_reducible apply k_ty_non_bool) | (with_reducible apply k_ty_non_int) | (with_reducible apply k_ty_non_str) | (with_reducible apply k_ty_non_list)))
  | ((with_reducible show KSl _ _ _ _); (first | (with_reducible apply k_sl_1) | (with_reducible apply k_sl_2) | (with_reducible apply k_sl_m2) | (with_reducible apply k_sl_m3) | (with_reducible apply k_sl_m4) | (with_reducible apply k_sl_m5)))
  | ((with_reducible show KCat _ _ _); (first | (with_reducible apply k_cat1) | (with_reducible apply k_cat2) | (with_reducible apply k_cat3) | (with_reducible apply k_cat23)))
  | ((with_reducible show KLen _ _); (first | (with_reducible apply k_lenT) | (with_reducible apply k_lenL)))
  | ((with_reducible show KSq _ _); (first | (with_reducible apply k_sqT) | (with_reducible apply k_sqL)))
  | (with_reducible apply k_i2s)
  | (with_reducible apply k_d)
  | ((with_reducible show KT _ _); (first | (with_reducible apply k_t) | (with_reducible apply k_tT)))
  | (with_reducible apply k_l)
  | (with_reducible apply k_i1)
  | (with_reducible apply k_i2)
  | (with_reducible apply k_b)
  | (with_reducible apply k_n)
  | (with_reducible apply k_tx)
  | (with_reducible apply k_t1)
  | (with_reducible apply k_ts)
  | with_reducible apply k_ix_0
  | with_reducible apply k_ix_1
  | ((with_reducible apply k_ixT2); next => rfl)
  | with_reducible apply gx_name
  | with_reducible apply gx_tup2
  | with_reducible apply gx_tup3
  | with_reducible refine (fun (p : Addr) => (?_ : seqO _ _ _ _))
  | with_reducible refine (fun (p : Addr) => (?_ : lpO _ _ _ _))
  | with_reducible refine (fun (p : Addr) => (?_ : liO _ _))
  | (with_reducible apply k_d2)
  | (with_reducible apply k_sg)
  | ((with_reducible show Sx _ _ _ _ _ _ _ _); (first | (with_reducible apply sx_seq) | (with_reducible apply sx_if) | (with_reducible apply sx_setX) | (with_reducible apply sx_set2X) | (with_reducible apply sx_dropX) | (with_reducible apply sx_raise) | (with_reducible refine sx_retN (el_lst ?_)) | (with_reducible refine sx_retN (el_call ?_)) | (with_reducible refine sx_retN (el_lc ?_)) | (with_reducible refine sx_retN (el_list ?_)) | (with_reducible refine sx_retN (el_cat ?_)) | (with_reducible apply sx_ret) | (with_reducible apply sx_retNone) | (with_reducible apply sx_ofA) | (with_reducible apply sx_ofD) | (with_reducible apply sx_ofN)))
  | ((with_reducible show sqX _ _ _ _ _ _ _ _); (first | (with_reducible apply q_nx) | (with_reducible apply q_rt) | (with_reducible apply q_rn) | (with_reducible apply q_bk) | (with_reducible apply q_ct)))
  | ((with_reducible show liO _ _); (first | (with_reducible apply li_nx) | (with_reducible apply li_bk) | (with_reducible apply li_ct)))
  | (with_reducible apply rx_rt)
  | (with_reducible apply wx_rt))
local macro_rules | `(tactic| walk_at "ds") => `(tactic| repeat walk_at "ds1")
local macro_rules | `(tactic| walk_at "d0") => `(tactic| (try simp only [cx_K, cx_K', List.map_cons, List.map_nil]))
local macro_rules | `(tactic| walk_at "da") => `(tactic| repeat first | walk_at "ds1" | (with_reducible apply sv_cut) | (with_reducible apply sx_cut))
section
variable {P : Program} {w : World} {K : PySem.W.Frag} {mg : Str → Option Value} {base : Heap}
theorem at_mid (u r : List Nat) (c : Nat) : (u ++ c :: r)[u.length]? = some c := by rw [List.getElem?_append_right (Nat.le_refl _), Nat.sub_self]; rfl
theorem cut_i {t : List Nat} {i j : Int} {n c : Nat} (hi : i = (n : Nat)) (hj : j = ((n + 1 : Nat) : Int)) (h : t[n]? = some c) : cutS (tx t) (some i) (some j) = tx [c] := by
  subst hi hj
  rw [cut_mid, show n + 1 - n = 1 by omega]
  have hn := (List.getElem?_eq_some_iff.mp h).1
  rw [List.drop_eq_getElem_cons hn, (List.getElem?_eq_some_iff.mp h).2]
  rfl
theorem atI_k {t : List Nat} {i : Int} {n c : Nat} (hi : i = (n : Nat)) (h : t[n]? = some c) : atI t i = some c := by
  subst hi
  exact atI_nat h
theorem ok_TemplateFault_Minit (T : Top K mg) : FnOk P w K mg base CX0 1 T.f_TemplateFault_Minit T.fd_TemplateFault_Minit ["self", "index"] (sp_init T.c_TemplateFault "index") := by
  refine T.F_TemplateFault_Minit.ok sc_TemplateFault_Minit (fun vs H Q E h => ?_) (fun cdv A outer s H vs Q E hr h => ⟨_, (pss_one (ps_ost (pv 0) (pv 1))), ?_⟩)
  · obtain ⟨a, v, rfl, _⟩ := h
    rfl
  · obtain ⟨a, v, rfl, ha, q⟩ := h
    exact ⟨v, rfl, .ref a, rfl, a, _, rfl, T.ox_TemplateFault, T.no_TemplateFault, .inl ⟨ha, fun dx n ne => q dx n ne⟩⟩
def pre_dx : List Vl → (Vl → Prop) → (Da → Prop) → Prop := fun xs R F => ∃ (t al : List Nat) (i : Int) (n : Nat), xs = [.da (.str (tx t)), .da (.int i), .da (.str (tx al))] ∧ i = (n : Nat) ∧ t.length ≤ 20000 ∧ (∀ c, t[n]? = some c → c ∈ al → R (.da (.str (tx [c])))) ∧ ((∀ c, t[n]? = some c → c ∉ al) → F (.int i))
theorem ok_demand_sign (T : Top K mg) : FnOk P w K mg base (L2N.CX P w) 3 T.f_demand_sign T.fd_demand_sign ["text", "index", "allowed"] (sp_px K T.c_TemplateFault "index" pre_dx) := by
  refine okN T.F_demand_sign sc_demand_sign (fun vs H Q E h => ?_) (fun cdv A outer s H vs Q E hr h => ⟨_, (pss_cons (ps_if (PW.pt (pw_or (pt_cmpR op_ge (pv 1) (pe_callB call_len_str (by rfl) T.b_len PySem.boot_len (pa_cons (pv 0) pa_nil)) (nomark _)) (pw_or1 (pt_cmpR op_notIn_sign (pe_ix ix_str (pv 0) (pv 1) (fun _ _ => rfl)) (pv 2) (by rfl))))) (pss_one (L2N.ps_raise rfl (L2N.takes_of rfl rfl rfl rfl) (pmkN T.ox_TemplateFault T.ic_TemplateFault T.ti_TemplateFault (ok_TemplateFault_Minit T) (hr.mono (by decide)) T.B_TemplateFault_Minit pass0 rfl T.g_TemplateFault (pa_cons (pv 1) pa_nil)))) pss_nil)
       (pss_one (ps_ret (pe_ix ix_str (pv 0) (pv 1) (fun _ _ => rfl))))), fin_px (N := n_demand_sign) (fun xs R F hp e he => ?_) h⟩)
  · obtain ⟨xs, R, F, hx, ⟨t, al, i, n, rfl, _⟩, _⟩ := h
    exact hx.len
  · obtain ⟨t, al, i, n, rfl, rfl, hl, q, f⟩ := hp
    rcases he with _ | he
    rcases he with _ | he
    rcases he with _ | he
    cases he
    walk_at "d0"
    walk_at "ds"
    refine k_ls (txL (by omega)) ?_
    walk_at "ds"
    by_cases hn : n < t.length
    · refine k_iff (decF (by rw [tx_len]; omega)) ?_
      have hc : t[n]? = some t[n] := List.getElem?_eq_getElem hn
      walk_at "ds"
      refine k_is' (toL (by omega)) (atI_k rfl hc) ?_
      walk_at "ds"
      by_cases ha : t[n] ∈ al
      · refine k_iff (by simpa using ha) ?_
        walk_at "ds"
        refine k_is' (toL (by omega)) (atI_k rfl hc) ?_
        walk_at "ds"
        exact q _ hc ha
      · refine k_ift (by simpa using ha) ?_
        walk_at "ds"
        exact ⟨_, rfl, f fun c e z => by rw [hc] at e; cases e; exact ha z⟩
    · refine k_ift (decT (by rw [tx_len]; omega)) ?_
      walk_at "ds"
      exact ⟨_, rfl, f fun c e => by rw [List.getElem?_eq_none (by omega)] at e; cases e⟩
def pre_rx : List Vl → (Vl → Prop) → (Da → Prop) → Prop := fun xs R F => ∃ (t sp : List Nat) (st n : Nat) (i : Int), xs = [.da (.str (tx t)), .da (.int i), .da (.str (tx [st])), .da (.str (tx sp))] ∧ i = (n : Nat) ∧ n ≤ t.length ∧ t.length ≤ 20000 ∧ sp.length ≤ 10 ∧
  (∀ f j, scan sp st (t.drop n) [] n = .inr (f, j) → ∀ z : Int, z = (j : Nat) → R (.da (.tup [.str (tx f), .int z]))) ∧ ∀ k, scan sp st (t.drop n) [] n = .inl k → ∀ z : Int, z = (k : Nat) → F (.int z)
theorem drop_at {t : List Nat} {j c : Nat} (h : t[j]? = some c) : t.drop j = c :: t.drop (j + 1) := by
  have hj := (List.getElem?_eq_some_iff.mp h).1
  rw [List.drop_eq_getElem_cons hj, (List.getElem?_eq_some_iff.mp h).2]
theorem drop_no {t : List Nat} {j : Nat} (h : t[j]? = none) : t.drop j = [] := List.drop_eq_nil_of_le (by simpa using h)
theorem ok_read_signs (T : Top K mg) : FnOk P T.tw K mg base (L2N.CX P T.tw) 4 T.f_read_signs T.fd_read_signs ["text", "index", "stop", "specials"] (sp_px K T.c_TemplateFault "index" pre_rx) := by
  refine okN T.F_read_signs sc_read_signs (fun vs H Q E h => ?_) (fun cdv A outer s H vs Q E hr h => ⟨_, (pss_cons (ps_set (i := 4) sc_read_signs.nd rfl (Or.inl rfl) pe_str)
       (pss_cons (ps_while (passes_of rfl) (PW.pt (pw_and (pt_cmpR op_lt (pv 1) (pe_callB call_len_str (by rfl) T.b_len PySem.boot_len (pa_cons (pv 0) pa_nil)) (nomark _)) (pw_and1 (pt_cmpR op_ne (pe_ix ix_str (pv 0) (pv 1) (fun _ _ => rfl)) (pv 2) (nomark _)))))
       (pss_cons (ps_set (i := 5) sc_read_signs.nd rfl (Or.inl rfl) (pe_ix ix_str (pv 0) (pv 1) (fun _ _ => rfl)))
       (pss_cut (ps_if (pt_cmpR op_eq (pv 5) pe_str (nomark _)) (pss_cons (ps_set (i := 1) sc_read_signs.nd rfl (Or.inl rfl) (pe_op op_add (pv 1) pe_int))
       (pss_cons (ps_set (i := 5) sc_read_signs.nd rfl (Or.inl rfl) (pe_callS (ok_demand_sign T) (hr.mono (by decide)) (by rfl) T.g_demand_sign T.F_demand_sign.kp T.B_demand_sign (fun σ => L2N.passAt (L2N.takes_of rfl rfl rfl rfl) σ) (pa_cons (pv 0) (pa_cons (pv 1) (pa_cons (pe_op op_add_str (pv 3) pe_str) pa_nil)))))
       (pss_one (ps_set (i := 5) sc_read_signs.nd rfl (Or.inl rfl) (pe_kget T.kt_ESCAPED (pe_glob (v := .ref T.d_ESCAPED) rfl T.g_ESCAPED rfl) (pv 5) (pv 5) ⟨rfl, rfl, rfl, rfl⟩))))) (pss_one (ps_if (pt_cmpR op_in_sign (pv 5) (pv 3) (by rfl)) (pss_one (L2N.ps_raise rfl (L2N.takes_of rfl rfl rfl rfl) (pmkN T.ox_TemplateFault T.ic_TemplateFault T.ti_TemplateFault (ok_TemplateFault_Minit T) (hr.mono (by decide)) T.B_TemplateFault_Minit pass0 rfl T.g_TemplateFault (pa_cons (pv 1) pa_nil)))) pss_nil)))
       (pss_cons (ps_set (i := 4) sc_read_signs.nd rfl (Or.inl rfl) (pe_op op_add_str (pv 4) (pv 5)))
       (pss_one (ps_set (i := 1) sc_read_signs.nd rfl (Or.inl rfl) (pe_op op_add (pv 1) pe_int)))))))
       (pss_one (ps_ret (pe_tup (pa_cons (pv 4) (pa_cons (pv 1) pa_nil))))))), fin_px (N := n_read_signs) (fun xs R F hp e he => ?_) h⟩)
  · obtain ⟨xs, R, F, hx, ⟨t, sp, st, n, i, rfl, _⟩, _⟩ := h
    exact hx.len
  · obtain ⟨t, sp, st, n, i, rfl, rfl, hn, hl, hsp, q, fl⟩ := hp
    rcases he with _ | he
    rcases he with _ | he
    rcases he with _ | he
    rcases he with _ | he
    cases he
    walk_at "d0"
    walk_at "ds"
    refine sx_while (fun m e => ∃ (f : List Nat) (j : Nat) (z : Int), e = [some (.vl (.str (tx t))), some (.vl (.int z)), some (.vl (.str (tx [st]))), some (.vl (.str (tx sp))), some (.vl (.str (tx f))), none] ∧ z = (j : Nat) ∧ j ≤ t.length ∧ m = t.length - j ∧ f.length ≤ j ∧ scan sp st (t.drop n) [] n = scan sp st (t.drop j) f j) ⟨_, _, ?_, [], n, _, rfl, rfl, hn, rfl, by simp, rfl⟩ (fun m e hI => ?_)
    · walk_at "wk"
    · obtain ⟨f, j, z, rfl, rfl, hj, rfl, hf, hs⟩ := hI
      walk_at "ds"
      refine k_ls (txL (by omega)) ?_
      walk_at "ds"
      by_cases hjl : j < t.length
      · refine k_ift (decT (by rw [tx_len]; omega)) ?_
        obtain ⟨c, hc⟩ : ∃ c, t[j]? = some c := ⟨t[j], List.getElem?_eq_getElem hjl⟩
        rw [drop_at hc] at hs
        walk_at "ds"
        refine k_is' (toL (by omega)) (atI_k rfl hc) ?_
        walk_at "ds"
        by_cases h1 : c = st
        · refine k_iff (by simp [h1]) ?_
          walk_at "ds"
          rw [scan_st h1] at hs
          exact q _ _ hs _ rfl
        · refine k_ift (nq_t (one_ne h1)) ?_
          walk_at "ds"
          refine k_is' (toL (by omega)) (atI_k rfl hc) ?_
          walk_at "da"
          by_cases h2 : c = 92
          · refine k_ift (by simp [h2]) ?_
            walk_at "ds"
            refine k_x2 (toL (by simp only [List.length_append, List.length_cons, List.length_nil]; omega)) ?_
            walk_at "ds"
            refine ⟨t, sp ++ [110, 116], _, j + 1, rfl, by omega, hl, fun d hd hm => ⟨trivial, ?_⟩, fun hno => ?_⟩
            · rw [drop_at hd, scan_es h1 h2, if_pos hm] at hs
              have hj2 := (List.getElem?_eq_some_iff.mp hd).1
              walk_at "ds"
              rw [kt_esd]
              walk_at "ds"
              refine k_x2 (toL (by simp only [List.length_append, List.length_cons, List.length_nil]; omega)) ?_
              walk_at "ds"
              refine wx_nx (t.length - (j + 2)) (by omega) _ ?_ ⟨f ++ [unesc d], j + 2, ((j : Nat) : Int) + 1 + 1, rfl, by omega, by omega, rfl, by simp only [List.length_append, List.length_cons, List.length_nil]; omega, hs⟩
              walk_at "wk"
            · refine fl (j + 1) ?_ _ (by omega)
              rw [hs]
              cases hd : t[j + 1]? with
              | none => rw [drop_no hd, scan_e0 h1 h2]
              | some d => rw [drop_at hd, scan_es h1 h2, if_neg (hno d hd)]
          · refine k_iff (dq_f (one_ne h2)) ?_
            walk_at "ds"
            by_cases h3 : c ∈ sp
            · rw [scan_sp h1 h2 h3] at hs
              refine k_ift (decT h3) ?_
              walk_at "ds"
              exact ⟨_, rfl, fl j hs _ rfl⟩
            · rw [scan_go h1 h2 h3] at hs
              refine k_iff (decF h3) ?_
              walk_at "ds"
              refine k_x2 (toL (by simp only [List.length_append, List.length_cons, List.length_nil]; omega)) ?_
              walk_at "ds"
              refine wx_nx (t.length - (j + 1)) (by omega) _ ?_ ⟨f ++ [c], j + 1, ((j : Nat) : Int) + 1, rfl, by omega, by omega, rfl, by simp only [List.length_append, List.length_cons, List.length_nil]; omega, hs⟩
              walk_at "wk"
      · obtain rfl : j = t.length := by omega
        rw [List.drop_length, scan] at hs
        refine k_iff (decF (by rw [tx_len]; omega)) ?_
        walk_at "ds"
        exact q _ _ hs _ rfl
end
end My
namespace My
open PySem L2
local macro_rules | `(tactic| walk_at "rd") => `(tactic| simp only [tSeq, tNext, tAsg, tOp, tUn, tC, tVar, gName, gSub, tCons, tNil, tCB, tIfS, tIf, tTest, tB, tAnd, tOr, tNot, tAndV, tOrV, tNotV, tRet, tRetN, tDrop, tLst, tTup, tCall, tSl, tNoPart, tPart, tM0, tM1, tBM, tBM0, tYes, tFor_eq, tLc_eq, iList, iRng1, iRng2, iStr, sg_tx, c_empty, rstrip_sign, find_sign, cut_last, cut_to, cut_from, cut_mid, cut_to_lit, cut_from_lit, and_assoc, flat_rep, List.length_replicate, tx_len, tx_eq, tx_app, tx_cps, rI0, rI, rU, rEq, rNe, rIxL, rIxS, rIxT, rSetL, rAppend, rPopAt, rSlS, rSlL, rIn, rMulS, rLtD, rJoin, rLenQ, rListOf,  tRevS, 
  scal, L2.start, List.map_cons, List.map_nil, List.length_cons, List.length_nil, List.replicate, List.cons_append, List.nil_append, List.append_nil,
  List.getElem?_cons_zero, List.getElem?_cons_succ, List.set_cons_zero, List.set_cons_succ, Nat.sub_zero, Nat.reduceSub, Nat.reduceAdd, Nat.zero_add, id_eq, Int.reduceToNat, exists_or,
  V.int.injEq, V.str.injEq, V.bl.injEq, V.ref.injEq, Option.some.injEq, List.cons.injEq, exists_and_left, exists_eq_left', exists_eq_left, exists_eq, exists_eq', and_true, true_and, reduceCtorEq, false_and, and_false, exists_false, false_or, or_false, decide_eq_true_eq, Bool.not_eq_true', decide_eq_false_iff_not, Bool.not_not, Bool.false_eq_true, ↓reduceIte, if_true, if_false])

local macro_rules | `(tactic| walk_at "ne") => `(tactic| first | assumption | (refine Ne.symm ?_; assumption) | exact (ne_of_none (by assumption) (by assumption)) | exact (ne_of_none (by assumption) (by assumption)).symm)
local macro_rules | `(tactic| walk_at "hp") => `(tactic| first | assumption | exact upd_same | exact (upd_ne (by walk_at "ne")).trans (by walk_at "hp"))
local macro_rules | `(tactic| walk_at "st1") => `(tactic| first
  | refine ⟨_, Or.inl (Or.inl (by walk_at "hp")), ?_⟩
  | refine ⟨_, Or.inl (Or.inl (Or.inl (by walk_at "hp"))), ?_⟩
  | refine ⟨_, (show _ = some (HO.lst _) by walk_at "hp"), ?_⟩
  | refine ⟨_, rfl, ?_⟩
  | refine ⟨(rfl : ("str" : String) = "str"), ?_⟩
  | refine ⟨Or.inr ⟨by decide, by decide⟩, ?_⟩
  | refine ⟨⟨by decide, by decide⟩, ?_⟩
  | refine ⟨by decide, ?_⟩
  | refine ⟨by assumption, ?_⟩)
local macro_rules | `(tactic| walk_at "st") => `(tactic| repeat walk_at "st1")
local macro_rules | `(tactic| walk_at "go") => `(tactic| repeat first | walk_at "st1" | walk_at "rd")
local macro_rules | `(tactic| walk_at "wk") => `(tactic| repeat first | exact Wk.nil | apply Wk.yes | apply Wk.no)
local macro_rules | `(tactic| walk_at "ds1") => `(tactic| first
  | ((with_reducible show Sv _ _ _ _); (first | (with_reducible apply sv_set2) | (with_reducible apply sv_seq) | (with_reducible apply sv_if) | (((with_reducible apply sv_retO); next => rfl)) | (with_reducible refine sv_retN (el_lst ?_)) | (with_reducible refine sv_retN (el_call ?_)) | (with_reducible refine sv_retN (el_lc ?_)) | (with_reducible refine sv_retN (el_list ?_)) | (with_reducible refine sv_retN (el_cat ?_)) | (with_reducible apply sv_ret) | (with_reducible refine sv_setN (el_lst ?_)) | (with_reducible refine sv_setN (el_call ?_)) | (with_reducible refine sv_setN (el_lc ?_)) | (with_reducible refine sv_setN (el_list ?_)) | (with_reducible refine sv_setN (el_cat ?_)) | (with_reducible refine sv_setN (el_callD rfl ?_)) | (((with_reducible apply sv_putD); next => rfl)) | (with_reducible apply sv_set) | (((with_reducible apply sv_app); next => rfl)) | (((with_reducible apply sv_ext); next => rfl)) | (((with_reducible apply sv_put); next => rfl)) | (with_reducible apply sv_for) | (with_reducible apply sv_nil) | (with_reducible apply sv_retNone) | (with_reducible apply sv_drop)))
  | ((with_reducible show Ev _ _ _ _); (first | (with_reducible apply ev_q0) | (with_reducible apply ev_q1) | (with_reducible apply ev_q2) | (with_reducible apply ev_q3) | (with_reducible apply ev_q4) | (with_reducible apply ev_q5) | (with_reducible apply ev_q6) | (with_reducible apply ev_q7) | (with_reducible apply ev_q8) | (with_reducible apply ev_q9) | (with_reducible apply ev_q10) | (with_reducible apply ev_q11) | (with_reducible apply ev_q12) | (with_reducible apply ev_q13) | (with_reducible apply ev_q14) | (with_reducible apply ev_q15) | (with_reducible apply ev_q16) | (with_reducible apply ev_q17) | (with_reducible apply ev_q18) | (with_reducible apply ev_q19) | (with_reducible apply ev_q20) | (with_reducible apply ev_q21) | (with_reducible apply ev_q22) | (with_reducible apply ev_q23) | (with_reducible apply ev_q24) | (with_reducible apply ev_q25) | (with_reducible apply ev_q26) | (with_reducible apply ev_q27) | (with_reducible apply ev_q28) | (with_reducible apply ev_q29) | (with_reducible apply ev_q30) | (with_reducible apply ev_q31) | (with_reducible apply ev_q32) | (with_reducible apply ev_q33) | (with_reducible apply ev_catX) | (with_reducible apply ev_inS) | (with_reducible apply ev_ninS) | (with_reducible apply ev_joinE) | (with_reducible apply ev_kget) | (((with_reducible apply ev_var); next => rfl)) | (((with_reducible apply ev_varO); next => rfl)) | (((with_reducible apply ev_varL); next => rfl)) | (((with_reducible apply ev_callD); next => rfl)) | (((with_reducible apply ev_dr); next => rfl)) | (with_reducible apply ev_max2) | (with_reducible apply ev_min2) | (with_reducible apply ev_index) | (with_reducible apply ev_eqD) | (with_reducible apply ev_neD) | (with_reducible apply ev_int) | (with_reducible apply ev_bl) | (with_reducible apply ev_non) | (with_reducible apply ev_ixT) | (with_reducible apply ev_call) | (with_reducible apply ev_eq) | (with_reducible apply ev_tup) | (with_reducible apply ev_in) | (with_reducible apply ev_ixL) | (with_reducible apply ev_ne) | (with_reducible apply ev_i0) | (with_reducible apply ev_ib) | (with_reducible apply ev_isi) | (with_reducible apply ev_isN) | (with_reducible apply ev_notN) | (with_reducible apply ev_isB) | (with_reducible apply ev_notB) | (with_reducible apply ev_slT2) | (with_reducible apply ev_catU) | (with_reducible apply ev_iC) | (with_reducible apply ev_ixS) | (with_reducible apply ev_slS) | (with_reducible apply ev_u) | (with_reducible apply ev_notV) | (with_reducible apply ev_if) | (with_reducible apply ev_len) | (with_reducible apply ev_lenS) | (with_reducible apply ev_tuple) | (with_reducible apply ev_all) | (with_reducible refine Ev.ofNew (el_lst ?_)) | (with_reducible refine Ev.ofNew (el_call ?_)) | (with_reducible refine Ev.ofNew (el_lc ?_)) | (with_reducible refine Ev.ofNew (el_list ?_)) | (with_reducible refine Ev.ofNew (el_cat ?_))))
  | ((with_reducible show Es _ _ _ _); (first | (with_reducible apply es_cons) | (with_reducible apply es_nil)))
  | ((with_reducible show Tv _ _ _ _); (first | (with_reducible apply tv_test) | (with_reducible apply tv_not) | (with_reducible apply tv_and) | (with_reducible apply tv_or) | (with_reducible apply tv_b) | (with_reducible apply tv_yes) | (with_reducible apply tv_tru)))
  | ((with_reducible show Eln _ _ _ _); (first | (with_reducible apply el_lst) | (with_reducible apply el_call) | (with_reducible apply el_lc) | (with_reducible apply el_list) | (with_reducible apply el_cat)))
  | ((with_reducible show Eo _ _ _ _); (first | (with_reducible apply eo_no) | (with_reducible apply eo_some)))
  | ((with_reducible show Iv _ _ _ _); (first | (with_reducible apply iv_tup) | (with_reducible apply iv_range1) | (with_reducible apply iv_str) | (with_reducible apply iv_enumT) | (((with_reducible apply iv_listV); next => rfl)) | (((with_reducible apply iv_listO); next => rfl)) | (with_reducible refine iv_listN (el_lst ?_)) | (with_reducible refine iv_listN (el_call ?_)) | (with_reducible refine iv_listN (el_lc ?_)) | (with_reducible refine iv_listN (el_list ?_)) | (with_reducible refine iv_listN (el_cat ?_))))
  | ((with_reducible show Gv _ _ _ _ _ _); (first | (with_reducible apply gv_name) | (with_reducible apply gv_tup2) | (with_reducible apply gv_tup3)))
  | ((with_reducible show seqO _ _ _ _); (first | (with_reducible apply o_nx) | (with_reducible apply o_rt) | (with_reducible apply o_rn) | (with_reducible apply o_bk) | (with_reducible apply o_ct)))
  | ((with_reducible show jnI _ _ _); (first | (with_reducible apply ji_nx) | (with_reducible apply ji_rt) | (with_reducible apply ji_rn) | (with_reducible apply ji_bk) | (with_reducible apply ji_ct)))
  | ((with_reducible show jnO _ _ _); (first | (with_reducible apply j_nx) | (with_reducible apply j_rt) | (with_reducible apply j_rn) | (with_reducible apply j_bk) | (with_reducible apply j_ct)))
  | ((with_reducible show lpO _ _ _ _); (first | (with_reducible apply l_rt) | (with_reducible apply l_rn) | (with_reducible apply l_ct) | (with_reducible apply l_nx')))
  | ((with_reducible show retO _ _); (first | (with_reducible apply r_rt) | (with_reducible apply r_nx)))
  | (with_reducible apply r_rn)
  | ((with_reducible show KIf _ _ _); (first | (((with_reducible apply k_ift); next => first | decide +kernel | rfl)) | (((with_reducible apply k_iff); next => first | decide +kernel | rfl))))
  | ((with_reducible show KEq _ _ _); (first | (with_reducible apply k_eqS) | (with_reducible apply k_eqI) | (with_reducible apply k_eqB) | (((with_reducible apply k_eqO); next => rfl; next => rfl; next => rfl; next => rfl))))
  | ((with_reducible show KDas _ _); (first | (with_reducible apply k_das_0) | (with_reducible apply k_das_1) | (with_reducible apply k_das_2) | (with_reducible apply k_das_3) | (with_reducible apply k_das_4) | (with_reducible apply k_das_5) | (with_reducible apply k_das_6) | (with_reducible apply k_das_7) | (with_reducible apply k_das_8) | (with_reducible apply k_das_9) | (with_reducible apply k_das_10) | (with_reducible apply k_das_11) | (with_reducible apply k_das_12) | (with_reducible apply k_das_13) | (with_reducible apply k_das_14) | (with_reducible apply k_das_15) | (with_reducible apply k_das_16)))
  | ((with_reducible show KIn _ _ _); (first | (with_reducible apply k_inT_0) | (with_reducible apply k_inL_0) | (with_reducible apply k_inT_1) | (with_reducible apply k_inL_1) | (with_reducible apply k_inT_2) | (with_reducible apply k_inL_2) | (with_reducible apply k_inT_3) | (with_reducible apply k_inL_3) | (with_reducible apply k_inT_4) | (with_reducible apply k_inL_4) | (with_reducible apply k_inT_5) | (with_reducible apply k_inL_5) | (with_reducible apply k_inT_6) | (with_reducible apply k_inL_6) | (with_reducible apply k_inT_7) | (with_reducible apply k_inL_7) | (with_reducible apply k_inT_8) | (with_reducible apply k_inL_8) | (with_reducible apply k_inT_9) | (with_reducible apply k_inL_9) | (with_reducible apply k_inT_10) | (with_reducible apply k_inL_10) | (with_reducible apply k_inT_11) | (with_reducible apply k_inL_11) | (with_reducible apply k_inT_12) | (with_reducible apply k_inL_12) | (with_reducible apply k_inN) | (((with_reducible apply k_inT); next => rfl; next => rfl)) | (((with_reducible apply k_inL); next => rfl; next => rfl))))
  | ((with_reducible show KEqD _ _ _); (first | (with_reducible apply k_eqIntsC) | (with_reducible apply k_eqInts0) | (with_reducible apply k_eqInts)))
  | (with_reducible apply k_put0)
  | ((with_reducible show KTy _ _ _); (first | (with_reducible apply k_ty_tup_tuple) | (with_reducible apply k_ty_tup_bool) | (with_reducible apply k_ty_tup_int) | (with_reducible apply k_ty_tup_str) | (with_reducible apply k_ty_tup_list) | (with_reducible apply k_ty_ls_tuple) | (with_reducible apply k_ty_ls_bool) | (with_reducible apply k_ty_ls_int) | (with_reducible apply k_ty_ls_str) | (with_reducible apply k_ty_ls_list) | (with_reducible apply k_ty_int_tuple) | (with_reducible apply k_ty_int_bool) | (with_reducible apply k_ty_int_int) | (with_reducible apply k_ty_int_str) | (with_reducible apply k_ty_int_list) | (with_reducible apply k_ty_str_tuple) | (with_reducible apply k_ty_str_bool) | (with_reducible apply k_ty_str_int) | (with_reducible apply k_ty_str_str) | (with_reducible apply k_ty_str_list) | (with_reducible apply k_ty_bl_tuple) | (with_reducible apply k_ty_bl_bool) | (with_reducible apply k_ty_bl_int) | (with_reducible apply k_ty_bl_str) | (with_reducible apply k_ty_bl_list) | (with_reducible apply k_ty_non_tuple) | (with_reducible apply k_ty_non_bool) | (with_reducible apply k_ty_non_int) | (with_reducible apply k_ty_non_str) | (with_reducible apply k_ty_non_list)))
  | ((with_reducible show KSl _ _ _ _); (first | (with_reducible apply k_sl_1) | (with_reducible apply k_sl_2) | (with_reducible apply k_sl_m2) | (with_reducible apply k_sl_m3) | (with_reducible apply k_sl_m4) | (with_reducible apply k_sl_m5)))
  | ((with_reducible show KCat _ _ _); (first | (with_reducible apply k_cat1) | (with_reducible apply k_cat2) | (with_reducible apply k_cat3) | (with_reducible apply k_cat23)))
  | ((with_reducible show KLen _ _); (first | (with_reducible apply k_lenT) | (with_reducible apply k_lenL)))
  | ((with_reducible show KSq _ _); (first | (with_reducible apply k_sqT) | (with_reducible apply k_sqL)))
  | (with_reducible apply k_i2s)
  | (with_reducible apply k_d)
  | ((with_reducible show KT _ _); (first | (with_reducible apply k_t) | (with_reducible apply k_tT)))
  | (with_reducible apply k_l)
  | (with_reducible apply k_i1)
  | (with_reducible apply k_i2)
  | (with_reducible apply k_b)
  | (with_reducible apply k_n)
  | (with_reducible apply k_tx)
  | (with_reducible apply k_t1)
  | (with_reducible apply k_ts)
  | with_reducible apply k_ix_0
  | with_reducible apply k_ix_1
  | ((with_reducible apply k_ixT2); next => rfl)
  | with_reducible apply gx_name
  | with_reducible apply gx_tup2
  | with_reducible apply gx_tup3
  | with_reducible refine (fun (p : Addr) => (?_ : seqO _ _ _ _))
  | with_reducible refine (fun (p : Addr) => (?_ : lpO _ _ _ _))
  | with_reducible refine (fun (p : Addr) => (?_ : liO _ _))
  | (with_reducible apply k_d2)
  | (with_reducible apply k_sg)
  | ((with_reducible show Sx _ _ _ _ _ _ _ _); (first | (with_reducible apply sx_seq) | (with_reducible apply sx_if) | (with_reducible apply sx_setX) | (with_reducible apply sx_set2X) | (with_reducible apply sx_dropX) | (with_reducible apply sx_raise) | (with_reducible refine sx_retN (el_lst ?_)) | (with_reducible refine sx_retN (el_call ?_)) | (with_reducible refine sx_retN (el_lc ?_)) | (with_reducible refine sx_retN (el_list ?_)) | (with_reducible refine sx_retN (el_cat ?_)) | (with_reducible apply sx_ret) | (with_reducible apply sx_retNone) | (with_reducible apply sx_ofA) | (with_reducible apply sx_ofD) | (with_reducible apply sx_ofN)))
  | ((with_reducible show sqX _ _ _ _ _ _ _ _); (first | (with_reducible apply q_nx) | (with_reducible apply q_rt) | (with_reducible apply q_rn) | (with_reducible apply q_bk) | (with_reducible apply q_ct)))
  | ((with_reducible show liO _ _); (first | (with_reducible apply li_nx) | (with_reducible apply li_bk) | (with_reducible apply li_ct)))
  | (with_reducible apply rx_rt)
  | (with_reducible apply wx_rt))
local macro_rules | `(tactic| walk_at "ds") => `(tactic| repeat walk_at "ds1")
local macro_rules | `(tactic| walk_at "d0") => `(tactic| (try simp only [cx_K, cx_K', List.map_cons, List.map_nil]))
local macro_rules | `(tactic| walk_at "da") => `(tactic| repeat first | walk_at "ds1" | (with_reducible apply sv_cut) | (with_reducible apply sx_cut))
section
variable {P : Program} {w : World} {K : PySem.W.Frag} {mg : Str → Option Value} {base : Heap}
theorem eqv_s (a b : Str) : eqV (.str a) (.str b) = decide (a = b) := by
  have e : eqV (.str a) (.str b) = (a == b) := by simp [eqV]
  rw [e, Bool.eq_iff_iff]
  simp
theorem inv2 {a b c : List Nat} : inV (.str (tx a)) [.str (tx b), .str (tx c)] = (decide (b = a) || decide (c = a)) := by
  unfold inV
  rw [List.any_cons, List.any_cons, List.any_nil, eqv_s, eqv_s, Bool.or_false]
  simp only [tx_eq]
theorem cut_no {t : List Nat} {i j : Int} {n : Nat} (hi : i = (n : Nat)) (hj : j = ((n + 1 : Nat) : Int)) (h : t[n]? = none) : cutS (tx t) (some i) (some j) = tx [] := by
  subst hi hj
  rw [cut_mid, drop_no h, List.take_nil]
theorem cut_nm {t nm : List Nat} {i j : Int} {n k : Nat} (e : nm = (t.drop (n + 1)).take (k - (n + 1))) (hi : i = ((n + 1 : Nat) : Int)) (hj : j = (k : Nat)) : cutS (tx t) (some i) (some j) = tx nm := by
  subst hi hj
  rw [cut_mid, e]
def pre_bx : List Vl → (Vl → Prop) → (Da → Prop) → Prop := fun xs R F => ∃ (t : List Nat) (n : Nat) (i : Int), xs = [.da (.str (tx t)), .da (.int i)] ∧ i = (n : Nat) ∧ n < t.length ∧ t.length ≤ 20000 ∧
  (∀ p j, (∀ ps, runM (.nm []) (t.drop (n + 1)) (n + 1) ps = runM (.tx []) (t.drop j) j (ps ++ [p])) → n < j → j ≤ t.length → ∀ z : Int, z = (j : Nat) → R (.da (.tup [ptD p, .int z]))) ∧ ∀ k, (∀ ps, runM (.nm []) (t.drop (n + 1)) (n + 1) ps = .inl k) → ∀ z : Int, z = (k : Nat) → F (.int z)
theorem ok_read_brace (T : Top K mg) : FnOk P T.tw K mg base (L2N.CX P T.tw) 5 T.f_read_brace T.fd_read_brace ["text", "index"] (sp_px K T.c_TemplateFault "index" pre_bx) := by
  refine okN T.F_read_brace sc_read_brace (fun vs H Q E h => ?_) (fun cdv A outer s H vs Q E hr h => ⟨_, (pss_cons (ps_if (pt_cmpR op_eq (pe_slice sl_str (pv 0) (po_some (pe_op op_add (pv 1) pe_int)) (po_some (pe_op op_add (pv 1) pe_int))) pe_str (nomark _)) (pss_one (ps_ret (pe_tup (pa_cons (pe_tup (pa_cons pe_str pa_nil)) (pa_cons (pe_op op_add (pv 1) pe_int) pa_nil))))) pss_nil)
       (pss_cons (ps_expr (pe_callS (ok_demand_sign T) (hr.mono (by decide)) (by rfl) T.g_demand_sign T.F_demand_sign.kp T.B_demand_sign (fun σ => L2N.passAt (L2N.takes_of rfl rfl rfl rfl) σ) (pa_cons (pv 0) (pa_cons (pe_op op_add (pv 1) pe_int) (pa_cons (pe_glob (v := .str _) rfl T.g_NAME_STARTS ⟨_, rfl⟩) pa_nil)))))
       (pss_cons (ps_set (i := 2) sc_read_brace.nd rfl (Or.inl rfl) (pe_op op_add (pv 1) pe_int))
       (pss_cons (ps_while (passes_of rfl) (pt_cmpR (r := rIn K true) op_notIn_seq (pe_slice sl_str (pv 0) (po_some (pv 2)) (po_some (pe_op op_add (pv 2) pe_int))) (pe_tup (pa_cons pe_str (pa_cons pe_str pa_nil))) (by rfl))
       (pss_cons (ps_expr (pe_callS (ok_demand_sign T) (hr.mono (by decide)) (by rfl) T.g_demand_sign T.F_demand_sign.kp T.B_demand_sign (fun σ => L2N.passAt (L2N.takes_of rfl rfl rfl rfl) σ) (pa_cons (pv 0) (pa_cons (pv 2) (pa_cons (pe_ifExp (pt_cmpR op_le (pe_op op_sub (pv 2) (pv 1)) (pe_glob (v := .int _) rfl T.g_NAME_LENGTH ⟨_, rfl⟩) (nomark _)) (pe_glob (v := .str _) rfl T.g_NAME_SIGNS ⟨_, rfl⟩) pe_str) pa_nil)))))
       (pss_one (ps_set (i := 2) sc_read_brace.nd rfl (Or.inl rfl) (pe_op op_add (pv 2) pe_int)))))
       (pss_cons (ps_set (i := 3) sc_read_brace.nd rfl (Or.inl rfl) (pe_slice sl_str (pv 0) (po_some (pe_op op_add (pv 1) pe_int)) (po_some (pv 2))))
       (pss_cons (ps_if (pt_cmpR op_eq (pe_ix ix_str (pv 0) (pv 2) (fun _ _ => rfl)) pe_str (nomark _)) (pss_one (ps_ret (pe_tup (pa_cons (pe_tup (pa_cons pe_str (pa_cons (pv 3) (pa_cons pe_str pa_nil)))) (pa_cons (pe_op op_add (pv 2) pe_int) pa_nil))))) pss_nil)
       (pss_cons (ps_asg (pe_callS (ok_read_signs T) (hr.mono (by decide)) (by rfl) T.g_read_signs T.F_read_signs.kp T.B_read_signs (fun σ => L2N.passAt (L2N.takes_of rfl rfl rfl rfl) σ) (pa_cons (pv 0) (pa_cons (pe_op op_add (pv 2) pe_int) (pa_cons pe_str (pa_cons (pe_glob (v := .str _) rfl T.g_OTHER_SPECIALS ⟨_, rfl⟩) pa_nil))))) (pg_tup (n := 2) (by rfl) (pgs_cons (pg_name (i := 4) sc_read_brace.nd rfl (Or.inl rfl)) (pgs_cons (pg_name (i := 2) sc_read_brace.nd rfl (Or.inl rfl)) pgs_nil))))
       (pss_cons (ps_expr (pe_callS (ok_demand_sign T) (hr.mono (by decide)) (by rfl) T.g_demand_sign T.F_demand_sign.kp T.B_demand_sign (fun σ => L2N.passAt (L2N.takes_of rfl rfl rfl rfl) σ) (pa_cons (pv 0) (pa_cons (pv 2) (pa_cons pe_str pa_nil)))))
       (pss_one (ps_ret (pe_tup (pa_cons (pe_tup (pa_cons pe_str (pa_cons (pv 3) (pa_cons (pv 4) pa_nil)))) (pa_cons (pe_op op_add (pv 2) pe_int) pa_nil))))))))))))), fin_px (N := n_read_brace) (fun xs R F hp e he => ?_) h⟩)
  · obtain ⟨xs, R, F, hx, ⟨t, n, i, rfl, _⟩, _⟩ := h
    exact hx.len
  · obtain ⟨t, n, i, rfl, rfl, hn, hl, q, fl⟩ := hp
    rcases he with _ | he
    rcases he with _ | he
    cases he
    walk_at "d0"
    walk_at "ds"
    refine ⟨txL (by omega), ?_⟩
    cases h1 : t[n + 1]? with
    | none =>
      rw [cut_no (n := n + 1) (by omega) (by omega) h1]
      walk_at "ds"
      refine ⟨t, LET, _, n + 1, rfl, by omega, hl, fun c hc => (by rw [h1] at hc; cases hc), fun _ => ?_⟩
      refine fl (n + 1) (fun ps => ?_) _ (by omega)
      rw [drop_no h1]
      rfl
    | some c =>
      have hd1 := drop_at h1
      have hn1 := (List.getElem?_eq_some_iff.mp h1).1
      rw [cut_i (n := n + 1) (by omega) (by omega) h1]
      walk_at "ds"
      by_cases c1 : c = 125
      · refine k_ift (by simp [c1]) ?_
        walk_at "ds"
        have := q .wh (n + 2) (fun ps => by
          rw [hd1, run_some (st' := .tx []) (a := [.wh]) (by rw [stp, if_pos c1]; rfl)]) (by omega) (by omega) (((n : Nat) : Int) + 2) (by omega)
        rw [ptD] at this
        exact this
      · refine k_iff (dq_f (one_ne c1)) ?_
        walk_at "ds"
        refine ⟨t, LET, _, n + 1, rfl, by omega, hl, fun c' hc hm => ⟨trivial, ?_⟩, fun hno => ?_⟩
        · rw [h1] at hc
          cases hc
          have hmd : nmTo [] c = true := by unfold nmTo; rw [if_pos rfl]; exact decide_eq_true hm
          have c2 : ¬ (c = 124 ∧ ([] : List Nat) ≠ []) := fun z => z.2 rfl
          walk_at "ds"
          refine sx_while (fun m e => ∃ (nm : List Nat) (j : Nat) (z : Int), e = [some (.vl (.str (tx t))), some (.vl (.int (n : Nat))), some (.vl (.int z)), none, none] ∧ z = (j : Nat) ∧ n + 2 ≤ j ∧ j ≤ t.length ∧ m = t.length - j ∧ nm = (t.drop (n + 1)).take (j - (n + 1)) ∧ nm.length = j - (n + 1) ∧ nm.length ≤ 12 ∧ ∀ ps, runM (.nm []) (t.drop (n + 1)) (n + 1) ps = runM (.nm nm) (t.drop j) j ps) ⟨_, _, ?_, [c], n + 2, ((n : Nat) : Int) + 2, rfl, by omega, Nat.le_refl _, by omega, rfl, ?_, ?_, by simp, fun ps => ?_⟩ (fun m e hI => ?_)
          · walk_at "wk"
          · rw [show n + 2 - (n + 1) = 1 by omega, hd1]; rfl
          · simp
          · rw [hd1, run_some (st' := .nm ([] ++ [c])) (a := []) (by rw [stp, if_neg c1, if_neg c2, if_pos hmd]), List.append_nil, List.nil_append]
          · obtain ⟨nm, j, z, rfl, rfl, j1, j2, rfl, en, ln, l12, hs⟩ := hI
            have nm0 : nm ≠ [] := fun e => by rw [e] at ln; simp at ln; omega
            walk_at "ds"
            refine ⟨txL (by omega), ?_⟩
            cases hj : t[j]? with
            | none =>
              rw [cut_no (n := j) rfl (by omega) hj]
              walk_at "ds"
              by_cases h12 : j - n ≤ 12
              · refine k_ift (decT (by omega)) ?_
                walk_at "ds"
                exact ⟨t, NSG, _, j, rfl, rfl, hl, fun c' hc => (by rw [hj] at hc; cases hc), fun _ => fl j (fun ps => by rw [hs ps, drop_no hj]; rfl) _ rfl⟩
              · refine k_iff (decF (by omega)) ?_
                walk_at "ds"
                exact ⟨t, [], _, j, rfl, rfl, hl, fun c' hc => (by rw [hj] at hc; cases hc), fun _ => fl j (fun ps => by rw [hs ps, drop_no hj]; rfl) _ rfl⟩
            | some c2 =>
              have hjl := (List.getElem?_eq_some_iff.mp hj).1
              rw [cut_i (n := j) rfl (by omega) hj]
              walk_at "ds"
              by_cases hq : c2 = 125 ∨ c2 = 124
              · refine k_iff (by rw [inv2]; rcases hq with rfl | rfl <;> simp) ?_
                walk_at "ds"
                refine ⟨txL (by omega), ?_⟩
                rw [cut_nm en (by omega) rfl]
                walk_at "ds"
                refine k_is' (toL (by omega)) (atI_k rfl hj) ?_
                walk_at "ds"
                rcases hq with rfl | rfl
                · refine k_ift (by simp) ?_
                  walk_at "ds"
                  have := q (.gr nm []) (j + 1) (fun ps => by rw [hs ps, drop_at hj, run_some (st' := .tx []) (a := [.gr nm []]) (by rw [stp, if_pos rfl, if_neg nm0])]) (by omega) (by omega) (((j : Nat) : Int) + 1) (by omega)
                  rw [ptD] at this
                  exact this
                · refine k_iff (dq_f (by decide)) ?_
                  have h124 : ∀ ps, runM (.nm []) (t.drop (n + 1)) (n + 1) ps = runM (.ot nm []) (t.drop (j + 1)) (j + 1) ps := fun ps => by
                    rw [hs ps, drop_at hj, run_some (st' := .ot nm []) (a := []) (by rw [stp, if_neg (by decide), if_pos ⟨rfl, nm0⟩]), List.append_nil]
                  have hso := scan_other nm (t.drop (j + 1)) [] (j + 1)
                  walk_at "ds"
                  refine ⟨t, OSP, 125, j + 1, _, rfl, by omega, by omega, hl, by decide, fun f k hk z hz => ⟨trivial, ?_⟩, fun k hk z hz => fl k (fun ps => by rw [h124 ps]; exact hso.1 k hk ps) z hz⟩
                  obtain ⟨a1, a2, a3, a4⟩ := hso.2 f k hk
                  have edr : (t.drop (j + 1)).drop (k - (j + 1)) = t.drop k := by rw [List.drop_drop]; congr 1; omega
                  rw [edr] at a3
                  walk_at "ds"
                  refine ⟨t, [125], _, k, rfl, hz, hl, fun c3 hc hm => ⟨trivial, ?_⟩, fun hno => ?_⟩
                  · rw [List.mem_singleton.mp hm] at hc
                    have hkl := (List.getElem?_eq_some_iff.mp hc).1
                    walk_at "ds"
                    have := q (.gr nm f) (k + 1) (fun ps => by rw [h124 ps, a4 ps, edr, drop_at hc, run_some (st' := .tx []) (a := [.gr nm f]) (by rw [stp, if_pos rfl])]) (by omega) (by omega) (z + 1) (by omega)
                    rw [ptD] at this
                    exact this
                  · refine fl k (fun ps => ?_) z hz
                    rw [h124 ps, a4 ps, edr]
                    rcases a3 with a3 | ⟨r', a3⟩
                    · rw [a3]; rfl
                    · have : t[k]? = some 125 := by rw [← List.head?_drop, a3]; rfl
                      exact absurd (List.mem_singleton.mpr rfl) (hno 125 this)
              · have q1 : ¬ c2 = 125 := fun z => hq (.inl z)
                have q2 : ¬ c2 = 124 := fun z => hq (.inr z)
                refine k_ift (by rw [inv2, decF (fun e => q1 (Eq.symm (by simpa using e))), decF (fun e => q2 (Eq.symm (by simpa using e)))]; rfl) ?_
                walk_at "ds"
                by_cases h12 : j - n ≤ 12
                · refine k_ift (decT (by omega)) ?_
                  walk_at "ds"
                  refine ⟨t, NSG, _, j, rfl, rfl, hl, fun c' hc hm => ⟨trivial, ?_⟩, fun hno => fl j (fun ps => ?_) _ rfl⟩
                  · rw [hj] at hc
                    cases hc
                    have hmd : nmTo nm c2 = true := by unfold nmTo; rw [if_neg nm0, decT hm, decT (show nm.length < 12 by omega)]; rfl
                    walk_at "ds"
                    refine wx_nx (t.length - (j + 1)) (by omega) _ ?_ ⟨nm ++ [c2], j + 1, ((j : Nat) : Int) + 1, rfl, by omega, by omega, by omega, rfl, ?_, by simp; omega, by simp; omega, fun ps => ?_⟩
                    · walk_at "wk"
                    · rw [show j + 1 - (n + 1) = (j - (n + 1)) + 1 by omega, List.take_succ, ← en, List.getElem?_drop, show n + 1 + (j - (n + 1)) = j by omega, hj]; rfl
                    · rw [hs ps, drop_at hj, run_some (st' := .nm (nm ++ [c2])) (a := []) (by rw [stp, if_neg q1, if_neg (fun z => q2 z.1), if_pos hmd]), List.append_nil]
                  · rw [hs ps, drop_at hj]
                    refine run_none ?_
                    have hmd : ¬ nmTo nm c2 = true := by unfold nmTo; rw [if_neg nm0, decF (hno c2 hj), Bool.and_false]; decide
                    rw [stp, if_neg q1, if_neg (fun z => q2 z.1), if_neg hmd]
                · refine k_iff (decF (by omega)) ?_
                  walk_at "ds"
                  refine ⟨t, [], _, j, rfl, rfl, hl, fun c' hc hm => (by cases hm), fun hno => fl j (fun ps => ?_) _ rfl⟩
                  rw [hs ps, drop_at hj]
                  refine run_none ?_
                  have hmd : ¬ nmTo nm c2 = true := by unfold nmTo; rw [if_neg nm0, decF (show ¬ nm.length < 12 by omega), Bool.false_and]; decide
                  rw [stp, if_neg q1, if_neg (fun z => q2 z.1), if_neg hmd]
        · refine fl (n + 1) (fun ps => ?_) _ (by omega)
          rw [hd1]
          refine run_none ?_
          have hmd : ¬ nmTo [] c = true := by unfold nmTo; rw [if_pos rfl]; simpa using hno c h1
          rw [stp, if_neg c1, if_neg (fun z => z.2 rfl), if_neg hmd]
end
end My
namespace My
open PySem L2
local macro_rules | `(tactic| walk_at "rd") => `(tactic| simp only [tSeq, tNext, tAsg, tOp, tUn, tC, tVar, gName, gSub, tCons, tNil, tCB, tIfS, tIf, tTest, tB, tAnd, tOr, tNot, tAndV, tOrV, tNotV, tRet, tRetN, tDrop, tLst, tTup, tCall, tSl, tNoPart, tPart, tM0, tM1, tBM, tBM0, tYes, tFor_eq, tLc_eq, iList, iRng1, iRng2, iStr, sg_tx, c_empty, rstrip_sign, find_sign, cut_last, cut_to, cut_from, cut_mid, cut_to_lit, cut_from_lit, and_assoc, flat_rep, List.length_replicate, tx_len, tx_eq, tx_app, tx_cps, rI0, rI, rU, rEq, rNe, rIxL, rIxS, rIxT, rSetL, rAppend, rPopAt, rSlS, rSlL, rIn, rMulS, rLtD, rJoin, rLenQ, rListOf,  tRevS, 
  scal, L2.start, List.map_cons, List.map_nil, List.length_cons, List.length_nil, List.replicate, List.cons_append, List.nil_append, List.append_nil,
  List.getElem?_cons_zero, List.getElem?_cons_succ, List.set_cons_zero, List.set_cons_succ, Nat.sub_zero, Nat.reduceSub, Nat.reduceAdd, Nat.zero_add, id_eq, Int.reduceToNat, exists_or,
  V.int.injEq, V.str.injEq, V.bl.injEq, V.ref.injEq, Option.some.injEq, List.cons.injEq, exists_and_left, exists_eq_left', exists_eq_left, exists_eq, exists_eq', and_true, true_and, reduceCtorEq, false_and, and_false, exists_false, false_or, or_false, decide_eq_true_eq, Bool.not_eq_true', decide_eq_false_iff_not, Bool.not_not, Bool.false_eq_true, ↓reduceIte, if_true, if_false])

local macro_rules | `(tactic| walk_at "ne") => `(tactic| first | assumption | (refine Ne.symm ?_; assumption) | exact (ne_of_none (by assumption) (by assumption)) | exact (ne_of_none (by assumption) (by assumption)).symm)
local macro_rules | `(tactic| walk_at "hp") => `(tactic| first | assumption | exact upd_same | exact (upd_ne (by walk_at "ne")).trans (by walk_at "hp"))
local macro_rules | `(tactic| walk_at "st1") => `(tactic| first
  | refine ⟨_, Or.inl (Or.inl (by walk_at "hp")), ?_⟩
  | refine ⟨_, Or.inl (Or.inl (Or.inl (by walk_at "hp"))), ?_⟩
  | refine ⟨_, (show _ = some (HO.lst _) by walk_at "hp"), ?_⟩
  | refine ⟨_, rfl, ?_⟩
  | refine ⟨(rfl : ("str" : String) = "str"), ?_⟩
  | refine ⟨Or.inr ⟨by decide, by decide⟩, ?_⟩
  | refine ⟨⟨by decide, by decide⟩, ?_⟩
  | refine ⟨by decide, ?_⟩
  | refine ⟨by assumption, ?_⟩)
local macro_rules | `(tactic| walk_at "st") => `(tactic| repeat walk_at "st1")
local macro_rules | `(tactic| walk_at "go") => `(tactic| repeat first | walk_at "st1" | walk_at "rd")
local macro_rules | `(tactic| walk_at "wk") => `(tactic| repeat first | exact Wk.nil | apply Wk.yes | apply Wk.no)
local macro_rules | `(tactic| walk_at "ds1") => `(tactic| first
  | ((with_reducible show Sv _ _ _ _); (first | (with_reducible apply sv_set2) | (with_reducible apply sv_seq) | (with_reducible apply sv_if) | (((with_reducible apply sv_retO); next => rfl)) | (with_reducible refine sv_retN (el_lst ?_)) | (with_reducible refine sv_retN (el_call ?_)) | (with_reducible refine sv_retN (el_lc ?_)) | (with_reducible refine sv_retN (el_list ?_)) | (with_reducible refine sv_retN (el_cat ?_)) | (with_reducible apply sv_ret) | (with_reducible refine sv_setN (el_lst ?_)) | (with_reducible refine sv_setN (el_call ?_)) | (with_reducible refine sv_setN (el_lc ?_)) | (with_reducible refine sv_setN (el_list ?_)) | (with_reducible refine sv_setN (el_cat ?_)) | (with_reducible refine sv_setN (el_callD rfl ?_)) | (((with_reducible apply sv_putD); next => rfl)) | (with_reducible apply sv_set) | (((with_reducible apply sv_app); next => rfl)) | (((with_reducible apply sv_ext); next => rfl)) | (((with_reducible apply sv_put); next => rfl)) | (with_reducible apply sv_for) | (with_reducible apply sv_nil) | (with_reducible apply sv_retNone) | (with_reducible apply sv_drop)))
  | ((with_reducible show Ev _ _ _ _); (first | (with_reducible apply ev_q0) | (with_reducible apply ev_q1) | (with_reducible apply ev_q2) | (with_reducible apply ev_q3) | (with_reducible apply ev_q4) | (with_reducible apply ev_q5) | (with_reducible apply ev_q6) | (with_reducible apply ev_q7) | (with_reducible apply ev_q8) | (with_reducible apply ev_q9) | (with_reducible apply ev_q10) | (with_reducible apply ev_q11) | (with_reducible apply ev_q12) | (with_reducible apply ev_q13) | (with_reducible apply ev_q14) | (with_reducible apply ev_q15) | (with_reducible apply ev_q16) | (with_reducible apply ev_q17) | (with_reducible apply ev_q18) | (with_reducible apply ev_q19) | (with_reducible apply ev_q20) | (with_reducible apply ev_q21) | (with_reducible apply ev_q22) | (with_reducible apply ev_q23) | (with_reducible apply ev_q24) | (with_reducible apply ev_q25) | (with_reducible apply ev_q26) | (with_reducible apply ev_q27) | (with_reducible apply ev_q28) | (with_reducible apply ev_q29) | (with_reducible apply ev_q30) | (with_reducible apply ev_q31) | (with_reducible apply ev_q32) | (with_reducible apply ev_q33) | (with_reducible apply ev_catX) | (with_reducible apply ev_inS) | (with_reducible apply ev_ninS) | (with_reducible apply ev_joinE) | (with_reducible apply ev_kget) | (((with_reducible apply ev_var); next => rfl)) | (((with_reducible apply ev_varO); next => rfl)) | (((with_reducible apply ev_varL); next => rfl)) | (((with_reducible apply ev_callD); next => rfl)) | (((with_reducible apply ev_dr); next => rfl)) | (with_reducible apply ev_max2) | (with_reducible apply ev_min2) | (with_reducible apply ev_index) | (with_reducible apply ev_eqD) | (with_reducible apply ev_neD) | (with_reducible apply ev_int) | (with_reducible apply ev_bl) | (with_reducible apply ev_non) | (with_reducible apply ev_ixT) | (with_reducible apply ev_call) | (with_reducible apply ev_eq) | (with_reducible apply ev_tup) | (with_reducible apply ev_in) | (with_reducible apply ev_ixL) | (with_reducible apply ev_ne) | (with_reducible apply ev_i0) | (with_reducible apply ev_ib) | (with_reducible apply ev_isi) | (with_reducible apply ev_isN) | (with_reducible apply ev_notN) | (with_reducible apply ev_isB) | (with_reducible apply ev_notB) | (with_reducible apply ev_slT2) | (with_reducible apply ev_catU) | (with_reducible apply ev_iC) | (with_reducible apply ev_ixS) | (with_reducible apply ev_slS) | (with_reducible apply ev_u) | (with_reducible apply ev_notV) | (with_reducible apply ev_if) | (with_reducible apply ev_len) | (with_reducible apply ev_lenS) | (with_reducible apply ev_tuple) | (with_reducible apply ev_all) | (with_reducible refine Ev.ofNew (el_lst ?_)) | (with_reducible refine Ev.ofNew (el_call ?_)) | (with_reducible refine Ev.ofNew (el_lc ?_)) | (with_reducible refine Ev.ofNew (el_list ?_)) | (with_reducible refine Ev.ofNew (el_cat ?_))))
  | ((with_reducible show Es _ _ _ _); (first | (with_reducible apply es_cons) | (with_reducible apply es_nil)))
  | ((with_reducible show Tv _ _ _ _); (first | (with_reducible apply tv_test) | (with_reducible apply tv_not) | (with_reducible apply tv_and) | (with_reducible apply tv_or) | (with_reducible apply tv_b) | (with_reducible apply tv_yes) | (with_reducible apply tv_tru)))
  | ((with_reducible show Eln _ _ _ _); (first | (with_reducible apply el_lst) | (with_reducible apply el_call) | (with_reducible apply el_lc) | (with_reducible apply el_list) | (with_reducible apply el_cat)))
  | ((with_reducible show Eo _ _ _ _); (first | (with_reducible apply eo_no) | (with_reducible apply eo_some)))
  | ((with_reducible show Iv _ _ _ _); (first | (with_reducible apply iv_tup) | (with_reducible apply iv_range1) | (with_reducible apply iv_str) | (with_reducible apply iv_enumT) | (((with_reducible apply iv_listV); next => rfl)) | (((with_reducible apply iv_listO); next => rfl)) | (with_reducible refine iv_listN (el_lst ?_)) | (with_reducible refine iv_listN (el_call ?_)) | (with_reducible refine iv_listN (el_lc ?_)) | (with_reducible refine iv_listN (el_list ?_)) | (with_reducible refine iv_listN (el_cat ?_))))
  | ((with_reducible show Gv _ _ _ _ _ _); (first | (with_reducible apply gv_name) | (with_reducible apply gv_tup2) | (with_reducible apply gv_tup3)))
  | ((with_reducible show seqO _ _ _ _); (first | (with_reducible apply o_nx) | (with_reducible apply o_rt) | (with_reducible apply o_rn) | (with_reducible apply o_bk) | (with_reducible apply o_ct)))
  | ((with_reducible show jnI _ _ _); (first | (with_reducible apply ji_nx) | (with_reducible apply ji_rt) | (with_reducible apply ji_rn) | (with_reducible apply ji_bk) | (with_reducible apply ji_ct)))
  | ((with_reducible show jnO _ _ _); (first | (with_reducible apply j_nx) | (with_reducible apply j_rt) | (with_reducible apply j_rn) | (with_reducible apply j_bk) | (with_reducible apply j_ct)))
  | ((with_reducible show lpO _ _ _ _); (first | (with_reducible apply l_rt) | (with_reducible apply l_rn) | (with_reducible apply l_ct) | (with_reducible apply l_nx')))
  | ((with_reducible show retO _ _); (first | (with_reducible apply r_rt) | (with_reducible apply r_nx)))
  | (with_reducible apply r_rn)
  | ((with_reducible show KIf _ _ _); (first | (((with_reducible apply k_ift); next => first | decide +kernel | rfl)) | (((with_reducible apply k_iff); next => first | decide +kernel | rfl))))
  | ((with_reducible show KEq _ _ _); (first | (with_reducible apply k_eqS) | (with_reducible apply k_eqI) | (with_reducible apply k_eqB) | (((with_reducible apply k_eqO); next => rfl; next => rfl; next => rfl; next => rfl))))
  | ((with_reducible show KDas _ _); (first | (with_reducible apply k_das_0) | (with_reducible apply k_das_1) | (with_reducible apply k_das_2) | (with_reducible apply k_das_3) | (with_reducible apply k_das_4) | (with_reducible apply k_das_5) | (with_reducible apply k_das_6) | (with_reducible apply k_das_7) | (with_reducible apply k_das_8) | (with_reducible apply k_das_9) | (with_reducible apply k_das_10) | (with_reducible apply k_das_11) | (with_reducible apply k_das_12) | (with_reducible apply k_das_13) | (with_reducible apply k_das_14) | (with_reducible apply k_das_15) | (with_reducible apply k_das_16)))
  | ((with_reducible show KIn _ _ _); (first | (with_reducible apply k_inT_0) | (with_reducible apply k_inL_0) | (with_reducible apply k_inT_1) | (with_reducible apply k_inL_1) | (with_reducible apply k_inT_2) | (with_reducible apply k_inL_2) | (with_reducible apply k_inT_3) | (with_reducible apply k_inL_3) | (with_reducible apply k_inT_4) | (with_reducible apply k_inL_4) | (with_reducible apply k_inT_5) | (with_reducible apply k_inL_5) | (with_reducible apply k_inT_6) | (with_reducible apply k_inL_6) | (with_reducible apply k_inT_7) | (with_reducible apply k_inL_7) | (with_reducible apply k_inT_8) | (with_reducible apply k_inL_8) | (with_reducible apply k_inT_9) | (with_reducible apply k_inL_9) | (with_reducible apply k_inT_10) | (with_reducible apply k_inL_10) | (with_reducible apply k_inT_11) | (with_reducible apply k_inL_11) | (with_reducible apply k_inT_12) | (with_reducible apply k_inL_12) | (with_reducible apply k_inN) | (((with_reducible apply k_inT); next => rfl; next => rfl)) | (((with_reducible apply k_inL); next => rfl; next => rfl))))
  | ((with_reducible show KEqD _ _ _); (first | (with_reducible apply k_eqIntsC) | (with_reducible apply k_eqInts0) | (with_reducible apply k_eqInts)))
  | (with_reducible apply k_put0)
  | ((with_reducible show KTy _ _ _); (first | (with_reducible apply k_ty_tup_tuple) | (with_reducible apply k_ty_tup_bool) | (with_reducible apply k_ty_tup_int) | (with_reducible apply k_ty_tup_str) | (with_reducible apply k_ty_tup_list) | (with_reducible apply k_ty_ls_tuple) | (with_reducible apply k_ty_ls_bool) | (with_reducible apply k_ty_ls_int) | (with_reducible apply k_ty_ls_str) | (with_reducible apply k_ty_ls_list) | (with_reducible apply k_ty_int_tuple) | (with_reducible apply k_ty_int_bool) | (with_reducible apply k_ty_int_int) | (with_reducible apply k_ty_int_str) | (with_reducible apply k_ty_int_list) | (with_reducible apply k_ty_str_tuple) | (with_reducible apply k_ty_str_bool) | (with_reducible apply k_ty_str_int) | (with_reducible apply k_ty_str_str) | (with_reducible apply k_ty_str_list) | (with_reducible apply k_ty_bl_tuple) | (with_reducible apply k_ty_bl_bool) | (with_reducible apply k_ty_bl_int) | (with_reducible apply k_ty_bl_str) | (with_reducible apply k_ty_bl_list) | (with_reducible apply k_ty_non_tuple) | (with_reducible apply k_ty_non_bool) | (with_reducible apply k_ty_non_int) | (with_reducible apply k_ty_non_str) | (with_reducible apply k_ty_non_list)))
  | ((with_reducible show KSl _ _ _ _); (first | (with_reducible apply k_sl_1) | (with_reducible apply k_sl_2) | (with_reducible apply k_sl_m2) | (with_reducible apply k_sl_m3) | (with_reducible apply k_sl_m4) | (with_reducible apply k_sl_m5)))
  | ((with_reducible show KCat _ _ _); (first | (with_reducible apply k_cat1) | (with_reducible apply k_cat2) | (with_reducible apply k_cat3) | (with_reducible apply k_cat23)))
  | ((with_reducible show KLen _ _); (first | (with_reducible apply k_lenT) | (with_reducible apply k_lenL)))
  | ((with_reducible show KSq _ _); (first | (with_reducible apply k_sqT) | (with_reducible apply k_sqL)))
  | (with_reducible apply k_i2s)
  | (with_reducible apply k_d)
  | ((with_reducible show KT _ _); (first | (with_reducible apply k_t) | (with_reducible apply k_tT)))
  | (with_reducible apply k_l)
  | (with_reducible apply k_i1)
  | (with_reducible apply k_i2)
  | (with_reducible apply k_b)
  | (with_reducible apply k_n)
  | (with_reducible apply k_tx)
  | (with_reducible apply k_t1)
  | (with_reducible apply k_ts)
  | with_reducible apply k_ix_0
  | with_reducible apply k_ix_1
  | ((with_reducible apply k_ixT2); next => rfl)
  | with_reducible apply gx_name
  | with_reducible apply gx_tup2
  | with_reducible apply gx_tup3
  | with_reducible refine (fun (p : Addr) => (?_ : seqO _ _ _ _))
  | with_reducible refine (fun (p : Addr) => (?_ : lpO _ _ _ _))
  | with_reducible refine (fun (p : Addr) => (?_ : liO _ _))
  | (with_reducible apply k_d2)
  | (with_reducible apply k_sg)
  | ((with_reducible show Sx _ _ _ _ _ _ _ _); (first | (with_reducible apply sx_seq) | (with_reducible apply sx_if) | (with_reducible apply sx_setX) | (with_reducible apply sx_set2X) | (with_reducible apply sx_dropX) | (with_reducible apply sx_raise) | (with_reducible refine sx_retN (el_lst ?_)) | (with_reducible refine sx_retN (el_call ?_)) | (with_reducible refine sx_retN (el_lc ?_)) | (with_reducible refine sx_retN (el_list ?_)) | (with_reducible refine sx_retN (el_cat ?_)) | (with_reducible apply sx_ret) | (with_reducible apply sx_retNone) | (with_reducible apply sx_ofA) | (with_reducible apply sx_ofD) | (with_reducible apply sx_ofN)))
  | ((with_reducible show sqX _ _ _ _ _ _ _ _); (first | (with_reducible apply q_nx) | (with_reducible apply q_rt) | (with_reducible apply q_rn) | (with_reducible apply q_bk) | (with_reducible apply q_ct)))
  | ((with_reducible show liO _ _); (first | (with_reducible apply li_nx) | (with_reducible apply li_bk) | (with_reducible apply li_ct)))
  | (with_reducible apply rx_rt)
  | (with_reducible apply wx_rt))
local macro_rules | `(tactic| walk_at "ds") => `(tactic| repeat walk_at "ds1")
local macro_rules | `(tactic| walk_at "d0") => `(tactic| (try simp only [cx_K, cx_K', List.map_cons, List.map_nil]))
local macro_rules | `(tactic| walk_at "da") => `(tactic| repeat first | walk_at "ds1" | (with_reducible apply sv_cut) | (with_reducible apply sx_cut))
section
variable {P : Program} {w : World} {K : PySem.W.Frag} {mg : Str → Option Value} {base : Heap}
def pre_tx2 : List Vl → (Vl → Prop) → (Da → Prop) → Prop := fun xs R F => ∃ (t : List Nat), xs = [.da (.str (tx t))] ∧ t.length ≤ 20000 ∧ (∀ ps, runM (.tx []) t 0 [] = .inr ps → R (.da (.tup (ps.map ptD)))) ∧ ∀ k, runM (.tx []) t 0 [] = .inl k → ∀ z : Int, z = (k : Nat) → F (.int z)
theorem ok_read_template (T : Top K mg) : FnOk P T.tw K mg base (L2N.CX P T.tw) 6 T.f_read_template T.fd_read_template ["text"] (sp_px K T.c_TemplateFault "index" pre_tx2) := by
  refine okN T.F_read_template sc_read_template (fun vs H Q E h => ?_) (fun cdv A outer s H vs Q E hr h => ⟨_, (pss_cons (ps_set (i := 1) sc_read_template.nd rfl (Or.inl rfl) (pe_lst pa_nil))
       (pss_cons (ps_set (i := 2) sc_read_template.nd rfl (Or.inl rfl) pe_int)
       (pss_cons (ps_while (passes_of rfl) (pt_cmpR op_lt (pv 2) (pe_callB call_len_str (by rfl) T.b_len PySem.boot_len (pa_cons (pv 0) pa_nil)) (nomark _))
       (pss_cut (ps_if (pt_cmpR op_eq (pe_ix ix_str (pv 0) (pv 2) (fun _ _ => rfl)) pe_str (nomark _)) (pss_one (ps_asg (pe_callS (ok_read_brace T) (hr.mono (by decide)) (by rfl) T.g_read_brace T.F_read_brace.kp T.B_read_brace (fun σ => L2N.passAt (L2N.takes_of rfl rfl rfl rfl) σ) (pa_cons (pv 0) (pa_cons (pv 2) pa_nil))) (pg_tup (n := 2) (by rfl) (pgs_cons (pg_name (i := 3) sc_read_template.nd rfl (Or.inl rfl)) (pgs_cons (pg_name (i := 2) sc_read_template.nd rfl (Or.inl rfl)) pgs_nil))))) (pss_cons (ps_asg (pe_callS (ok_read_signs T) (hr.mono (by decide)) (by rfl) T.g_read_signs T.F_read_signs.kp T.B_read_signs (fun σ => L2N.passAt (L2N.takes_of rfl rfl rfl rfl) σ) (pa_cons (pv 0) (pa_cons (pv 2) (pa_cons pe_str (pa_cons (pe_glob (v := .str _) rfl T.g_TEXT_SPECIALS ⟨_, rfl⟩) pa_nil))))) (pg_tup (n := 2) (by rfl) (pgs_cons (pg_name (i := 4) sc_read_template.nd rfl (Or.inl rfl)) (pgs_cons (pg_name (i := 2) sc_read_template.nd rfl (Or.inl rfl)) pgs_nil))))
       (pss_one (ps_set (i := 3) sc_read_template.nd rfl (Or.inl rfl) (pe_tup (pa_cons pe_str (pa_cons (pv 4) pa_nil)))))))
       (pss_one (ps_expr (pe_bm PySem.F.plainAttrs_list PySem.F.slot_list_append PySem.F.type_list_append mt_append (pv 1) (pa_cons (pv 3) pa_nil))))))
       (pss_one (ps_ret (pe_callTy (r := rTupOf K) call_tupO (by rfl) T.b_tuple (by decide +kernel) (pa_cons (pv 1) pa_nil))))))), fin_px (N := n_read_template) (fun xs R F hp e he => ?_) h⟩)
  · obtain ⟨xs, R, F, hx, ⟨t, rfl, _⟩, _⟩ := h
    exact hx.len
  · obtain ⟨t, rfl, hl, q, fl⟩ := hp
    rcases he with _ | he
    cases he
    walk_at "d0"
    walk_at "ds"
    rename_i pa
    refine sx_while (fun m e => ∃ (ps : List Pt) (j : Nat) (z : Int), e = [some (.vl (.str (tx t))), some (.own pa (ps.map ptD)), some (.vl (.int z)), none, none] ∧ z = (j : Nat) ∧ j ≤ t.length ∧ m = t.length - j ∧ ps.length ≤ j ∧ runM (.tx []) t 0 [] = runM (.tx []) (t.drop j) j ps) ⟨_, _, ?_, [], 0, _, rfl, rfl, by omega, rfl, by simp, by simp⟩ (fun m e hI => ?_)
    · walk_at "wk"
    · obtain ⟨ps, j, z, rfl, rfl, hj, rfl, hp, hs⟩ := hI
      have line : (ps.map ptD).length < sizeLine := toLineB (by rw [List.length_map]; omega)
      walk_at "ds"
      refine k_ls (txL (by omega)) ?_
      walk_at "ds"
      by_cases hjl : j < t.length
      · refine k_ift (decT (by rw [tx_len]; omega)) ?_
        obtain ⟨c, hc⟩ : ∃ c, t[j]? = some c := ⟨t[j], List.getElem?_eq_getElem hjl⟩
        walk_at "da"
        refine k_is' (toL (by omega)) (atI_k rfl hc) ?_
        walk_at "ds"
        by_cases h1 : c = 123
        · refine k_ift (by simp [h1]) ?_
          have hb : runM (.tx []) t 0 [] = runM (.nm []) (t.drop (j + 1)) (j + 1) ps := by
            rw [hs, drop_at hc, run_some (st' := .nm []) (a := []) (by rw [stp, if_neg (by omega), if_pos h1, if_pos rfl]), List.append_nil]
          walk_at "ds"
          refine ⟨t, j, _, rfl, rfl, hjl, hl, fun p k hk k1 k2 z hz => ⟨trivial, ?_⟩, fun k hk z hz => fl k (by rw [hb]; exact hk ps) z hz⟩
          walk_at "ds"
          refine ⟨line, ?_⟩
          walk_at "ds"
          refine wx_nx (t.length - k) (by omega) _ ?_ ⟨ps ++ [p], k, z, rfl, hz, k2, rfl, by rw [List.length_append, List.length_singleton]; omega, by rw [hb]; exact hk ps⟩
          rw [List.map_append]
          walk_at "wk"
        · refine k_iff (dq_f (one_ne h1)) ?_
          have hsc := scan_text (t.drop j) [] j
          walk_at "ds"
          refine ⟨t, TSP, 123, j, _, rfl, rfl, by omega, hl, by decide, fun f k hk z hz => ⟨trivial, ?_⟩, fun k hk z hz => fl k (by rw [hs]; exact hsc.1 k hk ps) z hz⟩
          obtain ⟨a1, a2, a3, a4⟩ := hsc.2 f k hk
          have edr : (t.drop j).drop (k - j) = t.drop k := by rw [List.drop_drop]; congr 1; omega
          rw [edr] at a3
          rw [List.length_drop] at a2
          have hkj : j < k := by
            by_cases e : j = k
            · subst e
              rw [drop_at hc] at a3
              rcases a3 with a3 | ⟨r', a3⟩
              · cases a3
              · cases a3; exact absurd rfl h1
            · omega
          have f0 : f ≠ [] := fun e => scan_ne hk (by rw [drop_at hc]; exact ⟨c, _, rfl, h1⟩) e
          have hnx : runM (.tx []) t 0 [] = runM (.tx []) (t.drop k) k (ps ++ [.te f]) := by
            rw [hs, a4 ps, edr]
            rcases a3 with a3 | ⟨r', a3⟩
            · rw [a3, runM, runM, endM, endM, flu, flu, if_neg f0, if_pos rfl, List.append_nil]
            · rw [a3, run_some (st' := .nm []) (a := [.te f]) (by rw [stp, if_neg (by decide), if_pos rfl, if_neg f0]), run_some (st' := .nm []) (a := []) (by rw [stp, if_neg (by decide), if_pos rfl, if_pos rfl]), List.append_nil]
          walk_at "ds"
          refine ⟨line, ?_⟩
          walk_at "ds"
          refine wx_nx (t.length - k) (by omega) _ ?_ ⟨ps ++ [.te f], k, z, rfl, hz, by omega, rfl, by rw [List.length_append, List.length_singleton]; omega, hnx⟩
          rw [List.map_append]
          walk_at "wk"
      · obtain rfl : j = t.length := by omega
        refine k_iff (decF (by rw [tx_len]; omega)) ?_
        walk_at "ds"
        exact q ps (by rw [hs, List.drop_length, runM, endM, flu, if_pos rfl, List.append_nil])
end
end My
namespace My
open PySem L2
local macro_rules | `(tactic| walk_at "rd") => `(tactic| simp only [tSeq, tNext, tAsg, tOp, tUn, tC, tVar, gName, gSub, tCons, tNil, tCB, tIfS, tIf, tTest, tB, tAnd, tOr, tNot, tAndV, tOrV, tNotV, tRet, tRetN, tDrop, tLst, tTup, tCall, tSl, tNoPart, tPart, tM0, tM1, tBM, tBM0, tYes, tFor_eq, tLc_eq, iList, iRng1, iRng2, iStr, sg_tx, c_empty, rstrip_sign, find_sign, cut_last, cut_to, cut_from, cut_mid, cut_to_lit, cut_from_lit, and_assoc, flat_rep, List.length_replicate, tx_len, tx_eq, tx_app, tx_cps, rI0, rI, rU, rEq, rNe, rIxL, rIxS, rIxT, rSetL, rAppend, rPopAt, rSlS, rSlL, rIn, rMulS, rLtD, rJoin, rLenQ, rListOf,  tRevS, 
  scal, L2.start, List.map_cons, List.map_nil, List.length_cons, List.length_nil, List.replicate, List.cons_append, List.nil_append, List.append_nil,
  List.getElem?_cons_zero, List.getElem?_cons_succ, List.set_cons_zero, List.set_cons_succ, Nat.sub_zero, Nat.reduceSub, Nat.reduceAdd, Nat.zero_add, id_eq, Int.reduceToNat, exists_or,
  V.int.injEq, V.str.injEq, V.bl.injEq, V.ref.injEq, Option.some.injEq, List.cons.injEq, exists_and_left, exists_eq_left', exists_eq_left, exists_eq, exists_eq', and_true, true_and, reduceCtorEq, false_and, and_false, exists_false, false_or, or_false, decide_eq_true_eq, Bool.not_eq_true', decide_eq_false_iff_not, Bool.not_not, Bool.false_eq_true, ↓reduceIte, if_true, if_false])

local macro_rules | `(tactic| walk_at "ne") => `(tactic| first | assumption | (refine Ne.symm ?_; assumption) | exact (ne_of_none (by assumption) (by assumption)) | exact (ne_of_none (by assumption) (by assumption)).symm)
local macro_rules | `(tactic| walk_at "hp") => `(tactic| first | assumption | exact upd_same | exact (upd_ne (by walk_at "ne")).trans (by walk_at "hp"))
local macro_rules | `(tactic| walk_at "st1") => `(tactic| first
  | refine ⟨_, Or.inl (Or.inl (by walk_at "hp")), ?_⟩
  | refine ⟨_, Or.inl (Or.inl (Or.inl (by walk_at "hp"))), ?_⟩
  | refine ⟨_, (show _ = some (HO.lst _) by walk_at "hp"), ?_⟩
  | refine ⟨_, rfl, ?_⟩
  | refine ⟨(rfl : ("str" : String) = "str"), ?_⟩
  | refine ⟨Or.inr ⟨by decide, by decide⟩, ?_⟩
  | refine ⟨⟨by decide, by decide⟩, ?_⟩
  | refine ⟨by decide, ?_⟩
  | refine ⟨by assumption, ?_⟩)
local macro_rules | `(tactic| walk_at "st") => `(tactic| repeat walk_at "st1")
local macro_rules | `(tactic| walk_at "go") => `(tactic| repeat first | walk_at "st1" | walk_at "rd")
local macro_rules | `(tactic| walk_at "wk") => `(tactic| repeat first | exact Wk.nil | apply Wk.yes | apply Wk.no)
local macro_rules | `(tactic| walk_at "ds1") => `(tactic| first
  | ((with_reducible show Sv _ _ _ _); (first | (with_reducible apply sv_set2) | (with_reducible apply sv_seq) | (with_reducible apply sv_if) | (((with_reducible apply sv_retO); next => rfl)) | (with_reducible refine sv_retN (el_lst ?_)) | (with_reducible refine sv_retN (el_call ?_)) | (with_reducible refine sv_retN (el_lc ?_)) | (with_reducible refine sv_retN (el_list ?_)) | (with_reducible refine sv_retN (el_cat ?_)) | (with_reducible apply sv_ret) | (with_reducible refine sv_setN (el_lst ?_)) | (with_reducible refine sv_setN (el_call ?_)) | (with_reducible refine sv_setN (el_lc ?_)) | (with_reducible refine sv_setN (el_list ?_)) | (with_reducible refine sv_setN (el_cat ?_)) | (with_reducible refine sv_setN (el_callD rfl ?_)) | (((with_reducible apply sv_putD); next => rfl)) | (with_reducible apply sv_set) | (((with_reducible apply sv_app); next => rfl)) | (((with_reducible apply sv_ext); next => rfl)) | (((with_reducible apply sv_put); next => rfl)) | (with_reducible apply sv_for) | (with_reducible apply sv_nil) | (with_reducible apply sv_retNone) | (with_reducible apply sv_drop)))
  | ((with_reducible show Ev _ _ _ _); (first | (with_reducible apply ev_q0) | (with_reducible apply ev_q1) | (with_reducible apply ev_q2) | (with_reducible apply ev_q3) | (with_reducible apply ev_q4) | (with_reducible apply ev_q5) | (with_reducible apply ev_q6) | (with_reducible apply ev_q7) | (with_reducible apply ev_q8) | (with_reducible apply ev_q9) | (with_reducible apply ev_q10) | (with_reducible apply ev_q11) | (with_reducible apply ev_q12) | (with_reducible apply ev_q13) | (with_reducible apply ev_q14) | (with_reducible apply ev_q15) | (with_reducible apply ev_q16) | (with_reducible apply ev_q17) | (with_reducible apply ev_q18) | (with_reducible apply ev_q19) | (with_reducible apply ev_q20) | (with_reducible apply ev_q21) | (with_reducible apply ev_q22) | (with_reducible apply ev_q23) | (with_reducible apply ev_q24) | (with_reducible apply ev_q25) | (with_reducible apply ev_q26) | (with_reducible apply ev_q27) | (with_reducible apply ev_q28) | (with_reducible apply ev_q29) | (with_reducible apply ev_q30) | (with_reducible apply ev_q31) | (with_reducible apply ev_q32) | (with_reducible apply ev_q33) | (with_reducible apply ev_catX) | (with_reducible apply ev_inS) | (with_reducible apply ev_ninS) | (with_reducible apply ev_joinE) | (with_reducible apply ev_kget) | (((with_reducible apply ev_var); next => rfl)) | (((with_reducible apply ev_varO); next => rfl)) | (((with_reducible apply ev_varL); next => rfl)) | (((with_reducible apply ev_callD); next => rfl)) | (((with_reducible apply ev_dr); next => rfl)) | (with_reducible apply ev_max2) | (with_reducible apply ev_min2) | (with_reducible apply ev_index) | (with_reducible apply ev_eqD) | (with_reducible apply ev_neD) | (with_reducible apply ev_int) | (with_reducible apply ev_bl) | (with_reducible apply ev_non) | (with_reducible apply ev_ixT) | (with_reducible apply ev_call) | (with_reducible apply ev_eq) | (with_reducible apply ev_tup) | (with_reducible apply ev_in) | (with_reducible apply ev_ixL) | (with_reducible apply ev_ne) | (with_reducible apply ev_i0) | (with_reducible apply ev_ib) | (with_reducible apply ev_isi) | (with_reducible apply ev_isN) | (with_reducible apply ev_notN) | (with_reducible apply ev_isB) | (with_reducible apply ev_notB) | (with_reducible apply ev_slT2) | (with_reducible apply ev_catU) | (with_reducible apply ev_iC) | (with_reducible apply ev_ixS) | (with_reducible apply ev_slS) | (with_reducible apply ev_u) | (with_reducible apply ev_notV) | (with_reducible apply ev_if) | (with_reducible apply ev_len) | (with_reducible apply ev_lenS) | (with_reducible apply ev_tuple) | (with_reducible apply ev_all) | (with_reducible refine Ev.ofNew (el_lst ?_)) | (with_reducible refine Ev.ofNew (el_call ?_)) | (with_reducible refine Ev.ofNew (el_lc ?_)) | (with_reducible refine Ev.ofNew (el_list ?_)) | (with_reducible refine Ev.ofNew (el_cat ?_))))
  | ((with_reducible show Es _ _ _ _); (first | (with_reducible apply es_cons) | (with_reducible apply es_nil)))
  | ((with_reducible show Tv _ _ _ _); (first | (with_reducible apply tv_test) | (with_reducible apply tv_not) | (with_reducible apply tv_and) | (with_reducible apply tv_or) | (with_reducible apply tv_b) | (with_reducible apply tv_yes) | (with_reducible apply tv_tru)))
  | ((with_reducible show Eln _ _ _ _); (first | (with_reducible apply el_lst) | (with_reducible apply el_call) | (with_reducible apply el_lc) | (with_reducible apply el_list) | (with_reducible apply el_cat)))
  | ((with_reducible show Eo _ _ _ _); (first | (with_reducible apply eo_no) | (with_reducible apply eo_some)))
  | ((with_reducible show Iv _ _ _ _); (first | (with_reducible apply iv_tup) | (with_reducible apply iv_range1) | (with_reducible apply iv_str) | (with_reducible apply iv_enumT) | (((with_reducible apply iv_listV); next => rfl)) | (((with_reducible apply iv_listO); next => rfl)) | (with_reducible refine iv_listN (el_lst ?_)) | (with_reducible refine iv_listN (el_call ?_)) | (with_reducible refine iv_listN (el_lc ?_)) | (with_reducible refine iv_listN (el_list ?_)) | (with_reducible refine iv_listN (el_cat ?_))))
  | ((with_reducible show Gv _ _ _ _ _ _); (first | (with_reducible apply gv_name) | (with_reducible apply gv_tup2) | (with_reducible apply gv_tup3)))
  | ((with_reducible show seqO _ _ _ _); (first | (with_reducible apply o_nx) | (with_reducible apply o_rt) | (with_reducible apply o_rn) | (with_reducible apply o_bk) | (with_reducible apply o_ct)))
  | ((with_reducible show jnI _ _ _); (first | (with_reducible apply ji_nx) | (with_reducible apply ji_rt) | (with_reducible apply ji_rn) | (with_reducible apply ji_bk) | (with_reducible apply ji_ct)))
  | ((with_reducible show jnO _ _ _); (first | (with_reducible apply j_nx) | (with_reducible apply j_rt) | (with_reducible apply j_rn) | (with_reducible apply j_bk) | (with_reducible apply j_ct)))
  | ((with_reducible show lpO _ _ _ _); (first | (with_reducible apply l_rt) | (with_reducible apply l_rn) | (with_reducible apply l_ct) | (with_reducible apply l_nx')))
  | ((with_reducible show retO _ _); (first | (with_reducible apply r_rt) | (with_reducible apply r_nx)))
  | (with_reducible apply r_rn)
  | ((with_reducible show KIf _ _ _); (first | (((with_reducible apply k_ift); next => first | decide +kernel | rfl)) | (((with_reducible apply k_iff); next => first | decide +kernel | rfl))))
  | ((with_reducible show KEq _ _ _); (first | (with_reducible apply k_eqS) | (with_reducible apply k_eqI) | (with_reducible apply k_eqB) | (((with_reducible apply k_eqO); next => rfl; next => rfl; next => rfl; next => rfl))))
  | ((with_reducible show KDas _ _); (first | (with_reducible apply k_das_0) | (with_reducible apply k_das_1) | (with_reducible apply k_das_2) | (with_reducible apply k_das_3) | (with_reducible apply k_das_4) | (with_reducible apply k_das_5) | (with_reducible apply k_das_6) | (with_reducible apply k_das_7) | (with_reducible apply k_das_8) | (with_reducible apply k_das_9) | (with_reducible apply k_das_10) | (with_reducible apply k_das_11) | (with_reducible apply k_das_12) | (with_reducible apply k_das_13) | (with_reducible apply k_das_14) | (with_reducible apply k_das_15) | (with_reducible apply k_das_16)))
  | ((with_reducible show KIn _ _ _); (first | (with_reducible apply k_inT_0) | (with_reducible apply k_inL_0) | (with_reducible apply k_inT_1) | (with_reducible apply k_inL_1) | (with_reducible apply k_inT_2) | (with_reducible apply k_inL_2) | (with_reducible apply k_inT_3) | (with_reducible apply k_inL_3) | (with_reducible apply k_inT_4) | (with_reducible apply k_inL_4) | (with_reducible apply k_inT_5) | (with_reducible apply k_inL_5) | (with_reducible apply k_inT_6) | (with_reducible apply k_inL_6) | (with_reducible apply k_inT_7) | (with_reducible apply k_inL_7) | (with_reducible apply k_inT_8) | (with_reducible apply k_inL_8) | (with_reducible apply k_inT_9) | (with_reducible apply k_inL_9) | (with_reducible apply k_inT_10) | (with_reducible apply k_inL_10) | (with_reducible apply k_inT_11) | (with_reducible apply k_inL_11) | (with_reducible apply k_inT_12) | (with_reducible apply k_inL_12) | (with_reducible apply k_inN) | (((with_reducible apply k_inT); next => rfl; next => rfl)) | (((with_reducible apply k_inL); next => rfl; next => rfl))))
  | ((with_reducible show KEqD _ _ _); (first | (with_reducible apply k_eqIntsC) | (with_reducible apply k_eqInts0) | (with_reducible apply k_eqInts)))
  | (with_reducible apply k_put0)
  | ((with_reducible show KTy _ _ _); (first | (with_reducible apply k_ty_tup_tuple) | (with_reducible apply k_ty_tup_bool) | (with_reducible apply k_ty_tup_int) | (with_reducible apply k_ty_tup_str) | (with_reducible apply k_ty_tup_list) | (with_reducible apply k_ty_ls_tuple) | (with_reducible apply k_ty_ls_bool) | (with_reducible apply k_ty_ls_int) | (with_reducible apply k_ty_ls_str) | (with_reducible apply k_ty_ls_list) | (with_reducible apply k_ty_int_tuple) | (with_reducible apply k_ty_int_bool) | (with_reducible apply k_ty_int_int) | (with_reducible apply k_ty_int_str) | (with_reducible apply k_ty_int_list) | (with_reducible apply k_ty_str_tuple) | (with_reducible apply k_ty_str_bool) | (with_reducible apply k_ty_str_int) | (with_reducible apply k_ty_str_str) | (with_reducible apply k_ty_str_list) | (with_reducible apply k_ty_bl_tuple) | (with_reducible apply k_ty_bl_bool) | (with_reducible apply k_ty_bl_int) | (with_reducible apply k_ty_bl_str) | (with_reducible apply k_ty_bl_list) | (with_reducible apply k_ty_non_tuple) | (with_reducible apply k_ty_non_bool) | (with_reducible apply k_ty_non_int) | (with_reducible apply k_ty_non_str) | (with_reducible apply k_ty_non_list)))
  | ((with_reducible show KSl _ _ _ _); (first | (with_reducible apply k_sl_1) | (with_reducible apply k_sl_2) | (with_reducible apply k_sl_m2) | (with_reducible apply k_sl_m3) | (with_reducible apply k_sl_m4) | (with_reducible apply k_sl_m5)))
  | ((with_reducible show KCat _ _ _); (first | (with_reducible apply k_cat1) | (with_reducible apply k_cat2) | (with_reducible apply k_cat3) | (with_reducible apply k_cat23)))
  | ((with_reducible show KLen _ _); (first | (with_reducible apply k_lenT) | (with_reducible apply k_lenL)))
  | ((with_reducible show KSq _ _); (first | (with_reducible apply k_sqT) | (with_reducible apply k_sqL)))
  | (with_reducible apply k_i2s)
  | (with_reducible apply k_d)
  | ((with_reducible show KT _ _); (first | (with_reducible apply k_t) | (with_reducible apply k_tT)))
  | (with_reducible apply k_l)
  | (with_reducible apply k_i1)
  | (with_reducible apply k_i2)
  | (with_reducible apply k_b)
  | (with_reducible apply k_n)
  | (with_reducible apply k_tx)
  | (with_reducible apply k_t1)
  | (with_reducible apply k_ts)
  | with_reducible apply k_ix_0
  | with_reducible apply k_ix_1
  | ((with_reducible apply k_ixT2); next => rfl)
  | with_reducible apply gx_name
  | with_reducible apply gx_tup2
  | with_reducible apply gx_tup3
  | with_reducible refine (fun (p : Addr) => (?_ : seqO _ _ _ _))
  | with_reducible refine (fun (p : Addr) => (?_ : lpO _ _ _ _))
  | with_reducible refine (fun (p : Addr) => (?_ : liO _ _))
  | (with_reducible apply k_d2)
  | (with_reducible apply k_sg)
  | ((with_reducible show Sx _ _ _ _ _ _ _ _); (first | (with_reducible apply sx_seq) | (with_reducible apply sx_if) | (with_reducible apply sx_setX) | (with_reducible apply sx_set2X) | (with_reducible apply sx_dropX) | (with_reducible apply sx_raise) | (with_reducible refine sx_retN (el_lst ?_)) | (with_reducible refine sx_retN (el_call ?_)) | (with_reducible refine sx_retN (el_lc ?_)) | (with_reducible refine sx_retN (el_list ?_)) | (with_reducible refine sx_retN (el_cat ?_)) | (with_reducible apply sx_ret) | (with_reducible apply sx_retNone) | (with_reducible apply sx_ofA) | (with_reducible apply sx_ofD) | (with_reducible apply sx_ofN)))
  | ((with_reducible show sqX _ _ _ _ _ _ _ _); (first | (with_reducible apply q_nx) | (with_reducible apply q_rt) | (with_reducible apply q_rn) | (with_reducible apply q_bk) | (with_reducible apply q_ct)))
  | ((with_reducible show liO _ _); (first | (with_reducible apply li_nx) | (with_reducible apply li_bk) | (with_reducible apply li_ct)))
  | (with_reducible apply rx_rt)
  | (with_reducible apply wx_rt))
local macro_rules | `(tactic| walk_at "ds") => `(tactic| repeat walk_at "ds1")
local macro_rules | `(tactic| walk_at "d0") => `(tactic| (try simp only [cx_K, cx_K', List.map_cons, List.map_nil]))
local macro_rules | `(tactic| walk_at "da") => `(tactic| repeat first | walk_at "ds1" | (with_reducible apply sv_cut) | (with_reducible apply sx_cut))
section
variable {P : Program} {w : World} {K : PySem.W.Frag} {mg : Str → Option Value} {base : Heap}
/-! ### the reader of the law -/
def msD : Ms → List Da
  | .tx s => [.str (tx [116, 101, 120, 116]), .str (tx s), .str (tx [])]
  | .es s => [.str (tx [101, 115, 99, 97, 112, 101]), .str (tx s), .str (tx [])]
  | .nm n => [.str (tx [110, 97, 109, 101]), .str (tx []), .str (tx n)]
  | .ot n o => [.str (tx [111, 116, 104, 101, 114]), .str (tx o), .str (tx n)]
  | .ie n o => [.str (tx [105, 110, 110, 101, 114, 32, 101, 115, 99, 97, 112, 101]), .str (tx o), .str (tx n)]
def msL : Ms → Nat
  | .tx s => s.length
  | .es s => s.length
  | .nm n => n.length
  | .ot n o => n.length + o.length
  | .ie n o => n.length + o.length
theorem stp_len {st st' : Ms} {c : Nat} {a : List Pt} (h : stp st c = some (st', a)) : msL st' ≤ msL st + 1 ∧ a.length ≤ 1 := by
  cases st with
  | tx s =>
    rw [stp] at h
    split at h
    · cases h; simp [msL]
    · split at h
      · cases h
        refine ⟨by simp [msL], ?_⟩
        split <;> simp
      · split at h
        · cases h
        · cases h; simp [msL]
  | es s =>
    rw [stp] at h
    split at h
    · cases h; simp [msL]
    · cases h
  | nm n =>
    rw [stp] at h
    split at h
    · cases h; simp [msL]
    · split at h
      · cases h; simp [msL]
      · split at h
        · cases h; simp [msL]
        · cases h
  | ot n o =>
    rw [stp] at h
    split at h
    · cases h; simp [msL]
    · split at h
      · cases h; simp [msL]
      · split at h
        · cases h
        · cases h; simp [msL]; omega
  | ie n o =>
    rw [stp] at h
    split at h
    · cases h; simp [msL]; omega
    · cases h
def pre_mn : List Vl → (Vl → Prop) → Prop := fun xs R => ∃ (c : Nat), xs = [.da (.str (tx [c]))] ∧ R (.da (.str (tx [unesc c])))
theorem ok_Lmeant (T : Top K mg) : FnOk P w K mg base CX0 1 T.f_Lmeant T.fd_Lmeant ["_law_sign"] (sp_pu K pre_mn) := by
  refine T.F_Lmeant.ok sc_Lmeant (fun vs H Q E h => ?_) (fun cdv A outer s H vs Q E hr h => ⟨_, (pss_cons (ps_if (pt_cmpR op_eq (pv 0) pe_str (nomark _)) (pss_one (ps_ret pe_str)) pss_nil)
       (pss_cons (ps_if (pt_cmpR op_eq (pv 0) pe_str (nomark _)) (pss_one (ps_ret pe_str)) pss_nil)
       (pss_one (ps_ret (pv 0))))), fin_pu (N := n_Lmeant) (fun xs R hp e he => ?_) h⟩)
  · obtain ⟨xs, R, hx, ⟨c, rfl, _⟩, _⟩ := h
    exact hx.len
  · obtain ⟨c, rfl, q⟩ := hp
    rcases he with _ | he
    cases he
    unfold unesc at q
    walk_at "d0"
    walk_at "ds"
    by_cases h1 : c = 110
    · rw [if_pos h1] at q
      refine k_ift (by simp [h1]) ?_
      walk_at "ds"
      exact q
    · rw [if_neg h1] at q
      refine k_iff (dq_f (one_ne h1)) ?_
      walk_at "ds"
      by_cases h2 : c = 116
      · rw [if_pos h2] at q
        refine k_ift (by simp [h2]) ?_
        walk_at "ds"
        exact q
      · rw [if_neg h2] at q
        refine k_iff (dq_f (one_ne h2)) ?_
        walk_at "ds"
        exact q
def pre_nd : List Vl → (Vl → Prop) → Prop := fun xs R => ∃ (c : Nat) (n : List Nat), xs = [.da (.str (tx [c])), .da (.str (tx n))] ∧ n.length ≤ 20000 ∧ R (.da (.bl (nmTo n c)))
theorem ok_Lnamed (T : Top K mg) : FnOk P w K mg base CX0 1 T.f_Lnamed T.fd_Lnamed ["_law_sign", "_law_name"] (sp_pu K pre_nd) := by
  refine T.F_Lnamed.ok sc_Lnamed (fun vs H Q E h => ?_) (fun cdv A outer s H vs Q E hr h => ⟨_, (pss_cons (ps_set (i := 2) sc_Lnamed.nd rfl (Or.inl rfl) pe_str)
       (pss_cons (ps_if (pt_cmpR op_eq (pv 1) pe_str (nomark _)) (pss_one (ps_ret (pe_cmpR op_in_sign (pv 0) (pv 2) (by rfl)))) pss_nil)
       (pss_one (ps_ret (pe_and (pe_cmpR op_lt (pe_callB call_len_str (by rfl) T.b_len PySem.boot_len (pa_cons (pv 1) pa_nil)) pe_int (nomark _)) (pe_one (pe_cmpR op_in_sign (pv 0) (pe_op op_add_str (pv 2) pe_str) (by rfl)))))))), fin_pu (N := n_Lnamed) (fun xs R hp e he => ?_) h⟩)
  · obtain ⟨xs, R, hx, ⟨c, n, rfl, _⟩, _⟩ := h
    exact hx.len
  · obtain ⟨c, n, rfl, hl, q⟩ := hp
    rcases he with _ | he
    rcases he with _ | he
    cases he
    unfold nmTo at q
    walk_at "d0"
    walk_at "ds"
    by_cases h1 : n = []
    · rw [if_pos h1] at q
      refine k_ift (by simp [h1]) ?_
      walk_at "ds"
      exact q
    · rw [if_neg h1] at q
      refine k_iff (dq_f h1) ?_
      walk_at "ds"
      refine ev_andD (a := decide (n.length < 12)) (c := decide (c ∈ NSG)) ?_ (fun _ => ?_) q
      · walk_at "ds"
        refine k_ls (txL (by omega)) ?_
        walk_at "ds"
        rw [tx_len]
        congr 2
        simp only [decide_eq_decide]
        omega
      · walk_at "ds"
        refine k_x2 (toL (by decide)) ?_
        walk_at "ds"
        congr 2
        rw [decide_eq_decide]
        exact (List.mem_append.trans Or.comm).trans (List.mem_append (s := [48, 49, 50, 51, 52, 53, 54, 55, 56, 57, 95]) (t := LET)).symm
/-- all but p stands -/
def ButP (p : Addr) (H H' : Hp) : Prop := ∀ b o, b ≠ p → H b = some o → H' b = some o
def sp_step (K : PySem.W.Frag) : Sp := fun vs H Q _ => ∃ (a p : Addr) (m : Ms) (c : Nat) (ps : List Pt) (ws us : List V), vs = [.ref a, .str (tx [c]), .ref p] ∧ H a = some (.lst ws) ∧ DasAt K H (msD m) ws ∧ H p = some (.lst us) ∧ DasAt K H (ps.map ptD) us ∧ a ≠ p ∧ msL m ≤ 20000 ∧ ps.length ≤ 20000 ∧
  (stp m c = none → ∀ H' us', ButP p H H' → H' p = some (.lst us') → DasAt K H' (ps.map ptD) us' → Q .non H') ∧
  ∀ m' x, stp m c = some (m', x) → ∀ H' us' q ws', ButP p H H' → H' p = some (.lst us') → DasAt K H' ((ps ++ x).map ptD) us' → H q = none → q ≠ p → H' q = some (.lst ws') → DasAt K H' (msD m') ws' → Q (.ref q) H'
def retS (m : Ms) (c : Nat) (p : Addr) (ps : List Pt) : Oux → Prop
  | .rt e x => x = .da .non ∧ stp m c = none ∧ e[2]? = some (some (.own p (ps.map ptD)))
  | .rn e l => ∃ m' x, stp m c = some (m', x) ∧ l = msD m' ∧ e[2]? = some (some (.own p ((ps ++ x).map ptD)))
  | _ => False
theorem fin_step {N : List Str} {t : TS} {vs : List V} {H : Hp} {Q : VK} {E : XK} (hN : N.length = 4) (h : ∀ (m : Ms) (c : Nat) (a p : Addr) (ps : List Pt), msL m ≤ 20000 → ps.length ≤ 20000 → Sx K p (Str.ofString "") (fun _ => False) E [some (.ls a (msD m)), some (.vl (.str (tx [c]))), some (.own p (ps.map ptD)), none] t (retS m c p ps)) (hs : sp_step K vs H Q E) :
    t { nx := fun _ H' => Q .non H', rt := Q } (L2.start N vs) H := by
  obtain ⟨a, p, m, c, ps, ws, us, rfl, ha, hda, hp, hdp, hap, l1, l2, q0, q1⟩ := hs
  have hst : L2.start N [.ref a, .str (tx [c]), .ref p] = [some (.ref a), some (.str (tx [c])), some (.ref p), none] := by
    unfold L2.start
    rw [hN]
    rfl
  rw [hst]
  have E0 : EnvAt K (fun b => if b = p then none else H b) none [(a, msD m)] H [some (.ref a), some (.str (tx [c])), some (.ref p), none] [some (.ls a (msD m)), some (.vl (.str (tx [c]))), some (.own p (ps.map ptD)), none] := by
    refine ⟨rfl, fun d l e => (by cases e), fun d l e => (by cases e), fun b o _ e => ?_, fun q hq => ?_, fun i s hi => ?_, fun i j x y l1 l2 n hi hj => ?_⟩
    · by_cases hb : b = p
      · rw [if_pos hb] at e; cases e
      · rw [if_neg hb] at e; exact e
    · rw [List.mem_singleton.mp hq]
      exact ⟨ws, ha, hda, fun _ _ e => by cases e⟩
    · match i, hi with
      | 0, hi => cases Option.some.inj hi; exact ⟨_, rfl, rfl, List.mem_singleton.mpr rfl⟩
      | 1, hi => cases Option.some.inj hi; exact ⟨_, rfl, .str _⟩
      | 2, hi => cases Option.some.inj hi; exact ⟨_, rfl, rfl, us, hp, hdp, if_pos rfl, fun q hq => by rw [List.mem_singleton.mp hq]; exact hap⟩
      | 3, hi => cases hi
      | i + 4, hi => cases hi
    · match i, hi with
      | 0, hi => cases hi
      | 1, hi => cases hi
      | 2, hi =>
        match j, hj with
        | 0, hj => cases hj
        | 1, hj => cases hj
        | 2, hj => exact absurd rfl n
        | 3, hj => cases hj
        | j + 4, hj => cases hj
      | 3, hi => cases hi
      | i + 4, hi => cases hi
  have hbut : ∀ {H' : Hp} {e : Evn} {σ : St}, EnvAt K (fun b => if b = p then none else H b) none [(a, msD m)] H' σ e → ButP p H H' := fun E1 b o nb hb => E1.mv b o (fun _ _ e => by cases e) (by rw [if_neg nb]; exact hb)
  refine h m c a p ps l1 l2 _ none _ _ H _ E0 (fun _ _ _ o => o.elim) (fun _ _ _ o => o.elim) (fun _ _ _ o => o.elim) (fun e σ' x v H' o E1 hv => ?_) (fun e σ' l q vs H' o E1 hq0 hq1 hq2 hq3 => ?_) (fun _ _ _ _ o => o.elim)
  · obtain ⟨rfl, e1, e2⟩ := o
    have ev : v = .non := vl_atm hv rfl
    subst ev
    obtain ⟨v, _, rfl, us', g1, g2, _⟩ := E1.slot 2 _ e2
    exact q0 e1 H' us' (hbut E1) g1 g2
  · obtain ⟨m', x, e1, rfl, e2⟩ := o
    obtain ⟨v, _, rfl, us', g1, g2, _⟩ := E1.slot 2 _ e2
    have nq := hq1 2 p _ e2
    exact q1 m' x e1 H' us' q vs (hbut E1) g1 g2 (by rw [if_neg nq] at hq0; exact hq0) nq hq2 hq3
set_option maxHeartbeats 4000000 in
theorem ok_Lstepped (T : Top K mg) : FnOk P w K mg base CX0 2 T.f_Lstepped T.fd_Lstepped ["_law_state", "_law_sign", "_law_parts"] (sp_step K) := by
  refine T.F_Lstepped.ok sc_Lstepped (fun vs H Q E h => ?_) (fun cdv A outer s H vs Q E hr h => ⟨_, (pss_cons (ps_set (i := 3) sc_Lstepped.nd rfl (Or.inl rfl) (pe_ix (r := rIxL K) ix_list (pv 0) pe_int (fun _ _ => rfl)))
       (pss_cons (ps_if (PW.pt (pw_and (pt_cmpR op_eq (pv 3) pe_str (nomark _)) (pw_and1 (pt_cmpR op_in_sign (pv 1) pe_str (by rfl))))) (pss_one (ps_ret (pe_lst (pa_cons pe_str (pa_cons (pe_op op_add_str (pe_ix (r := rIxL K) ix_list (pv 0) pe_int (fun _ _ => rfl)) (pe_call (ok_Lmeant T) (hr.mono (by decide)) (by rfl) T.g_Lmeant T.F_Lmeant.kp T.B_Lmeant .nil pass0 (pa_cons (pv 1) pa_nil))) (pa_cons pe_str pa_nil)))))) pss_nil)
       (pss_cons (ps_if (PW.pt (pw_and (pt_cmpR op_eq (pv 3) pe_str (nomark _)) (pw_and1 (pt_cmpR op_in_sign (pv 1) pe_str (by rfl))))) (pss_one (ps_ret (pe_lst (pa_cons pe_str (pa_cons (pe_op op_add_str (pe_ix (r := rIxL K) ix_list (pv 0) pe_int (fun _ _ => rfl)) (pe_call (ok_Lmeant T) (hr.mono (by decide)) (by rfl) T.g_Lmeant T.F_Lmeant.kp T.B_Lmeant .nil pass0 (pa_cons (pv 1) pa_nil))) (pa_cons (pe_ix (r := rIxL K) ix_list (pv 0) pe_int (fun _ _ => rfl)) pa_nil)))))) pss_nil)
       (pss_cons (ps_if (PW.pt (pw_and (pt_cmpR op_eq (pv 3) pe_str (nomark _)) (pw_and1 (pt_cmpR op_eq (pv 1) pe_str (nomark _))))) (pss_one (ps_ret (pe_lst (pa_cons pe_str (pa_cons (pe_ix (r := rIxL K) ix_list (pv 0) pe_int (fun _ _ => rfl)) (pa_cons pe_str pa_nil)))))) pss_nil)
       (pss_cons (ps_if (PW.pt (pw_and (pt_cmpR op_eq (pv 3) pe_str (nomark _)) (pw_and1 (pt_cmpR op_eq (pv 1) pe_str (nomark _))))) (pss_cut (ps_if (pt_cmpR op_ne (pe_ix (r := rIxL K) ix_list (pv 0) pe_int (fun _ _ => rfl)) pe_str (nomark _)) (pss_one (ps_expr (pe_bm PySem.F.plainAttrs_list PySem.F.slot_list_append PySem.F.type_list_append mt_append (pv 2) (pa_cons (pe_tup (pa_cons pe_str (pa_cons (pe_ix (r := rIxL K) ix_list (pv 0) pe_int (fun _ _ => rfl)) pa_nil))) pa_nil)))) pss_nil)
       (pss_one (ps_ret (pe_lst (pa_cons pe_str (pa_cons pe_str (pa_cons pe_str pa_nil))))))) pss_nil)
       (pss_cons (ps_if (PW.pt (pw_and (pt_cmpR op_eq (pv 3) pe_str (nomark _)) (pw_and1 (pt_cmpR op_ne (pv 1) pe_str (nomark _))))) (pss_one (ps_ret (pe_lst (pa_cons pe_str (pa_cons (pe_op op_add_str (pe_ix (r := rIxL K) ix_list (pv 0) pe_int (fun _ _ => rfl)) (pv 1)) (pa_cons pe_str pa_nil)))))) pss_nil)
       (pss_cons (ps_if (PW.pt (pw_and (pt_cmpR op_eq (pv 3) pe_str (nomark _)) (pw_and1 (pt_cmpR op_eq (pv 1) pe_str (nomark _))))) (pss_cut (ps_if (pt_cmpR op_eq (pe_ix (r := rIxL K) ix_list (pv 0) pe_int (fun _ _ => rfl)) pe_str (nomark _)) (pss_one (ps_expr (pe_bm PySem.F.plainAttrs_list PySem.F.slot_list_append PySem.F.type_list_append mt_append (pv 2) (pa_cons (pe_tup (pa_cons pe_str pa_nil)) pa_nil)))) (pss_one (ps_expr (pe_bm PySem.F.plainAttrs_list PySem.F.slot_list_append PySem.F.type_list_append mt_append (pv 2) (pa_cons (pe_tup (pa_cons pe_str (pa_cons (pe_ix (r := rIxL K) ix_list (pv 0) pe_int (fun _ _ => rfl)) (pa_cons pe_str pa_nil)))) pa_nil)))))
       (pss_one (ps_ret (pe_lst (pa_cons pe_str (pa_cons pe_str (pa_cons pe_str pa_nil))))))) pss_nil)
       (pss_cons (ps_if (PW.pt (pw_and (pt_cmpR op_eq (pv 3) pe_str (nomark _)) (pw_and (pt_cmpR op_eq (pv 1) pe_str (nomark _)) (pw_and1 (pt_cmpR op_ne (pe_ix (r := rIxL K) ix_list (pv 0) pe_int (fun _ _ => rfl)) pe_str (nomark _)))))) (pss_one (ps_ret (pe_lst (pa_cons pe_str (pa_cons pe_str (pa_cons (pe_ix (r := rIxL K) ix_list (pv 0) pe_int (fun _ _ => rfl)) pa_nil)))))) pss_nil)
       (pss_cons (ps_if (PW.pt (pw_and (pt_cmpR op_eq (pv 3) pe_str (nomark _)) (pw_and1 (pt_val (pe_call (ok_Lnamed T) (hr.mono (by decide)) (by rfl) T.g_Lnamed T.F_Lnamed.kp T.B_Lnamed .nil pass0 (pa_cons (pv 1) (pa_cons (pe_ix (r := rIxL K) ix_list (pv 0) pe_int (fun _ _ => rfl)) pa_nil))))))) (pss_one (ps_ret (pe_lst (pa_cons pe_str (pa_cons pe_str (pa_cons (pe_op op_add_str (pe_ix (r := rIxL K) ix_list (pv 0) pe_int (fun _ _ => rfl)) (pv 1)) pa_nil)))))) pss_nil)
       (pss_cons (ps_if (PW.pt (pw_and (pt_cmpR op_eq (pv 3) pe_str (nomark _)) (pw_and1 (pt_cmpR op_eq (pv 1) pe_str (nomark _))))) (pss_cons (ps_expr (pe_bm PySem.F.plainAttrs_list PySem.F.slot_list_append PySem.F.type_list_append mt_append (pv 2) (pa_cons (pe_tup (pa_cons pe_str (pa_cons (pe_ix (r := rIxL K) ix_list (pv 0) pe_int (fun _ _ => rfl)) (pa_cons (pe_ix (r := rIxL K) ix_list (pv 0) pe_int (fun _ _ => rfl)) pa_nil)))) pa_nil)))
       (pss_one (ps_ret (pe_lst (pa_cons pe_str (pa_cons pe_str (pa_cons pe_str pa_nil))))))) pss_nil)
       (pss_cons (ps_if (PW.pt (pw_and (pt_cmpR op_eq (pv 3) pe_str (nomark _)) (pw_and1 (pt_cmpR op_eq (pv 1) pe_str (nomark _))))) (pss_one (ps_ret (pe_lst (pa_cons pe_str (pa_cons (pe_ix (r := rIxL K) ix_list (pv 0) pe_int (fun _ _ => rfl)) (pa_cons (pe_ix (r := rIxL K) ix_list (pv 0) pe_int (fun _ _ => rfl)) pa_nil)))))) pss_nil)
       (pss_cons (ps_if (PW.pt (pw_and (pt_cmpR op_eq (pv 3) pe_str (nomark _)) (pw_and1 (pt_cmpR op_notIn_sign (pv 1) pe_str (by rfl))))) (pss_one (ps_ret (pe_lst (pa_cons pe_str (pa_cons (pe_op op_add_str (pe_ix (r := rIxL K) ix_list (pv 0) pe_int (fun _ _ => rfl)) (pv 1)) (pa_cons (pe_ix (r := rIxL K) ix_list (pv 0) pe_int (fun _ _ => rfl)) pa_nil)))))) pss_nil)
       (pss_one (ps_ret pe_non)))))))))))))), fin_step (N := n_Lstepped) rfl (fun m c a p ps l1 l2 => ?_) h⟩)
  · obtain ⟨a, p, m, c, ps, ws, us, rfl, _⟩ := h
    rfl
  · have line : (ps.map ptD).length < sizeLine := toLineB (by rw [List.length_map]; omega)
    cases m with
    | tx s =>
      rw [msD]
      rw [msL] at l1
      walk_at "d0"
      walk_at "da"
      by_cases h1 : c = 92
      · refine k_ift (by simp [h1]) ?_
        walk_at "da"
        exact ⟨.es s, [], by rw [stp, if_pos h1], rfl, by simp⟩
      refine k_iff (dq_f (one_ne h1)) ?_
      walk_at "da"
      by_cases h2 : c = 123
      · refine k_ift (by simp [h2]) ?_
        walk_at "da"
        by_cases h3 : s = []
        · refine k_iff (by simp [h3]) ?_
          walk_at "da"
          exact ⟨.nm [], [], by rw [stp, if_neg h1, if_pos h2, if_pos h3], rfl, by simp⟩
        · refine k_ift (nq_t h3) ?_
          walk_at "da"
          refine ⟨line, ?_⟩
          walk_at "da"
          exact ⟨.nm [], [.te s], by rw [stp, if_neg h1, if_pos h2, if_neg h3], rfl, by rw [List.map_append]; rfl⟩
      refine k_iff (dq_f (one_ne h2)) ?_
      walk_at "da"
      by_cases h3 : c = 125
      · refine k_iff (by simp [h3]) ?_
        walk_at "da"
        exact ⟨rfl, by rw [stp, if_neg h1, if_neg h2, if_pos h3], rfl⟩
      · refine k_ift (nq_t (one_ne h3)) ?_
        walk_at "da"
        refine k_x2 (toL (by simp only [List.length_append, List.length_cons, List.length_nil]; omega)) ?_
        walk_at "da"
        exact ⟨.tx (s ++ [c]), [], by rw [stp, if_neg h1, if_neg h2, if_neg h3], rfl, by simp⟩
    | es s =>
      rw [msD]
      rw [msL] at l1
      walk_at "d0"
      walk_at "da"
      by_cases h1 : c ∈ TSP ++ [110, 116]
      · refine k_ift (decT h1) ?_
        walk_at "da"
        refine ⟨c, rfl, trivial, ?_⟩
        walk_at "da"
        refine k_x2 (toL (by simp only [List.length_append, List.length_cons, List.length_nil]; omega)) ?_
        walk_at "da"
        exact ⟨.tx (s ++ [unesc c]), [], by rw [stp, if_pos h1], rfl, by simp⟩
      · refine k_iff (decF h1) ?_
        walk_at "da"
        exact ⟨rfl, by rw [stp, if_neg h1], rfl⟩
    | nm n =>
      rw [msD]
      rw [msL] at l1
      walk_at "d0"
      walk_at "da"
      by_cases h1 : c = 125
      · refine k_ift (by simp [h1]) ?_
        walk_at "da"
        by_cases h3 : n = []
        · refine k_ift (by simp [h3]) ?_
          walk_at "da"
          refine ⟨line, ?_⟩
          walk_at "da"
          exact ⟨.tx [], [.wh], by rw [stp, if_pos h1, if_pos h3], rfl, by rw [List.map_append]; rfl⟩
        · refine k_iff (dq_f h3) ?_
          walk_at "da"
          refine ⟨line, ?_⟩
          walk_at "da"
          exact ⟨.tx [], [.gr n []], by rw [stp, if_pos h1, if_neg h3], rfl, by rw [List.map_append]; rfl⟩
      refine k_iff (dq_f (one_ne h1)) ?_
      walk_at "da"
      by_cases h2 : c = 124 ∧ n ≠ []
      · refine k_ift (by simp [h2.1]) ?_
        walk_at "da"
        refine k_ift (nq_t h2.2) ?_
        walk_at "da"
        exact ⟨.ot n [], [], by rw [stp, if_neg h1, if_pos h2], rfl, by simp⟩
      by_cases h4 : c = 124
      · have h5 : n = [] := Decidable.byContradiction fun z => h2 ⟨h4, z⟩
        refine k_ift (by simp [h4]) ?_
        walk_at "da"
        refine k_iff (by simp [h5]) ?_
        walk_at "da"
        refine ⟨c, n, rfl, by omega, trivial, ?_⟩
        walk_at "da"
        cases h3 : nmTo n c with
        | true =>
          refine k_ift rfl ?_
          walk_at "da"
          refine k_x2 (toL (by simp only [List.length_append, List.length_cons, List.length_nil]; omega)) ?_
          walk_at "da"
          exact ⟨.nm (n ++ [c]), [], by rw [stp, if_neg h1, if_neg h2, if_pos h3], rfl, by simp⟩
        | false =>
          refine k_iff rfl ?_
          walk_at "da"
          exact ⟨rfl, by rw [stp, if_neg h1, if_neg h2, if_neg (by rw [h3]; decide)], rfl⟩
      · refine k_iff (dq_f (one_ne h4)) ?_
        walk_at "da"
        refine ⟨c, n, rfl, by omega, trivial, ?_⟩
        walk_at "da"
        cases h3 : nmTo n c with
        | true =>
          refine k_ift rfl ?_
          walk_at "da"
          refine k_x2 (toL (by simp only [List.length_append, List.length_cons, List.length_nil]; omega)) ?_
          walk_at "da"
          exact ⟨.nm (n ++ [c]), [], by rw [stp, if_neg h1, if_neg h2, if_pos h3], rfl, by simp⟩
        | false =>
          refine k_iff rfl ?_
          walk_at "da"
          exact ⟨rfl, by rw [stp, if_neg h1, if_neg h2, if_neg (by rw [h3]; decide)], rfl⟩
    | ot n o =>
      rw [msD]
      rw [msL] at l1
      walk_at "d0"
      walk_at "da"
      by_cases h1 : c = 125
      · refine k_ift (by simp [h1]) ?_
        walk_at "da"
        refine ⟨line, ?_⟩
        walk_at "da"
        exact ⟨.tx [], [.gr n o], by rw [stp, if_pos h1], rfl, by rw [List.map_append]; rfl⟩
      refine k_iff (dq_f (one_ne h1)) ?_
      walk_at "da"
      by_cases h2 : c = 92
      · refine k_ift (by simp [h2]) ?_
        walk_at "da"
        exact ⟨.ie n o, [], by rw [stp, if_neg h1, if_pos h2], rfl, by simp⟩
      refine k_iff (dq_f (one_ne h2)) ?_
      walk_at "da"
      by_cases h3 : c = 123 ∨ c = 124
      · refine k_iff (by rw [decT (show c ∈ [123, 124] by simpa using h3)]; rfl) ?_
        walk_at "da"
        exact ⟨rfl, by rw [stp, if_neg h1, if_neg h2, if_pos h3], rfl⟩
      · refine k_ift (by rw [decF (show ¬ c ∈ [123, 124] by simpa using h3)]; rfl) ?_
        walk_at "da"
        refine k_x2 (toL (by simp only [List.length_append, List.length_cons, List.length_nil]; omega)) ?_
        walk_at "da"
        exact ⟨.ot n (o ++ [c]), [], by rw [stp, if_neg h1, if_neg h2, if_neg h3], rfl, by simp⟩
    | ie n o =>
      rw [msD]
      rw [msL] at l1
      walk_at "d0"
      walk_at "da"
      by_cases h1 : c ∈ OSP ++ [110, 116]
      · refine k_ift (decT h1) ?_
        walk_at "da"
        refine ⟨c, rfl, trivial, ?_⟩
        walk_at "da"
        refine k_x2 (toL (by simp only [List.length_append, List.length_cons, List.length_nil]; omega)) ?_
        walk_at "da"
        exact ⟨.ot n (o ++ [unesc c]), [], by rw [stp, if_pos h1], rfl, by simp⟩
      · refine k_iff (decF h1) ?_
        walk_at "da"
        exact ⟨rfl, by rw [stp, if_neg h1], rfl⟩
end
end My
namespace My
open PySem L2
local macro_rules | `(tactic| walk_at "rd") => `(tactic| simp only [tSeq, tNext, tAsg, tOp, tUn, tC, tVar, gName, gSub, tCons, tNil, tCB, tIfS, tIf, tTest, tB, tAnd, tOr, tNot, tAndV, tOrV, tNotV, tRet, tRetN, tDrop, tLst, tTup, tCall, tSl, tNoPart, tPart, tM0, tM1, tBM, tBM0, tYes, tFor_eq, tLc_eq, iList, iRng1, iRng2, iStr, sg_tx, c_empty, rstrip_sign, find_sign, cut_last, cut_to, cut_from, cut_mid, cut_to_lit, cut_from_lit, and_assoc, flat_rep, List.length_replicate, tx_len, tx_eq, tx_app, tx_cps, rI0, rI, rU, rEq, rNe, rIxL, rIxS, rIxT, rSetL, rAppend, rPopAt, rSlS, rSlL, rIn, rMulS, rLtD, rJoin, rLenQ, rListOf,  tRevS, 
  scal, L2.start, List.map_cons, List.map_nil, List.length_cons, List.length_nil, List.replicate, List.cons_append, List.nil_append, List.append_nil,
  List.getElem?_cons_zero, List.getElem?_cons_succ, List.set_cons_zero, List.set_cons_succ, Nat.sub_zero, Nat.reduceSub, Nat.reduceAdd, Nat.zero_add, id_eq, Int.reduceToNat, exists_or,
  V.int.injEq, V.str.injEq, V.bl.injEq, V.ref.injEq, Option.some.injEq, List.cons.injEq, exists_and_left, exists_eq_left', exists_eq_left, exists_eq, exists_eq', and_true, true_and, reduceCtorEq, false_and, and_false, exists_false, false_or, or_false, decide_eq_true_eq, Bool.not_eq_true', decide_eq_false_iff_not, Bool.not_not, Bool.false_eq_true, ↓reduceIte, if_true, if_false])

local macro_rules | `(tactic| walk_at "ne") => `(tactic| first | assumption | (refine Ne.symm ?_; assumption) | exact (ne_of_none (by assumption) (by assumption)) | exact (ne_of_none (by assumption) (by assumption)).symm)
local macro_rules | `(tactic| walk_at "hp") => `(tactic| first | assumption | exact upd_same | exact (upd_ne (by walk_at "ne")).trans (by walk_at "hp"))
local macro_rules | `(tactic| walk_at "st1") => `(tactic| first
  | refine ⟨_, Or.inl (Or.inl (by walk_at "hp")), ?_⟩
  | refine ⟨_, Or.inl (Or.inl (Or.inl (by walk_at "hp"))), ?_⟩
  | refine ⟨_, (show _ = some (HO.lst _) by walk_at "hp"), ?_⟩
  | refine ⟨_, rfl, ?_⟩
  | refine ⟨(rfl : ("str" : String) = "str"), ?_⟩
  | refine ⟨Or.inr ⟨by decide, by decide⟩, ?_⟩
  | refine ⟨⟨by decide, by decide⟩, ?_⟩
  | refine ⟨by decide, ?_⟩
  | refine ⟨by assumption, ?_⟩)
local macro_rules | `(tactic| walk_at "st") => `(tactic| repeat walk_at "st1")
local macro_rules | `(tactic| walk_at "go") => `(tactic| repeat first | walk_at "st1" | walk_at "rd")
local macro_rules | `(tactic| walk_at "wk") => `(tactic| repeat first | exact Wk.nil | apply Wk.yes | apply Wk.no)
local macro_rules | `(tactic| walk_at "ds1") => `(tactic| first
  | ((with_reducible show Sv _ _ _ _); (first | (with_reducible apply sv_set2) | (with_reducible apply sv_seq) | (with_reducible apply sv_if) | (((with_reducible apply sv_retO); next => rfl)) | (with_reducible refine sv_retN (el_lst ?_)) | (with_reducible refine sv_retN (el_call ?_)) | (with_reducible refine sv_retN (el_lc ?_)) | (with_reducible refine sv_retN (el_list ?_)) | (with_reducible refine sv_retN (el_cat ?_)) | (with_reducible apply sv_ret) | (with_reducible refine sv_setN (el_lst ?_)) | (with_reducible refine sv_setN (el_call ?_)) | (with_reducible refine sv_setN (el_lc ?_)) | (with_reducible refine sv_setN (el_list ?_)) | (with_reducible refine sv_setN (el_cat ?_)) | (with_reducible refine sv_setN (el_callD rfl ?_)) | (((with_reducible apply sv_putD); next => rfl)) | (with_reducible apply sv_set) | (((with_reducible apply sv_app); next => rfl)) | (((with_reducible apply sv_ext); next => rfl)) | (((with_reducible apply sv_put); next => rfl)) | (with_reducible apply sv_for) | (with_reducible apply sv_nil) | (with_reducible apply sv_retNone) | (with_reducible apply sv_drop)))
  | ((with_reducible show Ev _ _ _ _); (first | (with_reducible apply ev_q0) | (with_reducible apply ev_q1) | (with_reducible apply ev_q2) | (with_reducible apply ev_q3) | (with_reducible apply ev_q4) | (with_reducible apply ev_q5) | (with_reducible apply ev_q6) | (with_reducible apply ev_q7) | (with_reducible apply ev_q8) | (with_reducible apply ev_q9) | (with_reducible apply ev_q10) | (with_reducible apply ev_q11) | (with_reducible apply ev_q12) | (with_reducible apply ev_q13) | (with_reducible apply ev_q14) | (with_reducible apply ev_q15) | (with_reducible apply ev_q16) | (with_reducible apply ev_q17) | (with_reducible apply ev_q18) | (with_reducible apply ev_q19) | (with_reducible apply ev_q20) | (with_reducible apply ev_q21) | (with_reducible apply ev_q22) | (with_reducible apply ev_q23) | (with_reducible apply ev_q24) | (with_reducible apply ev_q25) | (with_reducible apply ev_q26) | (with_reducible apply ev_q27) | (with_reducible apply ev_q28) | (with_reducible apply ev_q29) | (with_reducible apply ev_q30) | (with_reducible apply ev_q31) | (with_reducible apply ev_q32) | (with_reducible apply ev_q33) | (with_reducible apply ev_catX) | (with_reducible apply ev_inS) | (with_reducible apply ev_ninS) | (with_reducible apply ev_joinE) | (with_reducible apply ev_kget) | (((with_reducible apply ev_var); next => rfl)) | (((with_reducible apply ev_varO); next => rfl)) | (((with_reducible apply ev_varL); next => rfl)) | (((with_reducible apply ev_callD); next => rfl)) | (((with_reducible apply ev_dr); next => rfl)) | (with_reducible apply ev_max2) | (with_reducible apply ev_min2) | (with_reducible apply ev_index) | (with_reducible apply ev_eqD) | (with_reducible apply ev_neD) | (with_reducible apply ev_int) | (with_reducible apply ev_bl) | (with_reducible apply ev_non) | (with_reducible apply ev_ixT) | (with_reducible apply ev_call) | (with_reducible apply ev_eq) | (with_reducible apply ev_tup) | (with_reducible apply ev_in) | (with_reducible apply ev_ixL) | (with_reducible apply ev_ne) | (with_reducible apply ev_i0) | (with_reducible apply ev_ib) | (with_reducible apply ev_isi) | (with_reducible apply ev_isN) | (with_reducible apply ev_notN) | (with_reducible apply ev_isB) | (with_reducible apply ev_notB) | (with_reducible apply ev_slT2) | (with_reducible apply ev_catU) | (with_reducible apply ev_iC) | (with_reducible apply ev_ixS) | (with_reducible apply ev_slS) | (with_reducible apply ev_u) | (with_reducible apply ev_notV) | (with_reducible apply ev_if) | (with_reducible apply ev_len) | (with_reducible apply ev_lenS) | (with_reducible apply ev_tuple) | (with_reducible apply ev_all) | (with_reducible refine Ev.ofNew (el_lst ?_)) | (with_reducible refine Ev.ofNew (el_call ?_)) | (with_reducible refine Ev.ofNew (el_lc ?_)) | (with_reducible refine Ev.ofNew (el_list ?_)) | (with_reducible refine Ev.ofNew (el_cat ?_))))
  | ((with_reducible show Es _ _ _ _); (first | (with_reducible apply es_cons) | (with_reducible apply es_nil)))
  | ((with_reducible show Tv _ _ _ _); (first | (with_reducible apply tv_test) | (with_reducible apply tv_not) | (with_reducible apply tv_and) | (with_reducible apply tv_or) | (with_reducible apply tv_b) | (with_reducible apply tv_yes) | (with_reducible apply tv_tru)))
  | ((with_reducible show Eln _ _ _ _); (first | (with_reducible apply el_lst) | (with_reducible apply el_call) | (with_reducible apply el_lc) | (with_reducible apply el_list) | (with_reducible apply el_cat)))
  | ((with_reducible show Eo _ _ _ _); (first | (with_reducible apply eo_no) | (with_reducible apply eo_some)))
  | ((with_reducible show Iv _ _ _ _); (first | (with_reducible apply iv_tup) | (with_reducible apply iv_range1) | (with_reducible apply iv_str) | (with_reducible apply iv_enumT) | (((with_reducible apply iv_listV); next => rfl)) | (((with_reducible apply iv_listO); next => rfl)) | (with_reducible refine iv_listN (el_lst ?_)) | (with_reducible refine iv_listN (el_call ?_)) | (with_reducible refine iv_listN (el_lc ?_)) | (with_reducible refine iv_listN (el_list ?_)) | (with_reducible refine iv_listN (el_cat ?_))))
  | ((with_reducible show Gv _ _ _ _ _ _); (first | (with_reducible apply gv_name) | (with_reducible apply gv_tup2) | (with_reducible apply gv_tup3)))
  | ((with_reducible show seqO _ _ _ _); (first | (with_reducible apply o_nx) | (with_reducible apply o_rt) | (with_reducible apply o_rn) | (with_reducible apply o_bk) | (with_reducible apply o_ct)))
  | ((with_reducible show jnI _ _ _); (first | (with_reducible apply ji_nx) | (with_reducible apply ji_rt) | (with_reducible apply ji_rn) | (with_reducible apply ji_bk) | (with_reducible apply ji_ct)))
  | ((with_reducible show jnO _ _ _); (first | (with_reducible apply j_nx) | (with_reducible apply j_rt) | (with_reducible apply j_rn) | (with_reducible apply j_bk) | (with_reducible apply j_ct)))
  | ((with_reducible show lpO _ _ _ _); (first | (with_reducible apply l_rt) | (with_reducible apply l_rn) | (with_reducible apply l_ct) | (with_reducible apply l_nx')))
  | ((with_reducible show retO _ _); (first | (with_reducible apply r_rt) | (with_reducible apply r_nx)))
  | (with_reducible apply r_rn)
  | ((with_reducible show KIf _ _ _); (first | (((with_reducible apply k_ift); next => first | decide +kernel | rfl)) | (((with_reducible apply k_iff); next => first | decide +kernel | rfl))))
  | ((with_reducible show KEq _ _ _); (first | (with_reducible apply k_eqS) | (with_reducible apply k_eqI) | (with_reducible apply k_eqB) | (((with_reducible apply k_eqO); next => rfl; next => rfl; next => rfl; next => rfl))))
  | ((with_reducible show KDas _ _); (first | (with_reducible apply k_das_0) | (with_reducible apply k_das_1) | (with_reducible apply k_das_2) | (with_reducible apply k_das_3) | (with_reducible apply k_das_4) | (with_reducible apply k_das_5) | (with_reducible apply k_das_6) | (with_reducible apply k_das_7) | (with_reducible apply k_das_8) | (with_reducible apply k_das_9) | (with_reducible apply k_das_10) | (with_reducible apply k_das_11) | (with_reducible apply k_das_12) | (with_reducible apply k_das_13) | (with_reducible apply k_das_14) | (with_reducible apply k_das_15) | (with_reducible apply k_das_16)))
  | ((with_reducible show KIn _ _ _); (first | (with_reducible apply k_inT_0) | (with_reducible apply k_inL_0) | (with_reducible apply k_inT_1) | (with_reducible apply k_inL_1) | (with_reducible apply k_inT_2) | (with_reducible apply k_inL_2) | (with_reducible apply k_inT_3) | (with_reducible apply k_inL_3) | (with_reducible apply k_inT_4) | (with_reducible apply k_inL_4) | (with_reducible apply k_inT_5) | (with_reducible apply k_inL_5) | (with_reducible apply k_inT_6) | (with_reducible apply k_inL_6) | (with_reducible apply k_inT_7) | (with_reducible apply k_inL_7) | (with_reducible apply k_inT_8) | (with_reducible apply k_inL_8) | (with_reducible apply k_inT_9) | (with_reducible apply k_inL_9) | (with_reducible apply k_inT_10) | (with_reducible apply k_inL_10) | (with_reducible apply k_inT_11) | (with_reducible apply k_inL_11) | (with_reducible apply k_inT_12) | (with_reducible apply k_inL_12) | (with_reducible apply k_inN) | (((with_reducible apply k_inT); next => rfl; next => rfl)) | (((with_reducible apply k_inL); next => rfl; next => rfl))))
  | ((with_reducible show KEqD _ _ _); (first | (with_reducible apply k_eqIntsC) | (with_reducible apply k_eqInts0) | (with_reducible apply k_eqInts)))
  | (with_reducible apply k_put0)
  | ((with_reducible show KTy _ _ _); (first | (with_reducible apply k_ty_tup_tuple) | (with_reducible apply k_ty_tup_bool) | (with_reducible apply k_ty_tup_int) | (with_reducible apply k_ty_tup_str) | (with_reducible apply k_ty_tup_list) | (with_reducible apply k_ty_ls_tuple) | (with_reducible apply k_ty_ls_bool) | (with_reducible apply k_ty_ls_int) | (with_reducible apply k_ty_ls_str) | (with_reducible apply k_ty_ls_list) | (with_reducible apply k_ty_int_tuple) | (with_reducible apply k_ty_int_bool) | (with_reducible apply k_ty_int_int) | (with_reducible apply k_ty_int_str) | (with_reducible apply k_ty_int_list) | (with_reducible apply k_ty_str_tuple) | (with_reducible apply k_ty_str_bool) | (with_reducible apply k_ty_str_int) | (with_reducible apply k_ty_str_str) | (with_reducible apply k_ty_str_list) | (with_reducible apply k_ty_bl_tuple) | (with_reducible apply k_ty_bl_bool) | (with_reducible apply k_ty_bl_int) | (with_reducible apply k_ty_bl_str) | (with_reducible apply k_ty_bl_list) | (with_reducible apply k_ty_non_tuple) | (with_reducible apply k_ty_non_bool) | (with_reducible apply k_ty_non_int) | (with_reducible apply k_ty_non_str) | (with_reducible apply k_ty_non_list)))
  | ((with_reducible show KSl _ _ _ _); (first | (with_reducible apply k_sl_1) | (with_reducible apply k_sl_2) | (with_reducible apply k_sl_m2) | (with_reducible apply k_sl_m3) | (with_reducible apply k_sl_m4) | (with_reducible apply k_sl_m5)))
  | ((with_reducible show KCat _ _ _); (first | (with_reducible apply k_cat1) | (with_reducible apply k_cat2) | (with_reducible apply k_cat3) | (with_reducible apply k_cat23)))
  | ((with_reducible show KLen _ _); (first | (with_reducible apply k_lenT) | (with_reducible apply k_lenL)))
  | ((with_reducible show KSq _ _); (first | (with_reducible apply k_sqT) | (with_reducible apply k_sqL)))
  | (with_reducible apply k_i2s)
  | (with_reducible apply k_d)
  | ((with_reducible show KT _ _); (first | (with_reducible apply k_t) | (with_reducible apply k_tT)))
  | (with_reducible apply k_l)
  | (with_reducible apply k_i1)
  | (with_reducible apply k_i2)
  | (with_reducible apply k_b)
  | (with_reducible apply k_n)
  | (with_reducible apply k_tx)
  | (with_reducible apply k_t1)
  | (with_reducible apply k_ts)
  | with_reducible apply k_ix_0
  | with_reducible apply k_ix_1
  | ((with_reducible apply k_ixT2); next => rfl)
  | with_reducible apply gx_name
  | with_reducible apply gx_tup2
  | with_reducible apply gx_tup3
  | with_reducible refine (fun (p : Addr) => (?_ : seqO _ _ _ _))
  | with_reducible refine (fun (p : Addr) => (?_ : lpO _ _ _ _))
  | with_reducible refine (fun (p : Addr) => (?_ : liO _ _))
  | (with_reducible apply k_d2)
  | (with_reducible apply k_sg)
  | ((with_reducible show Sx _ _ _ _ _ _ _ _); (first | (with_reducible apply sx_seq) | (with_reducible apply sx_if) | (with_reducible apply sx_setX) | (with_reducible apply sx_set2X) | (with_reducible apply sx_dropX) | (with_reducible apply sx_raise) | (with_reducible refine sx_retN (el_lst ?_)) | (with_reducible refine sx_retN (el_call ?_)) | (with_reducible refine sx_retN (el_lc ?_)) | (with_reducible refine sx_retN (el_list ?_)) | (with_reducible refine sx_retN (el_cat ?_)) | (with_reducible apply sx_ret) | (with_reducible apply sx_retNone) | (with_reducible apply sx_ofA) | (with_reducible apply sx_ofD) | (with_reducible apply sx_ofN)))
  | ((with_reducible show sqX _ _ _ _ _ _ _ _); (first | (with_reducible apply q_nx) | (with_reducible apply q_rt) | (with_reducible apply q_rn) | (with_reducible apply q_bk) | (with_reducible apply q_ct)))
  | ((with_reducible show liO _ _); (first | (with_reducible apply li_nx) | (with_reducible apply li_bk) | (with_reducible apply li_ct)))
  | (with_reducible apply rx_rt)
  | (with_reducible apply wx_rt))
local macro_rules | `(tactic| walk_at "ds") => `(tactic| repeat walk_at "ds1")
local macro_rules | `(tactic| walk_at "d0") => `(tactic| (try simp only [cx_K, cx_K', List.map_cons, List.map_nil]))
local macro_rules | `(tactic| walk_at "da") => `(tactic| repeat first | walk_at "ds1" | (with_reducible apply sv_cut) | (with_reducible apply sx_cut))
section
variable {P : Program} {w : World} {K : PySem.W.Frag} {mg : Str → Option Value} {base : Heap}
/-- a list of one's own changed elsewhere -/
theorem EnvAt.writeH {K : PySem.W.Frag} {H0 H H' : Hp} {dl : Dl} {hs : Hs} {σ : L2.St} {env : Evn} (E : EnvAt K H0 dl hs H σ env) {i : Nat} {l l' : List Da} {a : Addr} {vs' : List V} (hi : env[i]? = some (some (.own a l))) (hb : ButP a H H') (ha' : H' a = some (.lst vs')) (hd : DasAt K H' l' vs') :
    Tk K H H' ∧ EnvAt K H0 dl hs H' σ (env.set i (some (.own a l'))) := by
  obtain ⟨v, e1, rfl, vs, ha, _, h0, hn⟩ := E.slot i _ hi
  have tk : Tk K H H' := .bl fun b o e => by
    by_cases z : b = a
    · subst z
      rw [ha] at e
      cases e
      exact .inr ⟨_, _, rfl, ha'⟩
    · exact .inl (hb b o z e)
  have n0 : ∀ b o, H0 b = some o → b ≠ a := fun b o e z => by rw [z, h0] at e; cases e
  have hil := (List.getElem?_eq_some_iff.mp hi).1
  refine ⟨tk, by rw [List.length_set, E.len], fun d l e => ?_, E.dl0, fun b o n e => hb b o (n0 b o e) (E.mv b o n e), fun p hp => ?_, fun j s hj => ?_, fun j k b c l1 l2 n hj hk => ?_⟩
  · obtain ⟨_, _, _, _, _, _, q1, q2, _⟩ := E.dl0 d l e
    obtain ⟨x, y, z, w', ds, ne, g1, g2, g3⟩ := E.dlat d l e
    exact ⟨x, y, z, w', ds, ne, hb _ _ (n0 _ _ q1) g1, hb _ _ (n0 _ _ q2) g2, g3⟩
  · obtain ⟨ws, h1, h2, h3⟩ := E.held p hp
    exact ⟨ws, hb _ _ (hn p hp) h1, h2.keep tk, h3⟩
  · by_cases e : i = j
    · subst e
      obtain ⟨_, hs⟩ := set_self hj
      cases hs
      exact ⟨_, e1, rfl, vs', ha', hd, h0, hn⟩
    · rw [List.getElem?_set_ne e] at hj
      obtain ⟨v, h1, h2⟩ := E.slot j s hj
      refine ⟨v, h1, ?_⟩
      cases s with
      | vl d => exact DaAt.keep tk h2
      | ls b l => exact h2
      | own b l1 =>
        obtain ⟨rfl, ws, hb2, hd2, b0, bn⟩ := h2
        have nb : b ≠ a := (E.apart i j a b l l1 e hi hj).symm
        exact ⟨rfl, ws, hb _ _ nb hb2, hd2.keep tk, b0, bn⟩
      | dr => exact h2
  · have own : ∀ (m : Nat) (c : Addr) (l3 : List Da), (env.set i (some (Sl.own a l')))[m]? = some (some (Sl.own c l3)) → ∃ l4, env[m]? = some (some (Sl.own c l4)) := fun m c l3 hm => by
      by_cases e : i = m
      · subst e
        obtain ⟨_, hs⟩ := set_self hm
        cases hs
        exact ⟨l, hi⟩
      · rw [List.getElem?_set_ne e] at hm; exact ⟨l3, hm⟩
    obtain ⟨l4, h4⟩ := own j b l1 hj
    obtain ⟨l5, h5⟩ := own k c l2 hk
    exact E.apart j k b c l4 l5 n h4 h5
theorem sv_step {K : PySem.W.Frag} {env : Evn} {O : Out → Prop} {X : XK} {te : TE} {i j : Nat} {p q : Addr} {m : Ms} {ps : List Pt} (hij : i ≠ j) (hi : env[i]? = some (some (.own p (ps.map ptD)))) (hj : env[j]? = some (some (.own q (msD m)))) (l1 : msL m ≤ 20000) (l2 : ps.length ≤ 20000)
    (h : Ev K env te fun x => ∃ c, x = .da (.str (tx [c])) ∧ (stp m c = none → O (.nx ((env.set i (some (.own p (ps.map ptD)))).set j (some (.vl .non))))) ∧ ∀ m' x, stp m c = some (m', x) → ∀ q' : Addr, O (.nx ((env.set i (some (.own p ((ps ++ x).map ptD)))).set j (some (.own q' (msD m')))))) :
    Sv K env (tAsg (tCall (sp_step K) [] X (tCons (tVar j) (tCons te (tCons (tVar i) tNil)))) (gName j)) O := fun H0 dl hs σ H D E a b c d r => by
  obtain ⟨v, s1, rfl, _⟩ := E.slot j _ hj
  refine ⟨_, s1, h H0 dl hs σ H _ E fun x v H1 hx mv dq hv => ?_⟩
  obtain ⟨cc, rfl, q0, q1⟩ := hx
  have ev := vl_atm hv rfl
  subst ev
  have E1 := E.go mv dq
  obtain ⟨v, t1, rfl, us, u1, u2, u3, u4⟩ := E1.slot i _ hi
  obtain ⟨v, t2, e2, ws, w1, w2, w3, w4⟩ := E1.slot j _ hj
  cases e2
  have nap : q ≠ p := E1.apart j i _ _ _ _ (Ne.symm hij) hj hi
  refine ⟨_, t1, q, p, m, cc, ps, ws, us, by rw [List.append_nil], w1, w2, u1, u2, nap, l1, l2, fun e H' us' hb g1 g2 => ?_, fun m' x e H' us' q' ws' hb g1 g2 n1 n2 g3 g4 => ?_⟩
  · obtain ⟨tk, E2⟩ := E1.writeH hi hb g1 g2
    exact a _ _ H' (q0 e) ((mv.tk E.dlat).trans tk) (E2.set .non)
  · obtain ⟨tk, E2⟩ := E1.writeH hi hb g1 g2
    have h0 : H0 q' = none := E1.mv.fresh E1.dlat n1
    refine a _ _ H' (q1 m' x e q') ((mv.tk E.dlat).trans tk) (E2.put (fun s es => ?_) (fun b l1' es k c2 l2' nj hk z => ?_))
    · cases es
      refine ⟨rfl, ws', g3, g4, h0, fun g hg z => ?_⟩
      obtain ⟨vs2, h1, _⟩ := E1.held g hg
      rw [show g.1 = q' from z] at h1
      rw [show H1 q' = some (.lst vs2) from h1] at n1
      cases n1
    · cases es
      by_cases ki : i = k
      · subst ki
        obtain ⟨_, he⟩ := set_self hk
        cases he
        exact n2 z.symm
      · rw [List.getElem?_set_ne ki] at hk
        obtain ⟨_, _, _, vs2, h1, _⟩ := E1.slot k _ hk
        rw [z, n1] at h1
        cases h1
def dueD : Nat ⊕ List Pt → List Da
  | .inl k => [.int (k : Nat), .tup []]
  | .inr ps => [.non, .tup (ps.map ptD)]
def pre_lr : List Vl → (List Da → Prop) → Prop := fun xs R => ∃ (t : List Nat), xs = [.da (.str (tx t))] ∧ t.length ≤ 10000 ∧ R (dueD (runM (.tx []) t 0 []))
theorem ok_Lread (T : Top K mg) : FnOk P w K mg base CX0 3 T.f_Lread T.fd_Lread ["_law_text"] (sp_pn K pre_lr) := by
  refine T.F_Lread.ok sc_Lread (fun vs H Q E h => ?_) (fun cdv A outer s H vs Q E hr h => ⟨_, (pss_cons (ps_set (i := 1) sc_Lread.nd rfl (Or.inl rfl) (pe_lst pa_nil))
       (pss_cons (ps_set (i := 2) sc_Lread.nd rfl (Or.inl rfl) (pe_lst (pa_cons pe_str (pa_cons pe_str (pa_cons pe_str pa_nil)))))
       (pss_cons (ps_for PassesOwn.never rfl (pi_range1 rfl T.b_range (pa_cons (pe_callB call_len_str (by rfl) T.b_len PySem.boot_len (pa_cons (pv 0) pa_nil)) pa_nil)) (pg_name (i := 3) sc_Lread.nd rfl (Or.inl rfl))
       (pss_cons (ps_set (i := 2) sc_Lread.nd rfl (Or.inl rfl) (pe_call (ok_Lstepped T) (hr.mono (by decide)) (by rfl) T.g_Lstepped T.F_Lstepped.kp T.B_Lstepped .nil pass0 (pa_cons (pv 2) (pa_cons (pe_ix ix_str (pv 0) (pv 3) (fun _ _ => rfl)) (pa_cons (pv 1) pa_nil)))))
       (pss_one (ps_if (pt_cmpR (r := rIsN) op_isN1 (pv 2) pe_non (nomark _)) (pss_one (ps_ret (pe_lst (pa_cons (pv 3) (pa_cons (pe_tup pa_nil) pa_nil))))) pss_nil))))
       (pss_cons (ps_if (pt_cmpR op_ne (pe_ix (r := rIxL K) ix_list (pv 2) pe_int (fun _ _ => rfl)) pe_str (nomark _)) (pss_one (ps_ret (pe_lst (pa_cons (pe_callB call_len_str (by rfl) T.b_len PySem.boot_len (pa_cons (pv 0) pa_nil)) (pa_cons (pe_tup pa_nil) pa_nil))))) pss_nil)
       (pss_cut (ps_if (pt_cmpR op_ne (pe_ix (r := rIxL K) ix_list (pv 2) pe_int (fun _ _ => rfl)) pe_str (nomark _)) (pss_one (ps_expr (pe_bm PySem.F.plainAttrs_list PySem.F.slot_list_append PySem.F.type_list_append mt_append (pv 1) (pa_cons (pe_tup (pa_cons pe_str (pa_cons (pe_ix (r := rIxL K) ix_list (pv 2) pe_int (fun _ _ => rfl)) pa_nil))) pa_nil)))) pss_nil)
       (pss_one (ps_ret (pe_lst (pa_cons pe_non (pa_cons (pe_callTy (r := rTupOf K) call_tupO (by rfl) T.b_tuple (by decide +kernel) (pa_cons (pv 1) pa_nil)) pa_nil)))))))))), fin_pn (N := n_Lread) (fun xs R hp e he => ?_) h⟩)
  · obtain ⟨xs, R, hx, ⟨t, rfl, _⟩, _⟩ := h
    exact hx.len
  · obtain ⟨t, rfl, hl, q⟩ := hp
    rcases he with _ | he
    cases he
    walk_at "d0"
    walk_at "ds"
    rename_i pa qa
    refine k_ls (txL (by omega)) ?_
    walk_at "ds"
    refine k_r1 ⟨by rw [tx_len]; omega, by rw [tx_len]; omega⟩ ?_
    refine k_forI (fun k e => ∃ (m : Ms) (ps : List Pt) (qa : Addr), e = [some (.vl (.str (tx t))), some (.own pa (ps.map ptD)), some (.own qa (msD m)), none] ∧ ps.length ≤ k ∧ msL m ≤ k ∧ runM (.tx []) t 0 [] = runM m (t.drop k) k ps) ⟨_, ?_, .tx [], [], qa, rfl, by simp, by simp [msL], by simp⟩ (fun _ _ _ => trivial) (fun k d e hd hI => ?_) (fun e hI => ?_)
    · walk_at "wk"
    · obtain ⟨m, ps, qa, rfl, l1, l2, hs⟩ := hI
      have hk := (List.getElem?_eq_some_iff.mp hd).1
      rw [List.length_map, List.length_range, tx_len, Int.toNat_natCast] at hk
      obtain rfl : d = .int (k : Nat) := by
        rw [List.getElem?_map, List.getElem?_range (by rw [tx_len, Int.toNat_natCast]; exact hk)] at hd
        cases hd; rfl
      obtain ⟨c, hc⟩ : ∃ c, t[k]? = some c := ⟨t[k], List.getElem?_eq_getElem hk⟩
      rw [drop_at hc] at hs
      refine gx_name (sv_seq ?_)
      refine sv_step (i := 1) (j := 2) (m := m) (ps := ps) (p := pa) (q := qa) (by decide) rfl rfl (by omega) (by omega) ?_
      walk_at "ds"
      refine k_is' (toL (by omega)) (atI_k rfl hc) ?_
      refine ⟨c, rfl, fun hn => ?_, fun m' x hx q' => ?_⟩
      · rw [run_none hn] at hs
        rw [hs] at q
        walk_at "ds"
        exact q
      · rw [run_some hx] at hs
        obtain ⟨g1, g2⟩ := stp_len hx
        walk_at "ds"
        refine k_nL ?_
        walk_at "ds"
        refine ⟨_, ?_, m', ps ++ x, q', rfl, by rw [List.length_append]; omega, by omega, hs⟩
        walk_at "wk"
    · obtain ⟨m, ps, qa, rfl, l1, l2, hs⟩ := hI
      rw [List.length_map, List.length_range, tx_len, Int.toNat_natCast] at hs l1 l2
      rw [List.drop_length, runM] at hs
      have line : (ps.map ptD).length < sizeLine := toLineB (by rw [List.length_map]; omega)
      refine ⟨.of rfl, ?_⟩
      rw [hs] at q
      cases m with
      | tx s =>
        rw [endM, flu] at q
        rw [msD]
        walk_at "da"
        by_cases h1 : s = []
        · refine k_iff (by simp [h1]) ?_
          rw [if_pos h1, List.append_nil] at q
          walk_at "da"
          exact q
        · refine k_ift (nq_t h1) ?_
          rw [if_neg h1] at q
          walk_at "da"
          refine ⟨line, ?_⟩
          walk_at "da"
          rw [dueD, List.map_append] at q
          exact q
      | es s =>
        rw [show endM (.es s) t.length ps = .inl t.length from rfl] at q
        rw [msD]
        walk_at "da"
        refine k_ls (txL (by omega)) ?_
        walk_at "da"
        rw [tx_len]
        exact q
      | nm n =>
        rw [show endM (.nm n) t.length ps = .inl t.length from rfl] at q
        rw [msD]
        walk_at "da"
        refine k_ls (txL (by omega)) ?_
        walk_at "da"
        rw [tx_len]
        exact q
      | ot n o =>
        rw [show endM (.ot n o) t.length ps = .inl t.length from rfl] at q
        rw [msD]
        walk_at "da"
        refine k_ls (txL (by omega)) ?_
        walk_at "da"
        rw [tx_len]
        exact q
      | ie n o =>
        rw [show endM (.ie n o) t.length ps = .inl t.length from rfl] at q
        rw [msD]
        walk_at "da"
        refine k_ls (txL (by omega)) ?_
        walk_at "da"
        rw [tx_len]
        exact q
end
end My
namespace My
open PySem L2
local macro_rules | `(tactic| walk_at "rd") => `(tactic| simp only [tSeq, tNext, tAsg, tOp, tUn, tC, tVar, gName, gSub, tCons, tNil, tCB, tIfS, tIf, tTest, tB, tAnd, tOr, tNot, tAndV, tOrV, tNotV, tRet, tRetN, tDrop, tLst, tTup, tCall, tSl, tNoPart, tPart, tM0, tM1, tBM, tBM0, tYes, tFor_eq, tLc_eq, iList, iRng1, iRng2, iStr, sg_tx, c_empty, rstrip_sign, find_sign, cut_last, cut_to, cut_from, cut_mid, cut_to_lit, cut_from_lit, and_assoc, flat_rep, List.length_replicate, tx_len, tx_eq, tx_app, tx_cps, rI0, rI, rU, rEq, rNe, rIxL, rIxS, rIxT, rSetL, rAppend, rPopAt, rSlS, rSlL, rIn, rMulS, rLtD, rJoin, rLenQ, rListOf,  tRevS, 
  scal, L2.start, List.map_cons, List.map_nil, List.length_cons, List.length_nil, List.replicate, List.cons_append, List.nil_append, List.append_nil,
  List.getElem?_cons_zero, List.getElem?_cons_succ, List.set_cons_zero, List.set_cons_succ, Nat.sub_zero, Nat.reduceSub, Nat.reduceAdd, Nat.zero_add, id_eq, Int.reduceToNat, exists_or,
  V.int.injEq, V.str.injEq, V.bl.injEq, V.ref.injEq, Option.some.injEq, List.cons.injEq, exists_and_left, exists_eq_left', exists_eq_left, exists_eq, exists_eq', and_true, true_and, reduceCtorEq, false_and, and_false, exists_false, false_or, or_false, decide_eq_true_eq, Bool.not_eq_true', decide_eq_false_iff_not, Bool.not_not, Bool.false_eq_true, ↓reduceIte, if_true, if_false])

local macro_rules | `(tactic| walk_at "ne") => `(tactic| first | assumption | (refine Ne.symm ?_; assumption) | exact (ne_of_none (by assumption) (by assumption)) | exact (ne_of_none (by assumption) (by assumption)).symm)
local macro_rules | `(tactic| walk_at "hp") => `(tactic| first | assumption | exact upd_same | exact (upd_ne (by walk_at "ne")).trans (by walk_at "hp"))
local macro_rules | `(tactic| walk_at "st1") => `(tactic| first
  | refine ⟨_, Or.inl (Or.inl (by walk_at "hp")), ?_⟩
  | refine ⟨_, Or.inl (Or.inl (Or.inl (by walk_at "hp"))), ?_⟩
  | refine ⟨_, (show _ = some (HO.lst _) by walk_at "hp"), ?_⟩
  | refine ⟨_, rfl, ?_⟩
  | refine ⟨(rfl : ("str" : String) = "str"), ?_⟩
  | refine ⟨Or.inr ⟨by decide, by decide⟩, ?_⟩
  | refine ⟨⟨by decide, by decide⟩, ?_⟩
  | refine ⟨by decide, ?_⟩
  | refine ⟨by assumption, ?_⟩)
local macro_rules | `(tactic| walk_at "st") => `(tactic| repeat walk_at "st1")
local macro_rules | `(tactic| walk_at "go") => `(tactic| repeat first | walk_at "st1" | walk_at "rd")
local macro_rules | `(tactic| walk_at "wk") => `(tactic| repeat first | exact Wk.nil | apply Wk.yes | apply Wk.no)
local macro_rules | `(tactic| walk_at "ds1") => `(tactic| first
  | ((with_reducible show Sv _ _ _ _); (first | (with_reducible apply sv_set2) | (with_reducible apply sv_seq) | (with_reducible apply sv_if) | (((with_reducible apply sv_retO); next => rfl)) | (with_reducible refine sv_retN (el_lst ?_)) | (with_reducible refine sv_retN (el_call ?_)) | (with_reducible refine sv_retN (el_lc ?_)) | (with_reducible refine sv_retN (el_list ?_)) | (with_reducible refine sv_retN (el_cat ?_)) | (with_reducible apply sv_ret) | (with_reducible refine sv_setN (el_lst ?_)) | (with_reducible refine sv_setN (el_call ?_)) | (with_reducible refine sv_setN (el_lc ?_)) | (with_reducible refine sv_setN (el_list ?_)) | (with_reducible refine sv_setN (el_cat ?_)) | (with_reducible refine sv_setN (el_callD rfl ?_)) | (((with_reducible apply sv_putD); next => rfl)) | (with_reducible apply sv_set) | (((with_reducible apply sv_app); next => rfl)) | (((with_reducible apply sv_ext); next => rfl)) | (((with_reducible apply sv_put); next => rfl)) | (with_reducible apply sv_for) | (with_reducible apply sv_nil) | (with_reducible apply sv_retNone) | (with_reducible apply sv_drop)))
  | ((with_reducible show Ev _ _ _ _); (first | (with_reducible apply ev_q0) | (with_reducible apply ev_q1) | (with_reducible apply ev_q2) | (with_reducible apply ev_q3) | (with_reducible apply ev_q4) | (with_reducible apply ev_q5) | (with_reducible apply ev_q6) | (with_reducible apply ev_q7) | (with_reducible apply ev_q8) | (with_reducible apply ev_q9) | (with_reducible apply ev_q10) | (with_reducible apply ev_q11) | (with_reducible apply ev_q12) | (with_reducible apply ev_q13) | (with_reducible apply ev_q14) | (with_reducible apply ev_q15) | (with_reducible apply ev_q16) | (with_reducible apply ev_q17) | (with_reducible apply ev_q18) | (with_reducible apply ev_q19) | (with_reducible apply ev_q20) | (with_reducible apply ev_q21) | (with_reducible apply ev_q22) | (with_reducible apply ev_q23) | (with_reducible apply ev_q24) | (with_reducible apply ev_q25) | (with_reducible apply ev_q26) | (with_reducible apply ev_q27) | (with_reducible apply ev_q28) | (with_reducible apply ev_q29) | (with_reducible apply ev_q30) | (with_reducible apply ev_q31) | (with_reducible apply ev_q32) | (with_reducible apply ev_q33) | (with_reducible apply ev_catX) | (with_reducible apply ev_inS) | (with_reducible apply ev_ninS) | (with_reducible apply ev_joinE) | (with_reducible apply ev_kget) | (((with_reducible apply ev_var); next => rfl)) | (((with_reducible apply ev_varO); next => rfl)) | (((with_reducible apply ev_varL); next => rfl)) | (((with_reducible apply ev_callD); next => rfl)) | (((with_reducible apply ev_dr); next => rfl)) | (with_reducible apply ev_max2) | (with_reducible apply ev_min2) | (with_reducible apply ev_index) | (with_reducible apply ev_eqD) | (with_reducible apply ev_neD) | (with_reducible apply ev_int) | (with_reducible apply ev_bl) | (with_reducible apply ev_non) | (with_reducible apply ev_ixT) | (with_reducible apply ev_call) | (with_reducible apply ev_eq) | (with_reducible apply ev_tup) | (with_reducible apply ev_in) | (with_reducible apply ev_ixL) | (with_reducible apply ev_ne) | (with_reducible apply ev_i0) | (with_reducible apply ev_ib) | (with_reducible apply ev_isi) | (with_reducible apply ev_isN) | (with_reducible apply ev_notN) | (with_reducible apply ev_isB) | (with_reducible apply ev_notB) | (with_reducible apply ev_slT2) | (with_reducible apply ev_catU) | (with_reducible apply ev_iC) | (with_reducible apply ev_ixS) | (with_reducible apply ev_slS) | (with_reducible apply ev_u) | (with_reducible apply ev_notV) | (with_reducible apply ev_if) | (with_reducible apply ev_len) | (with_reducible apply ev_lenS) | (with_reducible apply ev_tuple) | (with_reducible apply ev_all) | (with_reducible refine Ev.ofNew (el_lst ?_)) | (with_reducible refine Ev.ofNew (el_call ?_)) | (with_reducible refine Ev.ofNew (el_lc ?_)) | (with_reducible refine Ev.ofNew (el_list ?_)) | (with_reducible refine Ev.ofNew (el_cat ?_))))
  | ((with_reducible show Es _ _ _ _); (first | (with_reducible apply es_cons) | (with_reducible apply es_nil)))
  | ((with_reducible show Tv _ _ _ _); (first | (with_reducible apply tv_test) | (with_reducible apply tv_not) | (with_reducible apply tv_and) | (with_reducible apply tv_or) | (with_reducible apply tv_b) | (with_reducible apply tv_yes) | (with_reducible apply tv_tru)))
  | ((with_reducible show Eln _ _ _ _); (first | (with_reducible apply el_lst) | (with_reducible apply el_call) | (with_reducible apply el_lc) | (with_reducible apply el_list) | (with_reducible apply el_cat)))
  | ((with_reducible show Eo _ _ _ _); (first | (with_reducible apply eo_no) | (with_reducible apply eo_some)))
  | ((with_reducible show Iv _ _ _ _); (first | (with_reducible apply iv_tup) | (with_reducible apply iv_range1) | (with_reducible apply iv_str) | (with_reducible apply iv_enumT) | (((with_reducible apply iv_listV); next => rfl)) | (((with_reducible apply iv_listO); next => rfl)) | (with_reducible refine iv_listN (el_lst ?_)) | (with_reducible refine iv_listN (el_call ?_)) | (with_reducible refine iv_listN (el_lc ?_)) | (with_reducible refine iv_listN (el_list ?_)) | (with_reducible refine iv_listN (el_cat ?_))))
  | ((with_reducible show Gv _ _ _ _ _ _); (first | (with_reducible apply gv_name) | (with_reducible apply gv_tup2) | (with_reducible apply gv_tup3)))
  | ((with_reducible show seqO _ _ _ _); (first | (with_reducible apply o_nx) | (with_reducible apply o_rt) | (with_reducible apply o_rn) | (with_reducible apply o_bk) | (with_reducible apply o_ct)))
  | ((with_reducible show jnI _ _ _); (first | (with_reducible apply ji_nx) | (with_reducible apply ji_rt) | (with_reducible apply ji_rn) | (with_reducible apply ji_bk) | (with_reducible apply ji_ct)))
  | ((with_reducible show jnO _ _ _); (first | (with_reducible apply j_nx) | (with_reducible apply j_rt) | (with_reducible apply j_rn) | (with_reducible apply j_bk) | (with_reducible apply j_ct)))
  | ((with_reducible show lpO _ _ _ _); (first | (with_reducible apply l_rt) | (with_reducible apply l_rn) | (with_reducible apply l_ct) | (with_reducible apply l_nx')))
  | ((with_reducible show retO _ _); (first | (with_reducible apply r_rt) | (with_reducible apply r_nx)))
  | (with_reducible apply r_rn)
  | ((with_reducible show KIf _ _ _); (first | (((with_reducible apply k_ift); next => first | decide +kernel | rfl)) | (((with_reducible apply k_iff); next => first | decide +kernel | rfl))))
  | ((with_reducible show KEq _ _ _); (first | (with_reducible apply k_eqS) | (with_reducible apply k_eqI) | (with_reducible apply k_eqB) | (((with_reducible apply k_eqO); next => rfl; next => rfl; next => rfl; next => rfl))))
  | ((with_reducible show KDas _ _); (first | (with_reducible apply k_das_0) | (with_reducible apply k_das_1) | (with_reducible apply k_das_2) | (with_reducible apply k_das_3) | (with_reducible apply k_das_4) | (with_reducible apply k_das_5) | (with_reducible apply k_das_6) | (with_reducible apply k_das_7) | (with_reducible apply k_das_8) | (with_reducible apply k_das_9) | (with_reducible apply k_das_10) | (with_reducible apply k_das_11) | (with_reducible apply k_das_12) | (with_reducible apply k_das_13) | (with_reducible apply k_das_14) | (with_reducible apply k_das_15) | (with_reducible apply k_das_16)))
  | ((with_reducible show KIn _ _ _); (first | (with_reducible apply k_inT_0) | (with_reducible apply k_inL_0) | (with_reducible apply k_inT_1) | (with_reducible apply k_inL_1) | (with_reducible apply k_inT_2) | (with_reducible apply k_inL_2) | (with_reducible apply k_inT_3) | (with_reducible apply k_inL_3) | (with_reducible apply k_inT_4) | (with_reducible apply k_inL_4) | (with_reducible apply k_inT_5) | (with_reducible apply k_inL_5) | (with_reducible apply k_inT_6) | (with_reducible apply k_inL_6) | (with_reducible apply k_inT_7) | (with_reducible apply k_inL_7) | (with_reducible apply k_inT_8) | (with_reducible apply k_inL_8) | (with_reducible apply k_inT_9) | (with_reducible apply k_inL_9) | (with_reducible apply k_inT_10) | (with_reducible apply k_inL_10) | (with_reducible apply k_inT_11) | (with_reducible apply k_inL_11) | (with_reducible apply k_inT_12) | (with_reducible apply k_inL_12) | (with_reducible apply k_inN) | (((with_reducible apply k_inT); next => rfl; next => rfl)) | (((with_reducible apply k_inL); next => rfl; next => rfl))))
  | ((with_reducible show KEqD _ _ _); (first | (with_reducible apply k_eqIntsC) | (with_reducible apply k_eqInts0) | (with_reducible apply k_eqInts)))
  | (with_reducible apply k_put0)
  | ((with_reducible show KTy _ _ _); (first | (with_reducible apply k_ty_tup_tuple) | (with_reducible apply k_ty_tup_bool) | (with_reducible apply k_ty_tup_int) | (with_reducible apply k_ty_tup_str) | (with_reducible apply k_ty_tup_list) | (with_reducible apply k_ty_ls_tuple) | (with_reducible apply k_ty_ls_bool) | (with_reducible apply k_ty_ls_int) | (with_reducible apply k_ty_ls_str) | (with_reducible apply k_ty_ls_list) | (with_reducible apply k_ty_int_tuple) | (with_reducible apply k_ty_int_bool) | (with_reducible apply k_ty_int_int) | (with_reducible apply k_ty_int_str) | (with_reducible apply k_ty_int_list) | (with_reducible apply k_ty_str_tuple) | (with_reducible apply k_ty_str_bool) | (with_reducible apply k_ty_str_int) | (with_reducible apply k_ty_str_str) | (with_reducible apply k_ty_str_list) | (with_reducible apply k_ty_bl_tuple) | (with_reducible apply k_ty_bl_bool) | (with_reducible apply k_ty_bl_int) | (with_reducible apply k_ty_bl_str) | (with_reducible apply k_ty_bl_list) | (with_reducible apply k_ty_non_tuple) | (with_reducible apply k_ty_non_bool) | (with_reducible apply k_ty_non_int) | (with_reducible apply k_ty_non_str) | (with_reducible apply k_ty_non_list)))
  | ((with_reducible show KSl _ _ _ _); (first | (with_reducible apply k_sl_1) | (with_reducible apply k_sl_2) | (with_reducible apply k_sl_m2) | (with_reducible apply k_sl_m3) | (with_reducible apply k_sl_m4) | (with_reducible apply k_sl_m5)))
  | ((with_reducible show KCat _ _ _); (first | (with_reducible apply k_cat1) | (with_reducible apply k_cat2) | (with_reducible apply k_cat3) | (with_reducible apply k_cat23)))
  | ((with_reducible show KLen _ _); (first | (with_reducible apply k_lenT) | (with_reducible apply k_lenL)))
  | ((with_reducible show KSq _ _); (first | (with_reducible apply k_sqT) | (with_reducible apply k_sqL)))
  | (with_reducible apply k_i2s)
  | (with_reducible apply k_d)
  | ((with_reducible show KT _ _); (first | (with_reducible apply k_t) | (with_reducible apply k_tT)))
  | (with_reducible apply k_l)
  | (with_reducible apply k_i1)
  | (with_reducible apply k_i2)
  | (with_reducible apply k_b)
  | (with_reducible apply k_n)
  | (with_reducible apply k_tx)
  | (with_reducible apply k_t1)
  | (with_reducible apply k_ts)
  | with_reducible apply k_ix_0
  | with_reducible apply k_ix_1
  | ((with_reducible apply k_ixT2); next => rfl)
  | with_reducible apply gx_name
  | with_reducible apply gx_tup2
  | with_reducible apply gx_tup3
  | with_reducible refine (fun (p : Addr) => (?_ : seqO _ _ _ _))
  | with_reducible refine (fun (p : Addr) => (?_ : lpO _ _ _ _))
  | with_reducible refine (fun (p : Addr) => (?_ : liO _ _))
  | (with_reducible apply k_d2)
  | (with_reducible apply k_sg)
  | ((with_reducible show Sx _ _ _ _ _ _ _ _); (first | (with_reducible apply sx_seq) | (with_reducible apply sx_if) | (with_reducible apply sx_setX) | (with_reducible apply sx_set2X) | (with_reducible apply sx_dropX) | (with_reducible apply sx_raise) | (with_reducible refine sx_retN (el_lst ?_)) | (with_reducible refine sx_retN (el_call ?_)) | (with_reducible refine sx_retN (el_lc ?_)) | (with_reducible refine sx_retN (el_list ?_)) | (with_reducible refine sx_retN (el_cat ?_)) | (with_reducible apply sx_ret) | (with_reducible apply sx_retNone) | (with_reducible apply sx_ofA) | (with_reducible apply sx_ofD) | (with_reducible apply sx_ofN)))
  | ((with_reducible show sqX _ _ _ _ _ _ _ _); (first | (with_reducible apply q_nx) | (with_reducible apply q_rt) | (with_reducible apply q_rn) | (with_reducible apply q_bk) | (with_reducible apply q_ct)))
  | ((with_reducible show liO _ _); (first | (with_reducible apply li_nx) | (with_reducible apply li_bk) | (with_reducible apply li_ct)))
  | (with_reducible apply rx_rt)
  | (with_reducible apply wx_rt))
local macro_rules | `(tactic| walk_at "ds") => `(tactic| repeat walk_at "ds1")
local macro_rules | `(tactic| walk_at "d0") => `(tactic| (try simp only [cx_K, cx_K', List.map_cons, List.map_nil]))
local macro_rules | `(tactic| walk_at "da") => `(tactic| repeat first | walk_at "ds1" | (with_reducible apply sv_cut) | (with_reducible apply sx_cut))
section
variable {P : Program} {w : World} {K : PySem.W.Frag} {mg : Str → Option Value} {base : Heap}
def pre_it : List Vl → (Vl → Prop) → Prop := fun xs R => ∃ (i : Int), xs = [.da (.int i)] ∧ R (.da (.bl true))
theorem ok_Lint (T : Top K mg) : FnOk P w K mg base CX0 1 T.f_Lint T.fd_Lint ["_law_value"] (sp_pu K pre_it) := by
  refine T.F_Lint.ok sc_Lint (fun vs H Q E h => ?_) (fun cdv A outer s H vs Q E hr h => ⟨_, (pss_one (ps_ret (pe_and (pe_callB (r := rIsi K) call_isi (by rfl) T.b_isinstance (by decide +kernel) (pa_cons (pv 0) (pa_cons (pe_bltn (v := .ty "int") (u := .type "int") (by rfl) T.b_int (by decide +kernel) rfl) pa_nil))) (pe_one (pe_not (pe_callB (r := rIsi K) call_isi (by rfl) T.b_isinstance (by decide +kernel) (pa_cons (pv 0) (pa_cons (pe_bltn (v := .ty "bool") (u := .type "bool") (by rfl) T.b_bool (by decide +kernel) rfl) pa_nil)))))))), fin_pu (N := n_Lint) (fun xs R hp e he => ?_) h⟩)
  · obtain ⟨xs, R, hx, ⟨i, rfl, _⟩, _⟩ := h
    exact hx.len
  · obtain ⟨i, rfl, q⟩ := hp
    rcases he with _ | he
    cases he
    walk_at "d0"
    walk_at "ds"
    refine ev_andD (a := true) (c := true) ?_ (fun _ => ?_) q
    · walk_at "ds"
      rfl
    · walk_at "ds"
      rfl
theorem ev_find2 {env : Evn} {S : Vl → Prop} {to t1 t2 : TE} (h : Ev K env to fun x => KTs x fun a => Ev K env t1 fun y => KTs y fun b => Ev K env t2 fun z => KI1 z fun i => S (.da (.int (fndFrom a b i)))) : Ev K env (tBM K "str" rFind2 to (tCons t1 (tCons t2 tNil))) S := fun H0 dl hs σ H Q E k =>
  h H0 dl hs σ H _ E fun x v H1 hx m q r => by
    obtain ⟨a, rfl, hx⟩ := hx
    have e1 := vl_atm r rfl
    subst e1
    refine ⟨rfl, hx H0 dl hs σ H1 _ (E.go m q) fun y u H2 hy m2 q2 r2 => ?_⟩
    obtain ⟨b, rfl, hy⟩ := hy
    have e2 := vl_atm r2 rfl
    subst e2
    refine hy H0 dl hs σ H2 _ (E.go (m.trans m2) q2) fun z w H3 hz m3 q3 r3 => ?_
    obtain ⟨i, rfl, s⟩ := hz
    have e3 := vl_atm r3 rfl
    subst e3
    exact ⟨a, b, i, rfl, rfl, k _ _ H3 s (m.trans (m2.trans m3)) q3 (.int _)⟩
theorem cut_any {t : List Nat} (ht : ∀ c ∈ t, c ∈ SG) (lo hi : Option Int) : ∃ u : List Nat, cutS (tx t) lo hi = tx u ∧ u.length ≤ t.length ∧ ∀ c ∈ u, c ∈ SG := by
  refine ⟨_, tx_cut t lo hi, ?_, fun c hc => ht c (List.mem_of_mem_drop (List.mem_of_mem_take hc))⟩
  rw [List.length_take, List.length_drop]
  omega
theorem sg_app {a b : List Nat} (ha : ∀ c ∈ a, c ∈ SG) (hb : ∀ c ∈ b, c ∈ SG) : ∀ c ∈ a ++ b, c ∈ SG := fun c hc => (List.mem_append.mp hc).elim (ha c) (hb c)
theorem sg_one {a : Nat} (ha : a ∈ SG) : ∀ c ∈ [a], c ∈ SG := fun c hc => by rw [List.mem_singleton.mp hc]; exact ha
def pre_spl : List Vl → (Vl → Prop) → Prop := fun xs R => ∃ (t : List Nat), xs = [.da (.str (tx t))] ∧ (∀ c ∈ t, c ∈ SG) ∧ t.length ≤ 9000 ∧ ∀ u : List Nat, (∀ c ∈ u, c ∈ SG) → u.length ≤ 2 * t.length + 40 → R (.da (.str (tx u)))
set_option maxHeartbeats 4000000 in
theorem ok_Lspoilt (T : Top K mg) : FnOk P w K mg base CX0 2 T.f_Lspoilt T.fd_Lspoilt ["_law_draw_here", "_law_text"] (sp_dr K pre_spl) := by
  refine T.F_Lspoilt.ok sc_Lspoilt (fun vs H Q E h => ?_) (fun cdv A outer s H vs Q E hr h => ⟨_, (pss_cons (ps_set (i := 2) sc_Lspoilt.nd rfl (Or.inl rfl) pe_str)
       (pss_cons (ps_set (i := 3) sc_Lspoilt.nd rfl (Or.inl rfl) (pe_ix ix_str pe_str (pe_call (ok_Lnext T) (hr.mono (by decide)) (by rfl) T.g_Lnext T.F_Lnext.kp T.B_Lnext .nil pass0 (pa_cons (pv 0) (pa_cons pe_int pa_nil))) (fun _ _ => rfl)))
       (pss_cut (ps_if (pt_cmpR op_eq (pe_call (ok_Lnext T) (hr.mono (by decide)) (by rfl) T.g_Lnext T.F_Lnext.kp T.B_Lnext .nil pass0 (pa_cons (pv 0) (pa_cons pe_int pa_nil))) pe_int (nomark _)) (pss_one (ps_set (i := 3) sc_Lspoilt.nd rfl (Or.inl rfl) (pe_ix ix_str (pe_call0 (ok_Lsigns T) (hr.mono (by decide)) (by rfl) T.g_Lsigns T.F_Lsigns.kp T.B_Lsigns .nil pass0) (pe_call (ok_Lnext T) (hr.mono (by decide)) (by rfl) T.g_Lnext T.F_Lnext.kp T.B_Lnext .nil pass0 (pa_cons (pv 0) (pa_cons pe_int pa_nil))) (fun _ _ => rfl)))) pss_nil)
       (pss_cons (ps_set (i := 4) sc_Lspoilt.nd rfl (Or.inl rfl) (pe_call (ok_Lnext T) (hr.mono (by decide)) (by rfl) T.g_Lnext T.F_Lnext.kp T.B_Lnext .nil pass0 (pa_cons (pv 0) (pa_cons (pe_op op_add (pe_callB call_len_str (by rfl) T.b_len PySem.boot_len (pa_cons (pv 1) pa_nil)) pe_int) pa_nil))))
       (pss_cut (ps_if (PW.pt (pw_and (pt_cmpR op_eq (pe_call (ok_Lnext T) (hr.mono (by decide)) (by rfl) T.g_Lnext T.F_Lnext.kp T.B_Lnext .nil pass0 (pa_cons (pv 0) (pa_cons pe_int pa_nil))) pe_int (nomark _)) (pw_and1 (pt_cmpR op_ge (pe_bm PySem.F.plainAttrs_str PySem.F.slot_str_find PySem.F.type_str_find mt_find2 (pv 1) (pa_cons pe_str (pa_cons (pv 4) pa_nil))) pe_int (nomark _))))) (pss_one (ps_set (i := 4) sc_Lspoilt.nd rfl (Or.inl rfl) (pe_op op_add (pe_bm PySem.F.plainAttrs_str PySem.F.slot_str_find PySem.F.type_str_find mt_find2 (pv 1) (pa_cons pe_str (pa_cons (pv 4) pa_nil))) pe_int))) pss_nil)
       (pss_cons (ps_set (i := 5) sc_Lspoilt.nd rfl (Or.inl rfl) (pe_call (ok_Lnext T) (hr.mono (by decide)) (by rfl) T.g_Lnext T.F_Lnext.kp T.B_Lnext .nil pass0 (pa_cons (pv 0) (pa_cons pe_int pa_nil))))
       (pss_cons (ps_if (pt_cmpR op_lt (pv 5) pe_int (nomark _)) (pss_one (ps_ret (pe_op op_add_str (pe_op op_add_str (pe_slice sl_str (pv 1) po_none (po_some (pv 4))) (pv 3)) (pe_slice sl_str (pv 1) (po_some (pv 4)) po_none)))) pss_nil)
       (pss_cons (ps_if (pt_cmpR op_eq (pv 5) pe_int (nomark _)) (pss_one (ps_ret (pe_op op_add_str (pe_slice sl_str (pv 1) po_none (po_some (pv 4))) (pe_slice sl_str (pv 1) (po_some (pe_op op_add (pv 4) pe_int)) po_none)))) pss_nil)
       (pss_cons (ps_if (pt_cmpR op_lt (pv 5) pe_int (nomark _)) (pss_one (ps_ret (pe_op op_add_str (pe_op op_add_str (pe_slice sl_str (pv 1) po_none (po_some (pv 4))) (pv 3)) (pe_slice sl_str (pv 1) (po_some (pe_op op_add (pv 4) pe_int)) po_none)))) pss_nil)
       (pss_cons (ps_if (pt_cmpR op_eq (pv 5) pe_int (nomark _)) (pss_one (ps_ret (pe_slice sl_str (pv 1) po_none (po_some (pv 4))))) pss_nil)
       (pss_cons (ps_if (pt_cmpR op_eq (pv 5) pe_int (nomark _)) (pss_one (ps_ret (pe_op op_add_str (pv 1) pe_str))) pss_nil)
       (pss_cons (ps_set (i := 6) sc_Lspoilt.nd rfl (Or.inl rfl) (pe_ix ix_str (pv 2) (pe_call (ok_Lnext T) (hr.mono (by decide)) (by rfl) T.g_Lnext T.F_Lnext.kp T.B_Lnext .nil pass0 (pa_cons (pv 0) (pa_cons pe_int pa_nil))) (fun _ _ => rfl)))
       (pss_cons (ps_for PassesOwn.never rfl (pi_range1 rfl T.b_range (pa_cons (pe_op op_add pe_int (pe_call (ok_Lnext T) (hr.mono (by decide)) (by rfl) T.g_Lnext T.F_Lnext.kp T.B_Lnext .nil pass0 (pa_cons (pv 0) (pa_cons pe_int pa_nil)))) pa_nil)) (pg_name (i := 7) sc_Lspoilt.nd rfl (Or.inl rfl))
       (pss_one (ps_set (i := 6) sc_Lspoilt.nd rfl (Or.inl rfl) (pe_op op_add_str (pv 6) (pe_ix ix_str (pv 2) (pe_call (ok_Lnext T) (hr.mono (by decide)) (by rfl) T.g_Lnext T.F_Lnext.kp T.B_Lnext .nil pass0 (pa_cons (pv 0) (pa_cons pe_int pa_nil))) (fun _ _ => rfl))))))
       (pss_one (ps_ret (pe_op op_add_str (pe_op op_add_str (pe_op op_add_str (pe_op op_add_str (pe_slice sl_str (pv 1) po_none (po_some (pv 4))) pe_str) (pv 6)) (pe_ix (r := rIxL K) ix_list (pe_lst (pa_cons pe_str (pa_cons pe_str (pa_cons pe_str (pa_cons pe_str (pa_cons pe_str pa_nil)))))) (pe_call (ok_Lnext T) (hr.mono (by decide)) (by rfl) T.g_Lnext T.F_Lnext.kp T.B_Lnext .nil pass0 (pa_cons (pv 0) (pa_cons pe_int pa_nil))) (fun _ _ => rfl))) (pe_slice sl_str (pv 1) (po_some (pv 4)) po_none))))))))))))))))), fin_dr (N := n_Lspoilt) (fun xs R hp e he => ?_) h⟩)
  · obtain ⟨d, l, ws, xs, R, rfl, _, hx, ⟨t, rfl, _⟩, _⟩ := h
    rw [List.length_cons, hx.len]
    rfl
  · obtain ⟨t, rfl, ht, hl, q⟩ := hp
    rcases he with _ | he
    cases he
    obtain ⟨LL, hLL⟩ : ∃ LL : List Nat, LL = [97, 98, 99, 100, 101, 102, 103, 104, 105, 106, 107, 108, 109, 110, 111, 112, 113, 114, 115, 116, 117, 118, 119, 120, 121, 122, 48, 49, 50, 51, 52, 53, 54, 55, 56, 57, 95] := ⟨_, rfl⟩
    have l37 : LL.length = 37 := by rw [hLL]; rfl
    have lsg : ∀ c ∈ LL, c ∈ SG := by rw [hLL]; decide
    walk_at "d0"
    walk_at "ds"
    rw [← hLL]
    refine k_dr_next (by decide) (fun r h0 h1 => ?_)
    obtain ⟨c, hc, hm⟩ := sig_at (L := [92, 123, 125, 124, 110, 116, 95, 57, 97, 90, 45, 32, 10, 9]) h0 h1
    have hcs : c ∈ SG := by
      have : ∀ y ∈ [92, 123, 125, 124, 110, 116, 95, 57, 97, 90, 45, 32, 10, 9], y ∈ SG := by decide
      exact this _ hm
    walk_at "ds"
    refine k_is' (toL (by decide)) hc ?_
    walk_at "ds"
    refine sv_joinI (fun e => ∃ c : Nat, e = [some .dr, some (.vl (.str (tx t))), some (.vl (.str (tx LL))), some (.vl (.str (tx [c]))), none, none, none, none] ∧ c ∈ SG) ?_ (fun e hE => ?_)
    · walk_at "ds"
      refine k_dr_next (by decide) (fun r h0 h1 => ?_)
      walk_at "ds"
      refine k_if (fun _ => ?_) (fun _ => ?_)
      · walk_at "ds"
        refine ev_sgs ?_
        walk_at "ds"
        refine k_dr_next (by decide) (fun r h0 h1 => ?_)
        obtain ⟨c2, hc2, hm2⟩ := sig_at (L := SG) h0 (by rw [SG_len]; exact h1)
        walk_at "ds"
        refine k_is' (toL (by rw [SG_len]; decide)) hc2 ?_
        walk_at "ds"
        refine ⟨_, ?_, c2, rfl, hm2⟩
        walk_at "wk"
      · walk_at "ds"
        refine ⟨_, ?_, c, rfl, hcs⟩
        walk_at "wk"
    clear hc hm hcs
    obtain ⟨c, rfl, hcs⟩ := hE
    walk_at "ds"
    refine k_ls (txL (by omega)) ?_
    walk_at "ds"
    refine k_dr_next (by rw [tx_len]; omega) (fun at0 a0 a1 => ?_)
    walk_at "ds"
    refine sv_joinI (fun e => ∃ z : Int, e = [some .dr, some (.vl (.str (tx t))), some (.vl (.str (tx LL))), some (.vl (.str (tx [c]))), some (.vl (.int z)), none, none, none]) ?_ (fun e hE => ?_)
    · walk_at "ds"
      refine k_dr_next (by decide) (fun r h0 h1 => ?_)
      walk_at "ds"
      refine k_if (fun _ => ?_) (fun _ => ?_)
      · walk_at "ds"
        refine ev_find2 ?_
        walk_at "ds"
        refine k_if (fun _ => ?_) (fun _ => ?_)
        · walk_at "ds"
          refine ev_find2 ?_
          walk_at "ds"
          refine ⟨_, ?_, fndFrom (tx t) (tx [123]) at0 + 1, rfl⟩
          walk_at "wk"
        · walk_at "ds"
          refine ⟨_, ?_, at0, rfl⟩
          walk_at "wk"
      · walk_at "ds"
        refine ⟨_, ?_, at0, rfl⟩
        walk_at "wk"
    clear a0 a1 at0
    obtain ⟨z, rfl⟩ := hE
    obtain ⟨ua, eua, la, sa⟩ := cut_any ht none (some z)
    obtain ⟨ub, eub, lb, sb⟩ := cut_any ht (some z) none
    obtain ⟨uc, euc, lc, sc⟩ := cut_any ht (some (z + 1)) none
    have lt := txL (show t.length ≤ 16000000 by omega)
    walk_at "ds"
    refine k_dr_next (by decide) (fun r h0 h1 => ?_)
    walk_at "ds"
    refine k_if (fun _ => ?_) (fun _ => ?_)
    · walk_at "ds"
      refine ⟨lt, ?_⟩
      rw [eua]
      walk_at "ds"
      refine k_x2 (toL (by simp only [List.length_append, List.length_cons, List.length_nil]; omega)) ?_
      walk_at "ds"
      refine ⟨lt, ?_⟩
      rw [eub]
      walk_at "ds"
      refine k_x2 (toL (by simp only [List.length_append, List.length_cons, List.length_nil]; omega)) ?_
      walk_at "ds"
      exact q _ (sg_app (sg_app sa (sg_one hcs)) sb) (by simp only [List.length_append, List.length_cons, List.length_nil]; omega)
    walk_at "ds"
    refine k_if (fun _ => ?_) (fun _ => ?_)
    · walk_at "ds"
      refine ⟨lt, ?_⟩
      rw [eua]
      walk_at "ds"
      refine ⟨lt, ?_⟩
      rw [euc]
      walk_at "ds"
      refine k_x2 (toL (by omega)) ?_
      walk_at "ds"
      exact q _ (sg_app sa sc) (by rw [List.length_append]; omega)
    walk_at "ds"
    refine k_if (fun _ => ?_) (fun _ => ?_)
    · walk_at "ds"
      refine ⟨lt, ?_⟩
      rw [eua]
      walk_at "ds"
      refine k_x2 (toL (by simp only [List.length_append, List.length_cons, List.length_nil]; omega)) ?_
      walk_at "ds"
      refine ⟨lt, ?_⟩
      rw [euc]
      walk_at "ds"
      refine k_x2 (toL (by simp only [List.length_append, List.length_cons, List.length_nil]; omega)) ?_
      walk_at "ds"
      exact q _ (sg_app (sg_app sa (sg_one hcs)) sc) (by simp only [List.length_append, List.length_cons, List.length_nil]; omega)
    walk_at "ds"
    refine k_if (fun _ => ?_) (fun _ => ?_)
    · walk_at "ds"
      refine ⟨lt, ?_⟩
      rw [eua]
      walk_at "ds"
      exact q _ sa (by omega)
    walk_at "ds"
    refine k_if (fun _ => ?_) (fun _ => ?_)
    · walk_at "ds"
      refine k_x2 (toL (by simp only [List.length_append, List.length_cons, List.length_nil]; omega)) ?_
      walk_at "ds"
      exact q _ (sg_app ht (by decide)) (by simp only [List.length_append, List.length_cons, List.length_nil]; omega)
    walk_at "ds"
    refine k_dr_next (by decide) (fun r2 h0 h1 => ?_)
    obtain ⟨n0, hn0, hm0⟩ := sig_at (L := LL) h0 (by rw [l37]; omega)
    walk_at "ds"
    refine k_is' (toL (by rw [l37]; decide)) hn0 ?_
    walk_at "ds"
    refine k_dr_next (by decide) (fun r3 h2 h3 => ?_)
    walk_at "ds"
    refine k_r1 ⟨by omega, by omega⟩ ?_
    refine k_forI (fun i e => ∃ n : List Nat, e = [some .dr, some (.vl (.str (tx t))), some (.vl (.str (tx LL))), some (.vl (.str (tx [c]))), some (.vl (.int z)), some (.vl (.int r)), some (.vl (.str (tx n))), none] ∧ (∀ x ∈ n, x ∈ SG) ∧ n.length = i + 1) ⟨_, ?_, [n0], rfl, sg_one (lsg _ hm0), rfl⟩ (fun _ _ _ => trivial) (fun i d e hd hI => ?_) (fun e hI => ?_)
    · walk_at "wk"
    · obtain ⟨n, rfl, hn, hln⟩ := hI
      have hi := (List.getElem?_eq_some_iff.mp hd).1
      rw [List.length_map, List.length_range] at hi
      obtain rfl : d = .int (i : Nat) := by
        rw [List.getElem?_map, List.getElem?_range hi] at hd
        cases hd; rfl
      walk_at "ds"
      refine k_dr_next (by decide) (fun r4 h4 h5 => ?_)
      obtain ⟨c2, hc2, hm2⟩ := sig_at (L := LL) h4 (by rw [l37]; omega)
      walk_at "ds"
      refine k_is' (toL (by rw [l37]; decide)) hc2 ?_
      walk_at "ds"
      refine k_x2 (toL (by simp only [List.length_append, List.length_cons, List.length_nil]; omega)) ?_
      walk_at "ds"
      refine ⟨_, ?_, n ++ [c2], rfl, sg_app hn (sg_one (lsg _ hm2)), by rw [List.length_append, List.length_singleton]; omega⟩
      walk_at "wk"
    · obtain ⟨n, rfl, hn, hln⟩ := hI
      rw [List.length_map, List.length_range] at hln
      refine ⟨.of rfl, ?_⟩
      walk_at "ds"
      refine ⟨lt, ?_⟩
      rw [eua]
      walk_at "ds"
      refine k_x2 (toL (by simp only [List.length_append, List.length_cons, List.length_nil]; omega)) ?_
      walk_at "ds"
      refine k_x2 (toL (by simp only [List.length_append, List.length_cons, List.length_nil]; omega)) ?_
      walk_at "ds"
      refine k_dr_next (by decide) (fun r4 h4 h5 => ?_)
      obtain ⟨j, ej, hj, hat⟩ := atI_pos (s := [Da.str (tx [125]), .str (tx [124]), .str (tx [124, 97, 125]), .str (tx []), .str (tx [45, 125])]) h4 h5
      have hx : ∃ x : List Nat, [Da.str (tx [125]), .str (tx [124]), .str (tx [124, 97, 125]), .str (tx []), .str (tx [45, 125])][j] = .str (tx x) ∧ x.length ≤ 3 ∧ ∀ c ∈ x, c ∈ SG := by
        match j, hj with
        | 0, _ => exact ⟨_, rfl, by decide, by decide⟩
        | 1, _ => exact ⟨_, rfl, by decide, by decide⟩
        | 2, _ => exact ⟨_, rfl, by decide, by decide⟩
        | 3, _ => exact ⟨_, rfl, by decide, by decide⟩
        | 4, _ => exact ⟨_, rfl, by decide, by decide⟩
      obtain ⟨x, ex, lx, sx⟩ := hx
      rw [ex] at hat
      walk_at "ds"
      refine ⟨_, hat, ?_⟩
      walk_at "ds"
      refine k_x2 (toL (by simp only [List.length_append, List.length_cons, List.length_nil]; omega)) ?_
      walk_at "ds"
      refine ⟨lt, ?_⟩
      rw [eub]
      walk_at "ds"
      refine k_x2 (toL (by simp only [List.length_append, List.length_cons, List.length_nil]; omega)) ?_
      walk_at "ds"
      exact q _ (sg_app (sg_app (sg_app (sg_app sa (by decide)) hn) sx) sb) (by simp only [List.length_append, List.length_cons, List.length_nil]; omega)
end
end My
namespace My
open PySem L2
local macro_rules | `(tactic| walk_at "rd") => `(tactic| simp only [tSeq, tNext, tAsg, tOp, tUn, tC, tVar, gName, gSub, tCons, tNil, tCB, tIfS, tIf, tTest, tB, tAnd, tOr, tNot, tAndV, tOrV, tNotV, tRet, tRetN, tDrop, tLst, tTup, tCall, tSl, tNoPart, tPart, tM0, tM1, tBM, tBM0, tYes, tFor_eq, tLc_eq, iList, iRng1, iRng2, iStr, sg_tx, c_empty, rstrip_sign, find_sign, cut_last, cut_to, cut_from, cut_mid, cut_to_lit, cut_from_lit, and_assoc, flat_rep, List.length_replicate, tx_len, tx_eq, tx_app, tx_cps, rI0, rI, rU, rEq, rNe, rIxL, rIxS, rIxT, rSetL, rAppend, rPopAt, rSlS, rSlL, rIn, rMulS, rLtD, rJoin, rLenQ, rListOf,  tRevS, 
  scal, L2.start, List.map_cons, List.map_nil, List.length_cons, List.length_nil, List.replicate, List.cons_append, List.nil_append, List.append_nil,
  List.getElem?_cons_zero, List.getElem?_cons_succ, List.set_cons_zero, List.set_cons_succ, Nat.sub_zero, Nat.reduceSub, Nat.reduceAdd, Nat.zero_add, id_eq, Int.reduceToNat, exists_or,
  V.int.injEq, V.str.injEq, V.bl.injEq, V.ref.injEq, Option.some.injEq, List.cons.injEq, exists_and_left, exists_eq_left', exists_eq_left, exists_eq, exists_eq', and_true, true_and, reduceCtorEq, false_and, and_false, exists_false, false_or, or_false, decide_eq_true_eq, Bool.not_eq_true', decide_eq_false_iff_not, Bool.not_not, Bool.false_eq_true, ↓reduceIte, if_true, if_false])

local macro_rules | `(tactic| walk_at "ne") => `(tactic| first | assumption | (refine Ne.symm ?_; assumption) | exact (ne_of_none (by assumption) (by assumption)) | exact (ne_of_none (by assumption) (by assumption)).symm)
local macro_rules | `(tactic| walk_at "hp") => `(tactic| first | assumption | exact upd_same | exact (upd_ne (by walk_at "ne")).trans (by walk_at "hp"))
local macro_rules | `(tactic| walk_at "st1") => `(tactic| first
  | refine ⟨_, Or.inl (Or.inl (by walk_at "hp")), ?_⟩
  | refine ⟨_, Or.inl (Or.inl (Or.inl (by walk_at "hp"))), ?_⟩
  | refine ⟨_, (show _ = some (HO.lst _) by walk_at "hp"), ?_⟩
  | refine ⟨_, rfl, ?_⟩
  | refine ⟨(rfl : ("str" : String) = "str"), ?_⟩
  | refine ⟨Or.inr ⟨by decide, by decide⟩, ?_⟩
  | refine ⟨⟨by decide, by decide⟩, ?_⟩
  | refine ⟨by decide, ?_⟩
  | refine ⟨by assumption, ?_⟩)
local macro_rules | `(tactic| walk_at "st") => `(tactic| repeat walk_at "st1")
local macro_rules | `(tactic| walk_at "go") => `(tactic| repeat first | walk_at "st1" | walk_at "rd")
local macro_rules | `(tactic| walk_at "wk") => `(tactic| repeat first | exact Wk.nil | apply Wk.yes | apply Wk.no)
local macro_rules | `(tactic| walk_at "ds1") => `(tactic| first
  | ((with_reducible show Sv _ _ _ _); (first | (with_reducible apply sv_set2) | (with_reducible apply sv_seq) | (with_reducible apply sv_if) | (((with_reducible apply sv_retO); next => rfl)) | (with_reducible refine sv_retN (el_lst ?_)) | (with_reducible refine sv_retN (el_call ?_)) | (with_reducible refine sv_retN (el_lc ?_)) | (with_reducible refine sv_retN (el_list ?_)) | (with_reducible refine sv_retN (el_cat ?_)) | (with_reducible apply sv_ret) | (with_reducible refine sv_setN (el_lst ?_)) | (with_reducible refine sv_setN (el_call ?_)) | (with_reducible refine sv_setN (el_lc ?_)) | (with_reducible refine sv_setN (el_list ?_)) | (with_reducible refine sv_setN (el_cat ?_)) | (with_reducible refine sv_setN (el_callD rfl ?_)) | (((with_reducible apply sv_putD); next => rfl)) | (with_reducible apply sv_set) | (((with_reducible apply sv_app); next => rfl)) | (((with_reducible apply sv_ext); next => rfl)) | (((with_reducible apply sv_put); next => rfl)) | (with_reducible apply sv_for) | (with_reducible apply sv_nil) | (with_reducible apply sv_retNone) | (with_reducible apply sv_drop)))
  | ((with_reducible show Ev _ _ _ _); (first | (with_reducible apply ev_q0) | (with_reducible apply ev_q1) | (with_reducible apply ev_q2) | (with_reducible apply ev_q3) | (with_reducible apply ev_q4) | (with_reducible apply ev_q5) | (with_reducible apply ev_q6) | (with_reducible apply ev_q7) | (with_reducible apply ev_q8) | (with_reducible apply ev_q9) | (with_reducible apply ev_q10) | (with_reducible apply ev_q11) | (with_reducible apply ev_q12) | (with_reducible apply ev_q13) | (with_reducible apply ev_q14) | (with_reducible apply ev_q15) | (with_reducible apply ev_q16) | (with_reducible apply ev_q17) | (with_reducible apply ev_q18) | (with_reducible apply ev_q19) | (with_reducible apply ev_q20) | (with_reducible apply ev_q21) | (with_reducible apply ev_q22) | (with_reducible apply ev_q23) | (with_reducible apply ev_q24) | (with_reducible apply ev_q25) | (with_reducible apply ev_q26) | (with_reducible apply ev_q27) | (with_reducible apply ev_q28) | (with_reducible apply ev_q29) | (with_reducible apply ev_q30) | (with_reducible apply ev_q31) | (with_reducible apply ev_q32) | (with_reducible apply ev_q33) | (with_reducible apply ev_catX) | (with_reducible apply ev_inS) | (with_reducible apply ev_ninS) | (with_reducible apply ev_joinE) | (with_reducible apply ev_kget) | (((with_reducible apply ev_var); next => rfl)) | (((with_reducible apply ev_varO); next => rfl)) | (((with_reducible apply ev_varL); next => rfl)) | (((with_reducible apply ev_callD); next => rfl)) | (((with_reducible apply ev_dr); next => rfl)) | (with_reducible apply ev_max2) | (with_reducible apply ev_min2) | (with_reducible apply ev_index) | (with_reducible apply ev_eqD) | (with_reducible apply ev_neD) | (with_reducible apply ev_int) | (with_reducible apply ev_bl) | (with_reducible apply ev_non) | (with_reducible apply ev_ixT) | (with_reducible apply ev_call) | (with_reducible apply ev_eq) | (with_reducible apply ev_tup) | (with_reducible apply ev_in) | (with_reducible apply ev_ixL) | (with_reducible apply ev_ne) | (with_reducible apply ev_i0) | (with_reducible apply ev_ib) | (with_reducible apply ev_isi) | (with_reducible apply ev_isN) | (with_reducible apply ev_notN) | (with_reducible apply ev_isB) | (with_reducible apply ev_notB) | (with_reducible apply ev_slT2) | (with_reducible apply ev_catU) | (with_reducible apply ev_iC) | (with_reducible apply ev_ixS) | (with_reducible apply ev_slS) | (with_reducible apply ev_u) | (with_reducible apply ev_notV) | (with_reducible apply ev_if) | (with_reducible apply ev_len) | (with_reducible apply ev_lenS) | (with_reducible apply ev_tuple) | (with_reducible apply ev_all) | (with_reducible refine Ev.ofNew (el_lst ?_)) | (with_reducible refine Ev.ofNew (el_call ?_)) | (with_reducible refine Ev.ofNew (el_lc ?_)) | (with_reducible refine Ev.ofNew (el_list ?_)) | (with_reducible refine Ev.ofNew (el_cat ?_))))
  | ((with_reducible show Es _ _ _ _); (first | (with_reducible apply es_cons) | (with_reducible apply es_nil)))
  | ((with_reducible show Tv _ _ _ _); (first | (with_reducible apply tv_test) | (with_reducible apply tv_not) | (with_reducible apply tv_and) | (with_reducible apply tv_or) | (with_reducible apply tv_b) | (with_reducible apply tv_yes) | (with_reducible apply tv_tru)))
  | ((with_reducible show Eln _ _ _ _); (first | (with_reducible apply el_lst) | (with_reducible apply el_call) | (with_reducible apply el_lc) | (with_reducible apply el_list) | (with_reducible apply el_cat)))
  | ((with_reducible show Eo _ _ _ _); (first | (with_reducible apply eo_no) | (with_reducible apply eo_some)))
  | ((with_reducible show Iv _ _ _ _); (first | (with_reducible apply iv_tup) | (with_reducible apply iv_range1) | (with_reducible apply iv_str) | (with_reducible apply iv_enumT) | (((with_reducible apply iv_listV); next => rfl)) | (((with_reducible apply iv_listO); next => rfl)) | (with_reducible refine iv_listN (el_lst ?_)) | (with_reducible refine iv_listN (el_call ?_)) | (with_reducible refine iv_listN (el_lc ?_)) | (with_reducible refine iv_listN (el_list ?_)) | (with_reducible refine iv_listN (el_cat ?_))))
  | ((with_reducible show Gv _ _ _ _ _ _); (first | (with_reducible apply gv_name) | (with_reducible apply gv_tup2) | (with_reducible apply gv_tup3)))
  | ((with_reducible show seqO _ _ _ _); (first | (with_reducible apply o_nx) | (with_reducible apply o_rt) | (with_reducible apply o_rn) | (with_reducible apply o_bk) | (with_reducible apply o_ct)))
  | ((with_reducible show jnI _ _ _); (first | (with_reducible apply ji_nx) | (with_reducible apply ji_rt) | (with_reducible apply ji_rn) | (with_reducible apply ji_bk) | (with_reducible apply ji_ct)))
  | ((with_reducible show jnO _ _ _); (first | (with_reducible apply j_nx) | (with_reducible apply j_rt) | (with_reducible apply j_rn) | (with_reducible apply j_bk) | (with_reducible apply j_ct)))
  | ((with_reducible show lpO _ _ _ _); (first | (with_reducible apply l_rt) | (with_reducible apply l_rn) | (with_reducible apply l_ct) | (with_reducible apply l_nx')))
  | ((with_reducible show retO _ _); (first | (with_reducible apply r_rt) | (with_reducible apply r_nx)))
  | (with_reducible apply r_rn)
  | ((with_reducible show KIf _ _ _); (first | (((with_reducible apply k_ift); next => first | decide +kernel | rfl)) | (((with_reducible apply k_iff); next => first | decide +kernel | rfl))))
  | ((with_reducible show KEq _ _ _); (first | (with_reducible apply k_eqS) | (with_reducible apply k_eqI) | (with_reducible apply k_eqB) | (((with_reducible apply k_eqO); next => rfl; next => rfl; next => rfl; next => rfl))))
  | ((with_reducible show KDas _ _); (first | (with_reducible apply k_das_0) | (with_reducible apply k_das_1) | (with_reducible apply k_das_2) | (with_reducible apply k_das_3) | (with_reducible apply k_das_4) | (with_reducible apply k_das_5) | (with_reducible apply k_das_6) | (with_reducible apply k_das_7) | (with_reducible apply k_das_8) | (with_reducible apply k_das_9) | (with_reducible apply k_das_10) | (with_reducible apply k_das_11) | (with_reducible apply k_das_12) | (with_reducible apply k_das_13) | (with_reducible apply k_das_14) | (with_reducible apply k_das_15) | (with_reducible apply k_das_16)))
  | ((with_reducible show KIn _ _ _); (first | (with_reducible apply k_inT_0) | (with_reducible apply k_inL_0) | (with_reducible apply k_inT_1) | (with_reducible apply k_inL_1) | (with_reducible apply k_inT_2) | (with_reducible apply k_inL_2) | (with_reducible apply k_inT_3) | (with_reducible apply k_inL_3) | (with_reducible apply k_inT_4) | (with_reducible apply k_inL_4) | (with_reducible apply k_inT_5) | (with_reducible apply k_inL_5) | (with_reducible apply k_inT_6) | (with_reducible apply k_inL_6) | (with_reducible apply k_inT_7) | (with_reducible apply k_inL_7) | (with_reducible apply k_inT_8) | (with_reducible apply k_inL_8) | (with_reducible apply k_inT_9) | (with_reducible apply k_inL_9) | (with_reducible apply k_inT_10) | (with_reducible apply k_inL_10) | (with_reducible apply k_inT_11) | (with_reducible apply k_inL_11) | (with_reducible apply k_inT_12) | (with_reducible apply k_inL_12) | (with_reducible apply k_inN) | (((with_reducible apply k_inT); next => rfl; next => rfl)) | (((with_reducible apply k_inL); next => rfl; next => rfl))))
  | ((with_reducible show KEqD _ _ _); (first | (with_reducible apply k_eqIntsC) | (with_reducible apply k_eqInts0) | (with_reducible apply k_eqInts)))
  | (with_reducible apply k_put0)
  | ((with_reducible show KTy _ _ _); (first | (with_reducible apply k_ty_tup_tuple) | (with_reducible apply k_ty_tup_bool) | (with_reducible apply k_ty_tup_int) | (with_reducible apply k_ty_tup_str) | (with_reducible apply k_ty_tup_list) | (with_reducible apply k_ty_ls_tuple) | (with_reducible apply k_ty_ls_bool) | (with_reducible apply k_ty_ls_int) | (with_reducible apply k_ty_ls_str) | (with_reducible apply k_ty_ls_list) | (with_reducible apply k_ty_int_tuple) | (with_reducible apply k_ty_int_bool) | (with_reducible apply k_ty_int_int) | (with_reducible apply k_ty_int_str) | (with_reducible apply k_ty_int_list) | (with_reducible apply k_ty_str_tuple) | (with_reducible apply k_ty_str_bool) | (with_reducible apply k_ty_str_int) | (with_reducible apply k_ty_str_str) | (with_reducible apply k_ty_str_list) | (with_reducible apply k_ty_bl_tuple) | (with_reducible apply k_ty_bl_bool) | (with_reducible apply k_ty_bl_int) | (with_reducible apply k_ty_bl_str) | (with_reducible apply k_ty_bl_list) | (with_reducible apply k_ty_non_tuple) | (with_reducible apply k_ty_non_bool) | (with_reducible apply k_ty_non_int) | (with_reducible apply k_ty_non_str) | (with_reducible apply k_ty_non_list)))
  | ((with_reducible show KSl _ _ _ _); (first | (with_reducible apply k_sl_1) | (with_reducible apply k_sl_2) | (with_reducible apply k_sl_m2) | (with_reducible apply k_sl_m3) | (with_reducible apply k_sl_m4) | (with_reducible apply k_sl_m5)))
  | ((with_reducible show KCat _ _ _); (first | (with_reducible apply k_cat1) | (with_reducible apply k_cat2) | (with_reducible apply k_cat3) | (with_reducible apply k_cat23)))
  | ((with_reducible show KLen _ _); (first | (with_reducible apply k_lenT) | (with_reducible apply k_lenL)))
  | ((with_reducible show KSq _ _); (first | (with_reducible apply k_sqT) | (with_reducible apply k_sqL)))
  | (with_reducible apply k_i2s)
  | (with_reducible apply k_d)
  | ((with_reducible show KT _ _); (first | (with_reducible apply k_t) | (with_reducible apply k_tT)))
  | (with_reducible apply k_l)
  | (with_reducible apply k_i1)
  | (with_reducible apply k_i2)
  | (with_reducible apply k_b)
  | (with_reducible apply k_n)
  | (with_reducible apply k_tx)
  | (with_reducible apply k_t1)
  | (with_reducible apply k_ts)
  | with_reducible apply k_ix_0
  | with_reducible apply k_ix_1
  | ((with_reducible apply k_ixT2); next => rfl)
  | with_reducible apply gx_name
  | with_reducible apply gx_tup2
  | with_reducible apply gx_tup3
  | with_reducible refine (fun (p : Addr) => (?_ : seqO _ _ _ _))
  | with_reducible refine (fun (p : Addr) => (?_ : lpO _ _ _ _))
  | with_reducible refine (fun (p : Addr) => (?_ : liO _ _))
  | (with_reducible apply k_d2)
  | (with_reducible apply k_sg)
  | ((with_reducible show Sx _ _ _ _ _ _ _ _); (first | (with_reducible apply sx_seq) | (with_reducible apply sx_if) | (with_reducible apply sx_setX) | (with_reducible apply sx_set2X) | (with_reducible apply sx_dropX) | (with_reducible apply sx_raise) | (with_reducible refine sx_retN (el_lst ?_)) | (with_reducible refine sx_retN (el_call ?_)) | (with_reducible refine sx_retN (el_lc ?_)) | (with_reducible refine sx_retN (el_list ?_)) | (with_reducible refine sx_retN (el_cat ?_)) | (with_reducible apply sx_ret) | (with_reducible apply sx_retNone) | (with_reducible apply sx_ofA) | (with_reducible apply sx_ofD) | (with_reducible apply sx_ofN)))
  | ((with_reducible show sqX _ _ _ _ _ _ _ _); (first | (with_reducible apply q_nx) | (with_reducible apply q_rt) | (with_reducible apply q_rn) | (with_reducible apply q_bk) | (with_reducible apply q_ct)))
  | ((with_reducible show liO _ _); (first | (with_reducible apply li_nx) | (with_reducible apply li_bk) | (with_reducible apply li_ct)))
  | (with_reducible apply rx_rt)
  | (with_reducible apply wx_rt))
local macro_rules | `(tactic| walk_at "ds") => `(tactic| repeat walk_at "ds1")
local macro_rules | `(tactic| walk_at "d0") => `(tactic| (try simp only [cx_K, cx_K', List.map_cons, List.map_nil]))
local macro_rules | `(tactic| walk_at "da") => `(tactic| repeat first | walk_at "ds1" | (with_reducible apply sv_cut) | (with_reducible apply sx_cut))
section
variable {P : Program} {w : World} {K : PySem.W.Frag} {mg : Str → Option Value} {base : Heap}
theorem okH_Lint (T : Top K mg) : L2H.FnH P w K mg base CX0 1 T.f_Lint T.fd_Lint ["_law_value"] (sp_pu K pre_it) := by
  refine okH T.F_Lint sc_Lint (fun vs H Q E h => ?_) (fun cdv A outer s H vs Q E p hot h => ⟨_, (pss_one (ps_ret (pe_and (pe_callB (r := rIsi K) call_isi (by rfl) T.b_isinstance (by decide +kernel) (pa_cons (pv 0) (pa_cons (pe_bltn (v := .ty "int") (u := .type "int") (by rfl) T.b_int (by decide +kernel) rfl) pa_nil))) (pe_one (pe_not (pe_callB (r := rIsi K) call_isi (by rfl) T.b_isinstance (by decide +kernel) (pa_cons (pv 0) (pa_cons (pe_bltn (v := .ty "bool") (u := .type "bool") (by rfl) T.b_bool (by decide +kernel) rfl) pa_nil)))))))), fin_pu (N := n_Lint) (fun xs R hp e he => ?_) h⟩)
  · obtain ⟨xs, R, hx, ⟨i, rfl, _⟩, _⟩ := h
    exact hx.len
  · obtain ⟨i, rfl, q⟩ := hp
    rcases he with _ | he
    cases he
    walk_at "d0"
    walk_at "ds"
    refine ev_andD (a := true) (c := true) ?_ (fun _ => ?_) q
    · walk_at "ds"
      rfl
    · walk_at "ds"
      rfl
def pre_rg : List Vl → (Vl → Prop) → Prop := fun xs R => ∃ (t : List Nat), xs = [.da (.str (tx t))] ∧ (∀ c ∈ t, c ∈ SG) ∧ t.length ≤ 9000 ∧ R (.da (.bl true))
theorem ok_Lright (T : Top K mg) : FnOk P T.tw K mg base CX0 7 T.f_Lright T.fd_Lright ["_law_text"] (sp_pu K pre_rg) := by
  refine T.F_Lright.ok sc_Lright (fun vs H Q E h => ?_) (fun cdv A outer s H vs Q E hr h => ?_)
  · obtain ⟨xs, R, hx, ⟨t, rfl, _⟩, _⟩ := h
    exact hx.len
  · obtain ⟨xs, R, hx, ⟨t, rfl, ht, hl, q⟩, qf⟩ := h
    obtain ⟨v, rfl, hv⟩ := vls_one hx
    have ev := vl_atm hv rfl
    subst ev
    have fin : ∀ H', Same H H' → Q (.bl true) H' := fun H' s => qf _ _ H' q s (.bl true)
    refine ⟨_, (pss_cons (ps_set (i := 1) sc_Lright.nd rfl (Or.inl rfl) (pe_call (ok_Lread T) (hr.mono (by decide)) (by rfl) T.g_Lread T.F_Lread.kp T.B_Lread .nil pass0 (pa_cons (pv 0) pa_nil)))
       (pss_cons (ps_set (i := 2) sc_Lright.nd rfl (Or.inl rfl) pe_non)
       (pss_cons (L2N.ps_try_as (i := 3) rfl rfl sc_Lright.nd rfl rfl ⟨rfl, by decide, .inl T.g_SpanError⟩ takes0N (fun W pn xe tk _ => (pss_one (ps_set (i := 2) sc_Lright.nd rfl (Or.inl rfl) (pe_callS (ok_read_template T) (hr.mono (by decide)) (by rfl) T.g_read_template T.F_read_template.kp T.B_read_template (fun σ => L2N.passAt tk σ) (pa_cons (pv 0) pa_nil))))) (fun a oe cls d pn hz hf => (pss_cons (ps_if (PW.pt (pw_or (pt_cmpR (r := rIsN) op_isN1 (pe_ix (r := rIxL K) ix_list (pv 1) pe_int (fun _ _ => rfl)) pe_non (nomark _)) (pw_or (pt_not (pt_val (pe_callB (r := rIsX K T.c_TemplateFault a cls d) (call_isX T.xi_TemplateFault hz.zc hf) (by rfl) T.b_isinstance (by decide +kernel) (pa_cons (pv 3) (pa_cons (pe_glob (v := .ref T.c_TemplateFault) rfl T.g_TemplateFault rfl) pa_nil))))) (pw_or1 (pt_not (pt_val (pe_callB (r := rIsX K T.c_TemplateFault a cls d) (call_isX T.xi_TemplateFault hz.zc hf) (by rfl) T.b_isinstance (by decide +kernel) (pa_cons (pv 3) (pa_cons (pe_bltn (v := .ty "ValueError") (u := .type "ValueError") (by rfl) T.b_ValueError (by decide +kernel) rfl) pa_nil))))))))) (pss_one (ps_ret pe_bl)) pss_nil)
       (pss_cons (ps_if (pt_val (pe_callB (r := rIsX K T.c_TemplateFault a cls d) (call_isX T.xi_TemplateFault hz.zc hf) (by rfl) T.b_isinstance (by decide +kernel) (pa_cons (pv 3) (pa_cons (pe_tup (pa_cons (pe_glob (v := .ref T.c_PatternFault) rfl T.g_PatternFault rfl) (pa_cons (pe_glob (v := .ref T.c_UnknownGroup) rfl T.g_UnknownGroup rfl) (pa_cons (pe_glob (v := .ref T.c_BadTree) rfl T.g_BadTree rfl) (pa_cons (pe_glob (v := .ref T.c_NotRegular) rfl T.g_NotRegular rfl) (pa_cons (pe_glob (v := .ref T.c_NotPlain) rfl T.g_NotPlain rfl) (pa_cons (pe_glob (v := .ref T.c_StreamClosed) rfl T.g_StreamClosed rfl) pa_nil))))))) pa_nil)))) (pss_one (ps_ret pe_bl)) pss_nil)
       (pss_cons (ps_if (pt_val (pe_callB (r := rIsX K T.c_TemplateFault a cls d) (call_isX T.xi_TemplateFault hz.zc hf) (by rfl) T.b_isinstance (by decide +kernel) (pa_cons (pv 3) (pa_cons (pe_tup (pa_cons (pe_glob (v := .ref T.c_OutOfSteps) rfl T.g_OutOfSteps rfl) (pa_cons (pe_glob (v := .ref T.c_TooManyStates) rfl T.g_TooManyStates rfl) (pa_cons (pe_glob (v := .ref T.c_TooManyAnswers) rfl T.g_TooManyAnswers rfl) (pa_cons (pe_glob (v := .ref T.c_NoSuchText) rfl T.g_NoSuchText rfl) pa_nil))))) pa_nil)))) (pss_one (ps_ret pe_bl)) pss_nil)
       (pss_one (ps_ret (pe_and (L2H.pe_callH (okH_Lint T) ((L2H.roomH_mark hr _).mono (by decide)) (hot_of hz hf) (by rfl) T.g_Lint T.F_Lint.kp T.B_Lint (fun _ => passH (E := E0)) (pa_cons (pe_xf T.xf_TemplateFault T.no_TemplateFault hz.zc hf (pv 3)) pa_nil)) (pe_one (pe_cmpR op_eq (pe_xf T.xf_TemplateFault T.no_TemplateFault hz.zc hf (pv 3)) (pe_ix (r := rIxL K) ix_list (pv 1) pe_int (fun _ _ => rfl)) (nomark _)))))))))))
       (pss_one (ps_ret (pe_and (pe_cmpR (r := rIsN) op_isN1 (pe_ix (r := rIxL K) ix_list (pv 1) pe_int (fun _ _ => rfl)) pe_non (nomark _)) (pe_one (pe_call (ok_Lsame_template T) (hr.mono (by decide)) (by rfl) T.g_Lsame_template T.F_Lsame_template.kp T.B_Lsame_template .nil pass0 (pa_cons (pv 2) (pa_cons (pe_ix (r := rIxL K) ix_list (pv 1) pe_int (fun _ _ => rfl)) pa_nil)))))))))), ?_⟩
    walk_at "d0"
    walk_at "rd"
    refine ⟨[.da (.str (tx t))], fun l => l = dueD (runM (.tx []) t 0 []), .cons (.str _) .nil, ⟨t, rfl, by omega, rfl⟩, fun l a us H1 el s1 na hu hd => ?_⟩
    subst el
    walk_at "rd"
    have ok_run := fun ps (e : runM (.tx []) t 0 [] = .inr ps) => run_ok e (fun x hx => by cases hx) ht (fun x hx => by cases hx)
    refine ⟨_, rfl, [.da (.str (tx t))], fun x => ∃ ps, runM (.tx []) t 0 [] = .inr ps ∧ x = .da (.tup (ps.map ptD)), fun d => ∃ k : Nat, runM (.tx []) t 0 [] = .inl k ∧ d = .int (k : Nat), .cons (.str _) .nil, ⟨t, rfl, by omega, fun ps e => ⟨ps, e, rfl⟩, fun k e z hz => ⟨k, e, by rw [hz]⟩⟩, fun x v H2 hR s2 hv => ?_, fun d v c H2 hF s2 hv hc => ?_⟩
    · obtain ⟨ps, e, rfl⟩ := hR
      rw [e, dueD] at hd
      have hu2 : H2 a = some (.lst us) := s2 a _ hu
      have hd2 := hd.keep (.same s2)
      cases hd2 with
      | cons g1 r1 =>
        cases g1
        cases r1 with
        | cons g2 r2 =>
          cases r2
          refine ⟨_, .inl (.inl hu2), _, rfl, rfl, _, rfl, ?_⟩
          refine (show _ from ?_)
          rw [if_pos (by decide)]
          exact ⟨_, .inl (.inl hu2), _, rfl, [.da (.tup (ps.map ptD)), .da (.tup (ps.map ptD))], fun x => x = .da (.bl true), .cons hv (.cons g2 .nil), ⟨ps, rfl, (ok_run ps e).1, rfl⟩, fun x v H3 ex s3 hv3 => by
            subst ex
            have e3 := vl_atm hv3 rfl
            subst e3
            exact fin _ (s1.trans (s2.trans s3))⟩
    · obtain ⟨k, e, rfl⟩ := hF
      rw [e, dueD] at hd
      have hu2 : H2 a = some (.lst us) := s2 a _ hu
      have hd2 := hd.keep (.same s2)
      have ev : v = .int (k : Nat) := vl_atm (dl := none) (show VlAt K none H2 (.da (.int (k : Nat))) v from hv) rfl
      subst ev
      cases hd2 with
      | cons g1 r1 =>
        cases g1
        refine ⟨true, T.ex_TemplateFault, fun _ a0 na0 => ?_, fun z => by cases z⟩
        walk_at "rd"
        refine ⟨_, .inl (.inl hu2), _, atI_zero rfl, rfl, _, rfl, ?_⟩
        rw [if_neg (by simp)]
        refine ⟨_, true, c, _, rfl, rfl, rfl, hc, .inl ⟨_, .own _, T.kq_TemplateFault_TemplateFault⟩, _, rfl, ?_⟩
        rw [if_neg (by decide)]
        refine ⟨_, true, c, _, rfl, rfl, rfl, hc, .inl ⟨_, .ty _, T.kq_TemplateFault_ValueError⟩, _, rfl, ?_⟩
        rw [if_neg (by decide)]
        refine ⟨by decide, fun p np => ?_⟩
        have hc1 : (upd H2 p (HO.tup [V.ref T.c_PatternFault, V.ref T.c_UnknownGroup, V.ref T.c_BadTree, V.ref T.c_NotRegular, V.ref T.c_NotPlain, V.ref T.c_StreamClosed])) c = some (.xd [(Str.ofString "index", .int (k : Nat))]) := (upd_ne (ne_of_none hc np)).trans hc
        have hu3 : (upd H2 p (HO.tup [V.ref T.c_PatternFault, V.ref T.c_UnknownGroup, V.ref T.c_BadTree, V.ref T.c_NotRegular, V.ref T.c_NotPlain, V.ref T.c_StreamClosed])) a = _ := (upd_ne (ne_of_none hu2 np)).trans hu2
        have s3 : Same H2 (upd H2 p (HO.tup [V.ref T.c_PatternFault, V.ref T.c_UnknownGroup, V.ref T.c_BadTree, V.ref T.c_NotRegular, V.ref T.c_NotPlain, V.ref T.c_StreamClosed])) := same_upd np
        have q3 : (upd H2 p (HO.tup [V.ref T.c_PatternFault, V.ref T.c_UnknownGroup, V.ref T.c_BadTree, V.ref T.c_NotRegular, V.ref T.c_NotPlain, V.ref T.c_StreamClosed])) p = some (.tup [V.ref T.c_PatternFault, V.ref T.c_UnknownGroup, V.ref T.c_BadTree, V.ref T.c_NotRegular, V.ref T.c_NotPlain, V.ref T.c_StreamClosed]) := upd_same
        generalize upd H2 p (HO.tup [V.ref T.c_PatternFault, V.ref T.c_UnknownGroup, V.ref T.c_BadTree, V.ref T.c_NotRegular, V.ref T.c_NotPlain, V.ref T.c_StreamClosed]) = H3 at hc1 hu3 s3 q3 ⊢
        refine ⟨_, false, c, _, rfl, rfl, rfl, hc1, .inr ⟨p, _, _, rfl, q3, .cons (.own _) (.cons (.own _) (.cons (.own _) (.cons (.own _) (.cons (.own _) (.cons (.own _) .nil))))), ?_⟩, _, rfl, ?_⟩
        · simp only [PySem.W.kitAny, T.kq_TemplateFault_PatternFault, T.kq_TemplateFault_UnknownGroup, T.kq_TemplateFault_BadTree, T.kq_TemplateFault_NotRegular, T.kq_TemplateFault_NotPlain, T.kq_TemplateFault_StreamClosed]
        rw [if_neg (by decide)]
        refine ⟨by decide, fun p2 np2 => ?_⟩
        have hc2 : (upd H3 p2 (HO.tup [V.ref T.c_OutOfSteps, V.ref T.c_TooManyStates, V.ref T.c_TooManyAnswers, V.ref T.c_NoSuchText])) c = some (.xd [(Str.ofString "index", .int (k : Nat))]) := (upd_ne (ne_of_none hc1 np2)).trans hc1
        have hu4 : (upd H3 p2 (HO.tup [V.ref T.c_OutOfSteps, V.ref T.c_TooManyStates, V.ref T.c_TooManyAnswers, V.ref T.c_NoSuchText])) a = _ := (upd_ne (ne_of_none hu3 np2)).trans hu3
        have s4 : Same H3 (upd H3 p2 (HO.tup [V.ref T.c_OutOfSteps, V.ref T.c_TooManyStates, V.ref T.c_TooManyAnswers, V.ref T.c_NoSuchText])) := same_upd np2
        have q4 : (upd H3 p2 (HO.tup [V.ref T.c_OutOfSteps, V.ref T.c_TooManyStates, V.ref T.c_TooManyAnswers, V.ref T.c_NoSuchText])) p2 = some (.tup [V.ref T.c_OutOfSteps, V.ref T.c_TooManyStates, V.ref T.c_TooManyAnswers, V.ref T.c_NoSuchText]) := upd_same
        generalize upd H3 p2 (HO.tup [V.ref T.c_OutOfSteps, V.ref T.c_TooManyStates, V.ref T.c_TooManyAnswers, V.ref T.c_NoSuchText]) = H4 at hc2 hu4 s4 q4 ⊢
        refine ⟨_, false, c, _, rfl, rfl, rfl, hc2, .inr ⟨p2, _, _, rfl, q4, .cons (.own _) (.cons (.own _) (.cons (.own _) (.cons (.own _) .nil))), ?_⟩, _, rfl, ?_⟩
        · simp only [PySem.W.kitAny, T.kq_TemplateFault_OutOfSteps, T.kq_TemplateFault_TooManyStates, T.kq_TemplateFault_TooManyAnswers, T.kq_TemplateFault_NoSuchText]
        rw [if_neg (by decide)]
        refine ⟨_, rfl, rfl, rfl, c, _, .int (k : Nat), rfl, hc2, by simp [List.lookup], [.da (.int (k : Nat))], fun x => x = .da (.bl true), .cons (.int _) .nil, ⟨k, rfl, rfl⟩, fun x v H5 ex s5 hv5 => ?_⟩
        subst ex
        have e5 := vl_atm hv5 rfl
        subst e5
        refine ⟨_, rfl, ?_⟩
        rw [if_pos rfl]
        refine ⟨_, rfl, rfl, rfl, c, _, .int (k : Nat), rfl, s5 _ _ hc2, by simp [List.lookup], ?_⟩
        walk_at "rd"
        refine ⟨_, .inl (.inl (s5 _ _ hu4)), _, atI_zero rfl, rfl, ?_⟩
        rw [decide_eq_true rfl]
        exact fin _ (s1.trans (s2.trans (s3.trans (s4.trans s5))))
end
end My
namespace My
open PySem L2
local macro_rules | `(tactic| walk_at "rd") => `(tactic| simp only [tSeq, tNext, tAsg, tOp, tUn, tC, tVar, gName, gSub, tCons, tNil, tCB, tIfS, tIf, tTest, tB, tAnd, tOr, tNot, tAndV, tOrV, tNotV, tRet, tRetN, tDrop, tLst, tTup, tCall, tSl, tNoPart, tPart, tM0, tM1, tBM, tBM0, tYes, tFor_eq, tLc_eq, iList, iRng1, iRng2, iStr, sg_tx, c_empty, rstrip_sign, find_sign, cut_last, cut_to, cut_from, cut_mid, cut_to_lit, cut_from_lit, and_assoc, flat_rep, List.length_replicate, tx_len, tx_eq, tx_app, tx_cps, rI0, rI, rU, rEq, rNe, rIxL, rIxS, rIxT, rSetL, rAppend, rPopAt, rSlS, rSlL, rIn, rMulS, rLtD, rJoin, rLenQ, rListOf,  tRevS, 
  scal, L2.start, List.map_cons, List.map_nil, List.length_cons, List.length_nil, List.replicate, List.cons_append, List.nil_append, List.append_nil,
  List.getElem?_cons_zero, List.getElem?_cons_succ, List.set_cons_zero, List.set_cons_succ, Nat.sub_zero, Nat.reduceSub, Nat.reduceAdd, Nat.zero_add, id_eq, Int.reduceToNat, exists_or,
  V.int.injEq, V.str.injEq, V.bl.injEq, V.ref.injEq, Option.some.injEq, List.cons.injEq, exists_and_left, exists_eq_left', exists_eq_left, exists_eq, exists_eq', and_true, true_and, reduceCtorEq, false_and, and_false, exists_false, false_or, or_false, decide_eq_true_eq, Bool.not_eq_true', decide_eq_false_iff_not, Bool.not_not, Bool.false_eq_true, ↓reduceIte, if_true, if_false])

local macro_rules | `(tactic| walk_at "ne") => `(tactic| first | assumption | (refine Ne.symm ?_; assumption) | exact (ne_of_none (by assumption) (by assumption)) | exact (ne_of_none (by assumption) (by assumption)).symm)
local macro_rules | `(tactic| walk_at "hp") => `(tactic| first | assumption | exact upd_same | exact (upd_ne (by walk_at "ne")).trans (by walk_at "hp"))
local macro_rules | `(tactic| walk_at "st1") => `(tactic| first
  | refine ⟨_, Or.inl (Or.inl (by walk_at "hp")), ?_⟩
  | refine ⟨_, Or.inl (Or.inl (Or.inl (by walk_at "hp"))), ?_⟩
  | refine ⟨_, (show _ = some (HO.lst _) by walk_at "hp"), ?_⟩
  | refine ⟨_, rfl, ?_⟩
  | refine ⟨(rfl : ("str" : String) = "str"), ?_⟩
  | refine ⟨Or.inr ⟨by decide, by decide⟩, ?_⟩
  | refine ⟨⟨by decide, by decide⟩, ?_⟩
  | refine ⟨by decide, ?_⟩
  | refine ⟨by assumption, ?_⟩)
local macro_rules | `(tactic| walk_at "st") => `(tactic| repeat walk_at "st1")
local macro_rules | `(tactic| walk_at "go") => `(tactic| repeat first | walk_at "st1" | walk_at "rd")
local macro_rules | `(tactic| walk_at "wk") => `(tactic| repeat first | exact Wk.nil | apply Wk.yes | apply Wk.no)
local macro_rules | `(tactic| walk_at "ds1") => `(tactic| first
  | ((with_reducible show Sv _ _ _ _); (first | (with_reducible apply sv_set2) | (with_reducible apply sv_seq) | (with_reducible apply sv_if) | (((with_reducible apply sv_retO); next => rfl)) | (with_reducible refine sv_retN (el_lst ?_)) | (with_reducible refine sv_retN (el_call ?_)) | (with_reducible refine sv_retN (el_lc ?_)) | (with_reducible refine sv_retN (el_list ?_)) | (with_reducible refine sv_retN (el_cat ?_)) | (with_reducible apply sv_ret) | (with_reducible refine sv_setN (el_lst ?_)) | (with_reducible refine sv_setN (el_call ?_)) | (with_reducible refine sv_setN (el_lc ?_)) | (with_reducible refine sv_setN (el_list ?_)) | (with_reducible refine sv_setN (el_cat ?_)) | (with_reducible refine sv_setN (el_callD rfl ?_)) | (((with_reducible apply sv_putD); next => rfl)) | (with_reducible apply sv_set) | (((with_reducible apply sv_app); next => rfl)) | (((with_reducible apply sv_ext); next => rfl)) | (((with_reducible apply sv_put); next => rfl)) | (with_reducible apply sv_for) | (with_reducible apply sv_nil) | (with_reducible apply sv_retNone) | (with_reducible apply sv_drop)))
  | ((with_reducible show Ev _ _ _ _); (first | (with_reducible apply ev_q0) | (with_reducible apply ev_q1) | (with_reducible apply ev_q2) | (with_reducible apply ev_q3) | (with_reducible apply ev_q4) | (with_reducible apply ev_q5) | (with_reducible apply ev_q6) | (with_reducible apply ev_q7) | (with_reducible apply ev_q8) | (with_reducible apply ev_q9) | (with_reducible apply ev_q10) | (with_reducible apply ev_q11) | (with_reducible apply ev_q12) | (with_reducible apply ev_q13) | (with_reducible apply ev_q14) | (with_reducible apply ev_q15) | (with_reducible apply ev_q16) | (with_reducible apply ev_q17) | (with_reducible apply ev_q18) | (with_reducible apply ev_q19) | (with_reducible apply ev_q20) | (with_reducible apply ev_q21) | (with_reducible apply ev_q22) | (with_reducible apply ev_q23) | (with_reducible apply ev_q24) | (with_reducible apply ev_q25) | (with_reducible apply ev_q26) | (with_reducible apply ev_q27) | (with_reducible apply ev_q28) | (with_reducible apply ev_q29) | (with_reducible apply ev_q30) | (with_reducible apply ev_q31) | (with_reducible apply ev_q32) | (with_reducible apply ev_q33) | (with_reducible apply ev_catX) | (with_reducible apply ev_inS) | (with_reducible apply ev_ninS) | (with_reducible apply ev_joinE) | (with_reducible apply ev_kget) | (((with_reducible apply ev_var); next => rfl)) | (((with_reducible apply ev_varO); next => rfl)) | (((with_reducible apply ev_varL); next => rfl)) | (((with_reducible apply ev_callD); next => rfl)) | (((with_reducible apply ev_dr); next => rfl)) | (with_reducible apply ev_max2) | (with_reducible apply ev_min2) | (with_reducible apply ev_index) | (with_reducible apply ev_eqD) | (with_reducible apply ev_neD) | (with_reducible apply ev_int) | (with_reducible apply ev_bl) | (with_reducible apply ev_non) | (with_reducible apply ev_ixT) | (with_reducible apply ev_call) | (with_reducible apply ev_eq) | (with_reducible apply ev_tup) | (with_reducible apply ev_in) | (with_reducible apply ev_ixL) | (with_reducible apply ev_ne) | (with_reducible apply ev_i0) | (with_reducible apply ev_ib) | (with_reducible apply ev_isi) | (with_reducible apply ev_isN) | (with_reducible apply ev_notN) | (with_reducible apply ev_isB) | (with_reducible apply ev_notB) | (with_reducible apply ev_slT2) | (with_reducible apply ev_catU) | (with_reducible apply ev_iC) | (with_reducible apply ev_ixS) | (with_reducible apply ev_slS) | (with_reducible apply ev_u) | (with_reducible apply ev_notV) | (with_reducible apply ev_if) | (with_reducible apply ev_len) | (with_reducible apply ev_lenS) | (with_reducible apply ev_tuple) | (with_reducible apply ev_all) | (with_reducible refine Ev.ofNew (el_lst ?_)) | (with_reducible refine Ev.ofNew (el_call ?_)) | (with_reducible refine Ev.ofNew (el_lc ?_)) | (with_reducible refine Ev.ofNew (el_list ?_)) | (with_reducible refine Ev.ofNew (el_cat ?_))))
  | ((with_reducible show Es _ _ _ _); (first | (with_reducible apply es_cons) | (with_reducible apply es_nil)))
  | ((with_reducible show Tv _ _ _ _); (first | (with_reducible apply tv_test) | (with_reducible apply tv_not) | (with_reducible apply tv_and) | (with_reducible apply tv_or) | (with_reducible apply tv_b) | (with_reducible apply tv_yes) | (with_reducible apply tv_tru)))
  | ((with_reducible show Eln _ _ _ _); (first | (with_reducible apply el_lst) | (with_reducible apply el_call) | (with_reducible apply el_lc) | (with_reducible apply el_list) | (with_reducible apply el_cat)))
  | ((with_reducible show Eo _ _ _ _); (first | (with_reducible apply eo_no) | (with_reducible apply eo_some)))
  | ((with_reducible show Iv _ _ _ _); (first | (with_reducible apply iv_tup) | (with_reducible apply iv_range1) | (with_reducible apply iv_str) | (with_reducible apply iv_enumT) | (((with_reducible apply iv_listV); next => rfl)) | (((with_reducible apply iv_listO); next => rfl)) | (with_reducible refine iv_listN (el_lst ?_)) | (with_reducible refine iv_listN (el_call ?_)) | (with_reducible refine iv_listN (el_lc ?_)) | (with_reducible refine iv_listN (el_list ?_)) | (with_reducible refine iv_listN (el_cat ?_))))
  | ((with_reducible show Gv _ _ _ _ _ _); (first | (with_reducible apply gv_name) | (with_reducible apply gv_tup2) | (with_reducible apply gv_tup3)))
  | ((with_reducible show seqO _ _ _ _); (first | (with_reducible apply o_nx) | (with_reducible apply o_rt) | (with_reducible apply o_rn) | (with_reducible apply o_bk) | (with_reducible apply o_ct)))
  | ((with_reducible show jnI _ _ _); (first | (with_reducible apply ji_nx) | (with_reducible apply ji_rt) | (with_reducible apply ji_rn) | (with_reducible apply ji_bk) | (with_reducible apply ji_ct)))
  | ((with_reducible show jnO _ _ _); (first | (with_reducible apply j_nx) | (with_reducible apply j_rt) | (with_reducible apply j_rn) | (with_reducible apply j_bk) | (with_reducible apply j_ct)))
  | ((with_reducible show lpO _ _ _ _); (first | (with_reducible apply l_rt) | (with_reducible apply l_rn) | (with_reducible apply l_ct) | (with_reducible apply l_nx')))
  | ((with_reducible show retO _ _); (first | (with_reducible apply r_rt) | (with_reducible apply r_nx)))
  | (with_reducible apply r_rn)
  | ((with_reducible show KIf _ _ _); (first | (((with_reducible apply k_ift); next => first | decide +kernel | rfl)) | (((with_reducible apply k_iff); next => first | decide +kernel | rfl))))
  | ((with_reducible show KEq _ _ _); (first | (with_reducible apply k_eqS) | (with_reducible apply k_eqI) | (with_reducible apply k_eqB) | (((with_reducible apply k_eqO); next => rfl; next => rfl; next => rfl; next => rfl))))
  | ((with_reducible show KDas _ _); (first | (with_reducible apply k_das_0) | (with_reducible apply k_das_1) | (with_reducible apply k_das_2) | (with_reducible apply k_das_3) | (with_reducible apply k_das_4) | (with_reducible apply k_das_5) | (with_reducible apply k_das_6) | (with_reducible apply k_das_7) | (with_reducible apply k_das_8) | (with_reducible apply k_das_9) | (with_reducible apply k_das_10) | (with_reducible apply k_das_11) | (with_reducible apply k_das_12) | (with_reducible apply k_das_13) | (with_reducible apply k_das_14) | (with_reducible apply k_das_15) | (with_reducible apply k_das_16)))
  | ((with_reducible show KIn _ _ _); (first | (with_reducible apply k_inT_0) | (with_reducible apply k_inL_0) | (with_reducible apply k_inT_1) | (with_reducible apply k_inL_1) | (with_reducible apply k_inT_2) | (with_reducible apply k_inL_2) | (with_reducible apply k_inT_3) | (with_reducible apply k_inL_3) | (with_reducible apply k_inT_4) | (with_reducible apply k_inL_4) | (with_reducible apply k_inT_5) | (with_reducible apply k_inL_5) | (with_reducible apply k_inT_6) | (with_reducible apply k_inL_6) | (with_reducible apply k_inT_7) | (with_reducible apply k_inL_7) | (with_reducible apply k_inT_8) | (with_reducible apply k_inL_8) | (with_reducible apply k_inT_9) | (with_reducible apply k_inL_9) | (with_reducible apply k_inT_10) | (with_reducible apply k_inL_10) | (with_reducible apply k_inT_11) | (with_reducible apply k_inL_11) | (with_reducible apply k_inT_12) | (with_reducible apply k_inL_12) | (with_reducible apply k_inN) | (((with_reducible apply k_inT); next => rfl; next => rfl)) | (((with_reducible apply k_inL); next => rfl; next => rfl))))
  | ((with_reducible show KEqD _ _ _); (first | (with_reducible apply k_eqIntsC) | (with_reducible apply k_eqInts0) | (with_reducible apply k_eqInts)))
  | (with_reducible apply k_put0)
  | ((with_reducible show KTy _ _ _); (first | (with_reducible apply k_ty_tup_tuple) | (with_reducible apply k_ty_tup_bool) | (with_reducible apply k_ty_tup_int) | (with_reducible apply k_ty_tup_str) | (with_reducible apply k_ty_tup_list) | (with_reducible apply k_ty_ls_tuple) | (with_reducible apply k_ty_ls_bool) | (with_reducible apply k_ty_ls_int) | (with_reducible apply k_ty_ls_str) | (with_reducible apply k_ty_ls_list) | (with_reducible apply k_ty_int_tuple) | (with_reducible apply k_ty_int_bool) | (with_reducible apply k_ty_int_int) | (with_reducible apply k_ty_int_str) | (with_reducible apply k_ty_int_list) | (with_reducible apply k_ty_str_tuple) | (with_reducible apply k_ty_str_bool) | (with_reducible apply k_ty_str_int) | (with_reducible apply k_ty_str_str) | (with_reducible apply k_ty_str_list) | (with_reducible apply k_ty_bl_tuple) | (with_reducible apply k_ty_bl_bool) | (with_reducible apply k_ty_bl_int) | (with_reducible apply k_ty_bl_str) | (with_reducible apply k_ty_bl_list) | (with_reducible apply k_ty_non_tuple) | (with_reducible apply k_ty_non_bool) | (with_reducible apply k_ty_non_int) | (with_reducible apply k_ty_non_str) | (with_reducible apply k_ty_non_list)))
  | ((with_reducible show KSl _ _ _ _); (first | (with_reducible apply k_sl_1) | (with_reducible apply k_sl_2) | (with_reducible apply k_sl_m2) | (with_reducible apply k_sl_m3) | (with_reducible apply k_sl_m4) | (with_reducible apply k_sl_m5)))
  | ((with_reducible show KCat _ _ _); (first | (with_reducible apply k_cat1) | (with_reducible apply k_cat2) | (with_reducible apply k_cat3) | (with_reducible apply k_cat23)))
  | ((with_reducible show KLen _ _); (first | (with_reducible apply k_lenT) | (with_reducible apply k_lenL)))
  | ((with_reducible show KSq _ _); (first | (with_reducible apply k_sqT) | (with_reducible apply k_sqL)))
  | (with_reducible apply k_i2s)
  | (with_reducible apply k_d)
  | ((with_reducible show KT _ _); (first | (with_reducible apply k_t) | (with_reducible apply k_tT)))
  | (with_reducible apply k_l)
  | (with_reducible apply k_i1)
  | (with_reducible apply k_i2)
  | (with_reducible apply k_b)
  | (with_reducible apply k_n)
  | (with_reducible apply k_tx)
  | (with_reducible apply k_t1)
  | (with_reducible apply k_ts)
  | with_reducible apply k_ix_0
  | with_reducible apply k_ix_1
  | ((with_reducible apply k_ixT2); next => rfl)
  | with_reducible apply gx_name
  | with_reducible apply gx_tup2
  | with_reducible apply gx_tup3
  | with_reducible refine (fun (p : Addr) => (?_ : seqO _ _ _ _))
  | with_reducible refine (fun (p : Addr) => (?_ : lpO _ _ _ _))
  | with_reducible refine (fun (p : Addr) => (?_ : liO _ _))
  | (with_reducible apply k_d2)
  | (with_reducible apply k_sg)
  | ((with_reducible show Sx _ _ _ _ _ _ _ _); (first | (with_reducible apply sx_seq) | (with_reducible apply sx_if) | (with_reducible apply sx_setX) | (with_reducible apply sx_set2X) | (with_reducible apply sx_dropX) | (with_reducible apply sx_raise) | (with_reducible refine sx_retN (el_lst ?_)) | (with_reducible refine sx_retN (el_call ?_)) | (with_reducible refine sx_retN (el_lc ?_)) | (with_reducible refine sx_retN (el_list ?_)) | (with_reducible refine sx_retN (el_cat ?_)) | (with_reducible apply sx_ret) | (with_reducible apply sx_retNone) | (with_reducible apply sx_ofA) | (with_reducible apply sx_ofD) | (with_reducible apply sx_ofN)))
  | ((with_reducible show sqX _ _ _ _ _ _ _ _); (first | (with_reducible apply q_nx) | (with_reducible apply q_rt) | (with_reducible apply q_rn) | (with_reducible apply q_bk) | (with_reducible apply q_ct)))
  | ((with_reducible show liO _ _); (first | (with_reducible apply li_nx) | (with_reducible apply li_bk) | (with_reducible apply li_ct)))
  | (with_reducible apply rx_rt)
  | (with_reducible apply wx_rt))
local macro_rules | `(tactic| walk_at "ds") => `(tactic| repeat walk_at "ds1")
local macro_rules | `(tactic| walk_at "d0") => `(tactic| (try simp only [cx_K, cx_K', List.map_cons, List.map_nil]))
local macro_rules | `(tactic| walk_at "da") => `(tactic| repeat first | walk_at "ds1" | (with_reducible apply sv_cut) | (with_reducible apply sx_cut))
section
variable {P : Program} {w : World} {K : PySem.W.Frag} {mg : Str → Option Value} {base : Heap}
def sp_Ldraw (K : PySem.W.Frag) : Sp := fun vs H Q _ => ∃ (a : Addr) (ns : List Int), vs = [.ref a] ∧ SqL K H a (ns.map V.int) ∧ ns.length ≤ 63 ∧ ∀ (d l : Addr) (H' : Hp), H d = none → H l = none → Same H H' → Drw H' d l → Q (.ref d) H'
theorem ok_Ldraw (T : Top K mg) : FnOk P w K mg base CX0 1 T.f_Ldraw T.fd_Ldraw ["_law_script"] (sp_Ldraw K) := by
  refine T.F_Ldraw.ok sc_Ldraw (fun vs H Q E h => ?_) (fun cdv A outer s H vs Q E hr h => ?_)
  · obtain ⟨a, ns, rfl, _⟩ := h
    rfl
  · obtain ⟨a, ns, rfl, hS, hn, q⟩ := h
    refine ⟨_, (pss_cons (ps_set (i := 1) sc_Ldraw.nd rfl (Or.inl rfl) (pe_lst pa_nil))
       (pss_cons (ps_set (i := 2) sc_Ldraw.nd rfl (Or.inl rfl) pe_int)
       (pss_cons (ps_set (i := 3) sc_Ldraw.nd rfl (Or.inl rfl) pe_int)
       (pss_cons (ps_for PassesOwn.never rfl (pi_list (pv 0)) (pg_name (i := 4) sc_Ldraw.nd rfl (Or.inl rfl))
       (pss_cons (ps_set (i := 2) sc_Ldraw.nd rfl (Or.inl rfl) (pe_op op_mod (pe_callTy call_int1 (by rfl) T.b_int (by decide +kernel) (pa_cons (pe_op op_add (pe_op op_mul (pv 2) pe_int) (pv 4)) pa_nil)) pe_int))
       (pss_cons (ps_set (i := 3) sc_Ldraw.nd rfl (Or.inl rfl) (pe_op op_mod (pe_callTy call_int1 (by rfl) T.b_int (by decide +kernel) (pa_cons (pe_op op_add (pe_op op_mul (pv 3) pe_int) (pe_op op_fdiv (pv 4) pe_int)) pa_nil)) pe_int))
       (pss_cons (ps_set (i := 5) sc_Ldraw.nd rfl (Or.inl rfl) (pv 4))
       (pss_cut (ps_if (pt_cmpR op_lt (pv 4) (pe_op op_pow pe_int pe_int) (nomark _)) (pss_one (ps_set (i := 5) sc_Ldraw.nd rfl (Or.inl rfl) pe_int)) pss_nil)
       (pss_one (ps_for PassesOwn.never rfl (pi_range1 rfl T.b_range (pa_cons pe_int pa_nil)) (pg_name (i := 6) sc_Ldraw.nd rfl (Or.inl rfl))
       (pss_one (ps_if (pt_cmpR op_gt (pv 5) pe_int (nomark _)) (pss_cons (ps_expr (pe_bm PySem.F.plainAttrs_list PySem.F.slot_list_append PySem.F.type_list_append mt_append (pv 1) (pa_cons (pe_op op_mod (pe_callTy call_int1 (by rfl) T.b_int (by decide +kernel) (pa_cons (pv 5) pa_nil)) pe_int) pa_nil)))
       (pss_one (ps_set (i := 5) sc_Ldraw.nd rfl (Or.inl rfl) (pe_op op_fdiv (pv 5) pe_int)))) pss_nil)))))))))
       (pss_one (ps_ret (pe_lst (pa_cons pe_int (pa_cons (pv 2) (pa_cons (pv 3) (pa_cons (pv 1) (pa_cons pe_int pa_nil)))))))))))), ?_⟩
    walk_at "rd"
    refine ⟨by decide, fun l hl => ?_⟩
    refine ⟨⟨_, (same_upd hl).seq hS⟩, ?_⟩
    obtain ⟨Pv, hP⟩ : ∃ Pv : Nat → St → Hp → Prop, ∀ i σ H', Pv i σ H' ↔ ∃ (one two : Int) (v4 v5 v6 : Option V) (ds : List Int), σ = [some (V.ref a), some (V.ref l), some (V.int one), some (V.int two), v4, v5, v6] ∧ Same H H' ∧ H' l = some (.lst (ds.map V.int)) ∧ ds.length ≤ 60 * i := ⟨_, fun _ _ _ => Iff.rfl⟩
    refine forJ_by (reg_list _ a (ns.map V.int)) Pv ?_ ?_ ?_ ?_
    · intro i σ H' h
      obtain ⟨_, _, _, _, _, _, _, sm, _⟩ := (hP _ _ _).mp h
      exact sm.seq hS
    · exact (hP _ _ _).mpr ⟨7, 11, none, none, none, [], rfl, same_upd hl, upd_same, by decide⟩
    · intro i x σ H' hi h
      obtain ⟨one, two, v4, v5, v6, ds, rfl, sm, hL, hlen⟩ := (hP _ _ _).mp h
      have hi2 : i < ns.length := by
        have := (List.getElem?_eq_some_iff.mp hi).1
        rw [List.length_map] at this; exact this
      obtain ⟨z, rfl⟩ : ∃ z, x = V.int z := by
        rw [List.getElem?_map, List.getElem?_eq_getElem hi2] at hi
        exact ⟨_, (Option.some.inj hi).symm⟩
      walk_at "rd"
      walk_at "go"
      obtain ⟨Mid, hM⟩ : ∃ Mid : St → Hp → Prop, ∀ σ' H2, Mid σ' H2 ↔ ∃ (one two r : Int) (v6 : Option V), σ' = [some (V.ref a), some (V.ref l), some (V.int one), some (V.int two), some (V.int z), some (V.int r), v6] ∧ H2 = H' := ⟨_, fun _ _ => Iff.rfl⟩
      refine ⟨Mid, ?_, ?_⟩
      · walk_at "rd"
        refine ⟨⟨by decide, by decide, by decide⟩, ?_⟩
        split
        · exact (hM _ _).mpr ⟨_, _, _, _, rfl, rfl⟩
        · exact (hM _ _).mpr ⟨_, _, _, _, rfl, rfl⟩
      · intro σ' H2 h2
        obtain ⟨one', two', r, v6', rfl, rfl⟩ := (hM _ _).mp h2
        walk_at "rd"
        refine ⟨by decide, by decide, ?_⟩
        obtain ⟨Pj, hJ⟩ : ∃ Pj : Nat → St → Hp → Prop, ∀ j σ H', Pj j σ H' ↔ ∃ (r : Int) (v6 : Option V) (ds : List Int), σ = [some (V.ref a), some (V.ref l), some (V.int one'), some (V.int two'), some (V.int z), some (V.int r), v6] ∧ Same H H' ∧ H' l = some (.lst (ds.map V.int)) ∧ ds.length ≤ 60 * i + j := ⟨_, fun _ _ _ => Iff.rfl⟩
        refine forJ_by (reg_range _ _) Pj ?_ ?_ ?_ ?_
        · intros; trivial
        · exact (hJ _ _ _).mpr ⟨_, _, ds, rfl, sm, hL, by omega⟩
        · intro j b σ H' hj h
          obtain ⟨r, v6, ds, rfl, sm, hL, hlen⟩ := (hJ _ _ _).mp h
          have hj2 : j < 60 := by
            have := (List.getElem?_eq_some_iff.mp hj).1
            rw [List.length_range] at this; exact this
          walk_at "rd"
          split
          · have hsz : (ds.map V.int).length < sizeLine := by
              rw [List.length_map]
              have h1 : 60 * i + j ≤ 60 * 63 + 60 := by omega
              exact Nat.lt_of_le_of_lt (Nat.le_trans hlen h1) (by decide)
            refine ⟨.inl ⟨rfl, _, .inl (.inl hL)⟩, ?_⟩
            walk_at "go"
            refine (hJ _ _ _).mpr ⟨_, _, ds ++ [r % 5040], rfl, ?_, ?_, ?_⟩
            · intro b o e
              rw [upd_ne (ne_of_none e hl)]
              exact sm _ _ e
            · rw [upd_same, List.map_append]; rfl
            · rw [List.length_append]; simp; omega
          · exact (hJ _ _ _).mpr ⟨_, _, ds, rfl, sm, hL, by omega⟩
        · intro σ H' h
          obtain ⟨r, v6, ds, rfl, sm, hL, hlen⟩ := (hJ _ _ _).mp h
          rw [List.length_range] at hlen
          have e60 : (60 : Int).toNat = 60 := rfl
          exact (hP _ _ _).mpr ⟨_, _, _, _, _, ds, rfl, sm, hL, by omega⟩
    · intro σ H' h
      obtain ⟨one, two, v4, v5, v6, ds, rfl, sm, hL, hlen⟩ := (hP _ _ _).mp h
      walk_at "rd"
      refine ⟨by decide, fun d hd => ?_⟩
      have nl : l ≠ d := ne_of_none hL hd
      exact q d l _ (sm.free hd) hl (sm.trans (same_upd hd)) ⟨0, _, _, ds, nl.symm, upd_same, (upd_ne nl).trans hL, by decide⟩
def sp_law (K : PySem.W.Frag) : Sp := fun vs H Q _ => ∃ (a : Addr) (ns : List Int), vs = [.ref a] ∧ SqL K H a (ns.map V.int) ∧ ns.length ≤ 63 ∧ ∀ H', Q (.bl true) H'
theorem env_draw {K : PySem.W.Frag} {H : Hp} {d l a : Addr} (hD : Dry H d l) (n : Nat) : EnvAt K H (some (d, l)) [] H (some (.ref a) :: some (.ref d) :: List.replicate n none) (none :: some .dr :: List.replicate n none) := by
  have q : DlAt (some (d, l)) H := fun d' l' e => by cases e; exact hD
  refine ⟨by simp, q, q, .refl _ _, fun p hp => (by cases hp), fun i s h => ?_, fun i j b c l1 l2 _ h _ => ?_⟩
  · match i with
    | 0 => cases h
    | 1 => cases Option.some.inj h; exact ⟨_, rfl, d, l, rfl, rfl⟩
    | i + 2 =>
      rw [List.getElem?_cons_succ, List.getElem?_cons_succ, List.getElem?_replicate] at h
      split at h <;> cases h
  · match i with
    | 0 => cases h
    | 1 => cases h
    | i + 2 =>
      rw [List.getElem?_cons_succ, List.getElem?_cons_succ, List.getElem?_replicate] at h
      split at h <;> cases h
theorem start_law {K : PySem.W.Frag} {rest : TS} {X : XK} {n : Nat} {a : Addr} {ns : List Int} {H : Hp} {Q : VK} (hS : SqL K H a (ns.map V.int)) (hn : ns.length ≤ 63) (h : Sv K (none :: some .dr :: List.replicate n none) rest (retO fun x => x = .da (.bl true))) (q : ∀ H', Q (.bl true) H') :
    tSeq (tAsg (tCall (sp_Ldraw K) [] X (tCons (tVar 0) tNil)) (gName 1)) rest { nx := fun _ H' => Q .non H', rt := Q } (some (.ref a) :: none :: List.replicate n none) H := by
  refine ⟨.ref a, rfl, a, ns, rfl, hS, hn, fun d l H1 hd hl sm D1 => ?_⟩
  refine h H1 (some (d, l)) [] _ H1 _ (env_draw D1.y n) (fun _ _ _ o _ _ => ?_) (fun _ _ _ o => o.elim) (fun _ _ _ o => o.elim) (fun x v H' o m dy r => ?_) (fun _ _ _ _ o => o.elim)
  · cases o
  · obtain rfl : x = .da (.bl true) := o
    have e := vl_atm r rfl
    subst e
    exact q H'
theorem sp2_sg {sp s v : List Nat} (h : Sp2 sp s v) (hs : ∀ c ∈ s, c ∈ SG) (hp : ∀ c ∈ sp ++ [110, 116], c ∈ SG) : ∀ c ∈ v, c ∈ SG := by
  induction h with
  | nil => exact hs
  | es hd _ _ ih =>
    intro x hx
    rcases List.mem_cons.mp hx with rfl | hx
    · decide
    · rcases List.mem_cons.mp hx with rfl | hx
      · exact hp _ hd
      · exact ih (fun y hy => hs y (List.mem_cons_of_mem _ hy)) x hx
  | raw _ _ ih =>
    intro x hx
    rcases List.mem_cons.mp hx with rfl | hx
    · exact hs _ (List.mem_cons_self ..)
    · exact ih (fun y hy => hs y (List.mem_cons_of_mem _ hy)) x hx
theorem wrp_sg {m : Nat} {p : Pt} {v : List Nat} (h : WrP p v) (o : PtOk m p) : ∀ c ∈ v, c ∈ SG := by
  cases h with
  | te h => exact sp2_sg h o.2.2 (by decide)
  | wh => decide
  | gr0 => exact sg_app (fun c hc => (List.mem_cons.mp hc).elim (fun e => by subst e; decide) (o.1.sg c)) (by decide)
  | gr1 h => exact sg_app (fun c hc => by
      rcases List.mem_append.mp hc with hc | hc
      · exact (List.mem_cons.mp hc).elim (fun e => by subst e; decide) (o.1.sg c)
      · exact (List.mem_cons.mp hc).elim (fun e => by subst e; decide) (sp2_sg h o.2.2 (by decide) c)) (by decide)
theorem wrt_sg {m : Nat} {ps : List Pt} {v : List Nat} (h : WrT ps v) (o : ∀ p ∈ ps, PtOk m p) : ∀ c ∈ v, c ∈ SG := by
  induction h with
  | nil => intro c hc; cases hc
  | cons g _ ih => exact sg_app (wrp_sg g (o _ (List.mem_cons_self ..))) (ih fun p hp => o p (List.mem_cons_of_mem _ hp))
theorem ok_law (T : Top K mg) : FnOk P T.tw K mg base CX0 8 T.f_law T.fd_law ["_law_script"] (sp_law K) := by
  refine T.F_law.ok sc_law (fun vs H Q E h => ?_) (fun cdv A outer s H vs Q E hr h => ?_)
  · obtain ⟨a, ns, rfl, _⟩ := h
    rfl
  · obtain ⟨a, ns, rfl, hS, hn, q⟩ := h
    refine ⟨_, (pss_cons (ps_set (i := 1) sc_law.nd rfl (Or.inl rfl) (pe_call (ok_Ldraw T) (hr.mono (by decide)) (by rfl) T.g_Ldraw T.F_Ldraw.kp T.B_Ldraw .nil pass0 (pa_cons (pv 0) pa_nil)))
       (pss_cons (ps_set (i := 2) sc_law.nd rfl (Or.inl rfl) (pe_call (ok_Ltemplate T) (hr.mono (by decide)) (by rfl) T.g_Ltemplate T.F_Ltemplate.kp T.B_Ltemplate .nil pass0 (pa_cons (pv 1) (pa_cons (pe_op op_add pe_int (pe_call (ok_Lnext T) (hr.mono (by decide)) (by rfl) T.g_Lnext T.F_Lnext.kp T.B_Lnext .nil pass0 (pa_cons (pv 1) (pa_cons pe_int pa_nil)))) (pa_cons pe_int pa_nil)))))
       (pss_cons (ps_set (i := 3) sc_law.nd rfl (Or.inl rfl) (pe_lst (pa_cons (pe_call (ok_Lwritten T) (hr.mono (by decide)) (by rfl) T.g_Lwritten T.F_Lwritten.kp T.B_Lwritten .nil pass0 (pa_cons (pv 1) (pa_cons (pv 2) (pa_cons pe_bl pa_nil)))) pa_nil)))
       (pss_cons (ps_for PassesOwn.never rfl (pi_range1 rfl T.b_range (pa_cons pe_int pa_nil)) (pg_name (i := 4) sc_law.nd rfl (Or.inl rfl))
       (pss_one (ps_expr (pe_bm PySem.F.plainAttrs_list PySem.F.slot_list_append PySem.F.type_list_append mt_append (pv 3) (pa_cons (pe_call (ok_Lspoilt T) (hr.mono (by decide)) (by rfl) T.g_Lspoilt T.F_Lspoilt.kp T.B_Lspoilt .nil pass0 (pa_cons (pv 1) (pa_cons (pe_ix (r := rIxL K) ix_list (pv 3) pe_int (fun _ _ => rfl)) pa_nil))) pa_nil)))))
       (pss_cons (ps_expr (pe_bm PySem.F.plainAttrs_list PySem.F.slot_list_append PySem.F.type_list_append mt_append (pv 3) (pa_cons (pe_call (ok_Lspoilt T) (hr.mono (by decide)) (by rfl) T.g_Lspoilt T.F_Lspoilt.kp T.B_Lspoilt .nil pass0 (pa_cons (pv 1) (pa_cons (pe_ix (r := rIxL K) ix_list (pv 3) pe_int (fun _ _ => rfl)) pa_nil))) pa_nil)))
       (pss_cons (ps_for PassesOwn.never rfl (pi_range1 rfl T.b_range (pa_cons pe_int pa_nil)) (pg_name (i := 4) sc_law.nd rfl (Or.inl rfl))
       (pss_one (ps_for PassesOwn.never rfl (pi_list (pv 3)) (pg_name (i := 5) sc_law.nd rfl (Or.inl rfl))
       (pss_one (ps_if (pt_not (pt_val (pe_call (ok_Lright T) (hr.mono (by decide)) (by rfl) T.g_Lright T.F_Lright.kp T.B_Lright .nil pass0 (pa_cons (pv 5) pa_nil)))) (pss_one (ps_ret pe_bl)) pss_nil)))))
       (pss_one (ps_ret pe_bl)))))))), start_law (n := 4) hS hn ?_ q⟩
    walk_at "d0"
    walk_at "ds"
    refine k_dr_next (by decide) (fun r r0 r1 => ?_)
    walk_at "ds"
    refine ⟨1 + r, 5, rfl, by omega, by omega, by decide, by decide, fun p hp => ⟨trivial, ?_⟩⟩
    have hp := hp.mono (k2 := 4) (m2 := 5) (by omega) (by decide)
    have hlen := hp.len
    walk_at "ds"
    refine ⟨p, 5, true, rfl, hp.ok, by decide, by omega, fun w0 hw0 _ => ⟨trivial, ?_⟩⟩
    have w100 : w0.length ≤ 100 := by
      have := hw0.len (k := 0) hp.ok
      have h2 : (2 * 5 + 15) * p.length ≤ 25 * 4 := Nat.mul_le_mul (by decide) hlen
      omega
    have wsg := wrt_sg hw0 hp.ok
    walk_at "ds"
    rename_i pa
    refine k_r1 ⟨by decide, by decide⟩ ?_
    refine k_forI (fun i e => ∃ us : List (List Nat), e = [none, some .dr, some (.vl (.tup (p.map ptD))), some (.own pa ((w0 :: us).map fun u => .str (tx u))), none, none] ∧ us.length = i ∧ ∀ u ∈ us, (∀ c ∈ u, c ∈ SG) ∧ u.length ≤ 240) ⟨_, ?_, [], rfl, rfl, fun u hu => (by cases hu)⟩ (fun _ _ _ => trivial) (fun i d e hd hI => ?_) (fun e hI => ?_)
    · walk_at "wk"
    · obtain ⟨us, rfl, li, hu⟩ := hI
      have hi := (List.getElem?_eq_some_iff.mp hd).1
      rw [List.length_map, List.length_range] at hi
      obtain rfl : d = .int (i : Nat) := by
        rw [List.getElem?_map, List.getElem?_range hi] at hd
        cases hd; rfl
      have i5 : i < 5 := hi
      walk_at "ds"
      refine ⟨_, atI_zero rfl, ?_⟩
      walk_at "ds"
      refine ⟨w0, rfl, wsg, by omega, fun u h1 h2 => ⟨trivial, ?_⟩⟩
      walk_at "ds"
      refine ⟨toLineB (by rw [List.length_map, List.length_cons]; omega), ?_⟩
      walk_at "ds"
      refine ⟨_, ?_, us ++ [u], rfl, by rw [List.length_append, List.length_singleton, li], fun x hx => ?_⟩
      · rw [show (w0 :: (us ++ [u])).map (fun u => Da.str (tx u)) = (w0 :: us).map (fun u => Da.str (tx u)) ++ [Da.str (tx u)] by simp]
        walk_at "wk"
      · rcases List.mem_append.mp hx with hx | hx
        · exact hu x hx
        · rw [List.mem_singleton.mp hx]; exact ⟨h1, by omega⟩
    · obtain ⟨us, rfl, li, hu⟩ := hI
      rw [List.length_map, List.length_range] at li
      refine ⟨.of rfl, ?_⟩
      cases us with
      | nil => cases li
      | cons u1 us =>
        have hu1 := hu u1 (List.mem_cons_self ..)
        have l4 : us.length = 4 := by
          rw [List.length_cons] at li
          have : (Int.toNat 5) = 5 := rfl
          omega
        walk_at "ds"
        refine ⟨_, (show atI _ ((1 : Nat) : Int) = some _ from atI_nat rfl), ?_⟩
        walk_at "ds"
        refine ⟨u1, rfl, hu1.1, by have := hu1.2; omega, fun x h1 h2 => ⟨trivial, ?_⟩⟩
        walk_at "ds"
        refine ⟨toLineB (by rw [List.length_map, List.length_cons, List.length_cons]; omega), ?_⟩
        walk_at "ds"
        obtain ⟨L, hL⟩ : ∃ L : List Da, L = (w0 :: u1 :: us).map (fun u => Da.str (tx u)) ++ [Da.str (tx x)] := ⟨_, rfl⟩
        have hall : ∀ d ∈ L, ∃ y : List Nat, d = .str (tx y) ∧ (∀ c ∈ y, c ∈ SG) ∧ y.length ≤ 9000 := fun d hd => by
          rw [hL] at hd
          rcases List.mem_append.mp hd with hd | hd
          · obtain ⟨y, hy, rfl⟩ := List.mem_map.mp hd
            rcases List.mem_cons.mp hy with rfl | hy
            · exact ⟨_, rfl, wsg, by omega⟩
            · exact ⟨_, rfl, (hu y hy).1, by have := (hu y hy).2; omega⟩
          · rw [List.mem_singleton.mp hd]
            exact ⟨_, rfl, h1, by have := hu1.2; omega⟩
        rw [← hL]
        refine k_r1 ⟨by decide, by decide⟩ ?_
        refine k_forI (fun i e => e = [none, some .dr, some (.vl (.tup (p.map ptD))), some (.own pa L), none, none]) ⟨_, ?_, rfl⟩ (fun _ _ _ => trivial) (fun i d e hd hI => ?_) (fun e hI => ?_)
        · walk_at "wk"
        · subst hI
          rw [List.getElem?_map] at hd
          obtain ⟨z, hz, rfl⟩ := Option.map_eq_some_iff.mp hd
          walk_at "ds"
          refine k_forI (fun i e => e = [none, some .dr, some (.vl (.tup (p.map ptD))), some (.own pa L), none, none]) ⟨_, ?_, rfl⟩ (fun _ _ h => by subst h; rfl) (fun i d e hd hI => ?_) (fun e hI => ?_)
          · walk_at "wk"
          · subst hI
            obtain ⟨y, rfl, y1, y2⟩ := hall d (List.mem_of_getElem? hd)
            walk_at "ds"
            refine ⟨y, rfl, y1, y2, trivial, ?_⟩
            walk_at "ds"
            walk_at "wk"
          · subst hI
            refine ⟨.of rfl, ?_⟩
            walk_at "ds"
            walk_at "wk"
        · subst hI
          refine ⟨.of rfl, ?_⟩
          walk_at "ds"
          rfl
end
end My
namespace My
open PySem L2
theorem kit_self {K : PySem.W.Frag} {C : Addr} : PySem.W.kitOne K (.ref C) (.ref C) = some true := by
  unfold PySem.W.kitOne
  rw [if_pos (beq_self_eq_true _)]
theorem kit_ref {K : PySem.W.Frag} {C D : Addr} {b : Bool} (hc : PySem.W.isClsIn K D = true) (ht : PySem.W.typeIn K (.ref D) = some (.type "type")) (hs : PySem.W.subIn K (.ref C) (.ref D) = some b) (hcc : PySem.W.subIn K (.ref C) (.ref C) = some true) : PySem.W.kitOne K (.ref C) (.ref D) = some b := by
  by_cases e : C = D
  · subst e
    rw [hcc] at hs
    cases hs
    exact kit_self
  · have e2 : ((Value.ref C) == (Value.ref D)) = false := by
      cases h : ((Value.ref C) == (Value.ref D)) with
      | false => rfl
      | true => exact absurd (beq_iff_eq.mp h) (fun z => e (by cases z; rfl))
    have e3 : (PySem.W.clsIn K D).isSome = true := hc
    unfold PySem.W.kitOne
    rw [if_neg (by rw [e2]; decide)]
    unfold PySem.W.kitCls
    dsimp only
    rw [if_pos (by rw [e3, ht]; simp)]
    exact hs
theorem kit_vE {K : PySem.W.Frag} {C : Addr} {b : Bool} (hs : PySem.W.subIn K (.ref C) (.type "ValueError") = some b) : PySem.W.kitOne K (.ref C) (.type "ValueError") = some b := by
  have e2 : ((Value.ref C) == (Value.type "ValueError")) = false := by
    cases h : ((Value.ref C) == (Value.type "ValueError")) with
    | false => rfl
    | true => exact absurd (beq_iff_eq.mp h) (fun z => by cases z)
  unfold PySem.W.kitOne
  rw [if_neg (by rw [e2]; decide)]
  unfold PySem.W.kitCls
  dsimp only
  rw [if_pos (show PySem.W.kitMeta "ValueError" = true by decide +kernel)]
  exact hs
theorem exm_of {K : PySem.W.Frag} {D : Addr} {c : Value} {b : Bool} (h1 : PySem.W.subIn K (.ref D) (.type "BaseException") = some true) (h2 : PySem.W.hasDictIn K D = true) (h3 : PySem.W.typeIn K (.ref D) = some (.type "type")) (h4 : PySem.W.subIn K c (.ref D) = some b) : PySem.W.exmOne K c (.ref D) = some b := PySem.W.exm_ref h1 h2 h3 h4
set_option maxHeartbeats 0 in
theorem all_mk {l : PySem.W.OpenLaw} {w : World} {K : PySem.W.Frag} {h : Heap} {mg : Str → Option Value} {fa : Addr} (X : K.In h) (G : h.Ns mainGlobals mg) (hfa : mg "law" = some (.ref fa))
    {f_read_template : Addr} {od_read_template an_read_template : Option Addr} {sl_read_template : Array (Option Value)} {oc_read_template kV_read_template dc_read_template pm_read_template cd_read_template ct_read_template : Value} (a_read_template : PySem.W.nsIn K mainGlobals "read_template" = some (some (.ref f_read_template))) (l_read_template : K.lookup f_read_template = some ⟨oc_read_template, od_read_template, .func (PySem.W.fnOf "read_template" "read_template" (defArgs s_read_template) (defBody s_read_template) (defScope s_read_template) .none kV_read_template dc_read_template pm_read_template an_read_template cd_read_template ct_read_template), sl_read_template⟩) (c_read_template : PySem.W.codeIn K cd_read_template "read_template" = true) (k_read_template : PySem.W.keepIn K (.ref f_read_template) = true)
    {f_read_brace : Addr} {od_read_brace an_read_brace : Option Addr} {sl_read_brace : Array (Option Value)} {oc_read_brace kV_read_brace dc_read_brace pm_read_brace cd_read_brace ct_read_brace : Value} (a_read_brace : PySem.W.nsIn K mainGlobals "read_brace" = some (some (.ref f_read_brace))) (l_read_brace : K.lookup f_read_brace = some ⟨oc_read_brace, od_read_brace, .func (PySem.W.fnOf "read_brace" "read_brace" (defArgs s_read_brace) (defBody s_read_brace) (defScope s_read_brace) .none kV_read_brace dc_read_brace pm_read_brace an_read_brace cd_read_brace ct_read_brace), sl_read_brace⟩) (c_read_brace : PySem.W.codeIn K cd_read_brace "read_brace" = true) (k_read_brace : PySem.W.keepIn K (.ref f_read_brace) = true)
    {f_read_signs : Addr} {od_read_signs an_read_signs : Option Addr} {sl_read_signs : Array (Option Value)} {oc_read_signs kV_read_signs dc_read_signs pm_read_signs cd_read_signs ct_read_signs : Value} (a_read_signs : PySem.W.nsIn K mainGlobals "read_signs" = some (some (.ref f_read_signs))) (l_read_signs : K.lookup f_read_signs = some ⟨oc_read_signs, od_read_signs, .func (PySem.W.fnOf "read_signs" "read_signs" (defArgs s_read_signs) (defBody s_read_signs) (defScope s_read_signs) .none kV_read_signs dc_read_signs pm_read_signs an_read_signs cd_read_signs ct_read_signs), sl_read_signs⟩) (c_read_signs : PySem.W.codeIn K cd_read_signs "read_signs" = true) (k_read_signs : PySem.W.keepIn K (.ref f_read_signs) = true)
    {f_demand_sign : Addr} {od_demand_sign an_demand_sign : Option Addr} {sl_demand_sign : Array (Option Value)} {oc_demand_sign kV_demand_sign dc_demand_sign pm_demand_sign cd_demand_sign ct_demand_sign : Value} (a_demand_sign : PySem.W.nsIn K mainGlobals "demand_sign" = some (some (.ref f_demand_sign))) (l_demand_sign : K.lookup f_demand_sign = some ⟨oc_demand_sign, od_demand_sign, .func (PySem.W.fnOf "demand_sign" "demand_sign" (defArgs s_demand_sign) (defBody s_demand_sign) (defScope s_demand_sign) .none kV_demand_sign dc_demand_sign pm_demand_sign an_demand_sign cd_demand_sign ct_demand_sign), sl_demand_sign⟩) (c_demand_sign : PySem.W.codeIn K cd_demand_sign "demand_sign" = true) (k_demand_sign : PySem.W.keepIn K (.ref f_demand_sign) = true)
    {f_Ldraw : Addr} {od_Ldraw an_Ldraw : Option Addr} {sl_Ldraw : Array (Option Value)} {oc_Ldraw kV_Ldraw dc_Ldraw pm_Ldraw cd_Ldraw ct_Ldraw : Value} (a_Ldraw : PySem.W.nsIn K mainGlobals "_law_draw" = some (some (.ref f_Ldraw))) (l_Ldraw : K.lookup f_Ldraw = some ⟨oc_Ldraw, od_Ldraw, .func (PySem.W.fnOf "_law_draw" "_law_draw" (defArgs s_Ldraw) (defBody s_Ldraw) (defScope s_Ldraw) .none kV_Ldraw dc_Ldraw pm_Ldraw an_Ldraw cd_Ldraw ct_Ldraw), sl_Ldraw⟩) (c_Ldraw : PySem.W.codeIn K cd_Ldraw "_law_draw" = true) (k_Ldraw : PySem.W.keepIn K (.ref f_Ldraw) = true)
    {f_Lnext : Addr} {od_Lnext an_Lnext : Option Addr} {sl_Lnext : Array (Option Value)} {oc_Lnext kV_Lnext dc_Lnext pm_Lnext cd_Lnext ct_Lnext : Value} (a_Lnext : PySem.W.nsIn K mainGlobals "_law_next" = some (some (.ref f_Lnext))) (l_Lnext : K.lookup f_Lnext = some ⟨oc_Lnext, od_Lnext, .func (PySem.W.fnOf "_law_next" "_law_next" (defArgs s_Lnext) (defBody s_Lnext) (defScope s_Lnext) .none kV_Lnext dc_Lnext pm_Lnext an_Lnext cd_Lnext ct_Lnext), sl_Lnext⟩) (c_Lnext : PySem.W.codeIn K cd_Lnext "_law_next" = true) (k_Lnext : PySem.W.keepIn K (.ref f_Lnext) = true)
    {f_Lsigns : Addr} {od_Lsigns an_Lsigns : Option Addr} {sl_Lsigns : Array (Option Value)} {oc_Lsigns kV_Lsigns dc_Lsigns pm_Lsigns cd_Lsigns ct_Lsigns : Value} (a_Lsigns : PySem.W.nsIn K mainGlobals "_law_signs" = some (some (.ref f_Lsigns))) (l_Lsigns : K.lookup f_Lsigns = some ⟨oc_Lsigns, od_Lsigns, .func (PySem.W.fnOf "_law_signs" "_law_signs" (defArgs s_Lsigns) (defBody s_Lsigns) (defScope s_Lsigns) .none kV_Lsigns dc_Lsigns pm_Lsigns an_Lsigns cd_Lsigns ct_Lsigns), sl_Lsigns⟩) (c_Lsigns : PySem.W.codeIn K cd_Lsigns "_law_signs" = true) (k_Lsigns : PySem.W.keepIn K (.ref f_Lsigns) = true)
    {f_Lint : Addr} {od_Lint an_Lint : Option Addr} {sl_Lint : Array (Option Value)} {oc_Lint kV_Lint dc_Lint pm_Lint cd_Lint ct_Lint : Value} (a_Lint : PySem.W.nsIn K mainGlobals "_law_int" = some (some (.ref f_Lint))) (l_Lint : K.lookup f_Lint = some ⟨oc_Lint, od_Lint, .func (PySem.W.fnOf "_law_int" "_law_int" (defArgs s_Lint) (defBody s_Lint) (defScope s_Lint) .none kV_Lint dc_Lint pm_Lint an_Lint cd_Lint ct_Lint), sl_Lint⟩) (c_Lint : PySem.W.codeIn K cd_Lint "_law_int" = true) (k_Lint : PySem.W.keepIn K (.ref f_Lint) = true)
    {f_Lnew_name : Addr} {od_Lnew_name an_Lnew_name : Option Addr} {sl_Lnew_name : Array (Option Value)} {oc_Lnew_name kV_Lnew_name dc_Lnew_name pm_Lnew_name cd_Lnew_name ct_Lnew_name : Value} (a_Lnew_name : PySem.W.nsIn K mainGlobals "_law_new_name" = some (some (.ref f_Lnew_name))) (l_Lnew_name : K.lookup f_Lnew_name = some ⟨oc_Lnew_name, od_Lnew_name, .func (PySem.W.fnOf "_law_new_name" "_law_new_name" (defArgs s_Lnew_name) (defBody s_Lnew_name) (defScope s_Lnew_name) .none kV_Lnew_name dc_Lnew_name pm_Lnew_name an_Lnew_name cd_Lnew_name ct_Lnew_name), sl_Lnew_name⟩) (c_Lnew_name : PySem.W.codeIn K cd_Lnew_name "_law_new_name" = true) (k_Lnew_name : PySem.W.keepIn K (.ref f_Lnew_name) = true)
    {f_Lpiece : Addr} {od_Lpiece an_Lpiece : Option Addr} {sl_Lpiece : Array (Option Value)} {oc_Lpiece kV_Lpiece dc_Lpiece pm_Lpiece cd_Lpiece ct_Lpiece : Value} (a_Lpiece : PySem.W.nsIn K mainGlobals "_law_piece" = some (some (.ref f_Lpiece))) (l_Lpiece : K.lookup f_Lpiece = some ⟨oc_Lpiece, od_Lpiece, .func (PySem.W.fnOf "_law_piece" "_law_piece" (defArgs s_Lpiece) (defBody s_Lpiece) (defScope s_Lpiece) .none kV_Lpiece dc_Lpiece pm_Lpiece an_Lpiece cd_Lpiece ct_Lpiece), sl_Lpiece⟩) (c_Lpiece : PySem.W.codeIn K cd_Lpiece "_law_piece" = true) (k_Lpiece : PySem.W.keepIn K (.ref f_Lpiece) = true)
    {f_Ltemplate : Addr} {od_Ltemplate an_Ltemplate : Option Addr} {sl_Ltemplate : Array (Option Value)} {oc_Ltemplate kV_Ltemplate dc_Ltemplate pm_Ltemplate cd_Ltemplate ct_Ltemplate : Value} (a_Ltemplate : PySem.W.nsIn K mainGlobals "_law_template" = some (some (.ref f_Ltemplate))) (l_Ltemplate : K.lookup f_Ltemplate = some ⟨oc_Ltemplate, od_Ltemplate, .func (PySem.W.fnOf "_law_template" "_law_template" (defArgs s_Ltemplate) (defBody s_Ltemplate) (defScope s_Ltemplate) .none kV_Ltemplate dc_Ltemplate pm_Ltemplate an_Ltemplate cd_Ltemplate ct_Ltemplate), sl_Ltemplate⟩) (c_Ltemplate : PySem.W.codeIn K cd_Ltemplate "_law_template" = true) (k_Ltemplate : PySem.W.keepIn K (.ref f_Ltemplate) = true)
    {f_Lspelled : Addr} {od_Lspelled an_Lspelled : Option Addr} {sl_Lspelled : Array (Option Value)} {oc_Lspelled kV_Lspelled dc_Lspelled pm_Lspelled cd_Lspelled ct_Lspelled : Value} (a_Lspelled : PySem.W.nsIn K mainGlobals "_law_spelled" = some (some (.ref f_Lspelled))) (l_Lspelled : K.lookup f_Lspelled = some ⟨oc_Lspelled, od_Lspelled, .func (PySem.W.fnOf "_law_spelled" "_law_spelled" (defArgs s_Lspelled) (defBody s_Lspelled) (defScope s_Lspelled) .none kV_Lspelled dc_Lspelled pm_Lspelled an_Lspelled cd_Lspelled ct_Lspelled), sl_Lspelled⟩) (c_Lspelled : PySem.W.codeIn K cd_Lspelled "_law_spelled" = true) (k_Lspelled : PySem.W.keepIn K (.ref f_Lspelled) = true)
    {f_Lwritten : Addr} {od_Lwritten an_Lwritten : Option Addr} {sl_Lwritten : Array (Option Value)} {oc_Lwritten kV_Lwritten dc_Lwritten pm_Lwritten cd_Lwritten ct_Lwritten : Value} (a_Lwritten : PySem.W.nsIn K mainGlobals "_law_written" = some (some (.ref f_Lwritten))) (l_Lwritten : K.lookup f_Lwritten = some ⟨oc_Lwritten, od_Lwritten, .func (PySem.W.fnOf "_law_written" "_law_written" (defArgs s_Lwritten) (defBody s_Lwritten) (defScope s_Lwritten) .none kV_Lwritten dc_Lwritten pm_Lwritten an_Lwritten cd_Lwritten ct_Lwritten), sl_Lwritten⟩) (c_Lwritten : PySem.W.codeIn K cd_Lwritten "_law_written" = true) (k_Lwritten : PySem.W.keepIn K (.ref f_Lwritten) = true)
    {f_Lsame_template : Addr} {od_Lsame_template an_Lsame_template : Option Addr} {sl_Lsame_template : Array (Option Value)} {oc_Lsame_template kV_Lsame_template dc_Lsame_template pm_Lsame_template cd_Lsame_template ct_Lsame_template : Value} (a_Lsame_template : PySem.W.nsIn K mainGlobals "_law_same_template" = some (some (.ref f_Lsame_template))) (l_Lsame_template : K.lookup f_Lsame_template = some ⟨oc_Lsame_template, od_Lsame_template, .func (PySem.W.fnOf "_law_same_template" "_law_same_template" (defArgs s_Lsame_template) (defBody s_Lsame_template) (defScope s_Lsame_template) .none kV_Lsame_template dc_Lsame_template pm_Lsame_template an_Lsame_template cd_Lsame_template ct_Lsame_template), sl_Lsame_template⟩) (c_Lsame_template : PySem.W.codeIn K cd_Lsame_template "_law_same_template" = true) (k_Lsame_template : PySem.W.keepIn K (.ref f_Lsame_template) = true)
    {f_Lspoilt : Addr} {od_Lspoilt an_Lspoilt : Option Addr} {sl_Lspoilt : Array (Option Value)} {oc_Lspoilt kV_Lspoilt dc_Lspoilt pm_Lspoilt cd_Lspoilt ct_Lspoilt : Value} (a_Lspoilt : PySem.W.nsIn K mainGlobals "_law_spoilt" = some (some (.ref f_Lspoilt))) (l_Lspoilt : K.lookup f_Lspoilt = some ⟨oc_Lspoilt, od_Lspoilt, .func (PySem.W.fnOf "_law_spoilt" "_law_spoilt" (defArgs s_Lspoilt) (defBody s_Lspoilt) (defScope s_Lspoilt) .none kV_Lspoilt dc_Lspoilt pm_Lspoilt an_Lspoilt cd_Lspoilt ct_Lspoilt), sl_Lspoilt⟩) (c_Lspoilt : PySem.W.codeIn K cd_Lspoilt "_law_spoilt" = true) (k_Lspoilt : PySem.W.keepIn K (.ref f_Lspoilt) = true)
    {f_Lmeant : Addr} {od_Lmeant an_Lmeant : Option Addr} {sl_Lmeant : Array (Option Value)} {oc_Lmeant kV_Lmeant dc_Lmeant pm_Lmeant cd_Lmeant ct_Lmeant : Value} (a_Lmeant : PySem.W.nsIn K mainGlobals "_law_meant" = some (some (.ref f_Lmeant))) (l_Lmeant : K.lookup f_Lmeant = some ⟨oc_Lmeant, od_Lmeant, .func (PySem.W.fnOf "_law_meant" "_law_meant" (defArgs s_Lmeant) (defBody s_Lmeant) (defScope s_Lmeant) .none kV_Lmeant dc_Lmeant pm_Lmeant an_Lmeant cd_Lmeant ct_Lmeant), sl_Lmeant⟩) (c_Lmeant : PySem.W.codeIn K cd_Lmeant "_law_meant" = true) (k_Lmeant : PySem.W.keepIn K (.ref f_Lmeant) = true)
    {f_Lnamed : Addr} {od_Lnamed an_Lnamed : Option Addr} {sl_Lnamed : Array (Option Value)} {oc_Lnamed kV_Lnamed dc_Lnamed pm_Lnamed cd_Lnamed ct_Lnamed : Value} (a_Lnamed : PySem.W.nsIn K mainGlobals "_law_named" = some (some (.ref f_Lnamed))) (l_Lnamed : K.lookup f_Lnamed = some ⟨oc_Lnamed, od_Lnamed, .func (PySem.W.fnOf "_law_named" "_law_named" (defArgs s_Lnamed) (defBody s_Lnamed) (defScope s_Lnamed) .none kV_Lnamed dc_Lnamed pm_Lnamed an_Lnamed cd_Lnamed ct_Lnamed), sl_Lnamed⟩) (c_Lnamed : PySem.W.codeIn K cd_Lnamed "_law_named" = true) (k_Lnamed : PySem.W.keepIn K (.ref f_Lnamed) = true)
    {f_Lstepped : Addr} {od_Lstepped an_Lstepped : Option Addr} {sl_Lstepped : Array (Option Value)} {oc_Lstepped kV_Lstepped dc_Lstepped pm_Lstepped cd_Lstepped ct_Lstepped : Value} (a_Lstepped : PySem.W.nsIn K mainGlobals "_law_stepped" = some (some (.ref f_Lstepped))) (l_Lstepped : K.lookup f_Lstepped = some ⟨oc_Lstepped, od_Lstepped, .func (PySem.W.fnOf "_law_stepped" "_law_stepped" (defArgs s_Lstepped) (defBody s_Lstepped) (defScope s_Lstepped) .none kV_Lstepped dc_Lstepped pm_Lstepped an_Lstepped cd_Lstepped ct_Lstepped), sl_Lstepped⟩) (c_Lstepped : PySem.W.codeIn K cd_Lstepped "_law_stepped" = true) (k_Lstepped : PySem.W.keepIn K (.ref f_Lstepped) = true)
    {f_Lread : Addr} {od_Lread an_Lread : Option Addr} {sl_Lread : Array (Option Value)} {oc_Lread kV_Lread dc_Lread pm_Lread cd_Lread ct_Lread : Value} (a_Lread : PySem.W.nsIn K mainGlobals "_law_read" = some (some (.ref f_Lread))) (l_Lread : K.lookup f_Lread = some ⟨oc_Lread, od_Lread, .func (PySem.W.fnOf "_law_read" "_law_read" (defArgs s_Lread) (defBody s_Lread) (defScope s_Lread) .none kV_Lread dc_Lread pm_Lread an_Lread cd_Lread ct_Lread), sl_Lread⟩) (c_Lread : PySem.W.codeIn K cd_Lread "_law_read" = true) (k_Lread : PySem.W.keepIn K (.ref f_Lread) = true)
    {f_Lright : Addr} {od_Lright an_Lright : Option Addr} {sl_Lright : Array (Option Value)} {oc_Lright kV_Lright dc_Lright pm_Lright cd_Lright ct_Lright : Value} (a_Lright : PySem.W.nsIn K mainGlobals "_law_right" = some (some (.ref f_Lright))) (l_Lright : K.lookup f_Lright = some ⟨oc_Lright, od_Lright, .func (PySem.W.fnOf "_law_right" "_law_right" (defArgs s_Lright) (defBody s_Lright) (defScope s_Lright) .none kV_Lright dc_Lright pm_Lright an_Lright cd_Lright ct_Lright), sl_Lright⟩) (c_Lright : PySem.W.codeIn K cd_Lright "_law_right" = true) (k_Lright : PySem.W.keepIn K (.ref f_Lright) = true)
    {f_law : Addr} {od_law an_law : Option Addr} {sl_law : Array (Option Value)} {oc_law kV_law dc_law pm_law cd_law ct_law : Value} (a_law : PySem.W.nsIn K mainGlobals "law" = some (some (.ref f_law))) (l_law : K.lookup f_law = some ⟨oc_law, od_law, .func (PySem.W.fnOf "law" "law" (defArgs s_law) (defBody s_law) (defScope s_law) .none kV_law dc_law pm_law an_law cd_law ct_law), sl_law⟩) (c_law : PySem.W.codeIn K cd_law "law" = true) (k_law : PySem.W.keepIn K (.ref f_law) = true)
    {c_TemplateFault : Addr} (ac_TemplateFault : PySem.W.nsIn K mainGlobals "TemplateFault" = some (some (.ref c_TemplateFault)))
    {c_SpanError : Addr} (ac_SpanError : PySem.W.nsIn K mainGlobals "SpanError" = some (some (.ref c_SpanError)))
    {c_PatternFault : Addr} (ac_PatternFault : PySem.W.nsIn K mainGlobals "PatternFault" = some (some (.ref c_PatternFault)))
    {c_UnknownGroup : Addr} (ac_UnknownGroup : PySem.W.nsIn K mainGlobals "UnknownGroup" = some (some (.ref c_UnknownGroup)))
    {c_BadTree : Addr} (ac_BadTree : PySem.W.nsIn K mainGlobals "BadTree" = some (some (.ref c_BadTree)))
    {c_NotRegular : Addr} (ac_NotRegular : PySem.W.nsIn K mainGlobals "NotRegular" = some (some (.ref c_NotRegular)))
    {c_NotPlain : Addr} (ac_NotPlain : PySem.W.nsIn K mainGlobals "NotPlain" = some (some (.ref c_NotPlain)))
    {c_StreamClosed : Addr} (ac_StreamClosed : PySem.W.nsIn K mainGlobals "StreamClosed" = some (some (.ref c_StreamClosed)))
    {c_OutOfSteps : Addr} (ac_OutOfSteps : PySem.W.nsIn K mainGlobals "OutOfSteps" = some (some (.ref c_OutOfSteps)))
    {c_TooManyStates : Addr} (ac_TooManyStates : PySem.W.nsIn K mainGlobals "TooManyStates" = some (some (.ref c_TooManyStates)))
    {c_TooManyAnswers : Addr} (ac_TooManyAnswers : PySem.W.nsIn K mainGlobals "TooManyAnswers" = some (some (.ref c_TooManyAnswers)))
    {c_NoSuchText : Addr} (ac_NoSuchText : PySem.W.nsIn K mainGlobals "NoSuchText" = some (some (.ref c_NoSuchText)))
    {nm_TemplateFault q_TemplateFault : Str} {N_TemplateFault : Addr} {bs_TemplateFault : List Value} {sn_TemplateFault : List Str} {sub_TemplateFault : List Value} {ab_TemplateFault : Bool} {col_TemplateFault : Option Bool} {dd_TemplateFault : Option Addr} {m0_TemplateFault m1_TemplateFault m2_TemplateFault m3_TemplateFault m5_TemplateFault : Option Value} (xL_TemplateFault : K.lookup c_TemplateFault = some (PySem.excClassObj nm_TemplateFault q_TemplateFault c_TemplateFault N_TemplateFault bs_TemplateFault [.ref c_SpanError, .type "ValueError", .type "Exception", .type "BaseException", .type "object"] true sn_TemplateFault sub_TemplateFault ab_TemplateFault col_TemplateFault dd_TemplateFault m0_TemplateFault m1_TemplateFault m2_TemplateFault m3_TemplateFault m5_TemplateFault "ValueError.__new__"))
    (sa_TemplateFault : PySem.W.findIn K (.ref c_TemplateFault) "__setattr__" = some (some (.builtin "object.__setattr__"))) (ga_TemplateFault : PySem.W.findIn K (.ref c_TemplateFault) "__getattribute__" = some (some (.builtin "BaseException.__getattribute__"))) (gg_TemplateFault : PySem.W.findIn K (.ref c_TemplateFault) "__getattr__" = some none) (no_TemplateFault : PySem.W.findIn K (.ref c_TemplateFault) "index" = some none)
    (kc_TemplateFault : PySem.W.keepIn K (.ref c_TemplateFault) = true) (eC_TemplateFault : PySem.W.subIn K (.ref c_TemplateFault) (.type "BaseException") = some true) (tC_TemplateFault : PySem.W.typeIn K (.ref c_TemplateFault) = some (.type "type")) (hC_TemplateFault : PySem.W.hasDictIn K c_TemplateFault = true) (iC_TemplateFault : PySem.W.isClsIn K c_TemplateFault = true) (ha_TemplateFault : PySem.W.findIn K (.ref c_TemplateFault) "__class__" = some (some (.builtin "object.__class__"))) (hn_TemplateFault : PySem.W.specialIn K (.builtin "object.__class__") "__get__" = some (some (.builtin "getset_descriptor.__get__"))) (ht_TemplateFault : PySem.W.takesIn K (.builtin "object.__class__") = some true) (hm_TemplateFault : PySem.W.mroIn K c_TemplateFault (.type "object") = some true)
    (kq_TemplateFault_TemplateFault : PySem.W.subIn K (.ref c_TemplateFault) (.ref c_TemplateFault) = some true)
    (kq_TemplateFault_ValueError : PySem.W.subIn K (.ref c_TemplateFault) (.type "ValueError") = some true)
    (kq_TemplateFault_PatternFault : PySem.W.subIn K (.ref c_TemplateFault) (.ref c_PatternFault) = some false)
    (kq_TemplateFault_UnknownGroup : PySem.W.subIn K (.ref c_TemplateFault) (.ref c_UnknownGroup) = some false)
    (kq_TemplateFault_BadTree : PySem.W.subIn K (.ref c_TemplateFault) (.ref c_BadTree) = some false)
    (kq_TemplateFault_NotRegular : PySem.W.subIn K (.ref c_TemplateFault) (.ref c_NotRegular) = some false)
    (kq_TemplateFault_NotPlain : PySem.W.subIn K (.ref c_TemplateFault) (.ref c_NotPlain) = some false)
    (kq_TemplateFault_StreamClosed : PySem.W.subIn K (.ref c_TemplateFault) (.ref c_StreamClosed) = some false)
    (kq_TemplateFault_OutOfSteps : PySem.W.subIn K (.ref c_TemplateFault) (.ref c_OutOfSteps) = some false)
    (kq_TemplateFault_TooManyStates : PySem.W.subIn K (.ref c_TemplateFault) (.ref c_TooManyStates) = some false)
    (kq_TemplateFault_TooManyAnswers : PySem.W.subIn K (.ref c_TemplateFault) (.ref c_TooManyAnswers) = some false)
    (kq_TemplateFault_NoSuchText : PySem.W.subIn K (.ref c_TemplateFault) (.ref c_NoSuchText) = some false)
    (ex_TemplateFault : PySem.W.subIn K (.ref c_TemplateFault) (.ref c_SpanError) = some true)
    (jc_SpanError : PySem.W.isClsIn K c_SpanError = true) (jt_SpanError : PySem.W.typeIn K (.ref c_SpanError) = some (.type "type"))
    (jc_PatternFault : PySem.W.isClsIn K c_PatternFault = true) (jt_PatternFault : PySem.W.typeIn K (.ref c_PatternFault) = some (.type "type"))
    (jc_UnknownGroup : PySem.W.isClsIn K c_UnknownGroup = true) (jt_UnknownGroup : PySem.W.typeIn K (.ref c_UnknownGroup) = some (.type "type"))
    (jc_BadTree : PySem.W.isClsIn K c_BadTree = true) (jt_BadTree : PySem.W.typeIn K (.ref c_BadTree) = some (.type "type"))
    (jc_NotRegular : PySem.W.isClsIn K c_NotRegular = true) (jt_NotRegular : PySem.W.typeIn K (.ref c_NotRegular) = some (.type "type"))
    (jc_NotPlain : PySem.W.isClsIn K c_NotPlain = true) (jt_NotPlain : PySem.W.typeIn K (.ref c_NotPlain) = some (.type "type"))
    (jc_StreamClosed : PySem.W.isClsIn K c_StreamClosed = true) (jt_StreamClosed : PySem.W.typeIn K (.ref c_StreamClosed) = some (.type "type"))
    (jc_OutOfSteps : PySem.W.isClsIn K c_OutOfSteps = true) (jt_OutOfSteps : PySem.W.typeIn K (.ref c_OutOfSteps) = some (.type "type"))
    (jc_TooManyStates : PySem.W.isClsIn K c_TooManyStates = true) (jt_TooManyStates : PySem.W.typeIn K (.ref c_TooManyStates) = some (.type "type"))
    (jc_TooManyAnswers : PySem.W.isClsIn K c_TooManyAnswers = true) (jt_TooManyAnswers : PySem.W.typeIn K (.ref c_TooManyAnswers) = some (.type "type"))
    (jc_NoSuchText : PySem.W.isClsIn K c_NoSuchText = true) (jt_NoSuchText : PySem.W.typeIn K (.ref c_NoSuchText) = some (.type "type"))
    (jb_SpanError : PySem.W.subIn K (.ref c_SpanError) (.type "BaseException") = some true) (jd_SpanError : PySem.W.hasDictIn K c_SpanError = true)
    {f_TemplateFault_Minit : Addr} {od_TemplateFault_Minit an_TemplateFault_Minit : Option Addr} {sl_TemplateFault_Minit : Array (Option Value)} {oc_TemplateFault_Minit kV_TemplateFault_Minit dc_TemplateFault_Minit pm_TemplateFault_Minit cd_TemplateFault_Minit ct_TemplateFault_Minit : Value}
    (a_TemplateFault_Minit : PySem.W.findIn K (.ref c_TemplateFault) "__init__" = some (some (.ref f_TemplateFault_Minit))) (i_TemplateFault_Minit : PySem.W.isFn K (.ref f_TemplateFault_Minit) = true)
    (l_TemplateFault_Minit : K.lookup f_TemplateFault_Minit = some ⟨oc_TemplateFault_Minit, od_TemplateFault_Minit, .func (PySem.W.fnOf "__init__" "TemplateFault.__init__" (defArgs s_TemplateFault_Minit) (defBody s_TemplateFault_Minit) (defScope s_TemplateFault_Minit) .none kV_TemplateFault_Minit dc_TemplateFault_Minit pm_TemplateFault_Minit an_TemplateFault_Minit cd_TemplateFault_Minit ct_TemplateFault_Minit), sl_TemplateFault_Minit⟩) (c_TemplateFault_Minit : PySem.W.codeIn K cd_TemplateFault_Minit "TemplateFault.__init__" = true) (k_TemplateFault_Minit : PySem.W.keepIn K (.ref f_TemplateFault_Minit) = true)
    (ti_TemplateFault : PySem.W.typeIn K (.ref f_TemplateFault_Minit) = some (.type "function"))
    {t_NAME_STARTS : Tok} (v_NAME_STARTS : PySem.W.nsIn K mainGlobals "NAME_STARTS" = some (some (.str "abcdefghijklmnopqrstuvwxyz" t_NAME_STARTS)))
    {t_NAME_SIGNS : Tok} (v_NAME_SIGNS : PySem.W.nsIn K mainGlobals "NAME_SIGNS" = some (some (.str "0123456789_abcdefghijklmnopqrstuvwxyz" t_NAME_SIGNS)))
    {t_NAME_LENGTH : Tok} (v_NAME_LENGTH : PySem.W.nsIn K mainGlobals "NAME_LENGTH" = some (some (.int 12 t_NAME_LENGTH)))
    {d_ESCAPED : Addr} (v_ESCAPED : PySem.W.nsIn K mainGlobals "ESCAPED" = some (some (.ref d_ESCAPED))) {h1_ESCAPED h2_ESCAPED : Int} {t1_ESCAPED t2_ESCAPED u1_ESCAPED u2_ESCAPED : Tok} {n_ESCAPED : Nat} (l_ESCAPED : K.lookup d_ESCAPED = some ⟨.type "dict", none, .dict #[⟨h1_ESCAPED, .str "n" t1_ESCAPED, .str "\n" u1_ESCAPED⟩, ⟨h2_ESCAPED, .str "t" t2_ESCAPED, .str "\t" u2_ESCAPED⟩] n_ESCAPED, #[]⟩) (h1e_ESCAPED : h1_ESCAPED = PyData.keyHash w.params "n") (h2e_ESCAPED : h2_ESCAPED = PyData.keyHash w.params "t") (lo_ESCAPED : (d_ESCAPED == sysModules) = false)
    {t_TEXT_SPECIALS : Tok} (v_TEXT_SPECIALS : PySem.W.nsIn K mainGlobals "TEXT_SPECIALS" = some (some (.str "\\{}" t_TEXT_SPECIALS)))
    {t_OTHER_SPECIALS : Tok} (v_OTHER_SPECIALS : PySem.W.nsIn K mainGlobals "OTHER_SPECIALS" = some (some (.str "\\{}|" t_OTHER_SPECIALS)))
    (z_ValueError : PySem.W.nsIn K mainGlobals "ValueError" = some none)
    (z_bool : PySem.W.nsIn K mainGlobals "bool" = some none)
    (z_int : PySem.W.nsIn K mainGlobals "int" = some none)
    (z_isinstance : PySem.W.nsIn K mainGlobals "isinstance" = some none)
    (z_len : PySem.W.nsIn K mainGlobals "len" = some none)
    (z_range : PySem.W.nsIn K mainGlobals "range" = some none)
    (z_str : PySem.W.nsIn K mainGlobals "str" = some none)
    (z_tuple : PySem.W.nsIn K mainGlobals "tuple" = some none)
    : ∃ fd : FuncData, (∀ (s : Shared) (v : Value), BindsTo s fd ⟨[v], []⟩ [("_law_script", v)]) ∧ ∀ base : Heap, K.In base → base.Ns mainGlobals mg → FnOk l.prog w K mg base CX0 8 fa fd ["_law_script"] (sp_law K) := by
  have e := hfa.symm.trans (PySem.W.mg_of X G a_law)
  cases e
  have F_read_template := fun_mk (st := s_read_template) l_read_template c_read_template k_read_template
  have B_read_template := F_read_template.binds (ps := ["text"]) fun _ _ _ _ _ _ us hl => match us, hl with | [_], _ => rfl
  have F_read_brace := fun_mk (st := s_read_brace) l_read_brace c_read_brace k_read_brace
  have B_read_brace := F_read_brace.binds (ps := ["text", "index"]) fun _ _ _ _ _ _ us hl => match us, hl with | [_, _], _ => rfl
  have F_read_signs := fun_mk (st := s_read_signs) l_read_signs c_read_signs k_read_signs
  have B_read_signs := F_read_signs.binds (ps := ["text", "index", "stop", "specials"]) fun _ _ _ _ _ _ us hl => match us, hl with | [_, _, _, _], _ => rfl
  have F_demand_sign := fun_mk (st := s_demand_sign) l_demand_sign c_demand_sign k_demand_sign
  have B_demand_sign := F_demand_sign.binds (ps := ["text", "index", "allowed"]) fun _ _ _ _ _ _ us hl => match us, hl with | [_, _, _], _ => rfl
  have F_Ldraw := fun_mk (st := s_Ldraw) l_Ldraw c_Ldraw k_Ldraw
  have B_Ldraw := F_Ldraw.binds (ps := ["_law_script"]) fun _ _ _ _ _ _ us hl => match us, hl with | [_], _ => rfl
  have F_Lnext := fun_mk (st := s_Lnext) l_Lnext c_Lnext k_Lnext
  have B_Lnext := F_Lnext.binds (ps := ["_law_draw_here", "_law_many"]) fun _ _ _ _ _ _ us hl => match us, hl with | [_, _], _ => rfl
  have F_Lsigns := fun_mk (st := s_Lsigns) l_Lsigns c_Lsigns k_Lsigns
  have B_Lsigns := F_Lsigns.binds (ps := []) fun _ _ _ _ _ _ us hl => match us, hl with | [], _ => rfl
  have F_Lint := fun_mk (st := s_Lint) l_Lint c_Lint k_Lint
  have B_Lint := F_Lint.binds (ps := ["_law_value"]) fun _ _ _ _ _ _ us hl => match us, hl with | [_], _ => rfl
  have F_Lnew_name := fun_mk (st := s_Lnew_name) l_Lnew_name c_Lnew_name k_Lnew_name
  have B_Lnew_name := F_Lnew_name.binds (ps := ["_law_draw_here"]) fun _ _ _ _ _ _ us hl => match us, hl with | [_], _ => rfl
  have F_Lpiece := fun_mk (st := s_Lpiece) l_Lpiece c_Lpiece k_Lpiece
  have B_Lpiece := F_Lpiece.binds (ps := ["_law_draw_here", "_law_most"]) fun _ _ _ _ _ _ us hl => match us, hl with | [_, _], _ => rfl
  have F_Ltemplate := fun_mk (st := s_Ltemplate) l_Ltemplate c_Ltemplate k_Ltemplate
  have B_Ltemplate := F_Ltemplate.binds (ps := ["_law_draw_here", "_law_many", "_law_most"]) fun _ _ _ _ _ _ us hl => match us, hl with | [_, _, _], _ => rfl
  have F_Lspelled := fun_mk (st := s_Lspelled) l_Lspelled c_Lspelled k_Lspelled
  have B_Lspelled := F_Lspelled.binds (ps := ["_law_draw_here", "_law_signs_here", "_law_special", "_law_free"]) fun _ _ _ _ _ _ us hl => match us, hl with | [_, _, _, _], _ => rfl
  have F_Lwritten := fun_mk (st := s_Lwritten) l_Lwritten c_Lwritten k_Lwritten
  have B_Lwritten := F_Lwritten.binds (ps := ["_law_draw_here", "_law_template_here", "_law_free"]) fun _ _ _ _ _ _ us hl => match us, hl with | [_, _, _], _ => rfl
  have F_Lsame_template := fun_mk (st := s_Lsame_template) l_Lsame_template c_Lsame_template k_Lsame_template
  have B_Lsame_template := F_Lsame_template.binds (ps := ["_law_found", "_law_due"]) fun _ _ _ _ _ _ us hl => match us, hl with | [_, _], _ => rfl
  have F_Lspoilt := fun_mk (st := s_Lspoilt) l_Lspoilt c_Lspoilt k_Lspoilt
  have B_Lspoilt := F_Lspoilt.binds (ps := ["_law_draw_here", "_law_text"]) fun _ _ _ _ _ _ us hl => match us, hl with | [_, _], _ => rfl
  have F_Lmeant := fun_mk (st := s_Lmeant) l_Lmeant c_Lmeant k_Lmeant
  have B_Lmeant := F_Lmeant.binds (ps := ["_law_sign"]) fun _ _ _ _ _ _ us hl => match us, hl with | [_], _ => rfl
  have F_Lnamed := fun_mk (st := s_Lnamed) l_Lnamed c_Lnamed k_Lnamed
  have B_Lnamed := F_Lnamed.binds (ps := ["_law_sign", "_law_name"]) fun _ _ _ _ _ _ us hl => match us, hl with | [_, _], _ => rfl
  have F_Lstepped := fun_mk (st := s_Lstepped) l_Lstepped c_Lstepped k_Lstepped
  have B_Lstepped := F_Lstepped.binds (ps := ["_law_state", "_law_sign", "_law_parts"]) fun _ _ _ _ _ _ us hl => match us, hl with | [_, _, _], _ => rfl
  have F_Lread := fun_mk (st := s_Lread) l_Lread c_Lread k_Lread
  have B_Lread := F_Lread.binds (ps := ["_law_text"]) fun _ _ _ _ _ _ us hl => match us, hl with | [_], _ => rfl
  have F_Lright := fun_mk (st := s_Lright) l_Lright c_Lright k_Lright
  have B_Lright := F_Lright.binds (ps := ["_law_text"]) fun _ _ _ _ _ _ us hl => match us, hl with | [_], _ => rfl
  have F_law := fun_mk (st := s_law) l_law c_law k_law
  have B_law := F_law.binds (ps := ["_law_script"]) fun _ _ _ _ _ _ us hl => match us, hl with | [_], _ => rfl
  have F_TemplateFault_Minit := fun_mk (st := s_TemplateFault_Minit) l_TemplateFault_Minit c_TemplateFault_Minit k_TemplateFault_Minit
  have B_TemplateFault_Minit := F_TemplateFault_Minit.binds (ps := ["self", "index"]) fun _ _ _ _ _ _ us hl => match us, hl with | [_, _], _ => rfl
  let T : Top K mg := ⟨w, _, _, F_read_template, B_read_template, PySem.W.mg_of X G a_read_template, _, _, F_read_brace, B_read_brace, PySem.W.mg_of X G a_read_brace, _, _, F_read_signs, B_read_signs, PySem.W.mg_of X G a_read_signs, _, _, F_demand_sign, B_demand_sign, PySem.W.mg_of X G a_demand_sign, _, _, F_Ldraw, B_Ldraw, PySem.W.mg_of X G a_Ldraw, _, _, F_Lnext, B_Lnext, PySem.W.mg_of X G a_Lnext, _, _, F_Lsigns, B_Lsigns, PySem.W.mg_of X G a_Lsigns, _, _, F_Lint, B_Lint, PySem.W.mg_of X G a_Lint, _, _, F_Lnew_name, B_Lnew_name, PySem.W.mg_of X G a_Lnew_name, _, _, F_Lpiece, B_Lpiece, PySem.W.mg_of X G a_Lpiece, _, _, F_Ltemplate, B_Ltemplate, PySem.W.mg_of X G a_Ltemplate, _, _, F_Lspelled, B_Lspelled, PySem.W.mg_of X G a_Lspelled, _, _, F_Lwritten, B_Lwritten, PySem.W.mg_of X G a_Lwritten, _, _, F_Lsame_template, B_Lsame_template, PySem.W.mg_of X G a_Lsame_template, _, _, F_Lspoilt, B_Lspoilt, PySem.W.mg_of X G a_Lspoilt, _, _, F_Lmeant, B_Lmeant, PySem.W.mg_of X G a_Lmeant, _, _, F_Lnamed, B_Lnamed, PySem.W.mg_of X G a_Lnamed, _, _, F_Lstepped, B_Lstepped, PySem.W.mg_of X G a_Lstepped, _, _, F_Lread, B_Lread, PySem.W.mg_of X G a_Lread, _, _, F_Lright, B_Lright, PySem.W.mg_of X G a_Lright, _, _, F_law, B_law, PySem.W.mg_of X G a_law, _, PySem.W.mg_of X G ac_TemplateFault, _, PySem.W.mg_of X G ac_SpanError, _, PySem.W.mg_of X G ac_PatternFault, _, PySem.W.mg_of X G ac_UnknownGroup, _, PySem.W.mg_of X G ac_BadTree, _, PySem.W.mg_of X G ac_NotRegular, _, PySem.W.mg_of X G ac_NotPlain, _, PySem.W.mg_of X G ac_StreamClosed, _, PySem.W.mg_of X G ac_OutOfSteps, _, PySem.W.mg_of X G ac_TooManyStates, _, PySem.W.mg_of X G ac_TooManyAnswers, _, PySem.W.mg_of X G ac_NoSuchText, _, _, F_TemplateFault_Minit, B_TemplateFault_Minit, ⟨⟨_, _, _, _, _, _, _, _, _, _, _, _, _, _, _, xL_TemplateFault, rfl⟩, sa_TemplateFault, eC_TemplateFault, tC_TemplateFault, kc_TemplateFault⟩, ⟨ga_TemplateFault, gg_TemplateFault, eC_TemplateFault, hC_TemplateFault⟩, ⟨iC_TemplateFault, ga_TemplateFault, gg_TemplateFault, eC_TemplateFault, ha_TemplateFault, hn_TemplateFault, ht_TemplateFault, hm_TemplateFault⟩, no_TemplateFault, a_TemplateFault_Minit, ti_TemplateFault, kit_self, kit_vE kq_TemplateFault_ValueError, kit_ref jc_PatternFault jt_PatternFault kq_TemplateFault_PatternFault kq_TemplateFault_TemplateFault, kit_ref jc_UnknownGroup jt_UnknownGroup kq_TemplateFault_UnknownGroup kq_TemplateFault_TemplateFault, kit_ref jc_BadTree jt_BadTree kq_TemplateFault_BadTree kq_TemplateFault_TemplateFault, kit_ref jc_NotRegular jt_NotRegular kq_TemplateFault_NotRegular kq_TemplateFault_TemplateFault, kit_ref jc_NotPlain jt_NotPlain kq_TemplateFault_NotPlain kq_TemplateFault_TemplateFault, kit_ref jc_StreamClosed jt_StreamClosed kq_TemplateFault_StreamClosed kq_TemplateFault_TemplateFault, kit_ref jc_OutOfSteps jt_OutOfSteps kq_TemplateFault_OutOfSteps kq_TemplateFault_TemplateFault, kit_ref jc_TooManyStates jt_TooManyStates kq_TemplateFault_TooManyStates kq_TemplateFault_TemplateFault, kit_ref jc_TooManyAnswers jt_TooManyAnswers kq_TemplateFault_TooManyAnswers kq_TemplateFault_TemplateFault, kit_ref jc_NoSuchText jt_NoSuchText kq_TemplateFault_NoSuchText kq_TemplateFault_TemplateFault, exm_of jb_SpanError jd_SpanError jt_SpanError ex_TemplateFault, _, PySem.W.mg_of X G v_NAME_STARTS, _, PySem.W.mg_of X G v_NAME_SIGNS, _, PySem.W.mg_of X G v_NAME_LENGTH, _, PySem.W.mg_of X G v_ESCAPED, kt_two l_ESCAPED h1e_ESCAPED h2e_ESCAPED lo_ESCAPED, _, PySem.W.mg_of X G v_TEXT_SPECIALS, _, PySem.W.mg_of X G v_OTHER_SPECIALS, PySem.W.mg_none_of X G z_ValueError, PySem.W.mg_none_of X G z_bool, PySem.W.mg_none_of X G z_int, PySem.W.mg_none_of X G z_isinstance, PySem.W.mg_none_of X G z_len, PySem.W.mg_none_of X G z_range, PySem.W.mg_none_of X G z_str, PySem.W.mg_none_of X G z_tuple⟩
  exact ⟨PySem.W.fnOf "law" "law" (defArgs s_law) (defBody s_law) (defScope s_law) .none kV_law dc_law pm_law an_law cd_law ct_law, fun s v => .of_eq rfl, fun base _ _ => ok_law T⟩
end My
open PySem PySem.W PyProof.Rows in
set_option maxRecDepth 100000 in
set_option maxHeartbeats 0 in
theorem PySem.Challenge.cw_surespan_k87_template_faults_holds : PySem.Challenge.rw_surespan_k87_template_faults.Holds := by
  w_on; o_law; k_head; (case hw => w_witness2)
  k_fill
  refine L2.walk_of (l := PySem.Challenge.rw_surespan_k87_template_faults) (n := 63) (k := 8) (x := "_law_script") (CX := fun _ => L2.CX0) (sp := fun w => My.sp_law _) rfl (by decide) rfl ⟨rfl, by decide, by decide⟩ (fun w h Y => PySem.W.kIn_of Y) ?F (fun _ _ a ns hl _ hS => ⟨a, ns, rfl, hS, hl, fun _ => rfl⟩) (fun _ _ _ _ _ h => h)
  case F =>
    intro w mg fa h KX G hmg
    refine' My.all_mk KX G hmg ?a_read_template ?l_read_template ?c_read_template ?k_read_template ?a_read_brace ?l_read_brace ?c_read_brace ?k_read_brace ?a_read_signs ?l_read_signs ?c_read_signs ?k_read_signs ?a_demand_sign ?l_demand_sign ?c_demand_sign ?k_demand_sign ?a_Ldraw ?l_Ldraw ?c_Ldraw ?k_Ldraw ?a_Lnext ?l_Lnext ?c_Lnext ?k_Lnext ?a_Lsigns ?l_Lsigns ?c_Lsigns ?k_Lsigns ?a_Lint ?l_Lint ?c_Lint ?k_Lint ?a_Lnew_name ?l_Lnew_name ?c_Lnew_name ?k_Lnew_name ?a_Lpiece ?l_Lpiece ?c_Lpiece ?k_Lpiece ?a_Ltemplate ?l_Ltemplate ?c_Ltemplate ?k_Ltemplate ?a_Lspelled ?l_Lspelled ?c_Lspelled ?k_Lspelled ?a_Lwritten ?l_Lwritten ?c_Lwritten ?k_Lwritten ?a_Lsame_template ?l_Lsame_template ?c_Lsame_template ?k_Lsame_template ?a_Lspoilt ?l_Lspoilt ?c_Lspoilt ?k_Lspoilt ?a_Lmeant ?l_Lmeant ?c_Lmeant ?k_Lmeant ?a_Lnamed ?l_Lnamed ?c_Lnamed ?k_Lnamed ?a_Lstepped ?l_Lstepped ?c_Lstepped ?k_Lstepped ?a_Lread ?l_Lread ?c_Lread ?k_Lread ?a_Lright ?l_Lright ?c_Lright ?k_Lright ?a_law ?l_law ?c_law ?k_law ?ac_TemplateFault ?ac_SpanError ?ac_PatternFault ?ac_UnknownGroup ?ac_BadTree ?ac_NotRegular ?ac_NotPlain ?ac_StreamClosed ?ac_OutOfSteps ?ac_TooManyStates ?ac_TooManyAnswers ?ac_NoSuchText ?xL_TemplateFault ?sa_TemplateFault ?ga_TemplateFault ?gg_TemplateFault ?no_TemplateFault ?kc_TemplateFault ?eC_TemplateFault ?tC_TemplateFault ?hC_TemplateFault ?iC_TemplateFault ?ha_TemplateFault ?hn_TemplateFault ?ht_TemplateFault ?hm_TemplateFault ?kq_TemplateFault_TemplateFault ?kq_TemplateFault_ValueError ?kq_TemplateFault_PatternFault ?kq_TemplateFault_UnknownGroup ?kq_TemplateFault_BadTree ?kq_TemplateFault_NotRegular ?kq_TemplateFault_NotPlain ?kq_TemplateFault_StreamClosed ?kq_TemplateFault_OutOfSteps ?kq_TemplateFault_TooManyStates ?kq_TemplateFault_TooManyAnswers ?kq_TemplateFault_NoSuchText ?ex_TemplateFault ?jc_SpanError ?jt_SpanError ?jc_PatternFault ?jt_PatternFault ?jc_UnknownGroup ?jt_UnknownGroup ?jc_BadTree ?jt_BadTree ?jc_NotRegular ?jt_NotRegular ?jc_NotPlain ?jt_NotPlain ?jc_StreamClosed ?jt_StreamClosed ?jc_OutOfSteps ?jt_OutOfSteps ?jc_TooManyStates ?jt_TooManyStates ?jc_TooManyAnswers ?jt_TooManyAnswers ?jc_NoSuchText ?jt_NoSuchText ?jb_SpanError ?jd_SpanError ?ti_TemplateFault ?a_TemplateFault_Minit ?i_TemplateFault_Minit ?l_TemplateFault_Minit ?c_TemplateFault_Minit ?k_TemplateFault_Minit ?v_NAME_STARTS ?v_NAME_SIGNS ?v_NAME_LENGTH ?v_ESCAPED ?l_ESCAPED ?h1e_ESCAPED ?h2e_ESCAPED ?lo_ESCAPED ?v_TEXT_SPECIALS ?v_OTHER_SPECIALS ?z_ValueError ?z_bool ?z_int ?z_isinstance ?z_len ?z_range ?z_str ?z_tuple
    (case a_read_template => k_is)
    (case l_read_template => k_is)
    (case c_read_template => k_is)
    (case k_read_template => k_is)
    (case a_read_brace => k_is)
    (case l_read_brace => k_is)
    (case c_read_brace => k_is)
    (case k_read_brace => k_is)
    (case a_read_signs => k_is)
    (case l_read_signs => k_is)
    (case c_read_signs => k_is)
    (case k_read_signs => k_is)
    (case a_demand_sign => k_is)
    (case l_demand_sign => k_is)
    (case c_demand_sign => k_is)
    (case k_demand_sign => k_is)
    (case a_Ldraw => k_is)
    (case l_Ldraw => k_is)
    (case c_Ldraw => k_is)
    (case k_Ldraw => k_is)
    (case a_Lnext => k_is)
    (case l_Lnext => k_is)
    (case c_Lnext => k_is)
    (case k_Lnext => k_is)
    (case a_Lsigns => k_is)
    (case l_Lsigns => k_is)
    (case c_Lsigns => k_is)
    (case k_Lsigns => k_is)
    (case a_Lint => k_is)
    (case l_Lint => k_is)
    (case c_Lint => k_is)
    (case k_Lint => k_is)
    (case a_Lnew_name => k_is)
    (case l_Lnew_name => k_is)
    (case c_Lnew_name => k_is)
    (case k_Lnew_name => k_is)
    (case a_Lpiece => k_is)
    (case l_Lpiece => k_is)
    (case c_Lpiece => k_is)
    (case k_Lpiece => k_is)
    (case a_Ltemplate => k_is)
    (case l_Ltemplate => k_is)
    (case c_Ltemplate => k_is)
    (case k_Ltemplate => k_is)
    (case a_Lspelled => k_is)
    (case l_Lspelled => k_is)
    (case c_Lspelled => k_is)
    (case k_Lspelled => k_is)
    (case a_Lwritten => k_is)
    (case l_Lwritten => k_is)
    (case c_Lwritten => k_is)
    (case k_Lwritten => k_is)
    (case a_Lsame_template => k_is)
    (case l_Lsame_template => k_is)
    (case c_Lsame_template => k_is)
    (case k_Lsame_template => k_is)
    (case a_Lspoilt => k_is)
    (case l_Lspoilt => k_is)
    (case c_Lspoilt => k_is)
    (case k_Lspoilt => k_is)
    (case a_Lmeant => k_is)
    (case l_Lmeant => k_is)
    (case c_Lmeant => k_is)
    (case k_Lmeant => k_is)
    (case a_Lnamed => k_is)
    (case l_Lnamed => k_is)
    (case c_Lnamed => k_is)
    (case k_Lnamed => k_is)
    (case a_Lstepped => k_is)
    (case l_Lstepped => k_is)
    (case c_Lstepped => k_is)
    (case k_Lstepped => k_is)
    (case a_Lread => k_is)
    (case l_Lread => k_is)
    (case c_Lread => k_is)
    (case k_Lread => k_is)
    (case a_Lright => k_is)
    (case l_Lright => k_is)
    (case c_Lright => k_is)
    (case k_Lright => k_is)
    (case a_law => k_is)
    (case l_law => k_is)
    (case c_law => k_is)
    (case k_law => k_is)
    (case ac_TemplateFault => k_is)
    (case ac_SpanError => k_is)
    (case ac_PatternFault => k_is)
    (case ac_UnknownGroup => k_is)
    (case ac_BadTree => k_is)
    (case ac_NotRegular => k_is)
    (case ac_NotPlain => k_is)
    (case ac_StreamClosed => k_is)
    (case ac_OutOfSteps => k_is)
    (case ac_TooManyStates => k_is)
    (case ac_TooManyAnswers => k_is)
    (case ac_NoSuchText => k_is)
    (case xL_TemplateFault => k_is)
    (case sa_TemplateFault => k_is)
    (case ga_TemplateFault => k_is)
    (case gg_TemplateFault => k_is)
    (case no_TemplateFault => k_is)
    (case kc_TemplateFault => k_is)
    (case eC_TemplateFault => k_is)
    (case tC_TemplateFault => k_is)
    (case hC_TemplateFault => k_is)
    (case iC_TemplateFault => k_is)
    (case ha_TemplateFault => k_is)
    (case hn_TemplateFault => k_is)
    (case ht_TemplateFault => k_is)
    (case hm_TemplateFault => k_is)
    (case kq_TemplateFault_TemplateFault => k_is)
    (case kq_TemplateFault_ValueError => k_is)
    (case kq_TemplateFault_PatternFault => k_is)
    (case kq_TemplateFault_UnknownGroup => k_is)
    (case kq_TemplateFault_BadTree => k_is)
    (case kq_TemplateFault_NotRegular => k_is)
    (case kq_TemplateFault_NotPlain => k_is)
    (case kq_TemplateFault_StreamClosed => k_is)
    (case kq_TemplateFault_OutOfSteps => k_is)
    (case kq_TemplateFault_TooManyStates => k_is)
    (case kq_TemplateFault_TooManyAnswers => k_is)
    (case kq_TemplateFault_NoSuchText => k_is)
    (case ex_TemplateFault => k_is)
    (case jc_SpanError => k_is)
    (case jt_SpanError => k_is)
    (case jc_PatternFault => k_is)
    (case jt_PatternFault => k_is)
    (case jc_UnknownGroup => k_is)
    (case jt_UnknownGroup => k_is)
    (case jc_BadTree => k_is)
    (case jt_BadTree => k_is)
    (case jc_NotRegular => k_is)
    (case jt_NotRegular => k_is)
    (case jc_NotPlain => k_is)
    (case jt_NotPlain => k_is)
    (case jc_StreamClosed => k_is)
    (case jt_StreamClosed => k_is)
    (case jc_OutOfSteps => k_is)
    (case jt_OutOfSteps => k_is)
    (case jc_TooManyStates => k_is)
    (case jt_TooManyStates => k_is)
    (case jc_TooManyAnswers => k_is)
    (case jt_TooManyAnswers => k_is)
    (case jc_NoSuchText => k_is)
    (case jt_NoSuchText => k_is)
    (case jb_SpanError => k_is)
    (case jd_SpanError => k_is)
    (case ti_TemplateFault => k_is)
    (case a_TemplateFault_Minit => k_is)
    (case i_TemplateFault_Minit => k_is)
    (case l_TemplateFault_Minit => k_is)
    (case c_TemplateFault_Minit => k_is)
    (case k_TemplateFault_Minit => k_is)
    (case v_NAME_STARTS => k_is)
    (case v_NAME_SIGNS => k_is)
    (case v_NAME_LENGTH => k_is)
    (case v_ESCAPED => k_is)
    (case l_ESCAPED => k_is)
    (case h1e_ESCAPED => rfl)
    (case h2e_ESCAPED => rfl)
    (case lo_ESCAPED => rfl)
    (case v_TEXT_SPECIALS => k_is)
    (case v_OTHER_SPECIALS => k_is)
    (case z_ValueError => k_is)
    (case z_bool => k_is)
    (case z_int => k_is)
    (case z_isinstance => k_is)
    (case z_len => k_is)
    (case z_range => k_is)
    (case z_str => k_is)
    (case z_tuple => k_is)
