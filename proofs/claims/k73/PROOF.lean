import PyProof.Rows.All
import Wide.All
import OpenK.AllK
import Wide.FinOn
import HandS.ForMost
import HandS.Conv
import HandS.Wide
import HandS.Exc
import HandS.ExcInit
import HandS.IsInst
import HandS.ExcIs
import HandS.Deep
import HandS.TupAny
import HandS.Zip
import HandS.Walk
import HandS.StrMore
import HandS.More
import HandS.TupLe
import HandS.Text
import HandS.Style
import KE.KRevSl
import HandS.EndTab
import HandS.Lambda
import HandS.Iter
import KE.GoesEnum
import HandS.Words
import KE.KIndexOf
import HandS.Strs
import HandS.Set
import HandS.TupMul
import HandS.WordsDict
import HandS.FStr
import HandS.SlotsOwn
import HandS.WordsExc
import OpenK.KMeth
import OpenK.KOps
import HandS.SortKw
import KE.DataMinMax
import HandS.Gcd
import HandS.TupSets
import KE.KNestM
import PySem.Challenge.RW_unseenstocks_k73_whole_manners_told_othe
set_option Elab.async false
set_option linter.all false
set_option maxRecDepth 100000
set_option maxHeartbeats 4000000
/-! names of twins of heaps that nothing here reads: taken, so that they are not made -/
def PySem.W.Fast.tw861502493610598483 : Nat := 0
theorem PySem.W.Fast.te861502493610598483 : True := trivial
open PySem PySem.W PyProof.Rows in
set_option maxRecDepth 100000 in
set_option maxHeartbeats 0 in
open_top hd for PySem.Challenge.rw_unseenstocks_k73_whole_manners_told_othe
namespace GD
open PySem PySem.Spec PyProof.Rows L2
end GD
namespace GD
open PySem PySem.Spec PyProof.Rows L2
mutual
inductive Sh (H : Hp) : V → PyData → Prop
  | non : Sh H .non .none
  | bl (b : Bool) : Sh H (.bl b) (.bool b)
  | int (i : Int) : Sh H (.int i) (.int i)
  | str (x : Str) : Sh H (.str x) (.str x)
  | lst {a : Addr} {xs : List V} {ds : List PyData} : H a = some (.lst xs) → a ≠ sysModules → ShAll H xs ds → Sh H (.ref a) (.list ds)
  | tup {a : Addr} {xs : List V} {ds : List PyData} : H a = some (.tup xs) → ShAll H xs ds → Sh H (.ref a) (.tuple ds)
  | dct {a : Addr} {kvs : List (Key × V)} {ds : List (PyData × PyData)} : H a = some (.dK kvs) → ShAll H (kvs.map fun p => kV p.1) (ds.map (·.1)) → ShAll H (kvs.map (·.2)) (ds.map (·.2)) → Sh H (.ref a) (.dict ds)
inductive ShAll (H : Hp) : List V → List PyData → Prop
  | nil : ShAll H [] []
  | cons {x : V} {d : PyData} {xs : List V} {ds : List PyData} : Sh H x d → ShAll H xs ds → ShAll H (x :: xs) (d :: ds)
end
mutual
theorem Sh.same {H H' : Hp} (k : Same H H') : ∀ {v : V} {d : PyData}, Sh H v d → Sh H' v d
  | _, _, .non => .non
  | _, _, .bl b => .bl b
  | _, _, .int i => .int i
  | _, _, .str x => .str x
  | _, _, .lst h n t => .lst (k _ _ h) n (ShAll.same k t)
  | _, _, .tup h t => .tup (k _ _ h) (ShAll.same k t)
  | _, _, .dct h t u => .dct (k _ _ h) (ShAll.same k t) (ShAll.same k u)
theorem ShAll.same {H H' : Hp} (k : Same H H') : ∀ {v : List V} {d : List PyData}, ShAll H v d → ShAll H' v d
  | _, _, .nil => .nil
  | _, _, .cons a b => .cons (Sh.same k a) (ShAll.same k b)
end
end GD
namespace PySem.W
open PySem PySem.Spec PySem.Calls PyProof.Rows
end PySem.W
namespace GD
open PySem PySem.Spec PyProof.Rows L2
/-- an error of the class C at e, that keeps v -/
def ErrAt (H : Hp) (e C : Addr) (v : V) : Prop := ∃ d, H e = some (exo e C (some d)) ∧ H d = some (exd d [(("value" : Str), v)])
theorem ErrAt.same {H H' : Hp} {e C : Addr} {v : V} (k : Same H H') (h : ErrAt H e C v) : ErrAt H' e C v := by
  obtain ⟨d, h1, h2⟩ := h
  exact ⟨d, k _ _ h1, k _ _ h2⟩
end GD
namespace GD
open PySem PySem.Spec PyProof.Rows L2
/-- what stands in H' and did not in H -/
def minus (H H' : Hp) : Hp := fun b => if (H b).isSome = true then none else H' b
theorem minus_some {H H' : Hp} {b : Addr} {o : HO} : minus H H' b = some o ↔ H b = none ∧ H' b = some o := by
  unfold minus
  cases c : H b with
  | none => simp
  | some u => simp
theorem minus_of {H H' : Hp} {b : Addr} {o : HO} (h : H b = none) (h' : H' b = some o) : minus H H' b = some o := minus_some.mpr ⟨h, h'⟩
theorem same_new {H : Hp} {p : Addr} {o : HO} (h : H p = none) : Same H (upd H p o) := fun b u e => by
  rw [upd_ne (ne_of_none e h)]
  exact e
theorem minus_right {H H1 H2 : Hp} (k : Same H1 H2) : Same (minus H H1) (minus H H2) := fun b o e => by
  obtain ⟨h1, h2⟩ := minus_some.mp e
  exact minus_of h1 (k _ _ h2)
theorem minus_left {H H1 H2 : Hp} (k : Same H H1) : Same (minus H1 H2) (minus H H2) := fun b o e => by
  obtain ⟨h1, h2⟩ := minus_some.mp e
  exact minus_of (k.free h1) h2
/-- e gives the data d, new -/
def tD (d : PyData) : TE := fun _ H Q => ∀ v H', Same H H' → Sh (minus H H') v d → Q v H'
def tDs (ds : List PyData) : TA := fun _ H Q => ∀ vs H', Same H H' → ShAll (minus H H') vs ds → Q vs H'
theorem ShAll.length {H : Hp} : ∀ {vs : List V} {ds : List PyData}, ShAll H vs ds → vs.length = ds.length
  | _, _, .nil => rfl
  | _, _, .cons _ t => by rw [List.length_cons, List.length_cons, ShAll.length t]
theorem ShAll.mem {H : Hp} : ∀ {vs : List V} {ds : List PyData}, ShAll H vs ds → ∀ v ∈ vs, ∃ d ∈ ds, Sh H v d
  | _, _, .nil, _, h => nomatch h
  | _, _, .cons a t, v, h => by
    rcases List.mem_cons.mp h with z | z
    · rw [z]
      exact ⟨_, List.mem_cons_self, a⟩
    · obtain ⟨d, m, s⟩ := ShAll.mem t v z
      exact ⟨d, List.mem_cons_of_mem _ m, s⟩
section
variable {X : Cx} {e : Expr} {es : List Expr} {te te' : TE} {t t' : TA} {d : PyData} {ds : List PyData} {pos : Pos}
theorem pe_imp (h : PE X e te) (i : ∀ σ H Q, te' σ H Q → te σ H Q) : PE X e te' := ⟨fun pins s σ H Q I q => h.run pins s σ H Q I (i σ H Q q)⟩
theorem pa_imp (h : PA X es t) (i : ∀ σ H Q, t' σ H Q → t σ H Q) : PA X es t' := ⟨fun pos pins s σ H Q I q => h.run pos pins s σ H Q I (i σ H Q q)⟩
theorem pd_c {v : V} (h : PE X e (tC v)) (s : ∀ M, Sh M v d) : PE X e (tD d) := pe_imp h fun σ H Q q => q v H (Same.refl H) (s _)
theorem pds_nil : PA X [] (tDs []) := pa_imp pa_nil fun σ H Q q => q [] H (Same.refl H) .nil
theorem pds_cons (h : PE X e (tD d)) (ht : PA X es (tDs ds)) (hs : starEach (e :: es) X.env = (false, eval e X.env) :: starEach es X.env := by rfl) : PA X (e :: es) (tDs (d :: ds)) := pa_imp (pa_cons h ht hs) fun σ H Q q => by
  intro v H1 s1 h1 vs H2 s2 h2
  exact q (v :: vs) H2 (s1.trans s2) (.cons (h1.same (minus_right s2)) (h2.same (minus_left s1)))
end
end GD
namespace GD
open PySem PySem.Spec PyProof.Rows L2
/-- a pot at a: what is left of the own number, the small one, how many were taken (at most z) -/
def PotAt (H : Hp) (a : Addr) (z : Int) : Prop := ∃ x y c : Int, H a = some (.lst [.int x, .int y, .int c]) ∧ 0 ≤ x ∧ 0 ≤ y ∧ y < 2305843009213693921 ∧ 0 ≤ c ∧ c ≤ z
/-- all but a is as it was -/
def Keep (a : Addr) (H H' : Hp) : Prop := ∀ b o, b ≠ a → H b = some o → H' b = some o
def spPot (K : PySem.W.Frag) : Sp := fun vs H Q _ => ∃ (s : Addr) (ns : List Int) (pl : Int), vs = [.ref s, .int pl] ∧ SqL K H s (ns.map V.int) ∧ 0 ≤ pl ∧ pl ≤ 1000 ∧
  ∀ (p : Addr) H', H p = none → PotAt H' p 0 → Same H H' → Q (.ref p) H'
def spTake : Sp := fun vs H Q _ => ∃ (a : Addr) (u z : Int), vs = [.ref a, .int u] ∧ PotAt H a z ∧ z ≤ 100000 ∧ 0 < u ∧ u ≤ 10000000000000 ∧
  ∀ (k : Int) H', 0 ≤ k → k < u → PotAt H' a (z + 1) → Keep a H H' → Q (.int k) H'
def spOf (K : PySem.W.Frag) : Sp := fun vs H Q _ => ∃ (a l : Addr) (xs : List V) (z : Int), vs = [.ref a, .ref l] ∧ PotAt H a z ∧ z ≤ 100000 ∧ l ≠ a ∧ H l = some (.lst xs) ∧ xs ≠ [] ∧ xs.length ≤ 1000 ∧
  ∀ v H', v ∈ xs → PotAt H' a (z + 1) → Keep a H H' → Q v H'
def spCells (K : PySem.W.Frag) : Sp := fun vs H Q _ => ∃ (s : Addr) (ns : List Int) (m : Int), vs = [.ref s, .int m] ∧ SqL K H s (ns.map V.int) ∧ 1 ≤ m ∧ m ≤ 1000 ∧
  ∀ (p : Addr) (n : Int), H p = none → 0 ≤ n → n ≤ m → Q (.ref p) (upd H p (.lst (rgV 0 n)))
structure TxtA (mg : Str → Option Value) : Prop where
  len : mg "len" = none
  abs : mg "abs" = none
  int : mg "int" = none
  max : mg "max" = none
  min : mg "min" = none
  list : mg "list" = none
  range : mg "range" = none
theorem five (c : Int) : ∃ pr : Int, atI [V.int 2147483647, V.int 2147483629, V.int 2147483587, V.int 2147483579, V.int 2147483563] (c % 5) = some (.int pr) ∧ 0 < pr ∧ pr ≤ 2147483647 := by
  have h0 := Int.emod_nonneg c (show (5 : Int) ≠ 0 by decide)
  have h1 := Int.emod_lt_of_pos c (show (0 : Int) < 5 by decide)
  generalize c % 5 = r at h0 h1
  have hr : r = 0 ∨ r = 1 ∨ r = 2 ∨ r = 3 ∨ r = 4 := by omega
  rcases hr with rfl | rfl | rfl | rfl | rfl
  all_goals exact ⟨_, rfl, by decide, by decide⟩
theorem sq_small {k c : Int} (k0 : 0 ≤ k) (k1 : k ≤ 110000) (h0 : 0 ≤ c) (h1 : c ≤ 100001) : 0 ≤ k * c * c ∧ k * c * c ≤ 1152921504606846976 := by
  have a : 0 ≤ k * c := Int.mul_nonneg k0 h0
  have b : k * c ≤ 110000 * 100001 := Int.mul_le_mul k1 h1 h0 (by decide)
  exact ⟨Int.mul_nonneg a h0, Int.le_trans (Int.mul_le_mul b h1 h0 (by decide)) (by decide)⟩
theorem at_ints {ns : List Int} {i : Int} (h0 : 0 ≤ i) (h1 : i < ((ns.map V.int).length : Nat)) : ∃ n : Int, atI (ns.map V.int) i = some (.int n) := by
  obtain ⟨j, rfl⟩ := Int.eq_ofNat_of_zero_le h0
  have hj : j < ns.length := by
    rw [List.length_map] at h1
    omega
  exact ⟨ns[j], atI_nat (by rw [List.getElem?_map, List.getElem?_eq_getElem hj]; rfl)⟩
theorem at_mem {xs : List V} {i : Int} (h0 : 0 ≤ i) (h1 : i < (xs.length : Nat)) : ∃ v, atI xs i = some v ∧ v ∈ xs := by
  obtain ⟨j, rfl⟩ := Int.eq_ofNat_of_zero_le h0
  have hj : j < xs.length := by omega
  exact ⟨xs[j], atI_nat (List.getElem?_eq_getElem hj), List.getElem_mem hj⟩
theorem ite_gen {c : Prop} [Decidable c] {ta tb : TE} {σ : L2.St} {H : Hp} {Q : VK} (key : ∀ n : Int, Q (.int n) H) (h : (∀ n : Int, Q (.int n) H) → if c then ta σ H Q else tb σ H Q) : if c then ta σ H Q else tb σ H Q := h key
theorem b01 (b : Bool) : (-(2 ^ 64) < (if b = true then (1 : Int) else 0)) ∧ ((if b = true then (1 : Int) else 0) < 2 ^ 64) ∧ 0 ≤ (if b = true then (1 : Int) else 0) := by cases b <;> decide
theorem mm (m : Int) (l : Nat) (h : 1 ≤ m) : 0 ≤ (if (if (l : Int) < m then (l : Int) else m) > 1 then (if (l : Int) < m then (l : Int) else m) else 1) ∧ (if (if (l : Int) < m then (l : Int) else m) > 1 then (if (l : Int) < m then (l : Int) else m) else 1) ≤ m := by
  split <;> split <;> omega
def CPowB (i j : Int) : Prop := 0 ≤ j ∧ (Builtin.Int.intBits i : Int) * j ≤ 2 ^ 27
theorem op_powB {X : Cx} : OpR X (binaryOp .Pow) (rI CPowB fun i j => .int (i ^ j.toNat)) := opI fun _ _ _ _ _ _ _ hc q => pow_int hc.1 hc.2 q
def Bes (a : Addr) (H : Hp) (v : V) (d : PyData) : Prop := Sh (del H a) v d
theorem del_some {H : Hp} {a b : Addr} {o : HO} : del H a b = some o ↔ b ≠ a ∧ H b = some o := by
  unfold del
  by_cases h : b = a
  · rw [if_pos h]
    exact ⟨fun z => (nomatch z), fun z => absurd h z.1⟩
  · rw [if_neg h]
    exact ⟨fun z => ⟨h, z⟩, fun z => z.2⟩
theorem Bes.keep {a : Addr} {H H' : Hp} {v : V} {d : PyData} (k : Keep a H H') (h : Bes a H v d) : Bes a H' v d := h.same fun b o e => by
  obtain ⟨h1, h2⟩ := del_some.mp e
  exact del_some.mpr ⟨h1, k b o h1 h2⟩
theorem Bes.all {a : Addr} {H : Hp} {v : V} {d : PyData} (h : Bes a H v d) : Sh H v d := h.same fun b o e => (del_some.mp e).2
theorem Keep.trans {a : Addr} {H H1 H2 : Hp} (x : Keep a H H1) (y : Keep a H1 H2) : Keep a H H2 := fun b o n e => y b o n (x b o n e)
theorem sKeep {a : Addr} {H H1 : Hp} (x : Same H H1) : Keep a H H1 := fun b o _ e => x b o e
theorem PotAt.same {H H' : Hp} {a : Addr} {z : Int} (k : Same H H') (h : PotAt H a z) : PotAt H' a z := by
  obtain ⟨x, y, c, e, r⟩ := h
  exact ⟨x, y, c, k _ _ e, r⟩
theorem PotAt.le {H : Hp} {a : Addr} {z y : Int} (h : PotAt H a z) (l : z ≤ y) : PotAt H a y := by
  obtain ⟨x, y, c, e, r1, r2, r3, r4, r5⟩ := h
  exact ⟨x, y, c, e, r1, r2, r3, r4, by omega⟩
theorem PotAt.upd_ne {H : Hp} {a b : Addr} {z : Int} {o : HO} (n : b ≠ a) (h : PotAt H a z) : PotAt (upd H b o) a z := by
  obtain ⟨x, y, c, e, r⟩ := h
  exact ⟨x, y, c, (L2.upd_ne n.symm).trans e, r⟩
abbrev dS (x : Str) : PyData := .str x
end GD
namespace GD
open PySem PySem.Spec PyProof.Rows L2
mutual
inductive Fz (H : Hp) : V → PyData → Prop
  | non : Fz H .non .none
  | bl (b : Bool) : Fz H (.bl b) (.bool b)
  | int (i : Int) : Fz H (.int i) (.int i)
  | str (x : Str) : Fz H (.str x) (.str x)
  | tup {a : Addr} {xs : List V} {ds : List PyData} : H a = some (.tup xs) → FzAll H xs ds → Fz H (.ref a) (.tuple ds)
inductive FzAll (H : Hp) : List V → List PyData → Prop
  | nil : FzAll H [] []
  | cons {x : V} {d : PyData} {xs : List V} {ds : List PyData} : Fz H x d → FzAll H xs ds → FzAll H (x :: xs) (d :: ds)
end
def Tups (H H' : Hp) : Prop := ∀ b xs, H b = some (.tup xs) → H' b = some (.tup xs)
theorem Tups.refl (H : Hp) : Tups H H := fun _ _ e => e
theorem Tups.trans {H H1 H2 : Hp} (x : Tups H H1) (y : Tups H1 H2) : Tups H H2 := fun b xs e => y b xs (x b xs e)
theorem tups_same {H H' : Hp} (k : Same H H') : Tups H H' := fun b xs e => k b _ e
theorem tups_new {H : Hp} {p : Addr} {o : HO} (h : H p = none) : Tups H (upd H p o) := tups_same (same_new h)
theorem tups_lst {H : Hp} {p : Addr} {o : HO} {xs : List V} (h : H p = some (.lst xs)) : Tups H (upd H p o) := fun b ys e => by
  rw [upd_ne (ne_of e h (fun z => by cases z))]
  exact e
theorem tups_dK {H : Hp} {p : Addr} {o : HO} {kvs : List (Key × V)} (h : H p = some (.dK kvs)) : Tups H (upd H p o) := fun b ys e => by
  rw [upd_ne (ne_of e h (fun z => by cases z))]
  exact e
theorem Keep.tups {a : Addr} {H H' : Hp} {xs : List V} (ha : H a = some (.lst xs)) (k : Keep a H H') : Tups H H' := fun b ys e => k b _ (ne_of e ha (fun z => by cases z)) e
theorem PotAt.tups {a : Addr} {H H' : Hp} {z : Int} (p : PotAt H a z) (k : Keep a H H') : Tups H H' := by
  obtain ⟨x, y, c, e, _⟩ := p
  exact k.tups e
mutual
theorem Fz.mv {H H' : Hp} (k : Tups H H') : ∀ {v : V} {d : PyData}, Fz H v d → Fz H' v d
  | _, _, .non => .non
  | _, _, .bl b => .bl b
  | _, _, .int i => .int i
  | _, _, .str x => .str x
  | _, _, .tup h t => .tup (k _ _ h) (FzAll.mv k t)
theorem FzAll.mv {H H' : Hp} (k : Tups H H') : ∀ {v : List V} {d : List PyData}, FzAll H v d → FzAll H' v d
  | _, _, .nil => .nil
  | _, _, .cons a b => .cons (Fz.mv k a) (FzAll.mv k b)
end
mutual
theorem Fz.dp {K : PySem.W.Frag} {H : Hp} : ∀ {v : V} {d : PyData}, Fz H v d → Dp K H v d
  | _, _, .non => .non
  | _, _, .bl b => .bl b
  | _, _, .int i => .int i
  | _, _, .str x => .str x
  | _, _, .tup h t => .tup (SqT.of h) (FzAll.dp t)
theorem FzAll.dp {K : PySem.W.Frag} {H : Hp} : ∀ {v : List V} {d : List PyData}, FzAll H v d → DpAll K H v d
  | _, _, .nil => .nil
  | _, _, .cons a b => .cons (Fz.dp a) (FzAll.dp b)
end
mutual
theorem Fz.sh {H : Hp} : ∀ {v : V} {d : PyData}, Fz H v d → Sh H v d
  | _, _, .non => .non
  | _, _, .bl b => .bl b
  | _, _, .int i => .int i
  | _, _, .str x => .str x
  | _, _, .tup h t => .tup h (FzAll.sh t)
theorem FzAll.sh {H : Hp} : ∀ {v : List V} {d : List PyData}, FzAll H v d → ShAll H v d
  | _, _, .nil => .nil
  | _, _, .cons a b => .cons (Fz.sh a) (FzAll.sh b)
end
section
variable {H : Hp}
theorem Fz.i {v : V} {i : Int} (h : Fz H v (.int i)) : v = .int i := by cases h; rfl
theorem Fz.s {v : V} {x : Str} (h : Fz H v (.str x)) : v = .str x := by cases h; rfl
theorem Fz.t {v : V} {ds : List PyData} (h : Fz H v (.tuple ds)) : ∃ a xs, v = .ref a ∧ H a = some (.tup xs) ∧ FzAll H xs ds := by
  cases h with
  | tup e t => exact ⟨_, _, rfl, e, t⟩
theorem Fz.t2 {v : V} {d e : PyData} (h : Fz H v (.tuple [d, e])) : ∃ a x y, v = .ref a ∧ H a = some (.tup [x, y]) ∧ Fz H x d ∧ Fz H y e := by
  obtain ⟨a, xs, rfl, ha, t⟩ := h.t
  cases t with
  | cons p t =>
    cases t with
    | cons q t =>
      cases t
      exact ⟨a, _, _, rfl, ha, p, q⟩
theorem Fz.t3 {v : V} {d e f : PyData} (h : Fz H v (.tuple [d, e, f])) : ∃ a x y z, v = .ref a ∧ H a = some (.tup [x, y, z]) ∧ Fz H x d ∧ Fz H y e ∧ Fz H z f := by
  obtain ⟨a, xs, rfl, ha, t⟩ := h.t
  cases t with
  | cons p t =>
    cases t with
    | cons q t =>
      cases t with
      | cons r t =>
        cases t
        exact ⟨a, _, _, _, rfl, ha, p, q, r⟩
theorem FzAll.len : ∀ {xs : List V} {ds : List PyData}, FzAll H xs ds → xs.length = ds.length
  | _, _, .nil => rfl
  | _, _, .cons _ t => by rw [List.length_cons, List.length_cons, FzAll.len t]
theorem FzAll.get : ∀ {xs : List V} {ds : List PyData} {i : Nat} {d : PyData}, FzAll H xs ds → ds[i]? = some d → ∃ x, xs[i]? = some x ∧ Fz H x d
  | _, _, _, _, .nil, h => by simp at h
  | _, _, 0, _, .cons a t, h => by
    simp at h
    subst h
    exact ⟨_, rfl, a⟩
  | _, _, i + 1, _, .cons a t, h => by
    obtain ⟨x, h1, h2⟩ := FzAll.get (i := i) t (by simpa using h)
    exact ⟨x, by simpa using h1, h2⟩
theorem FzAll.at : ∀ {xs : List V} {ds : List PyData} {i : Nat} {x : V}, FzAll H xs ds → xs[i]? = some x → ∃ d, ds[i]? = some d ∧ Fz H x d
  | _, _, _, _, .nil, h => by simp at h
  | _, _, 0, _, .cons a t, h => by
    simp at h
    subst h
    exact ⟨_, rfl, a⟩
  | _, _, i + 1, _, .cons a t, h => by
    obtain ⟨x, h1, h2⟩ := FzAll.at (i := i) t (by simpa using h)
    exact ⟨x, by simpa using h1, h2⟩
theorem FzAll.append : ∀ {xs ys : List V} {ds es : List PyData}, FzAll H xs ds → FzAll H ys es → FzAll H (xs ++ ys) (ds ++ es)
  | _, _, _, _, .nil, b => b
  | _, _, _, _, .cons a t, b => .cons a (FzAll.append t b)
theorem FzAll.snoc {xs : List V} {x : V} {ds : List PyData} {d : PyData} (a : FzAll H xs ds) (b : Fz H x d) : FzAll H (xs ++ [x]) (ds ++ [d]) := a.append (.cons b .nil)
theorem FzAll.take : ∀ {xs : List V} {ds : List PyData} (n : Nat), FzAll H xs ds → FzAll H (xs.take n) (ds.take n)
  | _, _, 0, _ => .nil
  | _, _, _ + 1, .nil => .nil
  | _, _, n + 1, .cons a t => .cons a (FzAll.take n t)
theorem FzAll.drop : ∀ {xs : List V} {ds : List PyData} (n : Nat), FzAll H xs ds → FzAll H (xs.drop n) (ds.drop n)
  | _, _, 0, r => r
  | _, _, _ + 1, .nil => .nil
  | _, _, n + 1, .cons _ t => FzAll.drop n t
theorem FzAll.erase : ∀ {xs : List V} {ds : List PyData} (n : Nat), FzAll H xs ds → FzAll H (xs.eraseIdx n) (ds.eraseIdx n)
  | _, _, _, .nil => .nil
  | _, _, 0, .cons _ t => t
  | _, _, n + 1, .cons a t => .cons a (FzAll.erase n t)
theorem FzAll.strs : ∀ {xs : List V} {ys : List Str}, FzAll H xs (ys.map PyData.str) → xs = ys.map V.str
  | _, [], h => by cases h; rfl
  | _, y :: ys, h => by
    cases h with
    | cons a t => rw [a.s, FzAll.strs t]; rfl
theorem Fz.has {x : V} {xs : List V} {ds : List PyData} (a : FzAll H xs ds) (m : x ∈ xs) : ∃ d ∈ ds, Fz H x d := by
  obtain ⟨i, hi, e⟩ := List.getElem_of_mem m
  obtain ⟨d, h1, h2⟩ := a.at (i := i) (x := x) (by rw [List.getElem?_eq_getElem hi, e])
  exact ⟨d, List.mem_of_getElem? h1, h2⟩
end
/-- a list of frozen data -/
def LstAt (H : Hp) (l : Addr) (ds : List PyData) : Prop := ∃ xs, H l = some (.lst xs) ∧ FzAll H xs ds
theorem LstAt.keep {a l : Addr} {H H' : Hp} {ds : List PyData} (n : l ≠ a) (k : Keep a H H') (t : Tups H H') (h : LstAt H l ds) : LstAt H' l ds := by
  obtain ⟨xs, e, f⟩ := h
  exact ⟨xs, k _ _ n e, f.mv t⟩
theorem LstAt.same {l : Addr} {H H' : Hp} {ds : List PyData} (k : Same H H') (h : LstAt H l ds) : LstAt H' l ds := by
  obtain ⟨xs, e, f⟩ := h
  exact ⟨xs, k _ _ e, f.mv (tups_same k)⟩
abbrev Stn := List (Int × Int)
def eP (p : Int × Int) : PyData := .tuple [.int p.1, .int p.2]
def eS (s : Stn) : PyData := .tuple (s.map eP)
def eE (e : Str × Str) : PyData := .tuple [.str e.1, .str e.2]
inductive Fact where
  | let_ (s : Stn)
  | not_ (s : Stn)
  | as_ (s t : Stn)
def eF : Fact → PyData
  | .let_ s => .tuple [.str "let", eS s]
  | .not_ s => .tuple [.str "not", eS s]
  | .as_ s t => .tuple [.str "as", eS s, eS t]
end GD
namespace K73
open PySem PySem.Spec PyProof.Rows L2 GD
def top (i : Nat) : Stmt := PySem.Challenge.pw_unseenstocks_k73_whole_manners_told_othe.main.body.getD i (.Pass ⟨0, 0, 0, 0⟩)
abbrev sPot : Stmt := top 70
abbrev sTake : Stmt := top 71
abbrev sOf : Stmt := top 72
abbrev sSome : Stmt := top 73
abbrev sCells : Stmt := top 74
abbrev sNames : Stmt := top 75
abbrev sJobs : Stmt := top 76
abbrev sFirst : Stmt := top 77
abbrev sBehind : Stmt := top 78
abbrev sCanCome : Stmt := top 79
abbrev sEvents : Stmt := top 80
abbrev sStanding : Stmt := top 81
abbrev sChange : Stmt := top 82
abbrev sStock : Stmt := top 83
abbrev sLevel : Stmt := top 84
abbrev sLets : Stmt := top 85
abbrev sHeardFacts : Stmt := top 86
abbrev sAlikeFacts : Stmt := top 87
abbrev sFew : Stmt := top 88
abbrev sLore : Stmt := top 89
abbrev sStandingText : Stmt := top 90
abbrev sFactLine : Stmt := top 91
abbrev sLines : Stmt := top 92
abbrev sText : Stmt := top 93
section
variable {P : Program} {w : World} {K : PySem.W.Frag} {mg : Str → Option Value} {base : Heap}
theorem scT : FnScope ["_law_pot_here", "_law_upto", "_law_digit", "_law_prime", "_law_mixed"] ["_law_pot_here", "_law_upto"] (defScope sTake) := ⟨rfl, rfl, rfl, by decide +kernel, rfl, by decide +kernel, by decide +kernel⟩
theorem ok_take {f : Addr} {fd : FuncData} (F : Fun K "_law_take" "_law_take" sTake f fd) (T : TxtA mg) : FnOk P w K mg base CX0 1 f fd ["_law_pot_here", "_law_upto"] spTake := by
  refine F.ok scT (fun vs H Q E h => ?_) (fun cdv A outer s H vs Q E hr h => ?_)
  · obtain ⟨a, u, z, rfl, _⟩ := h
    rfl
  · obtain ⟨a, u, z, rfl, ⟨x, y, c, hp, hx, hy, hy2, hc, hc2⟩, hz, hu, hu2, k⟩ := h
    have hw64 : u.natAbs < 2 ^ 64 := by
      have : (2 : Nat) ^ 64 = 18446744073709551616 := by decide
      omega
    refine ⟨_, pss_cons (ps_if (pt_cmpR op_gt (pe_ix ix_list (pv 0) pe_int (fun _ _ => rfl)) pe_int (nomark _))
        (pss_cons (ps_set (i := 2) scT.nd rfl (.inl rfl) (pe_op op_mod (pe_callTy call_int1 (by rfl) T.int (by decide +kernel) (pa_cons (pe_ix ix_list (pv 0) pe_int (fun _ _ => rfl)) pa_nil)) (pv 1)))
          (pss_cons (ps_asg (pe_op op_fdivW (pe_ix ix_list (pv 0) pe_int (fun _ _ => rfl)) (pv 1)) (pg_sub (pv 0) pe_int set_list))
            (pss_one (ps_ret (pv 2))))) pss_nil)
      (pss_cons (ps_asg (pe_op op_add (pe_ix ix_list (pv 0) pe_int (fun _ _ => rfl)) pe_int) (pg_sub (pv 0) pe_int set_list))
      (pss_cons (ps_set (i := 3) scT.nd rfl (.inl rfl) (pe_ix ix_list (pe_lst (pa_cons pe_int (pa_cons pe_int (pa_cons pe_int (pa_cons pe_int (pa_cons pe_int pa_nil))))))
          (pe_op op_mod (pe_callTy call_int1 (by rfl) T.int (by decide +kernel) (pa_cons (pe_ix ix_list (pv 0) pe_int (fun _ _ => rfl)) pa_nil)) pe_int) (fun _ _ => rfl)))
      (pss_cons (ps_set (i := 4) scT.nd rfl (.inl rfl) (pe_op op_mod (pe_callTy call_int1 (by rfl) T.int (by decide +kernel) (pa_cons
          (pe_op op_pow (pe_callTy call_int1 (by rfl) T.int (by decide +kernel) (pa_cons (pe_op op_add (pe_op op_add (pe_ix ix_list (pv 0) pe_int (fun _ _ => rfl))
            (pe_op op_mul (pe_op op_mul pe_int (pe_ix ix_list (pv 0) pe_int (fun _ _ => rfl))) (pe_ix ix_list (pv 0) pe_int (fun _ _ => rfl)))) pe_int) pa_nil)) pe_int) pa_nil)) (pv 3)))
      (pss_cons (ps_set (i := 4) scT.nd rfl (.inl rfl) (pe_op op_mod (pe_callTy call_int1 (by rfl) T.int (by decide +kernel) (pa_cons
          (pe_op op_mul (pv 4) (pe_op op_add (pe_op op_mod (pe_callTy call_int1 (by rfl) T.int (by decide +kernel) (pa_cons (pv 4) pa_nil)) pe_int)
            (pe_op op_mul pe_int (pe_ix ix_list (pv 0) pe_int (fun _ _ => rfl))))) pa_nil)) pe_int))
      (pss_one (ps_ret (pe_op op_mod (pe_callTy call_int1 (by rfl) T.int (by decide +kernel) (pa_cons (pe_op op_fdiv (pv 4) pe_int) pa_nil)) (pv 1)))))))), ?_⟩
    refine ⟨_, rfl, a, _, 0, _, rfl, rfl, SqL.of hp, rfl, _, _, rfl, rfl, _, rfl, ?_⟩
    refine ite2 (fun _ => ?_) (fun _ => ?_)
    · refine ⟨_, rfl, a, _, 0, _, rfl, rfl, SqL.of hp, rfl, .inl ⟨_, rfl, ?_⟩⟩
      refine ⟨_, rfl, _, _, rfl, rfl, hu, ?_⟩
      refine ⟨_, rfl, a, _, 0, _, rfl, rfl, SqL.of hp, rfl, _, rfl, _, _, rfl, rfl, wide_div (b := 64) hu hw64 (by decide) (by decide), _, rfl, a, _, 0, 0, rfl, rfl, hp, rfl, _, rfl, ?_⟩
      refine k _ _ (Int.emod_nonneg _ (by omega)) (Int.emod_lt_of_pos _ hu) ⟨_, y, c, upd_same, ?_, hy, hy2, hc, by omega⟩ fun b o hb e => ?_
      · exact Int.ediv_nonneg hx (by omega)
      · rw [upd_ne hb]
        exact e
    · refine ⟨_, rfl, a, _, 2, _, rfl, rfl, SqL.of hp, rfl, _, _, rfl, rfl, _, rfl, a, _, 2, 2, rfl, rfl, hp, rfl, ?_⟩
      obtain ⟨pr, hpr, hp0, hp1⟩ := five (c + 1)
      have hq := sq_small (k := 101833) (c := c + 1) (by decide) (by decide) (by omega) (by omega)
      refine ⟨(by show 5 ≤ sizeLine; decide), fun p np => ?_⟩
      have npa : p ≠ a := fun e => by
        rw [e, upd_same] at np
        cases np
      have h2 : ∀ o, upd (upd H a (.lst [.int x, .int y, .int (c + 1)])) p o a = some (.lst [.int x, .int y, .int (c + 1)]) := fun o => (upd_ne npa.symm).trans upd_same
      refine ⟨_, rfl, a, _, 2, _, rfl, rfl, SqL.of (h2 _), rfl, .inl ⟨_, rfl, _, _, rfl, rfl, (by show (0 : Int) < 5; decide), p, _, _, _, rfl, rfl, SqL.of upd_same, hpr, ?_⟩⟩
      refine ⟨_, rfl, a, _, 1, _, rfl, rfl, SqL.of (h2 _), rfl, _, rfl, a, _, 2, _, rfl, rfl, SqL.of (h2 _), rfl, _, _, rfl, rfl, .inl ⟨by decide, by decide⟩, _, rfl, a, _, 2, _, rfl, rfl, SqL.of (h2 _), rfl, _, _, rfl, rfl, .inr ⟨by omega, by omega⟩, _, _, rfl, rfl, _, _, rfl, rfl, .inl ⟨_, rfl, ?_⟩⟩
      refine ⟨_, _, rfl, rfl, ⟨by decide, by decide, by omega⟩, .inl ⟨_, rfl, _, rfl, _, _, rfl, rfl, hp0, ?_⟩⟩
      have m0 := Int.emod_nonneg ((y + 101833 * (c + 1) * (c + 1) + 140) ^ (3 : Int).toNat) (show pr ≠ 0 by omega)
      have m1 := Int.emod_lt_of_pos ((y + 101833 * (c + 1) * (c + 1) + 140) ^ (3 : Int).toNat) hp0
      refine ⟨_, rfl, _, rfl, .inl ⟨_, rfl, _, _, rfl, rfl, (by show (0 : Int) < 10103; decide), _, rfl, a, _, 2, _, rfl, rfl, SqL.of (h2 _), rfl, _, _, rfl, rfl, .inl ⟨by decide, by decide⟩, _, _, rfl, rfl, _, _, rfl, rfl, .inl ⟨by omega, by omega⟩, .inl ⟨_, rfl, _, _, rfl, rfl, (by show (0 : Int) < 2305843009213693907; decide), ?_⟩⟩⟩
      refine ⟨_, rfl, _, _, rfl, rfl, ⟨by decide, by decide⟩, .inl ⟨_, rfl, _, rfl, _, _, rfl, rfl, hu, ?_⟩⟩
      refine k _ _ (Int.emod_nonneg _ (by omega)) (Int.emod_lt_of_pos _ hu) ⟨x, y, c + 1, h2 _, hx, hy, hy2, by omega, by omega⟩ fun b o hb e => ?_
      have hbp : b ≠ p := fun z => by
        rw [z] at e
        rw [upd_ne npa] at np
        rw [np] at e
        cases e
      rw [upd_ne hbp, upd_ne hb]
      exact e
theorem scP : FnScope ["_law_script", "_law_place", "_law_cell", "_law_own", "_law_small"] ["_law_script", "_law_place"] (defScope sPot) := ⟨rfl, rfl, rfl, by decide +kernel, rfl, by decide +kernel, by decide +kernel⟩
theorem ok_pot {f : Addr} {fd : FuncData} (F : Fun K "_law_pot" "_law_pot" sPot f fd) (T : TxtA mg) : FnOk P w K mg base CX0 1 f fd ["_law_script", "_law_place"] (spPot K) := by
  refine F.ok scP (fun vs H Q E h => ?_) (fun cdv A outer s H vs Q E hr h => ?_)
  · obtain ⟨a, u, z, rfl, _⟩ := h
    rfl
  · obtain ⟨a, ns, pl, rfl, hs, hp0, hp1, k⟩ := h
    refine ⟨_, pss_cons (ps_set (i := 2) scP.nd rfl (.inl rfl) (pe_ifExp (pt_cmpR op_lt (pv 1) (pe_callB call_len_seq (by rfl) T.len PySem.boot_len (pa_cons (pv 0) pa_nil)) (nomark _)) (pe_ix ix_list (pv 0) (pv 1) (fun _ _ => rfl)) (pe_op op_add (pe_op op_mul pe_int (pv 1)) pe_int)))
      (pss_cons (ps_set (i := 3) scP.nd rfl (.inl rfl) (pe_op op_mul (pe_op op_mod (pe_callTy call_int1 (by rfl) T.int (by decide +kernel) (pa_cons (pe_callB call_abs (by rfl) T.abs (by decide +kernel) (pa_cons (pv 2) pa_nil)) pa_nil)) (pe_op op_powB (pe_op op_pow pe_int pe_int) pe_int))
          (pe_callTy call_int1 (by rfl) T.int (by decide +kernel) (pa_cons (pe_cmpR op_ge (pe_callB call_abs (by rfl) T.abs (by decide +kernel) (pa_cons (pv 2) pa_nil)) (pe_op op_pow pe_int pe_int) (nomark _)) pa_nil))))
      (pss_cons (ps_set (i := 4) scP.nd rfl (.inl rfl) (pe_op op_mod (pe_callTy call_int1 (by rfl) T.int (by decide +kernel) (pa_cons (pv 2) pa_nil)) pe_int))
      (pss_one (ps_ret (pe_lst (pa_cons (pv 3) (pa_cons (pe_op op_mod (pe_callTy call_int1 (by rfl) T.int (by decide +kernel) (pa_cons
        (pe_op op_add (pe_op op_add (pe_op op_mul (pv 4) pe_int) (pe_op op_mul (pe_op op_mul pe_int (pv 1)) (pv 1))) pe_int) pa_nil)) pe_int) (pa_cons pe_int pa_nil)))))))), ?_⟩
    refine ⟨_, rfl, _, rfl, a, _, rfl, .inl hs, _, _, rfl, rfl, _, rfl, ?_⟩
    refine ite_gen (fun n => ?_) (fun key => ?_)
    · refine ⟨_, rfl, _, rfl, .inl ⟨_, rfl, ?_⟩⟩
      refine ⟨_, _, rfl, rfl, ⟨by decide, by decide, by decide⟩, _, _, rfl, rfl, ⟨by decide, by decide +kernel⟩, _, _, rfl, rfl, (by show (0 : Int) < _; decide +kernel), ?_⟩
      refine ⟨_, rfl, _, rfl, _, _, rfl, rfl, ⟨by decide, by decide, by decide⟩, _, _, rfl, rfl, .inr ⟨_, rfl, _, _, rfl, rfl, .inr ⟨(b01 _).1, (b01 _).2.1⟩, ?_⟩⟩
      refine ⟨_, rfl, .inl ⟨_, rfl, _, _, rfl, rfl, (by show (0 : Int) < _; decide), ?_⟩⟩
      have s0 := Int.emod_nonneg n (show (2305843009213693951 : Int) ≠ 0 by decide)
      have s1 := Int.emod_lt_of_pos n (show (0 : Int) < 2305843009213693951 by decide)
      refine ⟨_, rfl, _, rfl, _, _, rfl, rfl, .inr ⟨by decide, by decide⟩, _, rfl, _, _, rfl, rfl, .inl ⟨by decide, by decide⟩, _, rfl, _, _, rfl, rfl, .inr ⟨by omega, by omega⟩, _, _, rfl, rfl, _, _, rfl, rfl, .inl ⟨_, rfl, _, _, rfl, rfl, (by show (0 : Int) < _; decide), ?_⟩⟩
      refine ⟨(by show 3 ≤ sizeLine; decide), fun p np => k p _ np ⟨_, _, _, upd_same, ?_, Int.emod_nonneg _ (by decide), Int.emod_lt_of_pos _ (by decide), by decide, by decide⟩ fun b o e => ?_⟩
      · refine Int.mul_nonneg (Int.emod_nonneg _ (by decide +kernel)) (b01 _).2.2
      · rw [upd_ne (ne_of_none e np)]
        exact e
    · refine ite2 (fun c => ?_) (fun c => ?_)
      · obtain ⟨n, hn⟩ := at_ints hp0 (of_decide_eq_true c)
        exact ⟨_, rfl, _, rfl, a, _, _, _, rfl, rfl, hs, hn, key n⟩
      · exact ⟨_, rfl, _, _, rfl, rfl, .inl ⟨by decide, by decide⟩, _, _, rfl, rfl, key _⟩
theorem scO : FnScope ["_law_pot_here", "_law_some_here"] ["_law_pot_here", "_law_some_here"] (defScope sOf) := ⟨rfl, rfl, rfl, by decide +kernel, rfl, by decide +kernel, by decide +kernel⟩
theorem ok_of {f fT : Addr} {fd fdT : FuncData} (F : Fun K "_law_of" "_law_of" sOf f fd) (T : TxtA mg) (FT : Fun K "_law_take" "_law_take" sTake fT fdT) (gT : mg "_law_take" = some (.ref fT)) (bT : Binds K fdT ["_law_pot_here", "_law_upto"] []) :
    FnOk P w K mg base CX0 2 f fd ["_law_pot_here", "_law_some_here"] (spOf K) := by
  have GT : FnOk P w K mg base CX0 1 fT fdT ["_law_pot_here", "_law_upto"] spTake := ok_take FT T
  refine F.ok scO (fun vs H Q E h => ?_) (fun cdv A outer s H vs Q E hr h => ?_)
  · obtain ⟨a, l, xs, z, rfl, _⟩ := h
    rfl
  · obtain ⟨a, l, xs, z, rfl, hp, hz, hla, hl, hne, hlen, k⟩ := h
    refine ⟨_, pss_one (ps_ret (pe_ix ix_list (pv 1) (pe_call GT hr rfl gT FT.kp bT .nil pass0 (pa_cons (pv 0) (pa_cons (pe_callB call_len_seq (by rfl) T.len PySem.boot_len (pa_cons (pv 1) pa_nil)) pa_nil))) (fun _ _ => rfl))), ?_⟩
    have hpos : 0 < xs.length := List.length_pos_iff.mpr hne
    refine ⟨_, rfl, _, rfl, _, rfl, l, xs, rfl, .inl (SqL.of hl), a, xs.length, z, rfl, hp, hz, by omega, by omega, fun j H' h0 h1 hp' kp => ?_⟩
    obtain ⟨v, hv, hm⟩ := at_mem h0 h1
    exact ⟨l, xs, j, v, rfl, rfl, SqL.of (kp l _ hla hl), hv, k v H' hm hp' kp⟩
theorem scC : FnScope ["_law_script", "_law_most"] ["_law_script", "_law_most"] (defScope sCells) := ⟨rfl, rfl, rfl, by decide +kernel, rfl, by decide +kernel, by decide +kernel⟩
theorem ok_cells {f : Addr} {fd : FuncData} (F : Fun K "_law_cells" "_law_cells" sCells f fd) (T : TxtA mg) : FnOk P w K mg base CX0 1 f fd ["_law_script", "_law_most"] (spCells K) := by
  refine F.ok scC (fun vs H Q E h => ?_) (fun cdv A outer s H vs Q E hr h => ?_)
  · obtain ⟨a, ns, m, rfl, _⟩ := h
    rfl
  · obtain ⟨a, ns, m, rfl, hs, h1, h2, k⟩ := h
    refine ⟨_, pss_one (ps_ret (pe_listRg rfl (by rfl) T.list (prg_1 (by rfl) T.range (pe_callB (call_max2 rfl) (by rfl) T.max (by decide +kernel) (pa_cons pe_int (pa_cons
      (pe_callB (call_min2 rfl) (by rfl) T.min (by decide +kernel) (pa_cons (pv 1) (pa_cons (pe_callB call_len_seq (by rfl) T.len PySem.boot_len (pa_cons (pv 0) pa_nil)) pa_nil))) pa_nil)))))), ?_⟩
    refine ⟨_, rfl, _, rfl, a, _, rfl, .inl hs, _, _, rfl, _, _, rfl, _, rfl, ?_, fun q hq => k q _ hq ?_ ?_⟩
    · have q := (mm m (ns.map V.int).length h1)
      exact RgOk.of_le (by decide) (by omega) (by decide) (by omega)
    · have q := (mm m (ns.map V.int).length h1)
      omega
    · exact (mm m (ns.map V.int).length h1).2
end
end K73
namespace GD
open PySem PySem.Spec PyProof.Rows L2
theorem seq_nat {k : Int} {n : Nat} (h0 : 0 ≤ k) (h1 : k < (n : Nat)) : seqIndex? k n = some k.toNat := by
  have e : ixN n k = some k.toNat := by
    unfold ixN
    rw [if_pos h0, if_pos h1]
  exact (ixN_seq e).1
theorem keep_upd {a l : Addr} {H H1 : Hp} {o : HO} (k : Keep a H H1) (hl : H l = none) : Keep a H (upd H1 l o) := fun b u n e => by
  rw [upd_ne (ne_of_none e hl)]
  exact k b u n e
theorem same_upd {H H1 : Hp} {l : Addr} {o : HO} (k : Same H H1) (hl : H l = none) : Same H (upd H1 l o) := fun b u e => by
  rw [upd_ne (ne_of_none e hl)]
  exact k b u e
theorem PotAt.ne {a l : Addr} {H : Hp} {z : Int} (p : PotAt H a z) (hl : H l = none) : l ≠ a := fun e => by
  obtain ⟨x, y, c, h, _⟩ := p
  rw [e, h] at hl
  cases hl
theorem erase_perm {α : Type} : ∀ {l : List α} {k : Nat} {y : α}, l[k]? = some y → (y :: l.eraseIdx k).Perm l
  | [], k, y, h => by simp at h
  | x :: l, 0, y, h => by
    simp at h
    subst h
    exact List.Perm.refl _
  | x :: l, k + 1, y, h => by
    have ih := erase_perm (l := l) (k := k) (y := y) (by simpa using h)
    exact (List.Perm.swap x y (l.eraseIdx k)).trans (ih.cons x)
def spSome (K : PySem.W.Frag) : Sp := fun vs H Q _ => ∃ (a l : Addr) (xs : List V) (m : Nat) (z : Int), vs = [.ref a, .ref l, .int m] ∧ PotAt H a z ∧ z ≤ 50000 ∧ SqL K H l xs ∧ m ≤ xs.length ∧ xs.length ≤ 500 ∧
  ∀ p ys H', H p = none → PotAt H' a (z + m) → Keep a H H' → H' p = some (.lst ys) → (∃ rest, (ys ++ rest).Perm xs) → ys.length = m → Q (.ref p) H'
end GD
namespace K73
open PySem PySem.Spec PyProof.Rows L2 GD
section
variable {P : Program} {w : World} {K : PySem.W.Frag} {mg : Str → Option Value} {base : Heap}
theorem scS : FnScope ["_law_pot_here", "_law_pool", "_law_many", "_law_left", "_law_found", "_law_lap"] ["_law_pot_here", "_law_pool", "_law_many"] (defScope sSome) := ⟨rfl, rfl, rfl, by decide +kernel, rfl, by decide +kernel, by decide +kernel⟩
theorem ok_some {f fT : Addr} {fd fdT : FuncData} (F : Fun K "_law_some" "_law_some" sSome f fd) (T : TxtA mg) (FT : Fun K "_law_take" "_law_take" sTake fT fdT) (gT : mg "_law_take" = some (.ref fT)) (bT : Binds K fdT ["_law_pot_here", "_law_upto"] []) :
    FnOk P w K mg base CX0 2 f fd ["_law_pot_here", "_law_pool", "_law_many"] (spSome K) := by
  have GT : FnOk P w K mg base CX0 1 fT fdT ["_law_pot_here", "_law_upto"] spTake := ok_take FT T
  refine F.ok scS (fun vs H Q E h => ?_) (fun cdv A outer s H vs Q E hr h => ?_)
  · obtain ⟨a, l, xs, m, z, rfl, _⟩ := h
    rfl
  · obtain ⟨a, l, xs, m, z, rfl, hp, hz, hl, hm, hlen, k⟩ := h
    refine ⟨_, pss_cons (ps_par (i := 3) (j := 4) rfl scS.nd rfl rfl (by decide) rfl rfl (pa_cons (pe_callTy call_list_of (by rfl) T.list (by decide +kernel) (pa_cons (pv 1) pa_nil)) (pa_cons (pe_lst pa_nil) pa_nil)) (by rfl))
      (pss_cons (ps_for PassesOwn.never rfl (pi_range1 (by rfl) T.range (pa_cons (pv 2) pa_nil)) (pg_name (i := 5) scS.nd rfl (.inl rfl))
        (pss_one (ps_expr (pe_bm PySem.F.plainAttrs_list PySem.F.slot_list_append PySem.F.type_list_append mt_append (pv 4) (pa_cons
          (pe_bm PySem.F.plainAttrs_list PySem.F.slot_list_pop PySem.F.type_list_pop mt_popAt (pv 3) (pa_cons (pe_call GT hr rfl gT FT.kp bT .nil pass0 (pa_cons (pv 0) (pa_cons (pe_callB call_len_seq (by rfl) T.len PySem.boot_len (pa_cons (pv 3) pa_nil)) pa_nil))) pa_nil)) pa_nil)))))
      (pss_one (ps_ret (pv 4)))), ?_⟩
    refine ⟨_, rfl, l, xs, rfl, .inl hl, fun l1 n1 => ?_⟩
    have s1 := same_new (o := .lst xs) n1
    refine ⟨by decide, fun p np => ?_⟩
    have s2 := same_new (o := .lst []) np
    have p0 : H p = none := s1.free np
    have n1p : l1 ≠ p := ne_of_none upd_same np
    refine ⟨_, _, rfl, _, rfl, m, rfl, by omega, by omega, for_range (lo := 0) (n := m) (fun i σ H' => ∃ (left ys : List V) (x5 : Option V), σ = [some (.ref a), some (.ref l), some (.int m), some (.ref l1), some (.ref p), x5] ∧
      PotAt H' a (z + (i : Nat)) ∧ Keep a H H' ∧ H' l1 = some (.lst left) ∧ H' p = some (.lst ys) ∧ (ys ++ left).Perm xs ∧ ys.length = i) ⟨xs, [], none, rfl, (hp.same (s1.trans s2)).le (by omega), sKeep (s1.trans s2), s2 _ _ upd_same, upd_same, List.Perm.refl _, rfl⟩ ?_ ?_⟩
    · rintro i σ H' hi ⟨left, ys, x5, rfl, pa, ka, eL, eP, pm, ly⟩
      have zl : ys.length + left.length = xs.length := by rw [← List.length_append]; exact pm.length_eq
      have nl1 : l1 ≠ a := hp.ne n1
      have npa : p ≠ a := hp.ne p0
      refine ⟨_, rfl, .inl ⟨rfl, _, SqL.of eP⟩, _, rfl, .inl ⟨rfl, _, SqL.of eL⟩, _, rfl, _, rfl, l1, left, rfl, .inl (SqL.of eL), a, left.length, z + (i : Nat), rfl, pa, by omega, by omega, by omega, fun j H2 j0 j1 p2 k2 => ?_⟩
      have hj : j.toNat < left.length := by omega
      refine ⟨l1, left, j, j.toNat, left[j.toNat], rfl, rfl, k2 _ _ nl1 eL, by omega, by omega, seq_nat j0 j1, List.getElem?_eq_getElem hj, ?_⟩
      refine ⟨p, ys, _, rfl, rfl, by rw [upd_ne n1p.symm]; exact k2 _ _ npa eP, Nat.lt_of_le_of_lt (show ys.length ≤ 500 by omega) (by decide), ?_⟩
      refine ⟨_, _, _, rfl, ((p2.upd_ne nl1).upd_ne npa).le (by omega), keep_upd (keep_upd (ka.trans k2) n1) p0, by rw [upd_ne n1p, upd_same], upd_same, ?_, by rw [List.length_append, ly]; rfl⟩
      refine List.Perm.trans ?_ pm
      rw [List.append_assoc]
      exact List.Perm.append_left ys (erase_perm (List.getElem?_eq_getElem hj))
    · rintro σ H' ⟨left, ys, x5, rfl, pa, ka, eL, eP, pm, ly⟩
      exact ⟨_, rfl, k p ys H' p0 pa ka eP ⟨left, pm⟩ ly⟩
end
end K73
namespace GD
open PySem PySem.Spec PyProof.Rows L2
theorem ShAll.strs {H : Hp} : ∀ {xs : List V} {ys : List Str}, ShAll H xs (ys.map PyData.str) → xs = ys.map V.str
  | _, [], h => by cases h; rfl
  | _, y :: ys, h => by
    cases h with
    | cons a t =>
      cases a
      rw [ShAll.strs t]
      rfl
def pool14 : List Str := ["a", "b", "c", "ann", "bob", "jobs", "let", "not", "as", "to", "begin", "end", "clean", "zzzzzzzz"]
def pool7 : List Str := ["no", "spent", "free", "seen", "same", "plain", "undo"]
def pool21 : List Str := pool14 ++ pool7
theorem pool_nodup : pool21.Nodup := by decide +kernel
theorem strs_of : ∀ {ys : List V} {ps : List Str}, (∀ y ∈ ys, y ∈ ps.map V.str) → ∃ ns : List Str, ys = ns.map V.str ∧ ∀ n ∈ ns, n ∈ ps
  | [], _, _ => ⟨[], rfl, fun _ h => nomatch h⟩
  | y :: ys, ps, h => by
    obtain ⟨ns, e, m⟩ := strs_of (ys := ys) (ps := ps) fun z hz => h z (List.mem_cons_of_mem _ hz)
    obtain ⟨n, hn, en⟩ := List.mem_map.mp (h y List.mem_cons_self)
    refine ⟨n :: ns, by rw [List.map_cons, en, e], fun x hx => ?_⟩
    rcases List.mem_cons.mp hx with z | z
    · rw [z]
      exact hn
    · exact m x z
theorem picked {ys rest : List V} {ps : List Str} (hp : (ys ++ rest).Perm (ps.map V.str)) (nd : ps.Nodup) : ∃ ns : List Str, ys = ns.map V.str ∧ ns.Nodup ∧ ∀ n ∈ ns, n ∈ ps := by
  obtain ⟨ns, e, m⟩ := strs_of (ys := ys) (ps := ps) fun y hy => hp.mem_iff.mp (List.mem_append_left _ hy)
  have n1 : (ps.map V.str).Nodup := by
    rw [List.nodup_iff_pairwise_ne, List.pairwise_map]
    exact (List.nodup_iff_pairwise_ne.mp nd).imp fun h z => h (V.str.inj z)
  have n2 : (ys ++ rest).Nodup := hp.nodup_iff.mpr n1
  have n3 : ys.Nodup := (List.nodup_append.mp n2).1
  rw [e, List.nodup_iff_pairwise_ne, List.pairwise_map] at n3
  exact ⟨ns, e, List.nodup_iff_pairwise_ne.mpr (n3.imp fun h z => h (by rw [z])), m⟩
def spNames : Sp := fun vs H Q _ => ∃ (a : Addr) (m : Nat) (z : Int), vs = [.ref a, .int m] ∧ PotAt H a z ∧ z ≤ 50000 ∧ m ≤ 21 ∧
  ∀ p (ns : List Str) H', H p = none → PotAt H' a (z + m) → Keep a H H' → H' p = some (.lst (ns.map V.str)) → ns.length = m → ns.Nodup → (∀ n ∈ ns, n ∈ pool21) → Q (.ref p) H'
def JobsOk (most : Nat) (ms : List Str) (js : List (Str × Str)) : Prop := 1 ≤ js.length ∧ js.length ≤ most ∧ (js.map (·.1)).Nodup ∧ ∀ j ∈ js, j.1 ∈ pool21 ∧ j.2 ∈ ms
def spJobs : Sp := fun vs H Q _ => ∃ (a l : Addr) (most : Nat) (ms : List Str) (z : Int), vs = [.ref a, .int most, .ref l] ∧ PotAt H a z ∧ z ≤ 40000 ∧ 1 ≤ most ∧ most ≤ 4 ∧ l ≠ a ∧ H l = some (.lst (ms.map V.str)) ∧ ms ≠ [] ∧ ms.length ≤ 100 ∧
  ∀ p js H', H p = none → PotAt H' a (z + 20) → Keep a H H' → LstAt H' p (js.map eE) → JobsOk most ms js → Q (.ref p) H'
def spFirst (K : PySem.W.Frag) : Sp := fun vs H Q _ => ∃ (l : Addr) (xs : List V), vs = [.ref l] ∧ SqL K H l xs ∧ xs.length ≤ 100 ∧ ∀ v H', Same H H' → Fz H' v (eS (List.replicate xs.length (0, 0))) → Q v H'
def man6 : List Str := ["plain", "plain", "clean", "clean", "spent", "free"]
end GD
namespace K73
open PySem PySem.Spec PyProof.Rows L2 GD
section
variable {P : Program} {w : World} {K : PySem.W.Frag} {mg : Str → Option Value} {base : Heap}
theorem scN : FnScope ["_law_pot_here", "_law_many", "_law_pool"] ["_law_pot_here", "_law_many"] (defScope sNames) := ⟨rfl, rfl, rfl, by decide +kernel, rfl, by decide +kernel, by decide +kernel⟩
theorem ok_names {f fS fT : Addr} {fd fdS fdT : FuncData} (F : Fun K "_law_names" "_law_names" sNames f fd) (T : TxtA mg) (FT : Fun K "_law_take" "_law_take" sTake fT fdT) (gT : mg "_law_take" = some (.ref fT)) (bT : Binds K fdT ["_law_pot_here", "_law_upto"] [])
    (FS : Fun K "_law_some" "_law_some" sSome fS fdS) (gS : mg "_law_some" = some (.ref fS)) (bS : Binds K fdS ["_law_pot_here", "_law_pool", "_law_many"] []) : FnOk P w K mg base CX0 3 f fd ["_law_pot_here", "_law_many"] spNames := by
  have GS : FnOk P w K mg base CX0 2 fS fdS ["_law_pot_here", "_law_pool", "_law_many"] (spSome K) := ok_some FS T FT gT bT
  refine F.ok scN (fun vs H Q E h => ?_) (fun cdv A outer s H vs Q E hr h => ?_)
  · obtain ⟨a, m, z, rfl, _⟩ := h
    rfl
  · obtain ⟨a, m, z, rfl, hp, hz, hm, k⟩ := h
    have x0 : ∀ {X : Cx} {x : Str} {j0 : Nat} {c0 : Pos}, PE X (.Constant (.str x) j0 c0) (tD (dS x)) := pd_c pe_str fun M => .str _
    refine ⟨_, pss_cons (ps_set (i := 2) scN.nd rfl (.inl rfl) (pe_lst (t := tDs (pool14.map PyData.str)) ?d1)) (pss_one (ps_ret (pe_call GS hr rfl gS FS.kp bS .nil pass0 (pa_cons (pv 0) (pa_cons (pe_op op_cat (pv 2) (pe_lst (t := tDs (pool7.map PyData.str)) ?d2)) (pa_cons (pv 1) pa_nil)))))), ?rd⟩
    case d1 =>
      iterate 14 refine pds_cons x0 ?_
      exact pds_nil
    case d2 =>
      iterate 7 refine pds_cons x0 ?_
      exact pds_nil
    case rd =>
      refine fun v1 H1 s1 h1 => ?_
      rw [h1.strs]
      refine ⟨by decide, fun l hl => ?_⟩
      have s2 := same_new (o := .lst (pool14.map V.str)) hl
      refine ⟨_, rfl, _, rfl, fun v2 H2 s3 h2 => ?_⟩
      rw [h2.strs]
      refine ⟨by decide, fun b hb => ?_⟩
      have s4 := same_new (o := .lst (pool7.map V.str)) hb
      refine ⟨l, b, _, _, rfl, rfl, s4 _ _ (s3 _ _ upd_same), upd_same, by decide, fun p hp' => ?_⟩
      have s5 := same_new (o := .lst (pool14.map V.str ++ pool7.map V.str)) hp'
      have sF := (((s1.trans s2).trans s3).trans s4).trans s5
      refine ⟨_, rfl, a, p, _, m, z, rfl, hp.same sF, hz, SqL.of upd_same, by simpa [pool14, pool7] using hm, by decide, fun q ys H' nq pq kq eq ⟨rest, pm⟩ ly => ?_⟩
      have pm' : (ys ++ rest).Perm (pool21.map V.str) := by
        rw [pool21, List.map_append]
        exact pm
      obtain ⟨ns, e, nd, mem⟩ := picked pm' pool_nodup
      subst e
      exact k q ns H' (sF.free nq) pq (Keep.trans (sKeep sF) kq) eq (by rw [← ly, List.length_map]) nd mem
theorem scF : FnScope ["_law_jobs_here", "_law_job"] ["_law_jobs_here"] (defScope sFirst) := ⟨rfl, rfl, rfl, by decide +kernel, rfl, by decide +kernel, by decide +kernel⟩
theorem ok_first {f : Addr} {fd : FuncData} (F : Fun K "_law_first" "_law_first" sFirst f fd) (nT : mg "tuple" = none) : FnOk P w K mg base CX0 1 f fd ["_law_jobs_here"] (spFirst K) := by
  refine F.ok scF (fun vs H Q E h => ?_) (fun cdv A outer s H vs Q E hr h => ?_)
  · obtain ⟨l, xs, rfl, _⟩ := h
    rfl
  · obtain ⟨l, xs, rfl, hl, hz, k⟩ := h
    refine ⟨_, pss_one (ps_ret (pe_callTy call_tuple_of (by rfl) nT (by decide +kernel) (pa_cons (pe_lc (own := [("_law_job", 1)]) (g := gName 1) (tt := tYes) rfl scF.nd (pi_list (pv 0)) (blkOk_by (N := ["_law_jobs_here", "_law_job"]) (sc := defScope sFirst) (by decide +kernel))
      (fun _ _ _ _ _ => pg_name (i := 1) scF.nd rfl (.inl rfl)) (fun _ _ _ _ _ => pts_nil) (fun _ _ _ _ _ => pe_tup (pa_cons pe_int (pa_cons pe_int pa_nil)))) pa_nil))), ?_⟩
    refine ⟨_, rfl, l, rfl, ⟨_, hl⟩, fun D hD => ?_⟩
    refine lc_list (K := K) (a := l) (xs := xs) (fun i H' => Same H H' ∧ ∃ acc, H' D = some (.lst acc) ∧ FzAll H' acc ((List.replicate i ((0 : Int), (0 : Int))).map eP)) ⟨same_new hD, [], upd_same, .nil⟩ (fun i H' _ ⟨s1, _⟩ => s1.seq hl) ?_ ?_
    · rintro i x H' hi ⟨s1, acc, eD, fz⟩
      have hlt := (List.getElem?_eq_some_iff.mp hi).1
      refine ⟨rfl, (by show 2 ≤ sizeLine; decide), fun t ht => ?_⟩
      have st := same_new (o := .tup [.int 0, .int 0]) ht
      have zl : acc.length = i := by rw [fz.len, List.length_map, List.length_replicate]
      refine ⟨acc, st _ _ eD, by rw [zl]; exact Nat.lt_of_lt_of_le hlt (Nat.le_trans hz (by decide)), same_upd (s1.trans st) hD, _, upd_same, ?_⟩
      have f2 : FzAll (upd H' t (.tup [.int 0, .int 0])) (acc ++ [.ref t]) ((List.replicate (i + 1) ((0 : Int), (0 : Int))).map eP) := by
        rw [List.replicate_succ', List.map_append]
        exact (fz.mv (tups_same st)).snoc (.tup upd_same (.cons (.int 0) (.cons (.int 0) .nil)))
      exact f2.mv (tups_lst (st _ _ eD))
    · rintro H' ⟨s1, acc, eD, fz⟩
      refine ⟨D, acc, rfl, .inl ⟨SqL.of eD, fun t ht => k _ _ (s1.trans (same_new ht)) (.tup upd_same (fz.mv (tups_new ht)))⟩⟩
end
end K73
namespace K73
open PySem PySem.Spec PyProof.Rows L2 GD
section
variable {P : Program} {w : World} {K : PySem.W.Frag} {mg : Str → Option Value} {base : Heap}
theorem scJ : FnScope ["_law_pot_here", "_law_most", "_law_manners", "_law_name"] ["_law_pot_here", "_law_most", "_law_manners"] (defScope sJobs) := ⟨rfl, rfl, rfl, by decide +kernel, rfl, by decide +kernel, by decide +kernel⟩
theorem ok_jobs {f fN fO fS fT : Addr} {fd fdN fdO fdS fdT : FuncData} (F : Fun K "_law_jobs" "_law_jobs" sJobs f fd) (T : TxtA mg) (FT : Fun K "_law_take" "_law_take" sTake fT fdT) (gT : mg "_law_take" = some (.ref fT)) (bT : Binds K fdT ["_law_pot_here", "_law_upto"] [])
    (FS : Fun K "_law_some" "_law_some" sSome fS fdS) (gS : mg "_law_some" = some (.ref fS)) (bS : Binds K fdS ["_law_pot_here", "_law_pool", "_law_many"] [])
    (FN : Fun K "_law_names" "_law_names" sNames fN fdN) (gN : mg "_law_names" = some (.ref fN)) (bN : Binds K fdN ["_law_pot_here", "_law_many"] [])
    (FO : Fun K "_law_of" "_law_of" sOf fO fdO) (gO : mg "_law_of" = some (.ref fO)) (bO : Binds K fdO ["_law_pot_here", "_law_some_here"] []) : FnOk P w K mg base CX0 4 f fd ["_law_pot_here", "_law_most", "_law_manners"] spJobs := by
  have GT : FnOk P w K mg base CX0 1 fT fdT ["_law_pot_here", "_law_upto"] spTake := ok_take FT T
  have GN : FnOk P w K mg base CX0 3 fN fdN ["_law_pot_here", "_law_many"] spNames := ok_names FN T FT gT bT FS gS bS
  have GO : FnOk P w K mg base CX0 2 fO fdO ["_law_pot_here", "_law_some_here"] (spOf K) := ok_of FO T FT gT bT
  refine F.ok scJ (fun vs H Q E h => ?_) (fun cdv A outer s H vs Q E hr h => ?_)
  · obtain ⟨a, l, most, ms, z, rfl, _⟩ := h
    rfl
  · obtain ⟨a, l, most, ms, z, rfl, hp, hz, hm1, hm4, hla, hl, hne, hms, k⟩ := h
    have hr1 : Room 1 _ := hr.mono (by decide)
    have hr2 : Room 2 _ := hr.mono (by decide)
    refine ⟨_, pss_one (ps_ret (pe_lc (own := [("_law_name", 3)]) (g := gName 3) (tt := tYes) rfl scJ.nd
      (pi_list (pe_call GN hr rfl gN FN.kp bN .nil pass0 (pa_cons (pv 0) (pa_cons (pe_op op_add pe_int (pe_call GT hr1 rfl gT FT.kp bT .nil pass0 (pa_cons (pv 0) (pa_cons (pv 1) pa_nil)))) pa_nil))))
      (blkOk_by (N := ["_law_pot_here", "_law_most", "_law_manners", "_law_name"]) (sc := defScope sJobs) (by decide +kernel)) (fun _ _ _ _ _ => pg_name (i := 3) scJ.nd rfl (.inl rfl)) (fun _ _ _ _ _ => pts_nil)
      (fun _ _ _ _ _ => pe_tup (pa_cons (pv 3) (pa_cons (pe_call GO hr2 rfl gO FO.kp bO .nil pass0 (pa_cons (pv 0) (pa_cons (pv 2) pa_nil))) pa_nil))))), ?_⟩
    refine ⟨_, rfl, _, rfl, _, rfl, a, most, z, rfl, hp, by omega, by omega, by omega, fun j H1 j0 j1 p1 k1 => ?_⟩
    obtain ⟨m, hm⟩ := Int.eq_ofNat_of_zero_le (show 0 ≤ 1 + j by omega)
    refine ⟨_, _, rfl, rfl, a, m, z + 1, by show [V.ref a, V.int (1 + j)] = _; rw [hm], p1, by omega, by omega, fun q ns H2 nq p2 k2 eq ln nd mem => ?_⟩
    refine ⟨q, rfl, ⟨_, SqL.of eq⟩, fun D hD => ?_⟩
    have k12 : Keep a H H2 := Keep.trans k1 k2
    have q0 : H q = none := by
      cases z : H q with
      | none => rfl
      | some o =>
        rw [k1 q o (p1.ne nq) z] at nq
        cases nq
    have nqa : q ≠ a := p1.ne nq
    have D0 : H D = none := by
      cases z : H D with
      | none => rfl
      | some o =>
        rw [k12 D o (p2.ne hD) z] at hD
        cases hD
    have nDq : D ≠ q := (ne_of_none eq hD).symm
    have nDa : D ≠ a := p2.ne hD
    refine lc_list (K := K) (a := q) (xs := ns.map V.str) (fun i H' => PotAt H' a (z + 1 + m + (i : Nat)) ∧ Keep a H H' ∧ H' q = some (.lst (ns.map V.str)) ∧ ∃ (acc : List V) (js : List (Str × Str)), H' D = some (.lst acc) ∧ FzAll H' acc (js.map eE) ∧ js.map (·.1) = ns.take i ∧ ∀ j ∈ js, j.2 ∈ ms)
      ⟨(p2.upd_ne nDa).le (by omega), keep_upd k12 D0, by rw [upd_ne nDq.symm]; exact eq, [], [], upd_same, .nil, rfl, fun _ h => nomatch h⟩ (fun i H' _ ⟨_, _, e, _⟩ => SqL.of e) ?_ ?_
    · rintro i x H' hi ⟨pi, ki, ei, acc, js, eD, fz, hj, hjm⟩
      obtain ⟨n, hn, rfl⟩ : ∃ n, ns[i]? = some n ∧ x = V.str n := by
        rw [List.getElem?_map] at hi
        cases c : ns[i]? with
        | none =>
          rw [c] at hi
          cases hi
        | some n =>
          rw [c] at hi
          exact ⟨n, rfl, (Option.some.inj hi).symm⟩
      have hin : i < ns.length := (List.getElem?_eq_some_iff.mp hn).1
      have zl : acc.length = i := by
        rw [fz.len, List.length_map, ← List.length_map (f := (·.1)), hj, List.length_take]
        omega
      refine ⟨rfl, _, rfl, _, rfl, _, rfl, a, l, _, z + 1 + m + (i : Nat), rfl, pi, by omega, hla, ki _ _ hla hl, by simpa using hne, by rw [List.length_map]; omega, fun v H3 hv p3 k3 => ?_⟩
      obtain ⟨mn, hmn, rfl⟩ := List.mem_map.mp hv
      refine ⟨(by show 2 ≤ sizeLine; decide), fun t ht => ?_⟩
      have st := same_new (o := .tup [.str n, .str mn]) ht
      have t3 := pi.tups k3
      have eD3 := k3 _ _ nDa eD
      have eq3 := k3 _ _ nqa ei
      refine ⟨acc, st _ _ eD3, by rw [zl]; exact Nat.lt_trans (show i < 100 by omega) (by decide), ((p3.same st).upd_ne nDa).le (by omega), keep_upd ((Keep.trans ki k3).trans (sKeep st)) D0, by rw [upd_ne nDq.symm]; exact st _ _ eq3, _, js ++ [(n, mn)], upd_same, ?_, ?_, fun j hj' => ?_⟩
      · refine FzAll.mv (tups_lst (st _ _ eD3)) ?_
        rw [List.map_append]
        exact ((fz.mv t3).mv (tups_same st)).snoc (.tup upd_same (.cons (.str n) (.cons (.str mn) .nil)))
      · rw [List.map_append, hj, List.take_succ, hn]
        rfl
      · rcases List.mem_append.mp hj' with y | y
        · exact hjm j y
        · rw [List.mem_singleton.mp y]
          exact hmn
    · rintro H' ⟨pi, ki, ei, acc, js, eD, fz, hj, hjm⟩
      rw [List.length_map, List.take_length] at hj
      rw [List.length_map] at pi
      have lj : js.length = ns.length := by rw [← hj, List.length_map]
      refine k D js H' D0 (pi.le (by omega)) ki ⟨acc, eD, fz⟩ ⟨by omega, by omega, by rw [hj]; exact nd, fun j hj' => ⟨mem _ (by rw [← hj]; exact List.mem_map_of_mem hj'), hjm j hj'⟩⟩
end
end K73
namespace GD
open PySem PySem.Spec PyProof.Rows L2
def cutD (ds : List PyData) (lo hi : Option Int) : List PyData := (ds.drop (HT.sIx ds.length 0 lo)).take (HT.sIx ds.length ds.length hi - HT.sIx ds.length 0 lo)
theorem slice_fz {K : PySem.W.Frag} {H : Hp} {x : V} {ds : List PyData} {lo hi : Option Int} {Q : VK} (hx : Fz H x (.tuple ds)) (k : ∀ v H', Same H H' → Fz H' v (.tuple (cutD ds lo hi)) → Q v H') : rSlA K x lo hi H Q := by
  obtain ⟨a, xs, rfl, ha, t⟩ := hx.t
  have e := t.len
  refine ⟨a, xs, rfl, SqT.of ha, fun w => k _ _ (Same.refl H) (.tup ha ?_), fun _ p hp => k _ _ (same_new hp) (.tup upd_same ?_)⟩
  · obtain ⟨w1, w2⟩ := w
    unfold cutD
    rw [← e, w1, w2, List.drop_zero, Nat.sub_zero, e, List.take_length]
    exact t
  · unfold cutD cutV
    rw [← e]
    exact ((t.drop _).take _).mv (tups_new hp)
theorem cut_to {ds : List PyData} {i : Nat} (h : i ≤ ds.length) : cutD ds none (some (i : Int)) = ds.take i := by
  unfold cutD
  rw [HT.sIx_none, HT.sIx_nat, List.drop_zero, Nat.sub_zero, Nat.min_eq_left h]
theorem cut_from {ds : List PyData} {i : Nat} (h : i ≤ ds.length) : cutD ds (some (i : Int)) none = ds.drop i := by
  unfold cutD
  rw [HT.sIx_none, HT.sIx_nat, Nat.min_eq_left h, List.take_of_length_le (by rw [List.length_drop]; exact Nat.le_refl _)]
theorem cat_fz {K : PySem.W.Frag} {H : Hp} {x y : V} {ds es : List PyData} {Q : VK} (hx : Fz H x (.tuple ds)) (hy : Fz H y (.tuple es)) (hl : ds.length + es.length ≤ 1000) (k : ∀ v H', Same H H' → Fz H' v (.tuple (ds ++ es)) → Q v H') : rCatA K x y H Q := by
  obtain ⟨a, xs, rfl, ha, t⟩ := hx.t
  obtain ⟨b, ys, rfl, hb, u⟩ := hy.t
  refine ⟨a, b, xs, ys, rfl, rfl, SqT.of ha, SqT.of hb, by rw [t.len, u.len]; exact Nat.le_of_lt (small1000 hl), fun e => ?_, fun _ e => ?_, fun _ _ p hp => ?_⟩
  · subst e
    cases t
    exact k _ _ (Same.refl H) (.tup hb u)
  · subst e
    cases u
    refine k _ _ (Same.refl H) (.tup ha ?_)
    rw [List.append_nil]
    exact t
  · exact k _ _ (same_new hp) (.tup upd_same ((t.append u).mv (tups_new hp)))
theorem Fz.same {H H' : Hp} (k : Same H H') {v : V} {d : PyData} (h : Fz H v d) : Fz H' v d := h.mv (tups_same k)
theorem FzAll.same {H H' : Hp} (k : Same H H') {v : List V} {d : List PyData} (h : FzAll H v d) : FzAll H' v d := h.mv (tups_same k)
def bumpP (k : Str) (p : Int × Int) : Int × Int := if k = "begin" then (p.1 + 1, p.2) else (p.1, p.2 + 1)
def ixOf (names : List Str) (n : Str) : Nat := names.idxOf n
def behS (names : List Str) (s : Stn) (e : Str × Str) : Stn := s.take (ixOf names e.2) ++ [bumpP e.1 (s.getD (ixOf names e.2) (0, 0))] ++ s.drop (ixOf names e.2 + 1)
def okP (p : Int × Int) : Bool := decide (p.2 ≤ p.1) && decide (p.1 ≤ 40)
def canS (names : List Str) (s : Stn) (e : Str × Str) : Bool := (behS names s e).all okP
def evs (names : List Str) : List (Str × Str) := names.flatMap fun n => [("begin", n), ("end", n)]
theorem behS_len {names : List Str} {s : Stn} {e : Str × Str} (h : ixOf names e.2 < s.length) : (behS names s e).length = s.length := by
  unfold behS
  rw [List.length_append, List.length_append, List.length_take, List.length_drop, List.length_singleton]
  omega
theorem ixOf_lt {names : List Str} {n : Str} (h : n ∈ names) : ixOf names n < names.length := List.idxOf_lt_length_iff.mpr h
theorem eqV_str (x y : Str) : eqV (.str x) (.str y) = (x == y) := rfl
theorem all_flat : ∀ ns : List Str, (ns.map V.str).all flatV = true
  | [] => rfl
  | _ :: ns => all_flat ns
theorem ix_at {names : List Str} {n : Str} (h : n ∈ names) : names[ixOf names n]? = some n := by
  have h1 := ixOf_lt h
  rw [List.getElem?_eq_getElem h1]
  exact congrArg some (List.getElem_idxOf h1)
theorem ix_before {names : List Str} {n m : Str} {j : Nat} (hj : j < ixOf names n) (hm : names[j]? = some m) : (m == n) = false := by
  obtain ⟨h1, e⟩ := List.getElem?_eq_some_iff.mp hm
  have z := List.not_of_lt_findIdx (p := (· == n)) (xs := names) hj
  simp only [e] at z
  exact z
theorem index_str {K : PySem.W.Frag} {H : Hp} {l : Addr} {names : List Str} {n : Str} {Q : VK} (hl : SqL K H l (names.map V.str)) (h : n ∈ names) (k : Q (.int (ixOf names n : Nat)) H) : rIndex K (.ref l) [.str n] H Q := by
  refine ⟨l, _, .str n, ixOf names n, .str n, rfl, rfl, hl, rfl, all_flat _, by rw [List.getElem?_map, ix_at h]; rfl, by rw [eqV_str]; simp, fun m z hm hz => ?_, k⟩
  rw [List.getElem?_map] at hz
  cases c : names[m]? with
  | none =>
    rw [c] at hz
    cases hz
  | some y =>
    rw [c] at hz
    have e : V.str y = z := Option.some.inj hz
    rw [← e, eqV_str]
    exact ix_before hm c
theorem FzAll.atM {α : Type} {f : α → PyData} {H : Hp} {xs : List V} {L : List α} {i : Nat} {x : V} (h : FzAll H xs (L.map f)) (e : xs[i]? = some x) : ∃ j, L[i]? = some j ∧ Fz H x (f j) := by
  obtain ⟨d, h1, h2⟩ := h.at e
  rw [List.getElem?_map] at h1
  cases c : L[i]? with
  | none =>
    rw [c] at h1
    cases h1
  | some j =>
    rw [c] at h1
    have z : f j = d := Option.some.inj h1
    exact ⟨j, rfl, by rw [z]; exact h2⟩
theorem FzAll.getM {α : Type} {f : α → PyData} {H : Hp} {xs : List V} {L : List α} {i : Nat} {j : α} (h : FzAll H xs (L.map f)) (e : L[i]? = some j) : ∃ x, xs[i]? = some x ∧ Fz H x (f j) := h.get (by rw [List.getElem?_map, e]; rfl)
theorem ite_kv {c : Prop} [Decidable c] {ta tb : TE} {σ : L2.St} {H : Hp} {Q : VK} (R : V → Hp → Prop) (key : ∀ v H', R v H' → Q v H') (h : (∀ v H', R v H' → Q v H') → if c then ta σ H Q else tb σ H Q) : if c then ta σ H Q else tb σ H Q := h key
def spBehind (K : PySem.W.Frag) : Sp := fun vs H Q _ => ∃ (l : Addr) (sv ev : V) (js : List (Str × Str)) (s : Stn) (e : Str × Str), vs = [.ref l, sv, ev] ∧ LstAt H l (js.map eE) ∧ Fz H sv (eS s) ∧ Fz H ev (eE e) ∧ s.length = js.length ∧ js.length ≤ 10 ∧ e.2 ∈ js.map (·.1) ∧
  ∀ v H', Same H H' → Fz H' v (eS (behS (js.map (·.1)) s e)) → Q v H'
def spCan (K : PySem.W.Frag) : Sp := fun vs H Q _ => ∃ (l : Addr) (sv ev : V) (js : List (Str × Str)) (s : Stn) (e : Str × Str), vs = [.ref l, sv, ev] ∧ LstAt H l (js.map eE) ∧ Fz H sv (eS s) ∧ Fz H ev (eE e) ∧ s.length = js.length ∧ js.length ≤ 10 ∧ e.2 ∈ js.map (·.1) ∧
  ∀ H', Same H H' → Q (.bl (canS (js.map (·.1)) s e)) H'
def spEvents (K : PySem.W.Frag) : Sp := fun vs H Q _ => ∃ (l : Addr) (sv : V) (js : List (Str × Str)) (s : Stn), vs = [.ref l, sv] ∧ LstAt H l (js.map eE) ∧ Fz H sv (eS s) ∧ s.length = js.length ∧ js.length ≤ 10 ∧
  ∀ p H', Same H H' → H p = none → LstAt H' p (((evs (js.map (·.1))).filter (canS (js.map (·.1)) s)).map eE) → Q (.ref p) H'
end GD
namespace K73
open PySem PySem.Spec PyProof.Rows L2 GD
section
variable {P : Program} {w : World} {K : PySem.W.Frag} {mg : Str → Option Value} {base : Heap}
theorem scB : FnScope ["_law_jobs_here", "_law_standing_here", "_law_event", "_law_at", "_law_begun", "_law_ended", "_law_fresh", "_law_name", "_law_manner"] ["_law_jobs_here", "_law_standing_here", "_law_event"] (defScope sBehind) := ⟨rfl, rfl, rfl, by decide +kernel, rfl, by decide +kernel, by decide +kernel⟩
theorem ok_behind {f : Addr} {fd : FuncData} (F : Fun K "_law_behind" "_law_behind" sBehind f fd) : FnOk P w K mg base CX0 1 f fd ["_law_jobs_here", "_law_standing_here", "_law_event"] (spBehind K) := by
  refine F.ok scB (fun vs H Q E h => ?_) (fun cdv A outer s H vs Q E hr h => ?_)
  · obtain ⟨l, sv, ev, js, s, e, rfl, _⟩ := h
    rfl
  · obtain ⟨l, sv, ev, js, s, e, rfl, ⟨xs, hl, fx⟩, fs, fe, hsl, hjl, hm, k⟩ := h
    refine ⟨_, pss_cons (ps_set (i := 3) scB.nd rfl (.inl rfl) (pe_bm PySem.F.plainAttrs_list PySem.F.slot_list_index PySem.F.type_list_index mt_index
        (pe_lc (own := [("_law_name", 7), ("_law_manner", 8)]) (g := gTup K 2 (gCons (gName 7) (gCons (gName 8) gNil))) (tt := tYes) rfl scB.nd (pi_list (pv 0)) (blkOk_by (N := ["_law_jobs_here", "_law_standing_here", "_law_event", "_law_at", "_law_begun", "_law_ended", "_law_fresh", "_law_name", "_law_manner"]) (sc := defScope sBehind) (by decide +kernel))
          (fun _ _ _ _ _ => pg_tup rfl (pgs_cons (pg_name (i := 7) scB.nd rfl (.inl rfl)) (pgs_cons (pg_name (i := 8) scB.nd rfl (.inl rfl)) pgs_nil))) (fun _ _ _ _ _ => pts_nil) (fun _ _ _ _ _ => pv 7))
        (pa_cons (pe_ix ix_tup (pv 2) pe_int (fun _ _ => rfl)) pa_nil)))
      (pss_cons (ps_asg (pe_ix ix_tup (pv 1) (pv 3) (fun _ _ => rfl)) (pg_tup rfl (pgs_cons (pg_name (i := 4) scB.nd rfl (.inl rfl)) (pgs_cons (pg_name (i := 5) scB.nd rfl (.inl rfl)) pgs_nil))))
      (pss_cons (ps_set (i := 6) scB.nd rfl (.inl rfl) (pe_ifExp (pt_cmpR op_eq (pe_ix ix_tup (pv 2) pe_int (fun _ _ => rfl)) pe_str (nomark _)) (pe_tup (pa_cons (pe_op op_add (pv 4) pe_int) (pa_cons (pv 5) pa_nil))) (pe_tup (pa_cons (pv 4) (pa_cons (pe_op op_add (pv 5) pe_int) pa_nil)))))
      (pss_one (ps_ret (pe_op op_catA (pe_op op_catA (pe_slice sl_tupA (pv 1) po_none (po_some (pv 3))) (pe_tup (pa_cons (pv 6) pa_nil))) (pe_slice sl_tupA (pv 1) (po_some (pe_op op_add (pv 3) pe_int)) po_none)))))), ?_⟩
    obtain ⟨sa, ys, rfl, hsa, fy⟩ := fs.t
    obtain ⟨ea, e1, e2, rfl, hea, fe1, fe2⟩ := fe.t2
    obtain rfl := fe1.s
    obtain rfl := fe2.s
    have hi : ixOf (js.map (·.1)) e.2 < s.length := by
      rw [hsl, ← List.length_map (f := (·.1))]
      exact ixOf_lt hm
    refine ⟨_, rfl, l, rfl, ⟨_, SqL.of hl⟩, fun D hD => ?_⟩
    refine lc_list (K := K) (a := l) (xs := xs) (fun i H' => Same H H' ∧ H' D = some (.lst (((js.map (·.1)).take i).map V.str))) ⟨same_new hD, upd_same⟩ (fun i H' _ ⟨s1, _⟩ => SqL.of (s1 _ _ hl)) ?_ ?_
    · rintro i x H' hx ⟨s1, eD⟩
      obtain ⟨j, hj, fj⟩ := fx.atM hx
      obtain ⟨b, x1, x2, rfl, hb, f1, f2⟩ := fj.t2
      obtain rfl := f1.s
      have hlt : i < js.length := (List.getElem?_eq_some_iff.mp hj).1
      refine ⟨b, _, rfl, SqT.of (s1 _ _ hb), rfl, _, _, rfl, _, _, rfl, rfl, rfl, _, rfl, _, eD, ?_, same_upd s1 hD, ?_⟩
      · rw [List.length_map, List.length_take]
        exact Nat.lt_of_le_of_lt (Nat.min_le_left _ _) (Nat.lt_of_lt_of_le hlt (Nat.le_trans hjl (by decide)))
      · rw [upd_same, List.take_succ, List.getElem?_map, hj, List.map_append]
        rfl
    · rintro H1 ⟨s1, eD⟩
      rw [fx.len, List.length_map, List.take_of_length_le (by rw [List.length_map]; exact Nat.le_refl _)] at eD
      refine ⟨.inl ⟨rfl, _, SqL.of eD⟩, _, rfl, ea, _, 1, _, rfl, rfl, SqT.of (s1 _ _ hea), rfl, ?_⟩
      dsimp only [tNil]
      refine index_str (SqL.of eD) hm ?_
      generalize hix : ixOf (js.map (·.1)) e.2 = n at hi
      obtain ⟨p, hp⟩ : ∃ p, s[n]? = some p := ⟨s[n], List.getElem?_eq_getElem hi⟩
      obtain ⟨y, hy, fp⟩ := fy.getM hp
      obtain ⟨pa, p1, p2, rfl, hpa, fp1, fp2⟩ := fp.t2
      obtain rfl := fp1.i
      obtain rfl := fp2.i
      refine ⟨_, rfl, _, rfl, sa, ys, n, _, rfl, rfl, SqT.of (s1 _ _ hsa), atI_nat hy, pa, _, rfl, SqT.of (s1 _ _ hpa), rfl, _, _, rfl, _, _, rfl, rfl, ?_⟩
      refine ⟨_, rfl, ea, _, 0, _, rfl, rfl, SqT.of (s1 _ _ hea), rfl, rfl, _, rfl, ?_⟩
      refine ite_kv (fun v H' => Same H1 H' ∧ Fz H' v (eP (bumpP e.1 p))) (fun v H2 ⟨s2, f2⟩ => ?_) (fun key => ?_)
      · have fs2 : Fz H2 (.ref sa) (eS s) := ((Fz.tup hsa fy).same s1).same s2
        refine ⟨_, rfl, _, rfl, n, rfl, ?_⟩
        dsimp only [tNoPart]
        refine slice_fz fs2 fun v1 H3 s3 f3 => ?_
        rw [cut_to (by rw [List.length_map]; omega)] at f3
        refine ⟨_, rfl, (by show 1 ≤ sizeLine; decide), fun t ht => ?_⟩
        have s4 := same_new (o := .tup [v]) ht
        refine cat_fz (f3.same s4) (.tup upd_same (.cons ((f2.same s3).same s4) .nil)) ?_ fun v2 H5 s5 f5 => ?_
        · rw [List.length_take, List.length_map, List.length_singleton]
          omega
        refine ⟨_, rfl, _, rfl, _, _, rfl, rfl, (n : Int) + 1, rfl, ?_⟩
        dsimp only [tNoPart]
        refine slice_fz (((fs2.same s3).same s4).same s5) fun v3 H6 s6 f6 => ?_
        rw [show ((n : Int) + 1) = ((n + 1 : Nat) : Int) by omega, cut_from (by rw [List.length_map]; omega)] at f6
        refine cat_fz (f5.same s6) f6 ?_ fun v4 H7 s7 f7 => k v4 H7 ((((((s1.trans s2).trans s3).trans s4).trans s5).trans s6).trans s7) ?_
        · rw [List.length_append, List.length_take, List.length_drop, List.length_map, List.length_singleton]
          omega
        · have z : eS (behS (js.map (·.1)) s e) = .tuple ((s.map eP).take n ++ [eP (bumpP e.1 p)] ++ (s.map eP).drop (n + 1)) := by
            unfold eS behS
            rw [hix, List.getD_eq_getElem?_getD, hp, List.map_append, List.map_append, List.map_take, List.map_drop]
            rfl
          rw [z]
          exact f7
      · refine ite2 (fun c => ?_) (fun c => ?_)
        · have c' : e.1 = "begin" := V.str.inj (of_decide_eq_true c)
          refine ⟨_, rfl, _, _, rfl, rfl, _, rfl, (by show 2 ≤ sizeLine; decide), fun t ht => key _ _ ⟨same_new ht, ?_⟩⟩
          rw [bumpP, if_pos c']
          exact .tup upd_same (.cons (.int _) (.cons (.int _) .nil))
        · have c' : ¬ e.1 = "begin" := fun z => c (decide_eq_true (congrArg V.str z))
          refine ⟨_, rfl, _, rfl, _, _, rfl, rfl, (by show 2 ≤ sizeLine; decide), fun t ht => key _ _ ⟨same_new ht, ?_⟩⟩
          rw [bumpP, if_neg c']
          exact .tup upd_same (.cons (.int _) (.cons (.int _) .nil))
end
end K73
namespace GD
open PySem PySem.Spec PyProof.Rows L2
def spStanding : Sp := fun vs H Q _ => ∃ (a l : Addr) (far : Nat) (js : List (Str × Str)) (z : Int), vs = [.ref a, .ref l, .int far] ∧ PotAt H a z ∧ z ≤ 90000 ∧ l ≠ a ∧ LstAt H l (js.map eE) ∧ js.length ≤ 10 ∧ far ≤ 1000 ∧
  ∀ v (s : Stn) H', PotAt H' a (z + 20) → Keep a H H' → Fz H' v (eS s) → s.length = js.length → (∀ p ∈ s, 0 ≤ p.2 ∧ p.2 ≤ p.1 ∧ p.1 ≤ far) → Q v H'
theorem take_next {α : Type} {L : List α} {i : Nat} {x : α} (h : L[i]? = some x) : L.take (i + 1) = L.take i ++ [x] := by
  rw [List.take_succ, h]
  rfl
end GD
namespace K73
open PySem PySem.Spec PyProof.Rows L2 GD
section
variable {P : Program} {w : World} {K : PySem.W.Frag} {mg : Str → Option Value} {base : Heap}
abbrev NC : List Str := ["_law_jobs_here", "_law_standing_here", "_law_event", "_law_behind_here", "_law_begun", "_law_ended"]
theorem scCan : FnScope NC ["_law_jobs_here", "_law_standing_here", "_law_event"] (defScope sCanCome) := ⟨rfl, rfl, rfl, by decide +kernel, rfl, by decide +kernel, by decide +kernel⟩
theorem ok_can {f fB : Addr} {fd fdB : FuncData} (F : Fun K "_law_can_come" "_law_can_come" sCanCome f fd) (nA : mg "all" = none) (FB : Fun K "_law_behind" "_law_behind" sBehind fB fdB) (gB : mg "_law_behind" = some (.ref fB)) (bB : Binds K fdB ["_law_jobs_here", "_law_standing_here", "_law_event"] []) :
    FnOk P w K mg base CX0 2 f fd ["_law_jobs_here", "_law_standing_here", "_law_event"] (spCan K) := by
  have GB : FnOk P w K mg base CX0 1 fB fdB ["_law_jobs_here", "_law_standing_here", "_law_event"] (spBehind K) := ok_behind FB
  refine F.ok scCan (fun vs H Q E h => ?_) (fun cdv A outer s H vs Q E hr h => ?_)
  · obtain ⟨l, sv, ev, js, s, e, rfl, _⟩ := h
    rfl
  · obtain ⟨l, sv, ev, js, s, e, rfl, hl, fs, fe, hsl, hjl, hm, k⟩ := h
    refine ⟨_, pss_cons (ps_set (i := 3) scCan.nd rfl (.inl rfl) (pe_call GB hr rfl gB FB.kp bB .nil pass0 (pa_cons (pv 0) (pa_cons (pv 1) (pa_cons (pv 2) pa_nil)))))
      (pss_one (ps_ret (pe_callB (cr_all rfl) (by rfl) nA (by decide +kernel) (pa_cons (pe_lc (own := [("_law_begun", 4), ("_law_ended", 5)]) (g := gTup K 2 (gCons (gName 4) (gCons (gName 5) gNil))) (tt := tYes) rfl scCan.nd (pi_tup (pv 3)) (blkOk_by (N := NC) (sc := defScope sCanCome) (by decide +kernel))
        (fun _ _ _ _ _ => pg_tup rfl (pgs_cons (pg_name (i := 4) scCan.nd rfl (.inl rfl)) (pgs_cons (pg_name (i := 5) scCan.nd rfl (.inl rfl)) pgs_nil))) (fun _ _ _ _ _ => pts_nil) (fun _ _ _ _ _ => pe_chain op_le op_le (pv 5) (pv 4) pe_int)) pa_nil)))), ?_⟩
    refine ⟨_, rfl, _, rfl, _, rfl, l, sv, ev, js, s, e, rfl, hl, fs, fe, hsl, hjl, hm, fun v H1 s1 f1 => ?_⟩
    obtain ⟨t, ys, rfl, ht, fy⟩ := f1.t
    have hi : ixOf (js.map (·.1)) e.2 < s.length := by
      rw [hsl, ← List.length_map (f := (·.1))]
      exact ixOf_lt hm
    have hbl : (behS (js.map (·.1)) s e).length = js.length := by rw [behS_len hi, hsl]
    have yl : ys.length = js.length := by rw [fy.len, List.length_map, hbl]
    refine ⟨_, rfl, t, rfl, ⟨_, SqT.of ht⟩, fun D hD => ?_⟩
    refine lc_tup (K := K) (a := t) (xs := ys) (fun i H' => Same H1 H' ∧ H' D = some (.lst ((((behS (js.map (·.1)) s e).take i).map okP).map V.bl))) ⟨same_new hD, upd_same⟩ (fun i H' _ ⟨s2, _⟩ => SqT.of (s2 _ _ ht)) ?_ ?_
    · rintro i x H' hx ⟨s2, eD⟩
      obtain ⟨p, hp, fp⟩ := fy.atM hx
      obtain ⟨b, x1, x2, rfl, hb, f1, f2⟩ := fp.t2
      obtain rfl := f1.i
      obtain rfl := f2.i
      have hlt : i < ys.length := (List.getElem?_eq_some_iff.mp hx).1
      refine ⟨b, _, rfl, SqT.of (s2 _ _ hb), rfl, _, _, rfl, _, _, rfl, rfl, rfl, _, rfl, _, rfl, _, _, rfl, rfl, _, rfl, ?_⟩
      have fin : ∀ k : Bool, k = okP p → ∃ acc, H' D = some (.lst acc) ∧ acc.length < sizeLine ∧ Same H1 (upd H' D (.lst (acc ++ [.bl k]))) ∧ upd H' D (.lst (acc ++ [.bl k])) D = some (.lst ((((behS (js.map (·.1)) s e).take (i + 1)).map okP).map V.bl)) := by
        rintro k rfl
        refine ⟨_, eD, ?_, same_upd s2 hD, ?_⟩
        · rw [List.length_map, List.length_map, List.length_take]
          exact Nat.lt_of_le_of_lt (Nat.min_le_left _ _) (Nat.lt_of_lt_of_le hlt (Nat.le_trans (by omega) (show 10 ≤ sizeLine by decide)))
        · rw [upd_same, GD.take_next hp, List.map_append, List.map_append]
          rfl
      refine ite2 (fun c => ⟨_, _, rfl, rfl, fin _ ?_⟩) (fun c => fin _ ?_)
      · unfold okP
        rw [c, Bool.true_and]
      · unfold okP
        rw [Bool.eq_false_iff.mpr c, Bool.false_and]
    · rintro H' ⟨s2, eD⟩
      refine ⟨D, _, rfl, SqL.of eD, ?_⟩
      rw [yl, ← hbl, List.take_length, List.all_map]
      exact k H' (s1.trans s2)
abbrev NE : List Str := ["_law_jobs_here", "_law_standing_here", "_law_some_here", "_law_name", "_law_manner", "_law_event"]
theorem scEv : FnScope NE ["_law_jobs_here", "_law_standing_here"] (defScope sEvents) := ⟨rfl, rfl, rfl, by decide +kernel, rfl, by decide +kernel, by decide +kernel⟩
theorem evs_next (L : List Str) (n : Str) : evs (L ++ [n]) = evs L ++ ([("begin", n), ("end", n)] : List (Str × Str)) := by
  unfold evs
  rw [List.flatMap_append]
  rfl
theorem ok_events {f fB fC : Addr} {fd fdB fdC : FuncData} (F : Fun K "_law_events" "_law_events" sEvents f fd) (nA : mg "all" = none) (FB : Fun K "_law_behind" "_law_behind" sBehind fB fdB) (gB : mg "_law_behind" = some (.ref fB)) (bB : Binds K fdB ["_law_jobs_here", "_law_standing_here", "_law_event"] [])
    (FC : Fun K "_law_can_come" "_law_can_come" sCanCome fC fdC) (gC : mg "_law_can_come" = some (.ref fC)) (bC : Binds K fdC ["_law_jobs_here", "_law_standing_here", "_law_event"] []) :
    FnOk P w K mg base CX0 3 f fd ["_law_jobs_here", "_law_standing_here"] (spEvents K) := by
  have GC : FnOk P w K mg base CX0 2 fC fdC ["_law_jobs_here", "_law_standing_here", "_law_event"] (spCan K) := ok_can FC nA FB gB bB
  refine F.ok scEv (fun vs H Q E h => ?_) (fun cdv A outer s H vs Q E hr h => ?_)
  · obtain ⟨l, sv, js, s, rfl, _⟩ := h
    rfl
  · obtain ⟨l, sv, js, s, rfl, ⟨xs, hl, fx⟩, fs, hsl, hjl, k⟩ := h
    refine ⟨_, pss_cons (ps_set (i := 2) scEv.nd rfl (.inl rfl) (pe_lst pa_nil))
      (pss_cons (ps_for PassesOwn.never rfl (pi_list (pv 0)) (pg_tup rfl (pgs_cons (pg_name (i := 3) scEv.nd rfl (.inl rfl)) (pgs_cons (pg_name (i := 4) scEv.nd rfl (.inl rfl)) pgs_nil)))
        (pss_one (ps_expr (pe_bm PySem.F.plainAttrs_list PySem.F.slot_list_extend PySem.F.type_list_extend mt_extend (pv 2) (pa_cons (pe_lst (pa_cons (pe_tup (pa_cons pe_str (pa_cons (pv 3) pa_nil))) (pa_cons (pe_tup (pa_cons pe_str (pa_cons (pv 3) pa_nil))) pa_nil))) pa_nil)))))
      (pss_one (ps_ret (pe_lc (own := [("_law_event", 5)]) (g := gName 5) rfl scEv.nd (pi_list (pv 2)) (blkOk_by (N := NE) (sc := defScope sEvents) (by decide +kernel)) (fun _ _ _ _ _ => pg_name (i := 5) scEv.nd rfl (.inl rfl))
        (fun _ _ _ _ _ => pts_one (pt_val (pe_call GC hr rfl gC FC.kp bC .nil pass0 (pa_cons (pv 0) (pa_cons (pv 1) (pa_cons (pv 5) pa_nil)))))) (fun _ _ _ _ _ => pv 5))))), ?_⟩
    refine ⟨by decide, fun p np => ?_⟩
    have sp := same_new (o := .lst []) np
    refine ⟨_, rfl, l, rfl, ⟨_, SqL.of (sp _ _ hl)⟩, for_list (K := K) (a := l) (xs := xs) (fun i σ H' => ∃ (x3 x4 : Option V) (acc : List V), σ = [some (.ref l), some sv, some (.ref p), x3, x4, none] ∧ Same H H' ∧ H' p = some (.lst acc) ∧ FzAll H' acc ((evs ((js.map (·.1)).take i)).map eE))
      ⟨none, none, [], rfl, sp, upd_same, .nil⟩ (fun i σ H' _ ⟨_, _, _, _, s1, _⟩ => SqL.of (s1 _ _ hl)) ?_ ?_⟩
    · rintro i x σ H' hx ⟨x3, x4, acc, rfl, s1, eP, fz⟩
      obtain ⟨j, hj, fj⟩ := fx.atM hx
      obtain ⟨b, y1, y2, rfl, hb, f1, f2⟩ := fj.t2
      obtain rfl := f1.s
      have hlt : i < js.length := (List.getElem?_eq_some_iff.mp hj).1
      have la : acc.length = 2 * i := by
        rw [fz.len, List.length_map]
        unfold evs
        rw [List.length_flatMap]
        have z : (List.take i (List.map (fun x => x.1) js)).map (fun n => [(("begin" : Str), n), (("end" : Str), n)].length) = List.replicate i 2 := by
          rw [List.eq_replicate_iff]
          refine ⟨by rw [List.length_map, List.length_take, List.length_map]; omega, fun y hy => ?_⟩
          obtain ⟨_, _, e⟩ := List.mem_map.mp hy
          exact e.symm
        rw [z, List.sum_replicate_nat]
        omega
      refine ⟨b, _, rfl, SqT.of (s1 _ _ hb), rfl, _, _, rfl, _, _, rfl, rfl, ?_⟩
      refine ⟨_, rfl, .inl ⟨rfl, _, SqL.of eP⟩, _, rfl, (by show 2 ≤ sizeLine; decide), fun t ht => ?_⟩
      have st := same_new (o := .tup [.str "begin", .str j.1]) ht
      refine ⟨_, rfl, (by show 2 ≤ sizeLine; decide), fun u hu => ?_⟩
      have su := same_new (o := .tup [.str "end", .str j.1]) hu
      refine ⟨(by show 2 ≤ sizeLine; decide), fun v hv => ?_⟩
      have sv' := same_new (o := .lst [.ref t, .ref u]) hv
      have sF := (st.trans su).trans sv'
      refine ⟨p, v, _, _, rfl, rfl, sF _ _ eP, upd_same, by rw [la]; show 2 * i + 2 ≤ sizeLine; exact Nat.le_trans (show 2 * i + 2 ≤ 100 by omega) (by decide), ?_⟩
      refine ⟨_, _, _, rfl, same_upd (s1.trans sF) np, upd_same, FzAll.mv (tups_lst (sF _ _ eP)) ?_⟩
      rw [GD.take_next (x := j.1) (by rw [List.getElem?_map, hj]; rfl), evs_next, List.map_append]
      exact (fz.same sF).append (.cons (.tup (sv' _ _ (su _ _ upd_same)) (.cons (.str _) (.cons (.str _) .nil))) (.cons (.tup (sv' _ _ upd_same) (.cons (.str _) (.cons (.str _) .nil))) .nil))
    · rintro σ H' ⟨x3, x4, acc, rfl, s1, eP, fz⟩
      rw [fx.len, List.length_map, List.take_of_length_le (by rw [List.length_map]; exact Nat.le_refl _)] at fz
      refine ⟨_, rfl, p, rfl, ⟨_, SqL.of eP⟩, fun D hD => ?_⟩
      have D0 : H D = none := s1.free hD
      have la : acc.length ≤ 20 := by
        rw [fz.len, List.length_map]
        unfold evs
        rw [List.length_flatMap]
        have z : (List.map (fun x => x.1) js).map (fun n => [(("begin" : Str), n), (("end" : Str), n)].length) = List.replicate js.length 2 := by
          rw [List.eq_replicate_iff]
          refine ⟨by rw [List.length_map, List.length_map], fun y hy => ?_⟩
          obtain ⟨_, _, e⟩ := List.mem_map.mp hy
          exact e.symm
        rw [z, List.sum_replicate_nat]
        omega
      refine lc_list (K := K) (a := p) (xs := acc) (fun i H2 => Same H' H2 ∧ ∃ acc2, H2 D = some (.lst acc2) ∧ acc2.length ≤ i ∧ FzAll H2 acc2 ((((evs (js.map (·.1))).take i).filter (canS (js.map (·.1)) s)).map eE)) ⟨same_new hD, [], upd_same, Nat.le_refl _, .nil⟩ (fun i H2 _ ⟨s2, _⟩ => SqL.of (s2 _ _ eP)) ?_ ?_
      · rintro i x H2 hx ⟨s2, acc2, eD, l2, fz2⟩
        obtain ⟨e, he, fe⟩ := fz.atM hx
        have hlt : i < acc.length := (List.getElem?_eq_some_iff.mp hx).1
        have hem : e.2 ∈ js.map (·.1) := by
          have m := List.mem_of_getElem? he
          unfold evs at m
          obtain ⟨n, hn, hm⟩ := List.mem_flatMap.mp m
          rcases List.mem_cons.mp hm with z | z
          · rw [z]
            exact hn
          · rw [List.mem_singleton.mp z]
            exact hn
        have sH2 := s1.trans s2
        have fe2 := fe.same s2
        refine ⟨rfl, _, rfl, _, rfl, _, rfl, l, sv, x, js, s, e, rfl, ⟨xs, sH2 _ _ hl, fx.same sH2⟩, fs.same sH2, fe2, hsl, hjl, hem, fun H3 s3 => ⟨_, rfl, ?_⟩⟩
        have nD : ∀ o, Same H' (upd H3 D o) := fun o => same_upd (s2.trans s3) hD
        refine ite2 (fun c => ?_) (fun c => ?_)
        · refine ⟨_, rfl, acc2, s3 _ _ eD, Nat.lt_of_le_of_lt l2 (Nat.lt_of_lt_of_le (show i < 100 by omega) (by decide)), nD _, _, upd_same, by rw [List.length_append, List.length_singleton]; omega, FzAll.mv (tups_lst (s3 _ _ eD)) ?_⟩
          rw [GD.take_next he, List.filter_append, List.map_append]
          rw [show List.filter (canS (js.map (·.1)) s) [e] = [e] by simp [c]]
          exact (fz2.same s3).snoc (fe2.same s3)
        · refine ⟨s2.trans s3, acc2, s3 _ _ eD, Nat.le_succ_of_le l2, ?_⟩
          rw [GD.take_next he, List.filter_append, List.map_append]
          rw [show List.filter (canS (js.map (·.1)) s) [e] = [] by simp [c]]
          rw [List.map_nil, List.append_nil]
          exact fz2.same s3
      · rintro H2 ⟨s2, acc2, eD, _, fz2⟩
        rw [fz.len, List.length_map, List.take_length] at fz2
        exact k D H2 (s1.trans s2) D0 ⟨acc2, eD, fz2⟩
end
end K73
namespace GD
open PySem PySem.Spec PyProof.Rows L2
def MannerOk (m : Str) (size : Nat) (c : Int × Int) : Prop := (m = "clean" → c.1 ≤ 0 ∧ c.2 = -c.1) ∧ (m = "spent" → c.1 ≤ 0 ∧ c.2 = 0) ∧ (m = "plain" → c.1 ≤ 0 ∧ 0 ≤ c.2) ∧ -(size : Int) ≤ c.1 ∧ c.1 ≤ size ∧ -(size : Int) ≤ c.2 ∧ c.2 ≤ size
def spChange : Sp := fun vs H Q _ => ∃ (a : Addr) (m : Str) (size : Nat) (z : Int), vs = [.ref a, .str m, .int size] ∧ PotAt H a z ∧ z ≤ 90000 ∧ 1 ≤ size ∧ size ≤ 1000000000000 ∧
  ∀ v (c : Int × Int) H', PotAt H' a (z + 4) → Keep a H H' → Fz H' v (eP c) → MannerOk m size c → Q v H'
abbrev Stk := Int × List (Int × Int)
def eK (st : Stk) : PyData := .tuple [.int st.1, .tuple (st.2.map eP)]
def StockOk (js : List (Str × Str)) (size : Nat) (st : Stk) : Prop := 0 ≤ st.1 ∧ st.1 ≤ 2 * size ∧ st.2.length = js.length ∧ ∀ (i : Nat) (j : Str × Str) (c : Int × Int), js[i]? = some j → st.2[i]? = some c → MannerOk j.2 size c
def spStock : Sp := fun vs H Q _ => ∃ (a l : Addr) (js : List (Str × Str)) (size : Nat) (z : Int), vs = [.ref a, .ref l, .int size] ∧ PotAt H a z ∧ z ≤ 80000 ∧ l ≠ a ∧ LstAt H l (js.map eE) ∧ js.length ≤ 10 ∧ 1 ≤ size ∧ size ≤ 1000000000000 ∧
  ∀ v st H', PotAt H' a (z + 50) → Keep a H H' → Fz H' v (eK st) → StockOk js size st → Q v H'
def levelS (st : Stk) (s : Stn) : Int := st.1 + (List.zipWith (fun c p => p.1 * c.1 + p.2 * c.2) st.2 s).sum
def letsS (sts : List Stk) (s : Stn) : Bool := sts.all fun st => decide (0 ≤ levelS st s)
def Small (s : Stn) : Prop := ∀ p ∈ s, -1000 ≤ p.1 ∧ p.1 ≤ 1000 ∧ -1000 ≤ p.2 ∧ p.2 ≤ 1000
def spLevel (K : PySem.W.Frag) : Sp := fun vs H Q _ => ∃ (x y : V) (st : Stk) (s : Stn), vs = [x, y] ∧ Fz H x (eK st) ∧ Fz H y (eS s) ∧ st.2.length = s.length ∧ s.length ≤ 10 ∧ Small s ∧ ∀ H', Same H H' → Q (.int (levelS st s)) H'
def spLets (K : PySem.W.Frag) : Sp := fun vs H Q _ => ∃ (l : Addr) (y : V) (sts : List Stk) (s : Stn), vs = [.ref l, y] ∧ LstAt H l (sts.map eK) ∧ Fz H y (eS s) ∧ (∀ st ∈ sts, st.2.length = s.length) ∧ s.length ≤ 10 ∧ sts.length ≤ 100 ∧ Small s ∧ ∀ H', Same H H' → Q (.bl (letsS sts s)) H'
theorem keep_none {a p : Addr} {H H' : Hp} {z : Int} (hp : PotAt H' a z) (k : Keep a H H') (h : H' p = none) : H p = none := by
  cases c : H p with
  | none => rfl
  | some o =>
    rw [k p o (hp.ne h) c] at h
    cases h
end GD
namespace K73
open PySem PySem.Spec PyProof.Rows L2 GD
section
variable {P : Program} {w : World} {K : PySem.W.Frag} {mg : Str → Option Value} {base : Heap}
theorem scSt : FnScope ["_law_pot_here", "_law_jobs_here", "_law_far", "_law_found", "_law_name", "_law_manner", "_law_begun"] ["_law_pot_here", "_law_jobs_here", "_law_far"] (defScope sStanding) := ⟨rfl, rfl, rfl, by decide +kernel, rfl, by decide +kernel, by decide +kernel⟩
theorem ok_standing {f fT : Addr} {fd fdT : FuncData} (F : Fun K "_law_standing" "_law_standing" sStanding f fd) (T : TxtA mg) (nT : mg "tuple" = none) (FT : Fun K "_law_take" "_law_take" sTake fT fdT) (gT : mg "_law_take" = some (.ref fT)) (bT : Binds K fdT ["_law_pot_here", "_law_upto"] []) :
    FnOk P w K mg base CX0 2 f fd ["_law_pot_here", "_law_jobs_here", "_law_far"] spStanding := by
  have GT : FnOk P w K mg base CX0 1 fT fdT ["_law_pot_here", "_law_upto"] spTake := ok_take FT T
  refine F.ok scSt (fun vs H Q E h => ?_) (fun cdv A outer s H vs Q E hr h => ?_)
  · obtain ⟨a, l, far, js, z, rfl, _⟩ := h
    rfl
  · obtain ⟨a, l, far, js, z, rfl, hp, hz, hla, ⟨xs, hl, fx⟩, hjl, hfar, k⟩ := h
    refine ⟨_, pss_cons (ps_set (i := 3) scSt.nd rfl (.inl rfl) (pe_lst pa_nil))
      (pss_cons (ps_for PassesOwn.never rfl (pi_list (pv 1)) (pg_tup rfl (pgs_cons (pg_name (i := 4) scSt.nd rfl (.inl rfl)) (pgs_cons (pg_name (i := 5) scSt.nd rfl (.inl rfl)) pgs_nil)))
        (pss_cons (ps_set (i := 6) scSt.nd rfl (.inl rfl) (pe_call GT hr rfl gT FT.kp bT .nil pass0 (pa_cons (pv 0) (pa_cons (pe_op op_add (pv 2) pe_int) pa_nil))))
        (pss_one (ps_expr (pe_bm PySem.F.plainAttrs_list PySem.F.slot_list_append PySem.F.type_list_append mt_append (pv 3) (pa_cons (pe_tup (pa_cons (pv 6) (pa_cons (pe_call GT hr rfl gT FT.kp bT .nil pass0 (pa_cons (pv 0) (pa_cons (pe_op op_add (pv 6) pe_int) pa_nil))) pa_nil))) pa_nil))))))
      (pss_one (ps_ret (pe_callTy call_tuple_of (by rfl) nT (by decide +kernel) (pa_cons (pv 3) pa_nil))))), ?_⟩
    refine ⟨by decide, fun p np => ?_⟩
    have sp := same_new (o := .lst []) np
    have npa := hp.ne np
    refine ⟨_, rfl, l, rfl, ⟨_, SqL.of (sp _ _ hl)⟩, for_list (K := K) (a := l) (xs := xs) (fun i σ H' => ∃ (x4 x5 x6 : Option V) (acc : List V) (sn : Stn), σ = [some (.ref a), some (.ref l), some (.int far), some (.ref p), x4, x5, x6] ∧ PotAt H' a (z + 2 * (i : Nat)) ∧ Keep a H H' ∧ H' p = some (.lst acc) ∧ FzAll H' acc (sn.map eP) ∧ sn.length = i ∧ ∀ q ∈ sn, 0 ≤ q.2 ∧ q.2 ≤ q.1 ∧ q.1 ≤ far)
      ⟨none, none, none, [], [], rfl, (hp.same sp).le (by omega), sKeep sp, upd_same, .nil, rfl, fun _ h => nomatch h⟩ (fun i σ H' _ ⟨_, _, _, _, _, _, _, k1, _⟩ => SqL.of (k1 _ _ hla hl)) ?_ ?_⟩
    · rintro i x σ H' hx ⟨x4, x5, x6, acc, sn, rfl, pi, ki, eP', fz, ls, hq⟩
      obtain ⟨j, hj, fj⟩ := fx.atM hx
      obtain ⟨b, y1, y2, rfl, hb, f1, f2⟩ := fj.t2
      have tK := hp.tups ki
      have hlt : i < js.length := (List.getElem?_eq_some_iff.mp hj).1
      refine ⟨b, _, rfl, SqT.of (tK _ _ hb), rfl, _, _, rfl, _, _, rfl, rfl, ?_⟩
      refine ⟨_, rfl, _, rfl, _, _, rfl, rfl, a, far + 1, z + 2 * (i : Nat), rfl, pi, by omega, by omega, by omega, fun n H2 n0 n1 p2 k2 => ?_⟩
      have eP2 := k2 _ _ npa eP'
      refine ⟨_, rfl, .inl ⟨rfl, _, SqL.of eP2⟩, _, rfl, _, rfl, _, rfl, _, _, rfl, rfl, a, n + 1, _, rfl, p2, by omega, by omega, by omega, fun m H3 m0 m1 p3 k3 => ?_⟩
      refine ⟨(by show 2 ≤ sizeLine; decide), fun t ht => ?_⟩
      have st := same_new (o := .tup [.int n, .int m]) ht
      have eP3 := st _ _ (k3 _ _ npa eP2)
      have la : acc.length = i := by rw [fz.len, List.length_map, ls]
      refine ⟨p, acc, _, rfl, rfl, eP3, by rw [la]; exact Nat.lt_of_lt_of_le (show i < 100 by omega) (by decide), ?_⟩
      have tT : Tups H' (upd H3 t (.tup [.int n, .int m])) := ((pi.tups k2).trans (p2.tups k3)).trans (tups_same st)
      refine ⟨_, _, _, _, sn ++ [(n, m)], rfl, ((p3.same st).upd_ne npa).le (by omega), keep_upd (((ki.trans k2).trans k3).trans (sKeep st)) np, upd_same, FzAll.mv (tups_lst eP3) ?_, by rw [List.length_append, ls]; rfl, fun q hq' => ?_⟩
      · rw [List.map_append]
        exact (fz.mv tT).snoc (.tup upd_same (.cons (.int _) (.cons (.int _) .nil)))
      · rcases List.mem_append.mp hq' with y | y
        · exact hq q y
        · rw [List.mem_singleton.mp y]
          exact ⟨m0, by show m ≤ n; omega, by show n ≤ far; omega⟩
    · rintro σ H' ⟨x4, x5, x6, acc, sn, rfl, pi, ki, eP', fz, ls, hq⟩
      rw [fx.len, List.length_map] at ls pi
      refine ⟨_, rfl, p, acc, rfl, .inl ⟨SqL.of eP', fun t ht => k _ sn _ ((pi.same (same_new ht)).le (by omega)) (ki.trans (sKeep (same_new ht))) (.tup upd_same (fz.mv (tups_new ht))) ls hq⟩⟩
theorem scCh : FnScope ["_law_pot_here", "_law_manner", "_law_size", "_law_taken"] ["_law_pot_here", "_law_manner", "_law_size"] (defScope sChange) := ⟨rfl, rfl, rfl, by decide +kernel, rfl, by decide +kernel, by decide +kernel⟩
theorem ok_change {f fT : Addr} {fd fdT : FuncData} (F : Fun K "_law_change" "_law_change" sChange f fd) (T : TxtA mg) (FT : Fun K "_law_take" "_law_take" sTake fT fdT) (gT : mg "_law_take" = some (.ref fT)) (bT : Binds K fdT ["_law_pot_here", "_law_upto"] []) :
    FnOk P w K mg base CX0 2 f fd ["_law_pot_here", "_law_manner", "_law_size"] spChange := by
  have GT : FnOk P w K mg base CX0 1 fT fdT ["_law_pot_here", "_law_upto"] spTake := ok_take FT T
  refine F.ok scCh (fun vs H Q E h => ?_) (fun cdv A outer s H vs Q E hr h => ?_)
  · obtain ⟨a, m, size, z, rfl, _⟩ := h
    rfl
  · obtain ⟨a, m, size, z, rfl, hp, hz, h1, h2, k⟩ := h
    refine ⟨_, pss_cons (ps_set (i := 3) scCh.nd rfl (.inl rfl) (pe_call GT hr rfl gT FT.kp bT .nil pass0 (pa_cons (pv 0) (pa_cons (pv 2) pa_nil))))
      (pss_cons (ps_if (pt_cmpR op_eq (pv 1) pe_str (nomark _)) (pss_one (ps_ret (pe_tup (pa_cons (pe_un un_neg (pv 3)) (pa_cons (pv 3) pa_nil))))) pss_nil)
      (pss_cons (ps_if (pt_cmpR op_eq (pv 1) pe_str (nomark _)) (pss_one (ps_ret (pe_tup (pa_cons (pe_un un_neg (pv 3)) (pa_cons pe_int pa_nil))))) pss_nil)
      (pss_cons (ps_if (pt_cmpR op_eq (pv 1) pe_str (nomark _)) (pss_one (ps_ret (pe_tup (pa_cons (pe_un un_neg (pv 3)) (pa_cons (pe_call GT hr rfl gT FT.kp bT .nil pass0 (pa_cons (pv 0) (pa_cons (pv 2) pa_nil))) pa_nil))))) pss_nil)
      (pss_one (ps_ret (pe_tup (pa_cons (pe_op op_add (pe_op op_sub (pe_call GT hr rfl gT FT.kp bT .nil pass0 (pa_cons (pv 0) (pa_cons (pe_op op_sub (pe_op op_mul pe_int (pv 2)) pe_int) pa_nil))) (pv 2)) pe_int)
        (pa_cons (pe_op op_add (pe_op op_sub (pe_call GT hr rfl gT FT.kp bT .nil pass0 (pa_cons (pv 0) (pa_cons (pe_op op_sub (pe_op op_mul pe_int (pv 2)) pe_int) pa_nil))) (pv 2)) pe_int) pa_nil)))))))), ?_⟩
    have small : CMul 2 (size : Int) := .inl ⟨by decide, by decide⟩
    refine ⟨_, rfl, _, rfl, a, size, z, rfl, hp, by omega, by omega, by omega, fun n H1 n0 n1 p1 k1 => ?_⟩
    refine ⟨_, rfl, rfl, _, rfl, ite2 (fun c => ?_) (fun c1 => ?_)⟩
    · have c' : m = "clean" := V.str.inj (of_decide_eq_true c)
      refine ⟨_, rfl, _, rfl, _, rfl, (by show 2 ≤ sizeLine; decide), fun t ht => k _ (-n, n) _ ((p1.same (same_new ht)).le (by omega)) (k1.trans (sKeep (same_new ht))) (.tup upd_same (.cons (.int _) (.cons (.int _) .nil))) ?_⟩
      subst c'
      exact ⟨fun _ => ⟨by show -n ≤ 0; omega, by show n = - -n; omega⟩, fun z => by exact absurd z (by decide), fun z => by exact absurd z (by decide), by show -(size : Int) ≤ -n; omega, by show -n ≤ size; omega, by show -(size : Int) ≤ n; omega, by show n ≤ size; omega⟩
    have c1' : ¬ m = "clean" := fun z => c1 (decide_eq_true (congrArg V.str z))
    refine ⟨_, rfl, rfl, _, rfl, ite2 (fun c => ?_) (fun c2 => ?_)⟩
    · have c' : m = "spent" := V.str.inj (of_decide_eq_true c)
      refine ⟨_, rfl, _, rfl, (by show 2 ≤ sizeLine; decide), fun t ht => k _ (-n, 0) _ ((p1.same (same_new ht)).le (by omega)) (k1.trans (sKeep (same_new ht))) (.tup upd_same (.cons (.int _) (.cons (.int _) .nil))) ?_⟩
      subst c'
      exact ⟨fun z => by exact absurd z (by decide), fun _ => ⟨by show -n ≤ 0; omega, rfl⟩, fun z => by exact absurd z (by decide), by show -(size : Int) ≤ -n; omega, by show -n ≤ size; omega, by show -(size : Int) ≤ 0; omega, by show (0 : Int) ≤ size; omega⟩
    have c2' : ¬ m = "spent" := fun z => c2 (decide_eq_true (congrArg V.str z))
    refine ⟨_, rfl, rfl, _, rfl, ite2 (fun c => ?_) (fun c3 => ?_)⟩
    · have c' : m = "plain" := V.str.inj (of_decide_eq_true c)
      refine ⟨_, rfl, _, rfl, _, rfl, _, rfl, a, size, _, rfl, p1, by omega, by omega, by omega, fun n2 H2 m0 m1 p2 k2 => ?_⟩
      refine ⟨(by show 2 ≤ sizeLine; decide), fun t ht => k _ (-n, n2) _ ((p2.same (same_new ht)).le (by omega)) ((k1.trans k2).trans (sKeep (same_new ht))) (.tup upd_same (.cons (.int _) (.cons (.int _) .nil))) ?_⟩
      exact ⟨fun z => absurd z c1', fun z => absurd z c2', fun _ => ⟨by show -n ≤ 0; omega, m0⟩, by show -(size : Int) ≤ -n; omega, by show -n ≤ size; omega, by show -(size : Int) ≤ n2; omega, by show n2 ≤ size; omega⟩
    have c3' : ¬ m = "plain" := fun z => c3 (decide_eq_true (congrArg V.str z))
    refine ⟨_, rfl, _, rfl, _, _, rfl, rfl, small, _, _, rfl, rfl, a, 2 * (size : Int) - 1, _, rfl, p1, by omega, by omega, by omega, fun u H2 u0 u1 p2 k2 => ?_⟩
    refine ⟨_, rfl, _, _, rfl, rfl, _, _, rfl, rfl, _, rfl, _, rfl, _, _, rfl, rfl, small, _, _, rfl, rfl, a, 2 * (size : Int) - 1, _, rfl, p2, by omega, by omega, by omega, fun v H3 v0 v1 p3 k3 => ?_⟩
    refine ⟨_, rfl, _, _, rfl, rfl, _, _, rfl, rfl, (by show 2 ≤ sizeLine; decide), fun t ht => k _ (u - size + 1, v - size + 1) _ ((p3.same (same_new ht)).le (by omega)) (((k1.trans k2).trans k3).trans (sKeep (same_new ht))) (.tup upd_same (.cons (.int _) (.cons (.int _) .nil))) ?_⟩
    exact ⟨fun z => absurd z c1', fun z => absurd z c2', fun z => absurd z c3', by show -(size : Int) ≤ u - size + 1; omega, by show u - size + 1 ≤ (size : Int); omega, by show -(size : Int) ≤ v - size + 1; omega, by show v - size + 1 ≤ (size : Int); omega⟩
end
end K73
namespace GD
open PySem PySem.Spec PyProof.Rows L2
def Bd (n : Int) (s : Stn) : Prop := ∀ p ∈ s, 0 ≤ p.2 ∧ p.2 ≤ p.1 ∧ p.1 ≤ n
theorem Bd.le {n m : Int} {s : Stn} (h : Bd n s) (l : n ≤ m) : Bd m s := fun p hp => by
  have z := h p hp
  omega
theorem Bd.small {n : Int} {s : Stn} (h : Bd n s) (l : n ≤ 1000) : Small s := fun p hp => by
  have z := h p hp
  omega
theorem bd_first {k : Nat} : Bd 0 (List.replicate k (0, 0)) := fun p hp => by
  rw [(List.mem_replicate.mp hp).2]
  decide
theorem okP_iff {p : Int × Int} : okP p = true ↔ p.2 ≤ p.1 ∧ p.1 ≤ 40 := by
  unfold okP
  rw [Bool.and_eq_true, decide_eq_true_iff, decide_eq_true_iff]
theorem mem_beh {names : List Str} {s : Stn} {e : Str × Str} {q : Int × Int} (h : q ∈ behS names s e) : q ∈ s ∨ q = bumpP e.1 (s.getD (ixOf names e.2) (0, 0)) := by
  unfold behS at h
  rcases List.mem_append.mp h with h | h
  · rcases List.mem_append.mp h with h | h
    · exact .inl (List.mem_of_mem_take h)
    · exact .inr (List.mem_singleton.mp h)
  · exact .inl (List.mem_of_mem_drop h)
theorem getD_mem {s : Stn} {i : Nat} (h : i < s.length) : s.getD i (0, 0) ∈ s := by
  rw [List.getD_eq_getElem?_getD, List.getElem?_eq_getElem h]
  exact List.getElem_mem h
theorem bd_beh {n : Int} {names : List Str} {s : Stn} {e : Str × Str} (h : Bd n s) (hi : ixOf names e.2 < s.length) (c : canS names s e = true) : Bd (n + 1) (behS names s e) := fun q hq => by
  have ok := okP_iff.mp (List.all_eq_true.mp c q hq)
  rcases mem_beh hq with m | m
  · have z := h q m
    omega
  · have z := h _ (getD_mem hi)
    have z2 : 0 ≤ q.2 ∧ q.1 ≤ n + 1 := by
      rw [m]
      unfold bumpP
      split
      · constructor
        · exact z.1
        · show (s.getD (ixOf names e.2) (0, 0)).1 + 1 ≤ n + 1
          omega
      · constructor
        · show 0 ≤ (s.getD (ixOf names e.2) (0, 0)).2 + 1
          omega
        · show (s.getD (ixOf names e.2) (0, 0)).1 ≤ n + 1
          omega
    omega
theorem can_begin {n : Int} {names : List Str} {s : Stn} {x : Str} (h : Bd n s) (hn : n ≤ 39) (hx : x ∈ names) (hl : s.length = names.length) : canS names s ("begin", x) = true := by
  refine List.all_eq_true.mpr fun q hq => okP_iff.mpr ?_
  have hi : ixOf names x < s.length := by
    rw [hl]
    exact ixOf_lt hx
  rcases mem_beh hq with m | m
  · have z := h q m
    omega
  · have z := h _ (getD_mem hi)
    rw [m]
    show (s.getD (ixOf names x) (0, 0)).2 ≤ (s.getD (ixOf names x) (0, 0)).1 + 1 ∧ (s.getD (ixOf names x) (0, 0)).1 + 1 ≤ 40
    omega
theorem events_some {n : Int} {names : List Str} {s : Stn} (h : Bd n s) (hn : n ≤ 39) (h1 : names ≠ []) (hl : s.length = names.length) : (evs names).filter (canS names s) ≠ [] := by
  cases names with
  | nil => exact absurd rfl h1
  | cons x r =>
    have m : (("begin" : Str), x) ∈ evs (x :: r) := by
      unfold evs
      exact List.mem_flatMap.mpr ⟨x, List.mem_cons_self, List.mem_cons_self⟩
    exact List.ne_nil_of_mem (List.mem_filter.mpr ⟨m, can_begin h hn List.mem_cons_self hl⟩)
theorem event_job {names : List Str} {e : Str × Str} (h : e ∈ evs names) : e.2 ∈ names := by
  unfold evs at h
  obtain ⟨n, hn, hm⟩ := List.mem_flatMap.mp h
  rcases List.mem_cons.mp hm with z | z
  · rw [z]
    exact hn
  · rw [List.mem_singleton.mp z]
    exact hn
theorem evs_len (names : List Str) : (evs names).length = 2 * names.length := by
  induction names with
  | nil => rfl
  | cons x r ih =>
    have e : evs (x :: r) = ([("begin", x), ("end", x)] : List (Str × Str)) ++ evs r := rfl
    rw [e, List.length_append, ih, List.length_cons]
    show 2 + 2 * r.length = 2 * (r.length + 1)
    omega
theorem level_first {st : Stk} {k : Nat} : levelS st (List.replicate k (0, 0)) = st.1 := by
  unfold levelS
  have z : ∀ (cs : List (Int × Int)) (k : Nat), (List.zipWith (fun c p => p.1 * c.1 + p.2 * c.2) cs (List.replicate k ((0 : Int), (0 : Int)))).sum = 0 := by
    intro cs
    induction cs with
    | nil =>
      intro k
      rfl
    | cons c r ih =>
      intro k
      cases k with
      | zero => rfl
      | succ k =>
        rw [List.replicate_succ, List.zipWith_cons_cons, List.sum_cons, ih k]
        simp
  rw [z]
  omega
theorem lets_first {sts : List Stk} {k : Nat} (h : ∀ st ∈ sts, 0 ≤ st.1) : letsS sts (List.replicate k (0, 0)) = true := by
  refine List.all_eq_true.mpr fun st hs => ?_
  rw [level_first]
  exact decide_eq_true (h st hs)
/-- a fact as it was heard: let where all stocks let it, not where one does not -/
def HeardOk (k : Nat) (n : Int) (sts : List Stk) : Fact → Prop
  | .let_ s => s.length = k ∧ Bd n s ∧ letsS sts s = true
  | .not_ s => s.length = k ∧ Bd n s ∧ letsS sts s = false
  | .as_ s t => s.length = k ∧ Bd n s ∧ t.length = k ∧ Bd n t ∧ s ≠ t ∧ ∀ st ∈ sts, levelS st s = levelS st t
def spHeard : Sp := fun vs H Q _ => ∃ (a lj ls : Addr) (days most : Nat) (js : List (Str × Str)) (sts : List Stk) (z : Int), vs = [.ref a, .ref lj, .ref ls, .int days, .int most] ∧ PotAt H a z ∧ z ≤ 20000 ∧ lj ≠ a ∧ ls ≠ a ∧ LstAt H lj (js.map eE) ∧ LstAt H ls (sts.map eK) ∧
  (∀ st ∈ sts, 0 ≤ st.1 ∧ st.2.length = js.length) ∧ sts.length ≤ 100 ∧ 1 ≤ js.length ∧ js.length ≤ 10 ∧ days ≤ 10 ∧ 1 ≤ most ∧ most ≤ 30 ∧
  ∀ (t l1 l2 : Addr) (fs : List Fact) (ms : List Stn) H', PotAt H' a (z + 1000) → Keep a H H' → H l1 = none → H l2 = none → l1 ≠ l2 → H' t = some (.tup [.ref l1, .ref l2]) → LstAt H' l1 (fs.map eF) → LstAt H' l2 (ms.map eS) →
    (∀ f ∈ fs, HeardOk js.length most sts f) → (∀ f ∈ fs, ∀ s t, f ≠ .as_ s t) → ms ≠ [] → (∀ m ∈ ms, m.length = js.length ∧ Bd most m ∧ letsS sts m = true) → fs.length ≤ days * most → ms.length ≤ 1 + days * most → Q (.ref t) H'
end GD
namespace GD
open PySem PySem.Spec PyProof.Rows L2
theorem can_all : ∀ {ds : List PyData}, (∀ d ∈ ds, d.canLay0 = true) → PyData.canLayAll0 ds = true
  | [], _ => by simp [PyData.canLayAll0]
  | d :: ds, h => by
    rw [PyData.canLayAll0, h d List.mem_cons_self, can_all fun e he => h e (List.mem_cons_of_mem _ he)]
    rfl
theorem can_eP (p : Int × Int) : (eP p).canLay0 = true := by simp [eP, PyData.canLay0, PyData.canLayAll0]
theorem can_eS (s : Stn) : (eS s).canLay0 = true := by
  rw [eS, PyData.canLay0]
  exact can_all fun d hd => by
    obtain ⟨p, _, e⟩ := List.mem_map.mp hd
    rw [← e]
    exact can_eP p
theorem depth_all : ∀ {ds : List PyData} {n : Nat}, (∀ d ∈ ds, d.depth ≤ n) → PyData.depthAll ds ≤ n
  | [], _, _ => by simp [PyData.depthAll]
  | d :: ds, n, h => by
    rw [PyData.depthAll]
    exact Nat.max_le.mpr ⟨h d List.mem_cons_self, depth_all fun e he => h e (List.mem_cons_of_mem _ he)⟩
theorem depth_eP (p : Int × Int) : (eP p).depth ≤ 1 := by simp [eP, PyData.depth, PyData.depthAll]
theorem depth_eS (s : Stn) : (eS s).depth ≤ 2 := by
  rw [eS, PyData.depth]
  have z := depth_all (n := 1) (ds := s.map eP) fun d hd => by
    obtain ⟨p, _, e⟩ := List.mem_map.mp hd
    rw [← e]
    exact depth_eP p
  omega
theorem shape_of {d : PyData} (h1 : d.canLay0 = true) (h2 : d.depth ≤ 60) : SeqAt.shaped d = true := by
  unfold SeqAt.shaped
  rw [h1, decide_eq_true (show d.depth ≤ 64 by omega)]
  rfl
theorem shape_eS (s : Stn) : SeqAt.shaped (eS s) = true := shape_of (can_eS s) (Nat.le_trans (depth_eS s) (by decide))
theorem can_two (x : Str) (hx : PyData.strOk x = true) {d : PyData} (h : d.canLay0 = true) : (PyData.tuple [.str x, d]).canLay0 = true := by
  rw [PyData.canLay0]
  refine can_all fun e he => ?_
  simp only [List.mem_cons, List.not_mem_nil, or_false] at he
  rcases he with rfl | rfl
  · rw [PyData.canLay0, hx]
  · exact h
theorem can_three (x : Str) (hx : PyData.strOk x = true) {d f : PyData} (h : d.canLay0 = true) (h2 : f.canLay0 = true) : (PyData.tuple [.str x, d, f]).canLay0 = true := by
  rw [PyData.canLay0]
  refine can_all fun e he => ?_
  simp only [List.mem_cons, List.not_mem_nil, or_false] at he
  rcases he with rfl | rfl | rfl
  · rw [PyData.canLay0, hx]
  · exact h
  · exact h2
theorem can_eF (f : Fact) : (eF f).canLay0 = true := by
  cases f with
  | let_ s =>
    rw [eF]
    exact can_two _ (by decide +kernel) (can_eS s)
  | not_ s =>
    rw [eF]
    exact can_two _ (by decide +kernel) (can_eS s)
  | as_ s t =>
    rw [eF]
    exact can_three _ (by decide +kernel) (can_eS s) (can_eS t)
theorem depth_str (x : Str) : (PyData.str x).depth = 0 := by simp [PyData.depth]
theorem depth_eF (f : Fact) : (eF f).depth ≤ 3 := by
  have go : ∀ ds : List PyData, (∀ d ∈ ds, d.depth ≤ 2) → (PyData.tuple ds).depth ≤ 3 := fun ds h => by
    rw [PyData.depth]
    have z := depth_all h
    omega
  cases f with
  | let_ s =>
    rw [eF]
    refine go _ fun d hd => ?_
    simp only [List.mem_cons, List.not_mem_nil, or_false] at hd
    rcases hd with rfl | rfl
    · rw [depth_str]; decide
    · exact depth_eS s
  | not_ s =>
    rw [eF]
    refine go _ fun d hd => ?_
    simp only [List.mem_cons, List.not_mem_nil, or_false] at hd
    rcases hd with rfl | rfl
    · rw [depth_str]; decide
    · exact depth_eS s
  | as_ s t =>
    rw [eF]
    refine go _ fun d hd => ?_
    simp only [List.mem_cons, List.not_mem_nil, or_false] at hd
    rcases hd with rfl | rfl | rfl
    · rw [depth_str]; decide
    · exact depth_eS s
    · exact depth_eS t
theorem shape_eF (f : Fact) : SeqAt.shaped (eF f) = true := shape_of (can_eF f) (Nat.le_trans (depth_eF f) (by decide))
theorem shape_eFs (fs : List Fact) : SeqAt.shaped (.list (fs.map eF)) = true := by
  refine shape_of ?_ ?_
  · rw [PyData.canLay0]
    exact can_all fun d hd => by
      obtain ⟨f, _, e⟩ := List.mem_map.mp hd
      rw [← e]
      exact can_eF f
  · rw [PyData.depth]
    have z := depth_all (n := 3) (ds := fs.map eF) fun d hd => by
      obtain ⟨f, _, e⟩ := List.mem_map.mp hd
      rw [← e]
      exact depth_eF f
    omega
theorem eqv_self {d : PyData} (h : SeqAt.shaped d = true) : PyData.eqv d d = true := SeqAt.eqv_refl d (SeqAt.canLay_of_shaped h)
theorem ne_of_eqv {d e : PyData} (h : SeqAt.shaped d = true) (c : PyData.eqv d e = false) : d ≠ e := fun z => by
  rw [← z, eqv_self h] at c
  cases c
def spAlike : Sp := fun vs H Q _ => ∃ (a ls lm : Addr) (many : Nat) (sts : List Stk) (ms : List Stn) (k : Nat) (n z : Int), vs = [.ref a, .ref ls, .ref lm, .int many] ∧ PotAt H a z ∧ z ≤ 90000 ∧ ls ≠ a ∧ lm ≠ a ∧ LstAt H ls (sts.map eK) ∧ LstAt H lm (ms.map eS) ∧
  (∀ st ∈ sts, st.2.length = k) ∧ k ≤ 10 ∧ n ≤ 1000 ∧ sts.length ≤ 100 ∧ ms ≠ [] ∧ ms.length ≤ 900 ∧ (∀ m ∈ ms, m.length = k ∧ Bd n m) ∧ many ≤ 10 ∧
  ∀ p (fs : List Fact) H', H p = none → PotAt H' a (z + 2 * many) → Keep a H H' → LstAt H' p (fs.map eF) → (∀ f ∈ fs, HeardOk k n sts f) → fs.length ≤ many → Q (.ref p) H'
def kindS : Fact → Str
  | .let_ _ => "let"
  | .not_ _ => "not"
  | .as_ _ _ => "as"
def cnt (x : Str) (fs : List Fact) : Nat := (fs.filter fun f => decide (kindS f = x)).length
def dk3 (a b c : Int) : List (Key × V) := [(.inr "let", .int a), (.inr "not", .int b), (.inr "as", .int c)]
def spFew : Sp := fun vs H Q _ => ∃ (lf : Addr) (x y w : Nat) (fs : List Fact), vs = [.ref lf, .int x, .int y, .int w] ∧ LstAt H lf (fs.map eF) ∧ fs.length ≤ 5000 ∧
  ∀ p (gs : List Fact) H', Same H H' → H p = none → LstAt H' p (gs.map eF) → gs.Nodup → (∀ g ∈ gs, g ∈ fs) → cnt "let" gs ≤ x → cnt "not" gs ≤ y → cnt "as" gs ≤ w → gs.length ≤ fs.length → Q (.ref p) H'
end GD
namespace GD
open PySem PySem.Spec PyProof.Rows L2
theorem walk_zipT {K : PySem.W.Frag} {a b : Addr} {xs ys : List V} {n : Nat} (hx : n = xs.length) (hy : n = ys.length) : Walk (RZ.ItzT K a b) n (fun H => SqT K H a xs ∧ SqT K H b ys) (YPair (fun i => xs[i]?) (fun i => ys[i]?)) := by
  refine ⟨fun i _ hi q => ?_, fun _ q => ⟨xs, ys, q.1, q.2, by omega⟩, fun i H v H' _ q y => ?_⟩
  · exact ⟨xs, ys, xs[i]'(by omega), ys[i]'(by omega), q.1, q.2, List.getElem?_eq_getElem (by omega), List.getElem?_eq_getElem (by omega)⟩
  · obtain ⟨T, x, z, h1, h2, h3, h4, h5⟩ := y
    exact ⟨T, x, z, h1, h2, h3, h4 xs q.1, h5 ys q.2⟩
end GD
namespace K73
open PySem PySem.Spec PyProof.Rows L2 GD
section
variable {P : Program} {w : World} {K : PySem.W.Frag} {mg : Str → Option Value} {base : Heap}
abbrev NS : List Str := ["_law_pot_here", "_law_jobs_here", "_law_size", "_law_name", "_law_manner"]
theorem scStock : FnScope NS ["_law_pot_here", "_law_jobs_here", "_law_size"] (defScope sStock) := ⟨rfl, rfl, rfl, by decide +kernel, rfl, by decide +kernel, by decide +kernel⟩
theorem ok_stock {f fC fT : Addr} {fd fdC fdT : FuncData} (F : Fun K "_law_stock" "_law_stock" sStock f fd) (T : TxtA mg) (nT : mg "tuple" = none) (FT : Fun K "_law_take" "_law_take" sTake fT fdT) (gT : mg "_law_take" = some (.ref fT)) (bT : Binds K fdT ["_law_pot_here", "_law_upto"] [])
    (FC : Fun K "_law_change" "_law_change" sChange fC fdC) (gC : mg "_law_change" = some (.ref fC)) (bC : Binds K fdC ["_law_pot_here", "_law_manner", "_law_size"] []) : FnOk P w K mg base CX0 3 f fd ["_law_pot_here", "_law_jobs_here", "_law_size"] spStock := by
  have GT : FnOk P w K mg base CX0 1 fT fdT ["_law_pot_here", "_law_upto"] spTake := ok_take FT T
  have GC : FnOk P w K mg base CX0 2 fC fdC ["_law_pot_here", "_law_manner", "_law_size"] spChange := ok_change FC T FT gT bT
  refine F.ok scStock (fun vs H Q E h => ?_) (fun cdv A outer s H vs Q E hr h => ?_)
  · obtain ⟨a, l, js, size, z, rfl, _⟩ := h
    rfl
  · obtain ⟨a, l, js, size, z, rfl, hp, hz, hla, ⟨xs, hl, fx⟩, hjl, h1, h2, k⟩ := h
    have hr1 : Room 1 _ := hr.mono (by decide)
    refine ⟨_, pss_one (ps_ret (pe_tup (pa_cons (pe_call GT hr1 rfl gT FT.kp bT .nil pass0 (pa_cons (pv 0) (pa_cons (pe_op op_add (pe_op op_mul pe_int (pv 2)) pe_int) pa_nil)))
      (pa_cons (pe_callTy call_tuple_of (by rfl) nT (by decide +kernel) (pa_cons (pe_lc (own := [("_law_name", 3), ("_law_manner", 4)]) (g := gTup K 2 (gCons (gName 3) (gCons (gName 4) gNil))) (tt := tYes) rfl scStock.nd (pi_list (pv 1)) (blkOk_by (N := NS) (sc := defScope sStock) (by decide +kernel))
        (fun _ _ _ _ _ => pg_tup rfl (pgs_cons (pg_name (i := 3) scStock.nd rfl (.inl rfl)) (pgs_cons (pg_name (i := 4) scStock.nd rfl (.inl rfl)) pgs_nil))) (fun _ _ _ _ _ => pts_nil)
        (fun _ _ _ _ _ => pe_call GC hr rfl gC FC.kp bC .nil pass0 (pa_cons (pv 0) (pa_cons (pv 4) (pa_cons (pv 2) pa_nil))))) pa_nil)) pa_nil)))), ?_⟩
    refine ⟨_, rfl, _, rfl, _, _, rfl, rfl, .inl ⟨by decide, by decide⟩, _, _, rfl, rfl, a, 2 * (size : Int) + 1, z, rfl, hp, by omega, by omega, by omega, fun n H1 n0 n1 p1 k1 => ?_⟩
    have hl1 := k1 _ _ hla hl
    refine ⟨_, rfl, l, rfl, ⟨_, SqL.of hl1⟩, fun D hD => ?_⟩
    have D0 : H D = none := keep_none p1 k1 hD
    have nDa : D ≠ a := p1.ne hD
    refine lc_list (K := K) (a := l) (xs := xs) (fun i H' => PotAt H' a (z + 1 + 4 * (i : Nat)) ∧ Keep a H H' ∧ ∃ (acc : List V) (cs : List (Int × Int)), H' D = some (.lst acc) ∧ FzAll H' acc (cs.map eP) ∧ cs.length = i ∧ ∀ (m : Nat) (j : Str × Str) (c : Int × Int), js[m]? = some j → cs[m]? = some c → MannerOk j.2 size c)
      ⟨(p1.upd_ne nDa).le (by omega), keep_upd k1 D0, [], [], upd_same, .nil, rfl, fun m j c _ h => by simp at h⟩ (fun i H' _ ⟨_, k2, _⟩ => SqL.of (k2 _ _ hla hl)) ?_ ?_
    · rintro i x H' hx ⟨pi, ki, acc, cs, eD, fz, lc, hm⟩
      obtain ⟨j, hj, fj⟩ := fx.atM hx
      obtain ⟨b, y1, y2, rfl, hb, f1, f2⟩ := fj.t2
      obtain rfl := f2.s
      have tK := hp.tups ki
      have hlt : i < js.length := (List.getElem?_eq_some_iff.mp hj).1
      refine ⟨b, _, rfl, SqT.of (tK _ _ hb), rfl, _, _, rfl, _, _, rfl, rfl, rfl, ?_⟩
      refine ⟨_, rfl, _, rfl, _, rfl, a, j.2, size, _, rfl, pi, by omega, h1, h2, fun v c H2 p2 k2 fc mo => ?_⟩
      have eD2 := k2 _ _ nDa eD
      have la : acc.length = i := by rw [fz.len, List.length_map, lc]
      refine ⟨acc, eD2, by rw [la]; exact Nat.lt_of_lt_of_le (show i < 100 by omega) (by decide), (p2.upd_ne nDa).le (by omega), keep_upd (ki.trans k2) D0, _, cs ++ [c], upd_same, FzAll.mv (tups_lst eD2) ?_, by rw [List.length_append, lc]; rfl, fun m j' c' hj' hc' => ?_⟩
      · rw [List.map_append]
        exact (fz.mv (pi.tups k2)).snoc fc
      · by_cases hmi : m < cs.length
        · rw [List.getElem?_append_left hmi] at hc'
          exact hm m j' c' hj' hc'
        · have hml : m < (cs ++ [c]).length := (List.getElem?_eq_some_iff.mp hc').1
          rw [List.length_append, List.length_singleton] at hml
          have em : m = i := by omega
          subst em
          rw [List.getElem?_append_right (by omega), lc, Nat.sub_self] at hc'
          simp at hc'
          rw [hj] at hj'
          rw [← Option.some.inj hj', ← hc']
          exact mo
    · rintro H' ⟨pi, ki, acc, cs, eD, fz, lc, hm⟩
      rw [fx.len, List.length_map] at lc pi
      refine ⟨D, acc, rfl, .inl ⟨SqL.of eD, fun t ht => ?_⟩⟩
      have st := same_new (o := .tup acc) ht
      refine ⟨(by show 2 ≤ sizeLine; decide), fun u hu => ?_⟩
      have su := same_new (o := .tup [.int n, .ref t]) hu
      exact k _ (n, cs) _ ((pi.same (st.trans su)).le (by omega)) (ki.trans (sKeep (st.trans su))) (.tup upd_same (.cons (.int _) (.cons (.tup (su _ _ upd_same) (fz.same (st.trans su))) .nil))) ⟨n0, by show n ≤ 2 * (size : Int); omega, lc, hm⟩
abbrev NL : List Str := ["_law_stock_here", "_law_standing_here", "_law_first_here", "_law_changes", "_law_up", "_law_down", "_law_begun", "_law_ended"]
theorem scLv : FnScope NL ["_law_stock_here", "_law_standing_here"] (defScope sLevel) := ⟨rfl, rfl, rfl, by decide +kernel, rfl, by decide +kernel, by decide +kernel⟩
theorem ok_level {f : Addr} {fd : FuncData} (F : Fun K "_law_level" "_law_level" sLevel f fd) (nS : mg "sum" = none) (nZ : mg "zip" = none) : FnOk P w K mg base CX0 1 f fd ["_law_stock_here", "_law_standing_here"] (spLevel K) := by
  refine F.ok scLv (fun vs H Q E h => ?_) (fun cdv A outer s H vs Q E hr h => ?_)
  · obtain ⟨x, y, st, sn, rfl, _⟩ := h
    rfl
  · obtain ⟨x, y, st, sn, rfl, fx, fy, hl, hl10, hsm, k⟩ := h
    refine ⟨_, pss_cons (ps_asg (pv 0) (pg_tup rfl (pgs_cons (pg_name (i := 2) scLv.nd rfl (.inl rfl)) (pgs_cons (pg_name (i := 3) scLv.nd rfl (.inl rfl)) pgs_nil))))
      (pss_one (ps_ret (pe_op op_add (pv 2) (pe_callB (cr_sum rfl) (by rfl) nS (by decide +kernel) (pa_cons (pe_lc (own := [("_law_up", 4), ("_law_down", 5), ("_law_begun", 6), ("_law_ended", 7)])
        (g := gTup K 2 (gCons (gTup K 2 (gCons (gName 4) (gCons (gName 5) gNil))) (gCons (gTup K 2 (gCons (gName 6) (gCons (gName 7) gNil))) gNil))) (tt := tYes) rfl scLv.nd (RZ.pi_zipA (by rfl) nZ (pa_cons (pv 3) (pa_cons (pv 1) pa_nil))) (blkOk_by (N := NL) (sc := defScope sLevel) (by decide +kernel))
        (fun _ _ _ _ _ => pg_tup rfl (pgs_cons (pg_tup rfl (pgs_cons (pg_name (i := 4) scLv.nd rfl (.inl rfl)) (pgs_cons (pg_name (i := 5) scLv.nd rfl (.inl rfl)) pgs_nil))) (pgs_cons (pg_tup rfl (pgs_cons (pg_name (i := 6) scLv.nd rfl (.inl rfl)) (pgs_cons (pg_name (i := 7) scLv.nd rfl (.inl rfl)) pgs_nil))) pgs_nil)))
        (fun _ _ _ _ _ => pts_nil) (fun _ _ _ _ _ => pe_op op_add (pe_op op_mul (pv 6) (pv 4)) (pe_op op_mul (pv 7) (pv 5)))) pa_nil))))), ?_⟩
    obtain ⟨sa, z1, z2, rfl, hsa, g1, g2⟩ := fx.t2
    obtain rfl := g1.i
    obtain ⟨ca, cx, rfl, hca, fc⟩ := g2.t
    obtain ⟨ya, yx, rfl, hya, fs⟩ := fy.t
    refine ⟨_, rfl, sa, _, rfl, SqT.of hsa, rfl, _, _, rfl, _, _, rfl, rfl, ?_⟩
    refine ⟨_, rfl, _, rfl, _, rfl, ca, ya, cx, yx, rfl, .inr ⟨SqT.of hca, SqT.of hya, fun D hD => ?_⟩⟩
    have lx : cx.length = st.2.length := by rw [fc.len, List.length_map]
    have ly : yx.length = sn.length := by rw [fs.len, List.length_map]
    refine lc_it (walk_zipT (K := K) (a := ca) (b := ya) (xs := cx) (ys := yx) (n := sn.length) (by omega) (by omega)) (fun i H' => Same H H' ∧ H' D = some (.lst (((List.zipWith (fun c p => p.1 * c.1 + p.2 * c.2) st.2 sn).take i).map V.int))) ⟨same_new hD, upd_same⟩ (fun i H' _ ⟨s1, _⟩ => ⟨SqT.of (s1 _ _ hca), SqT.of (s1 _ _ hya)⟩) ?_ ?_
    · rintro i x H' H'' hi ⟨s1, eD⟩ ⟨T', u, v, rfl, hT, rfl, hu, hv⟩
      obtain ⟨c, hc, f1⟩ := fc.atM hu
      obtain ⟨p, hp, f2⟩ := fs.atM hv
      obtain ⟨b1, u1, u2, rfl, hb1, i1, i2⟩ := f1.t2
      obtain ⟨b2, v1, v2, rfl, hb2, i3, i4⟩ := f2.t2
      obtain rfl := i1.i
      obtain rfl := i2.i
      obtain rfl := i3.i
      obtain rfl := i4.i
      have sT := same_new (o := .tup [.ref b1, .ref b2]) hT
      obtain ⟨q1, q2, q3, q4⟩ := hsm p (List.mem_of_getElem? hp)
      refine ⟨T', _, rfl, SqT.of upd_same, rfl, _, _, rfl, ⟨b1, _, rfl, SqT.of (sT _ _ (s1 _ _ hb1)), rfl, _, _, rfl, _, _, rfl, rfl, _, _, rfl, b2, _, rfl, SqT.of (sT _ _ (s1 _ _ hb2)), rfl, _, _, rfl, _, _, rfl, rfl, rfl, rfl, ?_⟩⟩
      refine ⟨_, rfl, _, rfl, _, _, rfl, rfl, .inl ⟨by omega, by omega⟩, _, rfl, _, rfl, _, _, rfl, rfl, .inl ⟨by omega, by omega⟩, _, _, rfl, rfl, ?_⟩
      refine ⟨_, sT _ _ eD, ?_, same_upd (s1.trans sT) hD, ?_⟩
      · rw [List.length_map, List.length_take]
        exact Nat.lt_of_le_of_lt (Nat.min_le_left _ _) (Nat.lt_of_lt_of_le (show i < 100 by omega) (by decide))
      · rw [upd_same, GD.take_next (x := p.1 * c.1 + p.2 * c.2) (by rw [List.getElem?_zipWith, hc, hp]), List.map_append]
        rfl
    · rintro H' ⟨s1, eD⟩
      rw [List.take_of_length_le (by rw [List.length_zipWith]; omega)] at eD
      exact ⟨D, _, rfl, SqL.of eD, _, _, rfl, rfl, k H' s1⟩
abbrev NT : List Str := ["_law_stocks", "_law_standing_here", "_law_stock_here"]
theorem scLt : FnScope NT ["_law_stocks", "_law_standing_here"] (defScope sLets) := ⟨rfl, rfl, rfl, by decide +kernel, rfl, by decide +kernel, by decide +kernel⟩
theorem ok_lets {f fV : Addr} {fd fdV : FuncData} (F : Fun K "_law_lets" "_law_lets" sLets f fd) (nA : mg "all" = none) (nS : mg "sum" = none) (nZ : mg "zip" = none) (FV : Fun K "_law_level" "_law_level" sLevel fV fdV) (gV : mg "_law_level" = some (.ref fV)) (bV : Binds K fdV ["_law_stock_here", "_law_standing_here"] []) :
    FnOk P w K mg base CX0 2 f fd ["_law_stocks", "_law_standing_here"] (spLets K) := by
  have GV : FnOk P w K mg base CX0 1 fV fdV ["_law_stock_here", "_law_standing_here"] (spLevel K) := ok_level FV nS nZ
  refine F.ok scLt (fun vs H Q E h => ?_) (fun cdv A outer s H vs Q E hr h => ?_)
  · obtain ⟨l, y, sts, sn, rfl, _⟩ := h
    rfl
  · obtain ⟨l, y, sts, sn, rfl, ⟨xs, hl, fx⟩, fy, hst, hl10, hl100, hsm, k⟩ := h
    refine ⟨_, pss_one (ps_ret (pe_callB (cr_all rfl) (by rfl) nA (by decide +kernel) (pa_cons (pe_lc (own := [("_law_stock_here", 2)]) (g := gName 2) (tt := tYes) rfl scLt.nd (pi_list (pv 0)) (blkOk_by (N := NT) (sc := defScope sLets) (by decide +kernel))
      (fun _ _ _ _ _ => pg_name (i := 2) scLt.nd rfl (.inl rfl)) (fun _ _ _ _ _ => pts_nil) (fun _ _ _ _ _ => pe_cmpR op_ge (pe_call GV hr rfl gV FV.kp bV .nil pass0 (pa_cons (pv 2) (pa_cons (pv 1) pa_nil))) pe_int (nomark _))) pa_nil))), ?_⟩
    refine ⟨_, rfl, l, rfl, ⟨_, SqL.of hl⟩, fun D hD => ?_⟩
    refine lc_list (K := K) (a := l) (xs := xs) (fun i H' => Same H H' ∧ H' D = some (.lst (((sts.take i).map fun st => decide (0 ≤ levelS st sn)).map V.bl))) ⟨same_new hD, upd_same⟩ (fun i H' _ ⟨s1, _⟩ => SqL.of (s1 _ _ hl)) ?_ ?_
    · rintro i x H' hx ⟨s1, eD⟩
      obtain ⟨st, hst', fst'⟩ := fx.atM hx
      have hlt : i < sts.length := (List.getElem?_eq_some_iff.mp hst').1
      refine ⟨rfl, _, rfl, _, rfl, x, y, st, sn, rfl, fst'.same s1, fy.same s1, hst st (List.mem_of_getElem? hst'), hl10, hsm, fun H2 s2 => ⟨_, _, rfl, rfl, ?_⟩⟩
      refine ⟨_, s2 _ _ eD, ?_, same_upd (s1.trans s2) hD, ?_⟩
      · rw [List.length_map, List.length_map, List.length_take]
        exact Nat.lt_of_le_of_lt (Nat.min_le_left _ _) (Nat.lt_of_lt_of_le (show i < 101 by omega) (by decide))
      · rw [upd_same, GD.take_next hst', List.map_append, List.map_append]
        rfl
    · rintro H' ⟨s1, eD⟩
      refine ⟨D, _, rfl, SqL.of eD, ?_⟩
      rw [fx.len, List.length_map, List.take_length, List.all_map]
      exact k H' s1
end
end K73
namespace GD
open PySem PySem.Spec PyProof.Rows L2
def MetOk (k : Nat) (most : Int) (sts : List Stk) (m : Stn) : Prop := m.length = k ∧ Bd most m ∧ letsS sts m = true
structure HI (a l1 l2 : Addr) (H H' : Hp) (z : Int) (k : Nat) (most : Int) (sts : List Stk) (n1 n2 : Nat) : Prop where
  pot : PotAt H' a z
  kp : Keep a H H'
  ex : ∃ (fs : List Fact) (ms : List Stn), LstAt H' l1 (fs.map eF) ∧ LstAt H' l2 (ms.map eS) ∧ (∀ f ∈ fs, HeardOk k most sts f) ∧ (∀ f ∈ fs, ∀ s t, f ≠ .as_ s t) ∧ ms ≠ [] ∧ (∀ m ∈ ms, MetOk k most sts m) ∧ fs.length ≤ n1 ∧ ms.length ≤ n2
section
variable {a l1 l2 : Addr} {H H' H'' : Hp} {z z' : Int} {k : Nat} {most : Int} {sts : List Stk} {n1 n2 : Nat}
theorem HI.keep (h : HI a l1 l2 H H' z k most sts n1 n2) (d1 : l1 ≠ a) (d2 : l2 ≠ a) (kp : Keep a H' H'') (p : PotAt H'' a z') : HI a l1 l2 H H'' z' k most sts n1 n2 := by
  obtain ⟨fs, ms, x1, x2, r⟩ := h.ex
  have t := h.pot.tups kp
  exact ⟨p, h.kp.trans kp, fs, ms, x1.keep d1 kp t, x2.keep d2 kp t, r⟩
theorem HI.same (h : HI a l1 l2 H H' z k most sts n1 n2) (kp : Same H' H'') : HI a l1 l2 H H'' z k most sts n1 n2 := by
  obtain ⟨fs, ms, x1, x2, r⟩ := h.ex
  exact ⟨h.pot.same kp, h.kp.trans (sKeep kp), fs, ms, x1.same kp, x2.same kp, r⟩
theorem HI.le (h : HI a l1 l2 H H' z k most sts n1 n2) {y : Int} {m1 m2 : Nat} (hz : z ≤ y) (h1 : n1 ≤ m1) (h2 : n2 ≤ m2) : HI a l1 l2 H H' y k most sts m1 m2 := by
  obtain ⟨fs, ms, x1, x2, x3, x4, x5, x6, x7, x8⟩ := h.ex
  exact ⟨h.pot.le hz, h.kp, fs, ms, x1, x2, x3, x4, x5, x6, Nat.le_trans x7 h1, Nat.le_trans x8 h2⟩
theorem lst_other {l m : Addr} {x : V} {acc : List V} {ds : List PyData} (hm : H' m = some (.lst acc)) (n : l ≠ m) (h : LstAt H' l ds) : LstAt (upd H' m (.lst (acc ++ [x]))) l ds := by
  obtain ⟨xs, e, f⟩ := h
  exact ⟨xs, by rw [upd_ne n]; exact e, f.mv (tups_lst hm)⟩
theorem HI.fact (h : HI a l1 l2 H H' z k most sts n1 n2) (d1 : l1 ≠ a) (i1 : H l1 = none) (d : l1 ≠ l2) {x : V} {f : Fact} (hx : Fz H' x (eF f)) (ok : HeardOk k most sts f) (na : ∀ s t, f ≠ .as_ s t) (hn : n1 ≤ 10000) :
    ∃ acc, H' l1 = some (.lst acc) ∧ acc.length < sizeLine ∧ HI a l1 l2 H (upd H' l1 (.lst (acc ++ [x]))) z k most sts (n1 + 1) n2 := by
  obtain ⟨fs, ms, ⟨acc, e, fz⟩, x2, x3, x4, x5, x6, x7, x8⟩ := h.ex
  refine ⟨acc, e, ?_, h.pot.upd_ne d1, keep_upd h.kp i1, fs ++ [f], ms, ⟨_, upd_same, FzAll.mv (tups_lst e) ?_⟩, lst_other e d.symm x2, fun g hg => ?_, fun g hg => ?_, x5, x6, by rw [List.length_append, List.length_singleton]; omega, x8⟩
  · rw [fz.len, List.length_map]
    exact Nat.lt_of_le_of_lt (Nat.le_trans x7 hn) (by decide)
  · rw [List.map_append]
    exact fz.snoc hx
  · rcases List.mem_append.mp hg with y | y
    · exact x3 g y
    · rw [List.mem_singleton.mp y]
      exact ok
  · rcases List.mem_append.mp hg with y | y
    · exact x4 g y
    · rw [List.mem_singleton.mp y]
      exact na
theorem HI.met (h : HI a l1 l2 H H' z k most sts n1 n2) (d2 : l2 ≠ a) (i2 : H l2 = none) (d : l1 ≠ l2) {x : V} {m : Stn} (hx : Fz H' x (eS m)) (ok : MetOk k most sts m) (hn : n2 ≤ 10000) :
    ∃ acc, H' l2 = some (.lst acc) ∧ acc.length < sizeLine ∧ HI a l1 l2 H (upd H' l2 (.lst (acc ++ [x]))) z k most sts n1 (n2 + 1) := by
  obtain ⟨fs, ms, x1, ⟨acc, e, fz⟩, x3, x4, x5, x6, x7, x8⟩ := h.ex
  refine ⟨acc, e, ?_, h.pot.upd_ne d2, keep_upd h.kp i2, fs, ms ++ [m], lst_other e d x1, ⟨_, upd_same, FzAll.mv (tups_lst e) ?_⟩, x3, x4, by simp, fun g hg => ?_, x7, by rw [List.length_append, List.length_singleton]; omega⟩
  · rw [fz.len, List.length_map]
    exact Nat.lt_of_le_of_lt (Nat.le_trans x8 hn) (by decide)
  · rw [List.map_append]
    exact fz.snoc hx
  · rcases List.mem_append.mp hg with y | y
    · exact x6 g y
    · rw [List.mem_singleton.mp y]
      exact ok
end
end GD
namespace K73
open PySem PySem.Spec PyProof.Rows L2 GD
section
variable {P : Program} {w : World} {K : PySem.W.Frag} {mg : Str → Option Value} {base : Heap}
/-- the drawer's small defs, where they stand -/
structure Small1 (K : PySem.W.Frag) (mg : Str → Option Value) : Prop where
  ta : TxtA mg
  all : mg "all" = none
  tup : mg "tuple" = none
  sum : mg "sum" = none
  zip : mg "zip" = none
structure At (K : PySem.W.Frag) (mg : Str → Option Value) (x : Str) (st : Stmt) (ps : List Str) (f : Addr) (fd : FuncData) : Prop where
  F : Fun K x x st f fd
  g : mg x = some (.ref f)
  b : Binds K fd ps []
abbrev NH : List Str := ["_law_pot_here", "_law_jobs_here", "_law_stocks", "_law_days", "_law_most", "_law_facts", "_law_met", "_law_day", "_law_standing_here", "_law_lap", "_law_behind_here", "_law_is_let"]
theorem scH : FnScope NH ["_law_pot_here", "_law_jobs_here", "_law_stocks", "_law_days", "_law_most"] (defScope sHeardFacts) := ⟨rfl, rfl, rfl, by decide +kernel, rfl, by decide +kernel, by decide +kernel⟩
theorem ok_heard {f fT fO fF fB fC fE fV fL : Addr} {fd fdT fdO fdF fdB fdC fdE fdV fdL : FuncData} (F : Fun K "_law_heard_facts" "_law_heard_facts" sHeardFacts f fd) (S : Small1 K mg)
    (AT : At K mg "_law_take" sTake ["_law_pot_here", "_law_upto"] fT fdT) (AO : At K mg "_law_of" sOf ["_law_pot_here", "_law_some_here"] fO fdO) (AF : At K mg "_law_first" sFirst ["_law_jobs_here"] fF fdF)
    (AB : At K mg "_law_behind" sBehind ["_law_jobs_here", "_law_standing_here", "_law_event"] fB fdB) (AC : At K mg "_law_can_come" sCanCome ["_law_jobs_here", "_law_standing_here", "_law_event"] fC fdC)
    (AE : At K mg "_law_events" sEvents ["_law_jobs_here", "_law_standing_here"] fE fdE) (AV : At K mg "_law_level" sLevel ["_law_stock_here", "_law_standing_here"] fV fdV) (AL : At K mg "_law_lets" sLets ["_law_stocks", "_law_standing_here"] fL fdL) :
    FnOk P w K mg base CX0 4 f fd ["_law_pot_here", "_law_jobs_here", "_law_stocks", "_law_days", "_law_most"] spHeard := by
  have GT : FnOk P w K mg base CX0 1 fT fdT ["_law_pot_here", "_law_upto"] spTake := ok_take AT.F S.ta
  have GO : FnOk P w K mg base CX0 2 fO fdO ["_law_pot_here", "_law_some_here"] (spOf K) := ok_of AO.F S.ta AT.F AT.g AT.b
  have GF : FnOk P w K mg base CX0 1 fF fdF ["_law_jobs_here"] (spFirst K) := ok_first AF.F S.tup
  have GB : FnOk P w K mg base CX0 1 fB fdB ["_law_jobs_here", "_law_standing_here", "_law_event"] (spBehind K) := ok_behind AB.F
  have GE : FnOk P w K mg base CX0 3 fE fdE ["_law_jobs_here", "_law_standing_here"] (spEvents K) := ok_events AE.F S.all AB.F AB.g AB.b AC.F AC.g AC.b
  have GL : FnOk P w K mg base CX0 2 fL fdL ["_law_stocks", "_law_standing_here"] (spLets K) := ok_lets AL.F S.all S.sum S.zip AV.F AV.g AV.b
  refine F.ok scH (fun vs H Q E h => ?_) (fun cdv A outer s H vs Q E hr h => ?_)
  · obtain ⟨a, lj, ls, days, most, js, sts, z, rfl, _⟩ := h
    rfl
  · obtain ⟨a, lj, ls, days, most, js, sts, z, rfl, hp, hz, hja, hsa, hj, hs, hst, hs100, hj1, hj10, hd10, hm1, hm30, k⟩ := h
    have hr1 : Room 1 _ := hr.mono (by decide)
    have hr2 : Room 2 _ := hr.mono (by decide)
    refine ⟨_, pss_cons (ps_par (i := 5) (j := 6) rfl scH.nd rfl rfl (by decide) rfl rfl (pa_cons (pe_lst pa_nil) (pa_cons (pe_lst (pa_cons (pe_call GF hr1 rfl AF.g AF.F.kp AF.b .nil pass0 (pa_cons (pv 1) pa_nil)) pa_nil)) pa_nil)) (by rfl))
      (pss_cons (ps_for PassesOwn.never rfl (pi_range1 (by rfl) S.ta.range (pa_cons (pv 3) pa_nil)) (pg_name (i := 7) scH.nd rfl (.inl rfl))
        (pss_cons (ps_set (i := 8) scH.nd rfl (.inl rfl) (pe_call GF hr1 rfl AF.g AF.F.kp AF.b .nil pass0 (pa_cons (pv 1) pa_nil)))
        (pss_one (ps_for PassesOwn.never rfl (pi_range1 (by rfl) S.ta.range (pa_cons (pe_op op_add pe_int (pe_call GT hr1 rfl AT.g AT.F.kp AT.b .nil pass0 (pa_cons (pv 0) (pa_cons (pv 4) pa_nil)))) pa_nil)) (pg_name (i := 9) scH.nd rfl (.inl rfl))
          (pss_cons (ps_set (i := 10) scH.nd rfl (.inl rfl) (pe_call GB hr1 rfl AB.g AB.F.kp AB.b .nil pass0 (pa_cons (pv 1) (pa_cons (pv 8) (pa_cons (pe_call GO hr2 rfl AO.g AO.F.kp AO.b .nil pass0 (pa_cons (pv 0) (pa_cons (pe_call GE hr rfl AE.g AE.F.kp AE.b .nil pass0 (pa_cons (pv 1) (pa_cons (pv 8) pa_nil))) pa_nil))) pa_nil)))))
          (pss_cons (ps_set (i := 11) scH.nd rfl (.inl rfl) (pe_call GL hr2 rfl AL.g AL.F.kp AL.b .nil pass0 (pa_cons (pv 2) (pa_cons (pv 10) pa_nil))))
          (pss_cons (ps_expr (pe_bm PySem.F.plainAttrs_list PySem.F.slot_list_append PySem.F.type_list_append mt_append (pv 5) (pa_cons (pe_tup (pa_cons (pe_ifExp (pt_val (pv 11)) pe_str pe_str) (pa_cons (pv 10) pa_nil))) pa_nil)))
          (pss_one (ps_if (pt_val (pv 11)) (pss_cons (ps_set (i := 8) scH.nd rfl (.inl rfl) (pv 10)) (pss_one (ps_expr (pe_bm PySem.F.plainAttrs_list PySem.F.slot_list_append PySem.F.type_list_append mt_append (pv 6) (pa_cons (pv 10) pa_nil))))) pss_nil)))))))))
      (pss_one (ps_ret (pe_tup (pa_cons (pv 5) (pa_cons (pv 6) pa_nil)))))), ?_⟩
    obtain ⟨xj, ej, fj⟩ := id hj
    have lxj : xj.length = js.length := by rw [fj.len, List.length_map]
    refine ⟨by decide, fun l1 n1 => ?_⟩
    have s1 := same_new (o := .lst []) n1
    refine ⟨_, rfl, lj, xj, rfl, SqL.of (s1 _ _ ej), by omega, fun v Hf sf ff => ?_⟩
    rw [lxj] at ff
    refine ⟨(by show 1 ≤ sizeLine; decide), fun l2 n2 => ?_⟩
    have s2 := same_new (o := .lst [v]) n2
    have i2 : H l2 = none := s1.free (sf.free n2)
    have d12 : l1 ≠ l2 := ne_of_none (sf _ _ upd_same) n2
    have d1 : l1 ≠ a := hp.ne n1
    have d2 : l2 ≠ a := hp.ne i2
    have h0 : HI a l1 l2 H (upd Hf l2 (.lst [v])) z js.length most sts 0 1 := ⟨hp.same ((s1.trans sf).trans s2), sKeep ((s1.trans sf).trans s2), [], [List.replicate js.length (0, 0)], ⟨[], s2 _ _ (sf _ _ upd_same), .nil⟩, ⟨[v], upd_same, .cons (ff.same s2) .nil⟩,
      fun _ h => (nomatch h), fun _ h => (nomatch h), by simp, fun m hm => by
        rw [List.mem_singleton.mp hm]
        exact ⟨List.length_replicate, bd_first.le (by omega), lets_first fun st h => (hst st h).1⟩, Nat.le_refl _, Nat.le_refl _⟩
    refine ⟨_, _, rfl, _, rfl, days, rfl, by omega, by omega, for_range (lo := 0) (n := days) (fun d σ H' => ∃ x7 x8 x9 x10 x11 : Option V, σ = [some (.ref a), some (.ref lj), some (.ref ls), some (.int days), some (.int most), some (.ref l1), some (.ref l2), x7, x8, x9, x10, x11] ∧
      HI a l1 l2 H H' (z + 31 * (d : Nat)) js.length most sts (d * most) (1 + d * most)) ⟨none, none, none, none, none, rfl, h0.le (by omega) (by omega) (by omega)⟩ ?_ ?_⟩
    · rintro d σ H' hd ⟨x7, x8, x9, x10, x11, rfl, hi⟩
      have ejd := hi.kp _ _ hja ej
      refine ⟨_, rfl, lj, xj, rfl, SqL.of ejd, by omega, fun v2 H2 s3 f2 => ?_⟩
      rw [lxj] at f2
      have hi2 := hi.same s3
      refine ⟨_, rfl, _, rfl, a, most, _, rfl, hi2.pot, by omega, by omega, by omega, fun m H3 m0 m1 p3 k3 => ?_⟩
      have hi3 := hi2.keep d1 d2 k3 p3
      obtain ⟨n, hn⟩ := Int.eq_ofNat_of_zero_le (show 0 ≤ 1 + m by omega)
      have f3 := f2.mv (hi2.pot.tups k3)
      refine ⟨_, _, rfl, rfl, 1 + m, rfl, by omega, by omega, ?_⟩
      rw [hn, Int.toNat_natCast]
      generalize hD : d * most = D at hi3
      have hD2 : (d + 1) * most = D + most := by rw [Nat.succ_mul, hD]
      have hD9 : D ≤ 300 := by
        rw [← hD]
        exact Nat.le_trans (Nat.mul_le_mul (show d ≤ 10 by omega) hm30) (by decide)
      refine for_range (lo := 0) (n := n) (fun i σ H' => ∃ (sv : V) (s : Stn) (y7 y9 y10 y11 : Option V), σ = [some (.ref a), some (.ref lj), some (.ref ls), some (.int days), some (.int most), some (.ref l1), some (.ref l2), y7, some sv, y9, y10, y11] ∧
        HI a l1 l2 H H' (z + 31 * (d : Nat) + 1 + (i : Nat)) js.length most sts (D + i) (1 + D + i) ∧ Fz H' sv (eS s) ∧ s.length = js.length ∧ Bd (i : Nat) s) ⟨v2, _, _, _, _, _, rfl, hi3.le (by omega) (by omega) (by omega), f3, List.length_replicate, bd_first⟩ ?_ ?_
      · rintro i σ H4 hin ⟨sv, sn, y7, y9, y10, y11, rfl, h4, f4, l4, b4⟩
        have t4 := hp.tups h4.kp
        have hj4 := hj.keep hja h4.kp t4
        have hs4 := hs.keep hsa h4.kp t4
        refine ⟨_, rfl, _, rfl, _, rfl, _, rfl, _, rfl, lj, sv, js, sn, rfl, hj4, f4, l4, hj10, fun p He se np le => ?_⟩
        obtain ⟨xe, ee, fe⟩ := le
        have nes := events_some (names := js.map (·.1)) b4 (by omega) (fun z => by have z2 := congrArg List.length z; rw [List.length_map] at z2; have z3 : js.length = 0 := z2; omega) (by rw [l4, List.length_map])
        have lxe : xe.length ≤ 20 := by
          rw [fe.len, List.length_map]
          refine Nat.le_trans (List.length_filter_le _ _) ?_
          rw [evs_len, List.length_map]
          omega
        refine ⟨a, p, xe, _, rfl, h4.pot.same se, by omega, h4.pot.ne np, ee, ?_, by omega, fun ev H5 hv p5 k5 => ?_⟩
        · intro z
          rw [z] at fe
          have z2 := fe.len
          rw [List.length_map] at z2
          exact nes (List.eq_nil_of_length_eq_zero z2.symm)
        obtain ⟨de, hde, fde⟩ := Fz.has fe hv
        obtain ⟨e, hme, rfl⟩ := List.mem_map.mp hde
        obtain ⟨hme1, hcan⟩ := List.mem_filter.mp hme
        have tE := (tups_same se).trans ((h4.pot.same se).tups k5)
        have h5 := (h4.same se).keep d1 d2 k5 p5
        have t5 := hp.tups h5.kp
        have hem := event_job hme1
        have hix : ixOf (js.map (·.1)) e.2 < sn.length := by
          rw [l4, ← List.length_map (f := (·.1))]
          exact ixOf_lt hem
        refine ⟨lj, sv, ev, js, sn, e, rfl, hj.keep hja h5.kp t5, f4.mv tE, fde.mv ((h4.pot.same se).tups k5), l4, hj10, hem, fun bv H6 s6 f6 => ?_⟩
        have h6 := h5.same s6
        have b6 := bd_beh b4 hix hcan
        have l6 : (behS (js.map (·.1)) sn e).length = js.length := by rw [behS_len hix, l4]
        have t6 := hp.tups h6.kp
        generalize behS (js.map (·.1)) sn e = sn' at f6 b6 l6
        refine ⟨_, rfl, _, rfl, ls, bv, sts, sn', rfl, hs.keep hsa h6.kp t6, f6, fun st h => by rw [(hst st h).2, l6], by omega, hs100, b6.small (by omega), fun H7 s7 => ?_⟩
        have h7 := h6.same s7
        have f7 := f6.same s7
        have b7 : Bd most sn' := b6.le (by omega)
        cases hc : letsS sts sn' with
        | true =>
          obtain ⟨acc1, ea1⟩ : ∃ acc, H7 l1 = some (.lst acc) := by
            obtain ⟨fs, ms, ⟨acc, e, _⟩, _⟩ := h7.ex
            exact ⟨acc, e⟩
          refine ⟨_, rfl, .inl ⟨rfl, _, SqL.of ea1⟩, ?_⟩
          refine ⟨_, rfl, true, rfl, ?_⟩
          refine iteT ?_
          refine ⟨_, rfl, (by show 2 ≤ sizeLine; decide), fun t ht => ?_⟩
          have st := same_new (o := .tup [.str "let", bv]) ht
          obtain ⟨acc, ea, la, h8⟩ := (h7.same st).fact d1 n1 d12 (x := .ref t) (f := .let_ sn') (.tup upd_same (.cons (.str _) (.cons (f7.same st) .nil))) ⟨l6, b7, hc⟩ (fun _ _ z => by cases z) (by omega)
          refine ⟨l1, acc, _, rfl, rfl, ea, la, ?_⟩
          have f8 := (f7.same st).mv (tups_lst (o := .lst (acc ++ [.ref t])) ea)
          refine ⟨_, rfl, true, rfl, ?_⟩
          refine iteT ?_
          obtain ⟨acc2, ea2, la2, h9⟩ := h8.met d2 i2 d12 f8 ⟨l6, b7, hc⟩ (by omega)
          refine ⟨_, rfl, _, rfl, .inl ⟨rfl, _, SqL.of ea2⟩, _, rfl, l2, acc2, _, rfl, rfl, ea2, la2, ?_⟩
          exact ⟨_, sn', _, _, _, _, rfl, h9.le (by omega) (by omega) (by omega), f8.mv (tups_lst ea2), l6, b6⟩
        | false =>
          obtain ⟨acc1, ea1⟩ : ∃ acc, H7 l1 = some (.lst acc) := by
            obtain ⟨fs, ms, ⟨acc, e, _⟩, _⟩ := h7.ex
            exact ⟨acc, e⟩
          refine ⟨_, rfl, .inl ⟨rfl, _, SqL.of ea1⟩, ?_⟩
          refine ⟨_, rfl, false, rfl, ?_⟩
          refine iteF ?_
          refine ⟨_, rfl, (by show 2 ≤ sizeLine; decide), fun t ht => ?_⟩
          have st := same_new (o := .tup [.str "not", bv]) ht
          obtain ⟨acc, ea, la, h8⟩ := (h7.same st).fact d1 n1 d12 (x := .ref t) (f := .not_ sn') (.tup upd_same (.cons (.str _) (.cons (f7.same st) .nil))) ⟨l6, b7, hc⟩ (fun _ _ z => by cases z) (by omega)
          refine ⟨l1, acc, _, rfl, rfl, ea, la, ?_⟩
          refine ⟨_, rfl, false, rfl, ?_⟩
          refine iteF ?_
          exact ⟨sv, sn, _, _, _, _, rfl, h8.le (by omega) (by omega) (by omega), (((f4.mv tE).same s6).same s7).mv ((tups_same st).trans (tups_lst ea)), l4, b4.le (by omega)⟩
      · rintro σ H4 ⟨sv, sn, y7, y9, y10, y11, rfl, h4, f4, l4, b4⟩
        exact ⟨_, _, _, _, _, rfl, h4.le (by omega) (by omega) (by omega)⟩
    · rintro σ H' ⟨x7, x8, x9, x10, x11, rfl, hi⟩
      refine ⟨_, rfl, _, rfl, (by show 2 ≤ sizeLine; decide), fun t ht => ?_⟩
      have st := same_new (o := .tup [.ref l1, .ref l2]) ht
      have hF := hi.same st
      obtain ⟨fs, ms, x1, x2, x3, x4, x5, x6, x7, x8⟩ := hF.ex
      exact k t l1 l2 fs ms _ (hF.pot.le (by omega)) hF.kp n1 i2 d12 upd_same x1 x2 x3 x4 x5 x6 x7 x8
end
end K73
namespace GD
open PySem PySem.Spec PyProof.Rows L2
end GD
namespace K73
open PySem PySem.Spec PyProof.Rows L2 GD
section
variable {P : Program} {w : World} {K : PySem.W.Frag} {mg : Str → Option Value} {base : Heap}
abbrev NA : List Str := ["_law_pot_here", "_law_stocks", "_law_met", "_law_many", "_law_found", "_law_lap", "_law_one", "_law_other", "_law_is_same", "_law_stock_here"]
theorem scA : FnScope NA ["_law_pot_here", "_law_stocks", "_law_met", "_law_many"] (defScope sAlikeFacts) := ⟨rfl, rfl, rfl, by decide +kernel, rfl, by decide +kernel, by decide +kernel⟩
theorem ok_alike {f fO fV fT : Addr} {fd fdO fdV fdT : FuncData} (F : Fun K "_law_alike_facts" "_law_alike_facts" sAlikeFacts f fd) (S : Small1 K mg)
    (AT : At K mg "_law_take" sTake ["_law_pot_here", "_law_upto"] fT fdT) (AO : At K mg "_law_of" sOf ["_law_pot_here", "_law_some_here"] fO fdO) (AV : At K mg "_law_level" sLevel ["_law_stock_here", "_law_standing_here"] fV fdV) :
    FnOk P w K mg base CX0 3 f fd ["_law_pot_here", "_law_stocks", "_law_met", "_law_many"] spAlike := by
  have GO : FnOk P w K mg base CX0 2 fO fdO ["_law_pot_here", "_law_some_here"] (spOf K) := ok_of AO.F S.ta AT.F AT.g AT.b
  have GV : FnOk P w K mg base CX0 1 fV fdV ["_law_stock_here", "_law_standing_here"] (spLevel K) := ok_level AV.F S.sum S.zip
  refine F.ok scA (fun vs H Q E h => ?_) (fun cdv A outer s H vs Q E hr h => ?_)
  · obtain ⟨a, ls, lm, many, sts, ms, k, n, z, rfl, _⟩ := h
    rfl
  · obtain ⟨a, ls, lm, many, sts, ms, k, n, z, rfl, hp, hz, hsa, hma, hs, hm, hst, hk, hn, hs100, hm0, hm900, hmm, hmy, q⟩ := h
    have hr1 : Room 1 _ := hr.mono (by decide)
    have hr2 : Room 2 _ := hr.mono (by decide)
    refine ⟨_, pss_cons (ps_set (i := 4) scA.nd rfl (.inl rfl) (pe_lst pa_nil))
      (pss_cons (ps_for PassesOwn.never rfl (pi_range1 (by rfl) S.ta.range (pa_cons (pv 3) pa_nil)) (pg_name (i := 5) scA.nd rfl (.inl rfl))
        (pss_cons (ps_asg (pe_tup (pa_cons (pe_call GO hr2 rfl AO.g AO.F.kp AO.b .nil pass0 (pa_cons (pv 0) (pa_cons (pv 2) pa_nil))) (pa_cons (pe_call GO hr2 rfl AO.g AO.F.kp AO.b .nil pass0 (pa_cons (pv 0) (pa_cons (pv 2) pa_nil))) pa_nil)))
            (pg_tup rfl (pgs_cons (pg_name (i := 6) scA.nd rfl (.inr rfl)) (pgs_cons (pg_name (i := 7) scA.nd rfl (.inr rfl)) pgs_nil))))
        (pss_cons (ps_set (i := 8) scA.nd rfl (.inl rfl) (pe_callB (cr_all rfl) (by rfl) S.all (by decide +kernel) (pa_cons (pe_lc (own := [("_law_stock_here", 9)]) (g := gName 9) (tt := tYes) rfl scA.nd (pi_list (pv 1)) (blkOk_by (N := NA) (sc := defScope sAlikeFacts) (by decide +kernel))
            (fun _ _ _ _ _ => pg_name (i := 9) scA.nd rfl (.inl rfl)) (fun _ _ _ _ _ => pts_nil)
            (fun _ _ _ _ _ => pe_cmpR op_eq (pe_call GV hr1 rfl AV.g AV.F.kp AV.b .nil pass0 (pa_cons (pv 9) (pa_cons (pv 6) pa_nil))) (pe_call GV hr1 rfl AV.g AV.F.kp AV.b .nil pass0 (pa_cons (pv 9) (pa_cons (pv 7) pa_nil))) (nomark _))) pa_nil)))
        (pss_one (ps_if (pw_and (pt_cmpR (op_neD hr.units) (pv 6) (pv 7) (nomark _)) (pw_and1 (pt_val (pv 8)))).pt
          (pss_one (ps_expr (pe_bm PySem.F.plainAttrs_list PySem.F.slot_list_append PySem.F.type_list_append mt_append (pv 4) (pa_cons (pe_tup (pa_cons pe_str (pa_cons (pv 6) (pa_cons (pv 7) pa_nil)))) pa_nil)))) pss_nil)))))
      (pss_one (ps_ret (pv 4)))), ?_⟩
    refine ⟨by decide, fun l1 n1 => ?_⟩
    have s1 := same_new (o := .lst []) n1
    have d1 : l1 ≠ a := hp.ne n1
    obtain ⟨xm, em, fm⟩ := id hm
    have lxm : xm.length = ms.length := by rw [fm.len, List.length_map]
    refine ⟨_, rfl, many, rfl, by omega, by omega, for_range (lo := 0) (n := many) (fun d σ H' => ∃ x5 x6 x7 x8 x9 : Option V, σ = [some (.ref a), some (.ref ls), some (.ref lm), some (.int many), some (.ref l1), x5, x6, x7, x8, x9] ∧
      PotAt H' a (z + 2 * (d : Nat)) ∧ Keep a H H' ∧ ∃ fs : List Fact, LstAt H' l1 (fs.map eF) ∧ (∀ f ∈ fs, HeardOk k n sts f) ∧ fs.length ≤ d) ⟨none, none, none, none, none, rfl, (hp.same s1).le (by omega), sKeep s1, [], ⟨[], upd_same, .nil⟩, fun _ h => (nomatch h), Nat.le_refl _⟩ ?_ ?_⟩
    · rintro d σ H' hd ⟨x5, x6, x7, x8, x9, rfl, hp1, k1, fs, ⟨xf, ef, ff⟩, hf, lf⟩
      have emd := k1 _ _ hma em
      have hx0 : xm ≠ [] := fun e => by
        rw [e] at lxm
        exact hm0 (List.eq_nil_of_length_eq_zero lxm.symm)
      refine ⟨_, rfl, _, rfl, a, lm, xm, _, rfl, hp1, by omega, hma, emd, hx0, by omega, fun v1 H1 hv1 p1 k2 => ?_⟩
      have em1 := k2 _ _ hma emd
      refine ⟨_, rfl, _, rfl, a, lm, xm, _, rfl, p1, by omega, hma, em1, hx0, by omega, fun v2 H2 hv2 p2 k3 => ?_⟩
      have t1 : Tups H H2 := (hp.tups k1).trans ((hp1.tups k2).trans (p1.tups k3))
      have k12 : Keep a H H2 := k1.trans (k2.trans k3)
      have ef2 := k3 _ _ d1 (k2 _ _ d1 ef)
      have ff2 := ff.mv ((hp1.tups k2).trans (p1.tups k3))
      obtain ⟨e1, he1, fe1⟩ := Fz.has fm hv1
      obtain ⟨m1, hm1, rfl⟩ := List.mem_map.mp he1
      obtain ⟨e2, he2, fe2⟩ := Fz.has fm hv2
      obtain ⟨m2, hm2, rfl⟩ := List.mem_map.mp he2
      obtain ⟨lm1, bm1⟩ := hmm m1 hm1
      obtain ⟨lm2, bm2⟩ := hmm m2 hm2
      refine ⟨(by show 2 ≤ sizeLine; decide), fun t ht => ?_⟩
      have st := same_new (o := .tup [v1, v2]) ht
      refine ⟨t, _, rfl, SqT.of upd_same, rfl, _, _, rfl, _, _, rfl, rfl, ?_⟩
      have kt : Keep a H (upd H2 t (.tup [v1, v2])) := k12.trans (sKeep st)
      have tt : Tups H (upd H2 t (.tup [v1, v2])) := t1.trans (tups_same st)
      have hst2 := hs.keep hsa kt tt
      have g1 := fe1.mv tt
      have g2 := fe2.mv tt
      have eft := st _ _ ef2
      have fft := ff2.mv (tups_same st)
      have pt := p2.same st
      generalize upd H2 t (.tup [v1, v2]) = H3 at kt tt hst2 g1 g2 eft fft pt
      obtain ⟨xs, es, fs3⟩ := hst2
      refine ⟨_, rfl, ls, rfl, ⟨_, SqL.of es⟩, fun D hD => ?_⟩
      refine lc_list (K := K) (a := ls) (xs := xs) (fun i H' => Same H3 H' ∧ H' D = some (.lst (((sts.take i).map fun st => decide (levelS st m1 = levelS st m2)).map V.bl))) ⟨same_new hD, upd_same⟩ (fun i H' _ ⟨s1, _⟩ => SqL.of (s1 _ _ es)) ?_ ?_
      · rintro i x H' hx ⟨sa, eD⟩
        obtain ⟨st, hst', fst'⟩ := fs3.atM hx
        have hlt : i < sts.length := (List.getElem?_eq_some_iff.mp hst').1
        have lst := hst st (List.mem_of_getElem? hst')
        refine ⟨rfl, _, rfl, _, rfl, x, v1, st, m1, rfl, fst'.same sa, g1.same sa, by omega, by omega, bm1.small hn, fun Ha s2 => ?_⟩
        refine ⟨_, rfl, _, rfl, x, v2, st, m2, rfl, (fst'.same sa).same s2, (g2.same sa).same s2, by omega, by omega, bm2.small hn, fun Hb s3 => ⟨rfl, ?_⟩⟩
        refine ⟨_, s3 _ _ (s2 _ _ eD), ?_, same_upd ((sa.trans s2).trans s3) hD, ?_⟩
        · rw [List.length_map, List.length_map, List.length_take]
          exact Nat.lt_of_le_of_lt (Nat.min_le_left _ _) (Nat.lt_of_lt_of_le (show i < 101 by omega) (by decide))
        · rw [upd_same, GD.take_next hst', List.map_append, List.map_append]
          simp only [List.map_cons, List.map_nil, V.int.injEq]
      · rintro H4 ⟨s4, eD⟩
        refine ⟨D, _, rfl, SqL.of eD, ?_⟩
        rw [fs3.len, List.length_map, List.take_length, List.all_map]
        have pt4 := pt.same s4
        have kt4 := kt.trans (sKeep s4)
        have g14 := g1.same s4
        have g24 := g2.same s4
        have ef4 := s4 _ _ eft
        have ff4 := fft.same s4
        refine ⟨_, rfl, _, rfl, eS m1, eS m2, g14.dp, g24.dp, shape_eS _, shape_eS _, ?_⟩
        cases he : PyData.eqv (eS m1) (eS m2) with
        | true =>
          refine ⟨_, rfl, ?_⟩
          exact ⟨_, _, _, _, _, rfl, pt4.le (by omega), kt4, fs, ⟨xf, ef4, ff4⟩, hf, by omega⟩
        | false =>
          refine ⟨_, rfl, ?_⟩
          refine iteT ?_
          refine ⟨_, rfl, _, rfl, ?_⟩
          cases hb : (sts.all (id ∘ fun st => decide (levelS st m1 = levelS st m2))) with
          | false =>
            refine iteF ?_
            exact ⟨_, _, _, _, _, rfl, pt4.le (by omega), kt4, fs, ⟨xf, ef4, ff4⟩, hf, by omega⟩
          | true =>
            refine iteT ?_
            refine ⟨_, rfl, .inl ⟨rfl, _, SqL.of ef4⟩, ?_⟩
            refine ⟨_, rfl, _, rfl, (by show 3 ≤ sizeLine; decide), fun u hu => ?_⟩
            have su := same_new (o := .tup [.str "as", v1, v2]) hu
            have lxf : xf.length = fs.length := by rw [ff.len, List.length_map]
            refine ⟨l1, xf, _, rfl, rfl, su _ _ ef4, Nat.lt_of_lt_of_le (show xf.length < 100 by omega) (by decide), ?_⟩
            refine ⟨_, _, _, _, _, rfl, ((pt4.same su).upd_ne d1).le (by omega), keep_upd (kt4.trans (sKeep su)) n1, fs ++ [.as_ m1 m2], ⟨_, upd_same, FzAll.mv (tups_lst (su _ _ ef4)) ?_⟩, fun g hg => ?_, by rw [List.length_append, List.length_singleton]; omega⟩
            · rw [List.map_append]
              exact (ff4.same su).snoc (.tup upd_same (.cons (.str _) (.cons (g14.same su) (.cons (g24.same su) .nil))))
            · rcases List.mem_append.mp hg with y | y
              · exact hf g y
              · rw [List.mem_singleton.mp y]
                refine ⟨lm1, bm1, lm2, bm2, fun e => ?_, fun st hst => ?_⟩
                · exact ne_of_eqv (shape_eS m1) he (by rw [e])
                · exact of_decide_eq_true (List.all_eq_true.mp hb st hst)
    · rintro σ H' ⟨x5, x6, x7, x8, x9, rfl, hp1, k1, fs, xf, hf, lf⟩
      exact ⟨_, rfl, q l1 fs H' n1 hp1 k1 xf hf lf⟩
end
end K73
namespace GD
open PySem PySem.Spec PyProof.Rows L2
theorem u65 {k : Nat} {A : Around} (r : Room k A) : A.units + 65 < cLine := by
  have := r.un
  omega
theorem u1 {k : Nat} {A : Around} (r : Room k A) : A.units + 1 < cLine := by
  have := r.un
  omega
def one3 (f : Fact) (x : Str) : Nat := if kindS f = x then 1 else 0
theorem cnt_snoc (x : Str) (gs : List Fact) (f : Fact) : cnt x (gs ++ [f]) = cnt x gs + one3 f x := by
  unfold cnt one3
  rw [List.filter_append, List.length_append]
  by_cases h : kindS f = x
  · rw [if_pos h, List.filter_cons, if_pos (decide_eq_true h)]
    rfl
  · rw [if_neg h, List.filter_cons, if_neg (by simp [h])]
    rfl
def sel3 : Fact → Int → Int → Int → Int
  | .let_ _, a, _, _ => a
  | .not_ _, _, b, _ => b
  | .as_ _ _, _, _, c => c
theorem dk3_get (f : Fact) (a b c : Int) : valV (dk3 a b c) (.inr (kindS f)) = some (.int (sel3 f a b c)) := by
  cases f <;> rfl
theorem dk3_put (f : Fact) (a b c : Int) : putK (dk3 a b c) (.inr (kindS f)) (.int (sel3 f a b c - 1)) = dk3 (a - one3 f "let") (b - one3 f "not") (c - one3 f "as") := by
  have e1 : (kindS (.let_ []) : Str) = "let" := rfl
  cases f with
  | let_ s =>
    rw [show one3 (.let_ s) "let" = 1 from rfl, show one3 (.let_ s) "not" = 0 from rfl, show one3 (.let_ s) "as" = 0 from rfl, Int.natCast_zero, Int.sub_zero, Int.sub_zero]
    rfl
  | not_ s =>
    rw [show one3 (.not_ s) "let" = 0 from rfl, show one3 (.not_ s) "not" = 1 from rfl, show one3 (.not_ s) "as" = 0 from rfl, Int.natCast_zero, Int.sub_zero, Int.sub_zero]
    rfl
  | as_ s t =>
    rw [show one3 (.as_ s t) "let" = 0 from rfl, show one3 (.as_ s t) "not" = 0 from rfl, show one3 (.as_ s t) "as" = 1 from rfl, Int.natCast_zero, Int.sub_zero, Int.sub_zero]
    rfl
theorem Fz.fact {H : Hp} {v : V} {f : Fact} (h : Fz H v (eF f)) : ∃ b r, v = .ref b ∧ H b = some (.tup (.str (kindS f) :: r)) := by
  cases f with
  | let_ s =>
    obtain ⟨b, x, y, rfl, hb, h1, h2⟩ := h.t2
    obtain rfl := h1.s
    exact ⟨b, _, rfl, hb⟩
  | not_ s =>
    obtain ⟨b, x, y, rfl, hb, h1, h2⟩ := h.t2
    obtain rfl := h1.s
    exact ⟨b, _, rfl, hb⟩
  | as_ s t =>
    obtain ⟨b, x, y, z, rfl, hb, h1, h2⟩ := h.t3
    obtain rfl := h1.s
    exact ⟨b, _, rfl, hb⟩
theorem LstAt.dp {K : PySem.W.Frag} {H : Hp} {l : Addr} {ds : List PyData} (h : LstAt H l ds) : Dp K H (.ref l) (.list ds) := by
  obtain ⟨xs, e, f⟩ := h
  exact .lst (SqL.of e) f.dp
theorem new_fact {gs : List Fact} {f : Fact} (h : ((gs.map eF).any fun z => PyData.eqv z (eF f)) = false) : f ∉ gs := fun m => by
  have z := List.any_eq_false.mp h (eF f) (List.mem_map_of_mem m)
  exact z (eqv_self (shape_eF f))
theorem at0 {x : V} {r : List V} : atI (x :: r) 0 = some x := atI_nat (j := 0) rfl
structure FI (l r : Addr) (H H' : Hp) (x y w : Nat) (fs gs : List Fact) (n : Nat) : Prop where
  sm : Same H H'
  ls : LstAt H' l (gs.map eF)
  dk : H' r = some (.dK (dk3 ((x : Int) - cnt "let" gs) ((y : Int) - cnt "not" gs) ((w : Int) - cnt "as" gs)))
  nd : gs.Nodup
  mem : ∀ g ∈ gs, g ∈ fs
  a : cnt "let" gs ≤ x
  b : cnt "not" gs ≤ y
  c : cnt "as" gs ≤ w
  len : gs.length ≤ n
theorem sel_room {f : Fact} {a b c : Int} (h : 0 < sel3 f a b c) (ha : 0 ≤ a) (hb : 0 ≤ b) (hc : 0 ≤ c) : (one3 f "let" : Int) ≤ a ∧ (one3 f "not" : Int) ≤ b ∧ (one3 f "as" : Int) ≤ c := by
  cases f with
  | let_ s =>
    rw [show one3 (.let_ s) "let" = 1 from rfl, show one3 (.let_ s) "not" = 0 from rfl, show one3 (.let_ s) "as" = 0 from rfl]
    exact ⟨h, hb, hc⟩
  | not_ s =>
    rw [show one3 (.not_ s) "let" = 0 from rfl, show one3 (.not_ s) "not" = 1 from rfl, show one3 (.not_ s) "as" = 0 from rfl]
    exact ⟨ha, h, hc⟩
  | as_ s t =>
    rw [show one3 (.as_ s t) "let" = 0 from rfl, show one3 (.as_ s t) "not" = 0 from rfl, show one3 (.as_ s t) "as" = 1 from rfl]
    exact ⟨ha, hb, h⟩
end GD
namespace K73
open PySem PySem.Spec PyProof.Rows L2 GD
section
variable {P : Program} {w : World} {K : PySem.W.Frag} {mg : Str → Option Value} {base : Heap}
abbrev NW : List Str := ["_law_facts", "_law_lets_here", "_law_nots", "_law_ases", "_law_found", "_law_room", "_law_fact"]
theorem scW : FnScope NW ["_law_facts", "_law_lets_here", "_law_nots", "_law_ases"] (defScope sFew) := ⟨rfl, rfl, rfl, by decide +kernel, rfl, by decide +kernel, by decide +kernel⟩
theorem ok_few {f : Addr} {fd : FuncData} (F : Fun K "_law_few" "_law_few" sFew f fd) : FnOk P w K mg base CX0 1 f fd ["_law_facts", "_law_lets_here", "_law_nots", "_law_ases"] spFew := by
  refine F.ok scW (fun vs H Q E h => ?_) (fun cdv A outer s H vs Q E hr h => ?_)
  · obtain ⟨lf, x, y, w, fs, rfl, _⟩ := h
    rfl
  · obtain ⟨lf, x, y, w, fs, rfl, hl, h5, q⟩ := h
    have hu := hr.un
    refine ⟨_, pss_cons (ps_par (i := 4) (j := 5) rfl scW.nd rfl rfl (by decide) rfl rfl (pa_cons (pe_lst pa_nil) (pa_cons (pe_disp (pps_cons pe_str (pv 1) (pps_cons pe_str (pv 2) (pps_cons pe_str (pv 3) pps_nil))) (by rfl) (by rfl) (fun z => by cases z) (by show 3 ≤ 15; decide)) pa_nil)) (by rfl))
      (pss_cons (ps_for PassesOwn.never rfl (pi_list (pv 0)) (pg_name (i := 6) scW.nd rfl (.inl rfl))
        (pss_one (ps_if (pw_and (pt_cmpR (op_notInD (u65 hr)) (pv 6) (pv 4) (by rfl)) (pw_and1 (pt_cmpR op_gt (pe_dget (u1 hr) (pv 5) (pe_ix ix_tup (pv 6) pe_int (fun _ _ => rfl)) (fun _ _ => rfl)) pe_int (nomark _)))).pt
          (pss_cons (ps_expr (pe_bm PySem.F.plainAttrs_list PySem.F.slot_list_append PySem.F.type_list_append mt_append (pv 4) (pa_cons (pv 6) pa_nil)))
          (pss_one (ps_dput (u1 hr) (pv 5) (pe_ix ix_tup (pv 6) pe_int (fun _ _ => rfl)) (pe_op op_sub (pe_dget (u1 hr) (pv 5) (pe_ix ix_tup (pv 6) pe_int (fun _ _ => rfl)) (fun _ _ => rfl)) pe_int) (by rfl)))) pss_nil)))
      (pss_one (ps_ret (pv 4)))), ?_⟩
    obtain ⟨xs, ef, ff⟩ := id hl
    have lxs : xs.length = fs.length := by rw [ff.len, List.length_map]
    refine ⟨by decide, fun l n1 => ?_⟩
    have s1 := same_new (o := .lst []) n1
    intro r n2
    have s2 := same_new (o := .dK []) n2
    have s2' := same_new (o := .dK (dk3 (x : Int) (y : Int) (w : Int))) n2
    refine ⟨_, rfl, _, rfl, _, rfl, upd_same, dk3 x y w, rfl, (by show 3 ≤ 15; decide), ?_⟩
    rw [upd_upd]
    refine ⟨_, _, rfl, ?_⟩
    have h0 : FI l r H (upd (upd H l (.lst [])) r (.dK (dk3 x y w))) x y w fs [] 0 := ⟨s1.trans s2', ⟨[], s2' _ _ upd_same, .nil⟩, by rw [upd_same]; show some (HO.dK (dk3 x y w)) = some (HO.dK (dk3 ((x : Int) - (0 : Nat)) ((y : Int) - (0 : Nat)) ((w : Int) - (0 : Nat)))); rw [Int.natCast_zero, Int.sub_zero, Int.sub_zero, Int.sub_zero], .nil, fun _ h => (nomatch h), Nat.zero_le _, Nat.zero_le _, Nat.zero_le _, Nat.le_refl _⟩
    have i2 : H r = none := s1.free n2
    have dlr : l ≠ r := ne_of_none upd_same n2
    refine ⟨_, rfl, lf, rfl, ⟨_, SqL.of (h0.sm _ _ ef)⟩, for_list (K := K) (a := lf) (xs := xs) (fun i σ H' => ∃ (x6 : Option V) (gs : List Fact), σ = [some (.ref lf), some (.int x), some (.int y), some (.int w), some (.ref l), some (.ref r), x6] ∧ FI l r H H' x y w fs gs i) ⟨none, [], rfl, h0⟩
      (fun i σ H' _ ⟨_, _, _, h⟩ => SqL.of (h.sm _ _ ef)) ?_ ?_⟩
    · rintro i v σ H' hi ⟨x6, gs, rfl, h⟩
      obtain ⟨f0, hf0, fz⟩ := ff.atM hi
      have hin : i < fs.length := (List.getElem?_eq_some_iff.mp hf0).1
      have fz2 := fz.same h.sm
      obtain ⟨b, rest, rfl, hb⟩ := fz2.fact
      have ea := h.a
      have eb := h.b
      have ec := h.c
      refine ⟨_, rfl, _, rfl, eF f0, gs.map eF, fz2.dp, h.ls.dp, shape_eF f0, shape_eFs gs, ?_⟩
      cases hc : ((gs.map eF).any fun z => PyData.eqv z (eF f0)) with
      | true =>
        refine ⟨_, rfl, ?_⟩
        exact ⟨_, gs, rfl, { h with len := Nat.le_succ_of_le h.len }⟩
      | false =>
        refine ⟨_, rfl, ?_⟩
        refine iteT ?_
        have dg := DGet.k (k := .inr (kindS f0)) h.dk
        rw [dk3_get] at dg
        refine ⟨_, rfl, _, rfl, b, _, 0, _, rfl, rfl, SqT.of hb, at0, r, _, rfl, dg, _, _, rfl, rfl, ?_⟩
        refine ⟨_, rfl, ?_⟩
        by_cases hs : 0 < sel3 f0 ((x : Int) - cnt "let" gs) ((y : Int) - cnt "not" gs) ((w : Int) - cnt "as" gs)
        · rw [decide_eq_true hs]
          refine iteT ?_
          obtain ⟨acc, eA, fA⟩ := h.ls
          obtain ⟨qa, qb, qc⟩ := sel_room hs (by omega) (by omega) (by omega)
          have lA : acc.length = gs.length := by rw [fA.len, List.length_map]
          have hlen := h.len
          refine ⟨_, rfl, .inl ⟨rfl, _, SqL.of eA⟩, ?_⟩
          refine ⟨_, rfl, l, acc, _, rfl, rfl, eA, Nat.lt_of_lt_of_le (show acc.length < 5001 by omega) (by decide), ?_⟩
          have e2 : (upd H' l (.lst (acc ++ [.ref b]))) r = H' r := upd_ne dlr.symm
          rw [h.dk] at e2
          have eb2 : (upd H' l (.lst (acc ++ [.ref b]))) b = some (.tup (.str (kindS f0) :: rest)) := tups_lst eA _ _ hb
          have dg2 := DGet.k (k := .inr (kindS f0)) e2
          rw [dk3_get] at dg2
          refine ⟨_, rfl, _, rfl, b, _, 0, _, rfl, rfl, SqT.of eb2, at0, r, _, rfl, dg2, _, _, rfl, rfl, ?_⟩
          refine ⟨_, rfl, _, rfl, b, _, 0, _, rfl, rfl, SqT.of eb2, at0, r, _, rfl, DPut.k (k := .inr (kindS f0)) e2 (by show 3 < sizeLine; decide), ?_⟩
          rw [dk3_put]
          refine ⟨_, gs ++ [f0], rfl, same_upd (same_upd h.sm n1) i2, ?_, ?_, ?_, fun g hg => ?_, ?_, ?_, ?_, ?_⟩
          · refine ⟨acc ++ [.ref b], by rw [upd_ne dlr]; exact upd_same, ?_⟩
            rw [List.map_append]
            exact (fA.snoc fz2).mv ((tups_lst eA).trans (tups_dK e2))
          · rw [upd_same, cnt_snoc, cnt_snoc, cnt_snoc]
            congr 3 <;> omega
          · exact List.nodup_append.mpr ⟨h.nd, List.nodup_cons.mpr ⟨fun h => (nomatch h), .nil⟩, fun u hu v hv e => by rw [List.mem_singleton.mp hv] at e; rw [e] at hu; exact new_fact hc hu⟩
          · rcases List.mem_append.mp hg with y | y
            · exact h.mem g y
            · rw [List.mem_singleton.mp y]
              exact List.mem_of_getElem? hf0
          · rw [cnt_snoc]
            omega
          · rw [cnt_snoc]
            omega
          · rw [cnt_snoc]
            omega
          · rw [List.length_append, List.length_singleton]
            omega
        · rw [decide_eq_false hs]
          refine iteF ?_
          exact ⟨_, gs, rfl, { h with len := Nat.le_succ_of_le h.len }⟩
    · rintro σ H' ⟨x6, gs, rfl, h⟩
      rw [lxs] at h
      exact ⟨_, rfl, q l gs H' h.sm n1 h.ls h.nd h.mem h.a h.b h.c h.len⟩
end
end K73
namespace GD
open PySem PySem.Spec PyProof.Rows L2
theorem at1 {x y : V} {r : List V} : atI (x :: y :: r) 1 = some y := atI_nat (j := 1) rfl
theorem at2 {x y a : V} {r : List V} : atI (x :: y :: a :: r) 2 = some a := atI_nat (j := 2) rfl
theorem at3 {x y a b : V} {r : List V} : atI (x :: y :: a :: b :: r) 3 = some b := atI_nat (j := 3) rfl
theorem at4 {x y a b c : V} {r : List V} : atI (x :: y :: a :: b :: c :: r) 4 = some c := atI_nat (j := 4) rfl
theorem at5 {x y a b c d : V} {r : List V} : atI (x :: y :: a :: b :: c :: d :: r) 5 = some d := atI_nat (j := 5) rfl
theorem FzAll.perm {H : Hp} {xs ys : List V} (h : ys.Perm xs) : ∀ {fs : List Fact}, FzAll H xs (fs.map eF) → ∃ gs : List Fact, gs.Perm fs ∧ FzAll H ys (gs.map eF) := by
  induction h with
  | nil =>
    intro fs h
    exact ⟨fs, .refl _, h⟩
  | cons x p ih =>
    intro fs h
    cases fs with
    | nil => cases h
    | cons f r =>
      cases h with
      | cons a t =>
        obtain ⟨gs, q, g⟩ := ih t
        exact ⟨f :: gs, q.cons f, .cons a g⟩
  | swap x y l =>
    intro fs h
    cases fs with
    | nil => cases h
    | cons f r =>
      cases r with
      | nil =>
        cases h with
        | cons a t => cases t
      | cons g r =>
        cases h with
        | cons a t =>
          cases t with
          | cons b t => exact ⟨g :: f :: r, .swap _ _ _, .cons b (.cons a t)⟩
  | trans p q ih1 ih2 =>
    intro fs h
    obtain ⟨gs, a, b⟩ := ih2 h
    obtain ⟨hs, c, d⟩ := ih1 b
    exact ⟨hs, c.trans a, d⟩
def LoreAt (H : Hp) (d lj lf ls : Addr) (js : List (Str × Str)) (fs : List Fact) (sts : List Stk) : Prop := H d = some (.dK [(.inr "jobs", .ref lj), (.inr "facts", .ref lf), (.inr "stocks", .ref ls)]) ∧ LstAt H lj (js.map eE) ∧ LstAt H lf (fs.map eF) ∧ LstAt H ls (sts.map eK)
def LoreOk (most : Nat) (ms : List Str) (x2 x3 x4 x5 : Nat) (js : List (Str × Str)) (fs : List Fact) (sts : List Stk) : Prop := JobsOk most ms js ∧ (∀ st ∈ sts, StockOk js 3 st) ∧ fs.Nodup ∧ (∀ f ∈ fs, HeardOk js.length x2 sts f) ∧ cnt "let" fs ≤ x3 ∧ cnt "not" fs ≤ x4 ∧ cnt "as" fs ≤ x5 ∧ fs.length ≤ 400 ∧ sts.length ≤ 20
def spLore : Sp := fun vs H Q _ => ∃ (a lm sz : Addr) (most : Nat) (ms : List Str) (z : Int) (x0 x1 x2 x3 x4 x5 : Nat), vs = [.ref a, .int most, .ref lm, .ref sz] ∧ PotAt H a z ∧ z ≤ 10000 ∧ 1 ≤ most ∧ most ≤ 4 ∧ lm ≠ a ∧ H lm = some (.lst (ms.map V.str)) ∧ ms ≠ [] ∧ ms.length ≤ 100 ∧
  H sz = some (.tup [.int x0, .int x1, .int x2, .int x3, .int x4, .int x5]) ∧ 1 ≤ x0 ∧ x0 ≤ 20 ∧ 1 ≤ x1 ∧ x1 ≤ 9 ∧ 1 ≤ x2 ∧ x2 ≤ 30 ∧ x5 ≤ 10 ∧
  ∀ (d lj lf ls : Addr) js fs sts H', H d = none → H lj = none → H lf = none → H ls = none → PotAt H' a (z + 2500) → Keep a H H' → LoreAt H' d lj lf ls js fs sts → LoreOk most ms x2 x3 x4 x5 js fs sts → Q (.ref d) H'
end GD
namespace K73
open PySem PySem.Spec PyProof.Rows L2 GD
section
variable {P : Program} {w : World} {K : PySem.W.Frag} {mg : Str → Option Value} {base : Heap}
abbrev NLo : List Str := ["_law_pot_here", "_law_most", "_law_manners", "_law_sizes", "_law_jobs_here", "_law_stocks", "_law_facts", "_law_met", "_law_lap"]
theorem scLo : FnScope NLo ["_law_pot_here", "_law_most", "_law_manners", "_law_sizes"] (defScope sLore) := ⟨rfl, rfl, rfl, by decide +kernel, rfl, by decide +kernel, by decide +kernel⟩
/-- all defs that the drawer of books calls -/
structure Drawer (K : PySem.W.Frag) (mg : Str → Option Value) (fT fO fS fN fJ fF fB fC fE fG fK fV fL fH fA fW : Addr) (fdT fdO fdS fdN fdJ fdF fdB fdC fdE fdG fdK fdV fdL fdH fdA fdW : FuncData) : Prop where
  T : At K mg "_law_take" sTake ["_law_pot_here", "_law_upto"] fT fdT
  O : At K mg "_law_of" sOf ["_law_pot_here", "_law_some_here"] fO fdO
  S : At K mg "_law_some" sSome ["_law_pot_here", "_law_pool", "_law_many"] fS fdS
  N : At K mg "_law_names" sNames ["_law_pot_here", "_law_many"] fN fdN
  J : At K mg "_law_jobs" sJobs ["_law_pot_here", "_law_most", "_law_manners"] fJ fdJ
  F : At K mg "_law_first" sFirst ["_law_jobs_here"] fF fdF
  B : At K mg "_law_behind" sBehind ["_law_jobs_here", "_law_standing_here", "_law_event"] fB fdB
  C : At K mg "_law_can_come" sCanCome ["_law_jobs_here", "_law_standing_here", "_law_event"] fC fdC
  E : At K mg "_law_events" sEvents ["_law_jobs_here", "_law_standing_here"] fE fdE
  G : At K mg "_law_change" sChange ["_law_pot_here", "_law_manner", "_law_size"] fG fdG
  Sk : At K mg "_law_stock" sStock ["_law_pot_here", "_law_jobs_here", "_law_size"] fK fdK
  V : At K mg "_law_level" sLevel ["_law_stock_here", "_law_standing_here"] fV fdV
  L : At K mg "_law_lets" sLets ["_law_stocks", "_law_standing_here"] fL fdL
  H : At K mg "_law_heard_facts" sHeardFacts ["_law_pot_here", "_law_jobs_here", "_law_stocks", "_law_days", "_law_most"] fH fdH
  A : At K mg "_law_alike_facts" sAlikeFacts ["_law_pot_here", "_law_stocks", "_law_met", "_law_many"] fA fdA
  W : At K mg "_law_few" sFew ["_law_facts", "_law_lets_here", "_law_nots", "_law_ases"] fW fdW
theorem ok_lore {f fT fO fS fN fJ fF fB fC fE fG fK fV fL fH fA fW : Addr} {fd fdT fdO fdS fdN fdJ fdF fdB fdC fdE fdG fdK fdV fdL fdH fdA fdW : FuncData} (F : Fun K "_law_lore" "_law_lore" sLore f fd) (S : Small1 K mg)
    (D : Drawer K mg fT fO fS fN fJ fF fB fC fE fG fK fV fL fH fA fW fdT fdO fdS fdN fdJ fdF fdB fdC fdE fdG fdK fdV fdL fdH fdA fdW) : FnOk P w K mg base CX0 5 f fd ["_law_pot_here", "_law_most", "_law_manners", "_law_sizes"] spLore := by
  have GT : FnOk P w K mg base CX0 1 fT fdT ["_law_pot_here", "_law_upto"] spTake := ok_take D.T.F S.ta
  have GJ : FnOk P w K mg base CX0 4 fJ fdJ ["_law_pot_here", "_law_most", "_law_manners"] spJobs := ok_jobs D.J.F S.ta D.T.F D.T.g D.T.b D.S.F D.S.g D.S.b D.N.F D.N.g D.N.b D.O.F D.O.g D.O.b
  have GK : FnOk P w K mg base CX0 3 fK fdK ["_law_pot_here", "_law_jobs_here", "_law_size"] spStock := ok_stock D.Sk.F S.ta S.tup D.T.F D.T.g D.T.b D.G.F D.G.g D.G.b
  have GH : FnOk P w K mg base CX0 4 fH fdH ["_law_pot_here", "_law_jobs_here", "_law_stocks", "_law_days", "_law_most"] spHeard := ok_heard D.H.F S D.T D.O D.F D.B D.C D.E D.V D.L
  have GA : FnOk P w K mg base CX0 3 fA fdA ["_law_pot_here", "_law_stocks", "_law_met", "_law_many"] spAlike := ok_alike D.A.F S D.T D.O D.V
  have GS : FnOk P w K mg base CX0 2 fS fdS ["_law_pot_here", "_law_pool", "_law_many"] (spSome K) := ok_some D.S.F S.ta D.T.F D.T.g D.T.b
  have GW : FnOk P w K mg base CX0 1 fW fdW ["_law_facts", "_law_lets_here", "_law_nots", "_law_ases"] spFew := ok_few D.W.F
  refine F.ok scLo (fun vs H Q E h => ?_) (fun cdv A outer s H vs Q E hr h => ?_)
  · obtain ⟨a, lm, sz, most, ms, z, x0, x1, x2, x3, x4, x5, rfl, _⟩ := h
    rfl
  · obtain ⟨a, lm, sz, most, ms, z, x0, x1, x2, x3, x4, x5, rfl, hp, hz, hm1, hm4, hma, hm, hms, hm100, hsz, h01, h02, h11, h12, h21, h22, h5, q⟩ := h
    have hr1 : Room 1 _ := hr.mono (by decide)
    have hr2 : Room 2 _ := hr.mono (by decide)
    have hr3 : Room 3 _ := hr.mono (by decide)
    refine ⟨_, pss_cons (ps_set (i := 4) scLo.nd rfl (.inr rfl) (pe_call GJ hr rfl D.J.g D.J.F.kp D.J.b .nil pass0 (pa_cons (pv 0) (pa_cons (pv 1) (pa_cons (pv 2) pa_nil)))))
      (pss_cons (ps_setLc (i := 5) (own := [("_law_lap", 8)]) (g := gName 8) (tt := tYes) rfl scLo.nd rfl rfl (sw_true rfl rfl rfl (by decide +kernel))
          (pi_range1 (by rfl) S.ta.range (pa_cons (pe_op op_add pe_int (pe_call GT hr1 rfl D.T.g D.T.F.kp D.T.b .nil pass0 (pa_cons (pv 0) (pa_cons (pe_ix ix_tup (pv 3) pe_int (fun _ _ => rfl)) pa_nil)))) pa_nil))
          (blkOk_by (N := NLo) (sc := defScope sLore) (by decide +kernel)) (fun _ _ _ _ _ => pg_name (i := 8) scLo.nd rfl (.inl rfl)) (fun _ _ _ _ _ => pts_nil)
          (fun _ _ _ _ _ => pe_call GK hr3 rfl D.Sk.g D.Sk.F.kp D.Sk.b .nil pass0 (pa_cons (pv 0) (pa_cons (pv 4) (pa_cons pe_int pa_nil)))))
      (pss_cons (ps_asg (pe_call GH hr rfl D.H.g D.H.F.kp D.H.b .nil pass0 (pa_cons (pv 0) (pa_cons (pv 4) (pa_cons (pv 5) (pa_cons (pe_op op_add pe_int (pe_call GT hr1 rfl D.T.g D.T.F.kp D.T.b .nil pass0 (pa_cons (pv 0) (pa_cons (pe_ix ix_tup (pv 3) pe_int (fun _ _ => rfl)) pa_nil))))
          (pa_cons (pe_ix ix_tup (pv 3) pe_int (fun _ _ => rfl)) pa_nil)))))) (pg_tup rfl (pgs_cons (pg_name (i := 6) scLo.nd rfl (.inl rfl)) (pgs_cons (pg_name (i := 7) scLo.nd rfl (.inl rfl)) pgs_nil))))
      (pss_cons (ps_set (i := 6) scLo.nd rfl (.inl rfl) (pe_op op_cat (pv 6) (pe_call GA hr3 rfl D.A.g D.A.F.kp D.A.b .nil pass0 (pa_cons (pv 0) (pa_cons (pv 5) (pa_cons (pv 7) (pa_cons (pe_ix ix_tup (pv 3) pe_int (fun _ _ => rfl)) pa_nil)))))))
      (pss_cons (ps_set (i := 6) scLo.nd rfl (.inl rfl) (pe_call GW hr1 rfl D.W.g D.W.F.kp D.W.b .nil pass0 (pa_cons (pe_call GS hr2 rfl D.S.g D.S.F.kp D.S.b .nil pass0 (pa_cons (pv 0) (pa_cons (pv 6) (pa_cons (pe_callB call_len_seq (by rfl) S.ta.len PySem.boot_len (pa_cons (pv 6) pa_nil)) pa_nil))))
          (pa_cons (pe_ix ix_tup (pv 3) pe_int (fun _ _ => rfl)) (pa_cons (pe_ix ix_tup (pv 3) pe_int (fun _ _ => rfl)) (pa_cons (pe_ix ix_tup (pv 3) pe_int (fun _ _ => rfl)) pa_nil))))))
      (pss_one (ps_ret (pe_disp (pps_cons pe_str (pv 4) (pps_cons pe_str (pv 6) (pps_cons pe_str (pv 5) pps_nil))) (by rfl) (by rfl) (fun z => by cases z) (by show 3 ≤ 15; decide)))))))), ?_⟩
    have hsa : sz ≠ a := by
      obtain ⟨_, _, _, e, _⟩ := hp
      exact ne_of hsz e (fun z => by cases z)
    refine ⟨_, rfl, _, rfl, _, rfl, a, lm, most, ms, z, rfl, hp, by omega, hm1, hm4, hma, hm, hms, hm100, fun lj js H1 nj p1 k1 hj jo => ?_⟩
    obtain ⟨hj1, hjm, hjn, hjj⟩ := id jo
    have hja : lj ≠ a := hp.ne nj
    refine ⟨_, rfl, _, rfl, sz, _, 0, _, rfl, rfl, SqT.of (k1 _ _ hsa hsz), at0, a, x0, _, rfl, p1, by omega, by omega, by omega, fun m H2 m0 m1 p2 k2 => ?_⟩
    have k12 := k1.trans k2
    have hj2 := hj.keep hja k2 (p1.tups k2)
    obtain ⟨n, hn⟩ := Int.eq_ofNat_of_zero_le (show 0 ≤ 1 + m by omega)
    refine ⟨_, _, rfl, rfl, 1 + m, rfl, by omega, by omega, fun D hD => ?_⟩
    have D0 : H D = none := keep_none p2 k12 hD
    have nDa : D ≠ a := p2.ne hD
    rw [hn, Int.toNat_natCast]
    refine lc_range (lo := 0) (n := n) (fun i H' => PotAt H' a (z + 21 + 50 * (i : Nat)) ∧ Keep a H H' ∧ LstAt H' lj (js.map eE) ∧ ∃ (acc : List V) (sts : List Stk), H' D = some (.lst acc) ∧ FzAll H' acc (sts.map eK) ∧ sts.length = i ∧ ∀ st ∈ sts, StockOk js 3 st)
      ⟨(p2.upd_ne nDa).le (by omega), keep_upd k12 D0, ?_, [], [], upd_same, .nil, rfl, fun _ h => (nomatch h)⟩ ?_ ?_
    · exact hj2.same (same_new hD)
    · rintro i H' hi ⟨pi, ki, hji, acc, sts, eD, fz, ls, ho⟩
      have ljD : lj ≠ D := by
        obtain ⟨_, e, _⟩ := hj2
        exact ne_of_none e hD
      refine ⟨rfl, _, rfl, _, rfl, a, lj, js, 3, _, rfl, pi, by omega, hja, hji, by omega, by decide, by decide, fun v st H3 p3 k3 fk so => ?_⟩
      have eD3 := k3 _ _ nDa eD
      have la : acc.length = i := by rw [fz.len, List.length_map, ls]
      refine ⟨acc, eD3, by rw [la]; exact Nat.lt_of_lt_of_le (show i < 100 by omega) (by decide), (p3.upd_ne nDa).le (by omega), keep_upd (ki.trans k3) D0, lst_other eD3 ljD (hji.keep hja k3 (pi.tups k3)), _, sts ++ [st], upd_same, FzAll.mv (tups_lst eD3) ?_, by rw [List.length_append, ls]; rfl, fun st' hst' => ?_⟩
      · rw [List.map_append]
        exact (fz.mv (pi.tups k3)).snoc fk
      · rcases List.mem_append.mp hst' with y | y
        · exact ho st' y
        · rw [List.mem_singleton.mp y]
          exact so
    · rintro H' ⟨pi, ki, hji, acc, sts, eD, fz, ls, ho⟩
      have hszi := ki _ _ hsa hsz
      have hD' : LstAt H' D (sts.map eK) := ⟨acc, eD, fz⟩
      refine ⟨_, rfl, _, rfl, _, rfl, _, rfl, _, rfl, sz, _, 1, _, rfl, rfl, SqT.of hszi, at1, a, x1, _, rfl, pi, by omega, by omega, by omega, fun m2 H3 m20 m21 p3 k3 => ?_⟩
      have hsz3 := k3 _ _ hsa hszi
      obtain ⟨dn, hdn⟩ := Int.eq_ofNat_of_zero_le (show 0 ≤ 1 + m2 by omega)
      have t3 := pi.tups k3
      have kk3 := ki.trans k3
      refine ⟨_, _, rfl, rfl, _, rfl, sz, _, 2, _, rfl, rfl, SqT.of hsz3, at2, a, lj, D, dn, x2, js, sts, _, by show [V.ref a, V.ref lj, V.ref D, V.int (1 + m2), V.int x2] = _; rw [hdn], p3, by omega, hja, nDa, hji.keep hja k3 t3, hD'.keep nDa k3 t3, fun st hst => ⟨(ho st hst).1, (ho st hst).2.2.1⟩, by omega, hj1, by omega, by omega, h21, h22, fun t l1 l2 fs ms H4 p4 k4 n1 n2 n12 et hl1 hl2 hf hna hm0 hme lf lm' => ?_⟩
      refine ⟨t, _, rfl, SqT.of et, rfl, _, _, rfl, _, _, rfl, rfl, ?_⟩
      have t4 := p3.tups k4
      have kk4 := kk3.trans k4
      have hsz4 := k4 _ _ hsa hsz3
      have d1 : l1 ≠ a := p3.ne n1
      have d2 : l2 ≠ a := p3.ne n2
      have hdm : dn * x2 ≤ 270 := Nat.le_trans (Nat.mul_le_mul (show dn ≤ 9 by omega) h22) (by decide)
      have hD4 := (hD'.keep nDa k3 t3).keep nDa k4 t4
      have hj4 := (hji.keep hja k3 t3).keep hja k4 t4
      refine ⟨_, rfl, _, rfl, _, rfl, _, rfl, _, rfl, sz, _, 5, _, rfl, rfl, SqT.of hsz4, at5, a, D, l2, x5, sts, ms, js.length, x2, _, rfl, p4, by omega, nDa, d2, hD4, hl2, fun st hst => (ho st hst).2.2.1, by omega, by omega, by omega, hm0, by omega, fun m hm' => ⟨(hme m hm').1, (hme m hm').2.1⟩, h5, fun pa fs2 H5 npa p5 k5 hpa hf2 lf2 => ?_⟩
      have t5 := p4.tups k5
      have kk5 := kk4.trans k5
      obtain ⟨xa, ea, fa⟩ := hl1.keep d1 k5 t5
      obtain ⟨xb, eb, fb⟩ := hpa
      have lxa : xa.length = fs.length := by rw [fa.len, List.length_map]
      have lxb : xb.length = fs2.length := by rw [fb.len, List.length_map]
      refine ⟨l1, pa, xa, xb, rfl, rfl, ea, eb, Nat.le_trans (show xa.length + xb.length ≤ 300 by omega) (by decide), fun pc hpc => ?_⟩
      have s6 := same_new (o := .lst (xa ++ xb)) hpc
      have e6 : (upd H5 pc (.lst (xa ++ xb))) pc = some (.lst (xa ++ xb)) := upd_same
      have f6 : FzAll (upd H5 pc (.lst (xa ++ xb))) (xa ++ xb) ((fs ++ fs2).map eF) := by
        rw [List.map_append]
        exact (fa.append fb).same s6
      have p6 := p5.same s6
      have kk6 := kk5.trans (sKeep s6)
      have hD6 := (hD4.keep nDa k5 t5).same s6
      have hj6 := (hj4.keep hja k5 t5).same s6
      have hsz6 := s6 _ _ (k5 _ _ hsa hsz4)
      have dc : pc ≠ a := p5.ne hpc
      generalize upd H5 pc (.lst (xa ++ xb)) = H6 at e6 f6 p6 kk6 hD6 hj6 hsz6
      have l6 : (xa ++ xb).length = fs.length + fs2.length := by rw [List.length_append, lxa, lxb]
      refine ⟨_, rfl, _, rfl, _, rfl, pc, _, rfl, .inl (SqL.of e6), a, pc, _, (xa ++ xb).length, _, rfl, p6, by omega, SqL.of e6, Nat.le_refl _, by omega, fun pp ys H7 npp p7 k7 ey ⟨rest, hperm⟩ ly => ?_⟩
      have hr0 : rest = [] := by
        have z := hperm.length_eq
        rw [List.length_append] at z
        exact List.eq_nil_of_length_eq_zero (by omega)
      rw [hr0, List.append_nil] at hperm
      obtain ⟨gs, hg, fg⟩ := FzAll.perm hperm (f6.mv (p6.tups k7))
      have lg := hg.length_eq
      rw [List.length_append] at lg
      have t7 := p6.tups k7
      have hsz7 := k7 _ _ hsa hsz6
      refine ⟨_, rfl, sz, _, 3, _, rfl, rfl, SqT.of hsz7, at3, _, rfl, sz, _, 4, _, rfl, rfl, SqT.of hsz7, at4, _, rfl, sz, _, 5, _, rfl, rfl, SqT.of hsz7, at5, pp, x3, x4, x5, gs, rfl, ⟨ys, ey, fg⟩, by omega, fun pf hs H8 s8 npf lf8 nd8 mem8 c1 c2 c3 len8 => ?_⟩
      intro d hd
      have s9 := same_new (o := .dK [(.inr "jobs", .ref lj), (.inr "facts", .ref pf), (.inr "stocks", .ref D)]) hd
      refine ⟨_, rfl, _, rfl, _, rfl, upd_same, [(.inr "jobs", .ref lj), (.inr "facts", .ref pf), (.inr "stocks", .ref D)], rfl, (by show 3 ≤ 15; decide), ?_⟩
      rw [upd_upd]
      have kk8 : Keep a H H8 := (kk6.trans k7).trans (sKeep s8)
      have p8 := p7.same s8
      refine q d lj pf D js hs sts _ (keep_none p8 kk8 hd) nj (keep_none p7 (kk6.trans k7) npf) D0 ((p8.same s9).le (by omega)) (kk8.trans (sKeep s9)) ⟨upd_same, ((hj6.keep hja k7 t7).same s8).same s9, lf8.same s9, ((hD6.keep nDa k7 t7).same s8).same s9⟩ ⟨jo, ho, nd8, fun f hf' => ?_, c1, c2, c3, by omega, by omega⟩
      rcases List.mem_append.mp ((hg.mem_iff).mp (mem8 f hf')) with y | y
      · exact hf f y
      · exact hf2 f y
end
end K73
namespace GD
open PySem PySem.Spec PyProof.Rows L2
def nT (i : Int) : Str := Str.ofString (toString i)
def pT (p : Int × Int) : Str := nT p.1 ++ " " ++ nT p.2
def sT (s : Stn) : Str := Txt.join " " (s.map pT)
def fT : Fact → Str
  | .let_ s => (("let" : Str) ++ " ") ++ sT s
  | .not_ s => (("not" : Str) ++ " ") ++ sT s
  | .as_ s t => (("as " : Str) ++ sT s ++ " to ") ++ sT t
def jT (js : List (Str × Str)) : Str := ("jobs " : Str) ++ Txt.join " " (js.map (·.1))
def mT (js : List (Str × Str)) : List Str := (js.filter fun j => decide (j.2 ≠ ("plain" : Str))).map fun j => (j.2 ++ " ") ++ j.1
def lT (js : List (Str × Str)) (fs : List Fact) : List Str := jT js :: mT js ++ fs.map fT
def bT (js : List (Str × Str)) (fs : List Fact) : Str := Txt.join "\n" (lT js fs)
theorem len_app (x y : Str) : (x ++ y).length = x.length + y.length := by
  rw [TL.len_tl, TL.tl_append, List.length_append, ← TL.len_tl, ← TL.len_tl]
theorem sum_len {ys : List Str} {k : Nat} (h : ∀ y ∈ ys, y.length ≤ k) : (ys.map (·.length)).sum ≤ k * ys.length := by
  induction ys with
  | nil => exact Nat.le_refl _
  | cons y r ih =>
    rw [List.map_cons, List.sum_cons, List.length_cons, Nat.mul_succ]
    have := ih fun z hz => h z (List.mem_cons_of_mem _ hz)
    have := h y List.mem_cons_self
    omega
theorem len_joinL (S : List Nat) : ∀ ps : List (List Nat), (TL.joinL S ps).length ≤ (ps.map (·.length)).sum + ps.length * S.length
  | [] => Nat.zero_le _
  | [p] => by
    show p.length ≤ _
    simp
  | p :: q :: r => by
    have z := len_joinL S (q :: r)
    show (p ++ (S ++ TL.joinL S (q :: r))).length ≤ _
    rw [List.length_append, List.length_append, List.map_cons, List.sum_cons, List.length_cons (a := p), Nat.succ_mul]
    omega
theorem len_join {y : Str} {ys : List Str} {k : Nat} (h : ∀ x ∈ ys, x.length ≤ k) : (Txt.join y ys).length ≤ (k + y.length) * ys.length := by
  rw [TL.join_eq, TL.len_tl, TL.tl_join]
  refine Nat.le_trans (len_joinL _ _) ?_
  rw [List.map_map, List.length_map, ← TL.len_tl, show ((fun x : List Nat => x.length) ∘ TL.tl) = (fun x : Str => x.length) from funext fun x => (TL.len_tl x).symm, Nat.add_mul, Nat.mul_comm ys.length]
  have := sum_len h
  omega
theorem len_nT {i : Int} (h0 : 0 ≤ i) (h1 : i ≤ 1000) : (nT i).length ≤ 4 := by
  obtain ⟨n, rfl⟩ := Int.eq_ofNat_of_zero_le h0
  rw [nT, TL.len_tl, TL.tl_num]
  exact TL.numL_len (by decide) (by omega)
theorem log_small {i : Int} (h0 : 0 ≤ i) (h1 : i ≤ 1000) : i.natAbs.log2 < 1920 := Nat.lt_of_le_of_lt (Nat.log2_le_self _) (by omega)
theorem small_len {n : Nat} (h : n ≤ 100000) : n ≤ sizeLine := Nat.le_trans h (by decide)
theorem len1 : (" " : Str).length = 1 := rfl
theorem len_pT {n : Int} {s : Stn} {p : Int × Int} (h : Bd n s) (hn : n ≤ 1000) (hp : p ∈ s) : (pT p).length ≤ 9 := by
  have z := h p hp
  rw [pT, len_app, len_app]
  have a := len_nT (i := p.1) (by omega) (by omega)
  have b := len_nT (i := p.2) (by omega) (by omega)
  have c : (" " : Str).length = 1 := rfl
  omega
theorem len_sT {n : Int} {s : Stn} (h : Bd n s) (hn : n ≤ 1000) : (sT s).length ≤ 10 * s.length := by
  have z := len_join (y := " ") (ys := s.map pT) (k := 9) fun x hx => by
    obtain ⟨p, hp, rfl⟩ := List.mem_map.mp hx
    exact len_pT h hn hp
  rw [List.length_map, show (" " : Str).length = 1 from rfl] at z
  exact z
def spStext : Sp := fun vs H Q _ => ∃ (v : V) (s : Stn) (n : Int), vs = [v] ∧ Fz H v (eS s) ∧ Bd n s ∧ n ≤ 1000 ∧ s.length ≤ 100 ∧ ∀ H', Same H H' → Q (.str (sT s)) H'
/-- a fact with bounds -/
def FactB (k : Nat) (n : Int) : Fact → Prop
  | .let_ s => s.length = k ∧ Bd n s
  | .not_ s => s.length = k ∧ Bd n s
  | .as_ s t => s.length = k ∧ Bd n s ∧ t.length = k ∧ Bd n t ∧ s ≠ t
theorem HeardOk.b {k : Nat} {n : Int} {sts : List Stk} {f : Fact} (h : HeardOk k n sts f) : FactB k n f := by
  cases f with
  | let_ s => exact ⟨h.1, h.2.1⟩
  | not_ s => exact ⟨h.1, h.2.1⟩
  | as_ s t => exact ⟨h.1, h.2.1, h.2.2.1, h.2.2.2.1, h.2.2.2.2.1⟩
theorem len_fT {k : Nat} {n : Int} {f : Fact} (h : FactB k n f) (hn : n ≤ 1000) : (fT f).length ≤ 20 * k + 7 := by
  cases f with
  | let_ s =>
    have z := len_sT h.2 hn
    rw [h.1] at z
    rw [fT, len_app, len_app, show ("let" : Str).length = 3 from rfl, show (" " : Str).length = 1 from rfl]
    omega
  | not_ s =>
    have z := len_sT h.2 hn
    rw [h.1] at z
    rw [fT, len_app, len_app, show ("not" : Str).length = 3 from rfl, show (" " : Str).length = 1 from rfl]
    omega
  | as_ s t =>
    have z := len_sT h.2.1 hn
    rw [h.1] at z
    have z2 := len_sT h.2.2.2.1 hn
    rw [h.2.2.1] at z2
    rw [fT, len_app, len_app, len_app, show ("as " : Str).length = 3 from rfl, show (" to " : Str).length = 4 from rfl]
    omega
def spFline : Sp := fun vs H Q _ => ∃ (v : V) (f : Fact) (k : Nat) (n : Int), vs = [v] ∧ Fz H v (eF f) ∧ FactB k n f ∧ n ≤ 1000 ∧ k ≤ 100 ∧ ∀ H', Same H H' → Q (.str (fT f)) H'
end GD
namespace K73
open PySem PySem.Spec PyProof.Rows L2 GD
section
variable {P : Program} {w : World} {K : PySem.W.Frag} {mg : Str → Option Value} {base : Heap}
abbrev NSt : List Str := ["_law_standing_here", "_law_begun", "_law_ended"]
theorem scSx : FnScope NSt ["_law_standing_here"] (defScope sStandingText) := ⟨rfl, rfl, rfl, by decide +kernel, rfl, by decide +kernel, by decide +kernel⟩
theorem ok_stext {f : Addr} {fd : FuncData} (F : Fun K "_law_standing_text" "_law_standing_text" sStandingText f fd) (nS : mg "str" = none) : FnOk P w K mg base CX0 1 f fd ["_law_standing_here"] spStext := by
  refine F.ok scSx (fun vs H Q E h => ?_) (fun cdv A outer s H vs Q E hr h => ?_)
  · obtain ⟨v, sn, n, rfl, _⟩ := h
    rfl
  · obtain ⟨v, sn, n, rfl, fz, hb, hn, hl, q⟩ := h
    refine ⟨_, pss_one (ps_ret (pe_bm PySem.F.plainAttrs_str PySem.F.slot_str_join PySem.F.type_str_join mt_join pe_str (pa_cons (pe_lc (own := [("_law_begun", 1), ("_law_ended", 2)]) (g := gTup K 2 (gCons (gName 1) (gCons (gName 2) gNil))) (tt := tYes) rfl scSx.nd (pi_tup (pv 0))
      (blkOk_by (N := NSt) (sc := defScope sStandingText) (by decide +kernel)) (fun _ _ _ _ _ => pg_tup rfl (pgs_cons (pg_name (i := 1) scSx.nd rfl (.inl rfl)) (pgs_cons (pg_name (i := 2) scSx.nd rfl (.inl rfl)) pgs_nil))) (fun _ _ _ _ _ => pts_nil)
      (fun _ _ _ _ _ => pe_op op_add_str (pe_op op_add_str (pe_callTy call_str_int (by rfl) nS (by decide +kernel) (pa_cons (pv 1) pa_nil)) pe_str) (pe_callTy call_str_int (by rfl) nS (by decide +kernel) (pa_cons (pv 2) pa_nil)))) pa_nil))), ?_⟩
    obtain ⟨a, xs, rfl, ha, fx⟩ := fz.t
    have lx : xs.length = sn.length := by rw [fx.len, List.length_map]
    refine ⟨rfl, _, rfl, a, rfl, ⟨_, SqT.of ha⟩, fun D hD => ?_⟩
    refine lc_tup (K := K) (a := a) (xs := xs) (fun i H' => Same H H' ∧ H' D = some (.lst (((sn.take i).map pT).map V.str))) ⟨same_new hD, upd_same⟩ (fun i H' _ ⟨s2, _⟩ => SqT.of (s2 _ _ ha)) ?_ ?_
    · rintro i x H' hx ⟨s1, eD⟩
      obtain ⟨p, hp, fp⟩ := fx.atM hx
      obtain ⟨b, y1, y2, rfl, hb1, f1, f2⟩ := fp.t2
      obtain rfl := f1.i
      obtain rfl := f2.i
      have hi : i < sn.length := (List.getElem?_eq_some_iff.mp hp).1
      have hpb := hb p (List.mem_of_getElem? hp)
      have l1 := len_nT (i := p.1) (by omega) (by omega)
      have l2 := len_nT (i := p.2) (by omega) (by omega)
      have l3 : (nT p.1 ++ " ").length ≤ 5 := by rw [len_app, len1]; omega
      refine ⟨b, _, rfl, SqT.of (s1 _ _ hb1), rfl, _, _, rfl, _, _, rfl, rfl, rfl, ?_⟩
      refine ⟨_, rfl, p.1, rfl, log_small (by omega) (by omega), nT p.1, " ", rfl, rfl, small_len (by rw [len1]; omega), _, rfl, p.2, rfl, log_small (by omega) (by omega), nT p.1 ++ " ", nT p.2, rfl, rfl, small_len (by omega), ?_⟩
      refine ⟨_, eD, ?_, same_upd s1 hD, ?_⟩
      · rw [List.length_map, List.length_map, List.length_take]
        exact Nat.lt_of_le_of_lt (Nat.min_le_left _ _) (Nat.lt_of_lt_of_le (show i < 101 by omega) (by decide))
      · rw [upd_same, GD.take_next hp, List.map_append, List.map_append]
        rfl
    · rintro H' ⟨s1, eD⟩
      rw [lx, List.take_length] at eD
      refine ⟨_, D, _, rfl, rfl, .inl (SqL.of eD), ?_, q H' s1⟩
      have z := sum_len (ys := sn.map pT) (k := 9) fun x hx => by
        obtain ⟨p, hp, rfl⟩ := List.mem_map.mp hx
        exact len_pT hb hn hp
      rw [List.length_map] at z
      rw [List.length_map, len1]
      omega
end
end K73
namespace K73
open PySem PySem.Spec PyProof.Rows L2 GD
section
variable {P : Program} {w : World} {K : PySem.W.Frag} {mg : Str → Option Value} {base : Heap}
theorem scFl : FnScope ["_law_fact"] ["_law_fact"] (defScope sFactLine) := ⟨rfl, rfl, rfl, by decide +kernel, rfl, by decide +kernel, by decide +kernel⟩
theorem ok_fline {f fX : Addr} {fd fdX : FuncData} (F : Fun K "_law_fact_line" "_law_fact_line" sFactLine f fd) (nS : mg "str" = none) (AX : At K mg "_law_standing_text" sStandingText ["_law_standing_here"] fX fdX) : FnOk P w K mg base CX0 2 f fd ["_law_fact"] spFline := by
  have GX : FnOk P w K mg base CX0 1 fX fdX ["_law_standing_here"] spStext := ok_stext AX.F nS
  refine F.ok scFl (fun vs H Q E h => ?_) (fun cdv A outer s H vs Q E hr h => ?_)
  · obtain ⟨v, f, k, n, rfl, _⟩ := h
    rfl
  · obtain ⟨v, f, k, n, rfl, fz, hb, hn, hk, q⟩ := h
    refine ⟨_, pss_cons (ps_if (pt_cmpR op_eq (pe_ix ix_tup (pv 0) pe_int (fun _ _ => rfl)) pe_str (nomark _))
        (pss_one (ps_ret (pe_op op_add_str (pe_op op_add_str (pe_op op_add_str pe_str (pe_call GX hr rfl AX.g AX.F.kp AX.b .nil pass0 (pa_cons (pe_ix ix_tup (pv 0) pe_int (fun _ _ => rfl)) pa_nil))) pe_str) (pe_call GX hr rfl AX.g AX.F.kp AX.b .nil pass0 (pa_cons (pe_ix ix_tup (pv 0) pe_int (fun _ _ => rfl)) pa_nil))))) pss_nil)
      (pss_one (ps_ret (pe_op op_add_str (pe_op op_add_str (pe_ix ix_tup (pv 0) pe_int (fun _ _ => rfl)) pe_str) (pe_call GX hr rfl AX.g AX.F.kp AX.b .nil pass0 (pa_cons (pe_ix ix_tup (pv 0) pe_int (fun _ _ => rfl)) pa_nil))))), ?_⟩
    cases f with
    | let_ s =>
      obtain ⟨b, x, y, rfl, e, h1, h2⟩ := fz.t2
      obtain rfl := h1.s
      have ls := len_sT hb.2 hn
      rw [hb.1] at ls
      refine ⟨_, rfl, b, _, 0, _, rfl, rfl, SqT.of e, at0, rfl, ?_⟩
      refine ⟨_, rfl, ?_⟩
      refine iteF ?_
      refine ⟨_, rfl, b, _, 0, _, rfl, rfl, SqT.of e, at0, _, _, rfl, rfl, by decide, ?_⟩
      refine ⟨_, rfl, b, _, 1, _, rfl, rfl, SqT.of e, at1, y, s, n, rfl, h2, hb.2, hn, by rw [hb.1]; exact hk, fun H' s' => ?_⟩
      exact ⟨_, _, rfl, rfl, small_len (by rw [len_app, len1, show ("let" : Str).length = 3 from rfl]; omega), q H' s'⟩
    | not_ s =>
      obtain ⟨b, x, y, rfl, e, h1, h2⟩ := fz.t2
      obtain rfl := h1.s
      have ls := len_sT hb.2 hn
      rw [hb.1] at ls
      refine ⟨_, rfl, b, _, 0, _, rfl, rfl, SqT.of e, at0, rfl, ?_⟩
      refine ⟨_, rfl, ?_⟩
      refine iteF ?_
      refine ⟨_, rfl, b, _, 0, _, rfl, rfl, SqT.of e, at0, _, _, rfl, rfl, by decide, ?_⟩
      refine ⟨_, rfl, b, _, 1, _, rfl, rfl, SqT.of e, at1, y, s, n, rfl, h2, hb.2, hn, by rw [hb.1]; exact hk, fun H' s' => ?_⟩
      exact ⟨_, _, rfl, rfl, small_len (by rw [len_app, len1, show ("not" : Str).length = 3 from rfl]; omega), q H' s'⟩
    | as_ s t =>
      obtain ⟨b, x, y, z, rfl, e, h1, h2, h3⟩ := fz.t3
      obtain rfl := h1.s
      obtain ⟨k1, b1, k2, b2, ne⟩ := hb
      have ls := len_sT b1 hn
      rw [k1] at ls
      have lt := len_sT b2 hn
      rw [k2] at lt
      have la : (("as " : Str) ++ sT s).length = 3 + (sT s).length := by rw [len_app, show ("as " : Str).length = 3 from rfl]
      have lb : (("as " : Str) ++ sT s ++ " to ").length = 7 + (sT s).length := by rw [len_app, la, show (" to " : Str).length = 4 from rfl]; omega
      refine ⟨_, rfl, b, _, 0, _, rfl, rfl, SqT.of e, at0, rfl, ?_⟩
      refine ⟨_, rfl, ?_⟩
      refine iteT ?_
      refine ⟨_, rfl, b, _, 1, _, rfl, rfl, SqT.of e, at1, y, s, n, rfl, h2, b1, hn, by rw [k1]; exact hk, fun H1 s1 => ?_⟩
      refine ⟨_, _, rfl, rfl, small_len (by rw [show ("as " : Str).length = 3 from rfl]; omega), _, _, rfl, rfl, small_len (by rw [la, show (" to " : Str).length = 4 from rfl]; omega), ?_⟩
      refine ⟨_, rfl, b, _, 2, _, rfl, rfl, SqT.of (s1 _ _ e), at2, z, t, n, rfl, h3.same s1, b2, hn, by rw [k2]; exact hk, fun H2 s2 => ?_⟩
      exact ⟨_, _, rfl, rfl, small_len (by rw [lb]; omega), q H2 (s1.trans s2)⟩
end
end K73
namespace GD
open PySem PySem.Spec PyProof.Rows L2
/-- a dict with jobs and facts -/
def Lines (H : Hp) (d : Addr) (js : List (Str × Str)) (fs : List Fact) : Prop := ∃ kvs lj lf, H d = some (.dK kvs) ∧ valV kvs (.inr "jobs") = some (.ref lj) ∧ valV kvs (.inr "facts") = some (.ref lf) ∧ LstAt H lj (js.map eE) ∧ LstAt H lf (fs.map eF)
structure LinesOk (k : Nat) (n : Int) (js : List (Str × Str)) (fs : List Fact) : Prop where
  j : ∀ j ∈ js, j.1.length ≤ 100 ∧ j.2.length ≤ 100
  jl : js.length ≤ 10
  f : ∀ f ∈ fs, FactB k n f
  fl : fs.length ≤ 1000
  n : n ≤ 1000
  k : k ≤ 100
theorem Lines.same {H H' : Hp} {d : Addr} {js : List (Str × Str)} {fs : List Fact} (s : Same H H') (h : Lines H d js fs) : Lines H' d js fs := by
  obtain ⟨kvs, lj, lf, e, a, b, x, y⟩ := h
  exact ⟨kvs, lj, lf, s _ _ e, a, b, x.same s, y.same s⟩
def spLines : Sp := fun vs H Q _ => ∃ (d : Addr) (js : List (Str × Str)) (fs : List Fact) (k : Nat) (n : Int), vs = [.ref d] ∧ Lines H d js fs ∧ LinesOk k n js fs ∧ ∀ p H', H p = none → Same H H' → H' p = some (.lst ((lT js fs).map V.str)) → Q (.ref p) H'
def spTextB : Sp := fun vs H Q _ => ∃ (d : Addr) (js : List (Str × Str)) (fs : List Fact) (k : Nat) (n : Int), vs = [.ref d] ∧ Lines H d js fs ∧ LinesOk k n js fs ∧ ∀ H', Same H H' → Q (.str (bT js fs)) H'
theorem mT_take {js : List (Str × Str)} {i : Nat} {j : Str × Str} (h : js[i]? = some j) : mT (js.take (i + 1)) = mT (js.take i) ++ if j.2 = ("plain" : Str) then [] else [(j.2 ++ " ") ++ j.1] := by
  unfold mT
  rw [GD.take_next h, List.filter_append, List.map_append, List.filter_cons]
  by_cases c : j.2 = ("plain" : Str)
  · rw [if_pos c, if_neg (by simp [c])]
    rfl
  · rw [if_neg c, if_pos (by simp [c])]
    rfl
theorem len_mT {js : List (Str × Str)} (h : ∀ j ∈ js, j.1.length ≤ 100 ∧ j.2.length ≤ 100) : ∀ x ∈ mT js, x.length ≤ 201 := fun x hx => by
  obtain ⟨j, hj, rfl⟩ := List.mem_map.mp hx
  have z := h j ((List.mem_filter.mp hj).1)
  rw [len_app, len_app, len1]
  omega
theorem cnt_mT (js : List (Str × Str)) : (mT js).length ≤ js.length := by
  unfold mT
  rw [List.length_map]
  exact List.length_filter_le _ _
theorem len_jT {js : List (Str × Str)} (h : ∀ j ∈ js, j.1.length ≤ 100 ∧ j.2.length ≤ 100) : (jT js).length ≤ 5 + 101 * js.length := by
  have z := len_join (y := " ") (ys := js.map (·.1)) (k := 100) fun x hx => by
    obtain ⟨p, hp, rfl⟩ := List.mem_map.mp hx
    exact (h p hp).1
  rw [List.length_map, len1] at z
  rw [jT, len_app, show ("jobs " : Str).length = 5 from rfl]
  omega
end GD
namespace K73
open PySem PySem.Spec PyProof.Rows L2 GD
section
variable {P : Program} {w : World} {K : PySem.W.Frag} {mg : Str → Option Value} {base : Heap}
abbrev NLi : List Str := ["_law_lore_here", "_law_found", "_law_name", "_law_manner", "_law_fact"]
theorem scLi : FnScope NLi ["_law_lore_here"] (defScope sLines) := ⟨rfl, rfl, rfl, by decide +kernel, rfl, by decide +kernel, by decide +kernel⟩
theorem ok_lines {f fX fY : Addr} {fd fdX fdY : FuncData} (F : Fun K "_law_lines" "_law_lines" sLines f fd) (nS : mg "str" = none) (AX : At K mg "_law_standing_text" sStandingText ["_law_standing_here"] fX fdX) (AY : At K mg "_law_fact_line" sFactLine ["_law_fact"] fY fdY) :
    FnOk P w K mg base CX0 3 f fd ["_law_lore_here"] spLines := by
  have GY : FnOk P w K mg base CX0 2 fY fdY ["_law_fact"] spFline := ok_fline AY.F nS AX
  refine F.ok scLi (fun vs H Q E h => ?_) (fun cdv A outer s H vs Q E hr h => ?_)
  · obtain ⟨d, js, fs, k, n, rfl, _⟩ := h
    rfl
  · obtain ⟨d, js, fs, k, n, rfl, ⟨kvs, lj, lf, ed, vj, vf, hj, hf⟩, ok, q⟩ := h
    refine ⟨_, pss_cons (ps_set (i := 1) scLi.nd rfl (.inl rfl) (pe_lst (pa_cons (pe_op op_add_str pe_str (pe_bm PySem.F.plainAttrs_str PySem.F.slot_str_join PySem.F.type_str_join mt_join pe_str (pa_cons (pe_lc (own := [("_law_name", 2), ("_law_manner", 3)]) (g := gTup K 2 (gCons (gName 2) (gCons (gName 3) gNil))) (tt := tYes) rfl scLi.nd (pi_list (pe_dget (u1 hr) (pv 0) pe_str (fun _ _ => rfl)))
        (blkOk_by (N := NLi) (sc := defScope sLines) (by decide +kernel)) (fun _ _ _ _ _ => pg_tup rfl (pgs_cons (pg_name (i := 2) scLi.nd rfl (.inl rfl)) (pgs_cons (pg_name (i := 3) scLi.nd rfl (.inl rfl)) pgs_nil))) (fun _ _ _ _ _ => pts_nil) (fun _ _ _ _ _ => pv 2)) pa_nil))) pa_nil)))
      (pss_cons (ps_expr (pe_bm PySem.F.plainAttrs_list PySem.F.slot_list_extend PySem.F.type_list_extend mt_extend (pv 1) (pa_cons (pe_lc (own := [("_law_name", 2), ("_law_manner", 3)]) (g := gTup K 2 (gCons (gName 2) (gCons (gName 3) gNil))) rfl scLi.nd (pi_list (pe_dget (u1 hr) (pv 0) pe_str (fun _ _ => rfl)))
        (blkOk_by (N := NLi) (sc := defScope sLines) (by decide +kernel)) (fun _ _ _ _ _ => pg_tup rfl (pgs_cons (pg_name (i := 2) scLi.nd rfl (.inl rfl)) (pgs_cons (pg_name (i := 3) scLi.nd rfl (.inl rfl)) pgs_nil))) (fun _ _ _ _ _ => pts_one (pt_cmpR op_ne (pv 3) pe_str (nomark _))) (fun _ _ _ _ _ => pe_op op_add_str (pe_op op_add_str (pv 3) pe_str) (pv 2))) pa_nil)))
      (pss_one (ps_ret (pe_op op_cat (pv 1) (pe_lc (own := [("_law_fact", 4)]) (g := gName 4) (tt := tYes) rfl scLi.nd (pi_list (pe_dget (u1 hr) (pv 0) pe_str (fun _ _ => rfl)))
        (blkOk_by (N := NLi) (sc := defScope sLines) (by decide +kernel)) (fun _ _ _ _ _ => pg_name (i := 4) scLi.nd rfl (.inl rfl)) (fun _ _ _ _ _ => pts_nil) (fun _ _ _ _ _ => pe_call GY hr rfl AY.g AY.F.kp AY.b .nil pass0 (pa_cons (pv 4) pa_nil))))))), ?_⟩
    obtain ⟨xj, ej, fj⟩ := hj
    obtain ⟨xf, ef, ff⟩ := hf
    have lxj : xj.length = js.length := by rw [fj.len, List.length_map]
    have lxf : xf.length = fs.length := by rw [ff.len, List.length_map]
    have okl := ok.jl
    have okf := ok.fl
    have okk := ok.k
    have okn := ok.n
    have dg1 : ∀ {H' : Hp}, Same H H' → DGet H' d (.str "jobs") (some (.ref lj)) := fun s => by
      have z := DGet.k (k := .inr "jobs") (s _ _ ed)
      rw [vj] at z
      exact z
    have dg2 : ∀ {H' : Hp}, Same H H' → DGet H' d (.str "facts") (some (.ref lf)) := fun s => by
      have z := DGet.k (k := .inr "facts") (s _ _ ed)
      rw [vf] at z
      exact z
    refine ⟨rfl, _, rfl, d, _, rfl, dg1 (Same.refl H), lj, rfl, ⟨_, SqL.of ej⟩, fun D hD => ?_⟩
    refine lc_list (K := K) (a := lj) (xs := xj) (fun i H' => Same H H' ∧ H' D = some (.lst (((js.take i).map (·.1)).map V.str))) ⟨same_new hD, upd_same⟩ (fun i H' _ ⟨s1, _⟩ => SqL.of (s1 _ _ ej)) ?_ ?_
    · rintro i x H' hx ⟨s1, eD⟩
      obtain ⟨j, hj, fj'⟩ := fj.atM hx
      obtain ⟨b, y1, y2, rfl, hb1, f1, f2⟩ := fj'.t2
      obtain rfl := f1.s
      obtain rfl := f2.s
      have hi : i < js.length := (List.getElem?_eq_some_iff.mp hj).1
      refine ⟨b, _, rfl, SqT.of (s1 _ _ hb1), rfl, _, _, rfl, _, _, rfl, rfl, rfl, _, rfl, ?_⟩
      refine ⟨_, eD, ?_, same_upd s1 hD, ?_⟩
      · rw [List.length_map, List.length_map, List.length_take]
        exact Nat.lt_of_le_of_lt (Nat.min_le_left _ _) (Nat.lt_of_lt_of_le (show i < 101 by omega) (by decide))
      · rw [upd_same, GD.take_next hj, List.map_append, List.map_append]
        rfl
    · rintro H' ⟨s1, eD⟩
      rw [lxj, List.take_length] at eD
      have zs := sum_len (ys := js.map (·.1)) (k := 100) fun x hx => by
        obtain ⟨j, hj, rfl⟩ := List.mem_map.mp hx
        exact (ok.j j hj).1
      rw [List.length_map] at zs
      have zj := len_jT ok.j
      rw [jT, len_app, show ("jobs " : Str).length = 5 from rfl] at zj
      refine ⟨_, D, _, rfl, rfl, .inl (SqL.of eD), by rw [List.length_map, len1]; omega, _, _, rfl, rfl, small_len (by rw [show ("jobs " : Str).length = 5 from rfl]; omega), ?_⟩
      refine ⟨(by show 1 ≤ sizeLine; decide), fun l hl => ?_⟩
      have sl := same_new (o := .lst [V.str (jT js)]) hl
      have el : (upd H' l (.lst [V.str (jT js)])) l = some (.lst [V.str (jT js)]) := upd_same
      have s2 : Same H (upd H' l (.lst [V.str (jT js)])) := s1.trans sl
      have l0 : H l = none := s1.free hl
      show tSeq _ _ _ _ (upd H' l (.lst [V.str (jT js)]))
      generalize upd H' l (.lst [V.str (jT js)]) = H2 at el s2
      refine ⟨_, rfl, .inl ⟨rfl, _, SqL.of el⟩, _, rfl, d, _, rfl, dg1 s2, lj, rfl, ⟨_, SqL.of (s2 _ _ ej)⟩, fun D2 hD2 => ?_⟩
      refine lc_list (K := K) (a := lj) (xs := xj) (fun i H' => Same H2 H' ∧ H' D2 = some (.lst ((mT (js.take i)).map V.str))) ⟨same_new hD2, upd_same⟩ (fun i H' _ ⟨s3, _⟩ => SqL.of (s3 _ _ (s2 _ _ ej))) ?_ ?_
      · rintro i x H' hx ⟨s3, eD2⟩
        obtain ⟨j, hj, fj'⟩ := fj.atM hx
        obtain ⟨b, y1, y2, rfl, hb1, f1, f2⟩ := fj'.t2
        obtain rfl := f1.s
        obtain rfl := f2.s
        have hi : i < js.length := (List.getElem?_eq_some_iff.mp hj).1
        have hjl := ok.j j (List.mem_of_getElem? hj)
        refine ⟨b, _, rfl, SqT.of (s3 _ _ (s2 _ _ hb1)), rfl, _, _, rfl, _, _, rfl, rfl, ?_⟩
        refine ⟨rfl, _, rfl, rfl, ?_⟩
        refine ⟨_, rfl, ?_⟩
        rw [mT_take hj]
        by_cases c : j.2 = ("plain" : Str)
        · rw [if_pos c, List.append_nil, show (!decide (V.str j.2 = V.str ("plain" : Str))) = false by rw [c]; simp]
          refine iteF ?_
          exact ⟨s3, eD2⟩
        · rw [if_neg c, show (!decide (V.str j.2 = V.str ("plain" : Str))) = true by simp [c]]
          refine iteT ?_
          refine ⟨_, rfl, _, _, rfl, rfl, small_len (by rw [len1]; omega), _, rfl, _, _, rfl, rfl, small_len (by rw [len_app, len1]; omega), ?_⟩
          refine ⟨_, eD2, ?_, same_upd s3 hD2, ?_⟩
          · rw [List.length_map]
            exact Nat.lt_of_le_of_lt (cnt_mT _) (by rw [List.length_take]; exact Nat.lt_of_le_of_lt (Nat.min_le_left _ _) (Nat.lt_of_lt_of_le (show i < 101 by omega) (by decide)))
          · rw [upd_same, List.map_append]
            rfl
      · rintro H3 ⟨s3, eD2⟩
        rw [lxj, List.take_length] at eD2
        have el3 := s3 _ _ el
        have cm := cnt_mT js
        refine ⟨l, D2, _, _, rfl, rfl, el3, eD2, small_len (by rw [List.length_singleton, List.length_map]; omega), ?_⟩
        have s4 : Same H (upd H3 l (.lst ([V.str (jT js)] ++ (mT js).map V.str))) := same_upd (s2.trans s3) l0
        have e4 : (upd H3 l (.lst ([V.str (jT js)] ++ (mT js).map V.str))) l = _ := upd_same
        generalize upd H3 l (.lst ([V.str (jT js)] ++ (mT js).map V.str)) = H4 at s4 e4
        refine ⟨_, rfl, _, rfl, d, _, rfl, dg2 s4, lf, rfl, ⟨_, SqL.of (s4 _ _ ef)⟩, fun D3 hD3 => ?_⟩
        refine lc_list (K := K) (a := lf) (xs := xf) (fun i H' => Same H4 H' ∧ H' D3 = some (.lst (((fs.take i).map fT).map V.str))) ⟨same_new hD3, upd_same⟩ (fun i H' _ ⟨s5, _⟩ => SqL.of (s5 _ _ (s4 _ _ ef))) ?_ ?_
        · rintro i x H' hx ⟨s5, eD3⟩
          obtain ⟨f0, hf0, fz⟩ := ff.atM hx
          have hi : i < fs.length := (List.getElem?_eq_some_iff.mp hf0).1
          refine ⟨rfl, _, rfl, x, f0, k, n, rfl, fz.same (s4.trans s5), ok.f f0 (List.mem_of_getElem? hf0), okn, okk, fun H6 s6 => ?_⟩
          refine ⟨_, s6 _ _ eD3, ?_, same_upd (s5.trans s6) hD3, ?_⟩
          · rw [List.length_map, List.length_map, List.length_take]
            exact Nat.lt_of_le_of_lt (Nat.min_le_left _ _) (Nat.lt_of_lt_of_le (show i < 1001 by omega) (by decide))
          · rw [upd_same, GD.take_next hf0, List.map_append, List.map_append]
            rfl
        · rintro H5 ⟨s5, eD3⟩
          rw [lxf, List.take_length] at eD3
          refine ⟨l, D3, _, _, rfl, rfl, s5 _ _ e4, eD3, small_len (by rw [List.length_append, List.length_singleton, List.length_map, List.length_map, List.length_map]; omega), fun p hp => ?_⟩
          refine q p _ ((s4.trans s5).free hp) ((s4.trans s5).trans (same_new hp)) ?_
          rw [upd_same, lT, List.map_append, List.map_cons]
          rfl
end
end K73
namespace GD
open PySem PySem.Spec PyProof.Rows L2
theorem len_lT {k : Nat} {n : Int} {js : List (Str × Str)} {fs : List Fact} (ok : LinesOk k n js fs) : ∀ x ∈ lT js fs, x.length ≤ 2007 := fun x hx => by
  have okl := ok.jl
  have okk := ok.k
  rcases List.mem_append.mp hx with h | h
  · rcases List.mem_cons.mp h with h | h
    · rw [h]
      have z := len_jT ok.j
      omega
    · have z := len_mT ok.j x h
      omega
  · obtain ⟨f, hf, rfl⟩ := List.mem_map.mp h
    have z := len_fT (ok.f f hf) ok.n
    omega
theorem cnt_lT {k : Nat} {n : Int} {js : List (Str × Str)} {fs : List Fact} (ok : LinesOk k n js fs) : (lT js fs).length ≤ 1011 := by
  have okl := ok.jl
  have okf := ok.fl
  have z := cnt_mT js
  rw [lT, List.length_append, List.length_cons, List.length_map]
  omega
end GD
namespace K73
open PySem PySem.Spec PyProof.Rows L2 GD
section
variable {P : Program} {w : World} {K : PySem.W.Frag} {mg : Str → Option Value} {base : Heap}
theorem scTx : FnScope ["_law_lore_here"] ["_law_lore_here"] (defScope sText) := ⟨rfl, rfl, rfl, by decide +kernel, rfl, by decide +kernel, by decide +kernel⟩
theorem ok_text {f fX fY fZ : Addr} {fd fdX fdY fdZ : FuncData} (F : Fun K "_law_text" "_law_text" sText f fd) (nS : mg "str" = none) (AX : At K mg "_law_standing_text" sStandingText ["_law_standing_here"] fX fdX) (AY : At K mg "_law_fact_line" sFactLine ["_law_fact"] fY fdY)
    (AZ : At K mg "_law_lines" sLines ["_law_lore_here"] fZ fdZ) : FnOk P w K mg base CX0 4 f fd ["_law_lore_here"] spTextB := by
  have GZ : FnOk P w K mg base CX0 3 fZ fdZ ["_law_lore_here"] spLines := ok_lines AZ.F nS AX AY
  refine F.ok scTx (fun vs H Q E h => ?_) (fun cdv A outer s H vs Q E hr h => ?_)
  · obtain ⟨d, js, fs, k, n, rfl, _⟩ := h
    rfl
  · obtain ⟨d, js, fs, k, n, rfl, hL, ok, q⟩ := h
    refine ⟨_, pss_one (ps_ret (pe_bm PySem.F.plainAttrs_str PySem.F.slot_str_join PySem.F.type_str_join mt_join pe_str (pa_cons (pe_call GZ hr rfl AZ.g AZ.F.kp AZ.b .nil pass0 (pa_cons (pv 0) pa_nil)) pa_nil))), ?_⟩
    refine ⟨rfl, _, rfl, d, js, fs, k, n, rfl, hL, ok, fun p H' np s' ep => ?_⟩
    have zs := sum_len (len_lT ok)
    have c := cnt_lT ok
    exact ⟨_, p, _, rfl, rfl, .inl (SqL.of ep), by rw [show ("\n" : Str).length = 1 from rfl]; omega, q H' s'⟩
end
end K73
namespace GD
open PySem PySem.Spec PyProof.Rows L2
/-- a op1 b op2 c op3 d -/
def tChain3 (r r' r'' : R2) (ta tb tc td : TE) : TE := fun σ H Q => ta σ H fun x H1 => tb σ H1 fun y H2 => r x y H2 fun z H3 => ∃ k, z = .bl k ∧
  (if k = true then tc σ H3 fun u H4 => r' y u H4 fun z' H5 => ∃ k', z' = .bl k' ∧ (if k' = true then td σ H5 fun v H6 => r'' u v H6 Q else Q (.bl false) H5) else Q (.bl false) H3)
section
variable {X : Cx} {a b c d : Expr} {ta tb tc td : TE} {pos : Pos}
theorem pe_chain3 {op op' op'' : CmpOp} {r r' r'' : R2} (ho : OpR X (compareOp op) r) (ho' : OpR X (compareOp op') r') (ho'' : OpR X (compareOp op'') r'') (ha : PE X a ta) (hb : PE X b tb) (hc : PE X c tc) (hd : PE X d td)
    (hm : lastMarks [op, op', op''] [b, c, d] = false := by with_unfolding_all rfl) : PE X (.Compare a [op, op', op''] [b, c, d] pos) (tChain3 r r' r'' ta tb tc td) := by
  refine ⟨fun pins s σ H Q I h => ?_⟩
  refine Compare_chain (thn (ha.run pins s σ H _ I h) fun v s1 ⟨x, H1, I1, r1, q1⟩ => chain_link (thn (hb.run pins s1 σ H1 _ I1 q1) fun u s2 ⟨y, H2, I2, r2, q2⟩ =>
    thn (ho pins s2 σ H2 x y v u _ I2 r1 r2 q2) fun e s3 ⟨z, H3, I3, r3, k, ek, q3⟩ => ?_)) hm
  subst ek
  cases r3
  refine wpAny_truthy_bool ?_
  cases k with
  | false => exact ite_ff ⟨.bl false, H3, I3, rfl, q3⟩
  | true =>
    refine ite_tt (chain_link (thn (hc.run pins s3 σ H3 _ I3 q3) fun w' s4 ⟨z', H4, I4, r4, q4⟩ => thn (ho' pins s4 σ H4 y z' u w' _ I4 r2 r4 q4) fun e' s5 ⟨z5, H5, I5, r5, k', ek', q5⟩ => ?_))
    subst ek'
    cases r5
    refine wpAny_truthy_bool ?_
    cases k' with
    | false => exact ite_ff ⟨.bl false, H5, I5, rfl, q5⟩
    | true => exact ite_tt (chain_last (thn (hd.run pins s5 σ H5 _ I5 q5) fun w2 s6 ⟨z6, H6, I6, r6, q6⟩ => ho'' pins s6 σ H6 z' z6 w' w2 Q I6 r4 r6 q6))
end
def okQ (p : Int × Int) : Bool := decide (0 ≤ p.2) && (decide (p.2 ≤ p.1) && decide (p.1 ≤ 40))
def okN (k : Nat) (s : Stn) : Bool := decide (s.length = k) && s.all okQ
def okT (k : Nat) : Fact → Bool
  | .let_ s => okN k s
  | .not_ s => okN k s
  | .as_ s t => okN k s && okN k t && !PyData.eqv (eS s) (eS t)
def spInt : Sp := fun vs H Q _ => ∃ i : Int, vs = [.int i] ∧ Q (.bl true) H
def spWord (K : PySem.W.Frag) : Sp := fun vs H Q _ => ∃ (x : Str) (w : Addr) (ws : List Str), vs = [.str x, .ref w] ∧ (SqL K H w (ws.map V.str) ∨ SqT K H w (ws.map V.str)) ∧ Q (.bl (decide (x ∈ ws))) H
def spPair : Sp := fun vs H Q _ => ∃ (v : V) (p : Int × Int), vs = [v] ∧ Fz H v (eP p) ∧ Q (.bl (okQ p)) H
def spStn : Sp := fun vs H Q _ => ∃ (v : V) (s : Stn) (k : Nat), vs = [v, .int k] ∧ Fz H v (eS s) ∧ s.length ≤ 1000 ∧ ∀ H', Same H H' → Q (.bl (okN k s)) H'
def spFact : Sp := fun vs H Q _ => ∃ (v : V) (f : Fact) (k : Nat), vs = [v, .int k] ∧ Fz H v (eF f) ∧ (∀ s t, f = .as_ s t → s.length ≤ 1000 ∧ t.length ≤ 1000) ∧ (∀ s, f = .let_ s ∨ f = .not_ s → s.length ≤ 1000) ∧ ∀ H', Same H H' → Q (.bl (okT k f)) H'
theorem inV_strs {x : Str} {ws : List Str} : inV (.str x) (ws.map V.str) = decide (x ∈ ws) := by
  unfold inV
  rw [List.any_map]
  induction ws with
  | nil => rfl
  | cons w r ih =>
    rw [List.any_cons, ih]
    by_cases h : x = w
    · subst h
      simp [eqV]
    · have h2 : ¬ w = x := fun e => h e.symm
      simp [h, h2, eqV]
end GD
namespace K73
open PySem PySem.Spec PyProof.Rows L2 GD
abbrev pIsInt : Stmt := top 14
abbrev pIsNumb : Stmt := top 15
abbrev pIsWord : Stmt := top 16
abbrev pIsName : Stmt := top 19
abbrev pIsPair : Stmt := top 20
abbrev pIsStn : Stmt := top 21
abbrev pIsFact : Stmt := top 22
section
variable {P : Program} {w : World} {K : PySem.W.Frag} {mg : Str → Option Value} {base : Heap}
structure Forms1 (mg : Str → Option Value) : Prop where
  isi : mg "isinstance" = none
  int : mg "int" = none
  bool : mg "bool" = none
  str : mg "str" = none
  tup : mg "tuple" = none
  len : mg "len" = none
  all : mg "all" = none
  most : ∃ u, mg "MOST_COUNTED" = some u ∧ RelV (.int 40) u
theorem scI1 : FnScope ["value"] ["value"] (defScope pIsInt) := ⟨rfl, rfl, rfl, by decide +kernel, rfl, by decide +kernel, by decide +kernel⟩
theorem ok_isint {f : Addr} {fd : FuncData} (F : Fun K "is_integer" "is_integer" pIsInt f fd) (S : Forms1 mg) : FnOk P w K mg base CX0 1 f fd ["value"] spInt := by
  refine F.ok scI1 (fun vs H Q E h => ?_) (fun cdv A outer s H vs Q E hr h => ?_)
  · obtain ⟨i, rfl, _⟩ := h
    rfl
  · obtain ⟨i, rfl, q⟩ := h
    refine ⟨_, pss_one (ps_ret (pe_and (pe_callB call_isi (by rfl) S.isi (by decide +kernel) (pa_cons (pv 0) (pa_cons (pe_bltn (v := .ty "int") (by rfl) S.int PyProof.Rows.Boot.«int» rfl) pa_nil)))
      (pe_one (pe_not (pe_callB call_isi (by rfl) S.isi (by decide +kernel) (pa_cons (pv 0) (pa_cons (pe_bltn (v := .ty "bool") (by rfl) S.bool PyProof.Rows.Boot.«bool» rfl) pa_nil))))))), ?_⟩
    refine ⟨_, rfl, _, _, _, _, true, rfl, .ty _, .base (.int _), kit_ty (by decide +kernel), _, rfl, iteT ?_⟩
    exact ⟨_, rfl, _, _, _, _, false, rfl, .ty _, .base (.int _), kit_ty (by decide +kernel), _, rfl, q⟩
theorem scI2 : FnScope ["value", "many"] ["value", "many"] (defScope pIsNumb) := ⟨rfl, rfl, rfl, by decide +kernel, rfl, by decide +kernel, by decide +kernel⟩
theorem scI3 : FnScope ["value", "words"] ["value", "words"] (defScope pIsWord) := ⟨rfl, rfl, rfl, by decide +kernel, rfl, by decide +kernel, by decide +kernel⟩
theorem ok_isword {f : Addr} {fd : FuncData} (F : Fun K "is_word" "is_word" pIsWord f fd) (S : Forms1 mg) : FnOk P w K mg base CX0 1 f fd ["value", "words"] (spWord K) := by
  refine F.ok scI3 (fun vs H Q E h => ?_) (fun cdv A outer s H vs Q E hr h => ?_)
  · obtain ⟨x, u, ws, rfl, _⟩ := h
    rfl
  · obtain ⟨x, u, ws, rfl, hw, q⟩ := h
    refine ⟨_, pss_one (ps_ret (pe_and (pe_callB call_isi (by rfl) S.isi (by decide +kernel) (pa_cons (pv 0) (pa_cons (pe_bltn (v := .ty "str") (by rfl) S.str PyProof.Rows.Boot.«str» rfl) pa_nil)))
      (pe_one (pe_cmpR op_in_seq (pv 0) (pv 1) (by with_unfolding_all rfl))))), ?_⟩
    refine ⟨_, rfl, _, _, _, _, true, rfl, .ty _, .base (.str _), kit_ty (by decide +kernel), _, rfl, iteT ?_⟩
    refine ⟨_, rfl, _, rfl, u, _, rfl, hw, rfl, ?_, ?_⟩
    · rw [List.all_map]
      exact List.all_eq_true.mpr fun _ _ => rfl
    · rw [inV_strs]
      exact q
theorem scI5 : FnScope ["value", "begun", "ended"] ["value"] (defScope pIsPair) := ⟨rfl, rfl, rfl, by decide +kernel, rfl, by decide +kernel, by decide +kernel⟩
theorem ok_ispair {f fI : Addr} {fd fdI : FuncData} (F : Fun K "is_pair" "is_pair" pIsPair f fd) (S : Forms1 mg) (AI : At K mg "is_integer" pIsInt ["value"] fI fdI) : FnOk P w K mg base CX0 2 f fd ["value"] spPair := by
  have GI : FnOk P w K mg base CX0 1 fI fdI ["value"] spInt := ok_isint AI.F S
  refine F.ok scI5 (fun vs H Q E h => ?_) (fun cdv A outer s H vs Q E hr h => ?_)
  · obtain ⟨v, p, rfl, _⟩ := h
    rfl
  · obtain ⟨v, p, rfl, fz, q⟩ := h
    obtain ⟨um, gm, rm⟩ := S.most
    refine ⟨_, pss_cons (ps_if (pw_or (pt_not (pt_val (pe_callB call_isi (by rfl) S.isi (by decide +kernel) (pa_cons (pv 0) (pa_cons (pe_bltn (v := .ty "tuple") (by rfl) S.tup PyProof.Rows.Boot.«tuple» rfl) pa_nil)))))
          (pw_or1 (pt_cmpR op_ne (pe_callB call_len_seq (by rfl) S.len PySem.boot_len (pa_cons (pv 0) pa_nil)) pe_int (nomark _)))).pt (pss_one (ps_ret (pe_bl))) pss_nil)
      (pss_cons (ps_asg (pv 0) (pg_tup rfl (pgs_cons (pg_name (i := 1) scI5.nd rfl (.inl rfl)) (pgs_cons (pg_name (i := 2) scI5.nd rfl (.inl rfl)) pgs_nil))))
      (pss_one (ps_ret (pe_and (pe_call GI hr rfl AI.g AI.F.kp AI.b .nil pass0 (pa_cons (pv 1) pa_nil)) (pe_and (pe_call GI hr rfl AI.g AI.F.kp AI.b .nil pass0 (pa_cons (pv 2) pa_nil))
        (pe_one (pe_chain3 op_le op_le op_le pe_int (pv 2) (pv 1) (pe_glob (by rfl) gm rm)))))))), ?_⟩
    obtain ⟨b, x, y, rfl, hb, f1, f2⟩ := fz.t2
    obtain rfl := f1.i
    obtain rfl := f2.i
    refine ⟨_, rfl, _, _, _, _, true, rfl, .ty _, .base (.tup hb), kit_ty (by decide +kernel), _, rfl, ?_⟩
    refine ⟨_, rfl, b, _, rfl, .inr (SqT.of hb), rfl, _, rfl, iteF ?_⟩
    refine ⟨_, rfl, b, _, rfl, SqT.of hb, rfl, _, _, rfl, _, _, rfl, rfl, ?_⟩
    refine ⟨_, rfl, p.1, rfl, _, rfl, iteT ?_⟩
    refine ⟨_, rfl, p.2, rfl, _, rfl, iteT ?_⟩
    refine ⟨_, rfl, _, _, rfl, rfl, _, rfl, ?_⟩
    unfold okQ at q
    by_cases h0 : 0 ≤ p.2
    · rw [decide_eq_true h0] at q ⊢
      refine iteT ⟨_, rfl, _, _, rfl, rfl, _, rfl, ?_⟩
      by_cases h1 : p.2 ≤ p.1
      · rw [decide_eq_true h1] at q ⊢
        refine iteT ⟨_, _, rfl, rfl, q⟩
      · rw [decide_eq_false h1] at q ⊢
        exact iteF q
    · rw [decide_eq_false h0] at q ⊢
      exact iteF q
end
end K73
namespace K73
open PySem PySem.Spec PyProof.Rows L2 GD
section
variable {P : Program} {w : World} {K : PySem.W.Frag} {mg : Str → Option Value} {base : Heap}
abbrev NP : List Str := ["value", "many", "pair"]
theorem scI6 : FnScope NP ["value", "many"] (defScope pIsStn) := ⟨rfl, rfl, rfl, by decide +kernel, rfl, by decide +kernel, by decide +kernel⟩
theorem ok_isstn {f fI fP : Addr} {fd fdI fdP : FuncData} (F : Fun K "is_standing" "is_standing" pIsStn f fd) (S : Forms1 mg) (AI : At K mg "is_integer" pIsInt ["value"] fI fdI) (AP : At K mg "is_pair" pIsPair ["value"] fP fdP) : FnOk P w K mg base CX0 3 f fd ["value", "many"] spStn := by
  have GP : FnOk P w K mg base CX0 2 fP fdP ["value"] spPair := ok_ispair AP.F S AI
  refine F.ok scI6 (fun vs H Q E h => ?_) (fun cdv A outer s H vs Q E hr h => ?_)
  · obtain ⟨v, sn, k, rfl, _⟩ := h
    rfl
  · obtain ⟨v, sn, k, rfl, fz, hl, q⟩ := h
    refine ⟨_, pss_one (ps_ret (pe_and (pe_callB call_isi (by rfl) S.isi (by decide +kernel) (pa_cons (pv 0) (pa_cons (pe_bltn (v := .ty "tuple") (by rfl) S.tup PyProof.Rows.Boot.«tuple» rfl) pa_nil)))
      (pe_and (pe_cmpR op_eq (pe_callB call_len_seq (by rfl) S.len PySem.boot_len (pa_cons (pv 0) pa_nil)) (pv 1) (nomark _))
      (pe_one (pe_callB (cr_all rfl) (by rfl) S.all (by decide +kernel) (pa_cons (pe_lc (own := [("pair", 2)]) (g := gName 2) (tt := tYes) rfl scI6.nd (pi_tup (pv 0)) (blkOk_by (N := NP) (sc := defScope pIsStn) (by decide +kernel))
        (fun _ _ _ _ _ => pg_name (i := 2) scI6.nd rfl (.inl rfl)) (fun _ _ _ _ _ => pts_nil) (fun _ _ _ _ _ => pe_call GP hr rfl AP.g AP.F.kp AP.b .nil pass0 (pa_cons (pv 2) pa_nil))) pa_nil)))))), ?_⟩
    obtain ⟨b, xs, rfl, hb, fx⟩ := fz.t
    have lx : xs.length = sn.length := by rw [fx.len, List.length_map]
    refine ⟨_, rfl, _, _, _, _, true, rfl, .ty _, .base (.tup hb), kit_ty (by decide +kernel), _, rfl, iteT ?_⟩
    refine ⟨_, rfl, b, _, rfl, .inr (SqT.of hb), _, rfl, rfl, _, rfl, ?_⟩
    unfold okN at q
    by_cases h : sn.length = k
    · rw [decide_eq_true (show V.int (xs.length : Int) = V.int (k : Int) by rw [lx, h])]
      refine iteT ?_
      refine ⟨_, rfl, b, rfl, ⟨_, SqT.of hb⟩, fun D hD => ?_⟩
      refine lc_tup (K := K) (a := b) (xs := xs) (fun i H' => Same H H' ∧ H' D = some (.lst (((sn.take i).map okQ).map V.bl))) ⟨same_new hD, upd_same⟩ (fun i H' _ ⟨s2, _⟩ => SqT.of (s2 _ _ hb)) ?_ ?_
      · rintro i x H' hx ⟨s1, eD⟩
        obtain ⟨p, hp, fp⟩ := fx.atM hx
        have hi : i < sn.length := (List.getElem?_eq_some_iff.mp hp).1
        refine ⟨rfl, _, rfl, x, p, rfl, fp.same s1, ?_⟩
        refine ⟨_, eD, ?_, same_upd s1 hD, ?_⟩
        · rw [List.length_map, List.length_map, List.length_take]
          exact Nat.lt_of_le_of_lt (Nat.min_le_left _ _) (Nat.lt_of_lt_of_le (show i < 1001 by omega) (by decide))
        · rw [upd_same, GD.take_next hp, List.map_append, List.map_append]
          rfl
      · rintro H' ⟨s1, eD⟩
        rw [lx, List.take_length] at eD
        refine ⟨D, _, rfl, SqL.of eD, ?_⟩
        have z := q H' s1
        rw [decide_eq_true h, Bool.true_and] at z
        rw [List.all_map]
        exact z
    · rw [decide_eq_false (show ¬ V.int (xs.length : Int) = V.int (k : Int) from fun z => h (by rw [← lx]; exact Int.ofNat_inj.mp (V.int.inj z)))]
      refine iteF ?_
      have z := q H (Same.refl H)
      rw [decide_eq_false h, Bool.false_and] at z
      exact z
end
end K73
namespace GD
open PySem PySem.Spec PyProof.Rows L2
theorem Fz.fact_at {H : Hp} {v : V} {f : Fact} (h : Fz H v (eF f)) : (∃ b y s, v = .ref b ∧ H b = some (.tup [.str (kindS f), y]) ∧ Fz H y (eS s) ∧ (f = .let_ s ∨ f = .not_ s)) ∨ ∃ b y z s t, v = .ref b ∧ H b = some (.tup [.str "as", y, z]) ∧ Fz H y (eS s) ∧ Fz H z (eS t) ∧ f = .as_ s t := by
  cases f with
  | let_ s =>
    obtain ⟨b, x, y, rfl, hb, h1, h2⟩ := h.t2
    obtain rfl := h1.s
    exact .inl ⟨b, y, s, rfl, hb, h2, .inl rfl⟩
  | not_ s =>
    obtain ⟨b, x, y, rfl, hb, h1, h2⟩ := h.t2
    obtain rfl := h1.s
    exact .inl ⟨b, y, s, rfl, hb, h2, .inr rfl⟩
  | as_ s t =>
    obtain ⟨b, x, y, z, rfl, hb, h1, h2, h3⟩ := h.t3
    obtain rfl := h1.s
    exact .inr ⟨b, y, z, s, t, rfl, hb, h2, h3, rfl⟩
theorem shapeN (s : Stn) : SeqAt.shaped (eS s) = true := shape_eS s
end GD
namespace K73
open PySem PySem.Spec PyProof.Rows L2 GD
section
variable {P : Program} {w : World} {K : PySem.W.Frag} {mg : Str → Option Value} {base : Heap}
abbrev NF : List Str := ["value", "many", "here", "there", "both"]
theorem scI7 : FnScope NF ["value", "many"] (defScope pIsFact) := ⟨rfl, rfl, rfl, by decide +kernel, rfl, by decide +kernel, by decide +kernel⟩
theorem ok_isfact {f fI fP fN fW : Addr} {fd fdI fdP fdN fdW : FuncData} (F : Fun K "is_fact" "is_fact" pIsFact f fd) (S : Forms1 mg) (AI : At K mg "is_integer" pIsInt ["value"] fI fdI) (AP : At K mg "is_pair" pIsPair ["value"] fP fdP)
    (AN : At K mg "is_standing" pIsStn ["value", "many"] fN fdN) (AW : At K mg "is_word" pIsWord ["value", "words"] fW fdW) : FnOk P w K mg base CX0 4 f fd ["value", "many"] spFact := by
  have GN : FnOk P w K mg base CX0 3 fN fdN ["value", "many"] spStn := ok_isstn AN.F S AI AP
  have GW : FnOk P w K mg base CX0 1 fW fdW ["value", "words"] (spWord K) := ok_isword AW.F S
  refine F.ok scI7 (fun vs H Q E h => ?_) (fun cdv A outer s H vs Q E hr h => ?_)
  · obtain ⟨v, f, k, rfl, _⟩ := h
    rfl
  · obtain ⟨v, f, k, rfl, fz, hl2, hl1, q⟩ := h
    have hr1 : Room 1 _ := hr.mono (by decide)
    refine ⟨_, pss_cons (ps_if (pt_not (pt_val (pe_callB call_isi (by rfl) S.isi (by decide +kernel) (pa_cons (pv 0) (pa_cons (pe_bltn (v := .ty "tuple") (by rfl) S.tup PyProof.Rows.Boot.«tuple» rfl) pa_nil))))) (pss_one (ps_ret pe_bl)) pss_nil)
      (pss_cons (ps_if (pt_cmpR op_eq (pe_callB call_len_seq (by rfl) S.len PySem.boot_len (pa_cons (pv 0) pa_nil)) pe_int (nomark _))
        (pss_one (ps_ret (pe_and (pe_call GW hr1 rfl AW.g AW.F.kp AW.b .nil pass0 (pa_cons (pe_ix ix_tup (pv 0) pe_int (fun _ _ => rfl)) (pa_cons (pe_tup (pa_cons pe_str (pa_cons pe_str pa_nil))) pa_nil)))
          (pe_one (pe_call GN hr rfl AN.g AN.F.kp AN.b .nil pass0 (pa_cons (pe_ix ix_tup (pv 0) pe_int (fun _ _ => rfl)) (pa_cons (pv 1) pa_nil))))))) pss_nil)
      (pss_cons (ps_if (pt_cmpR op_eq (pe_callB call_len_seq (by rfl) S.len PySem.boot_len (pa_cons (pv 0) pa_nil)) pe_int (nomark _))
        (pss_cons (ps_asg (pe_slice sl_tup (pv 0) (po_some pe_int) po_none) (pg_tup rfl (pgs_cons (pg_name (i := 2) scI7.nd rfl (.inl rfl)) (pgs_cons (pg_name (i := 3) scI7.nd rfl (.inl rfl)) pgs_nil))))
        (pss_cons (ps_set (i := 4) scI7.nd rfl (.inl rfl) (pe_and (pe_call GN hr rfl AN.g AN.F.kp AN.b .nil pass0 (pa_cons (pv 2) (pa_cons (pv 1) pa_nil))) (pe_one (pe_call GN hr rfl AN.g AN.F.kp AN.b .nil pass0 (pa_cons (pv 3) (pa_cons (pv 1) pa_nil))))))
        (pss_one (ps_ret (pe_and (pe_call GW hr1 rfl AW.g AW.F.kp AW.b .nil pass0 (pa_cons (pe_ix ix_tup (pv 0) pe_int (fun _ _ => rfl)) (pa_cons (pe_tup (pa_cons pe_str pa_nil)) pa_nil)))
          (pe_and (pv 4) (pe_one (pe_cmpR (op_neD hr.units) (pv 2) (pv 3) (nomark _))))))))) pss_nil)
      (pss_one (ps_ret pe_bl)))), ?_⟩
    rcases fz.fact_at with ⟨b, y, sn, rfl, hb, fy, hf⟩ | ⟨b, y, z, sn, tn, rfl, hb, fy, fzz, rfl⟩
    · have hk : okT k f = okN k sn ∧ (kindS f = ("let" : Str) ∨ kindS f = ("not" : Str)) := by
        rcases hf with rfl | rfl
        · exact ⟨rfl, .inl rfl⟩
        · exact ⟨rfl, .inr rfl⟩
      refine ⟨_, rfl, _, _, _, _, true, rfl, .ty _, .base (.tup hb), kit_ty (by decide +kernel), _, rfl, iteF ?_⟩
      refine ⟨_, rfl, b, _, rfl, .inr (SqT.of hb), rfl, _, rfl, iteT ?_⟩
      refine ⟨_, rfl, b, _, 0, _, rfl, rfl, SqT.of hb, at0, ?_⟩
      refine ⟨(by show 2 ≤ sizeLine; decide), fun t ht => ?_⟩
      have st := same_new (o := .tup [.str "let", .str "not"]) ht
      refine ⟨kindS f, t, ["let", "not"], rfl, .inr (SqT.of upd_same), true, ?_, iteT ?_⟩
      · rcases hk.2 with e | e <;> rw [e] <;> decide
      refine ⟨_, rfl, b, _, 1, _, rfl, rfl, SqT.of (st _ _ hb), at1, _, rfl, y, sn, k, rfl, fy.same st, hl1 sn hf, fun H' s' => ?_⟩
      have z := q H' (st.trans s')
      rw [hk.1] at z
      exact z
    · obtain ⟨h1, h2⟩ := hl2 sn tn rfl
      refine ⟨_, rfl, _, _, _, _, true, rfl, .ty _, .base (.tup hb), kit_ty (by decide +kernel), _, rfl, iteF ?_⟩
      refine ⟨_, rfl, b, _, rfl, .inr (SqT.of hb), rfl, _, rfl, iteF ?_⟩
      refine ⟨_, rfl, b, _, rfl, .inr (SqT.of hb), rfl, _, rfl, iteT ?_⟩
      refine ⟨_, rfl, ?_⟩
      dsimp only [tNoPart]
      refine ⟨_, rfl, b, _, rfl, SqT.of hb, (show ¬ (HT.sIx 3 0 (some 1) = 0 ∧ HT.sIx 3 3 none = 3) by decide), fun p hp => ?_⟩
      have sp := same_new (o := .tup (cutV [V.str "as", y, z] (some 1) none)) hp
      have ep : (upd H p (.tup (cutV [V.str "as", y, z] (some 1) none))) p = some (.tup [y, z]) := upd_same
      generalize upd H p (.tup (cutV [V.str "as", y, z] (some 1) none)) = H1 at sp ep ⊢
      refine ⟨p, _, rfl, SqT.of ep, rfl, _, _, rfl, _, _, rfl, rfl, ?_⟩
      refine ⟨_, rfl, _, rfl, y, sn, k, rfl, fy.same sp, h1, fun H2 s2 => ?_⟩
      have fin : ∀ (both : Bool) (H3 : Hp), Same H H3 → both = (okN k sn && okN k tn) → tRet
            (tAndV
              (tCall (spWord K) [] E0
                (tCons (tOp (rIxT K) (tVar 0) (tC (V.int 0)))
                  (tCons (tTup (tCons (tC (V.str (Str.ofString "as"))) tNil)) tNil)))
              (tAndV (tVar 4) (tOp (rNeD K) (tVar 2) (tVar 3)))) { nx := tRet (tC (V.bl false)) { nx := fun x H' => Q V.non H', rt := Q }, rt := Q } [some (.ref b), some (.int k), some y, some z, some (.bl both)] H3 := by
        intro both H3 s3 eb
        refine ⟨_, rfl, b, _, 0, _, rfl, rfl, SqT.of (s3 _ _ hb), at0, ?_⟩
        refine ⟨(by show 1 ≤ sizeLine; decide), fun t ht => ?_⟩
        have st := same_new (o := .tup [.str "as"]) ht
        refine ⟨"as", t, ["as"], rfl, .inr (SqT.of upd_same), true, by decide, iteT ?_⟩
        have s4 := s3.trans st
        have fin2 := q _ s4
        rw [okT, ← eb] at fin2
        cases both with
        | false => exact ⟨_, rfl, _, rfl, iteF fin2⟩
        | true => exact ⟨_, rfl, _, rfl, iteT ⟨_, rfl, _, rfl, eS sn, eS tn, (fy.same s4).dp, (fzz.same s4).dp, shapeN sn, shapeN tn, fin2⟩⟩
      have s02 := sp.trans s2
      cases e1 : okN k sn with
      | false =>
        refine ⟨_, rfl, iteF ?_⟩
        exact fin false _ s02 (by rw [e1]; rfl)
      | true =>
        refine ⟨_, rfl, iteT ?_⟩
        refine ⟨_, rfl, _, rfl, z, tn, k, rfl, fzz.same s02, h2, fun H3 s3 => ?_⟩
        exact fin _ _ (s02.trans s3) (by rw [e1]; rfl)
end
end K73
namespace GD
open PySem PySem.Spec PyProof.Rows L2
theorem digit128 : ∀ c : Nat, c < 128 → Unicode.isDigit c = (decide (48 ≤ c) && decide (c ≤ 57)) := by decide +kernel
def isNum (x : Str) : Bool := Txt.isascii x && Txt.isdigit x
theorem isNum_digits {x : Str} (h : isNum x = true) : NumText.AllDigits (TL.tl x) ∧ TL.tl x ≠ [] := by
  unfold isNum Txt.isascii Txt.isdigit at h
  rw [Bool.and_eq_true, Bool.and_eq_true, decide_eq_true_iff] at h
  obtain ⟨h1, h2, h3⟩ := h
  have h4 := Array.all_eq_true'.mp h1
  have h5 := Array.all_eq_true'.mp h3
  refine ⟨fun c hc => ?_, fun e => ?_⟩
  · have m : c ∈ x.cps := Array.mem_toList_iff.mp hc
    have a := of_decide_eq_true (h4 c m)
    have b := h5 c m
    rw [digit128 c a, Bool.and_eq_true, decide_eq_true_iff, decide_eq_true_iff] at b
    exact b
  · rw [TL.len_tl, e] at h2
    exact absurd h2 (by decide)
theorem digits_isNum {x : Str} (h : NumText.AllDigits (TL.tl x)) (h0 : TL.tl x ≠ []) : isNum x = true := by
  unfold isNum Txt.isascii Txt.isdigit
  rw [Bool.and_eq_true, Bool.and_eq_true, decide_eq_true_iff]
  have r : ∀ c ∈ x.cps, 48 ≤ c ∧ c ≤ 57 := fun c hc => h c (Array.mem_toList_iff.mpr hc)
  refine ⟨Array.all_eq_true'.mpr fun c hc => decide_eq_true (by have := r c hc; omega), ?_, Array.all_eq_true'.mpr fun c hc => ?_⟩
  · rw [TL.len_tl]
    exact List.length_pos_iff.mpr h0
  · have := r c hc
    rw [digit128 c (by omega), decide_eq_true (by omega), decide_eq_true (by omega)]
    rfl
/-- what read_count tells -/
def rdC (x : Str) : Int := if isNum x = true ∧ x.length ≤ 2 then (if x.length = 2 ∧ (TL.tl x).head? = some 48 then -1 else (NumText.digitsVal (TL.tl x) : Int)) else -1
theorem rdC_num {n : Nat} (h : n < 100) : rdC (nT n) = n := by
  have ht : TL.tl (nT n) = TL.numL n := TL.tl_num n
  have hl : (nT n).length ≤ 2 := by
    rw [TL.len_tl, ht]
    exact TL.numL_len (by decide) (by omega)
  unfold rdC
  rw [if_pos ⟨digits_isNum (by rw [ht]; exact TL.numL_digits n) (by rw [ht]; exact TL.numL_ne n), hl⟩, ht, TL.numL_val]
  refine if_neg fun z => ?_
  obtain ⟨z1, z2⟩ := z
  by_cases h10 : n < 10
  · rw [TL.len_tl, ht, TL.numL_lt h10] at z1
    exact absurd (show 1 = 2 from z1) (by decide)
  · rw [TL.numL_step (by omega), TL.numL_lt (by omega)] at z2
    have z3 : 48 + n / 10 = 48 := Option.some.inj z2
    omega
def isNumeral (x : Str) : Bool := isNum x && (decide (x = "0") || !decide ((TL.tl x).head? = some 48))
theorem numeral_num {x : Str} (h : isNumeral x = true) : isNum x = true := by
  unfold isNumeral at h
  rw [Bool.and_eq_true] at h
  exact h.1
theorem rdC_no {x : Str} (h : isNumeral x = false) : rdC x = -1 := by
  unfold rdC
  by_cases c : isNum x = true ∧ x.length ≤ 2
  · rw [if_pos c]
    unfold isNumeral at h
    rw [c.1, Bool.true_and, Bool.or_eq_false_iff, decide_eq_false_iff_not, Bool.not_eq_false', decide_eq_true_iff] at h
    refine if_pos ⟨?_, h.2⟩
    obtain ⟨h1, h2⟩ := h
    have hl : x.length ≠ 1 := fun z => h1 (TL.ext_tl (by
      rw [TL.len_tl] at z
      match e : TL.tl x, z, h2 with
      | [a], _, h2 => 
        obtain rfl := Option.some.inj h2
        rfl))
    have hz : x.length ≠ 0 := fun z => by
      rw [TL.len_tl] at z
      rw [List.eq_nil_of_length_eq_zero z] at h2
      cases h2
    omega
  · exact if_neg c
theorem rdC_yes {x : Str} (h : isNumeral x = true) (hl : x.length ≤ 2) : rdC x = (NumText.digitsVal (TL.tl x) : Int) := by
  unfold rdC
  rw [if_pos ⟨numeral_num h, hl⟩]
  refine if_neg fun z => ?_
  unfold isNumeral at h
  rw [numeral_num h, Bool.true_and, Bool.or_eq_true, decide_eq_true_iff] at h
  rcases h with rfl | h
  · exact absurd z.1 (by decide)
  · rw [decide_eq_true z.2] at h
    cases h
def spNumeral : Sp := fun vs H Q _ => ∃ x : Str, vs = [.str x] ∧ x.length ≤ sizeLine ∧ Q (.bl (isNumeral x)) H
def spCount : Sp := fun vs H Q _ => ∃ x : Str, vs = [.str x] ∧ x.length ≤ sizeLine ∧ Q (.int (rdC x)) H
end GD
namespace K73
open PySem PySem.Spec PyProof.Rows L2 GD
abbrev pIsFull : Stmt := top 32
abbrev pReadJobs : Stmt := top 35
abbrev pReadManners : Stmt := top 36
abbrev pReadFacts : Stmt := top 37
abbrev pReadFact : Stmt := top 38
abbrev pReadStn : Stmt := top 39
abbrev pReadCount : Stmt := top 40
abbrev pIsNumeral : Stmt := top 18
section
variable {P : Program} {w : World} {K : PySem.W.Frag} {mg : Str → Option Value} {base : Heap}
structure Reads1 (mg : Str → Option Value) : Prop where
  f : Forms1 mg
  no : ∃ u, mg "NO_COUNT" = some u ∧ RelV (.int (-1)) u
  rng : mg "range" = none
theorem scRn : FnScope ["text"] ["text"] (defScope pIsNumeral) := ⟨rfl, rfl, rfl, by decide +kernel, rfl, by decide +kernel, by decide +kernel⟩
theorem ok_isnumeral {f : Addr} {fd : FuncData} (F : Fun K "is_numeral" "is_numeral" pIsNumeral f fd) : FnOk P w K mg base CX0 1 f fd ["text"] spNumeral := by
  refine F.ok scRn (fun vs H Q E h => ?_) (fun cdv A outer s H vs Q E hr h => ?_)
  · obtain ⟨x, rfl, _⟩ := h
    rfl
  · obtain ⟨x, rfl, hx, q⟩ := h
    refine ⟨_, pss_one (ps_ret (pe_and (pe_bm0 PySem.F.plainAttrs_str PySem.F.slot_str_isascii PySem.F.type_str_isascii mt_isascii (pv 0))
      (pe_and (pe_bm0 PySem.F.plainAttrs_str PySem.F.slot_str_isdigit PySem.F.type_str_isdigit mt_isdigit (pv 0))
        (pe_one (pe_or (pe_cmpR op_eq (pv 0) pe_str (nomark _)) (pe_one (pe_cmpR op_ne (pe_ix ix_str (pv 0) pe_int (fun _ _ => rfl)) pe_str (nomark _)))))))), ?_⟩
    refine ⟨_, rfl, rfl, x, rfl, rfl, True.intro, _, rfl, ?_⟩
    unfold isNumeral isNum at q
    cases ha : Txt.isascii x with
    | false =>
      refine iteF ?_
      rw [ha] at q
      exact q
    | true =>
      refine iteT ⟨_, rfl, rfl, x, rfl, rfl, True.intro, _, rfl, ?_⟩
      cases hd : Txt.isdigit x with
      | false =>
        refine iteF ?_
        rw [ha, hd] at q
        exact q
      | true =>
        rw [ha, hd] at q
        have hn : isNum x = true := by rw [isNum, ha, hd]; rfl
        obtain ⟨dg, ne⟩ := isNum_digits hn
        refine iteT ⟨_, rfl, rfl, _, rfl, ?_⟩
        by_cases h0 : V.str x = V.str "0"
        · rw [decide_eq_true h0]
          refine iteT ?_
          rw [decide_eq_true (V.str.inj h0)] at q
          exact q
        · rw [decide_eq_false h0]
          refine iteF ?_
          rw [decide_eq_false (fun z => h0 (congrArg V.str z))] at q
          have hc : ∃ c r, TL.tl x = c :: r := by
            cases e : TL.tl x with
            | nil => exact absurd e ne
            | cons c r => exact ⟨c, r, rfl⟩
          obtain ⟨c, r, ec⟩ := hc
          refine ⟨_, rfl, x, 0, c, rfl, rfl, hx, ?_, rfl, ?_⟩
          · show atI (TL.tl x) 0 = some c
            rw [ec]
            exact atI_nat (j := 0) rfl
          rw [ec] at q
          have e2 : (!decide (V.str ⟨#[c]⟩ = V.str "0")) = !decide ((c :: r).head? = some 48) := by
            by_cases hc : c = 48
            · rw [hc]
              rfl
            · rw [decide_eq_false (show ¬ V.str ⟨#[c]⟩ = V.str "0" from fun z => hc (by
                have z2 := congrArg TL.tl (V.str.inj z)
                exact (List.cons.inj z2).1)), decide_eq_false (show ¬ (c :: r).head? = some 48 from fun z => hc (Option.some.inj z))]
          show Q (.bl _) H
          rw [e2]
          exact q
/-- read_count, and is_numeral that it calls -/
structure AtC (K : PySem.W.Frag) (mg : Str → Option Value) (f : Addr) (fd : FuncData) : Prop extends At K mg "read_count" pReadCount ["word"] f fd where
  num : ∃ fU fdU, At K mg "is_numeral" pIsNumeral ["text"] fU fdU
theorem scR0 : FnScope ["word"] ["word"] (defScope pReadCount) := ⟨rfl, rfl, rfl, by decide +kernel, rfl, by decide +kernel, by decide +kernel⟩
theorem ok_rdcount {f : Addr} {fd : FuncData} (AC : AtC K mg f fd) (S : Reads1 mg) : FnOk P w K mg base CX0 2 f fd ["word"] spCount := by
  obtain ⟨fU, fdU, AU⟩ := AC.num
  have GU : FnOk P w K mg base CX0 1 fU fdU ["text"] spNumeral := ok_isnumeral AU.F
  refine AC.F.ok scR0 (fun vs H Q E h => ?_) (fun cdv A outer s H vs Q E hr h => ?_)
  · obtain ⟨x, rfl, _⟩ := h
    rfl
  · obtain ⟨x, rfl, hx, q⟩ := h
    obtain ⟨um, gm, rm⟩ := S.no
    refine ⟨_, pss_cons (ps_if (pw_or (pt_not (pt_val (pe_call GU hr (by rfl) AU.g AU.F.kp AU.b .nil pass0 (pa_cons (pv 0) pa_nil))))
          (pw_or1 (pt_cmpR op_gt (pe_callB call_len_str (by rfl) S.f.len PySem.boot_len (pa_cons (pv 0) pa_nil)) pe_int (nomark _)))).pt (pss_one (ps_ret (pe_glob (by rfl) gm rm))) pss_nil)
      (pss_one (ps_ret (pe_callTy call_int_str (by rfl) S.f.int (by decide +kernel) (pa_cons (pv 0) pa_nil)))), ?_⟩
    refine ⟨_, rfl, x, rfl, hx, _, rfl, ?_⟩
    cases hn : isNumeral x with
    | false =>
      refine iteT ?_
      rw [rdC_no hn] at q
      exact q
    | true =>
      obtain ⟨dg, ne⟩ := isNum_digits (numeral_num hn)
      refine iteF ⟨_, rfl, x, rfl, hx, _, _, rfl, rfl, _, rfl, ?_⟩
      by_cases hl : (2 : Int) < (x.length : Int)
      · rw [decide_eq_true hl]
        refine iteT ?_
        rw [rdC, if_neg (fun z => by omega)] at q
        exact q
      · rw [decide_eq_false hl]
        refine iteF ?_
        refine ⟨_, rfl, x, _, rfl, intText_digits dg ne (by omega), by omega, ?_⟩
        rw [rdC_yes hn (by omega)] at q
        exact q
end
end K73
namespace GD
open PySem PySem.Spec PyProof.Rows L2
/-- two by two -/
def prs : List Int → Stn
  | a :: b :: r => (a, b) :: prs r
  | _ => []
theorem prs_len : ∀ l : List Int, (prs l).length = l.length / 2
  | [] => rfl
  | [_] => by simp [prs]
  | a :: b :: r => by
    rw [prs, List.length_cons, prs_len r, List.length_cons, List.length_cons]
    omega
theorem prs_get : ∀ (l : List Int) (i : Nat) (x y : Int), l[2 * i]? = some x → l[2 * i + 1]? = some y → (prs l)[i]? = some (x, y)
  | [], i, x, y, h, _ => by simp at h
  | [a], i, x, y, _, h => by simp at h
  | a :: b :: r, 0, x, y, h1, h2 => by
    simp at h1 h2
    subst h1
    subst h2
    rfl
  | a :: b :: r, i + 1, x, y, h1, h2 => by
    rw [prs, List.getElem?_cons_succ]
    refine prs_get r i x y ?_ ?_
    · rw [← h1, show 2 * (i + 1) = 2 * i + 1 + 1 by omega, List.getElem?_cons_succ, List.getElem?_cons_succ]
    · rw [← h2, show 2 * (i + 1) + 1 = 2 * i + 1 + 1 + 1 by omega, List.getElem?_cons_succ, List.getElem?_cons_succ]
theorem rng_two {L : Nat} (h : L ≤ 100000) : RgC 0 ((L : Int) - 1) 2 (L / 2) := by
  have e : Builtin.Range.rangeSize 0 ((L : Int) - 1) 2 = ((L / 2 : Nat) : Int) := by
    unfold Builtin.Range.rangeSize
    rw [if_pos (by decide)]
    split <;> omega
  refine ⟨by decide, by decide, ?_, e⟩
  unfold Builtin.Range.small
  rw [e]
  simp only [Builtin.Range.rangeFitsLong, Bool.and_eq_true, Bool.or_eq_true, decide_eq_true_eq, beq_iff_eq]
  refine ⟨by omega, .inr ?_⟩
  rw [if_pos (by decide), Bool.and_eq_true, decide_eq_true_iff, decide_eq_true_iff]
  omega
def spRdStn : Sp := fun vs H Q _ => ∃ (l : Addr) (ws : List Str), vs = [.ref l] ∧ H l = some (.lst (ws.map V.str)) ∧ ws.length ≤ 1000 ∧ (∀ x ∈ ws, x.length ≤ sizeLine) ∧ ∀ v H', Same H H' → Fz H' v (eS (prs (ws.map rdC))) → Q v H'
end GD
namespace K73
open PySem PySem.Spec PyProof.Rows L2 GD
section
variable {P : Program} {w : World} {K : PySem.W.Frag} {mg : Str → Option Value} {base : Heap}
abbrev NRs : List Str := ["words", "counts", "word", "at"]
theorem scR1 : FnScope NRs ["words"] (defScope pReadStn) := ⟨rfl, rfl, rfl, by decide +kernel, rfl, by decide +kernel, by decide +kernel⟩
theorem ok_rdstn {f fC : Addr} {fd fdC : FuncData} (F : Fun K "read_standing" "read_standing" pReadStn f fd) (S : Reads1 mg) (AC : AtC K mg fC fdC) : FnOk P w K mg base CX0 3 f fd ["words"] spRdStn := by
  have GC : FnOk P w K mg base CX0 2 fC fdC ["word"] spCount := ok_rdcount AC S
  refine F.ok scR1 (fun vs H Q E h => ?_) (fun cdv A outer s H vs Q E hr h => ?_)
  · obtain ⟨l, ws, rfl, _⟩ := h
    rfl
  · obtain ⟨l, ws, rfl, hl, hw, hwl, q⟩ := h
    refine ⟨_, pss_cons (ps_set (i := 1) scR1.nd rfl (.inr rfl) (pe_lc (own := [("word", 2)]) (g := gName 2) (tt := tYes) rfl scR1.nd (pi_list (pv 0)) (blkOk_by (N := NRs) (sc := defScope pReadStn) (by decide +kernel))
        (fun _ _ _ _ _ => pg_name (i := 2) scR1.nd rfl (.inl rfl)) (fun _ _ _ _ _ => pts_nil) (fun _ _ _ _ _ => pe_call GC hr rfl AC.g AC.F.kp AC.b .nil pass0 (pa_cons (pv 2) pa_nil))))
      (pss_one (ps_ret (pe_callTy call_tuple_of (by rfl) S.f.tup (by decide +kernel) (pa_cons (pe_lc (own := [("at", 3)]) (g := gName 3) (tt := tYes) rfl scR1.nd
        (pi_range3 (by rfl) S.rng (pa_cons pe_int (pa_cons (pe_op op_sub (pe_callB call_len_seq (by rfl) S.f.len PySem.boot_len (pa_cons (pv 1) pa_nil)) pe_int) (pa_cons pe_int pa_nil)))) (blkOk_by (N := NRs) (sc := defScope pReadStn) (by decide +kernel))
        (fun _ _ _ _ _ => pg_name (i := 3) scR1.nd rfl (.inl rfl)) (fun _ _ _ _ _ => pts_nil) (fun _ _ _ _ _ => pe_tup (pa_cons (pe_ix (r := rIxL K) ix_list (pv 1) (pv 3) (fun _ _ => rfl)) (pa_cons (pe_ix (r := rIxL K) ix_list (pv 1) (pe_op op_add (pv 3) pe_int) (fun _ _ => rfl)) pa_nil)))) pa_nil)))), ?_⟩
    refine ⟨_, rfl, l, rfl, ⟨_, SqL.of hl⟩, fun D hD => ?_⟩
    refine lc_list (K := K) (a := l) (xs := ws.map V.str) (fun i H' => Same H H' ∧ H' D = some (.lst (((ws.take i).map rdC).map V.int))) ⟨same_new hD, upd_same⟩ (fun i H' _ ⟨s1, _⟩ => SqL.of (s1 _ _ hl)) ?_ ?_
    · rintro i x H' hx ⟨s1, eD⟩
      rw [List.getElem?_map] at hx
      cases c : ws[i]? with
      | none =>
        rw [c] at hx
        cases hx
      | some y =>
        rw [c] at hx
        obtain rfl : V.str y = x := Option.some.inj hx
        have hi : i < ws.length := (List.getElem?_eq_some_iff.mp c).1
        refine ⟨rfl, _, rfl, y, rfl, hwl y (List.mem_of_getElem? c), ?_⟩
        refine ⟨_, eD, ?_, same_upd s1 hD, ?_⟩
        · rw [List.length_map, List.length_map, List.length_take]
          exact Nat.lt_of_le_of_lt (Nat.min_le_left _ _) (Nat.lt_of_lt_of_le (show i < 1001 by omega) (by decide))
        · rw [upd_same, GD.take_next c, List.map_append, List.map_append]
          rfl
    · rintro H1 ⟨s1, eD⟩
      rw [List.length_map, List.take_length] at eD
      have lc : ((ws.map rdC).map V.int).length = ws.length := by rw [List.length_map, List.length_map]
      refine ⟨_, rfl, D, _, rfl, .inl (SqL.of eD), _, _, rfl, rfl, ?_⟩
      rw [lc]
      refine ⟨_, _, _, ws.length / 2, rfl, rng_two (by omega), fun D2 hD2 => ?_⟩
      refine lc_it (walk_rangeC (lo := 0) (c := 2) (n := ws.length / 2)) (fun i H' => Same H1 H' ∧ ∃ acc, H' D2 = some (.lst acc) ∧ FzAll H' acc (((prs (ws.map rdC)).take i).map eP)) ⟨same_new hD2, [], upd_same, .nil⟩ (fun _ _ _ _ => True.intro) ?_ ?_
      · rintro i x Hx H' hi ⟨s2, acc, eA, fA⟩ ⟨rfl, rfl⟩
        have b1 : 2 * i < ws.length := by omega
        have b2 : 2 * i + 1 < ws.length := by omega
        have g1 : (ws.map rdC)[2 * i]? = some (rdC ws[2 * i]) := by rw [List.getElem?_map, List.getElem?_eq_getElem b1]; rfl
        have g2 : (ws.map rdC)[2 * i + 1]? = some (rdC ws[2 * i + 1]) := by rw [List.getElem?_map, List.getElem?_eq_getElem b2]; rfl
        have a1 : atI ((ws.map rdC).map V.int) (0 + ((i : Nat) : Int) * 2) = some (.int (rdC ws[2 * i])) := by
          rw [show (0 + ((i : Nat) : Int) * 2) = ((2 * i : Nat) : Int) by omega]
          exact atI_nat (by rw [List.getElem?_map, g1]; rfl)
        have a2 : atI ((ws.map rdC).map V.int) (0 + ((i : Nat) : Int) * 2 + 1) = some (.int (rdC ws[2 * i + 1])) := by
          rw [show (0 + ((i : Nat) : Int) * 2 + 1) = ((2 * i + 1 : Nat) : Int) by omega]
          exact atI_nat (by rw [List.getElem?_map, g2]; rfl)
        refine ⟨rfl, _, rfl, _, rfl, D, _, _, _, rfl, rfl, SqL.of (s2 _ _ eD), a1, _, rfl, _, rfl, _, _, rfl, rfl, D, _, _, _, rfl, rfl, SqL.of (s2 _ _ eD), a2, ?_⟩
        refine ⟨(by show 2 ≤ sizeLine; decide), fun t ht => ?_⟩
        have st := same_new (o := .tup [.int (rdC ws[2 * i]), .int (rdC ws[2 * i + 1])]) ht
        have la : acc.length ≤ 1000 := by
          rw [fA.len, List.length_map, List.length_take]
          exact Nat.le_trans (Nat.min_le_left _ _) (by omega)
        refine ⟨acc, st _ _ eA, Nat.lt_of_lt_of_le (show acc.length < 1001 by omega) (by decide), same_upd (s2.trans st) hD2, acc ++ [.ref t], upd_same, FzAll.mv (tups_lst (st _ _ eA)) ?_⟩
        rw [GD.take_next (prs_get _ _ _ _ g1 g2), List.map_append]
        exact (fA.same st).snoc (.tup upd_same (.cons (.int _) (.cons (.int _) .nil)))
      · rintro H' ⟨s2, acc, eA, fA⟩
        rw [List.take_of_length_le (by rw [prs_len, List.length_map]; exact Nat.le_refl _)] at fA
        refine ⟨D2, _, rfl, .inl ⟨SqL.of eA, fun t ht => ?_⟩⟩
        have st := same_new (o := .tup acc) ht
        exact q _ _ ((s1.trans s2).trans st) (.tup upd_same (fA.same st))
end
end K73
namespace GD
open PySem PySem.Spec PyProof.Rows L2
theorem drop_min {α : Type} (l : List α) (a : Nat) : l.drop (min a l.length) = l.drop a := by
  by_cases h : a ≤ l.length
  · rw [Nat.min_eq_left h]
  · rw [Nat.min_eq_right (by omega), List.drop_length, List.drop_eq_nil_of_le (by omega)]
theorem cut_strs (ws : List Str) (a b : Nat) : cutV (ws.map V.str) (some (a : Int)) (some (b : Int)) = (((ws.drop a).take (b - a)).map V.str) := by
  unfold cutV
  rw [HT.sIx_nat, HT.sIx_nat, drop_min, List.map_take, List.map_drop, List.length_map]
  by_cases h : a ≤ ws.length
  · rw [Nat.min_eq_left h]
    by_cases hb : b ≤ ws.length
    · rw [Nat.min_eq_left hb]
    · rw [Nat.min_eq_right (by omega), List.take_of_length_le (by rw [List.length_drop, List.length_map]; exact Nat.le_refl _), List.take_of_length_le (by rw [List.length_drop, List.length_map]; omega)]
  · rw [List.drop_eq_nil_of_le (show (ws.map V.str).length ≤ a by rw [List.length_map]; omega), List.take_nil, List.take_nil]
theorem cut_strs_end (ws : List Str) (a : Nat) : cutV (ws.map V.str) (some (a : Int)) none = ((ws.drop a).map V.str) := by
  unfold cutV
  rw [HT.sIx_nat, HT.sIx_none, drop_min, List.map_drop, List.take_of_length_le]
  rw [List.length_drop]
  by_cases h : a ≤ (ws.map V.str).length
  · rw [Nat.min_eq_left h]
    exact Nat.le_refl _
  · omega
theorem at_str {ws : List Str} {j : Nat} {x : Str} (h : ws[j]? = some x) : atI (ws.map V.str) (j : Int) = some (.str x) := atI_nat (by rw [List.getElem?_map, h]; rfl)
/-- what read_fact tells -/
def rdF (k : Nat) (ws : List Str) : PyData :=
  if ws.length = 1 + 2 * k then .tuple [.str (ws.headD ""), eS (prs (((ws.drop 1).take (2 * k)).map rdC))]
  else if ws.length = 2 * (1 + 2 * k) ∧ ws[1 + 2 * k]? = some ("to" : Str) then .tuple [.str (ws.headD ""), eS (prs (((ws.drop 1).take (2 * k)).map rdC)), eS (prs ((ws.drop (1 + 2 * k + 1)).map rdC))]
  else .none
def spRdF : Sp := fun vs H Q _ => ∃ (l : Addr) (ws : List Str) (k : Nat), vs = [.ref l, .int k] ∧ H l = some (.lst (ws.map V.str)) ∧ ws.length ≤ 1000 ∧ k ≤ 100 ∧ (∀ x ∈ ws, x.length ≤ sizeLine) ∧ ∀ v H', Same H H' → Fz H' v (rdF k ws) → Q v H'
end GD
namespace K73
open PySem PySem.Spec PyProof.Rows L2 GD
section
variable {P : Program} {w : World} {K : PySem.W.Frag} {mg : Str → Option Value} {base : Heap}
abbrev NRf : List Str := ["words", "many", "middle", "here"]
theorem scR2 : FnScope NRf ["words", "many"] (defScope pReadFact) := ⟨rfl, rfl, rfl, by decide +kernel, rfl, by decide +kernel, by decide +kernel⟩
theorem ok_rdfact {f fC fN : Addr} {fd fdC fdN : FuncData} (F : Fun K "read_fact" "read_fact" pReadFact f fd) (S : Reads1 mg) (AC : AtC K mg fC fdC) (AN : At K mg "read_standing" pReadStn ["words"] fN fdN) : FnOk P w K mg base CX0 4 f fd ["words", "many"] spRdF := by
  have GN : FnOk P w K mg base CX0 3 fN fdN ["words"] spRdStn := ok_rdstn AN.F S AC
  refine F.ok scR2 (fun vs H Q E h => ?_) (fun cdv A outer s H vs Q E hr h => ?_)
  · obtain ⟨l, ws, k, rfl, _⟩ := h
    rfl
  · obtain ⟨l, ws, k, rfl, hl, hw, hk, hwl, q⟩ := h
    refine ⟨_, pss_cons (ps_set (i := 2) scR2.nd rfl (.inl rfl) (pe_op op_add pe_int (pe_op op_mul pe_int (pv 1))))
      (pss_cons (ps_set (i := 3) scR2.nd rfl (.inl rfl) (pe_call GN hr rfl AN.g AN.F.kp AN.b .nil pass0 (pa_cons (pe_slice sl_list (pv 0) (po_some pe_int) (po_some (pv 2))) pa_nil)))
      (pss_cons (ps_if (pt_cmpR op_eq (pe_callB call_len_seq (by rfl) S.f.len PySem.boot_len (pa_cons (pv 0) pa_nil)) (pv 2) (nomark _)) (pss_one (ps_ret (pe_tup (pa_cons (pe_ix ix_list (pv 0) pe_int (fun _ _ => rfl)) (pa_cons (pv 3) pa_nil))))) pss_nil)
      (pss_cons (ps_if (pw_and (pt_cmpR op_eq (pe_callB call_len_seq (by rfl) S.f.len PySem.boot_len (pa_cons (pv 0) pa_nil)) (pe_op op_mul pe_int (pv 2)) (nomark _)) (pw_and1 (pt_cmpR op_eq (pe_ix ix_list (pv 0) (pv 2) (fun _ _ => rfl)) pe_str (nomark _)))).pt
        (pss_one (ps_ret (pe_tup (pa_cons (pe_ix ix_list (pv 0) pe_int (fun _ _ => rfl)) (pa_cons (pv 3) (pa_cons (pe_call GN hr rfl AN.g AN.F.kp AN.b .nil pass0 (pa_cons (pe_slice sl_list (pv 0) (po_some (pe_op op_add (pv 2) pe_int)) po_none) pa_nil)) pa_nil)))))) pss_nil)
      (pss_one (ps_ret pe_non))))), ?_⟩
    refine ⟨_, rfl, _, _, rfl, rfl, .inl ⟨by decide, by decide⟩, _, _, rfl, rfl, ?_⟩
    have em : (1 + 2 * (k : Int)) = ((1 + 2 * k : Nat) : Int) := by omega
    show tSeq _ _ _ ([some (.ref l), some (.int k), some (.int (1 + 2 * (k : Int))), none] : L2.St) _
    rw [em]
    generalize hm : 1 + 2 * k = m
    refine ⟨_, rfl, _, rfl, _, rfl, _, rfl, l, _, rfl, SqL.of hl, fun p hp => ?_⟩
    have sp := same_new (o := .lst (cutV (ws.map V.str) (some 1) (some (m : Int)))) hp
    have ep : (upd H p (.lst (cutV (ws.map V.str) (some 1) (some (m : Int))))) p = some (.lst (((ws.drop 1).take (2 * k)).map V.str)) := by
      rw [upd_same, show (some (1 : Int)) = some ((1 : Nat) : Int) from rfl, cut_strs, ← hm, Nat.add_sub_cancel_left]
    generalize upd H p (.lst (cutV (ws.map V.str) (some 1) (some (m : Int)))) = H1 at sp ep ⊢
    refine ⟨p, _, rfl, ep, ?_, ?_, fun v1 H2 s2 f1 => ?_⟩
    · rw [List.length_take]
      exact Nat.le_trans (Nat.min_le_left _ _) (by omega)
    · exact fun x hx => hwl x (List.mem_of_mem_drop (List.mem_of_mem_take hx))
    have s02 := sp.trans s2
    have el := s02 _ _ hl
    have lw : (ws.map V.str).length = ws.length := List.length_map ..
    refine ⟨_, rfl, l, _, rfl, .inl (SqL.of el), _, rfl, rfl, _, rfl, ?_⟩
    by_cases h1 : ws.length = m
    · rw [decide_eq_true (show V.int ((ws.map V.str).length : Int) = V.int (m : Int) by rw [lw, h1])]
      refine iteT ?_
      cases ws with
      | nil => exact absurd h1 (by show ¬ 0 = m; omega)
      | cons w0 r =>
        refine ⟨_, rfl, l, _, 0, _, rfl, rfl, SqL.of el, at0, _, rfl, (by show 2 ≤ sizeLine; decide), fun t ht => ?_⟩
        have st := same_new (o := .tup [.str w0, v1]) ht
        refine q _ _ (s02.trans st) ?_
        rw [rdF, if_pos (by omega)]
        exact .tup upd_same (.cons (.str _) (.cons (f1.same st) .nil))
    · rw [decide_eq_false (show ¬ V.int ((ws.map V.str).length : Int) = V.int (m : Int) from fun z => h1 (by rw [← lw]; exact Int.ofNat_inj.mp (V.int.inj z)))]
      refine iteF ?_
      have none_ : ¬ (ws.length = 2 * m ∧ ws[m]? = some ("to" : Str)) → Q .non H2 := fun z => q _ _ s02 (by
        rw [rdF, if_neg (by omega), hm, if_neg z]
        exact .non)
      refine ⟨_, rfl, l, _, rfl, .inl (SqL.of el), _, rfl, _, _, rfl, rfl, .inl ⟨by decide, by decide⟩, rfl, _, rfl, ?_⟩
      by_cases h2 : ws.length = 2 * m
      · rw [decide_eq_true (show V.int ((ws.map V.str).length : Int) = V.int (2 * (m : Int)) by rw [lw, h2]; congr 1)]
        refine iteT ?_
        have hlt : m < ws.length := by omega
        have ga : ws[m]? = some ws[m] := List.getElem?_eq_getElem hlt
        refine ⟨_, rfl, _, rfl, l, _, _, _, rfl, rfl, SqL.of el, at_str ga, rfl, _, rfl, ?_⟩
        by_cases h3 : ws[m] = ("to" : Str)
        · rw [decide_eq_true (show V.str ws[m] = V.str "to" by rw [h3])]
          refine iteT ?_
          have hfin : ∀ v2 H3, Same H2 H3 → Fz H3 v2 (eS (prs ((ws.drop (m + 1)).map rdC))) → ∀ w0 r, ws = w0 :: r → ∀ t, H3 t = none → Q (.ref t) (upd H3 t (.tup [.str w0, v1, v2])) := fun v2 H3 s3 f2 w0 r ew t ht => by
            have st := same_new (o := .tup [.str w0, v1, v2]) ht
            refine q _ _ ((s02.trans s3).trans st) ?_
            rw [rdF, if_neg (by omega), hm, if_pos ⟨h2, by rw [ga, h3]⟩]
            refine .tup upd_same (.cons ?_ (.cons ((f1.same s3).same st) (.cons (f2.same st) .nil)))
            rw [ew]
            exact .str _
          have hw0 : ∃ w0 r, ws = w0 :: r := by
            cases e : ws with
            | nil =>
              rw [e] at hlt
              exact absurd hlt (by show ¬ m < 0; omega)
            | cons w0 r => exact ⟨w0, r, rfl⟩
          obtain ⟨w0, r, ew⟩ := hw0
          have a0 : atI (ws.map V.str) 0 = some (.str w0) := by
            rw [ew]
            exact at0
          refine ⟨_, rfl, l, _, 0, _, rfl, rfl, SqL.of el, a0, _, rfl, _, rfl, _, rfl, _, _, rfl, rfl, _, rfl, ?_⟩
          dsimp only [tNoPart]
          refine ⟨l, _, rfl, SqL.of el, fun p2 hp2 => ?_⟩
          have em1 : ((m : Int) + 1) = ((m + 1 : Nat) : Int) := by omega
          rw [em1, cut_strs_end]
          have sp2 := same_new (o := .lst ((ws.drop (m + 1)).map V.str)) hp2
          refine ⟨p2, _, rfl, upd_same, ?_, fun x hx => hwl x (List.mem_of_mem_drop hx), fun v2 H3 s3 f2 => ?_⟩
          · rw [List.length_drop]
            omega
          · exact ⟨(by show 3 ≤ sizeLine; decide), fun t ht => hfin v2 H3 (sp2.trans s3) f2 w0 r ew t ht⟩
        · rw [decide_eq_false (show ¬ V.str ws[m] = V.str "to" from fun z => h3 (V.str.inj z))]
          refine iteF ?_
          exact none_ fun z => h3 (by rw [ga] at z; exact Option.some.inj z.2)
      · rw [decide_eq_false (show ¬ V.int ((ws.map V.str).length : Int) = V.int (2 * (m : Int)) from fun z => h2 (by rw [lw] at z; have := V.int.inj z; omega))]
        refine iteF (iteF ?_)
        exact none_ fun z => h2 z.1
end
end K73
namespace GD
open PySem PySem.Spec PyProof.Rows L2
/-- a list or a tuple, walked -/
def iSeq (K : PySem.W.Frag) (t : TE) : TI := fun σ H R => iList K t σ H R ∨ iTup K t σ H R
theorem pi_seq {X : Cx} {tg l : Expr} {t : TE} (h : PE X l t) : PI X tg l (iSeq X.K t) := ⟨fun pins s σ H R I q => q.elim (fun q => (pi_list h).run pins s σ H R I q) fun q => (pi_tup h).run pins s σ H R I q⟩
/-- a list or a tuple of frozen data -/
def SqAt (H : Hp) (l : Addr) (ds : List PyData) : Prop := ∃ xs, (H l = some (.lst xs) ∨ H l = some (.tup xs)) ∧ FzAll H xs ds
def lim (x : Str) : Nat := if x = ("let" : Str) then 24 else if x = ("not" : Str) then 6 else 4
def IsKind (x : Str) : Prop := x = ("let" : Str) ∨ x = ("not" : Str) ∨ x = ("as" : Str)
theorem kindS_is (f : Fact) : IsKind (kindS f) := by
  cases f
  · exact .inl rfl
  · exact .inr (.inl rfl)
  · exact .inr (.inr rfl)
def spFull : Sp := fun vs H Q _ => ∃ (l : Addr) (x : Str) (fs : List Fact), vs = [.ref l, .str x] ∧ SqAt H l (fs.map eF) ∧ fs.length ≤ 1000 ∧ IsKind x ∧ ∀ H', Same H H' → Q (.bl (decide (lim x ≤ cnt x fs))) H'
theorem cnt_take {x : Str} {fs : List Fact} {i : Nat} {f : Fact} (h : fs[i]? = some f) : cnt x (fs.take (i + 1)) = cnt x (fs.take i) + one3 f x := by rw [GD.take_next h, cnt_snoc]
end GD
namespace K73
open PySem PySem.Spec PyProof.Rows L2 GD
section
variable {P : Program} {w : World} {K : PySem.W.Frag} {mg : Str → Option Value} {base : Heap}
/-- the table of bounds -/
def Told (K : PySem.W.Frag) (w : World) (mg : Str → Option Value) : Prop := ∃ p, mg "MOST_TOLD" = some (.ref p) ∧ ∀ x, IsKind x → KDct K w p x (.int (lim x))
abbrev NFu : List Str := ["facts", "kind", "fact"]
theorem scFu : FnScope NFu ["facts", "kind"] (defScope pIsFull) := ⟨rfl, rfl, rfl, by decide +kernel, rfl, by decide +kernel, by decide +kernel⟩
theorem ok_isfull {f : Addr} {fd : FuncData} (F : Fun K "is_full" "is_full" pIsFull f fd) (S : Forms1 mg) (T : Told K w mg) : FnOk P w K mg base CX0 1 f fd ["facts", "kind"] spFull := by
  refine F.ok scFu (fun vs H Q E h => ?_) (fun cdv A outer s H vs Q E hr h => ?_)
  · obtain ⟨l, x, fs, rfl, _⟩ := h
    rfl
  · obtain ⟨l, x, fs, rfl, ⟨xs, hl, fx⟩, h10, hk, q⟩ := h
    obtain ⟨tp, gt, dt⟩ := T
    refine ⟨_, pss_one (ps_ret (pe_cmpR op_ge (pe_callB call_len_seq (by rfl) S.len PySem.boot_len (pa_cons (pe_lc (own := [("fact", 2)]) (g := gName 2) rfl scFu.nd (pi_seq (pv 0)) (blkOk_by (N := NFu) (sc := defScope pIsFull) (by decide +kernel))
        (fun _ _ _ _ _ => pg_name (i := 2) scFu.nd rfl (.inl rfl)) (fun _ _ _ _ _ => pts_one (pt_cmpR op_eq (pe_ix (r := rIxT K) ix_tup (pv 2) pe_int (fun _ _ => rfl)) (pv 1) (nomark _))) (fun _ _ _ _ _ => pv 2)) pa_nil))
      (pe_ix (r := rIxD K w) ix_kdict (pe_glob (v := .ref tp) (by rfl) gt rfl) (pv 1) (fun _ _ => rfl)) (nomark _))), ?_⟩
    have lx : xs.length = fs.length := by rw [fx.len, List.length_map]
    have tu : ∀ {H' : Hp}, Same H H' → FzAll H' xs (fs.map eF) := fun s => fx.same s
    have body : ∀ (D : Addr), H D = none → ∀ (i : Nat) (v : V) (H' : Hp), xs[i]? = some v → (Same H H' ∧ ∃ acc, H' D = some (.lst acc) ∧ acc.length = cnt x (fs.take i)) →
        ∃ b r f, fs[i]? = some f ∧ v = .ref b ∧ H' b = some (.tup (.str (kindS f) :: r)) ∧ ∃ acc, H' D = some (.lst acc) ∧ acc.length < sizeLine ∧ (kindS f = x → Same H (upd H' D (.lst (acc ++ [v]))) ∧ (acc ++ [v]).length = cnt x (fs.take (i + 1))) ∧ (kindS f ≠ x → acc.length = cnt x (fs.take (i + 1))) := by
      rintro D D0 i v H' hv ⟨s1, acc, eA, la⟩
      obtain ⟨f0, hf0, fz⟩ := (tu s1).atM hv
      obtain ⟨b, r, rfl, hb⟩ := fz.fact
      have hi : i < fs.length := (List.getElem?_eq_some_iff.mp hf0).1
      have ct : cnt x (fs.take i) ≤ i := by
        unfold GD.cnt
        exact Nat.le_trans (List.length_filter_le _ _) (by rw [List.length_take]; exact Nat.min_le_left _ _)
      refine ⟨b, r, f0, hf0, rfl, hb, acc, eA, Nat.lt_of_lt_of_le (show acc.length < 1001 by omega) (by decide), fun e => ⟨same_upd s1 D0, ?_⟩, fun e => ?_⟩
      · rw [cnt_take hf0, List.length_append, la, one3, if_pos e]
        rfl
      · rw [cnt_take hf0, la, one3, if_neg e]
        rfl
    rcases hl with hl | hl
    · refine .inl ⟨_, rfl, l, rfl, ⟨_, SqL.of hl⟩, fun D hD => ?_⟩
      refine lc_it (walk_list (K := K) (a := l) (xs := xs)) (fun i H' => Same H H' ∧ ∃ acc, H' D = some (.lst acc) ∧ acc.length = GD.cnt x (fs.take i)) ⟨same_new hD, [], upd_same, rfl⟩ (fun i H' _ ⟨s1, _⟩ => SqL.of (s1 _ _ hl)) ?_ ?_
      · rintro i v Hx H' hi hP ⟨rfl, hv⟩
        obtain ⟨b, r, f0, hf0, rfl, hb, acc, eA, la, h1, h2⟩ := body D hD i v _ hv hP
        refine ⟨rfl, _, rfl, b, _, 0, _, rfl, rfl, SqT.of hb, at0, _, rfl, rfl, _, rfl, ?_⟩
        by_cases e : kindS f0 = x
        · rw [decide_eq_true (show V.str (kindS f0) = V.str x by rw [e])]
          refine iteT ⟨_, rfl, acc, eA, la, (h1 e).1, _, upd_same, (h1 e).2⟩
        · rw [decide_eq_false (show ¬ V.str (kindS f0) = V.str x from fun z => e (V.str.inj z))]
          exact iteF ⟨hP.1, acc, eA, h2 e⟩
      · rintro H' ⟨s1, acc, eA, la⟩
        rw [lx, List.take_length] at la
        refine ⟨D, acc, rfl, .inl (SqL.of eA), _, rfl, tp, x, _, rfl, rfl, dt x hk, _, _, rfl, rfl, ?_⟩
        have z := q H' s1
        rw [← la, show decide (lim x ≤ acc.length) = (decide (((lim x : Nat) : Int) ≤ (acc.length : Int))) from decide_eq_decide.mpr (by omega)] at z
        exact z
    · refine .inr ⟨_, rfl, l, rfl, ⟨_, SqT.of hl⟩, fun D hD => ?_⟩
      refine lc_it (walk_tup (K := K) (a := l) (xs := xs)) (fun i H' => Same H H' ∧ ∃ acc, H' D = some (.lst acc) ∧ acc.length = GD.cnt x (fs.take i)) ⟨same_new hD, [], upd_same, rfl⟩ (fun i H' _ ⟨s1, _⟩ => SqT.of (s1 _ _ hl)) ?_ ?_
      · rintro i v Hx H' hi hP ⟨rfl, hv⟩
        obtain ⟨b, r, f0, hf0, rfl, hb, acc, eA, la, h1, h2⟩ := body D hD i v _ hv hP
        refine ⟨rfl, _, rfl, b, _, 0, _, rfl, rfl, SqT.of hb, at0, _, rfl, rfl, _, rfl, ?_⟩
        by_cases e : kindS f0 = x
        · rw [decide_eq_true (show V.str (kindS f0) = V.str x by rw [e])]
          refine iteT ⟨_, rfl, acc, eA, la, (h1 e).1, _, upd_same, (h1 e).2⟩
        · rw [decide_eq_false (show ¬ V.str (kindS f0) = V.str x from fun z => e (V.str.inj z))]
          exact iteF ⟨hP.1, acc, eA, h2 e⟩
      · rintro H' ⟨s1, acc, eA, la⟩
        rw [lx, List.take_length] at la
        refine ⟨D, acc, rfl, .inl (SqL.of eA), _, rfl, tp, x, _, rfl, rfl, dt x hk, _, _, rfl, rfl, ?_⟩
        have z := q H' s1
        rw [← la, show decide (lim x ≤ acc.length) = (decide (((lim x : Nat) : Int) ≤ (acc.length : Int))) from decide_eq_decide.mpr (by omega)] at z
        exact z
end
end K73
namespace GD
open PySem PySem.Spec PyProof.Rows L2
theorem app_assoc (x y z : Str) : (x ++ y) ++ z = x ++ (y ++ z) := TL.ext_tl (by rw [TL.tl_append, TL.tl_append, TL.tl_append, TL.tl_append, List.append_assoc])
theorem join_cons {y x : Str} {zs : List Str} (h : zs ≠ []) : Txt.join y (x :: zs) = x ++ y ++ Txt.join y zs := by
  rw [TL.join_eq, TL.join_eq]
  cases zs with
  | nil => exact absurd rfl h
  | cons z r => rfl
theorem join_one {y x : Str} : Txt.join y [x] = x := by
  rw [TL.join_eq]
  rfl
theorem join_app {y : Str} : ∀ {as bs : List Str}, as ≠ [] → bs ≠ [] → Txt.join y (as ++ bs) = Txt.join y as ++ y ++ Txt.join y bs
  | [], _, h, _ => absurd rfl h
  | [a], bs, _, h => by rw [List.singleton_append, join_cons h, join_one]
  | a :: b :: r, bs, _, h => by
    rw [List.cons_append, join_cons (by simp), join_app (as := b :: r) (by simp) h, join_cons (zs := b :: r) (by simp)]
    simp only [app_assoc]
def wS (s : Stn) : List Str := s.flatMap fun p => [nT p.1, nT p.2]
theorem wS_cons (p : Int × Int) (s : Stn) : wS (p :: s) = nT p.1 :: nT p.2 :: wS s := rfl
theorem wS_len : ∀ s : Stn, (wS s).length = 2 * s.length
  | [] => rfl
  | p :: s => by
    rw [wS_cons, List.length_cons, List.length_cons, wS_len s, List.length_cons]
    omega
theorem wS_ne {s : Stn} (h : s ≠ []) : wS s ≠ [] := by
  cases s with
  | nil => exact absurd rfl h
  | cons p s => rw [wS_cons]; simp
theorem sT_words : ∀ {s : Stn}, s ≠ [] → sT s = Txt.join " " (wS s)
  | [], h => absurd rfl h
  | [p], _ => by
    rw [sT, List.map_singleton, join_one, wS_cons, join_cons (by simp)]
    show pT p = nT p.1 ++ " " ++ Txt.join " " [nT p.2]
    rw [join_one]
    rfl
  | p :: q :: s, _ => by
    have ih := sT_words (s := q :: s) (by simp)
    rw [sT] at ih
    have ne : nT p.2 :: wS (q :: s) ≠ [] := fun z => by cases z
    rw [sT, List.map_cons, join_cons (by simp), ih, wS_cons p (q :: s), join_cons ne, join_cons (wS_ne (fun z => by cases z)), pT]
    simp only [app_assoc]
theorem prs_wS {n : Int} : ∀ {s : Stn}, Bd n s → n < 100 → prs ((wS s).map rdC) = s
  | [], _, _ => rfl
  | p :: s, h, hn => by
    have z := h p List.mem_cons_self
    obtain ⟨a, ha⟩ := Int.eq_ofNat_of_zero_le (show 0 ≤ p.1 by omega)
    obtain ⟨b, hb⟩ := Int.eq_ofNat_of_zero_le (show 0 ≤ p.2 by omega)
    rw [wS_cons, List.map_cons, List.map_cons, prs, prs_wS (fun q hq => h q (List.mem_cons_of_mem _ hq)) hn]
    rw [show rdC (nT p.1) = p.1 by rw [ha]; exact rdC_num (by omega), show rdC (nT p.2) = p.2 by rw [hb]; exact rdC_num (by omega)]
def wF : Fact → List Str
  | .let_ s => ("let" : Str) :: wS s
  | .not_ s => ("not" : Str) :: wS s
  | .as_ s t => (("as" : Str) :: wS s) ++ (("to" : Str) :: wS t)
theorem fT_words {k : Nat} {n : Int} {f : Fact} (h : FactB k n f) (hk : 1 ≤ k) : fT f = Txt.join " " (wF f) := by
  have ne : ∀ s : Stn, s.length = k → s ≠ [] := fun s e z => by
    rw [z] at e
    have z2 : 0 = k := e
    omega
  cases f with
  | let_ s =>
    rw [fT, wF, join_cons (wS_ne (ne s h.1)), sT_words (ne s h.1)]
  | not_ s =>
    rw [fT, wF, join_cons (wS_ne (ne s h.1)), sT_words (ne s h.1)]
  | as_ s t =>
    rw [fT, wF, join_app (fun z => by cases z) (fun z => by cases z), join_cons (wS_ne (ne s h.1)), join_cons (wS_ne (ne t h.2.2.1)), sT_words (ne s h.1), sT_words (ne t h.2.2.1)]
    rw [show ("as " : Str) = "as" ++ " " from rfl, show (" to " : Str) = " " ++ ("to" ++ " ") from rfl]
    simp only [app_assoc]
/-- a sign that no number has -/
def Free (c : Nat) (x : Str) : Prop := c ∉ TL.tl x
theorem free_nT {c : Nat} {i : Int} (h0 : 0 ≤ i) (hc : c < 48 ∨ 57 < c) : Free c (nT i) := by
  obtain ⟨n, rfl⟩ := Int.eq_ofNat_of_zero_le h0
  unfold Free
  rw [nT, TL.tl_num]
  exact TL.numL_free hc
theorem free_wS {c : Nat} {n : Int} {s : Stn} (h : Bd n s) (hc : c < 48 ∨ 57 < c) : ∀ x ∈ wS s, Free c x := fun x hx => by
  obtain ⟨p, hp, hm⟩ := List.mem_flatMap.mp hx
  have z := h p hp
  rcases List.mem_cons.mp hm with e | e
  · rw [e]
    exact free_nT (by omega) hc
  · rw [List.mem_singleton.mp e]
    exact free_nT (by omega) hc
theorem free_wF {c : Nat} {k : Nat} {n : Int} {f : Fact} (h : FactB k n f) (hc : c < 48) : ∀ x ∈ wF f, Free c x := fun x hx => by
  have lets : ∀ w : Str, w = ("let" : Str) ∨ w = ("not" : Str) ∨ w = ("as" : Str) ∨ w = ("to" : Str) → Free c w := fun w hw => by
    have all : ∀ d ∈ TL.tl w, 97 ≤ d := by rcases hw with e | e | e | e <;> rw [e] <;> decide
    intro m
    have := all c m
    omega
  cases f with
  | let_ s =>
    rcases List.mem_cons.mp hx with e | e
    · exact lets x (.inl e)
    · exact free_wS h.2 (.inl hc) x e
  | not_ s =>
    rcases List.mem_cons.mp hx with e | e
    · exact lets x (.inr (.inl e))
    · exact free_wS h.2 (.inl hc) x e
  | as_ s t =>
    rcases List.mem_append.mp hx with e | e
    · rcases List.mem_cons.mp e with e | e
      · exact lets x (.inr (.inr (.inl e)))
      · exact free_wS h.2.1 (.inl hc) x e
    · rcases List.mem_cons.mp e with e | e
      · exact lets x (.inr (.inr (.inr e)))
      · exact free_wS h.2.2.2.1 (.inl hc) x e
theorem split_sp {ws : List Str} (h0 : ws ≠ []) (h : ∀ x ∈ ws, Free 32 x) : Txt.split (Txt.join " " ws) " " = ws := TL.split_join (s := 32) (S := []) rfl (by decide +kernel) h0 h
theorem split_nl {ws : List Str} (h0 : ws ≠ []) (h : ∀ x ∈ ws, Free 10 x) : Txt.split (Txt.join "\n" ws) "\n" = ws := TL.split_join (s := 10) (S := []) rfl (by decide +kernel) h0 h
theorem wF_ne (f : Fact) : wF f ≠ [] := by cases f <;> exact fun z => by cases z
theorem split_fT {k : Nat} {n : Int} {f : Fact} (h : FactB k n f) (hk : 1 ≤ k) : Txt.split (fT f) " " = wF f := by
  rw [fT_words h hk]
  exact split_sp (wF_ne f) (free_wF h (by decide))
theorem rdF_wF {k : Nat} {n : Int} {f : Fact} (h : FactB k n f) (hn : n < 100) : rdF k (wF f) = eF f := by
  cases f with
  | let_ s =>
    have l := wS_len s
    rw [h.1] at l
    rw [wF, rdF, if_pos (by rw [List.length_cons, l]; omega), List.drop_one, List.tail_cons, List.take_of_length_le (by omega), prs_wS h.2 hn]
    rfl
  | not_ s =>
    have l := wS_len s
    rw [h.1] at l
    rw [wF, rdF, if_pos (by rw [List.length_cons, l]; omega), List.drop_one, List.tail_cons, List.take_of_length_le (by omega), prs_wS h.2 hn]
    rfl
  | as_ s t =>
    have l := wS_len s
    rw [h.1] at l
    have l2 := wS_len t
    rw [h.2.2.1] at l2
    have hl : (("as" : Str) :: wS s).length = 1 + 2 * k := by rw [List.length_cons, l]; omega
    have hl2 : (("as" : Str) :: wS s ++ ("to" : Str) :: wS t).length = 2 * (1 + 2 * k) := by rw [List.length_append, hl, List.length_cons, l2]; omega
    have d1 : (((("as" : Str) :: wS s) ++ (("to" : Str) :: wS t)).drop 1).take (2 * k) = wS s := by
      rw [List.cons_append, List.drop_one, List.tail_cons, ← l, List.take_left]
    have d2 : ((("as" : Str) :: wS s) ++ (("to" : Str) :: wS t)).drop (1 + 2 * k + 1) = wS t := by
      rw [show (1 + 2 * k + 1) = (("as" : Str) :: wS s).length + 1 by rw [hl], List.drop_append]
      simp
    have d3 : (((("as" : Str) :: wS s) ++ (("to" : Str) :: wS t)))[1 + 2 * k]? = some ("to" : Str) := by
      rw [← hl, List.getElem?_append_right (Nat.le_refl _), Nat.sub_self]
      rfl
    rw [wF, rdF, if_neg (by rw [hl2]; omega), if_pos ⟨hl2, d3⟩, d1, d2, prs_wS h.2.1 hn, prs_wS h.2.2.2.1 hn]
    rfl
end GD
namespace GD
open PySem PySem.Spec PyProof.Rows L2
theorem eqv_eP {p q : Int × Int} (h : PyData.eqv (eP p) (eP q) = true) : p = q := by
  rw [eP, eP, PyData.eqv, PyData.eqvAll, PyData.eqvAll, PyData.eqvAll, PyData.eqv, PyData.eqv, Bool.and_true, Bool.and_eq_true, beq_iff_eq, beq_iff_eq] at h
  exact Prod.ext h.1 h.2
theorem eqv_allP : ∀ {s t : Stn}, PyData.eqvAll (s.map eP) (t.map eP) = true → s = t
  | [], [], _ => rfl
  | [], q :: t, h => by
    rw [List.map_nil, List.map_cons, PyData.eqvAll] at h
    cases h
  | p :: s, [], h => by
    rw [List.map_nil, List.map_cons, PyData.eqvAll] at h
    cases h
  | p :: s, q :: t, h => by
    rw [List.map_cons, List.map_cons, PyData.eqvAll, Bool.and_eq_true] at h
    rw [eqv_eP h.1, eqv_allP h.2]
theorem eqv_eS {s t : Stn} (h : PyData.eqv (eS s) (eS t) = true) : s = t := by
  rw [eS, eS, PyData.eqv] at h
  exact eqv_allP h
theorem eqv_two {x y : Str} {d e : PyData} (h : PyData.eqv (.tuple [.str x, d]) (.tuple [.str y, e]) = true) : x = y ∧ PyData.eqv d e = true := by
  simp only [PyData.eqv, PyData.eqvAll, Bool.and_true, Bool.and_eq_true, beq_iff_eq] at h
  exact h
theorem eqv_three {x y : Str} {d e d' e' : PyData} (h : PyData.eqv (.tuple [.str x, d, d']) (.tuple [.str y, e, e']) = true) : PyData.eqv d e = true ∧ PyData.eqv d' e' = true := by
  simp only [PyData.eqv, PyData.eqvAll, Bool.and_true, Bool.and_eq_true, beq_iff_eq] at h
  exact h.2
theorem eqv_23 {d1 d2 e1 e2 e3 : PyData} (h : PyData.eqv (.tuple [d1, d2]) (.tuple [e1, e2, e3]) = true) : False := by simp [PyData.eqv, PyData.eqvAll] at h
theorem eqv_32 {d1 d2 e1 e2 e3 : PyData} (h : PyData.eqv (.tuple [e1, e2, e3]) (.tuple [d1, d2]) = true) : False := by simp [PyData.eqv, PyData.eqvAll] at h
theorem eqv_eF : ∀ {f g : Fact}, PyData.eqv (eF f) (eF g) = true → f = g
  | .let_ s, .let_ t, h => by rw [eqv_eS (eqv_two h).2]
  | .let_ s, .not_ t, h => absurd (eqv_two h).1 (by decide)
  | .not_ s, .let_ t, h => absurd (eqv_two h).1 (by decide)
  | .not_ s, .not_ t, h => by rw [eqv_eS (eqv_two h).2]
  | .let_ s, .as_ t u, h => (eqv_23 h).elim
  | .not_ s, .as_ t u, h => (eqv_23 h).elim
  | .as_ s t, .let_ u, h => (eqv_32 h).elim
  | .as_ s t, .not_ u, h => (eqv_32 h).elim
  | .as_ s t, .as_ u v, h => by rw [eqv_eS (eqv_three h).1, eqv_eS (eqv_three h).2]
theorem not_eqv {f g : Fact} (h : f ≠ g) : PyData.eqv (eF f) (eF g) = false := by
  cases c : PyData.eqv (eF f) (eF g) with
  | false => rfl
  | true => exact absurd (eqv_eF c) h
theorem okN_of {k : Nat} {s : Stn} (h : s.length = k) (b : Bd 40 s) : okN k s = true := by
  rw [okN, decide_eq_true h, Bool.true_and]
  refine List.all_eq_true.mpr fun p hp => ?_
  have z := b p hp
  rw [okQ, decide_eq_true (by omega), decide_eq_true (by omega), decide_eq_true (by omega)]
  rfl
theorem okT_of {k : Nat} {f : Fact} (h : FactB k 40 f) : okT k f = true := by
  cases f with
  | let_ s => exact okN_of h.1 h.2
  | not_ s => exact okN_of h.1 h.2
  | as_ s t =>
    obtain ⟨k1, b1, k2, b2, ne⟩ := h
    have e : PyData.eqv (eS s) (eS t) = false := by
      cases c : PyData.eqv (eS s) (eS t) with
      | false => rfl
      | true => exact absurd (eqv_eS c) ne
    rw [okT, okN_of k1 b1, okN_of k2 b2, e]
    rfl
theorem FactB.le {k : Nat} {n m : Int} {f : Fact} (h : FactB k n f) (l : n ≤ m) : FactB k m f := by
  cases f with
  | let_ s => exact ⟨h.1, h.2.le l⟩
  | not_ s => exact ⟨h.1, h.2.le l⟩
  | as_ s t => exact ⟨h.1, h.2.1.le l, h.2.2.1, h.2.2.2.1.le l, h.2.2.2.2⟩
theorem FactB.l1 {k : Nat} {n : Int} {f : Fact} (h : FactB k n f) {s : Stn} (e : f = .let_ s ∨ f = .not_ s) : s.length = k := by
  rcases e with rfl | rfl
  · exact h.1
  · exact h.1
theorem FactB.l2 {k : Nat} {n : Int} {f : Fact} (h : FactB k n f) {s t : Stn} (e : f = .as_ s t) : s.length = k ∧ t.length = k := by
  subst e
  exact ⟨h.1, h.2.2.1⟩
/-- a statement that is never come to -/
theorem ps_no {X : Cx} {st : Stmt} : PS X st (fun _ _ _ => False) := ⟨fun _ _ _ _ _ _ h => h.elim⟩
/-- the facts of a good book -/
structure FactsOk (k : Nat) (fs : List Fact) : Prop where
  b : ∀ f ∈ fs, FactB k 40 f
  nd : fs.Nodup
  lm : ∀ x, IsKind x → GD.cnt x fs ≤ lim x
theorem cnt_pre (x : Str) (fs : List Fact) (i : Nat) : GD.cnt x (fs.take i) ≤ GD.cnt x fs := by
  unfold GD.cnt
  exact ((List.take_sublist i fs).filter _).length_le
theorem cnt_all (fs : List Fact) : fs.length = GD.cnt "let" fs + GD.cnt "not" fs + GD.cnt "as" fs := by
  induction fs with
  | nil => rfl
  | cons f r ih =>
    have e : ∀ x, GD.cnt x (f :: r) = one3 f x + GD.cnt x r := fun x => by
      unfold GD.cnt one3
      rw [List.filter_cons]
      by_cases h : kindS f = x
      · rw [if_pos (decide_eq_true h), if_pos h, List.length_cons]
        omega
      · rw [if_neg (by simp [h]), if_neg h]
        omega
    rw [List.length_cons, ih, e, e, e]
    have z : one3 f "let" + one3 f "not" + one3 f "as" = 1 := by cases f <;> rfl
    omega
theorem FactsOk.len {k : Nat} {fs : List Fact} (h : FactsOk k fs) : fs.length ≤ 34 := by
  have a := h.lm "let" (.inl rfl)
  have b := h.lm "not" (.inr (.inl rfl))
  have c := h.lm "as" (.inr (.inr rfl))
  have e := cnt_all fs
  have l1 : lim "let" = 24 := rfl
  have l2 : lim "not" = 6 := rfl
  have l3 : lim "as" = 4 := rfl
  omega
theorem FactsOk.room {k : Nat} {fs : List Fact} (h : FactsOk k fs) {i : Nat} {f : Fact} (e : fs[i]? = some f) : GD.cnt (kindS f) (fs.take i) < lim (kindS f) := by
  have a := h.lm (kindS f) (kindS_is f)
  have b := cnt_pre (kindS f) fs (i + 1)
  rw [cnt_take e, one3, if_pos rfl] at b
  omega
theorem FactsOk.new {k : Nat} {fs : List Fact} (h : FactsOk k fs) {i : Nat} {f : Fact} (e : fs[i]? = some f) : (((fs.take i).map eF).any fun z => PyData.eqv z (eF f)) = false := by
  refine List.any_eq_false.mpr fun d hd => ?_
  obtain ⟨g, hg, rfl⟩ := List.mem_map.mp hd
  rw [not_eqv]
  · exact fun z => by cases z
  · rintro rfl
    obtain ⟨j, hj, ej⟩ := List.getElem_of_mem hg
    have hij : j < i := by
      rw [List.length_take] at hj
      omega
    obtain ⟨hi, ei⟩ := List.getElem?_eq_some_iff.mp e
    rw [List.getElem_take] at ej
    exact List.pairwise_iff_getElem.mp h.nd j i (by omega) hi hij (by rw [ej, ei])
end GD
namespace GD
open PySem PySem.Spec PyProof.Rows L2
def spRdFs : Sp := fun vs H Q _ => ∃ (l : Addr) (ls : List Str) (st k : Nat) (fs : List Fact), vs = [.ref l, .int st, .int k] ∧ H l = some (.lst (ls.map V.str)) ∧ st ≤ ls.length ∧ ls.drop st = fs.map fT ∧ 1 ≤ k ∧ k ≤ 4 ∧ FactsOk k fs ∧ st ≤ 1000 ∧ ∀ v H', Same H H' → Fz H' v (.tuple (fs.map eF)) → Q v H'
theorem len_wF {k : Nat} {n : Int} {f : Fact} (h : FactB k n f) : (wF f).length ≤ 2 + 4 * k := by
  cases f with
  | let_ s =>
    have l := wS_len s
    rw [h.1] at l
    rw [wF, List.length_cons, l]
    omega
  | not_ s =>
    have l := wS_len s
    rw [h.1] at l
    rw [wF, List.length_cons, l]
    omega
  | as_ s t =>
    have l := wS_len s
    rw [h.1] at l
    have l2 := wS_len t
    rw [h.2.2.1] at l2
    rw [wF, List.length_append, List.length_cons, List.length_cons, l, l2]
    omega
theorem len_joined {y : Str} : ∀ {ys : List Str} {x : Str}, x ∈ ys → x.length ≤ (Txt.join y ys).length
  | [z], x, h => by
    rw [List.mem_singleton.mp h, join_one]
    exact Nat.le_refl _
  | a :: b :: r, x, h => by
    rw [join_cons (by simp), len_app, len_app]
    rcases List.mem_cons.mp h with e | e
    · rw [e]
      omega
    · have := len_joined (y := y) e
      omega
theorem len_word {k : Nat} {n : Int} {f : Fact} (h : FactB k n f) (hk : 1 ≤ k) (hk4 : k ≤ 4) (hn : n ≤ 1000) : ∀ x ∈ wF f, x.length ≤ sizeLine := fun x hx => by
  have a := len_joined (y := " ") hx
  rw [← fT_words h hk] at a
  have b := len_fT h hn
  exact small_len (by omega)
end GD
namespace K73
open PySem PySem.Spec PyProof.Rows L2 GD
section
variable {P : Program} {w : World} {K : PySem.W.Frag} {mg : Str → Option Value} {base : Heap}
/-- the forms' and the reader's defs, where they stand -/
structure Reader (K : PySem.W.Frag) (mg : Str → Option Value) (fI fB fW fP fN fF fL fR fS fC : Addr) (fdI fdB fdW fdP fdN fdF fdL fdR fdS fdC : FuncData) : Prop where
  I : At K mg "is_integer" pIsInt ["value"] fI fdI
  B : At K mg "is_number" pIsNumb ["value", "many"] fB fdB
  W : At K mg "is_word" pIsWord ["value", "words"] fW fdW
  P : At K mg "is_pair" pIsPair ["value"] fP fdP
  N : At K mg "is_standing" pIsStn ["value", "many"] fN fdN
  F : At K mg "is_fact" pIsFact ["value", "many"] fF fdF
  L : At K mg "is_full" pIsFull ["facts", "kind"] fL fdL
  R : At K mg "read_fact" pReadFact ["words", "many"] fR fdR
  S : At K mg "read_standing" pReadStn ["words"] fS fdS
  C : AtC K mg fC fdC
abbrev NFs : List Str := ["lines", "start", "many", "facts", "at", "fact"]
theorem scFs : FnScope NFs ["lines", "start", "many"] (defScope pReadFacts) := ⟨rfl, rfl, rfl, by decide +kernel, rfl, by decide +kernel, by decide +kernel⟩
theorem ok_rdfacts {f fI fB fW fP fN fF fL fR fS fC : Addr} {fd fdI fdB fdW fdP fdN fdF fdL fdR fdS fdC : FuncData} (F : Fun K "read_facts" "read_facts" pReadFacts f fd) (S : Reads1 mg) (T : Told K w mg)
    (D : Reader K mg fI fB fW fP fN fF fL fR fS fC fdI fdB fdW fdP fdN fdF fdL fdR fdS fdC) : FnOk P w K mg base CX0 5 f fd ["lines", "start", "many"] spRdFs := by
  have GR : FnOk P w K mg base CX0 4 fR fdR ["words", "many"] spRdF := ok_rdfact D.R.F S D.C D.S
  have GF : FnOk P w K mg base CX0 4 fF fdF ["value", "many"] spFact := ok_isfact D.F.F S.f D.I D.P D.N D.W
  have GL : FnOk P w K mg base CX0 1 fL fdL ["facts", "kind"] spFull := ok_isfull D.L.F S.f T
  refine F.ok scFs (fun vs H Q E h => ?_) (fun cdv A outer s H vs Q E hr h => ?_)
  · obtain ⟨l, ls, st, k, fs, rfl, _⟩ := h
    rfl
  · obtain ⟨l, ls, st, k, fs, rfl, hl, hst, hd, hk1, hk4, ok, hs, q⟩ := h
    have hr1 : Room 1 _ := hr.mono (by decide)
    have hr3 : Room 4 _ := hr.mono (by decide)
    refine ⟨_, pss_cons (ps_set (i := 3) scFs.nd rfl (.inl rfl) (pe_lst pa_nil))
      (pss_cons (ps_for PassesOwn.never rfl (pi_range2 (by rfl) S.rng (pa_cons (pv 1) (pa_cons (pe_callB call_len_seq (by rfl) S.f.len PySem.boot_len (pa_cons (pv 0) pa_nil)) pa_nil))) (pg_name (i := 4) scFs.nd rfl (.inl rfl))
        (pss_cons (ps_set (i := 5) scFs.nd rfl (.inl rfl) (pe_call GR hr3 (by rfl) D.R.g D.R.F.kp D.R.b .nil pass0 (pa_cons (pe_bm PySem.F.plainAttrs_str PySem.F.slot_str_split PySem.F.type_str_split mt_split (pe_ix ix_list (pv 0) (pv 4) (fun _ _ => rfl)) (pa_cons pe_str pa_nil)) (pa_cons (pv 2) pa_nil))))
        (pss_cons (ps_if (pw_or (pt_not (pt_val (pe_call GF hr (by rfl) D.F.g D.F.F.kp D.F.b .nil pass0 (pa_cons (pv 5) (pa_cons (pv 2) pa_nil))))) (pw_or (pt_cmpR (op_inD (u65 hr)) (pv 5) (pv 3) (by rfl))
            (pw_or1 (pt_val (pe_call GL hr1 (by rfl) D.L.g D.L.F.kp D.L.b .nil pass0 (pa_cons (pv 3) (pa_cons (pe_ix ix_tup (pv 5) pe_int (fun _ _ => rfl)) pa_nil))))))).pt (pss_one ps_no) pss_nil)
        (pss_one (ps_expr (pe_bm PySem.F.plainAttrs_list PySem.F.slot_list_append PySem.F.type_list_append mt_append (pv 3) (pa_cons (pv 5) pa_nil)))))))
      (pss_one (ps_ret (pe_callTy call_tuple_of (by rfl) S.f.tup (by decide +kernel) (pa_cons (pv 3) pa_nil))))), ?_⟩
    have lfs := ok.len
    have lls : ls.length = st + fs.length := by
      have z := congrArg List.length hd
      rw [List.length_drop, List.length_map] at z
      omega
    have llv : (ls.map V.str).length = ls.length := List.length_map ..
    refine ⟨by decide, fun p np => ?_⟩
    have s1 := same_new (o := .lst []) np
    refine ⟨_, rfl, _, rfl, l, _, rfl, .inl (SqL.of (s1 _ _ hl)), _, _, rfl, (by omega), ?_⟩
    rw [show (((ls.map V.str).length : Nat) : Int) - (st : Int) = ((fs.length : Nat) : Int) by omega, Int.toNat_natCast]
    refine for_range (lo := st) (n := fs.length) (fun i σ H' => ∃ x4 x5 : Option V, σ = [some (.ref l), some (.int st), some (.int k), some (.ref p), x4, x5] ∧ Same H H' ∧ LstAt H' p ((fs.take i).map eF)) ⟨none, none, rfl, s1, [], upd_same, .nil⟩ ?_ ?_
    · rintro i σ H1 hi ⟨x4, x5, rfl, s2, xs, ep, fx⟩
      have hf0 : fs[i]? = some fs[i] := List.getElem?_eq_getElem hi
      generalize fs[i] = f0 at hf0
      have hb0 := ok.b f0 (List.mem_of_getElem? hf0)
      have hline : ls[st + i]? = some (fT f0) := by
        rw [← List.getElem?_drop, hd, List.getElem?_map, hf0]
        rfl
      have lenl := len_fT hb0 (by decide)
      refine ⟨_, rfl, _, rfl, l, _, _, V.str (fT f0), rfl, rfl, SqL.of (s2 _ _ hl), (by rw [show (st : Int) + (i : Nat) = ((st + i : Nat) : Int) by omega]; exact at_str hline), rfl, ?_⟩
      refine ⟨_, _, rfl, rfl, rfl, small_len (by omega), fun pw npw => ?_⟩
      have sw := same_new (o := .lst ((Txt.split (fT f0) " ").map V.str)) npw
      have ew : (upd H1 pw (.lst ((Txt.split (fT f0) " ").map V.str))) pw = some (.lst ((wF f0).map V.str)) := by rw [upd_same, split_fT hb0 hk1]
      generalize upd H1 pw (.lst ((Txt.split (fT f0) " ").map V.str)) = H2 at sw ew ⊢
      have lw := len_wF hb0
      refine ⟨_, rfl, pw, wF f0, k, rfl, ew, by omega, by omega, len_word hb0 hk1 hk4 (by decide), fun v H3 s3 fz => ?_⟩
      rw [rdF_wF hb0 (by decide)] at fz
      have s13 := sw.trans s3
      have lst3 : LstAt H3 p ((fs.take i).map eF) := ⟨xs, s13 _ _ ep, fx.same s13⟩
      refine ⟨_, rfl, _, rfl, v, f0, k, rfl, fz, fun s t e => ?_, fun s e => ?_, fun H4 s4 => ?_⟩
      · have z := hb0.l2 e
        omega
      · have z := hb0.l1 e
        omega
      rw [okT_of hb0]
      refine ⟨_, rfl, iteF ?_⟩
      have lst4 := lst3.same s4
      have fz4 := fz.same s4
      refine ⟨_, rfl, _, rfl, eF f0, (fs.take i).map eF, fz4.dp, lst4.dp, shape_eF f0, shape_eFs _, ?_⟩
      rw [ok.new hf0]
      refine ⟨_, rfl, iteF ?_⟩
      obtain ⟨b, r, rfl, eb⟩ := fz4.fact
      obtain ⟨ys, ey, fy⟩ := lst4
      refine ⟨_, rfl, _, rfl, b, _, 0, _, rfl, rfl, SqT.of eb, at0, p, kindS f0, fs.take i, rfl, ⟨ys, .inl ey, fy⟩, by rw [List.length_take]; omega, kindS_is f0, fun H5 s5 => ?_⟩
      rw [decide_eq_false (show ¬ lim (kindS f0) ≤ GD.cnt (kindS f0) (fs.take i) by have := ok.room hf0; omega)]
      refine ⟨_, rfl, iteF ?_⟩
      have e5 := s5 _ _ ey
      refine ⟨_, rfl, .inl ⟨rfl, _, SqL.of e5⟩, ?_⟩
      have ly : ys.length ≤ 34 := by
        rw [fy.len, List.length_map, List.length_take]
        omega
      refine ⟨_, rfl, p, ys, _, rfl, rfl, e5, Nat.lt_of_lt_of_le (show ys.length < 35 by omega) (by decide), ?_⟩
      refine ⟨_, _, rfl, same_upd ((s2.trans s13).trans (s4.trans s5)) np, ys ++ [.ref b], upd_same, FzAll.mv (tups_lst e5) ?_⟩
      rw [GD.take_next hf0, List.map_append]
      exact (fy.same s5).snoc (fz4.same s5)
    · rintro σ H1 ⟨x4, x5, rfl, s2, xs, ep, fx⟩
      rw [List.take_length] at fx
      refine ⟨_, rfl, p, xs, rfl, .inl ⟨SqL.of ep, fun t ht => ?_⟩⟩
      have st := same_new (o := .tup xs) ht
      exact q _ _ (s2.trans st) (.tup upd_same (fx.same st))
end
end K73
namespace GD
open PySem PySem.Spec PyProof.Rows L2
/-- shown shortly: all that repr asks of a piece -/
structure Short (d : PyData) (w : Nat) : Prop where
  sh : d.showable = true
  is : PyData.intsShort 13 d = true
  wt : d.weight ≤ w
  ly : d.canLay0 = true
theorem Short.le {d : PyData} {w n : Nat} (h : Short d w) (l : w ≤ n) : Short d n := ⟨h.sh, h.is, Nat.le_trans h.wt l, h.ly⟩
/-- short, and not deep -/
structure Mild (n w : Nat) (d : PyData) : Prop where
  s : Short d w
  dep : d.depth ≤ n
theorem Mild.le {d : PyData} {n w n' w' : Nat} (h : Mild n w d) (l : n ≤ n') (l2 : w ≤ w') : Mild n' w' d := ⟨h.s.le l2, Nat.le_trans h.dep l⟩
inductive Pl : Nat → PyData → Prop
  | int {n : Nat} {i : Int} : -(10 ^ 11) ≤ i → i ≤ 10 ^ 11 → Pl (n + 1) (.int i)
  | str {n : Nat} {x : Str} : (∀ c ∈ TL.tl x, c < 128) → x.length ≤ 1000 → Pl (n + 1) (.str x)
  | tup {n : Nat} {ds : List PyData} : ds.length ≤ 100 → (∀ d ∈ ds, Pl n d) → Pl (n + 1) (.tuple ds)
theorem Pl.le {n m : Nat} {d : PyData} (h : Pl n d) : n ≤ m → Pl m d := by
  induction h generalizing m with
  | int a b =>
    intro l
    obtain ⟨k, rfl⟩ : ∃ k, m = k + 1 := ⟨m - 1, by omega⟩
    exact .int a b
  | str a b =>
    intro l
    obtain ⟨k, rfl⟩ : ∃ k, m = k + 1 := ⟨m - 1, by omega⟩
    exact .str a b
  | tup a _ ih =>
    intro l
    obtain ⟨k, rfl⟩ : ∃ k, m = k + 1 := ⟨m - 1, by omega⟩
    exact .tup a fun d hd => ih d hd (by omega)
end GD
namespace GD
open PySem PySem.Spec PyProof.Rows L2
theorem ShAll.append {H : Hp} : ∀ {xs ys : List V} {ds es : List PyData}, ShAll H xs ds → ShAll H ys es → ShAll H (xs ++ ys) (ds ++ es)
  | _, _, _, _, .nil, b => b
  | _, _, _, _, .cons a t, b => .cons a (ShAll.append t b)
theorem ShAll.get {H : Hp} : ∀ {xs : List V} {ds : List PyData} {i : Nat} {x : V}, ShAll H xs ds → xs[i]? = some x → ∃ d, ds[i]? = some d ∧ Sh H x d
  | _, _, _, _, .nil, h => by simp at h
  | _, _, 0, _, .cons a t, h => by
    simp at h
    subst h
    exact ⟨_, rfl, a⟩
  | _, _, i + 1, _, .cons a t, h => by
    obtain ⟨d, h1, h2⟩ := ShAll.get (i := i) t (by simpa using h)
    exact ⟨d, by simpa using h1, h2⟩
end GD
namespace GD
open PySem PySem.Spec PyProof.Rows L2
end GD
namespace GD
open PySem PySem.Spec PyProof.Rows HT
open L2
end GD
namespace GD
open PySem PySem.Spec PyProof.Rows L2
end GD
namespace GD
open PySem PySem.Spec PyProof.Rows L2
/-- at a: a caught error of the class cls, its dict at d -/
def exk (a : Addr) (cls : Value) (d : Option Addr) : HO := .ext fun h => ∃ (oe : Obj) (vs : Array Value), h.get? a = some oe ∧ Zc cls d oe ∧ oe.data = .fields vs
/-- a caught error of the class C at a that keeps v -/
def CgtAt (H : Hp) (a C : Addr) (v : V) : Prop := ∃ d, H a = some (exk a (.ref C) (some d)) ∧ H d = some (.xd [(("value" : Str), v)])
theorem CgtAt.same {H H' : Hp} {a C : Addr} {v : V} (k : Same H H') (h : CgtAt H a C v) : CgtAt H' a C v := by
  obtain ⟨d, h1, h2⟩ := h
  exact ⟨d, k _ _ h1, k _ _ h2⟩
end GD
namespace GD
open PySem PySem.Spec PyProof.Rows L2 LamX
end GD
namespace PySem
open Sem (wp)
theorem gd_meetsEnum {v : Value} {o : Obj} {H : Heap → Prop} (B : Begins v o H) :
    Meets (Builtin.«enumerate.__new__» ⟨[.type "enumerate", v], []⟩) (fun _ R s => H s.heap ∧
      R (.ok (.ret (.ref (s.heap.push o).objs.size))) { s with heap := (s.heap.push o).push { cls := .type "enumerate", data := .fields #[.none, .bool false, .ref s.heap.objs.size, rawInt 0, .none, .none] } }) :=
  .of_wp fun P w A R s y => by
    obtain ⟨m, g, dr, k, os⟩ := s
    obtain ⟨y1, y2⟩ := y
    have sub := sub_enumerate
    have it : ∀ {A' : Around} {E : Value → Shared → Prop} {Q : Value → Shared → Prop}, Q (.ref m.objs.size) ⟨m.push o, g, dr, k, os⟩ → wpAny (model P w) A' (pyIter v) Q E ⟨m, g, dr, k, os⟩ := fun q => B.iter P w _ _ ⟨m, g, dr, k, os⟩ _ y1 q
    wp_walk using it
    refine wpAny_stack_any fun st => wpAny_pure ?_
    split
    · rename_i c _ _ _ _ _
      cases (c == Value.type "enumerate") <;> (wp_walk using it; exact ⟨_, rfl, y2⟩)
    · wp_walk using it
      exact ⟨_, rfl, y2⟩
theorem gd_callEnum {prog : Program} {w : World} {A : Around} {E : Value → Shared → Prop} {s : Shared} {v : Value} {o : Obj} {H : Heap → Prop} {Q : Value → Shared → Prop} (B : Begins v o H) (y : H s.heap)
    (q : ∀ m, IsEnum m (s.heap.objs.size + 1) s.heap.objs.size 0 .none → m.get? s.heap.objs.size = some o → (∀ b u, s.heap.get? b = some u → m.get? b = some u) → Q (.ref (s.heap.objs.size + 1)) { s with heap := m }) :
    wpAny (model prog w) A (call (.type "enumerate") [v]) Q E s := by
  refine callType_new F.called_enumerate (by decide) (F.typeCall_enumerate_1 _) (F.newCall_enumerate_1 _) (fun x => F.args_object_init_2 x _) F.entry_enumerate_new (gd_meetsEnum B) ⟨y, ?_⟩
  have sz : (s.heap.push o).objs.size = s.heap.objs.size + 1 := Heap.size_push ..
  show _ ∧ _
  rw [sz]
  have en : IsEnum ((s.heap.push o).push { cls := .type "enumerate", data := .fields #[.none, .bool false, .ref s.heap.objs.size, rawInt 0, .none, .none] }) (s.heap.objs.size + 1) s.heap.objs.size 0 .none := by
    have z := Heap.get?_push_size (s.heap.push o) (o := { cls := .type "enumerate", data := .fields #[.none, .bool false, .ref s.heap.objs.size, rawInt 0, .none, .none] }) rfl
    rw [sz] at z
    exact z
  exact ⟨⟨_, en, rfl⟩, q _ en (Heap.get?_push_of_some _ (Heap.get?_push_size _ B.free)) fun b u x => Heap.get?_push_of_some _ (Heap.get?_push_of_some _ x)⟩
end PySem
namespace GD
open PySem PySem.Spec PyProof.Rows L2
/-- the tuple at a, each item in a new pair -/
def IteT (K : PySem.W.Frag) (a : Addr) : It :=
  ⟨fun i H => ∃ (xs : List V) (x : V), SqT K H a xs ∧ xs[i]? = some x, fun i H v H' => ∃ T x, v = .ref T ∧ H T = none ∧ H' = upd H T (.tup [.int (i : Nat), x]) ∧ ∀ xs, SqT K H a xs → xs[i]? = some x, fun i H => ∃ xs : List V, SqT K H a xs ∧ xs.length ≤ i⟩
theorem turn_enumT {P : Program} {w : World} {K : PySem.W.Frag} {elts : List Expr} {kk : Nat} {tpos : Pos} (a e it : Addr) :
    Turn P w K (.Tuple elts kk tpos) (IteT K a) [e, it] e (fun i h => (∃ old, IsEnum h e it ((i : Nat) : Int) old) ∧ h.IsTupleIter it a i ∧ e ≠ it ∧ e ≠ a ∧ a ≠ it) where
  mem := by simp
  obj := fun i h st b hb => by
    obtain ⟨⟨old, y⟩, ⟨o, ho, hc, hd⟩, _⟩ := st
    rcases (show b = e ∨ b = it by simpa using hb) with z | z
    · rw [z]
      exact ⟨_, y, fun v q => nomatch q⟩
    · rw [z]
      exact ⟨o, ho, fun v q => by rw [hd] at q; cases q⟩
  keep := fun i h h' st k => let ⟨⟨old, y⟩, z, r⟩ := st; ⟨⟨old, k e (by simp) _ y⟩, z.at fun o q => k it (by simp) o q, r⟩
  item := by
    rintro X rfl rfl rfl hc i pins s σ H E I hf ⟨⟨old, y⟩, z, n1, n2, n3⟩ ⟨xs, x, hq, hx⟩
    obtain ⟨its, rv, p, hz⟩ := I.tuple hq
    obtain ⟨u, hu, ru⟩ := rv.get hx
    have el : e < s.heap.objs.size := Heap.lt_size y
    have il : it < s.heap.objs.size := by
      obtain ⟨_, q, _⟩ := z
      exact Heap.lt_size q
    have hi : i < its.toArray.size := by
      rw [List.size_toArray]
      exact (List.getElem?_eq_some_iff.mp hu).1
    refine wpAny_pyNext_enum_itemD (A := X.A) (Draws.tuple (prog := X.prog) (w := X.w) (A := X.A.in1) (by rw [show X.A.in1.handled = X.A.handled from rfl]; exact I.ok.hd hc) it a n3 its.toArray) y ⟨z, p⟩ hi n1 (by simp [n1, n2]) fun x' m tk hp ho hs hT hsz hk => ?_
    obtain rfl : u = x' := by
      have q : its.toArray[i]? = some x' := hp
      rw [List.getElem?_toArray, hu] at q
      exact Option.some.inj q
    refine ⟨_, rfl, wpAny_letOwnedTupleGo_enum (s := { s with heap := m, toks := tk + 1 }) ho fun m2 he sb => ?_⟩
    have hT2 : m2.get? s.heap.objs.size = some { cls := .type "tuple", data := .seq #[.int i tk, u] } := (sb.2 _ (Nat.ne_of_gt el)).trans hT
    have new : ObjOk X.prog X.w (upd H s.heap.objs.size (.tup [.int (i : Nat), x])) m2 s.heap.objs.size (.tup [.int (i : Nat), x]) := ⟨by show 2 ≤ sizeLine; decide, [.int i tk, u], .cons ⟨_, rfl⟩ (.cons ru .nil), ⟨_, hT2, rfl, _, rfl⟩⟩
    have J : Inv X pins σ (upd H s.heap.objs.size (.tup [.int (i : Nat), x])) { s with heap := m2, toks := tk + 1 } :=
      I.turnedNew (ch := [e, it]) (fun b ob hb q => (sb.2 b (fun z => hb (by simp [z]))).trans (hk b ob (fun z => hb (by simp [z])) (fun z => hb (by simp [z])) q)) hf (Nat.le_refl _) new
    refine ⟨.ref s.heap.objs.size, _, J, rfl, ⟨_, x, rfl, I.hok.fresh (Nat.le_refl _), rfl, fun ys hy => ?_⟩, ⟨⟨u, ?_⟩, hs.1.at fun o q => (sb.2 it (Ne.symm n1)).trans q, n1, n2, n3⟩, fun b hb => ?_⟩
    · obtain ⟨its2, rv2, p2, _⟩ := I.tuple hy
      rw [show ys = xs from I.tuple_inj hy hq]
      exact hx
    · rw [show ((i + 1 : Nat) : Int) = (i : Int) + 1 by omega]
      exact he
    · have hl : b < s.heap.objs.size := by
        rcases (show b = e ∨ b = it by simpa using hb) with z | z
        · rw [z]
          exact el
        · rw [z]
          exact il
      rw [upd_ne (Nat.ne_of_lt hl)]
      exact (hf b hb).1
  done := by
    rintro X rfl rfl rfl hc i pins s σ H E I hf ⟨⟨old, y⟩, z, n1, n2, n3⟩ ⟨xs, hq, hx⟩
    obtain ⟨its, rv, p, hz⟩ := I.tuple hq
    obtain ⟨f0, f1, f2, f3, f4, f5⟩ := hf it (by simp)
    have hl := rv.length
    have hh : X.A.in1.handled = none := by
      rw [show X.A.in1.handled = X.A.handled from rfl]
      exact I.ok.hd hc
    have D : Draws X.prog X.w X.A.in1 it [it, a] i (fun _ _ => False) (fun j h => j = i ∧ h.IsTupleIter it a i ∧ h.IsTuple a its.toArray) :=
      ⟨fun _ _ st => let ⟨o, ho, _⟩ := st.2.1; ⟨o, ho⟩, fun _ _ _ st hk => ⟨st.1, st.2.1.at fun o e => hk it (by simp) o e, st.2.2.at fun o e => hk a (by simp) o e⟩,
        fun j s Q E hj st _ => absurd st.1 (Nat.ne_of_lt hj), fun s Q E st hE => wpAny_nextOf_tuple_end hh st.2.1 st.2.2 (by simp; omega) hE⟩
    exact wpAny_pyNext_enum_endD D y ⟨rfl, z, p⟩ fun m eb => ⟨rfl, I.turned (t' := s.toks) (fun b o hb q => eb b o hb q) f0 f1 f3 f4 f5⟩
  self := fun A i s Q E st h => let ⟨⟨_, y⟩, _⟩ := st; wpAny_pyIter_enum y h
def iEnumT (K : PySem.W.Frag) (ta : TA) : TI := fun σ H R => ta σ H fun vs H1 => ∃ a xs, vs = [.ref a] ∧ SqT K H1 a xs ∧ R (IteT K a) H1
theorem pi_enumT {X : Cx} {e : Expr} {ta : TA} {p pos tpos : Pos} {elts : List Expr} {kk : Nat} (hg : Gl X "enumerate") (hm : X.mg "enumerate" = none) (ha : PA X [e] ta) (hs : starEach [e] X.env = [(false, eval e X.env)] := by rfl) :
    PI X (.Tuple elts kk tpos) (.Call (.Name "enumerate" p) [e] [] pos) (iEnumT X.K ta) := by
  refine ⟨fun pins s σ H R I h => Call_ (ld_blt I hg hm boot_enumerate (PyProof.Rows.callWith_type1 (thn (ha.run pos pins s σ H _ I h) fun us s1 ⟨vs, H1, I1, r1, a, xs, ex, hq, q⟩ => ?_) hs rfl))⟩
  subst ex
  cases r1 with
  | cons r rr =>
    cases rr
    cases r
    obtain ⟨its, rv, y, hz⟩ := I1.tuple hq
    have al : a < s1.heap.objs.size := by
      obtain ⟨o, ho, _⟩ := id y
      exact Heap.lt_size ho
    refine PySem.gd_callEnum (begins_tuple a its.toArray) y fun m en hi hk => wpAny_pyIter_enum en ?_
    refine ⟨s1.heap.objs.size + 1, [s1.heap.objs.size + 1, s1.heap.objs.size], _, _, H1, rfl, I1.kept (t' := s1.toks) hk, turn_enumT a (s1.heap.objs.size + 1) s1.heap.objs.size, ⟨⟨.none, en⟩, ⟨_, hi, rfl, rfl⟩, Nat.succ_ne_self _, Nat.ne_of_gt (Nat.lt_succ_of_lt al), Nat.ne_of_lt al⟩, fun b hb => ?_, q⟩
    have hle : s1.heap.objs.size ≤ b := by
      rcases (show b = s1.heap.objs.size + 1 ∨ b = s1.heap.objs.size by simpa using hb) with z | z
      · rw [z]
        exact Nat.le_add_right _ _
      · rw [z]
        exact Nat.le_refl _
    exact I1.fpOk hle (I1.hok.fresh hle)
theorem walk_enumT {K : PySem.W.Frag} {a : Addr} {xs : List V} : Walk (IteT K a) xs.length (fun H => SqT K H a xs) (YPair (fun i => some (.int (i : Nat))) (fun i => xs[i]?)) := by
  refine ⟨fun i H hi q => ⟨xs, xs[i], q, List.getElem?_eq_getElem hi⟩, fun H q => ⟨xs, q, Nat.le_refl _⟩, fun i H v H' hi q y => ?_⟩
  obtain ⟨T, x, h1, h2, h3, h4⟩ := y
  exact ⟨T, .int (i : Nat), x, h1, h2, h3, rfl, h4 xs q⟩
end GD
namespace GD
open PySem PySem.Spec PyProof.Rows L2
def letB (c : Nat) : Bool := decide (97 ≤ c) && decide (c ≤ 122)
def nameB (x : Str) : Bool := decide (1 ≤ x.length ∧ x.length ≤ 8) && (TL.tl x).all letB
def spName1 : Sp := fun vs H Q _ => ∃ x : Str, vs = [.str x] ∧ x.length ≤ 100000 ∧ ∀ H', Same H H' → Q (.bl (nameB x)) H'
theorem lt_sign (a b : Nat) : decide ((⟨#[a]⟩ : Str).cps.toList < (⟨#[b]⟩ : Str).cps.toList) = decide (a < b) := by
  refine decide_eq_decide.mpr ?_
  show [a] < [b] ↔ a < b
  constructor
  · intro h
    cases h with
    | rel h => exact h
    | cons h => cases h
  · intro h
    exact .rel h
end GD
namespace K73
open PySem PySem.Spec PyProof.Rows L2 GD
section
variable {P : Program} {w : World} {K : PySem.W.Frag} {mg : Str → Option Value} {base : Heap}
abbrev NNa : List Str := ["text", "letter"]
theorem scNa : FnScope NNa ["text"] (defScope pIsName) := ⟨rfl, rfl, rfl, by decide +kernel, rfl, by decide +kernel, by decide +kernel⟩
theorem ok_isname {f : Addr} {fd : FuncData} (F : Fun K "is_name" "is_name" pIsName f fd) (S : Forms1 mg) (gl : ∃ u, mg "LONGEST_NAME" = some u ∧ RelV (.int 8) u) : FnOk P w K mg base CX0 1 f fd ["text"] spName1 := by
  refine F.ok scNa (fun vs H Q E h => ?_) (fun cdv A outer s H vs Q E hr h => ?_)
  · obtain ⟨x, rfl, _⟩ := h
    rfl
  · obtain ⟨x, rfl, hx, q⟩ := h
    obtain ⟨um, gm, rm⟩ := gl
    have xl : x.length ≤ sizeLine := small_len hx
    refine ⟨_, pss_one (ps_ret (pe_and (pe_chain op_le op_le pe_int (pe_callB call_len_str (by rfl) S.len PySem.boot_len (pa_cons (pv 0) pa_nil)) (pe_glob (by rfl) gm rm))
      (pe_one (pe_callB (cr_all rfl) (by rfl) S.all (by decide +kernel) (pa_cons (pe_lc (own := [("letter", 1)]) (g := gName 1) (tt := tYes) rfl scNa.nd (pi_str (pv 0)) (blkOk_by (N := NNa) (sc := defScope pIsName) (by decide +kernel))
        (fun _ _ _ _ _ => pg_name (i := 1) scNa.nd rfl (.inl rfl)) (fun _ _ _ _ _ => pts_nil) (fun _ _ _ _ _ => pe_chain op_le_str op_le_str pe_str (pv 1) pe_str)) pa_nil))))), ?_⟩
    refine ⟨_, rfl, x, rfl, xl, _, _, rfl, rfl, _, rfl, ?_⟩
    have bad : ¬ (1 ≤ x.length ∧ x.length ≤ 8) → Q (.bl false) H := fun e => by
      have z := q H (Same.refl H)
      rw [nameB, decide_eq_false e, Bool.false_and] at z
      exact z
    by_cases h1 : (1 : Int) ≤ (x.length : Int)
    · rw [decide_eq_true h1]
      refine iteT ⟨_, _, rfl, rfl, _, rfl, ?_⟩
      by_cases h2 : (x.length : Int) ≤ 8
      · rw [decide_eq_true h2]
        refine iteT ?_
        refine ⟨_, rfl, x, rfl, fun D hD => ?_⟩
        refine lc_it (walk_str (z := x)) (fun i H' => Same H H' ∧ H' D = some (.lst ((((TL.tl x).take i).map letB).map V.bl))) ⟨same_new hD, upd_same⟩ (fun _ _ _ _ => True.intro) ?_ ?_
        · rintro i v Hx H' hi ⟨s1, eD⟩ ⟨rfl, c, hc, rfl⟩
          have hc2 : (TL.tl x)[i]? = some c := by
            rw [← hc]
            exact Array.getElem?_toList
          have fin : ∀ b : Bool, b = letB c → ∃ acc, H' D = some (.lst acc) ∧ acc.length < sizeLine ∧ Same H (upd H' D (.lst (acc ++ [.bl b]))) ∧ (upd H' D (.lst (acc ++ [.bl b]))) D = some (.lst ((((TL.tl x).take (i + 1)).map letB).map V.bl)) := by
            rintro b rfl
            refine ⟨_, eD, ?_, same_upd s1 hD, ?_⟩
            · rw [List.length_map, List.length_map, List.length_take]
              exact Nat.lt_of_le_of_lt (Nat.min_le_right _ _) (by rw [← TL.len_tl]; exact Nat.lt_of_lt_of_le (show x.length < 9 by omega) (by decide))
            · rw [upd_same, GD.take_next hc2, List.map_append, List.map_append]
              rfl
          refine ⟨rfl, _, rfl, _, _, rfl, rfl, _, rfl, ?_⟩
          rw [show (("a" : Str)) = ⟨#[97]⟩ from rfl, lt_sign]
          by_cases a1 : c < 97
          · rw [decide_eq_true a1]
            refine iteF (fin false ?_)
            rw [letB, decide_eq_false (by omega)]
            rfl
          · rw [decide_eq_false a1]
            refine iteT ⟨_, _, rfl, rfl, fin _ ?_⟩
            rw [show (("z" : Str)) = ⟨#[122]⟩ from rfl, lt_sign, letB, decide_eq_true (show 97 ≤ c by omega), Bool.true_and]
            by_cases a2 : 122 < c
            · rw [decide_eq_true a2, decide_eq_false (by omega)]
              rfl
            · rw [decide_eq_false a2, decide_eq_true (by omega)]
              rfl
        · rintro H' ⟨s1, eD⟩
          rw [List.take_of_length_le (by rw [← TL.len_tl]; exact Nat.le_refl _)] at eD
          refine ⟨D, _, rfl, SqL.of eD, ?_⟩
          rw [List.all_map]
          have z := q H' s1
          rw [nameB, decide_eq_true (show 1 ≤ x.length ∧ x.length ≤ 8 by omega), Bool.true_and] at z
          exact z
      · rw [decide_eq_false h2]
        refine iteF ?_
        exact bad fun z => h2 (by omega)
    · rw [decide_eq_false h1]
      refine iteF ⟨_, rfl, iteF ?_⟩
      exact bad fun z => h1 (by omega)
end
end K73
namespace GD
open PySem PySem.Spec PyProof.Rows L2
/-- a tuple that the heap holds as one known object without a dict -/
def TupF (H : Hp) (j : Addr) (xs : List V) : Prop := ∃ o : Obj, o.dict = none ∧ H j = some (.frz o (.tup xs))
theorem sqT_fz {K : PySem.W.Frag} {H : Hp} {j : Addr} {xs : List V} {o : Obj} (h : H j = some (.frz o (.tup xs))) : SqT K H j xs := .inl (.inr ⟨o, h⟩)
theorem TupF.sq {K : PySem.W.Frag} {H : Hp} {j : Addr} {xs : List V} (h : TupF H j xs) : SqT K H j xs := by
  obtain ⟨o, _, e⟩ := h
  exact sqT_fz e
theorem TupF.same {H H' : Hp} {j : Addr} {xs : List V} (s : Same H H') (h : TupF H j xs) : TupF H' j xs := by
  obtain ⟨o, d, e⟩ := h
  exact ⟨o, d, s _ _ e⟩
theorem TupF.ext {H H' : Hp} {j : Addr} {xs : List V} (x : ∀ b o, H b = some o → (∀ ps, o ≠ .tbl ps) → H' b = some o) (h : TupF H j xs) : TupF H' j xs := by
  obtain ⟨o, d, e⟩ := h
  exact ⟨o, d, x _ _ e (fun ps z => by cases z)⟩
theorem TupF.lst {H : Hp} {j l : Addr} {xs ys zs : List V} (el : H l = some (.lst ys)) (h : TupF H j xs) : TupF (upd H l (.lst zs)) j xs := by
  obtain ⟨o, d, e⟩ := h
  exact ⟨o, d, by rw [upd_ne (ne_of e el (fun z => by cases z))]; exact e⟩
section
variable {X : Cx}
/-- tuple(l) of a list: a new known tuple -/
theorem call_tupleF : CallR X (.type "tuple") (fun xs H Q => ∃ p ys, xs = [.ref p] ∧ SqL X.K H p ys ∧ ∀ l o, H l = none → o.dict = none → Q (.ref l) (upd H l (.frz o (.tup ys)))) := by
  intro pins s σ H xs us Q I r h
  obtain ⟨p, ys, rfl, hq, q⟩ := h
  obtain ⟨u, rfl, rx⟩ := vals1 r
  cases rx
  obtain ⟨its, r', pl, hz⟩ := I.list hq
  have hlen := r'.length
  refine call_tuple_list pl.isList (fun h' kp => ?_) (by simp only [List.size_toArray] <;> omega)
  have I1 : Inv X pins σ H { s with heap := h' } := I.kept (t' := s.toks) kp
  have I2 : Inv X pins σ (upd H h'.objs.size (.frz { cls := .type "tuple", data := .seq its.toArray } (.tup ys))) { s with heap := h'.push { cls := .type "tuple", data := .seq its.toArray } } :=
    I1.laid (t' := s.toks) (fun b o e => Heap.get?_push_of_some _ e) (Nat.le_refl _) (show ObjOk X.prog X.w _ _ _ (.frz _ (.tup ys)) from ⟨Heap.get?_push_size _ rfl, hz, its, r', IsTup.new _ _⟩)
  exact ⟨.ref h'.objs.size, _, I2, rfl, q _ _ (I1.hok.fresh (Nat.le_refl _)) rfl⟩
end
end GD
namespace GD
open PySem PySem.Spec PyProof.Rows L2
def lined3 : List Str := ["clean", "spent", "free"]
def mLine (p : Str × Str) : Str := (p.2 ++ " ") ++ p.1
def mKv (ml : List (Str × Str)) : List (Key × V) := ml.map fun q => (.inr q.1, .str q.2)
structure MansOk (names : List Str) (ml : List (Str × Str)) (rest : List Str) : Prop where
  nm : ∀ p ∈ ml, p.1 ∈ names ∧ Free 32 p.1 ∧ p.1.length ≤ 100
  mn : ∀ p ∈ ml, p.2 ∈ lined3
  nd : (ml.map (·.1)).Nodup
  r : ∀ x, rest.head? = some x → (Txt.split x " ").length ≠ 2 ∧ x.length ≤ 90000
  l : ml.length ≤ 10
  rl : rest.length ≤ 1000
def spRdMan : Sp := fun vs H Q _ => ∃ (l j : Addr) (l0 : Str) (names : List Str) (ml : List (Str × Str)) (rest : List Str), vs = [.ref l, .ref j] ∧ H l = some (.lst ((l0 :: (ml.map mLine ++ rest)).map V.str)) ∧ TupF H j (names.map V.str) ∧ MansOk names ml rest ∧
  ∀ p H', H p = none → Same H H' → H' p = some (.dK (mKv ml)) → Q (.ref p) H'
theorem free_lined {x : Str} (h : x ∈ lined3) : Free 32 x ∧ x.length ≤ 5 := by
  unfold lined3 at h
  simp only [List.mem_cons, List.not_mem_nil, or_false] at h
  rcases h with rfl | rfl | rfl
  · exact ⟨by unfold Free; decide +kernel, by decide +kernel⟩
  · exact ⟨by unfold Free; decide +kernel, by decide +kernel⟩
  · exact ⟨by unfold Free; decide +kernel, by decide +kernel⟩
theorem split_mLine {p : Str × Str} (h1 : Free 32 p.1) (h2 : Free 32 p.2) : Txt.split (mLine p) " " = [p.2, p.1] := by
  have e : mLine p = Txt.join " " [p.2, p.1] := by
    rw [join_cons (by simp), join_one]
    rfl
  rw [e]
  refine split_sp (by simp) fun x hx => ?_
  rcases List.mem_cons.mp hx with e | e
  · rw [e]
    exact h2
  · rw [List.mem_singleton.mp e]
    exact h1
theorem mKv_none {ml : List (Str × Str)} {x : Str} (h : x ∉ ml.map (·.1)) : valV (mKv ml) (.inr x) = none := by
  unfold valV mKv
  rw [List.find?_eq_none.mpr]
  · rfl
  · intro kv hkv
    obtain ⟨q, hq, rfl⟩ := List.mem_map.mp hkv
    simp only [decide_eq_true_eq]
    intro e
    exact h (List.mem_map.mpr ⟨q, hq, Sum.inr.inj e⟩)
end GD
namespace K73
open PySem PySem.Spec PyProof.Rows L2 GD
section
variable {P : Program} {w : World} {K : PySem.W.Frag} {mg : Str → Option Value} {base : Heap}
def Lined (K : PySem.W.Frag) (mg : Str → Option Value) : Prop := ∃ p, mg "LINED_MANNERS" = some (.ref p) ∧ ∀ H, SqT K H p (lined3.map V.str)
abbrev NMn : List Str := ["lines", "jobs", "manners", "line", "words"]
theorem scMn : FnScope NMn ["lines", "jobs"] (defScope pReadManners) := ⟨rfl, rfl, rfl, by decide +kernel, rfl, by decide +kernel, by decide +kernel⟩
theorem ok_rdman {f : Addr} {fd : FuncData} (F : Fun K "read_manners" "read_manners" pReadManners f fd) (S : Reads1 mg) (L : Lined K mg) : FnOk P w K mg base CX0 1 f fd ["lines", "jobs"] spRdMan := by
  refine F.ok scMn (fun vs H Q E h => ?_) (fun cdv A outer s H vs Q E hr h => ?_)
  · obtain ⟨l, j, l0, names, ml, rest, rfl, _⟩ := h
    rfl
  · obtain ⟨l, j, l0, names, ml, rest, rfl, hl, hj, ok, q⟩ := h
    obtain ⟨pL, gL, sL⟩ := L
    refine ⟨_, pss_cons (ps_set (i := 2) scMn.nd rfl (.inl rfl) pe_dnewK)
      (pss_cons (ps_for PassesOwn.never rfl (pi_list (pe_slice sl_list (pv 0) (po_some pe_int) po_none)) (pg_name (i := 3) scMn.nd rfl (.inl rfl))
        (pss_cons (ps_set (i := 4) scMn.nd rfl (.inl rfl) (pe_bm PySem.F.plainAttrs_str PySem.F.slot_str_split PySem.F.type_str_split mt_split (pv 3) (pa_cons pe_str pa_nil)))
        (pss_cons (ps_if (pw_or (pt_cmpR op_ne (pe_callB call_len_seq (by rfl) S.f.len PySem.boot_len (pa_cons (pv 4) pa_nil)) pe_int (nomark _)) (pw_or1 (pt_cmpR op_notIn_seq (pe_ix ix_list (pv 4) pe_int (fun _ _ => rfl)) (pe_glob (v := .ref pL) (by rfl) gL rfl) (by rfl)))).pt
            (pss_one (ps_ret (pv 2))) pss_nil)
        (pss_cons (ps_if (pw_or (pt_cmpR op_notIn_seq (pe_ix ix_list (pv 4) pe_int (fun _ _ => rfl)) (pv 1) (by rfl)) (pw_or1 (pt_cmp (pc_din (u1 hr) (pe_ix ix_list (pv 4) pe_int (fun _ _ => rfl)) (pv 2))))).pt
            (pss_one (ps_ret (pv 2))) pss_nil)
        (pss_one (ps_dput (u1 hr) (pv 2) (pe_ix ix_list (pv 4) pe_int (fun _ _ => rfl)) (pe_ix ix_list (pv 4) pe_int (fun _ _ => rfl)) (by rfl)))))))
      (pss_one (ps_ret (pv 2)))), ?_⟩
    intro d hd
    have s1 := same_new (o := .dK []) hd
    refine ⟨_, rfl, _, rfl, ?_⟩
    refine ⟨l, _, rfl, SqL.of (s1 _ _ hl), fun p hp => ?_⟩
    have e1 := cut_strs_end (l0 :: (ml.map mLine ++ rest)) 1
    rw [List.drop_one, List.tail_cons] at e1
    rw [show (some (1 : Int)) = some ((1 : Nat) : Int) from rfl, e1]
    have s2 := same_new (o := .lst ((ml.map mLine ++ rest).map V.str)) hp
    have ep : (upd (upd H d (.dK [])) p (.lst ((ml.map mLine ++ rest).map V.str))) p = some (.lst ((ml.map mLine ++ rest).map V.str)) := upd_same
    have ed : (upd (upd H d (.dK [])) p (.lst ((ml.map mLine ++ rest).map V.str))) d = some (.dK []) := s2 _ _ upd_same
    have s12 := s1.trans s2
    generalize upd (upd H d (.dK [])) p (.lst ((ml.map mLine ++ rest).map V.str)) = H1 at ep ed s12 ⊢
    have dpd : p ≠ d := fun z => by
      rw [z, ed] at ep
      cases ep
    have lml : (ml.map mLine).length = ml.length := List.length_map ..
    refine ⟨p, rfl, ⟨_, SqL.of ep⟩, for_list (K := K) (a := p) (xs := (ml.map mLine ++ rest).map V.str) (fun i σ H' => ∃ x3 x4 : Option V, σ = [some (.ref l), some (.ref j), some (.ref d), x3, x4] ∧ Same H H' ∧ H' p = some (.lst ((ml.map mLine ++ rest).map V.str)) ∧ H' d = some (.dK (mKv (ml.take i))) ∧ i ≤ ml.length)
      ⟨none, none, rfl, s12, ep, ed, Nat.zero_le _⟩ (fun i σ H' _ ⟨_, _, _, _, e, _⟩ => SqL.of e) ?_ ?_⟩
    · rintro i v σ H' hx ⟨x3, x4, rfl, s3, ep3, ed3, hi⟩
      rw [List.getElem?_map] at hx
      have okl := ok.l
      by_cases hlt : i < ml.length
      · have hm : ml[i]? = some ml[i] := List.getElem?_eq_getElem hlt
        generalize ml[i] = m0 at hm
        have hmem := List.mem_of_getElem? hm
        obtain ⟨hn, hfr, hlen⟩ := ok.nm m0 hmem
        obtain ⟨hf2, hlen2⟩ := free_lined (ok.mn m0 hmem)
        rw [List.getElem?_append_left (by omega), List.getElem?_map, hm] at hx
        obtain rfl : V.str (mLine m0) = v := Option.some.inj hx
        have lln : (mLine m0).length ≤ 106 := by
          rw [mLine, len_app, len_app, len1]
          omega
        refine ⟨_, rfl, rfl, _, _, rfl, rfl, rfl, small_len (by omega), fun w npw => ?_⟩
        have sw := same_new (o := .lst ((Txt.split (mLine m0) " ").map V.str)) npw
        have ew : (upd H' w (.lst ((Txt.split (mLine m0) " ").map V.str))) w = some (.lst ([m0.2, m0.1].map V.str)) := by rw [upd_same, split_mLine hfr hf2]
        generalize upd H' w (.lst ((Txt.split (mLine m0) " ").map V.str)) = H2 at sw ew ⊢
        have ed4 := sw _ _ ed3
        have s13 := s3.trans sw
        refine ⟨_, rfl, w, _, rfl, .inl (SqL.of ew), rfl, _, rfl, iteF ?_⟩
        refine ⟨_, rfl, w, _, 0, _, rfl, rfl, SqL.of ew, at0, pL, _, rfl, .inr (sL _), rfl, by decide +kernel, _, rfl, ?_⟩
        rw [if_pos rfl, inV_strs, decide_eq_true (ok.mn m0 hmem)]
        refine iteF ?_
        refine ⟨_, rfl, w, _, 1, _, rfl, rfl, SqL.of ew, at1, _, rfl, j, _, rfl, .inr (hj.same s13).sq, rfl, ?_, _, rfl, ?_⟩
        · rw [List.all_map]
          exact List.all_eq_true.mpr fun _ _ => rfl
        rw [if_pos rfl, inV_strs, decide_eq_true hn]
        refine iteF ?_
        have hnew : m0.1 ∉ (ml.take i).map (·.1) := fun hc => by
          obtain ⟨q0, hq0, eq0⟩ := List.mem_map.mp hc
          obtain ⟨jx, hjx, ej⟩ := List.getElem_of_mem hq0
          rw [List.length_take] at hjx
          rw [List.getElem_take] at ej
          have z := List.pairwise_iff_getElem.mp ok.nd jx i (by rw [List.length_map]; omega) (by rw [List.length_map]; omega) (by omega)
          rw [List.getElem_map, List.getElem_map, ej, (List.getElem?_eq_some_iff.mp hm).2] at z
          exact z eq0
        have dg := DGet.k (k := .inr m0.1) ed4
        rw [mKv_none hnew] at dg
        refine ⟨_, rfl, w, _, 1, _, rfl, rfl, SqL.of ew, at1, _, rfl, d, none, rfl, dg, _, rfl, iteF ?_⟩
        refine ⟨_, rfl, w, _, 0, _, rfl, rfl, SqL.of ew, at0, _, rfl, _, rfl, w, _, 1, _, rfl, rfl, SqL.of ew, at1, d, _, rfl, DPut.k (k := .inr m0.1) ed4 ?_, ?_⟩
        · unfold mKv
          rw [List.length_map, List.length_take]
          exact Nat.lt_of_le_of_lt (Nat.min_le_left _ _) (Nat.lt_of_lt_of_le (show i < 11 by omega) (by decide))
        rw [putK_new _ (mKv_none hnew)]
        refine ⟨_, _, rfl, same_upd s13 hd, by rw [upd_ne dpd]; exact sw _ _ ep3, ?_, by omega⟩
        rw [upd_same, GD.take_next hm, mKv, mKv, List.map_append]
        rfl
      · have ei : i = ml.length := by omega
        rw [List.getElem?_append_right (by omega), lml, ei, Nat.sub_self] at hx
        cases er : rest with
        | nil =>
          rw [er] at hx
          cases hx
        | cons r0 rr =>
          rw [er] at hx
          obtain rfl : V.str r0 = v := Option.some.inj hx
          obtain ⟨h2, hll⟩ := ok.r r0 (by rw [er]; rfl)
          refine ⟨_, rfl, rfl, _, _, rfl, rfl, rfl, small_len (by omega), fun w npw => ?_⟩
          have sw := same_new (o := .lst ((Txt.split r0 " ").map V.str)) npw
          have ew : (upd H' w (.lst ((Txt.split r0 " ").map V.str))) w = some (.lst ((Txt.split r0 " ").map V.str)) := upd_same
          generalize upd H' w (.lst ((Txt.split r0 " ").map V.str)) = H2 at sw ew ⊢
          refine ⟨_, rfl, w, _, rfl, .inl (SqL.of ew), rfl, _, rfl, ?_⟩
          rw [show (!decide (V.int (((Txt.split r0 " ").map V.str).length : Int) = V.int 2)) = true by
            rw [decide_eq_false fun z => h2 (by have := V.int.inj z; rw [List.length_map] at this; omega)]
            rfl]
          refine iteT (iteT ?_)
          have ed4 := sw _ _ ed3
          rw [ei, List.take_length] at ed4
          exact ⟨_, rfl, q d H2 hd (s3.trans sw) ed4⟩
    · rintro σ H' ⟨x3, x4, rfl, s3, ep3, ed3, hi⟩
      rw [List.length_map, List.length_append, lml] at ed3 hi
      rw [List.take_of_length_le (by omega)] at ed3
      exact ⟨_, rfl, q d H' hd s3 ed3⟩
end
end K73
namespace GD
open PySem PySem.Spec PyProof.Rows
section
variable {prog : Program} {w : World} {Kt : Type} [DecidableEq Kt] [BEq Kt] [LawfulBEq Kt]
/-- met among the first i -/
def metB (val : Nat → Kt) (i : Nat) (k : Kt) : Bool := (List.range i).any fun j => val j == k
/-- how many differ among the first i -/
def metN (val : Nat → Kt) : Nat → Nat
  | 0 => 0
  | i + 1 => if metB val i (val i) = true then metN val i else metN val i + 1
omit [DecidableEq Kt] [LawfulBEq Kt] in
theorem metN_le (val : Nat → Kt) : ∀ i, metN val i ≤ i
  | 0 => Nat.le_refl _
  | i + 1 => by
    have := metN_le val i
    unfold metN
    split <;> omega
theorem metB_succ (val : Nat → Kt) (i : Nat) (k : Kt) : metB val (i + 1) k = (metB val i k || decide (k = val i)) := by
  unfold metB
  rw [List.range_succ, List.any_append, List.any_cons, List.any_nil, Bool.or_false]
  congr 1
  rw [Bool.eq_iff_iff, beq_iff_eq, decide_eq_true_iff]
  exact eq_comm
variable {knd : KeyKind prog w Kt} {A : Around} {R : Result → Shared → Prop} {I : Addr} {fp wr : List Addr} {G : Array GenState → Array GenState → Prop} {n : Nat} {Pv : Nat → Value → Prop} {St : Nat → Shared → Prop}
theorem update_keys (W : WalksS prog w A.in1 I fp wr G n Pv St) (S : Addr) (hSf : S ∉ fp) (val : Nat → Kt) (hval : ∀ i v, Pv i v → knd.is (val i) v = true ∧ v.scannable = true) (hb : n + 1 < scanBound) :
    ∀ (m i : Nat) (s : Shared), n - i = m → i ≤ n → St i s → s.heap.SetOf knd S (metB val i) (metN val i) →
      (∀ s', Moved (S :: wr) G s s' → s'.heap.SetOf knd S (metB val n) (metN val n) → R (.ok (.ret .none)) s') → codeAny (model prog w) A (.builtin "set.update.loop" ⟨[.ref S, .ref I], []⟩) R s := by
  have out : S ∉ wr := fun h => hSf (W.sub _ h)
  have keep : ∀ {i : Nat} {s s' : Shared}, Moved wr G s s' → s.heap.SetOf knd S (metB val i) (metN val i) → s'.heap.SetOf knd S (metB val i) (metN val i) := fun hm ⟨o, es, ep, t, ho, r⟩ => ⟨o, es, ep, t, hm.heap S _ out ho, r⟩
  have wide : ∀ b ∈ wr, b ∈ S :: wr := fun b h => List.mem_cons_of_mem _ h
  intro m
  induction m with
  | zero =>
    intro i s hm hi hst hS hR
    obtain rfl : i = n := by omega
    refine codeAny_builtin F.entry_set_update_loop ?_
    rw [Around.under_plainId F.plain_set_update_loop _]
    exact wpAny_bind (W.done s _ _ hst fun s' mv => wpAny_pure (hR s' (mv.mono wide) (keep mv hS)))
  | succ m ih =>
    intro i s hm hi hst hS hR
    have hlt : i < n := by omega
    refine codeAny_builtin F.entry_set_update_loop ?_
    rw [Around.under_plainId F.plain_set_update_loop _]
    refine wpAny_bind (W.item i s _ _ hlt hst fun v s' hv hst' mv => ?_)
    obtain ⟨hk, hsc⟩ := hval i v hv
    refine wpAny_bind (wpAny_holding ?_)
    unfold setAdd
    have room := metN_le val i
    have hS' := keep mv hS
    refine wpAny_holding (wpAny_bind (knd.pyHash hk (wpAny_setAddHashed_of (s := { s' with toks := s'.toks + 1 }) hk hsc hS' (by omega) fun h' same hS2 => ?_)))
    refine wpAny_pure ⟨plainId_quiet F.plain_set_update_loop _, ih (i + 1) _ (by omega) hlt (W.frame _ s' _ _ hst' (Nat.le_succ _) fun b hb o e => (same.2 b fun z => hSf (z ▸ hb)).trans e) ?_ fun s2 mv2 hS3 => ?_⟩
    · exact SetOf_congr hS2 (fun k => (metB_succ val i k).symm) rfl
    · exact hR s2 (Moved.trans W.gtrans ((mv.mono wide).then_heap (Nat.le_succ _) fun b o hb e => (same.2 b fun z => hb (z ▸ List.mem_cons_self)).trans e) mv2) hS3
end
section
variable {prog : Program} {w : World} {A : Around} {E : Value → Shared → Prop} {s : Shared} {Kt : Type} [DecidableEq Kt] [BEq Kt] [LawfulBEq Kt] {knd : KeyKind prog w Kt}
theorem call_set_keys {l : Addr} {items : Array Value} {Q : Value → Shared → Prop} (hh : A.handled = none) (hl : s.heap.IsList l items) (val : Nat → Kt) (hval : ∀ i v, items[i]? = some v → knd.is (val i) v = true ∧ v.scannable = true) (hb : items.size + 1 < scanBound)
    (h : ∀ (h' : Heap) (tk : Nat), h'.SetOf knd s.heap.objs.size (metB val items.size) (metN val items.size) → (∀ b o, b < s.heap.objs.size → s.heap.get? b = some o → h'.get? b = some o) → Q (.ref s.heap.objs.size) { s with heap := h', toks := tk }) :
    wpAny (model prog w) A (call (.type "set") [.ref l]) Q E s := by
  obtain ⟨c, tl, hmro⟩ := PySem.F.called_set.mro
  have made := PySem.F.called_set.made
  have sub := PySem.F.called_set.sub
  refine wpAny_call (codeAny_of_tree ?_)
  show wpAny _ _ (callAny (.type "set") _) _ _ _
  refine wpAny_pure ⟨Code.quiet_builtin _ (by decide +kernel), codeAny_builtin PySem.F.entry_type_call ?_⟩
  rw [Around.under_plain (weight_type_call_type "set" [.ref l] []) rfl]
  have a1 := PySem.F.called_set.notType
  have a2 := PySem.F.called_set.canCreate
  have a3 := PySem.F.typeCall_set_1 (.ref l)
  repeat (any_goals (first | assumption | wp_step))
  refine codeAny_mono (code_set_new_1 (.ref l) (E := E) (Q₁ := fun v s1 => ∃ led : Bool, v = .ref s.heap.objs.size ∧ s1 = { s with heap := s.heap.push { cls := .type "set", dict := none, data := .set #[] 0 (.fresh 0 0 led) } }) fun led => ⟨led, rfl, rfl⟩) fun r s1 hr => ?_
  rcases r with e | fl
  · exact hr
  cases fl with
  | ret v =>
    obtain ⟨led, rfl, rfl⟩ := hr
    have hnew : (s.heap.push { cls := .type "set", dict := none, data := .set #[] 0 (.fresh 0 0 led) }).get? s.heap.objs.size = some { cls := .type "set", dict := none, data := .set #[] 0 (.fresh 0 0 led) } := Heap.get?_push_size _ rfl
    have hty : Shared.TypeIs { s with heap := s.heap.push { cls := .type "set", dict := none, data := .set #[] 0 (.fresh 0 0 led) } } (.ref s.heap.objs.size) "set" := ⟨_, hnew, rfl⟩
    have i1 := PySem.F.called_set.init.lookup
    have i2 := PySem.F.called_set.init.bind (.ref s.heap.objs.size)
    repeat (any_goals (first | assumption | wp_step))
    let good : Value → Shared → Prop := fun r s2 => r = .none ∧ ∃ h' tk, s2 = { s with heap := h', toks := tk } ∧ h'.SetOf knd s.heap.objs.size (metB val items.size) (metN val items.size) ∧ ∀ b o, b < s.heap.objs.size → s.heap.get? b = some o → h'.get? b = some o
    refine codeAny_mono (codeAny_call_builtin (R := wants good E) PySem.F.called_set.init.plain PySem.F.entry_set_init (check_set_init_1 hty ?_)) fun r2 s2 hr2 => ?_
    · obtain ⟨ol, hol, hcl, nl, hdl⟩ := hl
      obtain ⟨oc, od, odt, osl⟩ := ol
      obtain rfl : oc = .type "list" := hcl
      obtain rfl : odt = .seq items nl := hdl
      have hol' : (s.heap.push { cls := .type "set", dict := none, data := .set #[] 0 (.fresh 0 0 led) }).get? l = some { cls := .type "list", dict := od, data := .seq items nl, slots := osl } := Heap.get?_push_of_some _ hol
      have hil : (s.heap.push { cls := .type "set", dict := none, data := .set #[] 0 (.fresh 0 0 led) }).IsList l items := ⟨_, hol', rfl, nl, rfl⟩
      have b1 := PySem.F.sub_list_set
      have b2 := PySem.F.sub_list_frozenset
      have b3 : (Value.type "list" == Value.type "dict") = false := by decide
      unfold Builtin.«set.__init__» noKeywords Builtin.Frozenset.updateFrom
      generalize hPI : pyIter = PI
      wp_walk
      subst hPI
      refine wpAny_pyIter_list hil (wpAny_bind (wpAny_runValue ?_))
      have ll : l < s.heap.objs.size := Heap.lt_size hol
      have hd3 : A.in1.in1.in1.handled = none := by simp [hh]
      have sz : (s.heap.push { cls := .type "set", dict := none, data := .set #[] 0 (.fresh 0 0 led) }).objs.size = s.heap.objs.size + 1 := Heap.size_push ..
      have neI : l ≠ (s.heap.push { cls := .type "set", dict := none, data := .set #[] 0 (.fresh 0 0 led) }).objs.size := by
        rw [sz]
        exact Nat.ne_of_lt (Nat.lt_succ_of_lt ll)
      have far : s.heap.objs.size ∉ [(s.heap.push { cls := .type "set", dict := none, data := .set #[] 0 (.fresh 0 0 led) }).objs.size, l] := fun m => by
        rcases List.mem_cons.mp m with z | z
        · rw [sz] at z
          exact Nat.ne_of_lt (Nat.lt_succ_self _) z
        · exact Nat.ne_of_gt ll (List.mem_singleton.mp z)
      refine update_keys (knd := knd) ((Walks.list hd3 _ l neI items).toS) s.heap.objs.size far val hval hb (items.size - 0) 0 _ (by omega) (Nat.zero_le _) ⟨⟨_, Heap.get?_push_size _ rfl, rfl, rfl⟩, (hil.push _)⟩ ?_ ?_
      · exact SetOf_congr ((setObjOf_fresh (knd := knd) led).setOf (Heap.get?_push_of_some _ hnew) (by unfold scanBound; omega)) (fun _ => rfl) rfl
      · intro s' mv hS
        have e1 := mv.gens
        have e2 := mv.drawn
        have e3 := mv.os
        obtain ⟨h', g', d', tk', os'⟩ := s'
        simp only at e1 e2 e3
        subst e1 e2 e3
        refine wpAny_pure ?_
        show wpAny _ _ (ret Value.none) _ _ _
        refine wpAny_pure ⟨rfl, h', tk', rfl, hS, fun b o hb e => mv.heap b o (fun m => ?_) (Heap.get?_push_of_some _ (Heap.get?_push_of_some _ e))⟩
        rcases List.mem_cons.mp m with z | z
        · exact Nat.ne_of_lt hb z
        · have z2 := List.mem_singleton.mp z
          rw [sz] at z2
          exact Nat.ne_of_lt (Nat.lt_succ_of_lt hb) z2
    · rcases r2 with e | fl2
      · exact hr2
      cases fl2 with
      | ret r =>
        obtain ⟨rfl, h', tk, rfl, hS, hk⟩ := hr2
        repeat (any_goals (first | assumption | wp_step))
        exact h _ _ hS hk
      | _ => exact hr2.elim
  | _ => exact hr.elim
end
end GD
namespace GD
open PySem PySem.Spec PyProof.Rows L2
/-- how many texts differ -/
def difN (xs : List Str) : Nat := metN (fun i => xs.getD i Str.empty) xs.length
theorem metB_get {xs : List Str} {i : Nat} (hi : i ≤ xs.length) (k : Str) : metB (fun i => xs.getD i Str.empty) i k = true ↔ k ∈ xs.take i := by
  unfold metB
  rw [List.any_eq_true]
  constructor
  · rintro ⟨j, hj, e⟩
    have hj' := List.mem_range.mp hj
    rw [beq_iff_eq] at e
    rw [← e]
    show xs.getD j Str.empty ∈ _
    rw [List.getD_eq_getElem?_getD, List.getElem?_eq_getElem (by omega)]
    exact List.mem_take_iff_getElem.mpr ⟨j, by omega, rfl⟩
  · intro h
    obtain ⟨j, hj, e⟩ := List.mem_take_iff_getElem.mp h
    refine ⟨j, List.mem_range.mpr (by omega), ?_⟩
    rw [beq_iff_eq]
    show xs.getD j Str.empty = k
    rw [List.getD_eq_getElem?_getD, List.getElem?_eq_getElem (by omega)]
    exact e
theorem difN_nodup {xs : List Str} (h : xs.Nodup) : difN xs = xs.length := by
  unfold difN
  have go : ∀ i, i ≤ xs.length → metN (fun i => xs.getD i Str.empty) i = i := by
    intro i
    induction i with
    | zero => exact fun _ => rfl
    | succ i ih =>
      intro hi
      rw [metN, ih (by omega), if_neg]
      intro z
      rw [metB_get (by omega)] at z
      obtain ⟨j, hj, e⟩ := List.mem_take_iff_getElem.mp z
      rw [List.getD_eq_getElem?_getD, List.getElem?_eq_getElem (show i < xs.length by omega)] at e
      exact List.pairwise_iff_getElem.mp h j i (by omega) (by omega) (by omega) e
  exact go _ (Nat.le_refl _)
/-- len(set(xs)), xs a list of texts -/
def tLenSetT (ta : TE) : TE := fun σ H Q => ta σ H fun x H1 => ∃ (l : Addr) (xs : List Str), x = .ref l ∧ H1 l = some (.lst (xs.map V.str)) ∧ xs.length ≤ 1000 ∧ Q (.int (difN xs : Nat)) H1
section
variable {X : Cx}
theorem pe_lenSetT {a : Expr} {ta : TE} {p p2 q pos : Pos} (hc : X.calm = true) (hg : Gl X "len") (hm : X.mg "len" = none) (hg2 : Gl X "set") (hm2 : X.mg "set" = none) (ha : PE X a ta)
    (na : starEach [a] X.env = (false, eval a X.env) :: starEach [] X.env := by rfl) : PE X (.Call (.Name "len" p) [.Call (.Name "set" p2) [a] [] q] [] pos) (tLenSetT ta) := by
  refine ⟨fun pins s σ H Q I h => ?_⟩
  refine Call_ (ld_blt I hg hm boot_len (PyProof.Rows.callWith_builtin1 (PyProof.Rows.args_cons (Call_ (ld_blt I hg2 hm2 boot_set
    (PyProof.Rows.callWith_type1 (PyProof.Rows.args_cons (thn (ha.run pins s σ H _ I h) fun v s1 ⟨x, H1, I1, r1, q1⟩ => PyProof.Rows.args_nil ?_) na) na rfl))) rfl) rfl rfl))
  obtain ⟨l, xs, rfl, hx, hl, q1⟩ := q1
  cases r1
  obtain ⟨its, r, pl, hz⟩ := I1.list (SqL.of hx)
  have sa := SS.strs_at (strsAre_of r)
  have sz : its.toArray.size = xs.length := by rw [List.size_toArray, ← r.length, List.length_map]
  refine call_set_keys (knd := PySem.strKind X.prog X.w) (I1.ok.hd hc) pl.isList (fun i => xs.getD i Str.empty) (fun i v hv => ?_) (by rw [sz]; unfold scanBound; omega) fun h' tk hS hk => ?_
  · obtain ⟨t, rfl⟩ := sa i v (by simpa using hv)
    exact ⟨strKind_is _ _ _ _, rfl⟩
  · refine PyProof.Rows.args_nil ?_
    rw [sz] at hS
    obtain ⟨o, es, ep, t, ho, hex, hd, _, _, _, hf, hn⟩ := hS
    have I2 : Inv X pins σ H1 { s1 with heap := h', toks := tk } := I1.kept fun b o e => hk b o (Heap.lt_size e) e
    have le := metN_le (fun i => xs.getD i Str.empty) xs.length
    exact call_len_set ho hex hd hf (by rw [hn]; omega) ⟨.int (difN xs : Nat), H1, I2.tok _, ⟨_, by rw [hn]; rfl⟩, q1⟩
end
end GD
namespace GD
open PySem PySem.Spec PyProof.Rows L2
structure NamesOk (names : List Str) : Prop where
  l1 : 1 ≤ names.length
  l4 : names.length ≤ 4
  nd : names.Nodup
  nm : ∀ x ∈ names, nameB x = true
def spRdJobs : Sp := fun vs H Q _ => ∃ (x : Str) (names : List Str), vs = [.str x] ∧ x.length ≤ 90000 ∧ Txt.split x " " = ("jobs" : Str) :: names ∧ NamesOk names ∧ ∀ p H', H p = none → Same H H' → TupF H' p (names.map V.str) → Q (.ref p) H'
theorem nameB_len {x : Str} (h : nameB x = true) : x.length ≤ 8 := by
  unfold nameB at h
  rw [Bool.and_eq_true, decide_eq_true_iff] at h
  exact h.1.2
theorem nameB_free {x : Str} {c : Nat} (h : nameB x = true) (hc : c < 97) : Free c x := fun m => by
  unfold nameB at h
  rw [Bool.and_eq_true] at h
  have z := List.all_eq_true.mp h.2 c m
  unfold letB at z
  rw [Bool.and_eq_true, decide_eq_true_iff] at z
  omega
end GD
namespace K73
open PySem PySem.Spec PyProof.Rows L2 GD
section
variable {P : Program} {w : World} {K : PySem.W.Frag} {mg : Str → Option Value} {base : Heap}
abbrev NJo : List Str := ["line", "words", "names", "name"]
theorem scJo : FnScope NJo ["line"] (defScope pReadJobs) := ⟨rfl, rfl, rfl, by decide +kernel, rfl, by decide +kernel, by decide +kernel⟩
theorem ok_rdjobs {f fN : Addr} {fd fdN : FuncData} (F : Fun K "read_jobs" "read_jobs" pReadJobs f fd) (S : Reads1 mg) (AN : At K mg "is_name" pIsName ["text"] fN fdN) (gl : ∃ u, mg "LONGEST_NAME" = some u ∧ RelV (.int 8) u) (gj : ∃ u, mg "MOST_JOBS" = some u ∧ RelV (.int 4) u) (gs : mg "set" = none) :
    FnOk P w K mg base CX0 2 f fd ["line"] spRdJobs := by
  have GN : FnOk P w K mg base CX0 1 fN fdN ["text"] spName1 := ok_isname AN.F S.f gl
  refine F.ok scJo (fun vs H Q E h => ?_) (fun cdv A outer s H vs Q E hr h => ?_)
  · obtain ⟨x, names, rfl, _⟩ := h
    rfl
  · obtain ⟨x, names, rfl, hx, hs, ok, q⟩ := h
    obtain ⟨um, gm, rm⟩ := gj
    refine ⟨_, pss_cons (ps_set (i := 1) scJo.nd rfl (.inl rfl) (pe_bm PySem.F.plainAttrs_str PySem.F.slot_str_split PySem.F.type_str_split mt_split (pv 0) (pa_cons pe_str pa_nil)))
      (pss_cons (ps_set (i := 2) scJo.nd rfl (.inl rfl) (pe_slice sl_list (pv 1) (po_some pe_int) po_none))
      (pss_cons (ps_if (pw_or (pt_cmpR op_ne (pe_ix ix_list (pv 1) pe_int (fun _ _ => rfl)) pe_str (nomark _)) (pw_or1 (pt_not (pt_chain op_le op_le pe_int (pe_callB call_len_seq (by rfl) S.f.len PySem.boot_len (pa_cons (pv 2) pa_nil)) (pe_glob (by rfl) gm rm))))).pt (pss_one ps_no) pss_nil)
      (pss_cons (ps_if (pw_or (pt_cmpR op_lt (pe_lenSetT rfl (by rfl) S.f.len (by rfl) gs (pv 2)) (pe_callB call_len_seq (by rfl) S.f.len PySem.boot_len (pa_cons (pv 2) pa_nil)) (nomark _))
          (pw_or1 (pt_not (pt_val (pe_callB (cr_all rfl) (by rfl) S.f.all (by decide +kernel) (pa_cons (pe_lc (own := [("name", 3)]) (g := gName 3) (tt := tYes) rfl scJo.nd (pi_list (pv 2)) (blkOk_by (N := NJo) (sc := defScope pReadJobs) (by decide +kernel))
            (fun _ _ _ _ _ => pg_name (i := 3) scJo.nd rfl (.inl rfl)) (fun _ _ _ _ _ => pts_nil) (fun _ _ _ _ _ => pe_call GN hr (by rfl) AN.g AN.F.kp AN.b .nil pass0 (pa_cons (pv 3) pa_nil))) pa_nil)))))).pt (pss_one ps_no) pss_nil)
      (pss_one (ps_ret (pe_callTy call_tupleF (by rfl) S.f.tup (by decide +kernel) (pa_cons (pv 2) pa_nil))))))), ?_⟩
    have nl1 := ok.l1
    have nl4 := ok.l4
    refine ⟨_, rfl, rfl, _, _, rfl, rfl, rfl, small_len (by omega), fun pw npw => ?_⟩
    have sw := same_new (o := .lst ((Txt.split x " ").map V.str)) npw
    have ew : (upd H pw (.lst ((Txt.split x " ").map V.str))) pw = some (.lst ((("jobs" : Str) :: names).map V.str)) := by rw [upd_same, hs]
    generalize upd H pw (.lst ((Txt.split x " ").map V.str)) = H1 at sw ew ⊢
    refine ⟨_, rfl, _, rfl, pw, _, rfl, SqL.of ew, fun pn npn => ?_⟩
    have e1 := cut_strs_end (("jobs" : Str) :: names) 1
    rw [List.drop_one, List.tail_cons] at e1
    rw [show (some (1 : Int)) = some ((1 : Nat) : Int) from rfl, e1]
    have sn := same_new (o := .lst (names.map V.str)) npn
    have en : (upd H1 pn (.lst (names.map V.str))) pn = some (.lst (names.map V.str)) := upd_same
    have ew2 := sn _ _ ew
    have s2 := sw.trans sn
    generalize upd H1 pn (.lst (names.map V.str)) = H2 at sn en ew2 s2 ⊢
    have ln : (names.map V.str).length = names.length := List.length_map ..
    refine ⟨_, rfl, pw, _, 0, _, rfl, rfl, SqL.of ew2, at0, rfl, _, rfl, iteF ?_⟩
    refine ⟨_, rfl, pn, _, rfl, .inl (SqL.of en), _, _, rfl, rfl, _, rfl, ?_⟩
    rw [ln, decide_eq_true (show (1 : Int) ≤ ((names.length : Nat) : Int) by omega)]
    refine iteT ⟨_, _, rfl, rfl, _, rfl, ?_⟩
    rw [decide_eq_true (show ((names.length : Nat) : Int) ≤ 4 by omega)]
    refine iteF ?_
    refine ⟨_, rfl, pn, names, rfl, en, by omega, _, rfl, pn, _, rfl, .inl (SqL.of en), _, _, rfl, rfl, _, rfl, ?_⟩
    rw [difN_nodup ok.nd, ln, decide_eq_false (show ¬ ((names.length : Nat) : Int) < ((names.length : Nat) : Int) by omega)]
    refine iteF ?_
    refine ⟨_, rfl, pn, rfl, ⟨_, SqL.of en⟩, fun D hD => ?_⟩
    refine lc_list (K := K) (a := pn) (xs := names.map V.str) (fun i H' => Same H2 H' ∧ H' D = some (.lst (((names.take i).map fun _ => true).map V.bl))) ⟨same_new hD, upd_same⟩ (fun i H' _ ⟨s1, _⟩ => SqL.of (s1 _ _ en)) ?_ ?_
    · rintro i v H' hx ⟨s1, eD⟩
      rw [List.getElem?_map] at hx
      cases c : names[i]? with
      | none =>
        rw [c] at hx
        cases hx
      | some y =>
        rw [c] at hx
        obtain rfl : V.str y = v := Option.some.inj hx
        have hi : i < names.length := (List.getElem?_eq_some_iff.mp c).1
        have hy := ok.nm y (List.mem_of_getElem? c)
        have hyl := nameB_len hy
        refine ⟨rfl, _, rfl, y, rfl, by omega, fun H3 s3 => ?_⟩
        rw [hy]
        refine ⟨_, s3 _ _ eD, ?_, same_upd (s1.trans s3) hD, ?_⟩
        · rw [List.length_map, List.length_map, List.length_take]
          exact Nat.lt_of_le_of_lt (Nat.min_le_left _ _) (Nat.lt_of_lt_of_le (show i < 5 by omega) (by decide))
        · rw [upd_same, GD.take_next c, List.map_append, List.map_append]
          rfl
    · rintro H3 ⟨s3, eD⟩
      refine ⟨D, _, rfl, SqL.of eD, ?_⟩
      rw [show ((names.take (names.map V.str).length).map fun _ => true).all id = true by rw [List.all_map]; exact List.all_eq_true.mpr fun _ _ => rfl]
      refine ⟨_, rfl, iteF ?_⟩
      refine ⟨_, rfl, pn, _, rfl, SqL.of (s3 _ _ en), fun t ot ht dt => ?_⟩
      exact q t _ ((s2.trans s3).free ht) ((s2.trans s3).trans (same_new ht)) ⟨ot, dt, upd_same⟩
end
end K73
namespace GD
open PySem PySem.Spec PyProof.Rows L2
theorem tuple_mul1 (l : Addr) (items : Array Value) (n : Nat) (dd : Option Addr) (sl : Array (Option Value)) (u : Tok) :
    Meets (Builtin.«tuple.__mul__» ⟨[.ref l, .int 1 u], []⟩) (fun _ R s => s.heap.get? l = some { cls := .type "tuple", dict := dd, data := .seq items n, slots := sl } ∧ R (.ok (.ret (Value.ref l))) s) :=
  .of_wp fun prog w A R s h => by
    obtain ⟨hp, g, d, tk, os⟩ := s
    obtain ⟨hl, h⟩ := h
    have f1 := AutoSeq1.idx_int
    have c1 : (items.isEmpty || (1 : Int) == 1) = true := by rw [show ((1 : Int) == 1) = true from rfl, Bool.or_true]
    wp_walk using wpAny_loadPart' hl
    exact ⟨_, rfl, h⟩
/-- t * 1 is t itself -/
def rRep1 (K : PySem.W.Frag) : R2 := fun x y H Q => ∃ l xs, x = .ref l ∧ y = .int 1 ∧ SqT K H l xs ∧ Q (.ref l) H
section
variable {X : Cx}
theorem op_rep1 : OpR X (binaryOp .Mult) (rRep1 X.K) := by
  intro pins s σ H x y v u Q I rx ry h
  obtain ⟨l, xs, rfl, rfl, hT, q⟩ := h
  cases rx
  obtain ⟨t, rfl⟩ := ry
  obtain ⟨its, r, ⟨⟨cls, dd, data, sl⟩, ho, hc, n, hd⟩, hs⟩ := I.tuple hT
  obtain rfl : cls = .type "tuple" := hc
  obtain rfl : data = .seq its.toArray n := hd
  exact wpAny_binaryOp_repeat_ref (T := "tuple") (U := "int") (by decide) ⟨_, ho, rfl⟩ (fun s' => typeIs_int s' 1 t) noFill_tuple_mul F.fills_int_mul F.slot_int_rmul repeat_tuple F.slot_int_index.lookup
    (call_meets F.slot_int_rmul (typeIs_int s 1 t) F.entry_int_rmul (F.args_int_rmul_2 _ _) (int_rmul_tuple 1 t l its.toArray n dd sl)
      ⟨ho, rfl, ⟨_, ho, rfl⟩, call_meets F.slot_tuple_mul ⟨_, ho, rfl⟩ F.entry_tuple_mul (F.args_tuple_mul_2 _ _) (tuple_mul1 l its.toArray n dd sl t) ⟨ho, ⟨.ref l, H, I, rfl, q⟩⟩⟩)
def rRepA (K : PySem.W.Frag) : R2 := fun x y H Q => rRepT K x y H Q ∨ rRep1 K x y H Q
theorem op_repA : OpR X (binaryOp .Mult) (rRepA X.K) := fun pins s σ H x y v u Q I rx ry h => h.elim (fun h => op_repT pins s σ H x y v u Q I rx ry h) fun h => op_rep1 pins s σ H x y v u Q I rx ry h
end
end GD
namespace GD
open PySem PySem.Spec PyProof.Rows L2
/-- t * k, a tuple that is tracked -/
def rRepU : R2 := fun x y H Q => ∃ (l : Addr) (k : Nat) (xs : List V), x = .ref l ∧ y = .int k ∧ H l = some (.tup xs) ∧ xs ≠ [] ∧ 1 ≤ k ∧ k ≤ 1000 ∧ xs.length ≤ 1000 ∧ ∀ p H', Same H H' → H' p = some (.tup (List.replicate k xs).flatten) → Q (.ref p) H'
theorem op_repU {X : Cx} : OpR X (binaryOp .Mult) rRepU := fun pins s σ H x y v u Q I rx ry ⟨l, k, xs, ex, ey, hl, ne, h1, h2, h3, q⟩ => by
  refine op_repA pins s σ H x y v u Q I rx ry ?_
  by_cases h : k = 1
  · refine .inr ⟨l, xs, ex, by rw [ey, h]; rfl, SqT.of hl, q l H (Same.refl H) ?_⟩
    rw [hl, h]
    simp
  · refine .inl ⟨l, k, xs, ex, ey, SqT.of hl, ne, by omega, by omega, h3, fun p hp => q p _ (same_new hp) ?_⟩
    rw [upd_same, Int.toNat_natCast]
theorem Keep.tupsI {b C dx : Addr} {fl : List (Str × V)} {H H' : Hp} (hb : H b = some (.ins C dx fl)) (k : Keep b H H') : Tups H H' := fun c xs e => k c _ (ne_of e hb (fun z => by cases z)) e
theorem keep_at {b : Addr} {H : Hp} {o : HO} : Keep b H (upd H b o) := fun c o' n e => by
  rw [upd_ne n]
  exact e
def jN (names : List Str) : Str := ("jobs " : Str) ++ Txt.join " " names
def hN (names : List Str) (ml : List (Str × Str)) : Str := Txt.join "\n" (jN names :: ml.map mLine)
def b1 (t : Str) : List (Str × V) := putF "text" (.str t) []
def b2 (t : Str) (j : Addr) : List (Str × V) := putF "jobs" (.ref j) (b1 t)
def bh (h t : Str) (j : Addr) : List (Str × V) := putF "head" (.str h) (b2 t j)
def b3 (h t : Str) (j m : Addr) : List (Str × V) := putF "manners" (.ref m) (bh h t j)
def b4 (h t : Str) (j m f : Addr) : List (Str × V) := putF "first" (.ref f) (b3 h t j m)
def b5 (h t : Str) (j m f a : Addr) : List (Str × V) := putF "facts" (.ref a) (b4 h t j m f)
theorem b2_jobs (t : Str) (j : Addr) : (b2 t j).lookup ("jobs" : Str) = some (.ref j) := by rw [b2, lookup_putF, if_pos rfl]
theorem bh_jobs {h : Str} (t : Str) (j : Addr) : (bh h t j).lookup ("jobs" : Str) = some (.ref j) := by rw [bh, lookup_putF, if_neg (by decide +kernel), b2_jobs]
theorem b3_jobs {h : Str} (t : Str) (j m : Addr) : (b3 h t j m).lookup ("jobs" : Str) = some (.ref j) := by rw [b3, lookup_putF, if_neg (by decide +kernel), bh_jobs]
theorem b4_jobs {h : Str} (t : Str) (j m f : Addr) : (b4 h t j m f).lookup ("jobs" : Str) = some (.ref j) := by rw [b4, lookup_putF, if_neg (by decide +kernel), b3_jobs]
theorem b5_jobs {h : Str} (t : Str) (j m f a : Addr) : (b5 h t j m f a).lookup ("jobs" : Str) = some (.ref j) := by rw [b5, lookup_putF, if_neg (by decide +kernel), b4_jobs]
theorem b5_facts {h : Str} (t : Str) (j m f a : Addr) : (b5 h t j m f a).lookup ("facts" : Str) = some (.ref a) := by rw [b5, lookup_putF, if_pos rfl]
theorem b5_manners {h : Str} (t : Str) (j m f a : Addr) : (b5 h t j m f a).lookup ("manners" : Str) = some (.ref m) := by
  rw [b5, lookup_putF, if_neg (by decide +kernel), b4, lookup_putF, if_neg (by decide +kernel), b3, lookup_putF, if_pos rfl]
theorem putF_cons (f k : Str) (v x : V) (r : List (Str × V)) : putF f v ((k, x) :: r) = if k = f then (k, v) :: r else (k, x) :: putF f v r := rfl
theorem putF_len (f : Str) (v : V) : ∀ fs : List (Str × V), (putF f v fs).length ≤ fs.length + 1
  | [] => Nat.le_refl _
  | (k, x) :: r => by
    rw [show putF f v ((k, x) :: r) = (if k = f then (k, v) :: r else (k, x) :: putF f v r) from rfl]
    split
    · exact Nat.le_succ _
    · have := putF_len f v r
      rw [List.length_cons, List.length_cons]
      omega
theorem b_len (h t : Str) (j m f a : Addr) : (b1 t).length < 1000 ∧ (b2 t j).length < 1000 ∧ (bh h t j).length < 1000 ∧ (b3 h t j m).length < 1000 ∧ (b4 h t j m f).length < 1000 ∧ (b5 h t j m f a).length < 1000 := by
  have h1 := putF_len "text" (.str t) []
  have h2 := putF_len "jobs" (.ref j) (b1 t)
  have h6 := putF_len "head" (.str h) (b2 t j)
  have h3 := putF_len "manners" (.ref m) (bh h t j)
  have h4 := putF_len "first" (.ref f) (b3 h t j m)
  have h5 := putF_len "facts" (.ref a) (b4 h t j m f)
  rw [List.length_nil] at h1
  unfold b5
  unfold b4 at h5 ⊢
  unfold b3 at h4 h5 ⊢
  unfold bh at h3 h4 h5 ⊢
  unfold b2 at h6 h3 h4 h5 ⊢
  unfold b1 at h2 h6 h3 h4 h5 ⊢
  omega
/-- the manner that lines tell of a job -/
def manOf (ml : List (Str × Str)) (x : Str) : Str := ((ml.find? fun q => decide (q.1 = x)).map (·.2)).getD "plain"
theorem valV_mKv (ml : List (Str × Str)) (x : Str) : (valV (mKv ml) (.inr x)).getD (.str "plain") = .str (manOf ml x) := by
  unfold valV mKv manOf
  induction ml with
  | nil => rfl
  | cons q r ih =>
    rw [List.map_cons, List.find?_cons, List.find?_cons]
    by_cases h : q.1 = x
    · rw [show decide ((Sum.inr q.1 : Key) = .inr x) = true from decide_eq_true (by rw [h]), decide_eq_true h]
      rfl
    · rw [show decide ((Sum.inr q.1 : Key) = .inr x) = false from decide_eq_false (fun z => h (Sum.inr.inj z)), decide_eq_false h]
      exact ih
theorem cut_strs_to (ws : List Str) (b : Nat) : cutV (ws.map V.str) none (some (b : Int)) = ((ws.take b).map V.str) := by
  unfold cutV
  rw [HT.sIx_nat, HT.sIx_none, List.drop_zero, Nat.sub_zero, List.length_map, List.map_take]
  by_cases h : b ≤ ws.length
  · rw [Nat.min_eq_left h]
  · rw [Nat.min_eq_right (by omega), List.take_of_length_le (by rw [List.length_map]; exact Nat.le_refl _), List.take_of_length_le (by rw [List.length_map]; omega)]
/-- the text of a good book, by lines -/
structure TextOk (x : Str) (names : List Str) (ml : List (Str × Str)) (fs : List Fact) : Prop where
  len : x.length ≤ 90000
  ln : Txt.split x "\n" = jN names :: (ml.map mLine ++ fs.map fT) ∧ Txt.split (jN names) " " = ("jobs" : Str) :: names ∧ (jN names).length ≤ 41 ∧ ∀ p ∈ ml, (mLine p).length ≤ 100
  nm : NamesOk names
  mn : MansOk names ml (fs.map fT)
  f : FactsOk names.length fs
def BookAt (C : Addr) (H : Hp) (b : Addr) (x : Str) (names : List Str) (ml : List (Str × Str)) (fs : List Fact) : Prop :=
  ∃ dx j m f a, H b = some (.ins C dx (b5 (hN names ml) x j m f a)) ∧ TupF H j (names.map V.str) ∧ H m = some (.tup ((names.map (manOf ml)).map V.str)) ∧ Fz H (.ref f) (eS (List.replicate names.length (0, 0))) ∧ Fz H (.ref a) (.tuple (fs.map eF))
def spInitB (C : Addr) : Sp := fun vs H Q _ => ∃ (b dx : Addr) (x : Str) (names : List Str) (ml : List (Str × Str)) (fs : List Fact), vs = [.ref b, .str x] ∧ H b = some (.ins C dx []) ∧ TextOk x names ml fs ∧
  ∀ H', Keep b H H' → BookAt C H' b x names ml fs → Q .non H'
end GD
namespace K73
open PySem PySem.Spec PyProof.Rows L2 GD
abbrev cBook : Stmt := top 29
abbrev pInit : Stmt := inClass cBook 0
section
variable {P : Program} {w : World} {K : PySem.W.Frag} {mg : Str → Option Value} {base : Heap}
structure BookC (K : PySem.W.Frag) (mg : Str → Option Value) (C : Addr) : Prop where
  cl : Cls K C
  nT : NoAttr K C "text"
  nJ : NoAttr K C "jobs"
  nM : NoAttr K C "manners"
  nF : NoAttr K C "first"
  nH : NoAttr K C "head"
  nA : NoAttr K C "facts"
  mgC : mg "Book" = some (.ref C)
abbrev NIn : List Str := ["self", "text", "lines", "lined", "job"]
theorem scIn : FnScope NIn ["self", "text"] (defScope pInit) := ⟨rfl, rfl, rfl, by decide +kernel, rfl, by decide +kernel, by decide +kernel⟩
theorem ok_init {f C fJ fM fA : Addr} {fd fdJ fdM fdA : FuncData} (F : Fun K "__init__" "Book.__init__" pInit f fd) (B : BookC K mg C) (S : Reads1 mg)
    (gJ : mg "read_jobs" = some (.ref fJ)) (bJ : Binds K fdJ ["line"] []) (kJ : PySem.W.keepIn K (.ref fJ) = true) (GJ : FnOk P w K mg base CX0 2 fJ fdJ ["line"] spRdJobs)
    (gM : mg "read_manners" = some (.ref fM)) (bM : Binds K fdM ["lines", "jobs"] []) (kM : PySem.W.keepIn K (.ref fM) = true) (GM : FnOk P w K mg base CX0 1 fM fdM ["lines", "jobs"] spRdMan)
    (gA : mg "read_facts" = some (.ref fA)) (bA : Binds K fdA ["lines", "start", "many"] []) (kA : PySem.W.keepIn K (.ref fA) = true) (GA : FnOk P w K mg base CX0 5 fA fdA ["lines", "start", "many"] spRdFs) :
    FnOk P w K mg base CX0 6 f fd ["self", "text"] (spInitB C) := by
  refine F.ok scIn (fun vs H Q E h => ?_) (fun cdv A outer s H vs Q E hr h => ?_)
  · obtain ⟨b, dx, x, names, ml, fs, rfl, _⟩ := h
    rfl
  · obtain ⟨b, dx, x, names, ml, fs, rfl, hb, ok, q⟩ := h
    have hr1 : Room 1 _ := hr.mono (by decide)
    have hr2 : Room 2 _ := hr.mono (by decide)
    refine ⟨_, pss_cons (ps_if (pt_not (pt_val (pe_callB call_isi (by rfl) S.f.isi (by decide +kernel) (pa_cons (pv 1) (pa_cons (pe_bltn (v := .ty "str") (by rfl) S.f.str PyProof.Rows.Boot.«str» rfl) pa_nil))))) (pss_one ps_no) pss_nil)
      (pss_cons (ps_set (i := 2) scIn.nd rfl (.inl rfl) (pe_bm PySem.F.plainAttrs_str PySem.F.slot_str_split PySem.F.type_str_split mt_split (pv 1) (pa_cons pe_str pa_nil)))
      (pss_cons (ps_fld (pv 0) (pv 1) rfl)
      (pss_cons (ps_fld (pv 0) (pe_call GJ hr2 (by rfl) gJ kJ bJ .nil pass0 (pa_cons (pe_ix ix_list (pv 2) pe_int (fun _ _ => rfl)) pa_nil)) rfl)
      (pss_cons (ps_set (i := 3) scIn.nd rfl (.inr rfl) (pe_call GM hr1 (by rfl) gM kM bM .nil pass0 (pa_cons (pv 2) (pa_cons (pe_fld (pv 0) rfl) pa_nil))))
      (pss_cons (ps_fld (pv 0) (pe_bm PySem.F.plainAttrs_str PySem.F.slot_str_join PySem.F.type_str_join mt_join pe_str (pa_cons (pe_slice sl_list (pv 2) po_none (po_some (pe_op op_add pe_int (pe_callB call_lenD (by rfl) S.f.len PySem.boot_len (pa_cons (pv 3) pa_nil))))) pa_nil)) rfl)
      (pss_cons (ps_fld (pv 0) (pe_callTy call_tuple_of (by rfl) S.f.tup (by decide +kernel) (pa_cons (pe_lc (own := [("job", 4)]) (g := gName 4) (tt := tYes) rfl scIn.nd (pi_tup (pe_fld (pv 0) rfl)) (blkOk_by (N := NIn) (sc := defScope pInit) (by decide +kernel))
          (fun _ _ _ _ _ => pg_name (i := 4) scIn.nd rfl (.inl rfl)) (fun _ _ _ _ _ => pts_nil) (fun _ _ _ _ _ => pe_dget2 (u1 hr) (pv 3) (pv 4) pe_str ⟨rfl, rfl, rfl, rfl⟩)) pa_nil)) rfl)
      (pss_cons (ps_fld (pv 0) (pe_op op_repU (pe_tup (pa_cons (pe_tup (pa_cons pe_int (pa_cons pe_int pa_nil))) pa_nil)) (pe_callB call_len_seq (by rfl) S.f.len PySem.boot_len (pa_cons (pe_fld (pv 0) rfl) pa_nil))) rfl)
      (pss_one (ps_fld (pv 0) (pe_call GA hr (by rfl) gA kA bA .nil pass0 (pa_cons (pv 2) (pa_cons (pe_op op_add pe_int (pe_callB call_lenD (by rfl) S.f.len PySem.boot_len (pa_cons (pv 3) pa_nil))) (pa_cons (pe_callB call_len_seq (by rfl) S.f.len PySem.boot_len (pa_cons (pe_fld (pv 0) rfl) pa_nil)) pa_nil)))) rfl))))))))), ?_⟩
    obtain ⟨hs0, hs1, hl0, hml⟩ := ok.ln
    have olen := ok.len
    have bl := b_len (hN names ml) x
    have okm := ok.mn.l
    refine ⟨_, rfl, _, _, _, _, true, rfl, .ty _, .base (.str _), kit_ty (by decide +kernel), _, rfl, iteF ?_⟩
    refine ⟨_, rfl, rfl, _, _, rfl, rfl, rfl, small_len (by omega), fun l nl => ?_⟩
    have s1 := same_new (o := .lst ((Txt.split x "\n").map V.str)) nl
    have el : (upd H l (.lst ((Txt.split x "\n").map V.str))) l = some (.lst ((jN names :: (ml.map mLine ++ fs.map fT)).map V.str)) := by rw [upd_same, hs0]
    generalize upd H l (.lst ((Txt.split x "\n").map V.str)) = H1 at s1 el ⊢
    have hb1 := s1 _ _ hb
    have nlb : l ≠ b := ne_of el hb1 (fun z => by cases z)
    refine ⟨_, rfl, _, rfl, b, C, dx, [], rfl, hb1, B.cl, B.nT, (by show 0 < 1000; decide), ?_⟩
    have k2 : Keep b H (upd H1 b (.ins C dx (b1 x))) := (sKeep s1).trans keep_at
    have el2 := keep_at (o := .ins C dx (b1 x)) _ _ nlb el
    have hb2 : (upd H1 b (.ins C dx (b1 x))) b = some (.ins C dx (b1 x)) := upd_same
    show tSeq _ _ _ _ (upd H1 b (.ins C dx (b1 x)))
    generalize upd H1 b (.ins C dx (b1 x)) = H2 at k2 el2 hb2 ⊢
    refine ⟨_, rfl, l, _, 0, _, rfl, rfl, SqL.of el2, at0, jN names, names, rfl, Nat.le_trans hl0 (by decide), hs1, ok.nm, fun j H3 nj s3 ej => ?_⟩
    obtain ⟨oj, doj, ej⟩ := ej
    have hb3 := s3 _ _ hb2
    have njb : j ≠ b := ne_of ej hb3 (fun z => by cases z)
    refine ⟨_, rfl, b, C, dx, _, rfl, hb3, B.cl, B.nJ, (bl j j j j).1, ?_⟩
    have k4 : Keep b H2 (upd H3 b (.ins C dx (b2 x j))) := (sKeep s3).trans keep_at
    have ej4 := keep_at (o := .ins C dx (b2 x j)) _ _ njb ej
    have hb4 : (upd H3 b (.ins C dx (b2 x j))) b = some (.ins C dx (b2 x j)) := upd_same
    show tSeq _ _ _ _ (upd H3 b (.ins C dx (b2 x j)))
    generalize upd H3 b (.ins C dx (b2 x j)) = H4 at k4 ej4 hb4 ⊢
    have el4 := k4 _ _ nlb el2
    refine ⟨_, rfl, _, rfl, b, C, dx, _, _, rfl, hb4, B.cl, B.nJ, b2_jobs _ _, l, j, jN names, names, ml, fs.map fT, rfl, el4, ⟨oj, doj, ej4⟩, ok.mn, fun d H5 nd s5 ed => ?_⟩
    have hb5 := s5 _ _ hb4
    have ej5 := s5 _ _ ej4
    have ndb : d ≠ b := ne_of ed hb5 (fun z => by cases z)
    have lkv0 : (mKv ml).length = ml.length := List.length_map ..
    refine ⟨rfl, _, rfl, _, rfl, d, _, rfl, ed, _, _, rfl, rfl, _, rfl, l, _, rfl, SqL.of (s5 _ _ el4), fun ph nph => ?_⟩
    have ecut : cutV ((jN names :: (ml.map mLine ++ fs.map fT)).map V.str) none (some (1 + ((mKv ml).length : Int))) = ((jN names :: ml.map mLine).map V.str) := by
      rw [lkv0, show (1 + (ml.length : Int)) = ((1 + ml.length : Nat) : Int) by omega, cut_strs_to, Nat.add_comm, List.take_succ_cons, show ml.length = (ml.map mLine).length from (List.length_map ..).symm, List.take_left]
    rw [ecut]
    have sh := same_new (o := .lst ((jN names :: ml.map mLine).map V.str)) nph
    have eh : (upd H5 ph (.lst ((jN names :: ml.map mLine).map V.str))) ph = some (.lst ((jN names :: ml.map mLine).map V.str)) := upd_same
    generalize upd H5 ph (.lst ((jN names :: ml.map mLine).map V.str)) = H5a at sh eh ⊢
    refine ⟨_, ph, _, rfl, rfl, .inl (SqL.of eh), ?_, ?_⟩
    · have z := sum_len (ys := jN names :: ml.map mLine) (k := 100) fun y hy => by
        rcases List.mem_cons.mp hy with e | e
        · rw [e]
          omega
        · obtain ⟨p, hp, rfl⟩ := List.mem_map.mp e
          exact hml p hp
      rw [List.length_cons, List.length_map] at z
      rw [List.length_cons, List.length_map, show ("\n" : Str).length = 1 from rfl]
      omega
    have hb5a := sh _ _ hb5
    refine ⟨_, rfl, b, C, dx, _, rfl, hb5a, B.cl, B.nH, (bl j j j j).2.1, ?_⟩
    have k4b : Keep b H4 (upd H5a b (.ins C dx (bh (hN names ml) x j))) := ((sKeep s5).trans (sKeep sh)).trans keep_at
    have ej5b := keep_at (o := .ins C dx (bh (hN names ml) x j)) _ _ njb (sh _ _ ej5)
    have ed5b := keep_at (o := .ins C dx (bh (hN names ml) x j)) _ _ ndb (sh _ _ ed)
    have hb5b : (upd H5a b (.ins C dx (bh (hN names ml) x j))) b = some (.ins C dx (bh (hN names ml) x j)) := upd_same
    show tSeq _ _ _ _ (upd H5a b (.ins C dx (bh (hN names ml) x j)))
    clear ed hb5 ej5
    generalize upd H5a b (.ins C dx (bh (hN names ml) x j)) = H5b at k4b ej5b ed5b hb5b ⊢
    have hb5 := hb5b
    have ej5 := ej5b
    have ed := ed5b
    refine ⟨_, rfl, b, C, dx, _, _, rfl, hb5, B.cl, B.nJ, bh_jobs _ _, j, rfl, ⟨_, sqT_fz ej5⟩, fun D hD => ?_⟩
    have nl4 := ok.nm.l4
    have nl1 := ok.nm.l1
    refine lc_tup (K := K) (a := j) (xs := names.map V.str) (fun i H' => Same H5b H' ∧ H' D = some (.lst (((names.take i).map (manOf ml)).map V.str))) ⟨same_new hD, upd_same⟩ (fun i H' _ ⟨s6, _⟩ => sqT_fz (s6 _ _ ej5)) ?_ ?_
    · rintro i v H' hx ⟨s6, eD⟩
      rw [List.getElem?_map] at hx
      cases c : names[i]? with
      | none =>
        rw [c] at hx
        cases hx
      | some y =>
        rw [c] at hx
        obtain rfl : V.str y = v := Option.some.inj hx
        have hi : i < names.length := (List.getElem?_eq_some_iff.mp c).1
        have ed6 := s6 _ _ ed
        refine ⟨rfl, _, rfl, d, rfl, .inl ⟨_, .inl ed6⟩, _, rfl, _, DGet.k (k := .inr y) ed6, ?_⟩
        rw [valV_mKv]
        refine ⟨_, eD, ?_, same_upd s6 hD, ?_⟩
        · rw [List.length_map, List.length_map, List.length_take]
          exact Nat.lt_of_le_of_lt (Nat.min_le_left _ _) (Nat.lt_of_lt_of_le (show i < 5 by omega) (by decide))
        · rw [upd_same, GD.take_next c, List.map_append, List.map_append]
          rfl
    · rintro H6 ⟨s6, eD⟩
      rw [List.length_map, List.take_length] at eD
      refine ⟨D, _, rfl, .inl ⟨SqL.of eD, fun m hm => ?_⟩⟩
      have s7 := same_new (o := .tup ((names.map (manOf ml)).map V.str)) hm
      have em : (upd H6 m (.tup ((names.map (manOf ml)).map V.str))) m = some (.tup ((names.map (manOf ml)).map V.str)) := upd_same
      generalize upd H6 m (.tup ((names.map (manOf ml)).map V.str)) = H7 at s7 em ⊢
      have s57 := s6.trans s7
      have hb7 := s57 _ _ hb5
      have nmb : m ≠ b := ne_of em hb7 (fun z => by cases z)
      refine ⟨_, rfl, b, C, dx, _, rfl, hb7, B.cl, B.nM, (bl j j j j).2.2.1, ?_⟩
      have k8 : Keep b H4 (upd H7 b (.ins C dx (b3 (hN names ml) x j m))) := (k4b.trans (sKeep s57)).trans keep_at
      have em8 := keep_at (o := .ins C dx (b3 (hN names ml) x j m)) _ _ nmb em
      have ed8 := keep_at (o := .ins C dx (b3 (hN names ml) x j m)) _ _ ndb (s57 _ _ ed)
      have hb8 : (upd H7 b (.ins C dx (b3 (hN names ml) x j m))) b = some (.ins C dx (b3 (hN names ml) x j m)) := upd_same
      show tSeq _ _ _ _ (upd H7 b (.ins C dx (b3 (hN names ml) x j m)))
      generalize upd H7 b (.ins C dx (b3 (hN names ml) x j m)) = H8 at k8 em8 ed8 hb8 ⊢
      have ej8 := k8 _ _ njb ej4
      have el8 := k8 _ _ nlb el4
      refine ⟨(by show 2 ≤ sizeLine; decide), fun t0 ht0 => ⟨(by show 1 ≤ sizeLine; decide), fun t1 ht1 => ?_⟩⟩
      have sa := same_new (o := .tup [.int 0, .int 0]) ht0
      have ea : (upd H8 t0 (.tup [.int 0, .int 0])) t0 = some (.tup [.int 0, .int 0]) := upd_same
      generalize upd H8 t0 (.tup [.int 0, .int 0]) = H9 at sa ea ht1 ⊢
      have sb := same_new (o := .tup [.ref t0]) ht1
      have eb : (upd H9 t1 (.tup [.ref t0])) t1 = some (.tup [.ref t0]) := upd_same
      have ea2 := sb _ _ ea
      generalize upd H9 t1 (.tup [.ref t0]) = H10 at sb eb ea2 ⊢
      have sab := sa.trans sb
      have hb10 := sab _ _ hb8
      refine ⟨_, rfl, b, C, dx, _, _, rfl, hb10, B.cl, B.nJ, b3_jobs _ _ _, j, _, rfl, .inr (sqT_fz (sab _ _ ej8)), ?_⟩
      refine ⟨t1, names.length, [.ref t0], rfl, by rw [List.length_map], eb, (fun z => by cases z), nl1, by omega, (by show 1 ≤ 1000; decide), fun f H11 s11 ef => ?_⟩
      have hb11 := s11 _ _ hb10
      have s811 := sab.trans s11
      have nfb : f ≠ b := ne_of ef hb11 (fun z => by cases z)
      have ff : Fz H11 (.ref f) (eS (List.replicate names.length (0, 0))) := by
        refine .tup ef ?_
        have e0 : Fz H11 (.ref t0) (eP (0, 0)) := .tup (s11 _ _ ea2) (.cons (.int 0) (.cons (.int 0) .nil))
        generalize names.length = nn
        induction nn with
        | zero => exact .nil
        | succ nn ih => exact .cons e0 ih
      refine ⟨_, rfl, b, C, dx, _, rfl, hb11, B.cl, B.nF, (bl j m j j).2.2.2.1, ?_⟩
      have k12 : Keep b H8 (upd H11 b (.ins C dx (b4 (hN names ml) x j m f))) := (sKeep s811).trans keep_at
      have ff12 := ff.mv (Keep.tupsI hb11 (keep_at (o := .ins C dx (b4 (hN names ml) x j m f))))
      have hb12 : (upd H11 b (.ins C dx (b4 (hN names ml) x j m f))) b = some (.ins C dx (b4 (hN names ml) x j m f)) := upd_same
      show Ends.nx _ _ (upd H11 b (.ins C dx (b4 (hN names ml) x j m f)))
      generalize upd H11 b (.ins C dx (b4 (hN names ml) x j m f)) = H12 at k12 ff12 hb12 ⊢
      have ej12 := k12 _ _ njb ej8
      have el12 := k12 _ _ nlb el8
      have ed12 := k12 _ _ ndb ed8
      have em12 := k12 _ _ nmb em8
      have lkv : (mKv ml).length = ml.length := List.length_map ..
      have okl := ok.mn.l
      refine ⟨_, rfl, _, rfl, d, _, rfl, ed12, _, _, rfl, rfl, _, rfl, b, C, dx, _, _, rfl, hb12, B.cl, B.nJ, b4_jobs _ _ _ _, j, _, rfl, .inr (sqT_fz ej12), ?_⟩
      refine ⟨l, jN names :: (ml.map mLine ++ fs.map fT), 1 + ml.length, names.length, fs, ?_, el12, ?_, ?_, nl1, nl4, ok.f, by omega, fun v H13 s13 fz => ?_⟩
      · rw [lkv, List.length_map]
        show [V.ref l, V.int (1 + (ml.length : Int)), V.int (names.length : Int)] = _
        rw [show (1 + (ml.length : Int)) = ((1 + ml.length : Nat) : Int) by omega]
      · rw [List.length_cons, List.length_append, List.length_map]
        omega
      · rw [Nat.add_comm, List.drop_succ_cons, show ml.length = (ml.map mLine).length from (List.length_map ..).symm, List.drop_left]
      obtain ⟨a, xs, rfl, ha, fa⟩ := fz.t
      have hb13 := s13 _ _ hb12
      refine ⟨_, rfl, b, C, dx, _, rfl, hb13, B.cl, B.nA, (bl j m f j).2.2.2.2.1, ?_⟩
      have tF := Keep.tupsI hb13 (keep_at (o := .ins C dx (b5 (hN names ml) x j m f a)))
      have kF : Keep b H12 (upd H13 b (.ins C dx (b5 (hN names ml) x j m f a))) := (sKeep s13).trans keep_at
      refine q _ ((((k2.trans k4).trans k8).trans k12).trans kF) ⟨dx, j, m, f, a, upd_same, ⟨oj, doj, kF _ _ njb ej12⟩, kF _ _ nmb em12, (ff12.mv (tups_same s13)).mv tF, fz.mv tF⟩
end
end K73
namespace GD
open PySem PySem.Spec PyProof.Rows L2
end GD
namespace GD
open PySem PySem.Spec PyProof.Rows L2
def lN (names : List Str) (ml : List (Str × Str)) (fs : List Fact) : List Str := jN names :: (ml.map mLine ++ fs.map fT)
def bN (names : List Str) (ml : List (Str × Str)) (fs : List Fact) : Str := Txt.join "\n" (lN names ml fs)
structure GoodB (names : List Str) (ml : List (Str × Str)) (fs : List Fact) : Prop where
  nm : NamesOk names
  m1 : ∀ p ∈ ml, p.1 ∈ names
  m2 : ∀ p ∈ ml, p.2 ∈ lined3
  nd : (ml.map (·.1)).Nodup
  f : FactsOk names.length fs
theorem nodup_sub_len {α : Type} [DecidableEq α] : ∀ {l m : List α}, l.Nodup → (∀ x ∈ l, x ∈ m) → l.length ≤ m.length
  | [], m, _, _ => Nat.zero_le _
  | a :: l, m, h, hs => by
    have h1 := List.nodup_cons.mp h
    have ham := hs a List.mem_cons_self
    have hp := List.perm_cons_erase ham
    have z : l.length ≤ (m.erase a).length := nodup_sub_len h1.2 fun x hx => by
      have hxa : x ≠ a := fun e => h1.1 (e ▸ hx)
      exact (List.mem_erase_of_ne hxa).mpr (hs x (List.mem_cons_of_mem _ hx))
    have l2 := hp.length_eq
    rw [List.length_cons] at l2 ⊢
    omega
theorem GoodB.mlen {names : List Str} {ml : List (Str × Str)} {fs : List Fact} (h : GoodB names ml fs) : ml.length ≤ 4 := by
  have z := nodup_sub_len h.nd fun x hx => by
    obtain ⟨p, hp, rfl⟩ := List.mem_map.mp hx
    exact h.m1 p hp
  rw [List.length_map] at z
  have := h.nm.l4
  omega
theorem free_jobs : Free 32 ("jobs" : Str) := by
  unfold Free
  decide +kernel
theorem jN_words {names : List Str} (h : names ≠ []) : jN names = Txt.join " " (("jobs" : Str) :: names) := by
  rw [jN, join_cons h, show ("jobs " : Str) = "jobs" ++ " " from rfl]
theorem split_jN {names : List Str} (h : NamesOk names) : Txt.split (jN names) " " = ("jobs" : Str) :: names := by
  have ne : names ≠ [] := fun e => by
    have := h.l1
    rw [e] at this
    exact absurd this (by decide)
  rw [jN_words ne]
  refine split_sp (fun z => by cases z) fun x hx => ?_
  rcases List.mem_cons.mp hx with e | e
  · rw [e]
    exact free_jobs
  · exact nameB_free (h.nm x e) (by decide)
theorem free_app {c : Nat} {x y : Str} (h1 : Free c x) (h2 : Free c y) : Free c (x ++ y) := by
  unfold Free at *
  rw [TL.tl_append]
  exact fun m => (List.mem_append.mp m).elim h1 h2
theorem free_join {c : Nat} {y : Str} (hy : Free c y) : ∀ {xs : List Str}, (∀ x ∈ xs, Free c x) → Free c (Txt.join y xs)
  | [], _ => by
    unfold Free
    rw [TL.join_eq]
    exact fun m => (nomatch m)
  | [x], h => by
    rw [join_one]
    exact h x List.mem_cons_self
  | a :: b :: r, h => by
    rw [join_cons (by simp)]
    exact free_app (free_app (h a List.mem_cons_self) hy) (free_join hy fun x hx => h x (List.mem_cons_of_mem _ hx))
theorem free_sp10 : Free 10 (" " : Str) := by
  unfold Free
  decide +kernel
theorem free_jb10 : Free 10 ("jobs " : Str) := by
  unfold Free
  decide +kernel
theorem free_lined10 {x : Str} (h : x ∈ lined3) : Free 10 x := by
  unfold lined3 at h
  simp only [List.mem_cons, List.not_mem_nil, or_false] at h
  rcases h with rfl | rfl | rfl <;> (unfold Free; decide +kernel)
theorem free_lN {names : List Str} {ml : List (Str × Str)} {fs : List Fact} (h : GoodB names ml fs) : ∀ x ∈ lN names ml fs, Free 10 x := fun x hx => by
  rcases List.mem_cons.mp hx with e | e
  · rw [e]
    exact free_app free_jb10 (free_join free_sp10 fun y hy => nameB_free (h.nm.nm y hy) (by decide))
  · rcases List.mem_append.mp e with e | e
    · obtain ⟨p, hp, rfl⟩ := List.mem_map.mp e
      exact free_app (free_app (free_lined10 (h.m2 p hp)) free_sp10) (nameB_free (h.nm.nm _ (h.m1 p hp)) (by decide))
    · obtain ⟨f, hf, rfl⟩ := List.mem_map.mp e
      rw [fT_words (h.f.b f hf) h.nm.l1]
      exact free_join free_sp10 (free_wF (h.f.b f hf) (by decide))
theorem split_bN {names : List Str} {ml : List (Str × Str)} {fs : List Fact} (h : GoodB names ml fs) : Txt.split (bN names ml fs) "\n" = lN names ml fs := split_nl (fun z => by cases z) (free_lN h)
theorem len_jN {names : List Str} (h : NamesOk names) : (jN names).length ≤ 41 := by
  have z := len_join (y := " ") (ys := names) (k := 8) fun x hx => nameB_len (h.nm x hx)
  have := h.l4
  rw [len1] at z
  rw [jN, len_app, show ("jobs " : Str).length = 5 from rfl]
  omega
theorem good_text {names : List Str} {ml : List (Str × Str)} {fs : List Fact} (h : GoodB names ml fs) : TextOk (bN names ml fs) names ml fs := by
  have l4 := h.nm.l4
  have l1 := h.nm.l1
  have lm := h.mlen
  have lf := h.f.len
  refine ⟨?_, ⟨split_bN h, split_jN h.nm, len_jN h.nm, fun p hp => by have a := nameB_len (h.nm.nm _ (h.m1 p hp)); have b := (free_lined (h.m2 p hp)).2; rw [mLine, len_app, len_app, len1]; omega⟩, h.nm, ⟨fun p hp => ?_, h.m2, h.nd, fun x hx => ?_, by omega, by rw [List.length_map]; omega⟩, h.f⟩
  · have z := len_join (y := "\n") (ys := lN names ml fs) (k := 100) fun x hx => by
      rcases List.mem_cons.mp hx with e | e
      · rw [e]
        exact Nat.le_trans (len_jN h.nm) (by decide)
      · rcases List.mem_append.mp e with e | e
        · obtain ⟨p, hp, rfl⟩ := List.mem_map.mp e
          have a := nameB_len (h.nm.nm _ (h.m1 p hp))
          have b := (free_lined (h.m2 p hp)).2
          rw [mLine, len_app, len_app, len1]
          omega
        · obtain ⟨f, hf, rfl⟩ := List.mem_map.mp e
          have a := len_fT (h.f.b f hf) (by decide)
          omega
    rw [show ("\n" : Str).length = 1 from rfl] at z
    refine Nat.le_trans z ?_
    rw [lN, List.length_cons, List.length_append, List.length_map, List.length_map]
    omega
  · have hn := h.m1 p hp
    exact ⟨hn, nameB_free (h.nm.nm _ hn) (by decide), Nat.le_trans (nameB_len (h.nm.nm _ hn)) (by decide)⟩
  · obtain ⟨f, hf, rfl⟩ : ∃ f ∈ fs, fT f = x := by
      cases fs with
      | nil => cases hx
      | cons f r => exact ⟨f, List.mem_cons_self, Option.some.inj hx⟩
    have hb := h.f.b f hf
    refine ⟨?_, Nat.le_trans (len_fT hb (by decide)) (by omega)⟩
    rw [split_fT hb l1]
    cases f with
    | let_ s =>
      have l := wS_len s
      rw [hb.1] at l
      rw [wF, List.length_cons, l]
      omega
    | not_ s =>
      have l := wS_len s
      rw [hb.1] at l
      rw [wF, List.length_cons, l]
      omega
    | as_ s t =>
      have l := wS_len s
      rw [hb.1] at l
      rw [wF, List.length_append, List.length_cons, List.length_cons, l]
      omega
end GD
namespace GD
open PySem PySem.Spec PyProof.Rows L2
end GD
namespace GD
open PySem PySem.Spec PyProof.Rows L2
end GD
namespace GD
open PySem PySem.Spec PyProof.Rows L2
end GD
namespace GD
open PySem PySem.Spec PyProof.Rows L2
theorem FactsOk.snoc {k : Nat} {fs : List Fact} {f : Fact} (h : FactsOk k fs) (hb : FactB k 40 f) (hn : f ∉ fs) (hc : GD.cnt (kindS f) fs < lim (kindS f)) : FactsOk k (fs ++ [f]) := by
  refine ⟨fun g hg => ?_, List.nodup_append.mpr ⟨h.nd, List.nodup_cons.mpr ⟨fun h => (nomatch h), .nil⟩, fun u hu v hv e => ?_⟩, fun x hx => ?_⟩
  · rcases List.mem_append.mp hg with y | y
    · exact h.b g y
    · rw [List.mem_singleton.mp y]
      exact hb
  · rw [List.mem_singleton.mp hv] at e
    exact hn (e ▸ hu)
  · rw [cnt_snoc, one3]
    by_cases e : kindS f = x
    · rw [if_pos e, ← e]
      omega
    · rw [if_neg e]
      exact h.lm x hx
theorem GoodB.snoc {names : List Str} {ml : List (Str × Str)} {fs : List Fact} {f : Fact} (h : GoodB names ml fs) (hb : FactB names.length 40 f) (hn : f ∉ fs) (hc : GD.cnt (kindS f) fs < lim (kindS f)) : GoodB names ml (fs ++ [f]) :=
  { h with f := h.f.snoc hb hn hc }
theorem FactsOk.sub {k : Nat} {fs gs : List Fact} (h : FactsOk k fs) (s : List.Sublist gs fs) : FactsOk k gs :=
  ⟨fun g hg => h.b g (s.subset hg), s.nodup h.nd, fun x hx => Nat.le_trans (s.filter _).length_le (h.lm x hx)⟩
theorem GoodB.sub {names : List Str} {ml : List (Str × Str)} {fs gs : List Fact} (h : GoodB names ml fs) (s : List.Sublist gs fs) : GoodB names ml gs := { h with f := h.f.sub s }
theorem BookAt.same {C : Addr} {H H' : Hp} {b : Addr} {x : Str} {names : List Str} {ml : List (Str × Str)} {fs : List Fact} (s : Same H H') (h : BookAt C H b x names ml fs) : BookAt C H' b x names ml fs := by
  obtain ⟨dx, j, m, f, a, h1, h2, h3, h4, h5⟩ := h
  exact ⟨dx, j, m, f, a, s _ _ h1, h2.same s, s _ _ h3, h4.same s, h5.same s⟩
theorem made_same {C x dx : Addr} {H H' : Hp} (nx : H x = none) (ndx : H dx = none) (k : Keep x (upd (upd H dx (.own x)) x (.ins C dx [])) H') : Same H H' := fun b o e => k b o (ne_of_none e nx) (by rw [upd_ne (ne_of_none e nx), upd_ne (ne_of_none e ndx)]; exact e)
end GD
namespace K73
open PySem PySem.Spec PyProof.Rows L2 GD
section
variable {P : Program} {w : World} {K : PySem.W.Frag} {mg : Str → Option Value} {base : Heap}
/-- a book is made -/
structure Maker (P : Program) (w : World) (K : PySem.W.Frag) (mg : Str → Option Value) (base : Heap) (C fI : Addr) (fdI : FuncData) : Prop where
  B : BookC K mg C
  M : Mk K C fI
  b : Binds K fdI ["self", "text"] []
  G : FnOk P w K mg base CX0 6 fI fdI ["self", "text"] (spInitB C)
theorem made_book {C : Addr} {names : List Str} {ml : List (Str × Str)} {fs : List Fact} {H : Hp} {Q : VK} (g : GoodB names ml fs) (q : ∀ b H', Same H H' → H b = none → BookAt C H' b (bN names ml fs) names ml fs → Q (.ref b) H') (x dx : Addr) (nx : H x = none) (ndx : H dx = none) (ne : dx ≠ x) :
    spInitB C (V.ref x :: ([.str (bN names ml fs)] ++ [])) (upd (upd H dx (.own x)) x (.ins C dx [])) (fun v H2 => v = .non ∧ Q (.ref x) H2) E0 :=
  ⟨x, dx, _, names, ml, fs, rfl, upd_same, good_text g, fun H' k b => ⟨rfl, q x H' (made_same nx ndx k) nx b⟩⟩
end
end K73
namespace GD
open PySem PySem.Spec PyProof.Rows L2
def man4 : List Str := ["plain", "clean", "spent", "free"]
structure JsOk (js : List (Str × Str)) (fs : List Fact) : Prop where
  nm : NamesOk (js.map (·.1))
  mn : ∀ j ∈ js, j.2 ∈ man4
  f : FactsOk js.length fs
abbrev mlOf (js : List (Str × Str)) : List (Str × Str) := js.filter fun j => decide (j.2 ≠ ("plain" : Str))
theorem JsOk.good {js : List (Str × Str)} {fs : List Fact} (h : JsOk js fs) : GoodB (js.map (·.1)) (mlOf js) fs := by
  refine ⟨h.nm, fun p hp => List.mem_map_of_mem (List.mem_filter.mp hp).1, fun p hp => ?_, ?_, by rw [List.length_map]; exact h.f⟩
  · obtain ⟨h1, h2⟩ := List.mem_filter.mp hp
    have z := h.mn p h1
    have n := of_decide_eq_true h2
    unfold man4 at z
    rcases List.mem_cons.mp z with e | e
    · exact absurd e n
    · exact e
  · exact (List.filter_sublist.map _).nodup h.nm.nd
theorem lt_le {j : Str × Str} (h : j.2 ∈ man4) : j.2.length ≤ 5 := by
  unfold man4 at h
  simp only [List.mem_cons, List.not_mem_nil, or_false] at h
  rcases h with e | e | e | e <;> rw [e] <;> decide +kernel
theorem JsOk.lines {js : List (Str × Str)} {fs : List Fact} (h : JsOk js fs) : LinesOk js.length 40 js fs := by
  have l4 := h.nm.l4
  rw [List.length_map] at l4
  have lf := h.f.len
  refine ⟨fun j hj => ⟨?_, Nat.le_trans (lt_le (h.mn j hj)) (by decide)⟩, by omega, h.f.b, by omega, by decide, by omega⟩
  exact Nat.le_trans (nameB_len (h.nm.nm j.1 (List.mem_map_of_mem hj))) (by decide)
theorem pool_names : ∀ x ∈ pool21, nameB x = true := by decide +kernel
theorem q_new : ("q" : Str) ∉ pool21 := by decide +kernel
theorem q_name : nameB "q" = true := by decide +kernel
theorem man6_4 : ∀ x ∈ man6, x ∈ man4 := by decide +kernel
theorem JobsOk.names {js : List (Str × Str)} {ms : List Str} (h : JobsOk 4 ms js) : NamesOk (js.map (·.1)) := by
  obtain ⟨h1, h2, h3, h4⟩ := h
  refine ⟨by rw [List.length_map]; exact h1, by rw [List.length_map]; exact h2, h3, fun x hx => ?_⟩
  obtain ⟨j, hj, rfl⟩ := List.mem_map.mp hx
  exact pool_names _ (h4 j hj).1
theorem LoreOk.js {x2 x3 x4 x5 : Nat} {js : List (Str × Str)} {fs : List Fact} {sts : List Stk} (h : LoreOk 4 man6 x2 x3 x4 x5 js fs sts) (h2 : x2 ≤ 40) (h3 : x3 ≤ 24) (h4 : x4 ≤ 6) (h5 : x5 ≤ 4) : JsOk js fs := by
  obtain ⟨jo, _, nd, hf, c1, c2, c3, _, _⟩ := h
  refine ⟨jo.names, fun j hj => man6_4 _ (jo.2.2.2 j hj).2, fun f hf' => (hf f hf').b.le (by omega), nd, fun x hx => ?_⟩
  rcases hx with rfl | rfl | rfl
  · exact Nat.le_trans c1 (by rw [show lim "let" = 24 from rfl]; exact h3)
  · exact Nat.le_trans c2 (by rw [show lim "not" = 6 from rfl]; exact h4)
  · exact Nat.le_trans c3 (by rw [show lim "as" = 4 from rfl]; exact h5)
/-- a text of a good book -/
def GoodT (x : Str) : Prop := ∃ names ml fs, x = bN names ml fs ∧ GoodB names ml fs
theorem GoodB.t {names : List Str} {ml : List (Str × Str)} {fs : List Fact} (h : GoodB names ml fs) : GoodT (bN names ml fs) := ⟨_, _, _, rfl, h⟩
theorem JsOk.t {js : List (Str × Str)} {fs : List Fact} (h : JsOk js fs) : GoodT (bT js fs) := h.good.t
theorem JsOk.sub {js : List (Str × Str)} {fs gs : List Fact} (h : JsOk js fs) (s : List.Sublist gs fs) : JsOk js gs := { h with f := h.f.sub s }
/-- the first job has another name -/
def fresh : List (Str × Str) → List (Str × Str)
  | [] => []
  | j :: r => (("q" : Str), j.2) :: r
theorem JsOk.fresh {js : List (Str × Str)} {fs : List Fact} (h : JsOk js fs) (hq : ∀ j ∈ js, j.1 ∈ pool21) : JsOk (GD.fresh js) fs := by
  cases js with
  | nil => exact h
  | cons a r =>
    have nd := List.nodup_cons.mp h.nm.nd
    refine ⟨⟨?_, ?_, ?_, fun x hx => ?_⟩, fun j hj => ?_, h.f⟩
    · exact h.nm.l1
    · exact h.nm.l4
    · refine List.nodup_cons.mpr ⟨fun m => ?_, nd.2⟩
      obtain ⟨j, hj, e⟩ := List.mem_map.mp m
      have z := hq j (List.mem_cons_of_mem _ hj)
      rw [show j.1 = ("q" : Str) from e] at z
      exact q_new z
    · rcases List.mem_cons.mp hx with e | e
      · rw [e]
        exact q_name
      · exact h.nm.nm x (List.mem_cons_of_mem _ e)
    · rcases List.mem_cons.mp hj with e | e
      · rw [e]
        exact h.mn a List.mem_cons_self
      · exact h.mn j (List.mem_cons_of_mem _ e)
end GD
namespace GD
open PySem PySem.Spec PyProof.Rows L2
end GD
namespace GD
open PySem PySem.Spec PyProof.Rows L2
def s1 (k : Addr) : List (Str × V) := putF "book" (.ref k) []
def s2 (k j : Addr) : List (Str × V) := putF "jobs" (.ref j) (s1 k)
def s3 (k j m : Addr) : List (Str × V) := putF "manners" (.ref m) (s2 k j)
def s4 (k j m a : Addr) : List (Str × V) := putF "stocks" (.ref a) (s3 k j m)
def ShopAt (C : Addr) (H : Hp) (s : Addr) (names mans : List Str) (sts : List Stk) : Prop :=
  ∃ dx k j m a, H s = some (.ins C dx (s4 k j m a)) ∧ TupF H j (names.map V.str) ∧ H m = some (.tup (mans.map V.str)) ∧ Fz H (.ref a) (.tuple (sts.map eK))
theorem ShopAt.same {C : Addr} {H H' : Hp} {s : Addr} {names mans : List Str} {sts : List Stk} (k : Same H H') (h : ShopAt C H s names mans sts) : ShopAt C H' s names mans sts := by
  obtain ⟨dx, b, j, m, a, h1, h2, h3, h4⟩ := h
  exact ⟨dx, b, j, m, a, k _ _ h1, h2.same k, k _ _ h3, h4.same k⟩
end GD
namespace GD
open PySem PySem.Spec PyProof.Rows L2
end GD
namespace GD
open PySem PySem.Spec PyProof.Rows L2
end GD
namespace GD
open PySem PySem.Spec PyProof.Rows L2 LamX
theorem ext_tups {H H' : Hp} (x : ExtN H H') : Tups H H' := fun b xs e => x b _ e (fun ps z => by cases z)
theorem LstAt.ext {l : Addr} {H H' : Hp} {ds : List PyData} (x : ExtN H H') (h : LstAt H l ds) : LstAt H' l ds := by
  obtain ⟨xs, e, f⟩ := h
  exact ⟨xs, x _ _ e (fun ps z => by cases z), f.mv (ext_tups x)⟩
theorem BookAt.ext {C : Addr} {H H' : Hp} {b : Addr} {t : Str} {names : List Str} {ml : List (Str × Str)} {fs : List Fact} (x : ExtN H H') (h : BookAt C H b t names ml fs) : BookAt C H' b t names ml fs := by
  obtain ⟨dx, j, m, f, a, h1, h2, h3, h4, h5⟩ := h
  exact ⟨dx, j, m, f, a, x _ _ h1 (fun ps z => by cases z), h2.ext x, x _ _ h3 (fun ps z => by cases z), h4.mv (ext_tups x), h5.mv (ext_tups x)⟩
theorem ShopAt.ext {C : Addr} {H H' : Hp} {s : Addr} {names mans : List Str} {sts : List Stk} (x : ExtN H H') (h : ShopAt C H s names mans sts) : ShopAt C H' s names mans sts := by
  obtain ⟨dx, b, j, m, a, h1, h2, h3, h4⟩ := h
  exact ⟨dx, b, j, m, a, x _ _ h1 (fun ps z => by cases z), h2.ext x, x _ _ h3 (fun ps z => by cases z), h4.mv (ext_tups x)⟩
theorem exk_tbl {a : Addr} {cls : Value} {d : Option Addr} {ps : Array Value} : exk a cls d ≠ .tbl ps := fun z => by
  have y : HO.ext _ = HO.tbl ps := z
  cases y
theorem CgtAt.ext {H H' : Hp} {a C : Addr} {v : V} (x : ExtN H H') (h : CgtAt H a C v) : CgtAt H' a C v := by
  obtain ⟨d, h1, h2⟩ := h
  exact ⟨d, x _ _ h1 (fun ps => exk_tbl), x _ _ h2 (fun ps z => by cases z)⟩
theorem find_none {r : List (Str × Str)} {x : Str} (h : x ∉ r.map (·.1)) : r.find? (fun q => decide (q.1 = x)) = none := by
  rw [List.find?_eq_none]
  intro q hq
  rw [decide_eq_true_iff]
  exact fun e => h (e ▸ List.mem_map_of_mem hq)
theorem manOf_one : ∀ {js : List (Str × Str)}, (js.map (·.1)).Nodup → ∀ {j : Str × Str}, j ∈ js → manOf (mlOf js) j.1 = j.2
  | a :: r, nd, j, hj => by
    have nd2 := List.nodup_cons.mp nd
    have sub : ∀ x, x ∈ (mlOf r).map (·.1) → x ∈ r.map (·.1) := fun x hx => by
      obtain ⟨q, hq, e⟩ := List.mem_map.mp hx
      exact e ▸ List.mem_map_of_mem (List.mem_filter.mp hq).1
    by_cases p : a.2 = ("plain" : Str)
    · have e0 : mlOf (a :: r) = mlOf r := by
        show List.filter _ (a :: r) = List.filter _ r
        rw [List.filter_cons, if_neg (by rw [decide_eq_true_iff]; exact fun z => z p)]
      rw [e0]
      rcases List.mem_cons.mp hj with e | e
      · rw [e, manOf, find_none (fun z => nd2.1 (sub _ z)), p]
        rfl
      · exact manOf_one nd2.2 e
    · have e0 : mlOf (a :: r) = a :: mlOf r := by
        show List.filter _ (a :: r) = a :: List.filter _ r
        rw [List.filter_cons, if_pos (by rw [decide_eq_true_iff]; exact p)]
      rw [e0, manOf, List.find?_cons]
      rcases List.mem_cons.mp hj with e | e
      · rw [e, decide_eq_true rfl]
        rfl
      · have ne : ¬ a.1 = j.1 := fun z => nd2.1 (by show a.1 ∈ List.map (·.1) r; rw [show a.1 = j.1 from z]; exact List.mem_map_of_mem e)
        rw [decide_eq_false ne]
        exact manOf_one nd2.2 e
def spLawBook (C : Addr) : Sp := fun vs H Q _ => ∃ (d : Addr) (js : List (Str × Str)) (fs : List Fact), vs = [.ref d] ∧ Lines H d js fs ∧ JsOk js fs ∧ ∀ b H', Same H H' → H b = none → BookAt C H' b (bT js fs) (js.map (·.1)) (mlOf js) fs → Q (.ref b) H'
end GD
namespace K73
open PySem PySem.Spec PyProof.Rows L2 GD
open LamX
abbrev sLawBook : Stmt := top 94
section
variable {P : Program} {w : World} {K : PySem.W.Frag} {mg : Str → Option Value} {base : Heap}
theorem scLB : FnScope ["_law_lore_here"] ["_law_lore_here"] (defScope sLawBook) := ⟨rfl, rfl, rfl, by decide +kernel, rfl, by decide +kernel, by decide +kernel⟩
theorem ok_lawbook {f C fI fU : Addr} {fd fdI fdU : FuncData} (F : Fun K "_law_book" "_law_book" sLawBook f fd) (MK : Maker P w K mg base C fI fdI) (gU : mg "_law_text" = some (.ref fU)) (bU : Binds K fdU ["_law_lore_here"] []) (kU : PySem.W.keepIn K (.ref fU) = true)
    (GU : FnOk P w K mg base CX0 4 fU fdU ["_law_lore_here"] spTextB) : FnOk P w K mg base CX0 8 f fd ["_law_lore_here"] (spLawBook C) := by
  refine F.ok scLB (fun vs H Q E h => ?_) (fun cdv A outer s H vs Q E hr h => ?_)
  · obtain ⟨d, js, fs, rfl, _⟩ := h
    rfl
  · obtain ⟨d, js, fs, rfl, hL, ok, q⟩ := h
    have hr4 : Room 4 _ := hr.mono (by decide)
    refine ⟨_, pss_one (ps_ret (pe_make MK.M MK.G hr (by rfl) MK.B.mgC MK.b .nil pass0 (pa_cons (pe_call GU hr4 (by rfl) gU kU bU .nil pass0 (pa_cons (pv 0) pa_nil)) pa_nil))), ?_⟩
    refine ⟨_, rfl, d, js, fs, js.length, 40, rfl, hL, ok.lines, fun H1 s1 => ?_⟩
    intro x dx nx ndx ne
    exact made_book ok.good (fun b H' s' n' hb => q b H' (s1.trans s') (s1.free n') hb) x dx nx ndx ne
end
end K73
namespace GD
open PySem PySem.Spec PyProof.Rows L2
end GD
namespace GD
open PySem PySem.Spec PyProof.Rows L2
def noInt : List String := ["str", "tuple", "list", "NoneType", "dict"]
def IntOr (K : PySem.W.Frag) (H : Hp) (v : V) (o : Option Int) : Prop := (∃ i, v = .int i ∧ o = some i) ∨ (∃ b, v = .bl b ∧ o = none) ∨ ∃ T ∈ noInt, TyX K H v (.type T) ∧ o = none
def inR (o : Option Int) (m : Int) : Bool := match o with
  | some i => decide (0 ≤ i ∧ i < m)
  | none => false
def spIntA (K : PySem.W.Frag) : Sp := fun vs H Q _ => ∃ (v : V) (o : Option Int), vs = [v] ∧ IntOr K H v o ∧ Q (.bl o.isSome) H
def spNumbA (K : PySem.W.Frag) : Sp := fun vs H Q _ => ∃ (v : V) (m : Int) (o : Option Int), vs = [v, .int m] ∧ IntOr K H v o ∧ Q (.bl (inR o m)) H
end GD
namespace K73
open PySem PySem.Spec PyProof.Rows L2 GD
section
variable {P : Program} {w : World} {K : PySem.W.Frag} {mg : Str → Option Value} {base : Heap}
theorem oka_isint {f : Addr} {fd : FuncData} (F : Fun K "is_integer" "is_integer" pIsInt f fd) (S : Forms1 mg) : FnOk P w K mg base CX0 1 f fd ["value"] (spIntA K) := by
  refine F.ok scI1 (fun vs H Q E h => ?_) (fun cdv A outer s H vs Q E hr h => ?_)
  · obtain ⟨i, o, rfl, _⟩ := h
    rfl
  · obtain ⟨v, o, rfl, hv, q⟩ := h
    refine ⟨_, pss_one (ps_ret (pe_and (pe_callB call_isi (by rfl) S.isi (by decide +kernel) (pa_cons (pv 0) (pa_cons (pe_bltn (v := .ty "int") (by rfl) S.int PyProof.Rows.Boot.«int» rfl) pa_nil)))
      (pe_one (pe_not (pe_callB call_isi (by rfl) S.isi (by decide +kernel) (pa_cons (pv 0) (pa_cons (pe_bltn (v := .ty "bool") (by rfl) S.bool PyProof.Rows.Boot.«bool» rfl) pa_nil))))))), ?_⟩
    rcases hv with ⟨i, rfl, rfl⟩ | ⟨b, rfl, rfl⟩ | ⟨T, hT, ty, rfl⟩
    · refine ⟨_, rfl, _, _, _, _, true, rfl, .ty _, .base (.int _), kit_ty (by decide +kernel), _, rfl, iteT ?_⟩
      exact ⟨_, rfl, _, _, _, _, false, rfl, .ty _, .base (.int _), kit_ty (by decide +kernel), _, rfl, q⟩
    · refine ⟨_, rfl, _, _, _, _, true, rfl, .ty _, .base (.bl _), kit_ty (by decide +kernel), _, rfl, iteT ?_⟩
      exact ⟨_, rfl, _, _, _, _, true, rfl, .ty _, .base (.bl _), kit_ty (by decide +kernel), _, rfl, q⟩
    · simp only [noInt, List.mem_cons, List.not_mem_nil, or_false] at hT
      rcases hT with rfl | rfl | rfl | rfl | rfl
      all_goals exact ⟨_, rfl, _, _, _, _, false, rfl, .ty _, ty, kit_ty (by decide +kernel), _, rfl, iteF q⟩
theorem oka_isnumb {f fI : Addr} {fd fdI : FuncData} (F : Fun K "is_number" "is_number" pIsNumb f fd) (S : Forms1 mg) (AI : At K mg "is_integer" pIsInt ["value"] fI fdI) : FnOk P w K mg base CX0 2 f fd ["value", "many"] (spNumbA K) := by
  have GI : FnOk P w K mg base CX0 1 fI fdI ["value"] (spIntA K) := oka_isint AI.F S
  refine F.ok scI2 (fun vs H Q E h => ?_) (fun cdv A outer s H vs Q E hr h => ?_)
  · obtain ⟨i, m, o, rfl, _⟩ := h
    rfl
  · obtain ⟨v, m, o, rfl, hv, q⟩ := h
    refine ⟨_, pss_one (ps_ret (pe_and (pe_call GI hr rfl AI.g AI.F.kp AI.b .nil pass0 (pa_cons (pv 0) pa_nil)) (pe_one (pe_chain op_le op_lt pe_int (pv 0) (pv 1))))), ?_⟩
    refine ⟨_, rfl, v, o, rfl, hv, _, rfl, ?_⟩
    cases o with
    | none => exact iteF q
    | some i =>
      obtain rfl : v = .int i := by
        rcases hv with ⟨j, e, e2⟩ | ⟨b, e, e2⟩ | ⟨T, _, _, e2⟩
        · cases e2
          exact e
        · cases e2
        · cases e2
      refine iteT ?_
      refine ⟨_, rfl, _, _, rfl, rfl, _, rfl, ?_⟩
      have q : Q (.bl (decide (0 ≤ i ∧ i < m))) H := q
      by_cases h : 0 ≤ i
      · rw [decide_eq_true h]
        refine iteT ⟨_, rfl, _, _, rfl, rfl, ?_⟩
        rw [show decide (0 ≤ i ∧ i < m) = decide (i < m) by simp [h]] at q
        exact q
      · rw [decide_eq_false h]
        refine iteF ?_
        rw [decide_eq_false (show ¬ (0 ≤ i ∧ i < m) from fun z => h z.1)] at q
        exact q
end
end K73
namespace GD
open PySem PySem.Spec PyProof.Rows L2
def kindD : PyData → String
  | .none => "NoneType"
  | .bool _ => "bool"
  | .int _ => "int"
  | .str _ => "str"
  | .list _ => "list"
  | .tuple _ => "tuple"
  | .dict _ => "dict"
theorem ty_sh {K : PySem.W.Frag} {M H : Hp} {v : V} {d : PyData} (h : Sh M v d) (s : ∀ b o, M b = some o → H b = some o) : TyX K H v (.type (kindD d)) := by
  cases h with
  | non => exact .base .non
  | bl b => exact .base (.bl b)
  | int i => exact .base (.int i)
  | str x => exact .base (.str x)
  | lst e _ _ => exact .base (.lst (s _ _ e))
  | tup e _ => exact .base (.tup (s _ _ e))
  | dct e _ _ => exact .base (.dK (s _ _ e))
def isTup : PyData → Bool
  | .tuple _ => true
  | _ => false
def isStr : PyData → Bool
  | .str _ => true
  | _ => false
theorem kit_tup {K : PySem.W.Frag} (d : PyData) : PySem.W.kitOne K (.type (kindD d)) (.type "tuple") = some (isTup d) := by
  cases d <;> first | exact kit_ty (show kitB "NoneType" "tuple" = some false by decide +kernel) | exact kit_ty (show kitB "bool" "tuple" = some false by decide +kernel) | exact kit_ty (show kitB "int" "tuple" = some false by decide +kernel) | exact kit_ty (show kitB "str" "tuple" = some false by decide +kernel) | exact kit_ty (show kitB "list" "tuple" = some false by decide +kernel) | exact kit_ty (show kitB "tuple" "tuple" = some true by decide +kernel) | exact kit_ty (show kitB "dict" "tuple" = some false by decide +kernel)
theorem kit_str {K : PySem.W.Frag} (d : PyData) : PySem.W.kitOne K (.type (kindD d)) (.type "str") = some (isStr d) := by
  cases d <;> first | exact kit_ty (show kitB "NoneType" "str" = some false by decide +kernel) | exact kit_ty (show kitB "bool" "str" = some false by decide +kernel) | exact kit_ty (show kitB "int" "str" = some false by decide +kernel) | exact kit_ty (show kitB "str" "str" = some true by decide +kernel) | exact kit_ty (show kitB "list" "str" = some false by decide +kernel) | exact kit_ty (show kitB "tuple" "str" = some false by decide +kernel) | exact kit_ty (show kitB "dict" "str" = some false by decide +kernel)
def intD : PyData → Option Int
  | .int i => some i
  | _ => none
theorem intOr_sh {K : PySem.W.Frag} {M H : Hp} {v : V} {d : PyData} (h : Sh M v d) (s : ∀ b o, M b = some o → H b = some o) : IntOr K H v (GD.intD d) := by
  cases h with
  | non => exact .inr (.inr ⟨"NoneType", by decide, .base .non, rfl⟩)
  | bl b => exact .inr (.inl ⟨b, rfl, rfl⟩)
  | int i => exact .inl ⟨i, rfl, rfl⟩
  | str x => exact .inr (.inr ⟨"str", by decide, .base (.str x), rfl⟩)
  | lst e _ _ => exact .inr (.inr ⟨"list", by decide, .base (.lst (s _ _ e)), rfl⟩)
  | tup e _ => exact .inr (.inr ⟨"tuple", by decide, .base (.tup (s _ _ e)), rfl⟩)
  | dct e _ _ => exact .inr (.inr ⟨"dict", by decide, .base (.dK (s _ _ e)), rfl⟩)
def wordD (ws : List Str) : PyData → Bool
  | .str x => decide (x ∈ ws)
  | _ => false
def spWordA (K : PySem.W.Frag) : Sp := fun vs H Q _ => ∃ (v : V) (d : PyData) (w : Addr) (ws : List Str), vs = [v, .ref w] ∧ Sh H v d ∧ (SqL K H w (ws.map V.str) ∨ SqT K H w (ws.map V.str)) ∧ Q (.bl (wordD ws d)) H
theorem sh_tup {H : Hp} {v : V} {ds : List PyData} (h : Sh H v (.tuple ds)) : ∃ a xs, v = .ref a ∧ H a = some (.tup xs) ∧ ShAll H xs ds := by
  cases h with
  | tup e t => exact ⟨_, _, rfl, e, t⟩
theorem ShAll.two {H : Hp} {xs : List V} {d e : PyData} (h : ShAll H xs [d, e]) : ∃ x y, xs = [x, y] ∧ Sh H x d ∧ Sh H y e := by
  cases h with
  | cons a t =>
    cases t with
    | cons b t =>
      cases t
      exact ⟨_, _, rfl, a, b⟩
theorem sh_int {H : Hp} {v : V} {i : Int} (h : Sh H v (.int i)) : v = .int i := by
  cases h
  rfl
theorem sh_str {H : Hp} {v : V} {x : Str} (h : Sh H v (.str x)) : v = .str x := by
  cases h
  rfl
theorem seqT_same {K : PySem.W.Frag} {H H' : Hp} {a : Addr} {xs : List V} (e : Same H H') (h : SqT K H a xs) : SqT K H' a xs := by
  rcases h with (h | ⟨o, h⟩) | h
  · exact .inl (.inl (e _ _ h))
  · exact .inl (.inr ⟨o, e _ _ h⟩)
  · exact .inr h
theorem intD_some {d : PyData} {i : Int} (h : intD d = some i) : d = .int i := by
  cases d <;> simp [intD] at h
  rw [h]
end GD
namespace K73
open PySem PySem.Spec PyProof.Rows L2 GD
section
variable {P : Program} {w : World} {K : PySem.W.Frag} {mg : Str → Option Value} {base : Heap}
theorem oka_isword {f : Addr} {fd : FuncData} (F : Fun K "is_word" "is_word" pIsWord f fd) (S : Forms1 mg) : FnOk P w K mg base CX0 1 f fd ["value", "words"] (spWordA K) := by
  refine F.ok scI3 (fun vs H Q E h => ?_) (fun cdv A outer s H vs Q E hr h => ?_)
  · obtain ⟨v, d, u, ws, rfl, _⟩ := h
    rfl
  · obtain ⟨v, d, u, ws, rfl, sh, hw, q⟩ := h
    refine ⟨_, pss_one (ps_ret (pe_and (pe_callB call_isi (by rfl) S.isi (by decide +kernel) (pa_cons (pv 0) (pa_cons (pe_bltn (v := .ty "str") (by rfl) S.str PyProof.Rows.Boot.«str» rfl) pa_nil)))
      (pe_one (pe_cmpR op_in_seq (pv 0) (pv 1) (by with_unfolding_all rfl))))), ?_⟩
    refine ⟨_, rfl, _, _, _, _, isStr d, rfl, .ty _, ty_sh sh (Same.refl H), kit_str d, _, rfl, ?_⟩
    cases d with
    | str x =>
      obtain rfl := sh_str sh
      refine iteT ?_
      refine ⟨_, rfl, _, rfl, u, _, rfl, hw, rfl, ?_, ?_⟩
      · rw [List.all_map]
        exact List.all_eq_true.mpr fun _ _ => rfl
      · rw [inV_strs]
        exact q
    | none => exact iteF q
    | bool b => exact iteF q
    | int i => exact iteF q
    | list ds => exact iteF q
    | tuple ds => exact iteF q
    | dict ds => exact iteF q
end
end K73
namespace GD
open PySem PySem.Spec PyProof.Rows L2
end GD
namespace GD
open PySem PySem.Spec PyProof.Rows L2
end GD
namespace GD
open PySem PySem.Spec PyProof.Rows L2
theorem ShAll.at : ∀ {H : Hp} {xs : List V} {ds : List PyData} {i : Nat} {d : PyData}, ShAll H xs ds → ds[i]? = some d → ∃ x, xs[i]? = some x ∧ Sh H x d
  | _, _, _, _, _, .nil, h => by simp at h
  | _, _, _, 0, _, .cons a t, h => by
    simp at h
    subst h
    exact ⟨_, rfl, a⟩
  | _, _, _, i + 1, _, .cons a t, h => by
    obtain ⟨x, h1, h2⟩ := ShAll.at (i := i) t (by simpa using h)
    exact ⟨x, by simpa using h1, h2⟩
end GD
namespace GD
open PySem PySem.Spec PyProof.Rows L2
/-- a Shop, and the Book that it keeps -/
def ShopB (CB CS : Addr) (H : Hp) (s : Addr) (names : List Str) (ml : List (Str × Str)) (sts : List Stk) : Prop :=
  ∃ (dx b j m a : Addr) (x : Str) (fs : List Fact), H s = some (.ins CS dx (s4 b j m a)) ∧ TupF H j (names.map V.str) ∧ H m = some (.tup ((names.map (manOf ml)).map V.str)) ∧ Fz H (.ref a) (.tuple (sts.map eK)) ∧ BookAt CB H b x names ml fs
theorem ShopB.at {CB CS : Addr} {H : Hp} {s : Addr} {names : List Str} {ml : List (Str × Str)} {sts : List Stk} (h : ShopB CB CS H s names ml sts) : ShopAt CS H s names (names.map (manOf ml)) sts := by
  obtain ⟨dx, b, j, m, a, x, fs, h1, h2, h3, h4, _⟩ := h
  exact ⟨dx, b, j, m, a, h1, h2, h3, h4⟩
theorem ShopB.ext {CB CS : Addr} {H H' : Hp} {s : Addr} {names : List Str} {ml : List (Str × Str)} {sts : List Stk} (x : LamX.ExtN H H') (h : ShopB CB CS H s names ml sts) : ShopB CB CS H' s names ml sts := by
  obtain ⟨dx, b, j, m, a, t, fs, h1, h2, h3, h4, h5⟩ := h
  exact ⟨dx, b, j, m, a, t, fs, x _ _ h1 (fun ps z => by cases z), h2.ext x, x _ _ h3 (fun ps z => by cases z), h4.mv (ext_tups x), h5.ext x⟩
end GD
namespace GD
open PySem PySem.Spec PyProof.Rows L2
end GD
namespace GD
open PySem PySem.Spec PyProof.Rows L2
end GD
namespace GD
open PySem PySem.Spec PyProof.Rows L2
theorem cut_vs_end (ws : List V) (a : Nat) : cutV ws (some (a : Int)) none = ws.drop a := by
  unfold cutV
  rw [HT.sIx_nat, HT.sIx_none, drop_min, List.take_of_length_le]
  rw [List.length_drop]
  by_cases h : a ≤ ws.length
  · rw [Nat.min_eq_left h]
    exact Nat.le_refl _
  · omega
end GD
namespace GD
open PySem PySem.Spec PyProof.Rows L2
end GD
namespace GD
open PySem PySem.Spec PyProof.Rows L2 LamX
end GD
namespace GM
abbrev Vec := Nat → Int
def sumN : Nat → (Nat → Int) → Int
  | 0, _ => 0
  | n + 1, f => sumN n f + f n
theorem sumN_congr {n : Nat} {f g : Nat → Int} (h : ∀ i, i < n → f i = g i) : sumN n f = sumN n g := by
  induction n with
  | zero => rfl
  | succ n ih =>
    rw [sumN, sumN, ih fun i hi => h i (by omega), h n (by omega)]
theorem sumN_add (n : Nat) (f g : Nat → Int) : sumN n (fun i => f i + g i) = sumN n f + sumN n g := by
  induction n with
  | zero => rfl
  | succ n ih =>
    rw [sumN, sumN, sumN, ih]
    omega
theorem sumN_mul (n : Nat) (c : Int) (f : Nat → Int) : sumN n (fun i => c * f i) = c * sumN n f := by
  induction n with
  | zero => rw [sumN, sumN, Int.mul_zero]
  | succ n ih => rw [sumN, sumN, ih, Int.mul_add]
theorem sumN_zero {n : Nat} {f : Nat → Int} (h : ∀ i, i < n → f i = 0) : sumN n f = 0 := by
  induction n with
  | zero => rfl
  | succ n ih =>
    rw [sumN, ih fun i hi => h i (by omega), h n (by omega)]
    rfl
theorem sumN_one {n j : Nat} {f : Nat → Int} (hj : j < n) (h : ∀ i, i < n → i ≠ j → f i = 0) : sumN n f = f j := by
  induction n with
  | zero => omega
  | succ n ih =>
    rw [sumN]
    by_cases c : j = n
    · subst c
      rw [sumN_zero fun i hi => h i (by omega) (by omega)]
      omega
    · rw [ih (by omega) fun i hi hn => h i (by omega) hn, h n (by omega) (by omega)]
      omega
def sg : Nat → Int
  | 0 => 1
  | n + 1 => -sg n
def skip (c : Nat) (v : Vec) : Vec := fun k => if k < c then v k else v (k + 1)
def vol : Nat → (Nat → Vec) → Int
  | 0, _ => 1
  | n + 1, h => sumN (n + 1) fun c => sg c * h 0 c * vol n fun i => skip c (h (i + 1))
/-- a family with v at place j -/
def put (h : Nat → Vec) (j : Nat) (v : Vec) : Nat → Vec := fun i => if i = j then v else h i
theorem put_self (h : Nat → Vec) (j : Nat) : put h j (h j) = h := by
  funext i
  unfold put
  split
  · rename_i e
    rw [e]
  · rfl
theorem put_comm (h : Nat → Vec) {i j : Nat} (n : i ≠ j) (v w : Vec) : put (put h i v) j w = put (put h j w) i v := by
  funext k
  unfold put
  by_cases a : k = j
  · rw [if_pos a, if_neg (by omega), if_pos a]
  · rw [if_neg a, if_neg a]
theorem vol_congr : ∀ {n : Nat} {h g : Nat → Vec}, (∀ i, i < n → ∀ c, c < n → h i c = g i c) → vol n h = vol n g
  | 0, _, _, _ => rfl
  | n + 1, h, g, e => by
    rw [vol, vol]
    refine sumN_congr fun c hc => ?_
    rw [e 0 (by omega) c hc, vol_congr (h := fun i => skip c (h (i + 1))) (g := fun i => skip c (g (i + 1))) fun i hi k hk => ?_]
    show skip c (h (i + 1)) k = skip c (g (i + 1)) k
    unfold skip
    split
    · exact e _ (by omega) _ (by omega)
    · exact e _ (by omega) _ (by omega)
theorem skip_add (c : Nat) (v w : Vec) : skip c (fun k => v k + w k) = fun k => skip c v k + skip c w k := by
  funext k
  unfold skip
  split <;> rfl
theorem skip_mul (c : Nat) (a : Int) (v : Vec) : skip c (fun k => a * v k) = fun k => a * skip c v k := by
  funext k
  unfold skip
  split <;> rfl
theorem shift_put (h : Nat → Vec) (c j : Nat) (v : Vec) : (fun i => skip c (put h (j + 1) v (i + 1))) = put (fun i => skip c (h (i + 1))) j (skip c v) := by
  funext i
  show skip c (if i + 1 = j + 1 then v else h (i + 1)) = if i = j then skip c v else skip c (h (i + 1))
  by_cases e : i = j
  · rw [if_pos (by omega), if_pos e]
  · rw [if_neg (by omega), if_neg e]
theorem vol_add : ∀ (n j : Nat) (h : Nat → Vec) (v w : Vec), j < n → vol n (put h j fun k => v k + w k) = vol n (put h j v) + vol n (put h j w)
  | 0, j, _, _, _, hj => absurd hj (Nat.not_lt_zero j)
  | n + 1, 0, h, v, w, _ => by
    rw [vol, vol, vol, ← sumN_add]
    refine sumN_congr fun c _ => ?_
    show sg c * (v c + w c) * vol n (fun i => skip c (h (i + 1))) = sg c * v c * vol n (fun i => skip c (h (i + 1))) + sg c * w c * vol n (fun i => skip c (h (i + 1)))
    grind
  | n + 1, j + 1, h, v, w, hj => by
    rw [vol, vol, vol, ← sumN_add]
    refine sumN_congr fun c _ => ?_
    rw [shift_put, shift_put, shift_put, skip_add, vol_add n j _ _ _ (by omega)]
    show sg c * h 0 c * _ = sg c * h 0 c * _ + sg c * h 0 c * _
    grind
theorem vol_mul : ∀ (n j : Nat) (h : Nat → Vec) (a : Int) (v : Vec), j < n → vol n (put h j fun k => a * v k) = a * vol n (put h j v)
  | 0, j, _, _, _, hj => absurd hj (Nat.not_lt_zero j)
  | n + 1, 0, h, a, v, _ => by
    rw [vol, vol, ← sumN_mul]
    refine sumN_congr fun c _ => ?_
    show sg c * (a * v c) * vol n (fun i => skip c (h (i + 1))) = a * (sg c * v c * vol n (fun i => skip c (h (i + 1))))
    grind
  | n + 1, j + 1, h, a, v, hj => by
    rw [vol, vol, ← sumN_mul]
    refine sumN_congr fun c _ => ?_
    rw [shift_put, shift_put, skip_mul, vol_mul n j _ _ _ (by omega)]
    show sg c * h 0 c * _ = a * (sg c * h 0 c * _)
    grind
/-- a sum of vectors at a place -/
theorem vol_sum {n j m : Nat} {h : Nat → Vec} (a : Nat → Int) (v : Nat → Vec) (hj : j < n) : vol n (put h j fun k => sumN m fun i => a i * v i k) = sumN m fun i => a i * vol n (put h j (v i)) := by
  induction m with
  | zero =>
    have z := vol_mul n j h 0 (fun _ => 0) hj
    rw [Int.zero_mul, Int.zero_mul] at z
    exact z
  | succ m ih =>
    show vol n (put h j fun k => (sumN m fun i => a i * v i k) + a m * v m k) = (sumN m fun i => a i * vol n (put h j (v i))) + a m * vol n (put h j (v m))
    rw [vol_add n j h _ _ hj, ih, vol_mul n j h _ _ hj]
/-- a double sum, folded along the diagonal -/
theorem fold_sum (F : Nat → Nat → Int) : ∀ n, sumN (n + 1) (fun c => sumN n fun e => F c e) = sumN (n + 1) fun c => sumN c fun e => F c e + F e (c - 1)
  | 0 => rfl
  | n + 1 => by
    have ih := fold_sum F n
    have e1 : sumN (n + 1) (fun c => sumN (n + 1) fun e => F c e) = sumN (n + 1) (fun c => sumN n fun e => F c e) + sumN (n + 1) fun c => F c n := by
      rw [← sumN_add]
      rfl
    rw [sumN, e1, ih]
    show _ + _ + sumN (n + 1) (fun e => F (n + 1) e) = (sumN (n + 1) fun c => sumN c fun e => F c e + F e (c - 1)) + sumN (n + 1) fun e => F (n + 1) e + F e (n + 1 - 1)
    rw [sumN_add]
    have e2 : sumN (n + 1) (F (n + 1)) = sumN (n + 1) fun e => F (n + 1) e := rfl
    have e3 : (sumN (n + 1) fun e => F e (n + 1 - 1)) = sumN (n + 1) fun c => F c n := rfl
    omega
theorem skip_skip {e c : Nat} (h : e < c) (v : Vec) : skip e (skip c v) = skip (c - 1) (skip e v) := by
  funext k
  unfold skip
  by_cases a : k < e
  · rw [if_pos a, if_pos (by omega), if_pos (by omega), if_pos a]
  · by_cases b : k + 1 < c
    · rw [if_neg a, if_pos b, if_pos (by omega), if_neg a]
    · rw [if_neg a, if_neg b, if_neg (by omega), if_neg (by omega)]
theorem vol_two {n : Nat} {h : Nat → Vec} (e : h 0 = h 1) : vol (n + 2) h = 0 := by
  rw [vol]
  have s : (sumN (n + 1 + 1) fun c => sg c * h 0 c * vol (n + 1) fun i => skip c (h (i + 1))) = sumN (n + 1 + 1) fun c => sumN (n + 1) fun d => sg c * h 0 c * (sg d * skip c (h 1) d * vol n fun i => skip d (skip c (h (i + 2)))) := by
    refine sumN_congr fun c _ => ?_
    rw [vol, ← sumN_mul]
  rw [s, fold_sum]
  refine sumN_zero fun c _ => sumN_zero fun d hd => ?_
  have e1 : skip c (h 1) d = h 0 d := by
    unfold skip
    rw [if_pos hd, e]
  have e2 : skip d (h 1) (c - 1) = h 0 c := by
    unfold skip
    rw [if_neg (by omega), e, show c - 1 + 1 = c by omega]
  have e3 : (fun i => skip d (skip c (h (i + 2)))) = fun i => skip (c - 1) (skip d (h (i + 2))) := by
    funext i
    rw [skip_skip hd]
  have e4 : sg c = -sg (c - 1) := by
    cases c with
    | zero => omega
    | succ c => rfl
  rw [e1, e2, e3, e4]
  grind
theorem vol_adj : ∀ (n i : Nat) (h : Nat → Vec), i + 1 < n → h i = h (i + 1) → vol n h = 0
  | 0, _, _, hi, _ => by omega
  | 1, _, _, hi, _ => by omega
  | n + 2, 0, h, _, e => vol_two e
  | n + 2, i + 1, h, hi, e => by
    rw [vol]
    refine sumN_zero fun c _ => ?_
    rw [vol_adj (n + 1) i _ (by omega) (by show skip c (h (i + 1)) = skip c (h (i + 1 + 1)); rw [e])]
    exact Int.mul_zero _
/-- two neighbours change places -/
theorem vol_swap1 {n i : Nat} (h : Nat → Vec) (hi : i + 1 < n) : vol n (put (put h i (h (i + 1))) (i + 1) (h i)) = -vol n h := by
  have z := vol_adj n i (put (put h i fun k => h i k + h (i + 1) k) (i + 1) fun k => h i k + h (i + 1) k) hi (by unfold put; rw [if_neg (by omega), if_pos rfl, if_pos rfl])
  rw [vol_add n (i + 1) _ _ _ hi, put_comm h (show i ≠ i + 1 by omega) _ (h i), put_comm h (show i ≠ i + 1 by omega) _ (h (i + 1)), vol_add n i _ _ _ (by omega), vol_add n i _ _ _ (by omega)] at z
  have a1 : vol n (put (put h (i + 1) (h i)) i (h i)) = 0 := vol_adj n i _ hi (by unfold put; rw [if_pos rfl, if_neg (by omega), if_pos rfl])
  have a2 : vol n (put (put h (i + 1) (h (i + 1))) i (h (i + 1))) = 0 := vol_adj n i _ hi (by unfold put; rw [if_pos rfl, if_neg (by omega), if_pos rfl])
  rw [a1, a2, put_self h (i + 1), put_self h i] at z
  rw [put_comm h (show i ≠ i + 1 by omega)]
  omega
theorem vol_eq : ∀ (d n i : Nat) (h : Nat → Vec), i + d + 1 < n → h i = h (i + d + 1) → vol n h = 0
  | 0, n, i, h, hi, e => vol_adj n i h (by omega) e
  | d + 1, n, i, h, hi, e => by
    have s := vol_swap1 (n := n) (i := i + d + 1) h (by omega)
    have z := vol_eq d n i (put (put h (i + d + 1) (h (i + d + 1 + 1))) (i + d + 1 + 1) (h (i + d + 1))) (by omega) (by
      unfold put
      rw [if_neg (by omega), if_neg (by omega), if_neg (by omega), if_pos rfl, e]
      congr 1)
    omega
theorem vol_same {n i j : Nat} {h : Nat → Vec} (hi : i < n) (hj : j < n) (ne : i ≠ j) (e : h i = h j) : vol n h = 0 := by
  by_cases c : i < j
  · exact vol_eq (j - i - 1) n i h (by omega) (by rw [show i + (j - i - 1) + 1 = j by omega]; exact e)
  · exact vol_eq (i - j - 1) n j h (by omega) (by rw [show j + (i - j - 1) + 1 = i by omega]; exact e.symm)
/-- two places change -/
theorem vol_swap {n i j : Nat} (h : Nat → Vec) (hi : i < n) (hj : j < n) (ne : i ≠ j) (v w : Vec) : vol n (put (put h i v) j w) = -vol n (put (put h i w) j v) := by
  have z := vol_same (n := n) (h := put (put h i fun k => v k + w k) j fun k => v k + w k) hi hj ne (by unfold put; rw [if_neg ne, if_pos rfl, if_pos rfl])
  rw [vol_add n j _ _ _ hj, put_comm _ ne, put_comm _ ne, vol_add n i _ _ _ hi, vol_add n i _ _ _ hi] at z
  have a1 : vol n (put (put h j v) i v) = 0 := vol_same hi hj ne (by unfold put; rw [if_pos rfl, if_neg (fun x => ne x.symm), if_pos rfl])
  have a2 : vol n (put (put h j w) i w) = 0 := vol_same hi hj ne (by unfold put; rw [if_pos rfl, if_neg (fun x => ne x.symm), if_pos rfl])
  rw [put_comm h ne, put_comm h ne]
  omega
def unit (i : Nat) : Vec := fun k => if k = i then 1 else 0
theorem vol_unit : ∀ n, vol n unit = 1
  | 0 => rfl
  | n + 1 => by
    rw [vol, sumN_one (j := 0) (by omega)]
    · rw [vol_congr (g := unit), vol_unit n]
      · rfl
      · intro i _ c _
        show skip 0 (unit (i + 1)) c = unit i c
        unfold skip unit
        rw [if_neg (by omega)]
        by_cases e : c = i
        · rw [if_pos (by omega), if_pos e]
        · rw [if_neg (by omega), if_neg e]
    · intro c _ hc
      show sg c * (if c = 0 then 1 else 0) * _ = 0
      rw [if_neg hc, Int.mul_zero, Int.zero_mul]
end GM
namespace GM
theorem sumN_if {n s : Nat} (hs : s < n) (A : Int) (B : Nat → Int) : sumN n (fun k => if k = s then A else B k) = sumN n B + (A - B s) := by
  induction n with
  | zero => omega
  | succ n ih =>
    rw [sumN, sumN]
    by_cases c : s = n
    · subst c
      rw [if_pos rfl, sumN_congr (g := B) fun i hi => if_neg (by omega)]
      omega
    · rw [ih (by omega), if_neg (by omega)]
      omega
/-- what a state is: n heads, m rows; row i tells the side's form by the heads' -/
structure Piv (n m : Nat) (M : Nat → Vec) (hd sd : Nat → Nat) (T : Nat → Nat → Int) (d e : Int) : Prop where
  d0 : 0 < d
  e1 : e * e = 1
  v : vol n (fun j => M (hd j)) = e * d
  r : ∀ i, i < m → ∀ c, c < n → d * M (sd i) c = sumN n fun k => T i k * M (hd k) c
theorem mul_cancel {d a b : Int} (h : 0 < d) (e : d * a = d * b) : a = b := Int.eq_of_mul_eq_mul_left (by omega) e
section
variable {n m : Nat} {M : Nat → Vec} {hd sd : Nat → Nat} {T : Nat → Nat → Int} {d e : Int}
/-- a side's form at a head's place -/
theorem Piv.at1 (P : Piv n m M hd sd T d e) {i j : Nat} (hi : i < m) (hj : j < n) : vol n (put (fun k => M (hd k)) j (M (sd i))) = e * T i j := by
  refine mul_cancel P.d0 ?_
  rw [← vol_mul n j _ d _ hj, vol_congr (g := put (fun k => M (hd k)) j fun c => sumN n fun k => T i k * M (hd k) c), vol_sum (fun k => T i k) (fun k => M (hd k)) hj, sumN_one (j := j) hj]
  · show T i j * vol n (put (fun k => M (hd k)) j ((fun k => M (hd k)) j)) = _
    rw [put_self, P.v]
    grind
  · intro k hk ne
    rw [vol_same (i := j) (j := k) hj hk (fun z => ne z.symm) (by unfold put; rw [if_pos rfl, if_neg ne]), Int.mul_zero]
  · intro k hk c hc
    unfold put
    by_cases a : k = j
    · rw [if_pos a, if_pos a]
      exact P.r i hi c hc
    · rw [if_neg a, if_neg a]
/-- two sides' forms at two heads' places -/
theorem Piv.at2 (P : Piv n m M hd sd T d e) {i r j s : Nat} (hi : i < m) (hr : r < m) (hj : j < n) (hs : s < n) (ne : j ≠ s) :
    d * vol n (put (put (fun k => M (hd k)) j (M (sd i))) s (M (sd r))) = e * (T r s * T i j - T r j * T i s) := by
  rw [← vol_mul n s _ d _ hs, vol_congr (g := put (put (fun k => M (hd k)) j (M (sd i))) s fun c => sumN n fun k => T r k * M (hd k) c), vol_sum (fun k => T r k) (fun k => M (hd k)) hs]
  · have key : ∀ k, k < n → T r k * vol n (put (put (fun k => M (hd k)) j (M (sd i))) s (M (hd k))) = if k = s then T r s * (e * T i j) else if k = j then -(T r j * (e * T i s)) else 0 := by
      intro k hk
      by_cases a : k = s
      · subst a
        rw [if_pos rfl]
        have z : put (put (fun k => M (hd k)) j (M (sd i))) k (M (hd k)) = put (fun k => M (hd k)) j (M (sd i)) := by
          have w := put_self (put (fun k => M (hd k)) j (M (sd i))) k
          rw [show put (fun k => M (hd k)) j (M (sd i)) k = M (hd k) from if_neg (fun z => ne z.symm)] at w
          exact w
        rw [z, P.at1 hi hj]
      · rw [if_neg a]
        by_cases b : k = j
        · subst b
          rw [if_pos rfl, vol_swap _ hk hs ne, show put (fun k => M (hd k)) k (M (hd k)) = fun k => M (hd k) from put_self (fun k => M (hd k)) k, P.at1 hi hs]
          grind
        · rw [if_neg b, vol_same (i := s) (j := k) hs hk (fun z => a z.symm) (by unfold put; rw [if_pos rfl, if_neg a, if_neg b]), Int.mul_zero]
    rw [sumN_congr key, sumN_if hs, sumN_if hj, sumN_zero (f := fun _ => (0 : Int)) (fun _ _ => rfl), if_neg (fun z => ne z.symm)]
    grind
  · intro k hk c hc
    unfold put
    by_cases a : k = s
    · rw [if_pos a, if_pos a]
      exact P.r r hr c hc
    · rw [if_neg a, if_neg a]
/-- the changed table -/
def chT (T : Nat → Nat → Int) (d : Int) (r s : Nat) (sg : Int) (i j : Nat) : Int :=
  if i = r then (if j = s then sg * d else -sg * T r j) else (if j = s then sg * T i s else (T i j * (sg * T r s) - sg * T i s * T r j) / d)
def chN (f : Nat → Nat) (a v : Nat) : Nat → Nat := fun k => if k = a then v else f k
theorem Piv.exact (P : Piv n m M hd sd T d e) {i r j s : Nat} {sg : Int} (hi : i < m) (hr : r < m) (hj : j < n) (hs : s < n) (ne : j ≠ s) : d * ((T i j * (sg * T r s) - sg * T i s * T r j) / d) = T i j * (sg * T r s) - sg * T i s * T r j := by
  have z := P.at2 hi hr hj hs ne
  refine Int.mul_ediv_cancel' ⟨sg * e * vol n (put (put (fun k => M (hd k)) j (M (sd i))) s (M (sd r))), ?_⟩
  have e1 := P.e1
  generalize vol n (put (put (fun k => M (hd k)) j (M (sd i))) s (M (sd r))) = V at z ⊢
  have : d * (sg * e * V) = sg * e * (d * V) := by grind
  rw [this, z]
  grind
theorem Piv.swap (P : Piv n m M hd sd T d e) {r s : Nat} {sg : Int} (hr : r < m) (hs : s < n) (h1 : sg * sg = 1) (hp : 0 < sg * T r s) :
    Piv n m M (chN hd s (sd r)) (chN sd r (hd s)) (chT T d r s sg) (sg * T r s) (e * sg) := by
  have e1 := P.e1
  refine ⟨hp, by grind, ?_, fun i hi c hc => ?_⟩
  · have z := P.at1 hr hs
    have w : (fun j => M (chN hd s (sd r) j)) = put (fun k => M (hd k)) s (M (sd r)) := by
      funext k
      unfold chN put
      split <;> rfl
    rw [w, z]
    grind
  · have er := P.r r hr c hc
    have eh : ∀ k, chT T d r s sg i k * M (chN hd s (sd r) k) c = if k = s then chT T d r s sg i s * M (sd r) c else chT T d r s sg i k * M (hd k) c := by
      intro k
      unfold chN
      by_cases a : k = s
      · rw [if_pos a, if_pos a, a]
      · rw [if_neg a, if_neg a]
    rw [sumN_congr fun k _ => eh k, sumN_if hs]
    by_cases a : i = r
    · subst a
      have es : ∀ k, chT T d i s sg i k * M (hd k) c = if k = s then sg * d * M (hd s) c else -sg * (T i k * M (hd k) c) := by
        intro k
        unfold chT
        rw [if_pos rfl]
        by_cases b : k = s
        · rw [if_pos b, if_pos b, b]
        · rw [if_neg b, if_neg b]
          grind
      rw [sumN_congr fun k _ => es k, sumN_if hs, sumN_mul, ← er]
      have c1 : chT T d i s sg i s = sg * d := by
        unfold chT
        rw [if_pos rfl, if_pos rfl]
      rw [c1, show chN sd i (hd s) i = hd s from if_pos rfl]
      grind
    · have ei := P.r i hi c hc
      refine mul_cancel P.d0 ?_
      have es : ∀ k, k < n → d * (chT T d r s sg i k * M (hd k) c) = if k = s then d * (sg * T i s * M (hd s) c) else sg * T r s * (T i k * M (hd k) c) + -(sg * T i s) * (T r k * M (hd k) c) := by
        intro k hk
        by_cases b : k = s
        · rw [if_pos b, b]
          unfold chT
          rw [if_neg a, if_pos rfl]
        · rw [if_neg b]
          unfold chT
          rw [if_neg a, if_neg b, ← Int.mul_assoc, P.exact hi hr hk hs b]
          grind
      have c1 : chT T d r s sg i s = sg * T i s := by
        unfold chT
        rw [if_neg a, if_pos rfl]
      rw [Int.mul_add, ← sumN_mul, sumN_congr es, sumN_if hs, sumN_add, sumN_mul, sumN_mul, ← ei, ← er, c1, show chN sd r (hd s) i = sd i from if_neg a]
      grind
end
end GM
namespace GM
theorem sumN_pos {n : Nat} {f : Nat → Int} (h : 0 < sumN n f) : ∃ i, i < n ∧ 0 < f i := by
  induction n with
  | zero => exact absurd h (by show ¬ (0 : Int) < 0; decide)
  | succ n ih =>
    rw [sumN] at h
    by_cases c : 0 < f n
    · exact ⟨n, by omega, c⟩
    · obtain ⟨i, hi, hf⟩ := ih (by omega)
      exact ⟨i, by omega, hf⟩
theorem sumN_swap (n m : Nat) (f : Nat → Nat → Int) : sumN n (fun i => sumN m fun j => f i j) = sumN m fun j => sumN n fun i => f i j := by
  induction n with
  | zero =>
    show 0 = _
    rw [sumN_zero]
    intro _ _
    rfl
  | succ n ih =>
    show sumN n _ + _ = _
    rw [ih, ← sumN_add]
    rfl
section
variable {n m : Nat} {M : Nat → Vec} {hd sd : Nat → Nat} {T : Nat → Nat → Int} {d e : Int}
/-- the heads' forms are independent -/
theorem Piv.indep (P : Piv n m M hd sd T d e) {a b : Nat → Int} (h : ∀ c, c < n → sumN n (fun k => a k * M (hd k) c) = sumN n fun k => b k * M (hd k) c) {j : Nat} (hj : j < n) : a j = b j := by
  have one : ∀ a : Nat → Int, vol n (put (fun k => M (hd k)) j fun c => sumN n fun k => a k * M (hd k) c) = a j * (e * d) := fun a => by
    rw [vol_sum (fun k => a k) (fun k => M (hd k)) hj, sumN_one (j := j) hj]
    · show a j * vol n (put (fun k => M (hd k)) j ((fun k => M (hd k)) j)) = _
      rw [put_self, P.v]
    · intro k hk ne
      rw [vol_same (i := j) (j := k) hj hk (fun z => ne z.symm) (by unfold put; rw [if_pos rfl, if_neg ne]), Int.mul_zero]
  have eq : vol n (put (fun k => M (hd k)) j fun c => sumN n fun k => a k * M (hd k) c) = vol n (put (fun k => M (hd k)) j fun c => sumN n fun k => b k * M (hd k) c) := vol_congr fun k hk c hc => by
    unfold put
    by_cases x : k = j
    · rw [if_pos x, if_pos x]
      exact h c hc
    · rw [if_neg x, if_neg x]
  rw [one, one] at eq
  have e1 := P.e1
  have d0 := P.d0
  refine mul_cancel d0 ?_
  have : e * (a j * (e * d)) = e * (b j * (e * d)) := by rw [eq]
  grind
end
/-- the heads and the sides: every number below N stands once -/
structure Whole (n m N : Nat) (hd sd : Nat → Nat) : Prop where
  c : ∀ x, x < N → (∃ j, j < n ∧ hd j = x) ∨ ∃ i, i < m ∧ sd i = x
  h : ∀ i j, i < n → j < n → hd i = hd j → i = j
  s : ∀ i j, i < m → j < m → sd i = sd j → i = j
  d : ∀ i j, i < m → j < n → sd i ≠ hd j
  l : ∀ j, j < n → hd j < N
  k : ∀ i, i < m → sd i < N
/-- a state: the goal's row is the last, m -/
structure Sta (n m N : Nat) (M : Nat → Vec) (hd sd : Nat → Nat) (T : Nat → Nat → Int) (d e : Int) : Prop where
  P : Piv n (m + 1) M hd sd T d e
  W : Whole n m N hd sd
  g : sd m = N
/-- the column that enters: the smallest number of those whose goal grows -/
structure Ent (n m : Nat) (B : Nat → Bool) (hd : Nat → Nat) (T : Nat → Nat → Int) (to : Nat) : Prop where
  i : to < n
  b : B (hd to) = true
  p : 0 < T m to
  min : ∀ j, j < n → B (hd j) = true → 0 < T m j → hd to ≤ hd j
/-- the row that leaves -/
structure Lev (m : Nat) (B : Nat → Bool) (sd : Nat → Nat) (T : Nat → Nat → Int) (at' to : Nat) : Prop where
  i : at' < m
  b : B (sd at') = true
  p : T at' to < 0
  min : ∀ i, i < m → B (sd i) = true → T i to < 0 → sd at' ≤ sd i
section
variable {n m N : Nat} {M : Nat → Vec} {B : Nat → Bool} {h1 s1 h2 s2 : Nat → Nat} {T1 T2 : Nat → Nat → Int} {d1 e1 d2 e2 : Int}
theorem bland (A : Sta n m N M h1 s1 T1 d1 e1) (Z : Sta n m N M h2 s2 T2 d2 e2) {s r q : Nat} (E1 : Ent n m B h1 T1 s) (L1 : Lev m B s1 T1 r s) (E2 : Ent n m B h2 T2 q) (same : h2 q = s1 r)
    (fic : ∀ j, j < n → (h2 j = h1 s ∨ ∃ i, i < m ∧ s1 i = h2 j) → h2 j ≤ s1 r ∧ B (h2 j) = true) : False := by
  -- each head of the one by the heads of the other
  have al : ∀ j, j < n → ∃ a : Nat → Int, (∀ c, c < n → d1 * M (h2 j) c = sumN n fun k => a k * M (h1 k) c) ∧ ((a s ≠ 0 → h2 j = h1 s ∧ a s = d1) ∨ ∃ i, i < m ∧ s1 i = h2 j ∧ a s = T1 i s) := by
    intro j hj
    rcases A.W.c (h2 j) (Z.W.l j hj) with ⟨k0, hk0, ek⟩ | ⟨i, hi, ei⟩
    · refine ⟨fun k => if k = k0 then d1 else 0, fun c hc => ?_, .inl fun ne => ?_⟩
      · rw [sumN_one (j := k0) hk0]
        · show _ = (if k0 = k0 then d1 else 0) * _
          rw [if_pos rfl, ek]
        · intro k _ nk
          show (if k = k0 then d1 else 0) * _ = 0
          rw [if_neg nk, Int.zero_mul]
      · by_cases x : s = k0
        · exact ⟨by rw [x, ek], if_pos x⟩
        · exact absurd (if_neg x) ne
    · refine ⟨T1 i, fun c hc => ?_, .inr ⟨i, hi, ei, rfl⟩⟩
      rw [← ei]
      exact A.P.r i (by omega) c hc
  -- chosen for all columns at once
  have ch : ∃ a : Nat → Nat → Int, ∀ j, j < n → (∀ c, c < n → d1 * M (h2 j) c = sumN n fun k => a j k * M (h1 k) c) ∧ ((a j s ≠ 0 → h2 j = h1 s ∧ a j s = d1) ∨ ∃ i, i < m ∧ s1 i = h2 j ∧ a j s = T1 i s) := by
    refine ⟨fun j => if hj : j < n then Classical.choose (al j hj) else fun _ => 0, fun j hj => ?_⟩
    have z := Classical.choose_spec (al j hj)
    simp only [dif_pos hj]
    exact z
  obtain ⟨a, ha⟩ := ch
  have eq : d2 * T1 m s = sumN n fun j => T2 m j * a j s := by
    refine A.P.indep (a := fun k => d2 * T1 m k) (b := fun k => sumN n fun j => T2 m j * a j k) (fun c hc => ?_) E1.i
    have x1 := A.P.r m (by omega) c hc
    have x2 := Z.P.r m (by omega) c hc
    rw [A.g] at x1
    rw [Z.g] at x2
    have y1 : (sumN n fun k => d2 * T1 m k * M (h1 k) c) = d2 * (d1 * M N c) := by
      rw [x1, ← sumN_mul]
      exact sumN_congr fun k _ => Int.mul_assoc ..
    have y2 : (sumN n fun k => (sumN n fun j => T2 m j * a j k) * M (h1 k) c) = d1 * (d2 * M N c) := by
      rw [x2, ← sumN_mul]
      have : ∀ j, j < n → d1 * (T2 m j * M (h2 j) c) = sumN n fun k => T2 m j * a j k * M (h1 k) c := by
        intro j hj
        have z := (ha j hj).1 c hc
        rw [show d1 * (T2 m j * M (h2 j) c) = T2 m j * (d1 * M (h2 j) c) by grind, z, ← sumN_mul]
        exact sumN_congr fun k _ => (Int.mul_assoc ..).symm
      rw [sumN_congr this, sumN_swap]
      refine sumN_congr fun k _ => ?_
      rw [Int.mul_comm, ← sumN_mul]
      exact sumN_congr fun j _ => by grind
    rw [y1, y2]
    grind
  have pos : 0 < sumN n fun j => T2 m j * a j s := by
    rw [← eq]
    exact Int.mul_pos Z.P.d0 E1.p
  obtain ⟨j, hj, hp⟩ := sumN_pos pos
  have a0 : a j s ≠ 0 := fun z => by
    rw [z, Int.mul_zero] at hp
    omega
  have d0 := A.P.d0
  rcases (ha j hj).2 with x | ⟨i, hi, ei, ea⟩
  · obtain ⟨hh, ad⟩ := x a0
    obtain ⟨le, b⟩ := fic j hj (.inl hh)
    rw [ad] at hp
    have t0 : 0 < T2 m j := by
      rcases Int.lt_or_le 0 (T2 m j) with y | y
      · exact y
      · have := Int.mul_nonpos_of_nonpos_of_nonneg y (Int.le_of_lt d0)
        omega
    have mn := E2.min j hj b t0
    rw [same] at mn
    exact A.W.d r s L1.i E1.i (by omega)
  · obtain ⟨le, b⟩ := fic j hj (.inr ⟨i, hi, ei⟩)
    rw [ea] at hp
    by_cases c : h2 j = s1 r
    · have ir := A.W.s i r hi L1.i (by rw [ei, c])
      have jq := Z.W.h j q hj E2.i (by rw [c, same])
      rw [ir, jq] at hp
      have := Int.mul_neg_of_pos_of_neg E2.p L1.p
      omega
    · rcases Int.lt_or_le 0 (T2 m j) with y | y
      · have mn := E2.min j hj b y
        omega
      · have ne : T1 i s < 0 := by
          rcases Int.lt_or_le (T1 i s) 0 with w | w
          · exact w
          · have := Int.mul_nonpos_of_nonpos_of_nonneg y w
            omega
        have mn := L1.min i hi (by rw [ei]; exact b) ne
        omega
end
end GM
namespace GM
structure St where
  hd : Nat → Nat
  sd : Nat → Nat
  T : Nat → Nat → Int
  d : Int
  e : Int
def St.Ok (n m N : Nat) (M : Nat → Vec) (S : St) : Prop := Sta n m N M S.hd S.sd S.T S.d S.e
/-- a sequence of states, each from the one ahead by a change that the rule chose -/
structure Chain (n m N : Nat) (M : Nat → Vec) (B : Nat → Bool) (L : Nat) (st : Nat → St) (rr ss : Nat → Nat) : Prop where
  ok : ∀ i, i ≤ L → (st i).Ok n m N M
  en : ∀ i, i < L → Ent n m B (st i).hd (st i).T (ss i)
  lv : ∀ i, i < L → Lev m B (st i).sd (st i).T (rr i) (ss i)
  h : ∀ i, i < L → (st (i + 1)).hd = chN (st i).hd (ss i) ((st i).sd (rr i))
  s : ∀ i, i < L → (st (i + 1)).sd = chN (st i).sd (rr i) ((st i).hd (ss i))
section
variable {n m N L : Nat} {M : Nat → Vec} {B : Nat → Bool} {st : Nat → St} {rr ss : Nat → Nat}
abbrev enN (st : Nat → St) (ss : Nat → Nat) (i : Nat) : Nat := (st i).hd (ss i)
abbrev lvN (st : Nat → St) (rr : Nat → Nat) (i : Nat) : Nat := (st i).sd (rr i)
def IsS (m : Nat) (st : Nat → St) (i y : Nat) : Prop := ∃ k, k < m ∧ (st i).sd k = y
def IsH (n : Nat) (st : Nat → St) (i y : Nat) : Prop := ∃ j, j < n ∧ (st i).hd j = y
theorem Chain.not_both (C : Chain n m N M B L st rr ss) {i y : Nat} (hi : i ≤ L) (a : IsS m st i y) (b : IsH n st i y) : False := by
  obtain ⟨k, hk, ek⟩ := a
  obtain ⟨j, hj, ej⟩ := b
  exact (C.ok i hi).W.d k j hk hj (by rw [ek, ej])
theorem Chain.side1 (C : Chain n m N M B L st rr ss) {i y : Nat} (hi : i < L) (a : IsS m st i y) (ne : lvN st rr i ≠ y) : IsS m st (i + 1) y := by
  obtain ⟨k, hk, ek⟩ := a
  refine ⟨k, hk, ?_⟩
  rw [C.s i hi]
  unfold chN
  rw [if_neg fun z => ne (by rw [← ek, z])]
  exact ek
theorem Chain.head1 (C : Chain n m N M B L st rr ss) {i y : Nat} (hi : i < L) (a : IsH n st i y) (ne : enN st ss i ≠ y) : IsH n st (i + 1) y := by
  obtain ⟨k, hk, ek⟩ := a
  refine ⟨k, hk, ?_⟩
  rw [C.h i hi]
  unfold chN
  rw [if_neg fun z => ne (by rw [← ek, z])]
  exact ek
theorem Chain.stayS (C : Chain n m N M B L st rr ss) {y : Nat} : ∀ (k i : Nat), i + k ≤ L → IsS m st i y → (∀ l, i ≤ l → l < i + k → lvN st rr l ≠ y) → IsS m st (i + k) y
  | 0, i, _, a, _ => a
  | k + 1, i, hl, a, ne => C.side1 (i := i + k) (by omega) (C.stayS k i (by omega) a fun l h1 h2 => ne l h1 (by omega)) (ne (i + k) (by omega) (by omega))
theorem Chain.stayH (C : Chain n m N M B L st rr ss) {y : Nat} : ∀ (k i : Nat), i + k ≤ L → IsH n st i y → (∀ l, i ≤ l → l < i + k → enN st ss l ≠ y) → IsH n st (i + k) y
  | 0, i, _, a, _ => a
  | k + 1, i, hl, a, ne => C.head1 (i := i + k) (by omega) (C.stayH k i (by omega) a fun l h1 h2 => ne l h1 (by omega)) (ne (i + k) (by omega) (by omega))
theorem Chain.sideOf (C : Chain n m N M B L st rr ss) {i : Nat} (hi : i < L) : IsS m st i (lvN st rr i) ∧ IsH n st i (enN st ss i) ∧ IsS m st (i + 1) (enN st ss i) ∧ IsH n st (i + 1) (lvN st rr i) := by
  have e := C.en i hi
  have l := C.lv i hi
  refine ⟨⟨_, l.i, rfl⟩, ⟨_, e.i, rfl⟩, ⟨_, l.i, ?_⟩, ⟨_, e.i, ?_⟩⟩
  · rw [C.s i hi]
    exact if_pos rfl
  · rw [C.h i hi]
    exact if_pos rfl
/-- where y is a side here and a head there, it moved between -/
theorem Chain.moved (C : Chain n m N M B L st rr ss) {y p q : Nat} (hp : p ≤ L) (hq : q ≤ L) (a : IsS m st p y) (b : IsH n st q y) : ∃ l, min p q ≤ l ∧ l < max p q ∧ (enN st ss l = y ∨ lvN st rr l = y) := by
  refine Classical.byContradiction fun no => ?_
  have ne : ∀ l, min p q ≤ l → l < max p q → enN st ss l ≠ y ∧ lvN st rr l ≠ y := fun l h1 h2 => ⟨fun z => no ⟨l, h1, h2, .inl z⟩, fun z => no ⟨l, h1, h2, .inr z⟩⟩
  by_cases c : p ≤ q
  · have z := C.stayS (q - p) p (by omega) a fun l h1 h2 => (ne l (by omega) (by omega)).2
    rw [show p + (q - p) = q by omega] at z
    exact C.not_both hq z b
  · have z := C.stayH (p - q) q (by omega) b fun l h1 h2 => (ne l (by omega) (by omega)).1
    rw [show q + (p - q) = p by omega] at z
    exact C.not_both hp a z
theorem Chain.core (C : Chain n m N M B L st rr ss) {a b k p q : Nat} (hb : b ≤ L) (lt : ∀ i, a ≤ i → i < b → enN st ss i ≤ k ∧ lvN st rr i ≤ k) (ap : a ≤ p) (pb : p < b) (aq : a ≤ q) (qb : q < b) (ep : lvN st rr p = k) (eq : enN st ss q = k) : False := by
  refine bland (C.ok p (by omega)) (C.ok q (by omega)) (C.en p (by omega)) (C.lv p (by omega)) (C.en q (by omega)) (eq.trans ep.symm) fun j hj h => ?_
  rw [show (st p).sd (rr p) = k from ep]
  rcases h with h | ⟨i, hi, ei⟩
  · rw [h]
    exact ⟨(lt p ap pb).1, (C.en p (by omega)).b⟩
  · obtain ⟨l, l1, l2, hl⟩ := C.moved (p := p) (q := q) (by omega) (by omega) ⟨i, hi, ei⟩ ⟨j, hj, rfl⟩
    have la : a ≤ l := by omega
    have lb : l < b := by omega
    rcases hl with hl | hl
    · rw [← hl]
      exact ⟨(lt l la lb).1, (C.en l (by omega)).b⟩
    · rw [← hl]
      exact ⟨(lt l la lb).2, (C.lv l (by omega)).b⟩
/-- the greatest number moves once at the most -/
theorem Chain.once (C : Chain n m N M B L st rr ss) {a b k i j : Nat} (hb : b ≤ L) (lt : ∀ i, a ≤ i → i < b → enN st ss i ≤ k ∧ lvN st rr i ≤ k) (ai : a ≤ i) (ij : i < j) (jb : j < b) (hi : enN st ss i = k ∨ lvN st rr i = k) (hj : enN st ss j = k ∨ lvN st rr j = k) : False := by
  obtain ⟨s1, s2, s3, s4⟩ := C.sideOf (i := i) (by omega)
  obtain ⟨t1, t2, t3, t4⟩ := C.sideOf (i := j) (by omega)
  rcases hi with hi | hi
  · rcases hj with hj | hj
    · refine Classical.byContradiction fun _ => ?_
      have ex : ∃ l, i + 1 ≤ l ∧ l < j ∧ lvN st rr l = k := Classical.byContradiction fun no => by
        rw [hi] at s3
        rw [hj] at t2
        have z := C.stayS (j - (i + 1)) (i + 1) (by omega) s3 fun l h1 h2 z => no ⟨l, h1, by omega, z⟩
        rw [show i + 1 + (j - (i + 1)) = j by omega] at z
        exact C.not_both (by omega) z t2
      obtain ⟨l, l1, l2, el⟩ := ex
      exact C.core hb lt (p := l) (q := i) (by omega) (by omega) ai (by omega) el hi
    · exact C.core hb lt (p := j) (q := i) (by omega) jb ai (by omega) hj hi
  · rcases hj with hj | hj
    · exact C.core hb lt (p := i) (q := j) ai (by omega) (by omega) jb hi hj
    · have ex : ∃ l, i + 1 ≤ l ∧ l < j ∧ enN st ss l = k := Classical.byContradiction fun no => by
        rw [hi] at s4
        rw [hj] at t1
        have z := C.stayH (j - (i + 1)) (i + 1) (by omega) s4 fun l h1 h2 z => no ⟨l, h1, by omega, z⟩
        rw [show i + 1 + (j - (i + 1)) = j by omega] at z
        exact C.not_both (by omega) t1 z
      obtain ⟨l, l1, l2, el⟩ := ex
      exact C.core hb lt (p := i) (q := l) ai (by omega) (by omega) (by omega) hi el
theorem Chain.short (C : Chain n m N M B L st rr ss) : ∀ (k a b : Nat), a ≤ b → b ≤ L → (∀ i, a ≤ i → i < b → enN st ss i < k ∧ lvN st rr i < k) → b - a < 2 ^ k
  | 0, a, b, ab, hb, lt => by
    by_cases c : a < b
    · exact absurd (lt a (Nat.le_refl a) c).1 (Nat.not_lt_zero _)
    · show b - a < 1
      omega
  | k + 1, a, b, ab, hb, lt => by
    rw [Nat.pow_succ]
    have lt' : ∀ i, a ≤ i → i < b → enN st ss i ≤ k ∧ lvN st rr i ≤ k := fun i h1 h2 => by
      have := lt i h1 h2
      exact ⟨by omega, by omega⟩
    by_cases c : ∃ i, a ≤ i ∧ i < b ∧ (enN st ss i = k ∨ lvN st rr i = k)
    · obtain ⟨i0, h1, h2, h3⟩ := c
      have z1 := C.short k a i0 h1 (by omega) fun i x1 x2 => by
        have y := lt' i x1 (by omega)
        refine ⟨Nat.lt_of_le_of_ne y.1 fun w => ?_, Nat.lt_of_le_of_ne y.2 fun w => ?_⟩
        · exact C.once hb lt' x1 x2 h2 (.inl w) h3
        · exact C.once hb lt' x1 x2 h2 (.inr w) h3
      have z2 := C.short k (i0 + 1) b (by omega) hb fun i x1 x2 => by
        have y := lt' i (by omega) x2
        refine ⟨Nat.lt_of_le_of_ne y.1 fun w => ?_, Nat.lt_of_le_of_ne y.2 fun w => ?_⟩
        · exact C.once hb lt' h1 (by omega) x2 h3 (.inl w)
        · exact C.once hb lt' h1 (by omega) x2 h3 (.inr w)
      omega
    · have z := C.short k a b ab hb fun i x1 x2 => by
        have y := lt' i x1 x2
        exact ⟨Nat.lt_of_le_of_ne y.1 fun w => c ⟨i, x1, x2, .inl w⟩, Nat.lt_of_le_of_ne y.2 fun w => c ⟨i, x1, x2, .inr w⟩⟩
      omega
theorem Chain.bound (C : Chain n m N M B L st rr ss) : L < 2 ^ N := by
  have z := C.short N 0 L (Nat.zero_le L) (Nat.le_refl L) fun i _ hi => ⟨(C.ok i (by omega)).W.l _ (C.en i hi).i, (C.ok i (by omega)).W.k _ (C.lv i hi).i⟩
  omega
end
end GM
namespace GM
theorem Whole.swap {n m N : Nat} {hd sd : Nat → Nat} (W : Whole n m N hd sd) {r s : Nat} (hr : r < m) (hs : s < n) : Whole n m N (chN hd s (sd r)) (chN sd r (hd s)) := by
  have hh : ∀ k, chN hd s (sd r) k = if k = s then sd r else hd k := fun _ => rfl
  have ss : ∀ k, chN sd r (hd s) k = if k = r then hd s else sd k := fun _ => rfl
  refine ⟨fun x hx => ?_, fun i j hi hj e => ?_, fun i j hi hj e => ?_, fun i j hi hj => ?_, fun j hj => ?_, fun i hi => ?_⟩
  · rcases W.c x hx with ⟨j, hj, e⟩ | ⟨i, hi, e⟩
    · by_cases a : j = s
      · exact .inr ⟨r, hr, by rw [ss, if_pos rfl, ← a]; exact e⟩
      · exact .inl ⟨j, hj, by rw [hh, if_neg a]; exact e⟩
    · by_cases a : i = r
      · exact .inl ⟨s, hs, by rw [hh, if_pos rfl, ← a]; exact e⟩
      · exact .inr ⟨i, hi, by rw [ss, if_neg a]; exact e⟩
  · rw [hh, hh] at e
    by_cases a : i = s
    · by_cases b : j = s
      · rw [a, b]
      · rw [if_pos a, if_neg b] at e
        exact absurd e (W.d r j hr hj)
    · by_cases b : j = s
      · rw [if_neg a, if_pos b] at e
        exact absurd e.symm (W.d r i hr hi)
      · rw [if_neg a, if_neg b] at e
        exact W.h i j hi hj e
  · rw [ss, ss] at e
    by_cases a : i = r
    · by_cases b : j = r
      · rw [a, b]
      · rw [if_pos a, if_neg b] at e
        exact absurd e.symm (W.d j s hj hs)
    · by_cases b : j = r
      · rw [if_neg a, if_pos b] at e
        exact absurd e (W.d i s hi hs)
      · rw [if_neg a, if_neg b] at e
        exact W.s i j hi hj e
  · rw [hh, ss]
    by_cases a : i = r
    · by_cases b : j = s
      · rw [if_pos a, if_pos b]
        exact fun z => W.d r s hr hs z.symm
      · rw [if_pos a, if_neg b]
        exact fun z => b (W.h j s hj hs z.symm)
    · by_cases b : j = s
      · rw [if_neg a, if_pos b]
        exact fun z => a (W.s i r hi hr z)
      · rw [if_neg a, if_neg b]
        exact W.d i j hi hj
  · rw [hh]
    split
    · exact W.k r hr
    · exact W.l j hj
  · rw [ss]
    split
    · exact W.l s hs
    · exact W.k i hi
section
variable {n m N : Nat} {M : Nat → Vec} {hd sd : Nat → Nat} {T : Nat → Nat → Int} {d e : Int}
theorem Sta.swap (A : Sta n m N M hd sd T d e) {r s : Nat} {sg : Int} (hr : r < m) (hs : s < n) (h1 : sg * sg = 1) (hp : 0 < sg * T r s) :
    Sta n m N M (chN hd s (sd r)) (chN sd r (hd s)) (chT T d r s sg) (sg * T r s) (e * sg) :=
  ⟨A.P.swap (by omega) hs h1 hp, A.W.swap hr hs, (if_neg (by omega)).trans A.g⟩
/-- the forms of all amounts, the goal's last -/
def forms (n : Nat) (A : Nat → Nat → Int) : Nat → Vec := fun k => if k < n then unit k else A (k - n)
theorem Sta.first (n m : Nat) (A : Nat → Nat → Int) : Sta n m (n + m) (forms n A) (fun j => j) (fun i => n + i) A 1 1 := by
  refine ⟨⟨by decide, rfl, ?_, fun i hi c hc => ?_⟩, ⟨fun x hx => ?_, fun i j _ _ e => e, fun i j _ _ e => by omega, fun i j _ hj => by omega, fun j hj => by omega, fun i hi => by omega⟩, rfl⟩
  · rw [vol_congr (g := unit), vol_unit]
    · rfl
    · intro i hi c _
      show forms n A i c = unit i c
      unfold forms
      rw [if_pos hi]
  · rw [sumN_one (j := c) hc]
    · unfold forms
      rw [if_neg (by omega), if_pos hc, show n + i - n = i by omega]
      unfold unit
      rw [if_pos rfl]
      omega
    · intro k hk ne
      unfold forms
      rw [if_pos hk]
      unfold unit
      rw [if_neg (fun z => ne z.symm), Int.mul_zero]
  · by_cases c : x < n
    · exact .inl ⟨x, c, rfl⟩
    · exact .inr ⟨x - n, by omega, by show n + (x - n) = x; omega⟩
open Classical in
/-- the value of amount k as the amount of column f grows to the divisor alone -/
noncomputable def val (n m : Nat) (hd sd : Nat → Nat) (T : Nat → Nat → Int) (d : Int) (f k : Nat) : Int :=
  if k = hd f then d else if h : ∃ i, i < m ∧ sd i = k then T (Classical.choose h) f else 0
theorem val_side (W : Whole n m N hd sd) {f i : Nat} (hf : f < n) (hi : i < m) : val n m hd sd T d f (sd i) = T i f := by
  unfold val
  have ex : ∃ j, j < m ∧ sd j = sd i := ⟨i, hi, rfl⟩
  rw [if_neg (W.d i f hi hf), dif_pos ex, W.s _ i (Classical.choose_spec ex).1 hi (Classical.choose_spec ex).2]
theorem val_head (W : Whole n m N hd sd) {f j : Nat} (hf : f < n) (hj : j < n) : val n m hd sd T d f (hd j) = if j = f then d else 0 := by
  unfold val
  by_cases c : j = f
  · rw [c, if_pos rfl, if_pos rfl]
  · rw [if_neg (fun z => c (W.h j f hj hf z)), if_neg c, dif_neg]
    exact fun ⟨i, hi, e⟩ => W.d i j hi hj e
/-- what amounts tells is a solution: each amount is its form there -/
theorem Sta.sol (A : Sta n m N M hd sd T d e) (u : ∀ c, c < n → c < N ∧ ∀ k, k < n → M c k = unit c k) {f : Nat} (hf : f < n) :
    (∀ j, j < n → sumN n (fun c => M (hd j) c * val n m hd sd T d f c) = if j = f then d else 0) ∧ ∀ i, i ≤ m → sumN n (fun c => M (sd i) c * val n m hd sd T d f c) = T i f := by
  have heads : ∀ j, j < n → ∀ g, g < n → sumN n (fun c => M (hd j) c * val n m hd sd T d g c) = if j = g then d else 0 := by
    intro j hj g hg
    have z := A.P.indep (a := fun k => sumN n fun c => M (hd j) c * val n m hd sd T d k c) (b := fun k => if j = k then d else 0) (j := g) (fun c' hc' => ?_) hg
    · exact z
    · have unitQ : ∀ c, c < n → (sumN n fun k => val n m hd sd T d k c * M (hd k) c') = d * unit c c' := by
        intro c hc
        obtain ⟨cN, cu⟩ := u c hc
        rw [← cu c' hc']
        rcases A.W.c c cN with ⟨k0, hk0, ek⟩ | ⟨i, hi, ei⟩
        · rw [← ek, sumN_one (j := k0) hk0]
          · rw [val_head A.W hk0 hk0, if_pos rfl]
          · intro k hk ne
            rw [val_head A.W hk hk0, if_neg (fun z => ne z.symm), Int.zero_mul]
        · rw [← ei, A.P.r i (by omega) c' hc']
          exact sumN_congr fun k hk => by rw [val_side A.W hk hi]
      have l : (sumN n fun k => (sumN n fun c => M (hd j) c * val n m hd sd T d k c) * M (hd k) c') = d * M (hd j) c' := by
        have : ∀ k, k < n → (sumN n fun c => M (hd j) c * val n m hd sd T d k c) * M (hd k) c' = sumN n fun c => M (hd j) c * (val n m hd sd T d k c * M (hd k) c') := fun k _ => by
          rw [Int.mul_comm, ← sumN_mul]
          exact sumN_congr fun c _ => by grind
        rw [sumN_congr this, sumN_swap]
        have : ∀ c, c < n → (sumN n fun k => M (hd j) c * (val n m hd sd T d k c * M (hd k) c')) = M (hd j) c * (d * unit c c') := fun c hc => by rw [sumN_mul, unitQ c hc]
        rw [sumN_congr this, sumN_one (j := c') hc']
        · unfold unit
          rw [if_pos rfl]
          grind
        · intro k _ ne
          unfold unit
          rw [if_neg (fun z => ne z.symm), Int.mul_zero, Int.mul_zero]
      rw [l, sumN_one (j := j) hj]
      · show d * M (hd j) c' = (if j = j then d else 0) * _
        rw [if_pos rfl]
      · intro k _ ne
        show (if j = k then d else 0) * _ = 0
        rw [if_neg (fun z => ne z.symm), Int.zero_mul]
  refine ⟨fun j hj => heads j hj f hf, fun i hi => ?_⟩
  refine mul_cancel A.P.d0 ?_
  have h1 : d * (sumN n fun c => M (sd i) c * val n m hd sd T d f c) = sumN n fun c => sumN n fun k => T i k * (M (hd k) c * val n m hd sd T d f c) := by
    rw [← sumN_mul]
    refine sumN_congr fun c hc => ?_
    rw [← Int.mul_assoc, A.P.r i (by omega) c hc, Int.mul_comm, ← sumN_mul]
    exact sumN_congr fun k _ => by grind
  rw [h1, sumN_swap, sumN_congr fun k hk => (sumN_mul n (T i k) _).trans (by rw [heads k hk f hf]), sumN_one (j := f) hf]
  · rw [if_pos rfl]
    grind
  · intro k _ ne
    rw [if_neg ne, Int.mul_zero]
end
end GM
namespace GM
/-- can be anything: an unbound amount that stood at a head -/
def Fr (n : Nat) (B : Nat → Bool) (k : Nat) : Prop := k < n ∧ B k = false
/-- must be 0: an unbound amount that stood at a side -/
def Nu (n : Nat) (B : Nat → Bool) (k : Nat) : Prop := n ≤ k ∧ B k = false
structure Set2 (n m : Nat) (B : Nat → Bool) (hd sd : Nat → Nat) (T : Nat → Nat → Int) : Prop where
  z : ∀ i f, i < m → f < n → ¬ Fr n B (sd i) → Fr n B (hd f) → T i f = 0
  y : ∀ i j, i < m → j < n → Nu n B (sd i) → B (hd j) = true → T i j = 0
theorem chT_zero {T : Nat → Nat → Int} {d sg : Int} {r s i j : Nat} (hi : i ≠ r) (hj : j ≠ s) (a : T i j = 0) (b : T i s = 0 ∨ T r j = 0) : chT T d r s sg i j = 0 := by
  unfold chT
  rw [if_neg hi, if_neg hj, a]
  rcases b with b | b
  · rw [b, Int.mul_zero, Int.zero_mul, Int.zero_mul, Int.sub_zero, Int.zero_ediv]
  · rw [b, Int.mul_zero, Int.zero_mul, Int.sub_zero, Int.zero_ediv]
section
variable {n m N : Nat} {M : Nat → Vec} {B : Nat → Bool} {hd sd : Nat → Nat} {T : Nat → Nat → Int} {d e : Int}
/-- a change of bound amounts keeps it -/
theorem Set2.swap (S : Set2 n m B hd sd T) {r s : Nat} {sg : Int} (hr : r < m) (hs : s < n) (br : B (sd r) = true) (bs : B (hd s) = true) : Set2 n m B (chN hd s (sd r)) (chN sd r (hd s)) (chT T d r s sg) := by
  have nfr : ¬ Fr n B (sd r) := fun z => by rw [z.2] at br; cases br
  refine ⟨fun i f hi hf ni ff => ?_, fun i j hi hj ni bj => ?_⟩
  · have fs : f ≠ s := fun z => by
      rw [z, show chN hd s (sd r) s = sd r from if_pos rfl] at ff
      exact nfr ff
    rw [show chN hd s (sd r) f = hd f from if_neg fs] at ff
    have zr := S.z r f hr hf nfr ff
    by_cases a : i = r
    · rw [a]
      unfold chT
      rw [if_pos rfl, if_neg fs, zr, Int.mul_zero]
    · rw [show chN sd r (hd s) i = sd i from if_neg a] at ni
      exact chT_zero a fs (S.z i f hi hf ni ff) (.inr zr)
  · have a : i ≠ r := fun z => by
      rw [z, show chN sd r (hd s) r = hd s from if_pos rfl] at ni
      rw [ni.2] at bs
      cases bs
    rw [show chN sd r (hd s) i = sd i from if_neg a] at ni
    have ys := S.y i s hi hs ni bs
    by_cases c : j = s
    · rw [c]
      unfold chT
      rw [if_neg a, if_pos rfl, ys, Int.mul_zero]
    · rw [show chN hd s (sd r) j = hd j from if_neg c] at bj
      exact chT_zero a c (S.y i j hi hj ni bj) (.inl ys)
/-- a column that grows without end: a right solution with a goal above 0 -/
theorem Sta.grows (A : Sta n m N M hd sd T d e) (S : Set2 n m B hd sd T) (u : ∀ c, c < n → c < N ∧ ∀ k, k < n → M c k = unit c k) {f : Nat} (hf : f < n) (bf : B (hd f) = true) (g : 0 < T m f) (no : ∀ i, i < m → B (sd i) = true → 0 ≤ T i f) :
    (∀ k, k < N → sumN n (fun c => M k c * val n m hd sd T d f c) = val n m hd sd T d f k) ∧ sumN n (fun c => M N c * val n m hd sd T d f c) = T m f ∧
    (∀ k, k < N → B k = true → 0 ≤ val n m hd sd T d f k) ∧ ∀ k, k < N → Nu n B k → val n m hd sd T d f k = 0 := by
  obtain ⟨so, si⟩ := A.sol u hf
  refine ⟨fun k hk => ?_, ?_, fun k hk bk => ?_, fun k hk nk => ?_⟩
  · rcases A.W.c k hk with ⟨j, hj, rfl⟩ | ⟨i, hi, rfl⟩
    · rw [so j hj, val_head A.W hf hj]
    · rw [si i (by omega), val_side A.W hf hi]
  · have z := si m (Nat.le_refl m)
    rw [A.g] at z
    exact z
  · rcases A.W.c k hk with ⟨j, hj, rfl⟩ | ⟨i, hi, rfl⟩
    · rw [val_head A.W hf hj]
      have := A.P.d0
      split <;> omega
    · rw [val_side A.W hf hi]
      exact no i hi bk
  · rcases A.W.c k hk with ⟨j, hj, rfl⟩ | ⟨i, hi, rfl⟩
    · rw [val_head A.W hf hj, if_neg fun z => by rw [z] at nk; rw [nk.2] at bf; cases bf]
    · rw [val_side A.W hf hi]
      exact S.y i f hi hf nk bf
/-- the goal does not grow with a free amount at a head -/
theorem Sta.free (A : Sta n m N M hd sd T d e) (S : Set2 n m B hd sd T) (u : ∀ c, c < n → c < N ∧ ∀ k, k < n → M c k = unit c k) (g0 : ∀ c, c < n → B c = false → M N c = 0) {f : Nat} (hf : f < n) (ff : Fr n B (hd f)) : T m f = 0 := by
  have z := (A.sol u hf).2 m (Nat.le_refl m)
  rw [A.g] at z
  rw [← z]
  refine sumN_zero fun c hc => ?_
  cases bc : B c with
  | false => rw [g0 c hc bc, Int.zero_mul]
  | true =>
    have : val n m hd sd T d f c = 0 := by
      rcases A.W.c c (u c hc).1 with ⟨j, hj, ej⟩ | ⟨i, hi, ei⟩
      · rw [← ej, val_head A.W hf hj, if_neg fun x => by rw [← ej, x, ff.2] at bc; cases bc]
      · rw [← ei, val_side A.W hf hi]
        exact S.z i f hi hf (fun x => by rw [← ei, x.2] at bc; cases bc) ff
    rw [this, Int.mul_zero]
open Classical in
/-- the cost of amount k -/
noncomputable def cost (n m : Nat) (hd : Nat → Nat) (T : Nat → Nat → Int) (k : Nat) : Int := if h : ∃ j, j < n ∧ hd j = k then -T m (Classical.choose h) else 0
theorem cost_head (W : Whole n m N hd sd) {j : Nat} (hj : j < n) : cost n m hd T (hd j) = -T m j := by
  unfold cost
  have ex : ∃ k, k < n ∧ hd k = hd j := ⟨j, hj, rfl⟩
  rw [dif_pos ex, W.h _ j (Classical.choose_spec ex).1 hj (Classical.choose_spec ex).2]
theorem sumN_split (a b : Nat) (f : Nat → Int) : sumN (a + b) f = sumN a f + sumN b fun i => f (a + i) := by
  induction b with
  | zero =>
    show sumN a f = sumN a f + 0
    omega
  | succ b ih =>
    show sumN (a + b) f + f (a + b) = sumN a f + ((sumN b fun i => f (a + i)) + f (a + b))
    rw [ih]
    omega
/-- all heads' numbers, one by one -/
theorem Whole.sum (W : Whole n m N hd sd) (f : Nat → Int) (h0 : ∀ k, k < N → (∀ j, j < n → hd j ≠ k) → f k = 0) : sumN N f = sumN n fun j => f (hd j) := by
  have e1 : ∀ k, k < N → f k = sumN n fun j => if hd j = k then f k else 0 := by
    intro k hk
    by_cases c : ∃ j, j < n ∧ hd j = k
    · obtain ⟨j, hj, rfl⟩ := c
      rw [sumN_one (j := j) hj]
      · rw [if_pos rfl]
      · intro i hi ne
        exact if_neg fun z => ne (W.h i j hi hj z)
    · rw [h0 k hk fun j hj z => c ⟨j, hj, z⟩, sumN_zero]
      intro j _
      split <;> rfl
  rw [sumN_congr e1, sumN_swap]
  refine sumN_congr fun j hj => ?_
  rw [sumN_one (j := hd j) (W.l j hj)]
  · rw [if_pos rfl]
  · intro k _ ne
    exact if_neg fun z => ne z.symm
/-- no column with which the goal grows: the costs tell a stock -/
theorem Sta.stops (A : Sta n m N M hd sd T d e) (S : Set2 n m B hd sd T) (u : ∀ c, c < n → c < N ∧ ∀ k, k < n → M c k = unit c k) (g0 : ∀ c, c < n → B c = false → M N c = 0) (no : ∀ j, j < n → B (hd j) = true → T m j ≤ 0) {q : Nat} (hq : N = n + q) :
    (∀ k, k < N → B k = true → 0 ≤ cost n m hd T k) ∧ ∀ c, c < n → (B c = true → (sumN q fun i => cost n m hd T (n + i) * M (n + i) c) ≤ -(d * M N c)) ∧ (B c = false → (sumN q fun i => cost n m hd T (n + i) * M (n + i) c) = 0) := by
  have cz : ∀ k, k < N → (∀ j, j < n → hd j ≠ k) → cost n m hd T k = 0 := fun k _ h => dif_neg fun ⟨j, hj, e⟩ => h j hj e
  refine ⟨fun k hk bk => ?_, fun c hc => ?_⟩
  · by_cases x : ∃ j, j < n ∧ hd j = k
    · obtain ⟨j, hj, rfl⟩ := x
      rw [cost_head A.W hj]
      have := no j hj bk
      omega
    · rw [cz k hk fun j hj z => x ⟨j, hj, z⟩]
      exact Int.le_refl _
  · have r := A.P.r m (by omega) c hc
    rw [A.g] at r
    have all : (sumN N fun k => cost n m hd T k * M k c) = -(d * M N c) := by
      rw [A.W.sum _ fun k hk h => by rw [cz k hk h, Int.zero_mul], r]
      have : ∀ j, j < n → cost n m hd T (hd j) * M (hd j) c = -1 * (T m j * M (hd j) c) := fun j hj => by
        rw [cost_head A.W hj]
        grind
      rw [sumN_congr this, sumN_mul]
      omega
    have own : (sumN n fun k => cost n m hd T k * M k c) = cost n m hd T c := by
      rw [sumN_one (j := c) hc]
      · rw [(u c hc).2 c hc]
        unfold unit
        rw [if_pos rfl, Int.mul_one]
      · intro k hk ne
        rw [(u k hk).2 c hc]
        unfold unit
        rw [if_neg (fun z => ne z.symm), Int.mul_zero]
    rw [hq, sumN_split, own] at all
    rw [hq]
    rw [← hq] at all ⊢
    refine ⟨fun bc => ?_, fun bc => ?_⟩
    · have : 0 ≤ cost n m hd T c := by
        by_cases x : ∃ j, j < n ∧ hd j = c
        · obtain ⟨j, hj, rfl⟩ := x
          rw [cost_head A.W hj]
          have := no j hj bc
          omega
        · rw [cz c (u c hc).1 fun j hj z => x ⟨j, hj, z⟩]
          exact Int.le_refl _
      omega
    · have : cost n m hd T c = 0 := by
        by_cases x : ∃ j, j < n ∧ hd j = c
        · obtain ⟨j, hj, rfl⟩ := x
          rw [cost_head A.W hj, A.free S u g0 hj ⟨hc, bc⟩]
          rfl
        · exact cz c (u c hc).1 fun j hj z => x ⟨j, hj, z⟩
      rw [g0 c hc bc, Int.mul_zero] at all
      omega
end
end GM
namespace GM
/-- columns below k are settled -/
structure Col (n m : Nat) (B : Nat → Bool) (hd sd : Nat → Nat) (T : Nat → Nat → Int) (k : Nat) : Prop where
  z : ∀ i f, i < m → f < k → f < n → ¬ Fr n B (sd i) → Fr n B (hd f) → T i f = 0
  h : ∀ f, k ≤ f → f < n → hd f = f
  s : ∀ i, i < m → n ≤ sd i ∨ Fr n B (sd i)
/-- rows below k are settled, and all columns -/
structure Row (n m : Nat) (B : Nat → Bool) (hd sd : Nat → Nat) (T : Nat → Nat → Int) (k : Nat) : Prop where
  z : ∀ i f, i < m → f < n → ¬ Fr n B (sd i) → Fr n B (hd f) → T i f = 0
  y : ∀ i j, i < k → i < m → j < n → Nu n B (sd i) → B (hd j) = true → T i j = 0
section
variable {n m : Nat} {B : Nat → Bool} {hd sd : Nat → Nat} {T : Nat → Nat → Int} {d : Int}
theorem Col.first (T : Nat → Nat → Int) : Col n m B (fun j => j) (fun i => n + i) T 0 := ⟨fun _ _ _ h => absurd h (Nat.not_lt_zero _), fun _ _ _ => rfl, fun i _ => .inl (by show n ≤ n + i; omega)⟩
theorem Col.bound (C : Col n m B hd sd T k) (b : B k = true) (hk : k < n) : Col n m B hd sd T (k + 1) := by
  refine ⟨fun i f hi hf fn ni ff => ?_, fun f h1 h2 => C.h f (by omega) h2, C.s⟩
  by_cases c : f = k
  · rw [c, C.h k (Nat.le_refl k) hk] at ff
    rw [ff.2] at b
    cases b
  · exact C.z i f hi (by omega) fn ni ff
theorem Col.none (C : Col n m B hd sd T k) (no : ∀ i, i < m → n ≤ sd i → T i k = 0) : Col n m B hd sd T (k + 1) := by
  refine ⟨fun i f hi hf fn ni ff => ?_, fun f h1 h2 => C.h f (by omega) h2, C.s⟩
  by_cases c : f = k
  · rw [c]
    rcases C.s i hi with w | w
    · exact no i hi w
    · exact absurd w ni
  · exact C.z i f hi (by omega) fn ni ff
theorem Col.swap (C : Col n m B hd sd T k) {r : Nat} {sg : Int} (hr : r < m) (hk : k < n) (nr : n ≤ sd r) (bk : B k = false) : Col n m B (chN hd k (sd r)) (chN sd r (hd k)) (chT T d r k sg) (k + 1) := by
  have hkk := C.h k (Nat.le_refl k) hk
  refine ⟨fun i f hi hf fn ni ff => ?_, fun f h1 h2 => ?_, fun i hi => ?_⟩
  · have fk : f ≠ k := fun z => by
      rw [z, show chN hd k (sd r) k = sd r from if_pos rfl] at ff
      have := ff.1
      omega
    have ir : i ≠ r := fun z => by
      rw [z, show chN sd r (hd k) r = hd k from if_pos rfl, hkk] at ni
      exact ni ⟨hk, bk⟩
    rw [show chN hd k (sd r) f = hd f from if_neg fk] at ff
    rw [show chN sd r (hd k) i = sd i from if_neg ir] at ni
    exact chT_zero ir fk (C.z i f hi (by omega) fn ni ff) (.inr (C.z r f hr (by omega) fn (fun z => by have := z.1; omega) ff))
  · rw [show chN hd k (sd r) f = hd f from if_neg (by omega)]
    exact C.h f (by omega) h2
  · by_cases ir : i = r
    · rw [ir, show chN sd r (hd k) r = hd k from if_pos rfl, hkk]
      exact .inr ⟨hk, bk⟩
    · rw [show chN sd r (hd k) i = sd i from if_neg ir]
      exact C.s i hi
theorem Col.rows (C : Col n m B hd sd T n) : Row n m B hd sd T 0 := ⟨fun i f hi hf ni ff => C.z i f hi hf hf ni ff, fun _ _ h => absurd h (Nat.not_lt_zero _)⟩
theorem Row.other (R : Row n m B hd sd T k) (o : ¬ Nu n B (sd k)) : Row n m B hd sd T (k + 1) := by
  refine ⟨R.z, fun i j hi im hj ni bj => ?_⟩
  by_cases c : i = k
  · rw [c] at ni
    exact absurd ni o
  · exact R.y i j (by omega) im hj ni bj
theorem Row.none (R : Row n m B hd sd T k) (no : ∀ j, j < n → B (hd j) = true → T k j = 0) : Row n m B hd sd T (k + 1) := by
  refine ⟨R.z, fun i j hi im hj ni bj => ?_⟩
  by_cases c : i = k
  · rw [c]
    exact no j hj bj
  · exact R.y i j (by omega) im hj ni bj
theorem Row.swap (R : Row n m B hd sd T k) {s : Nat} {sg : Int} (hk : k < m) (hs : s < n) (nk : Nu n B (sd k)) (bs : B (hd s) = true) : Row n m B (chN hd s (sd k)) (chN sd k (hd s)) (chT T d k s sg) (k + 1) := by
  have nfr : ¬ Fr n B (sd k) := fun z => by have := z.1; have := nk.1; omega
  refine ⟨fun i f hi hf ni ff => ?_, fun i j hi im hj ni bj => ?_⟩
  · have fs : f ≠ s := fun z => by
      rw [z, show chN hd s (sd k) s = sd k from if_pos rfl] at ff
      exact nfr ff
    rw [show chN hd s (sd k) f = hd f from if_neg fs] at ff
    have zr := R.z k f hk hf nfr ff
    by_cases a : i = k
    · rw [a]
      unfold chT
      rw [if_pos rfl, if_neg fs, zr, Int.mul_zero]
    · rw [show chN sd k (hd s) i = sd i from if_neg a] at ni
      exact chT_zero a fs (R.z i f hi hf ni ff) (.inr zr)
  · have a : i ≠ k := fun z => by
      rw [z, show chN sd k (hd s) k = hd s from if_pos rfl] at ni
      rw [ni.2] at bs
      cases bs
    rw [show chN sd k (hd s) i = sd i from if_neg a] at ni
    have js : j ≠ s := fun z => by
      rw [z, show chN hd s (sd k) s = sd k from if_pos rfl, nk.2] at bj
      cases bj
    rw [show chN hd s (sd k) j = hd j from if_neg js] at bj
    exact chT_zero a js (R.y i j (by omega) im hj ni bj) (.inl (R.y i s (by omega) im hs ni bs))
theorem Row.set (R : Row n m B hd sd T m) : Set2 n m B hd sd T := ⟨R.z, fun i j hi hj ni bj => R.y i j hi hi hj ni bj⟩
end
end GM
namespace GM
theorem sumN_abs {n b : Nat} {f : Nat → Int} (h : ∀ i, i < n → (f i).natAbs ≤ b) : (sumN n f).natAbs ≤ n * b := by
  induction n with
  | zero =>
    show (0 : Int).natAbs ≤ _
    exact Nat.zero_le _
  | succ n ih =>
    have a := ih fun i hi => h i (by omega)
    have c := h n (by omega)
    have d := Int.natAbs_add_le (sumN n f) (f n)
    rw [sumN, Nat.succ_mul]
    omega
theorem sg_abs : ∀ n, (sg n).natAbs = 1
  | 0 => rfl
  | n + 1 => by
    show (-sg n).natAbs = 1
    rw [Int.natAbs_neg]
    exact sg_abs n
theorem vol_abs {q b : Nat} : ∀ {n : Nat} {h : Nat → Vec}, n ≤ q → (∀ i, i < n → ∀ c, c < n → (h i c).natAbs ≤ b) → (vol n h).natAbs ≤ (q * b) ^ n
  | 0, _, _, _ => by
    show (1 : Int).natAbs ≤ 1
    decide
  | n + 1, h, hq, hb => by
    rw [vol]
    have each : ∀ c, c < n + 1 → (sg c * h 0 c * vol n fun i => skip c (h (i + 1))).natAbs ≤ b * (q * b) ^ n := by
      intro c hc
      rw [Int.natAbs_mul, Int.natAbs_mul, sg_abs, Nat.one_mul]
      refine Nat.mul_le_mul (hb 0 (by omega) c hc) (vol_abs (by omega) fun i hi k hk => ?_)
      show (skip c (h (i + 1)) k).natAbs ≤ b
      unfold skip
      split
      · exact hb _ (by omega) _ (by omega)
      · exact hb _ (by omega) _ (by omega)
    refine Nat.le_trans (sumN_abs each) ?_
    rw [Nat.pow_succ, Nat.mul_comm ((q * b) ^ n), Nat.mul_assoc]
    exact Nat.mul_le_mul hq (Nat.le_refl _)
section
variable {n m : Nat} {M : Nat → Vec} {hd sd : Nat → Nat} {T : Nat → Nat → Int} {d e : Int}
theorem abs_sign {e x : Int} (h : e * e = 1) : (e * x).natAbs = x.natAbs := by
  have : e.natAbs * e.natAbs = 1 := by rw [← Int.natAbs_mul, h]; rfl
  have : e.natAbs = 1 := Nat.eq_one_of_mul_eq_one_left this
  rw [Int.natAbs_mul, this, Nat.one_mul]
theorem Piv.small (P : Piv n m M hd sd T d e) {q b : Nat} (hq : n ≤ q) (hM : ∀ k c, c < n → (M k c).natAbs ≤ b) : d.natAbs ≤ (q * b) ^ n ∧ ∀ i j, i < m → j < n → (T i j).natAbs ≤ (q * b) ^ n := by
  refine ⟨?_, fun i j hi hj => ?_⟩
  · have z := vol_abs (h := fun j => M (hd j)) hq fun i _ c hc => hM _ c hc
    rw [P.v, abs_sign P.e1] at z
    exact z
  · have z := vol_abs (h := put (fun k => M (hd k)) j (M (sd i))) hq fun k _ c hc => by
      unfold put
      split
      · exact hM _ c hc
      · exact hM _ c hc
    rw [P.at1 hi hj, abs_sign P.e1] at z
    exact z
end
end GM
namespace GM
def sgn (z : Int) : Int := if 0 < z then 1 else -1
theorem sgn_ok {z : Int} (h : z ≠ 0) : sgn z * sgn z = 1 ∧ 0 < sgn z * z := by
  unfold sgn
  by_cases c : 0 < z
  · rw [if_pos c]
    omega
  · rw [if_neg c]
    omega
theorem sgn_small (z : Int) : (sgn z).natAbs < 2 ^ 1 := by
  unfold sgn
  by_cases c : 0 < z
  · rw [if_pos c]
    decide
  · rw [if_neg c]
    decide
def St.sw (S : St) (r s : Nat) : St := ⟨chN S.hd s (S.sd r), chN S.sd r (S.hd s), chT S.T S.d r s (sgn (S.T r s)), sgn (S.T r s) * S.T r s, S.e * sgn (S.T r s)⟩
section
variable {n m N L : Nat} {M : Nat → Vec} {B : Nat → Bool} {st : Nat → St} {rr ss : Nat → Nat} {S : St}
theorem St.Ok.sw (h : S.Ok n m N M) {r s : Nat} (hr : r < m) (hs : s < n) (z : S.T r s ≠ 0) : (S.sw r s).Ok n m N M :=
  Sta.swap h hr hs (sgn_ok z).1 (sgn_ok z).2
theorem Chain.one (h : S.Ok n m N M) : Chain n m N M B 0 (fun _ => S) (fun _ => 0) (fun _ => 0) :=
  ⟨fun _ _ => h, fun _ h => absurd h (Nat.not_lt_zero _), fun _ h => absurd h (Nat.not_lt_zero _), fun _ h => absurd h (Nat.not_lt_zero _), fun _ h => absurd h (Nat.not_lt_zero _)⟩
theorem Chain.snoc (C : Chain n m N M B L st rr ss) {r s : Nat} (E : Ent n m B (st L).hd (st L).T s) (V : Lev m B (st L).sd (st L).T r s) :
    Chain n m N M B (L + 1) (fun i => if i ≤ L then st i else (st L).sw r s) (fun i => if i < L then rr i else r) (fun i => if i < L then ss i else s) := by
  have e1 : ∀ i, i ≤ L → (if i ≤ L then st i else (st L).sw r s) = st i := fun i h => if_pos h
  have e2 : (if L + 1 ≤ L then st (L + 1) else (st L).sw r s) = (st L).sw r s := if_neg (by omega)
  have ok := St.Ok.sw (C.ok L (Nat.le_refl L)) V.i E.i (by have := V.p; omega)
  refine ⟨fun i hi => ?_, fun i hi => ?_, fun i hi => ?_, fun i hi => ?_, fun i hi => ?_⟩
  · by_cases c : i ≤ L
    · rw [e1 i c]
      exact C.ok i c
    · obtain rfl : i = L + 1 := by omega
      rw [e2]
      exact ok
  · rw [e1 i (by omega)]
    by_cases c : i < L
    · rw [if_pos c]
      exact C.en i c
    · obtain rfl : i = L := by omega
      rw [if_neg c]
      exact E
  · rw [e1 i (by omega)]
    by_cases c : i < L
    · rw [if_pos c, if_pos c]
      exact C.lv i c
    · obtain rfl : i = L := by omega
      rw [if_neg c, if_neg c]
      exact V
  · rw [e1 i (by omega)]
    by_cases c : i < L
    · rw [if_pos c, if_pos c, e1 (i + 1) (by omega)]
      exact C.h i c
    · obtain rfl : i = L := by omega
      rw [if_neg c, if_neg c, e2]
      rfl
  · rw [e1 i (by omega)]
    by_cases c : i < L
    · rw [if_pos c, if_pos c, e1 (i + 1) (by omega)]
      exact C.s i c
    · obtain rfl : i = L := by omega
      rw [if_neg c, if_neg c, e2]
      rfl
/-- how great the numbers of a state are -/
theorem St.Ok.small (h : S.Ok n m N M) {q b : Nat} (hq : n ≤ q) (hM : ∀ k c, c < n → (M k c).natAbs ≤ b) (hb : (q * b) ^ n < 2 ^ 1000) : (∀ i j, i < m + 1 → j < n → (S.T i j).natAbs < 2 ^ 1000) ∧ 0 < S.d ∧ S.d.natAbs < 2 ^ 1000 := by
  obtain ⟨h1, h2⟩ := Piv.small h.P hq hM
  exact ⟨fun i j hi hj => Nat.lt_of_le_of_lt (h2 i j hi hj) hb, h.P.d0, Nat.lt_of_le_of_lt h1 hb⟩
end
end GM
namespace GD
open PySem PySem.Spec PyProof.Rows L2 GM
def fl (n : Nat) (f : Nat → V) : List V := (List.range n).map f
theorem fl_len (n : Nat) (f : Nat → V) : (fl n f).length = n := by
  unfold fl
  rw [List.length_map, List.length_range]
theorem fl_get {n i : Nat} {f : Nat → V} (h : i < n) : (fl n f)[i]? = some (f i) := by
  unfold fl
  rw [List.getElem?_map, List.getElem?_range h]
  rfl
theorem fl_inv {n i : Nat} {f : Nat → V} {v : V} (h : (fl n f)[i]? = some v) : i < n ∧ v = f i := by
  have hi : i < n := by
    have := (List.getElem?_eq_some_iff.mp h).1
    rwa [fl_len] at this
  rw [fl_get hi] at h
  exact ⟨hi, (Option.some.inj h).symm⟩
theorem fl_congr {n : Nat} {f g : Nat → V} (h : ∀ i, i < n → f i = g i) : fl n f = fl n g := List.map_congr_left fun k hk => h k (List.mem_range.mp hk)
theorem fl_put (n : Nat) (f : Nat → V) (v : V) : fl n f ++ [v] = fl (n + 1) fun k => if k = n then v else f k := by
  have e : fl (n + 1) (fun k => if k = n then v else f k) = fl n (fun k => if k = n then v else f k) ++ [v] := by
    unfold fl
    rw [List.range_succ, List.map_append, List.map_singleton, if_pos rfl]
  rw [e, fl_congr (g := f) fun i hi => if_neg (by omega)]
theorem fl_snoc (n : Nat) (f : Nat → V) : fl n f ++ [f n] = fl (n + 1) f := by
  rw [fl_put]
  refine fl_congr fun i _ => ?_
  by_cases h : i = n
  · rw [if_pos h, h]
  · rw [if_neg h]
theorem fl_set {n a : Nat} {f : Nat → V} {v : V} (h : a < n) : (fl n f).set a v = fl n fun k => if k = a then v else f k := by
  refine List.ext_getElem? fun i => ?_
  rw [List.getElem?_set, fl_len]
  by_cases hi : i < n
  · rw [fl_get (f := fun k => if k = a then v else f k) hi]
    by_cases c : a = i
    · rw [if_pos c, if_pos h, if_pos c.symm]
    · rw [if_neg c, if_neg (fun z : i = a => c z.symm), fl_get hi]
  · rw [List.getElem?_eq_none (l := fl n _) (by rw [fl_len]; omega), if_neg (by omega), List.getElem?_eq_none (by rw [fl_len]; omega)]
theorem at_fl {n i : Nat} {f : Nat → V} (h : i < n) : atI (fl n f) (i : Int) = some (f i) := atI_nat (fl_get h)
theorem at_flL {n : Nat} {f : Nat → V} : atI (fl (n + 1) f) (-1) = some (f n) := by
  rw [← fl_snoc]
  exact atI_last _ _
theorem ixN_nat {n i : Nat} (h : i < n) : ixN n (i : Int) = some i := by
  unfold ixN
  rw [if_pos (by omega), if_pos (by omega)]
  rfl
theorem ixN_fl {n i : Nat} {f : Nat → V} (h : i < n) : ixN (fl n f).length (i : Int) = some i := by
  rw [fl_len]
  exact ixN_nat h
theorem fl_mk {α : Type} (d : α) (g : α → V) (xs : List α) : xs.map g = fl xs.length fun i => g (xs.getD i d) := by
  refine List.ext_getElem? fun i => ?_
  by_cases h : i < xs.length
  · rw [fl_get h, List.getElem?_map, List.getElem?_eq_getElem h, List.getD_eq_getElem?_getD, List.getElem?_eq_getElem h]
    rfl
  · rw [List.getElem?_eq_none (by rw [List.length_map]; omega), List.getElem?_eq_none (by rw [fl_len]; omega)]
def Outs (X : List Addr) (H H' : Hp) : Prop := ∀ c o, c ∉ X → H c = some o → H' c = some o
theorem Outs.refl (X : List Addr) (H : Hp) : Outs X H H := fun _ _ _ e => e
theorem Same.outs {X : List Addr} {H H' : Hp} (s : Same H H') : Outs X H H' := fun c o _ e => s c o e
theorem Outs.trans {X : List Addr} {H H' H'' : Hp} (a : Outs X H H') (b : Outs X H' H'') : Outs X H H'' := fun c o n e => b c o n (a c o n e)
theorem Outs.upd {X : List Addr} {H H' : Hp} {a : Addr} {o : HO} (s : Outs X H H') (h : a ∈ X) : Outs X H (upd H' a o) := fun c u n e => by
  rw [upd_ne (fun z : c = a => n (by rw [z]; exact h))]
  exact s c u n e
structure Tb where
  t : Addr
  dx : Addr
  hp : Addr
  sp : Addr
  rp : Addr
  bp : Addr
  n : Nat
  m : Nat
  ra : Nat → Addr
  hd : Nat → Nat
  sd : Nat → Nat
  T : Nat → Nat → Int
  d : Int
  B : Nat → Bool
def t1 (hp : Addr) : List (Str × V) := putF "heads" (.ref hp) []
def t2 (hp sp : Addr) : List (Str × V) := putF "sides" (.ref sp) (t1 hp)
def t3 (hp sp rp : Addr) : List (Str × V) := putF "rows" (.ref rp) (t2 hp sp)
def t4 (hp sp rp : Addr) (d : Int) : List (Str × V) := putF "divisor" (.int d) (t3 hp sp rp)
def t5 (hp sp rp : Addr) (d : Int) (bp : Addr) : List (Str × V) := putF "bound" (.ref bp) (t4 hp sp rp d)
theorem t_len (hp sp rp : Addr) (d : Int) (bp : Addr) : (t1 hp).length < 1000 ∧ (t2 hp sp).length < 1000 ∧ (t3 hp sp rp).length < 1000 ∧ (t4 hp sp rp d).length < 1000 ∧ (t5 hp sp rp d bp).length < 1000 := by
  have h1 := putF_len "heads" (.ref hp) []
  have h2 := putF_len "sides" (.ref sp) (t1 hp)
  have h3 := putF_len "rows" (.ref rp) (t2 hp sp)
  have h4 := putF_len "divisor" (.int d) (t3 hp sp rp)
  have h5 := putF_len "bound" (.ref bp) (t4 hp sp rp d)
  rw [List.length_nil] at h1
  rw [show putF "heads" (.ref hp) [] = t1 hp from rfl] at h1
  rw [show putF "sides" (.ref sp) (t1 hp) = t2 hp sp from rfl] at h2
  rw [show putF "rows" (.ref rp) (t2 hp sp) = t3 hp sp rp from rfl] at h3
  rw [show putF "divisor" (.int d) (t3 hp sp rp) = t4 hp sp rp d from rfl] at h4
  rw [show putF "bound" (.ref bp) (t4 hp sp rp d) = t5 hp sp rp d bp from rfl] at h5
  omega
theorem t5_list {hp sp rp bp : Addr} {d : Int} : t5 hp sp rp d bp = [(("heads" : Str), V.ref hp), (("sides" : Str), V.ref sp), (("rows" : Str), V.ref rp), (("divisor" : Str), V.int d), (("bound" : Str), V.ref bp)] := by
  have e1 : t1 hp = [(("heads" : Str), V.ref hp)] := rfl
  have e2 : t2 hp sp = [(("heads" : Str), V.ref hp), (("sides" : Str), V.ref sp)] := by rw [t2, e1, putF_cons, if_neg (by decide +kernel)]; rfl
  have e3 : t3 hp sp rp = [(("heads" : Str), V.ref hp), (("sides" : Str), V.ref sp), (("rows" : Str), V.ref rp)] := by rw [t3, e2, putF_cons, if_neg (by decide +kernel), putF_cons, if_neg (by decide +kernel)]; rfl
  have e4 : t4 hp sp rp d = [(("heads" : Str), V.ref hp), (("sides" : Str), V.ref sp), (("rows" : Str), V.ref rp), (("divisor" : Str), V.int d)] := by rw [t4, e3, putF_cons, if_neg (by decide +kernel), putF_cons, if_neg (by decide +kernel), putF_cons, if_neg (by decide +kernel)]; rfl
  rw [t5, e4, putF_cons, if_neg (by decide +kernel), putF_cons, if_neg (by decide +kernel), putF_cons, if_neg (by decide +kernel), putF_cons, if_neg (by decide +kernel)]
  rfl
theorem t3_rows (hp sp rp : Addr) : (t3 hp sp rp).lookup ("rows" : Str) = some (.ref rp) := by rw [t3, lookup_putF, if_pos rfl]
theorem t2_sides (hp sp : Addr) : (t2 hp sp).lookup ("sides" : Str) = some (.ref sp) := by rw [t2, lookup_putF, if_pos rfl]
theorem t5_heads {hp sp rp : Addr} {d : Int} {bp : Addr} : (t5 hp sp rp d bp).lookup ("heads" : Str) = some (.ref hp) := by
  rw [t5, lookup_putF, if_neg (by decide +kernel), t4, lookup_putF, if_neg (by decide +kernel), t3, lookup_putF, if_neg (by decide +kernel), t2, lookup_putF, if_neg (by decide +kernel), t1, lookup_putF, if_pos rfl]
theorem t5_sides {hp sp rp : Addr} {d : Int} {bp : Addr} : (t5 hp sp rp d bp).lookup ("sides" : Str) = some (.ref sp) := by
  rw [t5, lookup_putF, if_neg (by decide +kernel), t4, lookup_putF, if_neg (by decide +kernel), t3, lookup_putF, if_neg (by decide +kernel), t2_sides]
theorem t5_rows {hp sp rp : Addr} {d : Int} {bp : Addr} : (t5 hp sp rp d bp).lookup ("rows" : Str) = some (.ref rp) := by
  rw [t5, lookup_putF, if_neg (by decide +kernel), t4, lookup_putF, if_neg (by decide +kernel), t3_rows]
theorem t5_divisor {hp sp rp : Addr} {d : Int} {bp : Addr} : (t5 hp sp rp d bp).lookup ("divisor" : Str) = some (.int d) := by
  rw [t5, lookup_putF, if_neg (by decide +kernel), t4, lookup_putF, if_pos rfl]
theorem t5_bound {hp sp rp : Addr} {d : Int} {bp : Addr} : (t5 hp sp rp d bp).lookup ("bound" : Str) = some (.ref bp) := by rw [t5, lookup_putF, if_pos rfl]
theorem t5_no {hp sp rp bp : Addr} {d : Int} {x : Str} (h1 : ¬ x = ("heads" : Str)) (h2 : ¬ x = ("sides" : Str)) (h3 : ¬ x = ("rows" : Str)) (h4 : ¬ x = ("divisor" : Str)) (h5 : ¬ x = ("bound" : Str)) : (t5 hp sp rp d bp).lookup x = none := by
  rw [t5, lookup_putF, if_neg h5, t4, lookup_putF, if_neg h4, t3, lookup_putF, if_neg h3, t2, lookup_putF, if_neg h2, t1, lookup_putF, if_neg h1]
  rfl
theorem t5_putR {hp sp rp rp' bp : Addr} {d : Int} : putF "rows" (.ref rp') (t5 hp sp rp d bp) = t5 hp sp rp' d bp := by rw [t5_list, t5_list, putF_cons, if_neg (by decide +kernel), putF_cons, if_neg (by decide +kernel), putF_cons, if_pos rfl]
theorem t5_putD {hp sp rp bp : Addr} {d d' : Int} : putF "divisor" (.int d') (t5 hp sp rp d bp) = t5 hp sp rp d' bp := by
  rw [t5_list, t5_list, putF_cons, if_neg (by decide +kernel), putF_cons, if_neg (by decide +kernel), putF_cons, if_neg (by decide +kernel), putF_cons, if_pos rfl]
structure TabAt (C : Addr) (H : Hp) (x : Tb) : Prop where
  o : H x.t = some (.ins C x.dx (t5 x.hp x.sp x.rp x.d x.bp))
  h : H x.hp = some (.lst (fl x.n fun j => .int (x.hd j : Nat)))
  s : H x.sp = some (.lst (fl x.m fun i => .int (x.sd i : Nat)))
  r : H x.rp = some (.lst (fl (x.m + 1) fun i => .ref (x.ra i)))
  rr : ∀ i, i < x.m + 1 → H (x.ra i) = some (.lst (fl x.n fun j => .int (x.T i j)))
  b : H x.bp = some (.lst (fl (x.n + x.m) fun k => .bl (x.B k)))
  ns : x.hp ≠ x.sp
  nr : x.hp ≠ x.rp ∧ x.sp ≠ x.rp
  nb : x.hp ≠ x.bp ∧ x.sp ≠ x.bp
  nrr : ∀ i, i < x.m + 1 → x.hp ≠ x.ra i ∧ x.sp ≠ x.ra i
  n1 : x.n ≤ 100
  m1 : x.m ≤ 100
theorem TabAt.same {C : Addr} {H H' : Hp} {x : Tb} (s : Same H H') (h : TabAt C H x) : TabAt C H' x :=
  ⟨s _ _ h.o, s _ _ h.h, s _ _ h.s, s _ _ h.r, fun i hi => s _ _ (h.rr i hi), s _ _ h.b, h.ns, h.nr, h.nb, h.nrr, h.n1, h.m1⟩
def Tb.own (x : Tb) : List Addr := [x.t, x.hp, x.sp]
theorem tb_own (x : Tb) : x.t ∈ x.own ∧ x.hp ∈ x.own ∧ x.sp ∈ x.own := by
  unfold Tb.own
  simp
/-- numbers of a table are not too great -/
def SmallT (n m : Nat) (T : Nat → Nat → Int) (d : Int) : Prop := (∀ i j, i < m + 1 → j < n → (T i j).natAbs < 2 ^ 1000) ∧ 0 < d ∧ d.natAbs < 2 ^ 1000
/-- the table with r's side and s's head changed -/
def Tb.sw (x : Tb) (r s : Nat) (rp' : Addr) (ra' : Nat → Addr) : Tb :=
  { x with rp := rp', ra := ra', hd := chN x.hd s (x.sd r), sd := chN x.sd r (x.hd s), T := chT x.T x.d r s (sgn (x.T r s)), d := sgn (x.T r s) * x.T r s }
/-- the table in another state -/
def Tb.mv (x : Tb) (rp' : Addr) (ra' : Nat → Addr) (S : GM.St) : Tb := { x with rp := rp', ra := ra', hd := S.hd, sd := S.sd, T := S.T, d := S.d }
def Tb.st (x : Tb) (e : Int) : GM.St := ⟨x.hd, x.sd, x.T, x.d, e⟩
def spSwap (C : Addr) : Sp := fun vs H Q _ => ∃ (x : Tb) (r s : Nat), vs = [.ref x.t, .int (r : Nat), .int (s : Nat)] ∧ TabAt C H x ∧ r < x.m ∧ s < x.n ∧ x.T r s ≠ 0 ∧ SmallT x.n x.m x.T x.d ∧
  ∀ H' rp' ra', Outs x.own H H' → TabAt C H' (x.sw r s rp' ra') → Q .non H'
structure TabC (K : PySem.W.Frag) (C : Addr) : Prop where
  cl : Cls K C
  nH : NoAttr K C "heads"
  nS : NoAttr K C "sides"
  nR : NoAttr K C "rows"
  nD : NoAttr K C "divisor"
  nB : NoAttr K C "bound"
end GD
namespace GD
open PySem PySem.Spec PyProof.Rows L2 GM
structure Bas where
  fi : Int
  j : Nat
  be : Int
  en : Int
  lo : Bool
abbrev Chg := Int × Int × Bool
def chg (m : Str) : List Chg := if m = "plain" then [(-1, 0, false), (0, 1, false)] else if m = "clean" then [(-1, 1, false)] else if m = "spent" then [(-1, 0, false)] else [(1, 0, true), (0, 1, true)]
def mans4 : List Str := ["plain", "clean", "spent", "free"]
def ofC (k : Nat) (c : Chg) : Bas := ⟨0, k, c.1, c.2.1, c.2.2⟩
def basFrom (k : Nat) : List Str → List Bas
  | [] => []
  | m :: r => (chg m).map (ofC k) ++ basFrom (k + 1) r
def morn : Bas := ⟨1, 0, 0, 0, false⟩
def basics (ms : List Str) : List Bas := morn :: basFrom 0 ms
theorem chg_len (m : Str) : (chg m).length ≤ 2 := by
  unfold chg
  split
  · decide
  split
  · decide
  split
  · decide
  · decide
theorem chg_small {m : Str} {c : Chg} (h : c ∈ chg m) : -1 ≤ c.1 ∧ c.1 ≤ 1 ∧ -1 ≤ c.2.1 ∧ c.2.1 ≤ 1 := by
  unfold chg at h
  split at h
  · simp only [List.mem_cons, List.not_mem_nil, or_false] at h
    rcases h with rfl | rfl <;> decide
  split at h
  · simp only [List.mem_cons, List.not_mem_nil, or_false] at h
    rcases h with rfl
    decide
  split at h
  · simp only [List.mem_cons, List.not_mem_nil, or_false] at h
    rcases h with rfl
    decide
  · simp only [List.mem_cons, List.not_mem_nil, or_false] at h
    rcases h with rfl | rfl <;> decide
theorem basFrom_snoc (m : Str) : ∀ (ms : List Str) (k : Nat), basFrom k (ms ++ [m]) = basFrom k ms ++ (chg m).map (ofC (k + ms.length))
  | [], k => by
    show (chg m).map (ofC k) ++ [] = [] ++ (chg m).map (ofC (k + 0))
    rw [List.append_nil, Nat.add_zero]
    rfl
  | a :: ms, k => by
    show (chg a).map (ofC k) ++ basFrom (k + 1) (ms ++ [m]) = ((chg a).map (ofC k) ++ basFrom (k + 1) ms) ++ _
    rw [basFrom_snoc m ms (k + 1), List.append_assoc, List.length_cons, show k + 1 + ms.length = k + (ms.length + 1) by omega]
theorem basFrom_len : ∀ (ms : List Str) (k : Nat), (basFrom k ms).length ≤ 2 * ms.length
  | [], _ => Nat.le_refl _
  | a :: ms, k => by
    have := basFrom_len ms (k + 1)
    have := chg_len a
    show ((chg a).map (ofC k) ++ basFrom (k + 1) ms).length ≤ _
    rw [List.length_append, List.length_map, List.length_cons]
    omega
theorem basics_len (ms : List Str) : 1 ≤ (basics ms).length ∧ (basics ms).length ≤ 1 + 2 * ms.length := by
  have := basFrom_len ms 0
  unfold basics
  rw [List.length_cons]
  omega
theorem basFrom_mem {b : Bas} : ∀ {ms : List Str} {k : Nat}, b ∈ basFrom k ms → ∃ i m c, ms[i]? = some m ∧ c ∈ chg m ∧ b = ofC (k + i) c
  | [], _, h => by cases h
  | a :: ms, k, h => by
    rcases List.mem_append.mp (show b ∈ (chg a).map (ofC k) ++ basFrom (k + 1) ms from h) with h | h
    · obtain ⟨c, hc, rfl⟩ := List.mem_map.mp h
      exact ⟨0, a, c, rfl, hc, rfl⟩
    · obtain ⟨i, m, c, h1, h2, rfl⟩ := basFrom_mem h
      exact ⟨i + 1, m, c, h1, h2, by rw [show k + 1 + i = k + (i + 1) by omega]⟩
/-- what a basic stock is: its job is one of them (or none counts), its changes are small -/
structure BasOk (k : Nat) (b : Bas) : Prop where
  j : b.j < k ∨ (b.j = 0 ∧ b.be = 0 ∧ b.en = 0)
  f : 0 ≤ b.fi ∧ b.fi ≤ 1
  b1 : -1 ≤ b.be ∧ b.be ≤ 1
  e1 : -1 ≤ b.en ∧ b.en ≤ 1
theorem basics_ok {ms : List Str} {b : Bas} (h : b ∈ basics ms) : BasOk ms.length b := by
  rcases List.mem_cons.mp h with rfl | h
  · exact ⟨.inr ⟨rfl, rfl, rfl⟩, by decide, by decide, by decide⟩
  · obtain ⟨i, m, c, h1, h2, rfl⟩ := basFrom_mem h
    have hi := (List.getElem?_eq_some_iff.mp h1).1
    have sm := chg_small h2
    exact ⟨.inl (by show 0 + i < _; omega), by show (0 : Int) ≤ 0 ∧ (0 : Int) ≤ 1; decide, ⟨sm.1, sm.2.1⟩, sm.2.2⟩
/-- what a basic stock has where one, ps tell how often all goes into it -/
def lev (b : Bas) (one : Int) (ps : Stn) : Int := b.fi * one + b.be * (ps.getD b.j (0, 0)).1 + b.en * (ps.getD b.j (0, 0)).2
def defB : Bas := ⟨0, 0, 0, 0, false⟩
def levF (bs : List Bas) (one : Int) (ps : Stn) (i : Nat) : Int := lev (bs.getD i defB) one ps
/-- the list of basic stocks in memory -/
def BasAt (K : PySem.W.Frag) (H : Hp) (l : Addr) (bs : List Bas) : Prop := ∃ xs : List V, H l = some (.lst xs) ∧ xs.length = bs.length ∧
  ∀ (i : Nat) (v : V), xs[i]? = some v → ∃ q b, bs[i]? = some b ∧ v = V.ref q ∧ SqT K H q [.int b.fi, .int (b.j : Nat), .int b.be, .int b.en, .bl b.lo]
theorem BasAt.same {K : PySem.W.Frag} {H H' : Hp} {l : Addr} {bs : List Bas} (s : Same H H') (h : BasAt K H l bs) : BasAt K H' l bs := by
  obtain ⟨xs, e, hl, ha⟩ := h
  refine ⟨xs, s _ _ e, hl, fun i v hv => ?_⟩
  obtain ⟨q, b, e1, e2, e3⟩ := ha i v hv
  exact ⟨q, b, e1, e2, seqT_same s e3⟩
/-- what the module's tables hold -/
def Chgs (K : PySem.W.Frag) (w : World) (mg : Str → Option Value) : Prop := (∃ pM, mg "MORNING" = some (.ref pM) ∧ ∀ H, SqT K H pM [.int 1, .int 0, .int 0, .int 0, .bl false]) ∧
  ∃ pC, mg "CHANGES" = some (.ref pC) ∧ ∀ m ∈ mans4, ∃ (pt : Addr) (qs : List Addr), KDct K w pC m (.ref pt) ∧ (∀ H, SqT K H pt (qs.map V.ref)) ∧ qs.length = (chg m).length ∧
    ∀ (i : Nat) (q : Addr), qs[i]? = some q → ∃ c, (chg m)[i]? = some c ∧ ∀ H, SqT K H q [.int c.1, .int c.2.1, .bl c.2.2]
theorem seqT_lst {K : PySem.W.Frag} {H : Hp} {p a : Addr} {xs ys zs : List V} (ep : H p = some (.lst ys)) (h : SqT K H a xs) : SqT K (upd H p (.lst zs)) a xs := by
  rcases h with (h | ⟨o, h⟩) | h
  · exact .inl (.inl (by rw [upd_ne (ne_of h ep (fun z => by cases z))]; exact h))
  · exact .inl (.inr ⟨o, by rw [upd_ne (ne_of h ep (fun z => by cases z))]; exact h⟩)
  · exact .inr h
theorem chgs_of {K : PySem.W.Frag} {w : World} {mg : Str → Option Value} (O : ∀ {x : Str} {u : Value}, PySem.W.nsIn K mainGlobals x = some (some u) → mg x = some u)
    (h : ∃ (p q1 q2 q3 q4 r1 r2 r3 r4 r5 r6 : Addr), PySem.W.nsIn K mainGlobals "CHANGES" = some (some (.ref p)) ∧ KDct K w p "plain" (.ref q1) ∧ KDct K w p "clean" (.ref q2) ∧ KDct K w p "spent" (.ref q3) ∧ KDct K w p "free" (.ref q4) ∧
      (∀ H, SqT K H q1 [.ref r1, .ref r2]) ∧ (∀ H, SqT K H q2 [.ref r3]) ∧ (∀ H, SqT K H q3 [.ref r4]) ∧ (∀ H, SqT K H q4 [.ref r5, .ref r6]) ∧
      (∀ H, SqT K H r1 [.int (-1), .int 0, .bl false]) ∧ (∀ H, SqT K H r2 [.int 0, .int 1, .bl false]) ∧ (∀ H, SqT K H r3 [.int (-1), .int 1, .bl false]) ∧ (∀ H, SqT K H r4 [.int (-1), .int 0, .bl false]) ∧ (∀ H, SqT K H r5 [.int 1, .int 0, .bl true]) ∧ (∀ H, SqT K H r6 [.int 0, .int 1, .bl true])) :
    ∃ pC, mg "CHANGES" = some (.ref pC) ∧ ∀ m ∈ mans4, ∃ (pt : Addr) (qs : List Addr), KDct K w pC m (.ref pt) ∧ (∀ H, SqT K H pt (qs.map V.ref)) ∧ qs.length = (chg m).length ∧
      ∀ (i : Nat) (q : Addr), qs[i]? = some q → ∃ c, (chg m)[i]? = some c ∧ ∀ H, SqT K H q [.int c.1, .int c.2.1, .bl c.2.2] := by
  obtain ⟨p, q1, q2, q3, q4, r1, r2, r3, r4, r5, r6, e, k1, k2, k3, k4, a1, a2, a3, a4, b1, b2, b3, b4, b5, b6⟩ := h
  have c1 : chg "plain" = [(-1, 0, false), (0, 1, false)] := if_pos rfl
  have c2 : chg "clean" = [(-1, 1, false)] := by
    unfold chg
    rw [if_neg (by decide +kernel), if_pos rfl]
  have c3 : chg "spent" = [(-1, 0, false)] := by
    unfold chg
    rw [if_neg (by decide +kernel), if_neg (by decide +kernel), if_pos rfl]
  have c4 : chg "free" = [(1, 0, true), (0, 1, true)] := by
    unfold chg
    rw [if_neg (by decide +kernel), if_neg (by decide +kernel), if_neg (by decide +kernel)]
  refine ⟨p, O e, fun m hm => ?_⟩
  unfold mans4 at hm
  simp only [List.mem_cons, List.not_mem_nil, or_false] at hm
  rcases hm with rfl | rfl | rfl | rfl
  · rw [c1]
    refine ⟨q1, [r1, r2], k1, a1, rfl, fun i q hq => ?_⟩
    match i, hq with
    | 0, hq => exact ⟨_, rfl, by obtain rfl := Option.some.inj hq; exact b1⟩
    | 1, hq => exact ⟨_, rfl, by obtain rfl := Option.some.inj hq; exact b2⟩
    | i + 2, hq => cases hq
  · rw [c2]
    refine ⟨q2, [r3], k2, a2, rfl, fun i q hq => ?_⟩
    match i, hq with
    | 0, hq => exact ⟨_, rfl, by obtain rfl := Option.some.inj hq; exact b3⟩
    | i + 1, hq => cases hq
  · rw [c3]
    refine ⟨q3, [r4], k3, a3, rfl, fun i q hq => ?_⟩
    match i, hq with
    | 0, hq => exact ⟨_, rfl, by obtain rfl := Option.some.inj hq; exact b4⟩
    | i + 1, hq => cases hq
  · rw [c4]
    refine ⟨q4, [r5, r6], k4, a4, rfl, fun i q hq => ?_⟩
    match i, hq with
    | 0, hq => exact ⟨_, rfl, by obtain rfl := Option.some.inj hq; exact b5⟩
    | 1, hq => exact ⟨_, rfl, by obtain rfl := Option.some.inj hq; exact b6⟩
    | i + 2, hq => cases hq
def spBasic (K : PySem.W.Frag) : Sp := fun vs H Q _ => ∃ (m : Addr) (ms : List Str), vs = [.ref m] ∧ H m = some (.tup (ms.map V.str)) ∧ (∀ x ∈ ms, x ∈ mans4) ∧ ms.length ≤ 4 ∧
  ∀ p H', Same H H' → H p = none → BasAt K H' p (basics ms) → Q (.ref p) H'
end GD
namespace GD
open PySem PySem.Spec PyProof.Rows L2 GM
theorem wipe_get (σ : L2.St) (j : Nat) : ∀ vs : List Nat, (wipe σ vs)[j]? = if j ∈ vs then σ[j]?.map fun _ => none else σ[j]?
  | [] => by rw [if_neg (by simp)]; rfl
  | v :: vs => by
    show ((wipe σ vs).set v none)[j]? = _
    rw [List.getElem?_set, wipe_get σ j vs, wipe_length]
    by_cases c : v = j
    · subst c
      rw [if_pos rfl, if_pos List.mem_cons_self]
      by_cases h : v < σ.length
      · rw [if_pos h, List.getElem?_eq_getElem h]
        rfl
      · rw [if_neg h, List.getElem?_eq_none (by omega)]
        rfl
    · rw [if_neg c]
      by_cases h : j ∈ vs
      · rw [if_pos h, if_pos (List.mem_cons_of_mem _ h)]
      · rw [if_neg h, if_neg fun z => (List.mem_cons.mp z).elim (fun e => c e.symm) h]
theorem wipe_set {σ : L2.St} {i : Nat} {v : Option V} {vs : List Nat} (h : i ∈ vs) : wipe (σ.set i v) vs = wipe σ vs := by
  refine List.ext_getElem? fun j => ?_
  rw [wipe_get, wipe_get, List.getElem?_set]
  by_cases c : i = j
  · subst c
    rw [if_pos h, if_pos h, if_pos rfl]
    by_cases hl : i < σ.length
    · rw [if_pos hl, List.getElem?_eq_getElem hl]
      rfl
    · rw [if_neg hl, List.getElem?_eq_none (by omega)]
  · rw [if_neg c]
theorem wipe_wipe (σ : L2.St) (vs : List Nat) : wipe (wipe σ vs) vs = wipe σ vs := by
  refine List.ext_getElem? fun j => ?_
  rw [wipe_get, wipe_get]
  by_cases h : j ∈ vs
  · rw [if_pos h, if_pos h]
    cases σ[j]? <;> rfl
  · rw [if_neg h, if_neg h]
theorem wipe5 {σ : L2.St} {vs : List Nat} {a b c d e : Nat} {v1 v2 v3 v4 v5 : Option V} (h : (a ∈ vs ∧ b ∈ vs) ∧ c ∈ vs ∧ d ∈ vs ∧ e ∈ vs) : wipe ((((((wipe σ vs).set a v1).set b v2).set c v3).set d v4).set e v5) vs = wipe σ vs := by
  rw [wipe_set h.2.2.2, wipe_set h.2.2.1, wipe_set h.2.1, wipe_set h.1.2, wipe_set h.1.1, wipe_wipe]
end GD
namespace K73
open PySem PySem.Spec PyProof.Rows L2 GD GM
abbrev cTable : Stmt := top 68
abbrev pTabI : Stmt := inClass cTable 0
abbrev pGrow : Stmt := inClass cTable 1
abbrev pSettle : Stmt := inClass cTable 2
abbrev pEntering : Stmt := inClass cTable 3
abbrev pLeaving : Stmt := inClass cTable 4
abbrev pSwap : Stmt := inClass cTable 5
abbrev pAmounts : Stmt := inClass cTable 6
abbrev pCosts : Stmt := inClass cTable 7
section
variable {P : Program} {w : World} {K : PySem.W.Frag} {mg : Str → Option Value} {base : Heap}
abbrev NSw : List Str := ["self", "at", "to", "chosen", "sign", "divisor", "rows", "row", "factor", "changed", "item", "other"]
theorem scSw : FnScope NSw ["self", "at", "to"] (defScope pSwap) := ⟨rfl, rfl, rfl, by decide +kernel, rfl, by decide +kernel, by decide +kernel⟩
def tSgn (te : TE) : TE := fun σ H Q => te σ H fun v H1 => ∃ z, v = V.int z ∧ Q (.int (sgn z)) H1
theorem ok_swap {f C : Addr} {fd : FuncData} (F : Fun K "swap" "Table.swap" pSwap f fd) (TC : TabC K C) (nZ : mg "zip" = none) : FnOk P w K mg base CX0 1 f fd ["self", "at", "to"] (spSwap C) := by
  refine F.ok scSw (fun vs H Q E h => ?_) (fun cdv A outer s H vs Q E hr h => ?_)
  · obtain ⟨x, r, s, rfl, _⟩ := h
    rfl
  · obtain ⟨x, r, s, rfl, hx, hr1, hs1, nz, ⟨small, d0, dsm⟩, q⟩ := h
    refine ⟨_, pss_cons (ps_set (i := 3) scSw.nd rfl (.inl rfl) (pe_ix ix_list (pe_fld (pv 0) rfl) (pv 1) (fun _ _ => rfl)))
      (pss_cons (ps_set (i := 4) scSw.nd rfl (.inr rfl) (pe_imp (te' := tSgn (tOp (rIxL K) (tVar 3) (tVar 2))) (pe_ifExp (pt_cmpR op_gt (pe_ix ix_list (pv 3) (pv 2) (fun _ _ => rfl)) pe_int (nomark _)) pe_int (pe_un un_neg pe_int)) ?sgn))
      (pss_cons (ps_set (i := 5) scSw.nd rfl (.inr rfl) (pe_op op_mulW (pv 4) (pe_ix ix_list (pv 3) (pv 2) (fun _ _ => rfl))))
      (pss_cons (ps_set (i := 6) scSw.nd rfl (.inl rfl) (pe_lst pa_nil))
      (pss_cons (ps_for PassesOwn.never rfl (pi_list (pe_fld (pv 0) rfl)) (pg_name (i := 7) scSw.nd rfl (.inl rfl))
        (pss_cons (ps_set (i := 8) scSw.nd rfl (.inr rfl) (pe_op op_mulW (pv 4) (pe_ix ix_list (pv 7) (pv 2) (fun _ _ => rfl))))
        (pss_cons (ps_setLc (i := 9) (own := [("item", 10), ("other", 11)]) (g := gTup K 2 (gCons (gName 10) (gCons (gName 11) gNil))) (tt := tYes) rfl scSw.nd rfl rfl (sw_true rfl rfl rfl (by decide +kernel)) (pi_zip (by rfl) nZ (pa_cons (pv 7) (pa_cons (pv 3) pa_nil))) (blkOk_by (N := NSw) (sc := defScope pSwap) (by decide +kernel))
            (fun _ _ _ _ _ => pg_tup rfl (pgs_cons (pg_name (i := 10) scSw.nd rfl (.inl rfl)) (pgs_cons (pg_name (i := 11) scSw.nd rfl (.inl rfl)) pgs_nil))) (fun _ _ _ _ _ => pts_nil)
            (fun _ _ _ _ _ => pe_op op_fdivW (pe_op op_sub (pe_op op_mulW (pv 10) (pv 5)) (pe_op op_mulW (pv 8) (pv 11))) (tb := tFld K (tVar 0) "divisor") ?fld))
        (pss_cons (ps_asg (pv 8) (pg_sub (pv 9) (pv 2) set_list))
        (pss_one (ps_expr (pe_bm PySem.F.plainAttrs_list PySem.F.slot_list_append PySem.F.type_list_append mt_append (pv 6) (pa_cons (pv 9) pa_nil))))))))
      (pss_cons (ps_asg (pe_lc (own := [("item", 10)]) (g := gName 10) (tt := tYes) rfl scSw.nd (pi_list (pv 3)) (blkOk_by (N := NSw) (sc := defScope pSwap) (by decide +kernel))
          (fun _ _ _ _ _ => pg_name (i := 10) scSw.nd rfl (.inl rfl)) (fun _ _ _ _ _ => pts_nil) (fun _ _ _ _ _ => pe_op op_mulW (pe_un un_neg (pv 4)) (pv 10))) (pg_sub (pv 6) (pv 1) set_list))
      (pss_cons (ps_asg (pe_op op_mulW (pv 4) (pe_fld (pv 0) rfl)) (pg_sub (pe_ix ix_list (pv 6) (pv 1) (fun _ _ => rfl)) (pv 2) set_list))
      (pss_cons (ps_fld (pv 0) (pv 6) rfl)
      (pss_cons (ps_fld (pv 0) (pv 5) rfl)
      (pss_one (ps_asg (pe_tup (pa_cons (pe_ix ix_list (pe_fld (pv 0) rfl) (pv 1) (fun _ _ => rfl)) (pa_cons (pe_ix ix_list (pe_fld (pv 0) rfl) (pv 2) (fun _ _ => rfl)) pa_nil)))
        (pg_tup rfl (pgs_cons (pg_sub (pe_fld (pv 0) rfl) (pv 2) set_list) (pgs_cons (pg_sub (pe_fld (pv 0) rfl) (pv 1) set_list) pgs_nil))))))))))))), ?rd⟩
    case fld => exact pe_fld (pv 0) rfl
    case sgn =>
      rintro σ H Q ⟨v3, e3, v2, e2, p, xs, i, v, rfl, rfl, sq, ha, z, rfl, q⟩
      refine ⟨_, e3, _, e2, p, xs, i, _, rfl, rfl, sq, ha, _, _, rfl, rfl, _, rfl, ?_⟩
      unfold sgn at q
      by_cases c : 0 < z
      · rw [if_pos c] at q
        rw [decide_eq_true c]
        exact iteT q
      · rw [if_neg c] at q
        rw [decide_eq_false c]
        exact iteF ⟨_, rfl, q⟩
    obtain ⟨g1, g2⟩ := sgn_ok nz
    have gs := sgn_small (x.T r s)
    generalize esg : sgn (x.T r s) = sg at g1 g2 gs
    have sm1 : ∀ i j, i < x.m + 1 → j < x.n → (sg * x.T i j).natAbs < 2 ^ (1 + 1000) := fun i j hi hj => wide_lt gs (small i j hi hj)
    refine ⟨_, rfl, x.t, C, x.dx, _, _, rfl, hx.o, TC.cl, TC.nR, t5_rows, _, rfl, x.rp, _, (r : Nat), _, rfl, rfl, SqL.of hx.r, at_fl (by omega), ?_⟩
    have hR := hx.rr r (by omega)
    refine ⟨_, rfl, _, rfl, x.ra r, _, (s : Nat), _, rfl, rfl, SqL.of hR, at_fl hs1, _, rfl, ?_⟩
    rw [esg]
    refine ⟨_, rfl, _, rfl, _, rfl, x.ra r, _, (s : Nat), _, rfl, rfl, SqL.of hR, at_fl hs1, _, _, rfl, rfl, wide_mul gs (small r s (by omega) hs1) (by decide) (by decide) (by decide), ?_⟩
    refine ⟨(by show 0 ≤ sizeLine; decide), fun w nw => ?_⟩
    have sw := same_new (o := .lst []) nw
    have ew : (upd H w (.lst [])) w = some (.lst []) := upd_same
    generalize upd H w (.lst []) = H1 at sw ew ⊢
    refine ⟨_, rfl, x.t, C, x.dx, _, _, rfl, sw _ _ hx.o, TC.cl, TC.nR, t5_rows, x.rp, rfl, ⟨_, SqL.of (sw _ _ hx.r)⟩, ?_⟩
    refine for_it (walk_list (K := K) (a := x.rp) (xs := fl (x.m + 1) fun i => .ref (x.ra i))) (fun i σ H' => ∃ (x7 x8 x9 : Option V) (rb : Nat → Addr), σ = [some (.ref x.t), some (.int (r : Nat)), some (.int (s : Nat)), some (.ref (x.ra r)), some (.int sg), some (.int (sg * x.T r s)), some (.ref w), x7, x8, x9, none, none] ∧ Same H H' ∧
        H' w = some (.lst (fl i fun k => .ref (rb k))) ∧ ∀ k, k < i → H (rb k) = none ∧ rb k ≠ w ∧ H' (rb k) = some (.lst (fl x.n fun j => .int (if j = s then sg * x.T k s else (x.T k j * (sg * x.T r s) - sg * x.T k s * x.T r j) / x.d))))
      ⟨none, none, none, fun _ => w, rfl, sw, ew, fun k hk => absurd hk (Nat.not_lt_zero _)⟩ (fun i σ H' _ ⟨_, _, _, _, _, z, _⟩ => SqL.of (z _ _ hx.r)) ?_ ?_
    · rintro i v σ H' H'' hi ⟨x7, x8, x9, rb, rfl, z, ew', hb⟩ ⟨rfl, hv⟩
      obtain ⟨him, rfl⟩ := fl_inv hv
      have hRi := z _ _ (hx.rr i him)
      have hRr := z _ _ hR
      refine ⟨_, rfl, _, rfl, _, rfl, x.ra i, _, (s : Nat), _, rfl, rfl, SqL.of hRi, at_fl hs1, _, _, rfl, rfl, wide_mul gs (small i s him hs1) (by decide) (by decide) (by decide), ?_⟩
      refine ⟨_, rfl, _, rfl, x.ra i, x.ra r, _, _, rfl, SqL.of hRi, SqL.of hRr, fun D hD => ?_⟩
      refine lc_it (walk_zip (K := K) (a := x.ra i) (b := x.ra r) (xs := fl x.n fun j => .int (x.T i j)) (ys := fl x.n fun j => .int (x.T r j)) (n := x.n) (by rw [fl_len, fl_len]; exact (Nat.min_self _).symm))
        (fun k H2 => Same H'' H2 ∧ H2 D = some (.lst (fl k fun j => .int ((x.T i j * (sg * x.T r s) - sg * x.T i s * x.T r j) / x.d)))) ⟨same_new hD, upd_same⟩ (fun k H2 _ ⟨z2, _⟩ => ⟨SqL.of (z2 _ _ hRi), SqL.of (z2 _ _ hRr)⟩) ?_ ?_
      · rintro k v H2 H3 hk ⟨z2, eD⟩ ⟨T', u1, u2, rfl, hT, rfl, hu1, hu2⟩
        obtain ⟨_, rfl⟩ := fl_inv hu1
        obtain ⟨_, rfl⟩ := fl_inv hu2
        have sT := same_new (o := .tup [.int (x.T i k), .int (x.T r k)]) hT
        refine ⟨T', _, rfl, SqT.of upd_same, rfl, _, _, rfl, _, _, rfl, rfl, rfl, ?_⟩
        refine ⟨_, rfl, _, rfl, _, _, rfl, rfl, wide_mul (small i k him hk) (sm1 r s (by omega) hs1) (by decide) (by decide) (by decide), _, rfl, _, rfl, _, _, rfl, rfl, wide_mul (sm1 i s him hs1) (small r k (by omega) hk) (by decide) (by decide) (by decide), _, _, rfl, rfl,
          _, rfl, x.t, C, x.dx, _, _, rfl, (z.trans (z2.trans sT)) _ _ hx.o, TC.cl, TC.nD, t5_divisor, _, _, rfl, rfl, wide_div d0 dsm (by decide) (by decide), _, sT _ _ eD, ?_, same_upd (z2.trans sT) hD, ?_⟩
        · rw [fl_len]
          exact Nat.lt_of_lt_of_le (show k < 100 by have := hx.n1; omega) (by decide)
        · rw [upd_same]
          exact congrArg (fun l => some (HO.lst l)) (fl_snoc k _)
      · rintro H2 ⟨z2, eD⟩
        refine ⟨_, rfl, _, rfl, _, rfl, D, _, (s : Nat), s, rfl, rfl, eD, ixN_fl hs1, ?_⟩
        rw [fl_set hs1]
        have z3 := same_upd (o := .lst (fl x.n fun k => if k = s then V.int (sg * x.T i s) else V.int ((x.T i k * (sg * x.T r s) - sg * x.T i s * x.T r k) / x.d))) z2 hD
        have e3 : (upd H2 D (.lst (fl x.n fun k => if k = s then V.int (sg * x.T i s) else V.int ((x.T i k * (sg * x.T r s) - sg * x.T i s * x.T r k) / x.d)))) D = some (.lst (fl x.n fun j => .int (if j = s then sg * x.T i s else (x.T i j * (sg * x.T r s) - sg * x.T i s * x.T r j) / x.d))) := by
          rw [upd_same, fl_congr]
          intro j _
          by_cases c : j = s
          · rw [if_pos c, if_pos c]
          · rw [if_neg c, if_neg c]
        generalize upd H2 D (.lst (fl x.n fun k => if k = s then V.int (sg * x.T i s) else V.int ((x.T i k * (sg * x.T r s) - sg * x.T i s * x.T r k) / x.d))) = H3 at z3 e3 ⊢
        have ew3 := z3 _ _ ew'
        refine ⟨_, rfl, .inl ⟨rfl, _, .inl (.inl ew3)⟩, _, rfl, w, _, _, rfl, rfl, ew3, ?_, ?_⟩
        · rw [fl_len]
          exact Nat.lt_of_lt_of_le (show i < 101 by have := hx.m1; omega) (by decide)
        rw [fl_put]
        refine ⟨_, _, _, fun k => if k = i then D else rb k, rfl, same_upd (z.trans z3) nw, ?_, fun k hk => ?_⟩
        · rw [upd_same, fl_congr]
          intro j _
          dsimp only
          by_cases c : j = i
          · rw [if_pos c, if_pos c]
          · rw [if_neg c, if_neg c]
        · have nDw : D ≠ w := fun e => ne_of_none ew' hD e.symm
          dsimp only
          by_cases c : k = i
          · subst c
            rw [if_pos rfl]
            exact ⟨z.free hD, nDw, by rw [upd_ne nDw]; exact e3⟩
          · obtain ⟨b1, b2, b3⟩ := hb k (by omega)
            rw [if_neg c]
            exact ⟨b1, b2, by rw [upd_ne b2]; exact z3 _ _ b3⟩
    · rintro σ H' ⟨x7, x8, x9, rb, rfl, z, ew', hb⟩
      rw [fl_len] at ew' hb
      have hRr := z _ _ hR
      refine ⟨_, rfl, x.ra r, rfl, ⟨_, SqL.of hRr⟩, fun qr hq => ?_⟩
      refine lc_it (walk_list (K := K) (a := x.ra r) (xs := fl x.n fun j => .int (x.T r j))) (fun k H2 => Same H' H2 ∧ H2 qr = some (.lst (fl k fun j => .int (-sg * x.T r j)))) ⟨same_new hq, upd_same⟩ (fun k H2 _ ⟨z2, _⟩ => SqL.of (z2 _ _ hRr)) ?_ ?_
      · rintro k v H2 H3 hk ⟨z2, eD⟩ ⟨rfl, hv⟩
        obtain ⟨hkn, rfl⟩ := fl_inv hv
        refine ⟨rfl, _, rfl, _, rfl, _, rfl, _, _, rfl, rfl, wide_mul (a := 1) (by rw [Int.natAbs_neg]; exact gs) (small r k (by omega) hkn) (by decide) (by decide) (by decide), _, eD, ?_, same_upd z2 hq, ?_⟩
        · rw [fl_len]
          exact Nat.lt_of_lt_of_le (show k < 100 by have := hx.n1; omega) (by decide)
        · rw [upd_same]
          exact congrArg (fun l => some (HO.lst l)) (fl_snoc k _)
      rintro H2 ⟨z2, eq⟩
      rw [fl_len] at eq
      have ew2 := z2 _ _ ew'
      have nqw : qr ≠ w := fun e => ne_of_none ew' hq e.symm
      refine ⟨_, rfl, _, rfl, w, _, (r : Nat), r, rfl, rfl, ew2, ixN_fl (by omega), ?_⟩
      rw [fl_set (by omega)]
      have z3 : Same H (upd H2 w (.lst (fl (x.m + 1) fun k => if k = r then V.ref qr else V.ref (rb k)))) := same_upd (z.trans z2) nw
      have ew3 : (upd H2 w (.lst (fl (x.m + 1) fun k => if k = r then V.ref qr else V.ref (rb k)))) w = some (.lst (fl (x.m + 1) fun k => if k = r then V.ref qr else V.ref (rb k))) := upd_same
      have eq3 : (upd H2 w (.lst (fl (x.m + 1) fun k => if k = r then V.ref qr else V.ref (rb k)))) qr = some (.lst (fl x.n fun j => .int (-sg * x.T r j))) := by
        rw [upd_ne nqw]
        exact eq
      have hb3 : ∀ k, k < x.m + 1 → (upd H2 w (.lst (fl (x.m + 1) fun k => if k = r then V.ref qr else V.ref (rb k)))) (rb k) = some (.lst (fl x.n fun j => .int (if j = s then sg * x.T k s else (x.T k j * (sg * x.T r s) - sg * x.T k s * x.T r j) / x.d))) := fun k hk => by
        rw [upd_ne (hb k hk).2.1]
        exact z2 _ _ (hb k hk).2.2
      generalize upd H2 w (.lst (fl (x.m + 1) fun k => if k = r then V.ref qr else V.ref (rb k))) = H3 at z3 ew3 eq3 hb3 ⊢
      refine ⟨_, rfl, _, rfl, x.t, C, x.dx, _, _, rfl, z3 _ _ hx.o, TC.cl, TC.nD, t5_divisor, _, _, rfl, rfl, wide_mul gs dsm (by decide) (by decide) (by decide), ?_⟩
      refine ⟨_, rfl, _, rfl, w, _, (r : Nat), _, rfl, rfl, SqL.of ew3, at_fl (by omega), _, rfl, qr, _, (s : Nat), s, if_pos rfl, rfl, eq3, ixN_fl hs1, ?_⟩
      rw [fl_set hs1]
      have z4 : Same H (upd H3 qr (.lst (fl x.n fun k => if k = s then V.int (sg * x.d) else V.int (-sg * x.T r k)))) := same_upd z3 (z.free hq)
      have ew4 : (upd H3 qr (.lst (fl x.n fun k => if k = s then V.int (sg * x.d) else V.int (-sg * x.T r k)))) w = some (.lst (fl (x.m + 1) fun k => if k = r then V.ref qr else V.ref (rb k))) := by
        rw [upd_ne (fun e => nqw e.symm)]
        exact ew3
      have eq4 : (upd H3 qr (.lst (fl x.n fun k => if k = s then V.int (sg * x.d) else V.int (-sg * x.T r k)))) qr = some (.lst (fl x.n fun j => .int (if j = s then sg * x.d else -sg * x.T r j))) := by
        rw [upd_same, fl_congr]
        intro j _
        by_cases c : j = s
        · rw [if_pos c, if_pos c]
        · rw [if_neg c, if_neg c]
      have hb4 : ∀ k, k < x.m + 1 → (upd H3 qr (.lst (fl x.n fun k => if k = s then V.int (sg * x.d) else V.int (-sg * x.T r k)))) (rb k) = some (.lst (fl x.n fun j => .int (if j = s then sg * x.T k s else (x.T k j * (sg * x.T r s) - sg * x.T k s * x.T r j) / x.d))) := fun k hk => by
        rw [upd_ne (ne_of_none (hb k hk).2.2 hq)]
        exact hb3 k hk
      generalize upd H3 qr (.lst (fl x.n fun k => if k = s then V.int (sg * x.d) else V.int (-sg * x.T r k))) = H4 at z4 ew4 eq4 hb4 ⊢
      have nt : ∀ c o, H4 c = some (.lst o) → c ≠ x.t := fun c o e => ne_of e (z4 _ _ hx.o) (fun z => by cases z)
      refine ⟨_, rfl, _, rfl, x.t, C, x.dx, _, rfl, z4 _ _ hx.o, TC.cl, TC.nR, (t_len x.hp x.sp x.rp x.d x.bp).2.2.2.2, ?_⟩
      rw [t5_putR]
      refine ⟨_, rfl, _, rfl, x.t, C, x.dx, _, rfl, upd_same, TC.cl, TC.nD, (t_len x.hp x.sp w x.d x.bp).2.2.2.2, ?_⟩
      rw [t5_putD]
      have o6 : ∀ c o, H4 c = some (.lst o) → (upd (upd H4 x.t (.ins C x.dx (t5 x.hp x.sp w x.d x.bp))) x.t (.ins C x.dx (t5 x.hp x.sp w (sg * x.T r s) x.bp))) c = some (.lst o) := fun c o e => by
        rw [upd_ne (nt c o e), upd_ne (nt c o e)]
        exact e
      have e6 : (upd (upd H4 x.t (.ins C x.dx (t5 x.hp x.sp w x.d x.bp))) x.t (.ins C x.dx (t5 x.hp x.sp w (sg * x.T r s) x.bp))) x.t = some (.ins C x.dx (t5 x.hp x.sp w (sg * x.T r s) x.bp)) := upd_same
      have u6 : Outs x.own H (upd (upd H4 x.t (.ins C x.dx (t5 x.hp x.sp w x.d x.bp))) x.t (.ins C x.dx (t5 x.hp x.sp w (sg * x.T r s) x.bp))) := ((Same.outs z4).upd (tb_own x).1).upd (tb_own x).1
      generalize upd (upd H4 x.t (.ins C x.dx (t5 x.hp x.sp w x.d x.bp))) x.t (.ins C x.dx (t5 x.hp x.sp w (sg * x.T r s) x.bp)) = H6 at o6 e6 u6 ⊢
      have hh6 := o6 _ _ (z4 _ _ hx.h)
      have hs6 := o6 _ _ (z4 _ _ hx.s)
      refine ⟨_, rfl, x.t, C, x.dx, _, _, rfl, e6, TC.cl, TC.nS, t5_sides, _, rfl, x.sp, _, (r : Nat), _, rfl, rfl, SqL.of hs6, at_fl hr1,
        _, rfl, x.t, C, x.dx, _, _, rfl, e6, TC.cl, TC.nH, t5_heads, _, rfl, x.hp, _, (s : Nat), _, rfl, rfl, SqL.of hh6, at_fl hs1, (by show 2 ≤ sizeLine; decide), fun tt ntt => ?_⟩
      have s7 := same_new (o := .tup [V.int (x.sd r : Nat), V.int (x.hd s : Nat)]) ntt
      have e7 : (upd H6 tt (.tup [V.int (x.sd r : Nat), V.int (x.hd s : Nat)])) tt = some (.tup [V.int (x.sd r : Nat), V.int (x.hd s : Nat)]) := upd_same
      generalize upd H6 tt (.tup [V.int (x.sd r : Nat), V.int (x.hd s : Nat)]) = H7 at s7 e7 ⊢
      have t7 := s7 _ _ e6
      have hh7 := s7 _ _ hh6
      have hs7 := s7 _ _ hs6
      have nth : x.t ≠ x.hp := ne_of t7 hh7 (fun z => by cases z)
      have nts : x.t ≠ x.sp := ne_of t7 hs7 (fun z => by cases z)
      refine ⟨tt, _, rfl, SqT.of e7, rfl, _, _, rfl, _, rfl, x.t, C, x.dx, _, _, rfl, t7, TC.cl, TC.nH, t5_heads, _, rfl, x.hp, _, (s : Nat), s, rfl, rfl, hh7, ixN_fl hs1,
        _, _, rfl, _, rfl, x.t, C, x.dx, _, _, rfl, by rw [upd_ne nth]; exact t7, TC.cl, TC.nS, t5_sides, _, rfl, x.sp, _, (r : Nat), r, rfl, rfl, by rw [upd_ne hx.ns.symm]; exact hs7, ixN_fl hr1, rfl, ?_⟩
      rw [fl_set hs1, fl_set hr1]
      have k9 : ∀ c o, H7 c = some o → c ≠ x.hp → c ≠ x.sp → (upd (upd H7 x.hp (.lst (fl x.n fun k => if k = s then V.int (x.sd r : Nat) else V.int (x.hd k : Nat)))) x.sp (.lst (fl x.m fun k => if k = r then V.int (x.hd s : Nat) else V.int (x.sd k : Nat)))) c = some o := fun c o e n1 n2 => by
        rw [upd_ne n2, upd_ne n1]
        exact e
      have nw1 : x.hp ≠ w ∧ x.sp ≠ w := ⟨ne_of_none hx.h nw, ne_of_none hx.s nw⟩
      have nq1 : x.hp ≠ qr ∧ x.sp ≠ qr := ⟨ne_of_none (z _ _ hx.h) hq, ne_of_none (z _ _ hx.s) hq⟩
      refine q _ w (fun k => if k = r then qr else rb k) (((u6.trans (Same.outs s7)).upd (tb_own x).2.1).upd (tb_own x).2.2) ?_
      refine ⟨?_, ?_, ?_, ?_, fun i hi => ?_, ?_, hx.ns, nw1, hx.nb, fun i hi => ?_, hx.n1, hx.m1⟩
      · show _ = some (HO.ins C x.dx (t5 x.hp x.sp w (sgn (x.T r s) * x.T r s) x.bp))
        rw [esg]
        exact k9 _ _ t7 nth nts
      · show (upd (upd H7 x.hp _) x.sp _) x.hp = _
        rw [upd_ne hx.ns, upd_same]
        refine congrArg (fun l => some (HO.lst l)) (fl_congr fun j _ => ?_)
        show _ = V.int ((chN x.hd s (x.sd r) j : Nat) : Int)
        unfold chN
        by_cases c : j = s
        · rw [if_pos c, if_pos c]
        · rw [if_neg c, if_neg c]
      · show (upd (upd H7 x.hp _) x.sp _) x.sp = _
        rw [upd_same]
        refine congrArg (fun l => some (HO.lst l)) (fl_congr fun j _ => ?_)
        show _ = V.int ((chN x.sd r (x.hd s) j : Nat) : Int)
        unfold chN
        by_cases c : j = r
        · rw [if_pos c, if_pos c]
        · rw [if_neg c, if_neg c]
      · show (upd (upd H7 x.hp _) x.sp _) w = some (.lst (fl (x.m + 1) fun i => .ref (if i = r then qr else rb i)))
        rw [k9 _ _ (s7 _ _ (o6 _ _ ew4)) (Ne.symm nw1.1) (Ne.symm nw1.2), fl_congr]
        intro j _
        by_cases c : j = r
        · rw [if_pos c, if_pos c]
        · rw [if_neg c, if_neg c]
      · have hi' : i < x.m + 1 := hi
        show (upd (upd H7 x.hp _) x.sp _) (if i = r then qr else rb i) = some (.lst (fl x.n fun j => .int (chT x.T x.d r s (sgn (x.T r s)) i j)))
        rw [esg]
        by_cases c : i = r
        · subst c
          rw [if_pos rfl, k9 _ _ (s7 _ _ (o6 _ _ eq4)) (Ne.symm nq1.1) (Ne.symm nq1.2), fl_congr]
          intro j _
          unfold chT
          rw [if_pos rfl]
        · obtain ⟨b1, b2, b3⟩ := hb i hi'
          rw [if_neg c, k9 _ _ (s7 _ _ (o6 _ _ (hb4 i hi'))) (Ne.symm (ne_of_none hx.h b1)) (Ne.symm (ne_of_none hx.s b1)), fl_congr]
          intro j _
          unfold chT
          rw [if_neg c]
      · exact k9 _ _ (s7 _ _ (o6 _ _ (z4 _ _ hx.b))) (Ne.symm hx.nb.1) (Ne.symm hx.nb.2)
      · have hi' : i < x.m + 1 := hi
        show x.hp ≠ (if i = r then qr else rb i) ∧ x.sp ≠ (if i = r then qr else rb i)
        by_cases c : i = r
        · rw [if_pos c]
          exact nq1
        · obtain ⟨b1, _⟩ := hb i hi'
          rw [if_neg c]
          exact ⟨ne_of_none hx.h b1, ne_of_none hx.s b1⟩
end
end K73
namespace GD
open PySem PySem.Spec PyProof.Rows L2
open PySem.W (minD AlikeAll min_list_default reads_keeps)
abbrev pd (p : Int × Int) : PyData := .tuple [.int p.1, .int p.2]
theorem lt_pd (p q : Int × Int) (h : p.1 ≠ q.1) : PySem.W.dataLt (pd p) (pd q) = decide (p.1 < q.1) := by
  rw [PySem.W.dataLt_tuple, PySem.W.dataLt_all_no rfl, PySem.W.dataLt_int]
  rw [PyData.eqv]
  exact decide_eq_false h
theorem min_pd (p : Int × Int) : ∀ ps : List (Int × Int), ∃ q ∈ p :: ps, minD (pd p) (ps.map pd) = pd q ∧ ∀ r ∈ p :: ps, q.1 ≤ r.1 := by
  intro ps
  induction ps generalizing p with
  | nil => exact ⟨p, List.mem_cons_self, rfl, fun r hr => by rw [List.mem_singleton.mp hr]; exact Int.le_refl _⟩
  | cons y ys ih =>
    have e : minD (pd p) ((y :: ys).map pd) = minD (if PySem.W.dataLt (pd y) (pd p) then pd y else pd p) (ys.map pd) := rfl
    by_cases c : PySem.W.dataLt (pd y) (pd p) = true
    · rw [e, if_pos c]
      obtain ⟨q, hq, e2, hm⟩ := ih y
      refine ⟨q, List.mem_cons_of_mem _ hq, e2, fun r hr => ?_⟩
      rcases List.mem_cons.mp hr with rfl | hr
      · refine Int.le_trans (hm y List.mem_cons_self) ?_
        by_cases z : y.1 = r.1
        · omega
        · rw [lt_pd y r z] at c
          have := of_decide_eq_true c
          omega
      · exact hm r hr
    · rw [e, if_neg c]
      obtain ⟨q, hq, e2, hm⟩ := ih p
      refine ⟨q, ?_, e2, fun r hr => ?_⟩
      · rcases List.mem_cons.mp hq with rfl | hq
        · exact List.mem_cons_self
        · exact List.mem_cons_of_mem _ (List.mem_cons_of_mem _ hq)
      · rcases List.mem_cons.mp hr with rfl | hr
        · exact hm r List.mem_cons_self
        rcases List.mem_cons.mp hr with rfl | hr
        · refine Int.le_trans (hm p List.mem_cons_self) ?_
          by_cases z : r.1 = p.1
          · omega
          · rw [lt_pd r p z] at c
            have : ¬ r.1 < p.1 := fun w => c (decide_eq_true w)
            omega
        · exact hm r (List.mem_cons_of_mem _ hr)
/-- the pairs of a list -/
def PrsAt (K : PySem.W.Frag) (H : Hp) (xs : List V) (ps : List (Int × Int)) : Prop := xs.length = ps.length ∧ ∀ (i : Nat) (v : V), xs[i]? = some v → ∃ (q : Addr) (p : Int × Int), ps[i]? = some p ∧ v = V.ref q ∧ SqT K H q [.int p.1, .int p.2]
def rMinP (K : PySem.W.Frag) : List V → List V → Hp → VK → Prop := fun vs zs H Q => ∃ (l : Addr) (d : V) (xs : List V) (ps : List (Int × Int)), vs = [V.ref l] ∧ zs = [d] ∧ SqL K H l xs ∧ PrsAt K H xs ps ∧ (ps = [] → Q d H) ∧
  ∀ (q : Addr) (p : Int × Int), p ∈ ps → (∀ r ∈ ps, p.1 ≤ r.1) → SqT K H q [.int p.1, .int p.2] → Q (.ref q) H
theorem dp_prs {K : PySem.W.Frag} {H : Hp} : ∀ {xs : List V} {ps : List (Int × Int)}, PrsAt K H xs ps → DpAll K H xs (ps.map pd)
  | [], ps, h => by
    obtain rfl : ps = [] := List.eq_nil_of_length_eq_zero h.1.symm
    exact .nil
  | x :: xs, ps, h => by
    obtain ⟨q, p, e, rfl, sq⟩ := h.2 0 x rfl
    cases ps with
    | nil => cases e
    | cons p' ps =>
      obtain rfl := Option.some.inj e
      refine .cons (.tup sq (.cons (.int _) (.cons (.int _) .nil))) (dp_prs ⟨Nat.succ.inj h.1, fun i v hv => ?_⟩)
      exact h.2 (i + 1) v hv
theorem depth_pd : ∀ ps : List (Int × Int), PyData.depthAll (ps.map pd) ≤ 10
  | [] => by decide
  | p :: ps => by
    have ih := depth_pd ps
    rw [List.map_cons, PyData.depthAll]
    have e : (pd p).depth ≤ 10 := by
      rw [PyData.depth, PyData.depthAll, PyData.depthAll, PyData.depthAll, PyData.depth, PyData.depth]
      decide
    exact Nat.max_le.mpr ⟨e, ih⟩
theorem alike_pd (ps : List (Int × Int)) : AlikeAll (ps.map pd) := by
  refine ⟨fun x hx y hy => ?_, fun x hx z => ?_⟩
  · obtain ⟨p, _, rfl⟩ := List.mem_map.mp hx
    obtain ⟨q, _, rfl⟩ := List.mem_map.mp hy
    rfl
  · obtain ⟨p, _, rfl⟩ := List.mem_map.mp hx
    cases z
theorem cr_minP {X : Cx} (hc : X.calm = true) (hu : X.A.units + 64 < cLine) : CallRK X (.builtin "min") [Str.ofString "default"] (rMinP X.K) := by
  intro pins s σ H vs zs us ws Q I r rz h
  obtain ⟨l, d, xs, ps, rfl, rfl, hs, hp, q0, q1⟩ := h
  obtain rfl := Vals.ref1 r
  obtain ⟨w1, rfl, e1⟩ := vals1 rz
  obtain ⟨its, rv, hl, hz⟩ := I.list hs
  obtain ⟨as, ra⟩ := Dp.readsAll I _ _ its (dp_prs hp) rv
  have dl := depth_pd ps
  refine min_list_default (A := X.A) (s := s) (vs := its.toArray) (as := as) (I.ok.hd hc) hl.isList (by rw [List.toList_toArray]; exact ra) (alike_pd ps) (by omega) (fun e h' tk k => ?_) (fun y ys i v h' tk bs e hv rd k => ?_)
  · exact ⟨d, H, I.kept k, e1, q0 (List.map_eq_nil_iff.mp e)⟩
  · obtain ⟨p0, ps', rfl⟩ : ∃ p0 ps', ps = p0 :: ps' := by
      cases ps with
      | nil => cases e
      | cons a b => exact ⟨a, b, rfl⟩
    obtain ⟨rfl, rfl⟩ := List.cons.inj e
    obtain ⟨p, hpm, em, hle⟩ := min_pd p0 ps'
    rw [em] at rd
    have hv' : its[i]? = some v := by rw [← hv, List.getElem?_toArray]
    obtain ⟨xv, hx⟩ : ∃ xv, xs[i]? = some xv := by
      cases c : xs[i]? with
      | none =>
        rw [Vals.none_of rv c] at hv'
        cases hv'
      | some xv => exact ⟨xv, rfl⟩
    obtain ⟨u, hu2, rx⟩ := Vals.get rv hx
    obtain rfl : u = v := Option.some.inj (hu2.symm.trans hv')
    obtain ⟨qa, p2, e2, rfl, sq⟩ := hp.2 i xv hx
    cases rx
    obtain ⟨bs2, rd2⟩ := Dp.reads I (pd p2) (.ref qa) _ (.tup sq (.cons (.int _) (.cons (.int _) .nil))) rfl
    have eu := PySem.W.alike_unique (pd p2) (pd p) _ _ _ rfl (reads_keeps k rd2) rd
    have : p2 = p := by
      cases p2
      cases p
      simp only [pd, PyData.tuple.injEq, List.cons.injEq, PyData.int.injEq, and_true] at eu
      rw [eu.1, eu.2]
    subst this
    exact ⟨.ref qa, H, I.kept k, rfl, q1 qa p2 hpm hle sq⟩
end GD
namespace GD
open PySem PySem.Spec PyProof.Rows L2 GM
/-- pairs that a comprehension has made so far: (f j, j) of the j below k with c j -/
structure Fnd (H : Hp) (D : Addr) (f : Nat → Nat) (c : Nat → Bool) (k : Nat) (xs : List V) (ps : List (Int × Int)) : Prop where
  l : xs.length = ps.length
  e : ∀ (i : Nat) (v : V), xs[i]? = some v → ∃ (q : Addr) (p : Int × Int), ps[i]? = some p ∧ v = V.ref q ∧ q ≠ D ∧ H q = some (.tup [.int p.1, .int p.2])
  m : ∀ p ∈ ps, ∃ j, j < k ∧ p = ((f j : Int), (j : Int)) ∧ c j = true
  a : ∀ j, j < k → c j = true → ((f j : Int), (j : Int)) ∈ ps
  n : xs.length ≤ k
theorem Fnd.zero (H : Hp) (D : Addr) (f : Nat → Nat) (c : Nat → Bool) : Fnd H D f c 0 [] [] :=
  ⟨rfl, fun i v h => (by cases h), fun p h => (by cases h), fun j h => absurd h (Nat.not_lt_zero _), Nat.le_refl _⟩
theorem Fnd.skip {H H' : Hp} {D : Addr} {f : Nat → Nat} {c : Nat → Bool} {k : Nat} {xs : List V} {ps : List (Int × Int)} (h : Fnd H D f c k xs ps) (s : Same H H') (n : c k = false) : Fnd H' D f c (k + 1) xs ps := by
  refine ⟨h.l, fun i v hv => ?_, fun p hp => ?_, fun j hj cj => ?_, Nat.le_succ_of_le h.n⟩
  · obtain ⟨q, p, e1, e2, e3, e4⟩ := h.e i v hv
    exact ⟨q, p, e1, e2, e3, s _ _ e4⟩
  · obtain ⟨j, hj, e⟩ := h.m p hp
    exact ⟨j, by omega, e⟩
  · by_cases z : j = k
    · rw [z, n] at cj
      cases cj
    · exact h.a j (by omega) cj
theorem Fnd.next {H H' : Hp} {D q : Addr} {f : Nat → Nat} {c : Nat → Bool} {k : Nat} {xs : List V} {ps : List (Int × Int)} {o : HO} (h : Fnd H D f c k xs ps) (s : Same H H') (nq : q ≠ D) (eq : H' q = some (.tup [.int (f k), .int (k : Nat)])) (y : c k = true) :
    Fnd (upd H' D o) D f c (k + 1) (xs ++ [.ref q]) (ps ++ [((f k : Int), (k : Int))]) := by
  refine ⟨by rw [List.length_append, List.length_append, h.l]; rfl, fun i v hv => ?_, fun p hp => ?_, fun j hj cj => ?_, ?_⟩
  · by_cases z : i < xs.length
    · rw [List.getElem?_append_left z] at hv
      obtain ⟨q', p, e1, e2, e3, e4⟩ := h.e i v hv
      have z' : i < ps.length := by rw [← h.l]; exact z
      exact ⟨q', p, by rw [List.getElem?_append_left z']; exact e1, e2, e3, by rw [upd_ne e3]; exact s _ _ e4⟩
    · have hl := (List.getElem?_eq_some_iff.mp hv).1
      rw [List.length_append, List.length_singleton] at hl
      have ei : i = xs.length := by omega
      subst ei
      rw [List.getElem?_append_right (Nat.le_refl _), Nat.sub_self] at hv
      obtain rfl := Option.some.inj hv
      refine ⟨q, _, by rw [h.l, List.getElem?_append_right (Nat.le_refl _), Nat.sub_self]; rfl, rfl, nq, by rw [upd_ne nq]; exact eq⟩
  · rcases List.mem_append.mp hp with hp | hp
    · obtain ⟨j, hj, e⟩ := h.m p hp
      exact ⟨j, by omega, e⟩
    · rw [List.mem_singleton.mp hp]
      exact ⟨k, by omega, rfl, y⟩
  · by_cases z : j = k
    · rw [z]
      exact List.mem_append_right _ (List.mem_singleton.mpr rfl)
    · exact List.mem_append_left _ (h.a j (by omega) cj)
  · rw [List.length_append, List.length_singleton]
    have := h.n
    omega
theorem Fnd.prs {K : PySem.W.Frag} {H : Hp} {D : Addr} {f : Nat → Nat} {c : Nat → Bool} {k : Nat} {xs : List V} {ps : List (Int × Int)} (h : Fnd H D f c k xs ps) : PrsAt K H xs ps :=
  ⟨h.l, fun i v hv => by
    obtain ⟨q, p, e1, e2, _, e4⟩ := h.e i v hv
    exact ⟨q, p, e1, e2, SqT.of e4⟩⟩
theorem Fnd.same {H H' : Hp} {D : Addr} {f : Nat → Nat} {c : Nat → Bool} {k : Nat} {xs : List V} {ps : List (Int × Int)} (h : Fnd H D f c k xs ps) (s : Same H H') : Fnd H' D f c k xs ps :=
  ⟨h.l, fun i v hv => by
    obtain ⟨q, p, e1, e2, e3, e4⟩ := h.e i v hv
    exact ⟨q, p, e1, e2, e3, s _ _ e4⟩, h.m, h.a, h.n⟩
def spEntering (C : Addr) : Sp := fun vs H Q _ => ∃ (x : Tb), vs = [.ref x.t] ∧ TabAt C H x ∧ (∀ j, j < x.n → x.hd j < x.n + x.m) ∧
  ∀ v H', Same H H' → ((∃ to, Ent x.n x.m x.B x.hd x.T to ∧ v = .int (to : Nat)) ∨ (v = .non ∧ ∀ j, j < x.n → x.B (x.hd j) = true → x.T x.m j ≤ 0)) → Q v H'
def spLeaving (C : Addr) : Sp := fun vs H Q _ => ∃ (x : Tb) (s : Nat), vs = [.ref x.t, .int (s : Nat)] ∧ TabAt C H x ∧ s < x.n ∧ (∀ i, i < x.m → x.sd i < x.n + x.m) ∧
  ∀ v H', Same H H' → ((∃ r, Lev x.m x.B x.sd x.T r s ∧ v = .int (r : Nat)) ∨ (v = .non ∧ ∀ i, i < x.m → x.B (x.sd i) = true → 0 ≤ x.T i s)) → Q v H'
end GD
namespace K73
open PySem PySem.Spec PyProof.Rows L2 GD GM
section
variable {P : Program} {w : World} {K : PySem.W.Frag} {mg : Str → Option Value} {base : Heap}
abbrev NEn : List Str := ["self", "goal", "found", "to", "head"]
theorem scEn : FnScope NEn ["self"] (defScope pEntering) := ⟨rfl, rfl, rfl, by decide +kernel, rfl, by decide +kernel, by decide +kernel⟩
abbrev NLe : List Str := ["self", "to", "found", "at", "side"]
theorem scLe : FnScope NLe ["self", "to"] (defScope pLeaving) := ⟨rfl, rfl, rfl, by decide +kernel, rfl, by decide +kernel, by decide +kernel⟩
theorem ok_entering {f C : Addr} {fd : FuncData} (F : Fun K "entering" "Table.entering" pEntering f fd) (TC : TabC K C) (nE : mg "enumerate" = none) (nM : mg "min" = none) : FnOk P w K mg base CX0 1 f fd ["self"] (spEntering C) := by
  refine F.ok scEn (fun vs H Q E h => ?_) (fun cdv A outer s H vs Q E hr h => ?_)
  · obtain ⟨x, rfl, _⟩ := h
    rfl
  · obtain ⟨x, rfl, hx, hh, q⟩ := h
    refine ⟨_, pss_cons (ps_set (i := 1) scEn.nd rfl (.inr rfl) (pe_ix ix_list (pe_fld (pv 0) rfl) (pe_un un_neg pe_int) (fun _ _ => rfl)))
      (pss_cons (ps_setLc (i := 2) (own := [("to", 3), ("head", 4)]) (g := gTup K 2 (gCons (gName 3) (gCons (gName 4) gNil))) rfl scEn.nd rfl rfl (sw_true rfl rfl rfl (by decide +kernel)) (pi_enum (by rfl) nE (pa_cons (pe_fld (pv 0) rfl) pa_nil)) (blkOk_by (N := NEn) (sc := defScope pEntering) (by decide +kernel))
          (fun _ _ _ _ _ => pg_tup rfl (pgs_cons (pg_name (i := 3) scEn.nd rfl (.inl rfl)) (pgs_cons (pg_name (i := 4) scEn.nd rfl (.inl rfl)) pgs_nil)))
          (fun _ _ _ _ _ => pts_one (pw_and (pt_val (pe_ix (r := rIxL K) ix_list (ta := tFld K (tVar 0) "bound") ?fld (pv 4) (fun _ _ => rfl))) (pw_and1 (pt_cmpR op_gt (pe_ix (r := rIxL K) ix_list (pv 1) (pv 3) (fun _ _ => rfl)) pe_int (nomark _)))).pt)
          (fun _ _ _ _ _ => pe_tup (pa_cons (pv 4) (pa_cons (pv 3) pa_nil))))
      (pss_one (ps_ret (pe_ix ix_tup (pe_callBK (cr_minP rfl hr.units) (by rfl) nM (by decide +kernel) (pa_cons (pv 2) pa_nil) (pk_cons (pe_tup (pa_cons pe_non (pa_cons pe_non pa_nil))) pk_nil)) pe_int (fun _ _ => rfl))))), ?rd⟩
    case fld => exact pe_fld (pv 0) rfl
    refine ⟨_, rfl, x.t, C, x.dx, _, _, rfl, hx.o, TC.cl, TC.nR, t5_rows, _, rfl, x.rp, _, -1, _, rfl, rfl, SqL.of hx.r, at_flL, ?_⟩
    refine ⟨_, rfl, x.t, C, x.dx, _, _, rfl, hx.o, TC.cl, TC.nH, t5_heads, x.hp, _, rfl, SqL.of hx.h, fun D hD => ?_⟩
    refine lc_it (walk_enum (K := K) (a := x.hp) (xs := fl x.n fun j => .int (x.hd j : Nat))) (fun k H2 => Same H H2 ∧ ∃ xs ps, H2 D = some (.lst xs) ∧ Fnd H2 D x.hd (fun j => x.B (x.hd j) && decide (0 < x.T x.m j)) k xs ps)
      ⟨same_new hD, [], [], upd_same, Fnd.zero _ _ _ _⟩ (fun k H2 _ ⟨z, _⟩ => SqL.of (z _ _ hx.h)) ?_ ?_
    · rintro k v H2 H3 hk ⟨z, xs, ps, eD, fn⟩ ⟨T', u1, u2, rfl, hT, rfl, hu1, hu2⟩
      rw [fl_len] at hk
      obtain rfl := Option.some.inj hu1
      obtain ⟨_, rfl⟩ := fl_inv hu2
      have sT := same_new (o := .tup [.int (k : Nat), .int (x.hd k : Nat)]) hT
      have zT := z.trans sT
      refine ⟨T', _, rfl, SqT.of upd_same, rfl, _, _, rfl, _, _, rfl, rfl, rfl, ?_⟩
      refine ⟨_, rfl, x.t, C, x.dx, _, _, rfl, zT _ _ hx.o, TC.cl, TC.nB, t5_bound, _, rfl, x.bp, _, (x.hd k : Nat), _, rfl, rfl, SqL.of (zT _ _ hx.b), at_fl (hh k hk), x.B (x.hd k), rfl, ?_⟩
      cases hc : x.B (x.hd k) with
      | false =>
        refine iteF (iteF ?_)
        exact ⟨zT, xs, ps, sT _ _ eD, fn.skip sT (by rw [hc]; rfl)⟩
      | true =>
        refine iteT ⟨_, rfl, _, rfl, x.ra x.m, _, (k : Nat), _, rfl, rfl, SqL.of (zT _ _ (hx.rr x.m (by omega))), at_fl hk, _, _, rfl, rfl, _, rfl, ?_⟩
        by_cases c : 0 < x.T x.m k
        · rw [decide_eq_true c]
          refine iteT ⟨_, rfl, _, rfl, (by show 2 ≤ sizeLine; decide), fun q nq => ?_⟩
          have sq := same_new (o := .tup [.int (x.hd k : Nat), .int (k : Nat)]) nq
          refine ⟨xs, sq _ _ (sT _ _ eD), ?_, same_upd (zT.trans sq) hD, _, _, upd_same, fn.next (sT.trans sq) (fun e => ne_of_none (sT _ _ eD) nq e.symm) upd_same (by rw [hc, decide_eq_true c]; rfl)⟩
          exact Nat.lt_of_lt_of_le (show xs.length < 101 by have := hx.n1; have := fn.n; omega) (by decide)
        · rw [decide_eq_false c]
          refine iteF ?_
          exact ⟨zT, xs, ps, sT _ _ eD, fn.skip sT (by rw [decide_eq_false c, Bool.and_false])⟩
    · rintro H2 ⟨z, xs, ps, eD, fn⟩
      rw [fl_len] at fn
      refine ⟨_, rfl, (by show 2 ≤ sizeLine; decide), fun dt ndt => ?_⟩
      have s2 := same_new (o := .tup [.non, .non]) ndt
      refine ⟨D, .ref dt, xs, ps, rfl, rfl, SqL.of (s2 _ _ eD), (fn.same s2).prs, fun e => ?_, fun qa p hp hle sq => ?_⟩
      · refine ⟨dt, _, 1, _, rfl, rfl, SqT.of upd_same, at1, q _ _ (z.trans s2) (.inr ⟨rfl, fun j hj bj => ?_⟩)⟩
        refine Int.not_lt.mp fun c => ?_
        have w := fn.a j hj (by rw [bj, decide_eq_true c]; rfl)
        rw [e] at w
        cases w
      · refine ⟨qa, _, 1, _, rfl, rfl, sq, at1, q _ _ (z.trans s2) (.inl ?_)⟩
        obtain ⟨j, hj, rfl, cj⟩ := fn.m p hp
        rw [Bool.and_eq_true] at cj
        refine ⟨j, ⟨hj, cj.1, of_decide_eq_true cj.2, fun i hi bi pi => ?_⟩, rfl⟩
        have w := hle _ (fn.a i hi (by rw [bi, decide_eq_true pi]; rfl))
        exact Int.ofNat_le.mp w
theorem ok_leaving {f C : Addr} {fd : FuncData} (F : Fun K "leaving" "Table.leaving" pLeaving f fd) (TC : TabC K C) (nE : mg "enumerate" = none) (nM : mg "min" = none) : FnOk P w K mg base CX0 1 f fd ["self", "to"] (spLeaving C) := by
  refine F.ok scLe (fun vs H Q E h => ?_) (fun cdv A outer s H vs Q E hr h => ?_)
  · obtain ⟨x, s, rfl, _⟩ := h
    rfl
  · obtain ⟨x, s, rfl, hx, hs1, hh, q⟩ := h
    refine ⟨_, pss_cons (ps_setLc (i := 2) (own := [("at", 3), ("side", 4)]) (g := gTup K 2 (gCons (gName 3) (gCons (gName 4) gNil))) rfl scLe.nd rfl rfl (sw_true rfl rfl rfl (by decide +kernel)) (pi_enum (by rfl) nE (pa_cons (pe_fld (pv 0) rfl) pa_nil)) (blkOk_by (N := NLe) (sc := defScope pLeaving) (by decide +kernel))
          (fun _ _ _ _ _ => pg_tup rfl (pgs_cons (pg_name (i := 3) scLe.nd rfl (.inl rfl)) (pgs_cons (pg_name (i := 4) scLe.nd rfl (.inl rfl)) pgs_nil)))
          (fun _ _ _ _ _ => pts_one (pw_and (pt_val (pe_ix (r := rIxL K) ix_list (ta := tFld K (tVar 0) "bound") ?fld (pv 4) (fun _ _ => rfl))) (pw_and1 (pt_cmpR op_lt (pe_ix (r := rIxL K) ix_list (pe_ix (r := rIxL K) ix_list (ta := tFld K (tVar 0) "rows") ?fl2 (pv 3) (fun _ _ => rfl)) (pv 1) (fun _ _ => rfl)) pe_int (nomark _)))).pt)
          (fun _ _ _ _ _ => pe_tup (pa_cons (pv 4) (pa_cons (pv 3) pa_nil))))
      (pss_one (ps_ret (pe_ix ix_tup (pe_callBK (cr_minP rfl hr.units) (by rfl) nM (by decide +kernel) (pa_cons (pv 2) pa_nil) (pk_cons (pe_tup (pa_cons pe_non (pa_cons pe_non pa_nil))) pk_nil)) pe_int (fun _ _ => rfl)))), ?rd⟩
    case fld => exact pe_fld (pv 0) rfl
    case fl2 => exact pe_fld (pv 0) rfl
    refine ⟨_, rfl, x.t, C, x.dx, _, _, rfl, hx.o, TC.cl, TC.nS, t5_sides, x.sp, _, rfl, SqL.of hx.s, fun D hD => ?_⟩
    refine lc_it (walk_enum (K := K) (a := x.sp) (xs := fl x.m fun j => .int (x.sd j : Nat))) (fun k H2 => Same H H2 ∧ ∃ xs ps, H2 D = some (.lst xs) ∧ Fnd H2 D x.sd (fun j => x.B (x.sd j) && decide (x.T j s < 0)) k xs ps)
      ⟨same_new hD, [], [], upd_same, Fnd.zero _ _ _ _⟩ (fun k H2 _ ⟨z, _⟩ => SqL.of (z _ _ hx.s)) ?_ ?_
    · rintro k v H2 H3 hk ⟨z, xs, ps, eD, fn⟩ ⟨T', u1, u2, rfl, hT, rfl, hu1, hu2⟩
      rw [fl_len] at hk
      obtain rfl := Option.some.inj hu1
      obtain ⟨_, rfl⟩ := fl_inv hu2
      have sT := same_new (o := .tup [.int (k : Nat), .int (x.sd k : Nat)]) hT
      have zT := z.trans sT
      refine ⟨T', _, rfl, SqT.of upd_same, rfl, _, _, rfl, _, _, rfl, rfl, rfl, ?_⟩
      refine ⟨_, rfl, x.t, C, x.dx, _, _, rfl, zT _ _ hx.o, TC.cl, TC.nB, t5_bound, _, rfl, x.bp, _, (x.sd k : Nat), _, rfl, rfl, SqL.of (zT _ _ hx.b), at_fl (hh k hk), x.B (x.sd k), rfl, ?_⟩
      cases hc : x.B (x.sd k) with
      | false =>
        refine iteF (iteF ?_)
        exact ⟨zT, xs, ps, sT _ _ eD, fn.skip sT (by rw [hc]; rfl)⟩
      | true =>
        refine iteT ⟨_, rfl, x.t, C, x.dx, _, _, rfl, zT _ _ hx.o, TC.cl, TC.nR, t5_rows, _, rfl, x.rp, _, (k : Nat), _, rfl, rfl, SqL.of (zT _ _ hx.r), at_fl (by omega), _, rfl, x.ra k, _, (s : Nat), _, rfl, rfl, SqL.of (zT _ _ (hx.rr k (by omega))), at_fl hs1, _, _, rfl, rfl, _, rfl, ?_⟩
        by_cases c : x.T k s < 0
        · rw [decide_eq_true c]
          refine iteT ⟨_, rfl, _, rfl, (by show 2 ≤ sizeLine; decide), fun q nq => ?_⟩
          have sq := same_new (o := .tup [.int (x.sd k : Nat), .int (k : Nat)]) nq
          refine ⟨xs, sq _ _ (sT _ _ eD), ?_, same_upd (zT.trans sq) hD, _, _, upd_same, fn.next (sT.trans sq) (fun e => ne_of_none (sT _ _ eD) nq e.symm) upd_same (by rw [hc, decide_eq_true c]; rfl)⟩
          exact Nat.lt_of_lt_of_le (show xs.length < 101 by have := hx.m1; have := fn.n; omega) (by decide)
        · rw [decide_eq_false c]
          refine iteF ?_
          exact ⟨zT, xs, ps, sT _ _ eD, fn.skip sT (by rw [decide_eq_false c, Bool.and_false])⟩
    · rintro H2 ⟨z, xs, ps, eD, fn⟩
      rw [fl_len] at fn
      refine ⟨_, rfl, (by show 2 ≤ sizeLine; decide), fun dt ndt => ?_⟩
      have s2 := same_new (o := .tup [.non, .non]) ndt
      refine ⟨D, .ref dt, xs, ps, rfl, rfl, SqL.of (s2 _ _ eD), (fn.same s2).prs, fun e => ?_, fun qa p hp hle sq => ?_⟩
      · refine ⟨dt, _, 1, _, rfl, rfl, SqT.of upd_same, at1, q _ _ (z.trans s2) (.inr ⟨rfl, fun j hj bj => ?_⟩)⟩
        refine Int.not_lt.mp fun c => ?_
        have w := fn.a j hj (by rw [bj, decide_eq_true c]; rfl)
        rw [e] at w
        cases w
      · refine ⟨qa, _, 1, _, rfl, rfl, sq, at1, q _ _ (z.trans s2) (.inl ?_)⟩
        obtain ⟨j, hj, rfl, cj⟩ := fn.m p hp
        rw [Bool.and_eq_true] at cj
        refine ⟨j, ⟨hj, cj.1, of_decide_eq_true cj.2, fun i hi bi pi => ?_⟩, rfl⟩
        have w := hle _ (fn.a i hi (by rw [bi, decide_eq_true pi]; rfl))
        exact Int.ofNat_le.mp w
end
end K73
namespace GD
open PySem PySem.Spec PyProof.Rows L2 GM
/-- numbers that a comprehension has made so far: the j below k with c j -/
structure Fns (c : Nat → Bool) (k : Nat) (xs : List V) : Prop where
  m : ∀ v ∈ xs, ∃ j : Nat, j < k ∧ v = V.int (j : Nat) ∧ c j = true
  a : ∀ j, j < k → c j = true → xs ≠ []
  n : xs.length ≤ k
theorem Fns.zero (c : Nat → Bool) : Fns c 0 [] := ⟨fun v h => (by cases h), fun j h => absurd h (Nat.not_lt_zero _), Nat.le_refl _⟩
theorem Fns.skip {c : Nat → Bool} {k : Nat} {xs : List V} (h : Fns c k xs) (n : c k = false) : Fns c (k + 1) xs := by
  refine ⟨fun v hv => ?_, fun j hj cj => ?_, Nat.le_succ_of_le h.n⟩
  · obtain ⟨j, hj, e⟩ := h.m v hv
    exact ⟨j, by omega, e⟩
  · by_cases z : j = k
    · rw [z, n] at cj
      cases cj
    · exact h.a j (by omega) cj
theorem Fns.next {c : Nat → Bool} {k : Nat} {xs : List V} (h : Fns c k xs) (y : c k = true) : Fns c (k + 1) (xs ++ [.int (k : Nat)]) := by
  refine ⟨fun v hv => ?_, fun j hj cj z => ?_, ?_⟩
  · rcases List.mem_append.mp hv with hv | hv
    · obtain ⟨j, hj, e⟩ := h.m v hv
      exact ⟨j, by omega, e⟩
    · rw [List.mem_singleton.mp hv]
      exact ⟨k, by omega, rfl, y⟩
  · have := congrArg List.length z
    rw [List.length_append, List.length_singleton] at this
    cases this
  · rw [List.length_append, List.length_singleton]
    have := h.n
    omega
theorem Fns.none {c : Nat → Bool} {k : Nat} {xs : List V} (h : Fns c k xs) (e : ¬ 0 < xs.length) {j : Nat} (hj : j < k) : c j = false := by
  cases cj : c j with
  | false => rfl
  | true => exact absurd (List.eq_nil_of_length_eq_zero (by omega)) (h.a j hj cj)
theorem Fns.some {c : Nat → Bool} {k : Nat} {xs : List V} (h : Fns c k xs) (e : 0 < xs.length) : ∃ j : Nat, j < k ∧ c j = true ∧ atI xs 0 = some (V.int (j : Nat)) := by
  cases xs with
  | nil => exact absurd e (Nat.lt_irrefl 0)
  | cons v vs =>
    obtain ⟨j, hj, rfl, cj⟩ := h.m v List.mem_cons_self
    exact ⟨j, hj, cj, at0⟩
structure Fair (x : Tb) (M : Nat → Vec) : Prop where
  hd : x.hd = fun j => j
  sd : x.sd = fun i => x.n + i
  ok : ∃ e, (x.st e).Ok x.n x.m (x.n + x.m) M
  b : ∃ b, (∀ k c, c < x.n → (M k c).natAbs ≤ b) ∧ (x.n * b) ^ x.n < 2 ^ 1000
theorem Fair.small {x : Tb} {M : Nat → Vec} (h : Fair x M) {S : GM.St} (ok : S.Ok x.n x.m (x.n + x.m) M) : SmallT x.n x.m S.T S.d := by
  obtain ⟨b, h1, h2⟩ := h.b
  exact ok.small (Nat.le_refl _) h1 h2
theorem swap_mv {C : Addr} {H : Hp} {x : Tb} {M : Nat → Vec} {rp : Addr} {ra : Nat → Addr} {S : GM.St} {r s : Nat} {Q : VK} {E : XK} (h : TabAt C H (x.mv rp ra S)) (f : Fair x M) (ok : S.Ok x.n x.m (x.n + x.m) M) (hr : r < x.m) (hs : s < x.n) (nz : S.T r s ≠ 0)
    (q : ∀ H' rp' ra', Outs x.own H H' → TabAt C H' (x.mv rp' ra' (S.sw r s)) → Q .non H') : spSwap C [.ref x.t, .int (r : Nat), .int (s : Nat)] H Q E :=
  ⟨x.mv rp ra S, r, s, rfl, h, hr, hs, nz, f.small ok, fun H' rp' ra' o t => q H' rp' ra' o t⟩
def spSettle (C : Addr) : Sp := fun vs H Q _ => ∃ (x : Tb) (M : Nat → Vec), vs = [.ref x.t] ∧ TabAt C H x ∧ Fair x M ∧
  ∀ H' rp ra S, Outs x.own H H' → TabAt C H' (x.mv rp ra S) → S.Ok x.n x.m (x.n + x.m) M → Set2 x.n x.m x.B S.hd S.sd S.T → Q .non H'
end GD
namespace K73
open PySem PySem.Spec PyProof.Rows L2 GD GM
section
variable {P : Program} {w : World} {K : PySem.W.Frag} {mg : Str → Option Value} {base : Heap}
abbrev NSet : List Str := ["self", "many", "to", "at", "found", "side", "head"]
theorem scSet : FnScope NSet ["self"] (defScope pSettle) := ⟨rfl, rfl, rfl, by decide +kernel, rfl, by decide +kernel, by decide +kernel⟩
theorem ok_settle {f C fS : Addr} {fd fdS : FuncData} (F : Fun K "settle" "Table.settle" pSettle f fd) (TC : TabC K C) (nE : mg "enumerate" = none) (nR : mg "range" = none) (nL : mg "len" = none)
    (mS : Meth K C "swap" fS) (bS : Binds K fdS ["self", "at", "to"] []) (GS : FnOk P w K mg base CX0 1 fS fdS ["self", "at", "to"] (spSwap C)) : FnOk P w K mg base CX0 2 f fd ["self"] (spSettle C) := by
  refine F.ok scSet (fun vs H Q E h => ?_) (fun cdv A outer s H vs Q E hr h => ?_)
  · obtain ⟨x, M, rfl, _⟩ := h
    rfl
  · obtain ⟨x, M, rfl, hx, fair, q⟩ := h
    refine ⟨_, pss_cons (ps_set (i := 1) scSet.nd rfl (.inr rfl) (pe_callB call_len_seq (by rfl) nL PySem.boot_len (pa_cons (pe_fld (pv 0) rfl) pa_nil)))
      (pss_cons (ps_for PassesOwn.never rfl (pi_range1 (by rfl) nR (pa_cons (pv 1) pa_nil)) (pg_name (i := 2) scSet.nd rfl (.inr rfl))
        (pss_one (ps_if (pt_not (pt_val (pe_ix ix_list (pe_fld (pv 0) rfl) (pv 2) (fun _ _ => rfl))))
          (pss_cons (ps_setLc (i := 4) (own := [("at", 3), ("side", 5)]) (g := gTup K 2 (gCons (gName 3) (gCons (gName 5) gNil))) rfl scSet.nd rfl rfl (sw_true rfl rfl rfl (by decide +kernel)) (pi_enum (by rfl) nE (pa_cons (pe_fld (pv 0) rfl) pa_nil)) (blkOk_by (N := NSet) (sc := defScope pSettle) (by decide +kernel))
              (fun _ _ _ _ _ => pg_tup rfl (pgs_cons (pg_name (i := 3) scSet.nd rfl (.inl rfl)) (pgs_cons (pg_name (i := 5) scSet.nd rfl (.inl rfl)) pgs_nil)))
              (fun _ _ _ _ _ => pts_one (pw_and (pt_cmpR op_ge (pv 5) (pv 1) (nomark _)) (pw_and1 (pt_cmpR op_ne (pe_ix (r := rIxL K) ix_list (pe_ix (r := rIxL K) ix_list (ta := tFld K (tVar 0) "rows") ?f1 (pv 3) (fun _ _ => rfl)) (pv 2) (fun _ _ => rfl)) pe_int (nomark _)))).pt)
              (fun _ _ _ _ _ => pv 3))
          (pss_one (ps_if (pt_cmpR op_gt (pe_callB call_len_seq (by rfl) nL PySem.boot_len (pa_cons (pv 4) pa_nil)) pe_int (nomark _))
            (pss_one (ps_expr (pe_meth (pv 0) TC.cl mS GS hr bS .nil pass0 (pa_cons (pe_ix ix_list (pv 4) pe_int (fun _ _ => rfl)) (pa_cons (pv 2) pa_nil))))) pss_nil))) pss_nil)))
      (pss_one (ps_for PassesOwn.never rfl (pi_range1 (by rfl) nR (pa_cons (pe_callB call_len_seq (by rfl) nL PySem.boot_len (pa_cons (pe_fld (pv 0) rfl) pa_nil)) pa_nil)) (pg_name (i := 3) scSet.nd rfl (.inr rfl))
        (pss_one (ps_if (pw_and (pt_cmpR op_ge (pe_ix ix_list (pe_fld (pv 0) rfl) (pv 3) (fun _ _ => rfl)) (pv 1) (nomark _)) (pw_and1 (pt_not (pt_val (pe_ix ix_list (pe_fld (pv 0) rfl) (pe_ix ix_list (pe_fld (pv 0) rfl) (pv 3) (fun _ _ => rfl)) (fun _ _ => rfl)))))).pt
          (pss_cons (ps_setLc (i := 4) (own := [("to", 2), ("head", 6)]) (g := gTup K 2 (gCons (gName 2) (gCons (gName 6) gNil))) rfl scSet.nd rfl rfl (sw_true rfl rfl rfl (by decide +kernel)) (pi_enum (by rfl) nE (pa_cons (pe_fld (pv 0) rfl) pa_nil)) (blkOk_by (N := NSet) (sc := defScope pSettle) (by decide +kernel))
              (fun _ _ _ _ _ => pg_tup rfl (pgs_cons (pg_name (i := 2) scSet.nd rfl (.inl rfl)) (pgs_cons (pg_name (i := 6) scSet.nd rfl (.inl rfl)) pgs_nil)))
              (fun _ _ _ _ _ => pts_one (pw_and (pt_val (pe_ix (r := rIxL K) ix_list (ta := tFld K (tVar 0) "bound") ?f2 (pv 6) (fun _ _ => rfl))) (pw_and1 (pt_cmpR op_ne (pe_ix (r := rIxL K) ix_list (pe_ix (r := rIxL K) ix_list (ta := tFld K (tVar 0) "rows") ?f3 (pv 3) (fun _ _ => rfl)) (pv 2) (fun _ _ => rfl)) pe_int (nomark _)))).pt)
              (fun _ _ _ _ _ => pv 2))
          (pss_one (ps_if (pt_cmpR op_gt (pe_callB call_len_seq (by rfl) nL PySem.boot_len (pa_cons (pv 4) pa_nil)) pe_int (nomark _))
            (pss_one (ps_expr (pe_meth (pv 0) TC.cl mS GS hr bS .nil pass0 (pa_cons (pv 3) (pa_cons (pe_ix ix_list (pv 4) pe_int (fun _ _ => rfl)) pa_nil))))) pss_nil))) pss_nil))))), ?rd⟩
    case f1 => exact pe_fld (pv 0) rfl
    case f2 => exact pe_fld (pv 0) rfl
    case f3 => exact pe_fld (pv 0) rfl
    refine ⟨_, rfl, x.t, C, x.dx, _, _, rfl, hx.o, TC.cl, TC.nH, t5_heads, x.hp, _, rfl, .inl (SqL.of hx.h), ?_⟩
    rw [fl_len]
    have hN1 := hx.n1
    have hM1 := hx.m1
    obtain ⟨e0, ok0⟩ := fair.ok
    refine ⟨_, rfl, (x.n : Nat), rfl, by omega, by omega, ?_⟩
    refine for_it (walk_range (lo := 0) (n := x.n)) (fun k σ H' => ∃ (x2 x4 : Option V) (rp : Addr) (ra : Nat → Addr) (S : GM.St), σ = [some (.ref x.t), some (.int (x.n : Nat)), x2, none, x4, none, none] ∧ Outs x.own H H' ∧ TabAt C H' (x.mv rp ra S) ∧ S.Ok x.n x.m (x.n + x.m) M ∧ Col x.n x.m x.B S.hd S.sd S.T k)
      ⟨none, none, x.rp, x.ra, x.st e0, rfl, Outs.refl _ _, hx, ok0, by
        show Col x.n x.m x.B x.hd x.sd x.T 0
        rw [fair.hd, fair.sd]
        exact Col.first _⟩ (fun _ _ _ _ _ => True.intro) ?_ ?_
    · rintro k v σ H' H'' hk ⟨x2, x4, rp, ra, S, rfl, o, tb, ok, col⟩ ⟨rfl, rfl⟩
      show gName 2 (V.int (0 + (k : Int))) _ _ _
      rw [Int.zero_add]
      have hkm : k < x.n + x.m := by omega
      refine ⟨_, rfl, x.t, C, x.dx, _, _, rfl, tb.o, TC.cl, TC.nB, t5_bound, _, rfl, x.bp, _, (k : Nat), _, rfl, rfl, SqL.of tb.b, at_fl hkm, x.B k, rfl, ?_⟩
      cases hb : x.B k with
      | true =>
        refine iteF ?_
        exact ⟨_, x4, rp, ra, S, rfl, o, tb, ok, col.bound hb hk⟩
      | false =>
        refine iteT ?_
        refine ⟨_, rfl, x.t, C, x.dx, _, _, rfl, tb.o, TC.cl, TC.nS, t5_sides, x.sp, _, rfl, SqL.of tb.s, fun D hD => ?_⟩
        refine lc_it (walk_enum (K := K) (a := x.sp) (xs := fl x.m fun i => .int (S.sd i : Nat))) (fun j H2 => Same H'' H2 ∧ ∃ xs, H2 D = some (.lst xs) ∧ Fns (fun i => decide (x.n ≤ S.sd i) && !decide (S.T i k = 0)) j xs) ⟨same_new hD, [], upd_same, Fns.zero _⟩ (fun j H2 _ ⟨z, _⟩ => SqL.of (z _ _ tb.s)) ?_ ?_
        · rintro j v H2 H3 hj ⟨z, xs, eD, fn⟩ ⟨T', u1, u2, rfl, hT, rfl, hu1, hu2⟩
          rw [fl_len] at hj
          obtain rfl := Option.some.inj hu1
          obtain ⟨_, rfl⟩ := fl_inv hu2
          have sT := same_new (o := .tup [.int (j : Nat), .int (S.sd j : Nat)]) hT
          have zT := z.trans sT
          refine ⟨T', _, rfl, SqT.of upd_same, rfl, _, _, rfl, _, _, rfl, rfl, rfl, ?_⟩
          refine ⟨_, rfl, _, rfl, _, _, rfl, rfl, _, rfl, ?_⟩
          by_cases c1 : (x.n : Int) ≤ (S.sd j : Int)
          · rw [decide_eq_true c1]
            refine iteT ⟨_, rfl, x.t, C, x.dx, _, _, rfl, zT _ _ tb.o, TC.cl, TC.nR, t5_rows, _, rfl, rp, _, (j : Nat), _, rfl, rfl, SqL.of (zT _ _ tb.r), at_fl (Nat.lt_succ_of_lt hj), _, rfl, ra j, _, (k : Nat), _, rfl, rfl, SqL.of (zT _ _ (tb.rr j (Nat.lt_succ_of_lt hj))), at_fl hk, rfl, _, rfl, ?_⟩
            by_cases c2 : S.T j k = 0
            · rw [show (!decide (V.int ((x.mv rp ra S).T j k) = V.int 0)) = false by rw [show decide (V.int ((x.mv rp ra S).T j k) = V.int 0) = true from decide_eq_true (congrArg V.int c2)]; rfl]
              exact iteF ⟨zT, xs, sT _ _ eD, fn.skip (by rw [decide_eq_true c2]; exact Bool.and_false _)⟩
            · rw [show (!decide (V.int ((x.mv rp ra S).T j k) = V.int 0)) = true by rw [show decide (V.int ((x.mv rp ra S).T j k) = V.int 0) = false from decide_eq_false (fun e => c2 (V.int.inj e))]; rfl]
              refine iteT ⟨_, rfl, xs, sT _ _ eD, ?_, same_upd zT hD, _, upd_same, fn.next (by rw [decide_eq_true (show x.n ≤ S.sd j by omega), decide_eq_false c2]; rfl)⟩
              exact Nat.lt_of_lt_of_le (show xs.length < 101 by have := fn.n; omega) (by decide)
          · rw [decide_eq_false c1]
            exact iteF (iteF ⟨zT, xs, sT _ _ eD, fn.skip (by rw [decide_eq_false (show ¬ x.n ≤ S.sd j by omega)]; rfl)⟩)
        · rintro H2 ⟨z, xs, eD, fn⟩
          rw [fl_len] at fn
          refine ⟨_, rfl, D, _, rfl, .inl (SqL.of eD), _, _, rfl, rfl, _, rfl, ?_⟩
          have tb2 : TabAt C H2 (x.mv rp ra S) := tb.same z
          by_cases c : (0 : Int) < (xs.length : Int)
          · rw [decide_eq_true c]
            obtain ⟨r, hr1, cr, at_⟩ := fn.some (by omega)
            rw [Bool.and_eq_true] at cr
            have cr1 := of_decide_eq_true cr.1
            have nz : S.T r k ≠ 0 := fun e => by
              have w := cr.2
              rw [decide_eq_true e] at w
              cases w
            refine iteT ⟨_, rfl, x.t, x.dx, _, rfl, tb2.o, t5_no (by decide +kernel) (by decide +kernel) (by decide +kernel) (by decide +kernel) (by decide +kernel), _, rfl, D, _, 0, _, rfl, rfl, SqL.of eD, at_, _, rfl, ?_⟩
            dsimp only [tNil]
            refine swap_mv tb2 fair ok hr1 hk nz fun H3 rp' ra' o3 t3 => ⟨_, _, rp', ra', S.sw r k, rfl, (o.trans (Same.outs z)).trans o3, t3, ok.sw hr1 hk nz, col.swap hr1 hk cr1 hb⟩
          · rw [decide_eq_false c]
            refine iteF ⟨_, _, rp, ra, S, rfl, o.trans (Same.outs z), tb2, ok, col.none fun i hi hn => ?_⟩
            have w := fn.none (by omega) hi
            rw [decide_eq_true hn, Bool.true_and] at w
            exact Decidable.byContradiction fun e => by
              rw [decide_eq_false e] at w
              cases w
    · rintro σ H' ⟨x2, x4, rp, ra, S, rfl, o, tb, ok, col⟩
      refine ⟨_, rfl, x.t, C, x.dx, _, _, rfl, tb.o, TC.cl, TC.nS, t5_sides, x.sp, _, rfl, .inl (SqL.of tb.s), ?_⟩
      rw [fl_len]
      refine ⟨(x.m : Nat), rfl, by omega, by omega, ?_⟩
      refine for_it (walk_range (lo := 0) (n := x.m)) (fun k σ H' => ∃ (x2 x3 x4 : Option V) (rp : Addr) (ra : Nat → Addr) (S : GM.St), σ = [some (.ref x.t), some (.int (x.n : Nat)), x2, x3, x4, none, none] ∧ Outs x.own H H' ∧ TabAt C H' (x.mv rp ra S) ∧ S.Ok x.n x.m (x.n + x.m) M ∧ Row x.n x.m x.B S.hd S.sd S.T k)
        ⟨x2, none, x4, rp, ra, S, rfl, o, tb, ok, col.rows⟩ (fun _ _ _ _ _ => True.intro) ?_ ?_
      · clear tb ok col o
        rintro k v σ H1 H2 hk ⟨x2, x3, x4, rp, ra, S, rfl, o, tb, ok, row⟩ ⟨rfl, rfl⟩
        show gName 3 (V.int (0 + (k : Int))) _ _ _
        rw [Int.zero_add]
        have hsk : S.sd k < x.n + x.m := ok.W.k k hk
        refine ⟨_, rfl, x.t, C, x.dx, _, _, rfl, tb.o, TC.cl, TC.nS, t5_sides, _, rfl, x.sp, _, (k : Nat), _, rfl, rfl, SqL.of tb.s, at_fl hk, _, rfl, _, _, rfl, rfl, _, rfl, ?_⟩
        by_cases c1 : (x.n : Int) ≤ (S.sd k : Int)
        rotate_left
        · rw [show decide ((x.n : Int) ≤ (((x.mv rp ra S).sd k : Nat) : Int)) = false from decide_eq_false c1]
          exact iteF (iteF ⟨x2, _, x4, rp, ra, S, rfl, o, tb, ok, row.other fun nu => c1 (by have := nu.1; omega)⟩)
        rw [show decide ((x.n : Int) ≤ (((x.mv rp ra S).sd k : Nat) : Int)) = true from decide_eq_true c1]
        refine iteT ⟨_, rfl, x.t, C, x.dx, _, _, rfl, tb.o, TC.cl, TC.nB, t5_bound, _, rfl, x.t, C, x.dx, _, _, rfl, tb.o, TC.cl, TC.nS, t5_sides, _, rfl, x.sp, _, (k : Nat), _, rfl, rfl, SqL.of tb.s, at_fl hk, x.bp, _, (S.sd k : Nat), _, rfl, rfl, SqL.of tb.b, at_fl hsk, x.B (S.sd k), rfl, ?_⟩
        cases hb : x.B (S.sd k) with
        | true => exact iteF ⟨x2, _, x4, rp, ra, S, rfl, o, tb, ok, row.other fun nu => by rw [nu.2] at hb; cases hb⟩
        | false =>
          refine iteT ?_
          have nu : Nu x.n x.B (S.sd k) := ⟨by omega, hb⟩
          refine ⟨_, rfl, x.t, C, x.dx, _, _, rfl, tb.o, TC.cl, TC.nH, t5_heads, x.hp, _, rfl, SqL.of tb.h, fun D hD => ?_⟩
          refine lc_it (walk_enum (K := K) (a := x.hp) (xs := fl x.n fun i => .int (S.hd i : Nat))) (fun j H3 => Same H2 H3 ∧ ∃ xs, H3 D = some (.lst xs) ∧ Fns (fun i => x.B (S.hd i) && !decide (S.T k i = 0)) j xs) ⟨same_new hD, [], upd_same, Fns.zero _⟩ (fun j H3 _ ⟨z, _⟩ => SqL.of (z _ _ tb.h)) ?_ ?_
          · rintro j v H3 H4 hj ⟨z, xs, eD, fn⟩ ⟨T', u1, u2, rfl, hT, rfl, hu1, hu2⟩
            rw [fl_len] at hj
            obtain rfl := Option.some.inj hu1
            obtain ⟨_, rfl⟩ := fl_inv hu2
            have sT := same_new (o := .tup [.int (j : Nat), .int (S.hd j : Nat)]) hT
            have zT := z.trans sT
            have hhj : S.hd j < x.n + x.m := ok.W.l j hj
            refine ⟨T', _, rfl, SqT.of upd_same, rfl, _, _, rfl, _, _, rfl, rfl, rfl, ?_⟩
            refine ⟨_, rfl, x.t, C, x.dx, _, _, rfl, zT _ _ tb.o, TC.cl, TC.nB, t5_bound, _, rfl, x.bp, _, (S.hd j : Nat), _, rfl, rfl, SqL.of (zT _ _ tb.b), at_fl hhj, x.B (S.hd j), rfl, ?_⟩
            cases c1 : x.B (S.hd j) with
            | true =>
              refine iteT ⟨_, rfl, x.t, C, x.dx, _, _, rfl, zT _ _ tb.o, TC.cl, TC.nR, t5_rows, _, rfl, rp, _, (k : Nat), _, rfl, rfl, SqL.of (zT _ _ tb.r), at_fl (Nat.lt_succ_of_lt hk), _, rfl, ra k, _, (j : Nat), _, rfl, rfl, SqL.of (zT _ _ (tb.rr k (Nat.lt_succ_of_lt hk))), at_fl hj, rfl, _, rfl, ?_⟩
              by_cases c2 : S.T k j = 0
              · rw [show (!decide (V.int ((x.mv rp ra S).T k j) = V.int 0)) = false by rw [show decide (V.int ((x.mv rp ra S).T k j) = V.int 0) = true from decide_eq_true (congrArg V.int c2)]; rfl]
                exact iteF ⟨zT, xs, sT _ _ eD, fn.skip (by rw [decide_eq_true c2]; exact Bool.and_false _)⟩
              · rw [show (!decide (V.int ((x.mv rp ra S).T k j) = V.int 0)) = true by rw [show decide (V.int ((x.mv rp ra S).T k j) = V.int 0) = false from decide_eq_false (fun e => c2 (V.int.inj e))]; rfl]
                refine iteT ⟨_, rfl, xs, sT _ _ eD, ?_, same_upd zT hD, _, upd_same, fn.next (by rw [c1, decide_eq_false c2]; rfl)⟩
                exact Nat.lt_of_lt_of_le (show xs.length < 101 by have := fn.n; omega) (by decide)
            | false => exact iteF (iteF ⟨zT, xs, sT _ _ eD, fn.skip (by rw [c1]; rfl)⟩)
          · rintro H3 ⟨z, xs, eD, fn⟩
            rw [fl_len] at fn
            refine ⟨_, rfl, D, _, rfl, .inl (SqL.of eD), _, _, rfl, rfl, _, rfl, ?_⟩
            have tb2 : TabAt C H3 (x.mv rp ra S) := tb.same z
            by_cases c : (0 : Int) < (xs.length : Int)
            · rw [decide_eq_true c]
              obtain ⟨r, hr1, cr, at_⟩ := fn.some (by omega)
              rw [Bool.and_eq_true] at cr
              have nz : S.T k r ≠ 0 := fun e => by
                have w := cr.2
                rw [decide_eq_true e] at w
                cases w
              refine iteT ⟨_, rfl, x.t, x.dx, _, rfl, tb2.o, t5_no (by decide +kernel) (by decide +kernel) (by decide +kernel) (by decide +kernel) (by decide +kernel), _, rfl, _, rfl, D, _, 0, _, rfl, rfl, SqL.of eD, at_, ?_⟩
              dsimp only [tNil]
              refine swap_mv tb2 fair ok hk hr1 nz fun H4 rp' ra' o3 t3 => ⟨x2, _, _, rp', ra', S.sw k r, rfl, (o.trans (Same.outs z)).trans o3, t3, ok.sw hk hr1 nz, row.swap hk hr1 nu cr.1⟩
            · rw [decide_eq_false c]
              refine iteF ⟨x2, _, _, rp, ra, S, rfl, o.trans (Same.outs z), tb2, ok, row.none fun i hi hn => ?_⟩
              have w := fn.none (by omega) hi
              rw [hn, Bool.true_and] at w
              exact Decidable.byContradiction fun e => by
                rw [decide_eq_false e] at w
                cases w
      · rintro σ H1 ⟨x2, x3, x4, rp, ra, S, rfl, o, tb, ok, row⟩
        exact q H1 rp ra S o tb ok row.set
end
end K73
namespace GD
open PySem PySem.Spec PyProof.Rows L2 GM
def spGrow (C : Addr) : Sp := fun vs H Q _ => ∃ (x : Tb) (M : Nat → Vec), vs = [.ref x.t] ∧ TabAt C H x ∧ Fair x M ∧
  ∀ H' rp ra S, Outs x.own H H' → TabAt C H' (x.mv rp ra S) → S.Ok x.n x.m (x.n + x.m) M → Set2 x.n x.m x.B S.hd S.sd S.T →
    (∀ f : Nat, f < x.n → x.B (S.hd f) = true → 0 < S.T x.m f → (∀ i, i < x.m → x.B (S.sd i) = true → 0 ≤ S.T i f) → Q (.int (f : Nat)) H') ∧
    ((∀ j, j < x.n → x.B (S.hd j) = true → S.T x.m j ≤ 0) → Q .non H')
/-- what holds at the head of grow's loop, with what is left of its turns -/
def GrowI (C : Addr) (H : Hp) (x : Tb) (M : Nat → Vec) (t : Nat) (σ : L2.St) (H' : Hp) : Prop := ∃ (L : Nat) (st : Nat → GM.St) (rr ss : Nat → Nat) (rp : Addr) (ra : Nat → Addr) (x2 : Option V), t = 2 ^ (x.n + x.m) - L ∧ Chain x.n x.m (x.n + x.m) M x.B L st rr ss ∧
  TabAt C H' (x.mv rp ra (st L)) ∧ Outs x.own H H' ∧ Set2 x.n x.m x.B (st L).hd (st L).sd (st L).T ∧
  ((∃ to : Nat, Ent x.n x.m x.B (st L).hd (st L).T to ∧ σ = [some (.ref x.t), some (.int (to : Nat)), x2]) ∨ (σ = [some (.ref x.t), some .non, x2] ∧ ∀ j, j < x.n → x.B ((st L).hd j) = true → (st L).T x.m j ≤ 0))
theorem t5_noM {hp sp rp bp : Addr} {d : Int} {x : Str} (h : x ∈ (["swap", "entering", "leaving", "settle", "grow", "amounts", "costs"] : List Str)) : (t5 hp sp rp d bp).lookup x = none := by
  simp only [List.mem_cons, List.not_mem_nil, or_false] at h
  rcases h with rfl | rfl | rfl | rfl | rfl | rfl | rfl
  · exact t5_no (by decide +kernel) (by decide +kernel) (by decide +kernel) (by decide +kernel) (by decide +kernel)
  · exact t5_no (by decide +kernel) (by decide +kernel) (by decide +kernel) (by decide +kernel) (by decide +kernel)
  · exact t5_no (by decide +kernel) (by decide +kernel) (by decide +kernel) (by decide +kernel) (by decide +kernel)
  · exact t5_no (by decide +kernel) (by decide +kernel) (by decide +kernel) (by decide +kernel) (by decide +kernel)
  · exact t5_no (by decide +kernel) (by decide +kernel) (by decide +kernel) (by decide +kernel) (by decide +kernel)
  · exact t5_no (by decide +kernel) (by decide +kernel) (by decide +kernel) (by decide +kernel) (by decide +kernel)
  · exact t5_no (by decide +kernel) (by decide +kernel) (by decide +kernel) (by decide +kernel) (by decide +kernel)
end GD
namespace K73
open PySem PySem.Spec PyProof.Rows L2 GD GM
section
variable {P : Program} {w : World} {K : PySem.W.Frag} {mg : Str → Option Value} {base : Heap}
abbrev NTgr : List Str := ["self", "to", "at"]
theorem scTgr : FnScope NTgr ["self"] (defScope pGrow) := ⟨rfl, rfl, rfl, by decide +kernel, rfl, by decide +kernel, by decide +kernel⟩
theorem ok_grow {f C fS fE fL fZ : Addr} {fd fdS fdE fdL fdZ : FuncData} (F : Fun K "grow" "Table.grow" pGrow f fd) (TC : TabC K C)
    (mS : Meth K C "swap" fS) (bS : Binds K fdS ["self", "at", "to"] []) (GS : FnOk P w K mg base CX0 1 fS fdS ["self", "at", "to"] (spSwap C))
    (mE : Meth K C "entering" fE) (bE : Binds K fdE ["self"] []) (GE : FnOk P w K mg base CX0 1 fE fdE ["self"] (spEntering C))
    (mL : Meth K C "leaving" fL) (bL : Binds K fdL ["self", "to"] []) (GL : FnOk P w K mg base CX0 1 fL fdL ["self", "to"] (spLeaving C))
    (mZ : Meth K C "settle" fZ) (bZ : Binds K fdZ ["self"] []) (GZ : FnOk P w K mg base CX0 2 fZ fdZ ["self"] (spSettle C)) : FnOk P w K mg base CX0 3 f fd ["self"] (spGrow C) := by
  refine F.ok scTgr (fun vs H Q E h => ?_) (fun cdv A outer s H vs Q E hr h => ?_)
  · obtain ⟨x, M, rfl, _⟩ := h
    rfl
  · obtain ⟨x, M, rfl, hx, fair, q⟩ := h
    have hr1 : Room 1 _ := hr.mono (by decide)
    refine ⟨_, pss_cons (ps_expr (pe_meth0 (pv 0) TC.cl mZ GZ hr bZ .nil pass0))
      (pss_cons (ps_set (i := 1) scTgr.nd rfl (.inl rfl) (pe_meth0 (pv 0) TC.cl mE GE hr1 bE .nil pass0))
      (pss_cons (ps_while PassesOwn.never (pt_cmpR op_notN (pv 1) pe_non (nomark _))
        (pss_cons (ps_set (i := 2) scTgr.nd rfl (.inl rfl) (pe_meth (pv 0) TC.cl mL GL hr1 bL .nil pass0 (pa_cons (pv 1) pa_nil)))
        (pss_cons (ps_if (pt_cmpR op_isN (pv 2) pe_non (nomark _)) (pss_one (ps_ret (pv 1))) pss_nil)
        (pss_cons (ps_expr (pe_meth (pv 0) TC.cl mS GS hr1 bS .nil pass0 (pa_cons (pv 2) (pa_cons (pv 1) pa_nil))))
        (pss_one (ps_set (i := 1) scTgr.nd rfl (.inl rfl) (pe_meth0 (pv 0) TC.cl mE GE hr1 bE .nil pass0)))))))
      (pss_one (ps_ret pe_non)))), ?rd⟩
    refine ⟨_, rfl, x.t, x.dx, _, rfl, hx.o, t5_noM (by simp), ?_⟩
    dsimp only [tNil]
    refine ⟨x, M, rfl, hx, fair, fun H1 rp ra S o1 tb ok set => ?_⟩
    refine ⟨_, rfl, x.t, x.dx, _, rfl, tb.o, t5_noM (by simp), ?_⟩
    dsimp only [tNil]
    refine ⟨x.mv rp ra S, rfl, tb, ok.W.l, fun v H2 s2 hv => ?_⟩
    refine ⟨GrowI C H x M, ⟨_, 0, fun _ => S, fun _ => 0, fun _ => 0, rp, ra, none, rfl, Chain.one ok, tb.same s2, o1.trans (Same.outs s2), set, ?_⟩, ?_⟩
    · rcases hv with ⟨to, en, rfl⟩ | ⟨rfl, no⟩
      · exact .inl ⟨to, en, rfl⟩
      · exact .inr ⟨rfl, no⟩
    clear hv s2 set tb ok o1
    rintro m σ H3 ⟨L, st, rr, ss, rp, ra, x2, rfl, ch, tb, o, set, hσ⟩
    have okL : (st L).Ok x.n x.m (x.n + x.m) M := ch.ok L (Nat.le_refl L)
    rcases hσ with ⟨to, en, rfl⟩ | ⟨rfl, no⟩
    rotate_left
    · refine ⟨_, rfl, rfl, _, rfl, iteF ?_⟩
      exact (q H3 rp ra (st L) o tb okL set).2 no
    refine ⟨_, rfl, rfl, _, rfl, iteT ⟨fun σ' H' => ∃ m', m' < 2 ^ (x.n + x.m) - L ∧ GrowI C H x M m' σ' H', fun _ _ h => h, ?_⟩⟩
    refine ⟨_, rfl, x.t, x.dx, _, rfl, tb.o, t5_noM (by simp), _, rfl, ?_⟩
    dsimp only [tNil]
    refine ⟨x.mv rp ra (st L), to, rfl, tb, en.i, okL.W.k, fun v H4 s4 hv => ?_⟩
    have tb4 := tb.same s4
    have o4 := o.trans (Same.outs s4)
    rcases hv with ⟨r, lv, rfl⟩ | ⟨rfl, no⟩
    rotate_left
    · refine ⟨_, rfl, rfl, _, rfl, iteT ⟨_, rfl, ?_⟩⟩
      exact (q H4 rp ra (st L) o4 tb4 okL set).1 to en.i en.b en.p no
    refine ⟨_, rfl, rfl, _, rfl, iteF ?_⟩
    have nz : (st L).T r to ≠ 0 := by
      have : (st L).T r to < 0 := lv.p
      omega
    refine ⟨_, rfl, x.t, x.dx, _, rfl, tb4.o, t5_noM (by simp), _, rfl, _, rfl, ?_⟩
    dsimp only [tNil]
    refine swap_mv tb4 fair okL lv.i en.i nz fun H5 rp' ra' o5 tb5 => ?_
    have ok5 := okL.sw lv.i en.i nz
    refine ⟨_, rfl, x.t, x.dx, _, rfl, tb5.o, t5_noM (by simp), ?_⟩
    dsimp only [tNil]
    refine ⟨x.mv rp' ra' ((st L).sw r to), rfl, tb5, ok5.W.l, fun v H6 s6 hv => ?_⟩
    have ch2 := ch.snoc en lv
    have bd := ch2.bound
    have eL : (if L + 1 ≤ L then st (L + 1) else (st L).sw r to) = (st L).sw r to := if_neg (by omega)
    refine ⟨2 ^ (x.n + x.m) - (L + 1), by omega, L + 1, _, _, _, rp', ra', some (.int (r : Nat)), rfl, ch2, ?_, (o4.trans o5).trans (Same.outs s6), ?_, ?_⟩
    · rw [eL]
      exact tb5.same s6
    · rw [eL]
      exact set.swap lv.i en.i lv.b en.b
    · rw [eL]
      rcases hv with ⟨to', en', rfl⟩ | ⟨rfl, no⟩
      · exact .inl ⟨to', en', rfl⟩
      · exact .inr ⟨rfl, no⟩
end
end K73
namespace GD
open PySem PySem.Spec PyProof.Rows L2 GM
theorem rg_fl (a b : Nat) : rgV (a : Int) (b : Int) = fl (b - a) fun i => .int ((a + i : Nat) : Int) := by
  unfold rgV fl
  rw [show ((b : Int) - (a : Int)).toNat = b - a by omega]
  exact List.map_congr_left fun i _ => congrArg V.int (by omega)
theorem fl_ref {n : Nat} {ra : Nat → Addr} {i : Nat} {D : Addr} (h : i = n) : fl n (fun k => V.ref (ra k)) ++ [.ref D] = fl (n + 1) fun k => .ref (if k = i then D else ra k) := by
  subst h
  rw [fl_put]
  refine fl_congr fun j _ => ?_
  by_cases c : j = i
  · rw [if_pos c, if_pos c]
  · rw [if_neg c, if_neg c]
def spTabI (C : Addr) : Sp := fun vs H Q _ => ∃ (t dx cp gp bp : Addr) (n m : Nat) (ca : Nat → Addr) (A : Nat → Nat → Int) (B : Nat → Bool), vs = [.ref t, .ref cp, .ref gp, .ref bp] ∧ H t = some (.ins C dx []) ∧ H cp = some (.lst (fl n fun j => .ref (ca j))) ∧
  (∀ j, j < n → H (ca j) = some (.lst (fl m fun i => .int (A i j)))) ∧ H gp = some (.lst (fl n fun j => .int (A m j))) ∧ H bp = some (.lst (fl (n + m) fun k => .bl (B k))) ∧ n ≤ 100 ∧ m ≤ 100 ∧
  ∀ H' hp sp rp ra, Keep t H H' → H hp = none → H sp = none → TabAt C H' ⟨t, dx, hp, sp, rp, bp, n, m, ra, fun j => j, fun i => n + i, A, 1, B⟩ → Q .non H'
end GD
namespace K73
open PySem PySem.Spec PyProof.Rows L2 GD GM
section
variable {P : Program} {w : World} {K : PySem.W.Frag} {mg : Str → Option Value} {base : Heap}
abbrev NTi : List Str := ["self", "columns", "goal", "bound", "at", "column"]
theorem scTi : FnScope NTi ["self", "columns", "goal", "bound"] (defScope pTabI) := ⟨rfl, rfl, rfl, by decide +kernel, rfl, by decide +kernel, by decide +kernel⟩
theorem ok_tabi {f C : Addr} {fd : FuncData} (F : Fun K "__init__" "Table.__init__" pTabI f fd) (TC : TabC K C) (nR : mg "range" = none) (nL : mg "len" = none) (nLi : mg "list" = none) : FnOk P w K mg base CX0 1 f fd ["self", "columns", "goal", "bound"] (spTabI C) := by
  refine F.ok scTi (fun vs H Q E h => ?_) (fun cdv A outer s H vs Q E hr h => ?_)
  · obtain ⟨t, dx, cp, gp, bp, n, m, ca, A, B, rfl, _⟩ := h
    rfl
  · obtain ⟨t, dx, cp, gp, bp, n, m, ca, A, B, rfl, ht, hc, hca, hg, hb, hn, hm, q⟩ := h
    refine ⟨_, pss_cons (ps_fld (pv 0) (pe_listRg rfl (by rfl) nLi (prg_1 (by rfl) nR (pe_callB call_len_seq (by rfl) nL PySem.boot_len (pa_cons (pv 1) pa_nil)))) rfl)
      (pss_cons (ps_fld (pv 0) (pe_listRg rfl (by rfl) nLi (prg_2 (by rfl) nR (pe_callB call_len_seq (by rfl) nL PySem.boot_len (pa_cons (pv 1) pa_nil)) (pe_callB call_len_seq (by rfl) nL PySem.boot_len (pa_cons (pv 3) pa_nil)))) rfl)
      (pss_cons (ps_fld (pv 0) (pe_lc (own := [("at", 4)]) (g := gName 4) (tt := tYes) (te := tLc (iList K (tVar 1)) (gName 5) tYes (tOp (rIxL K) (tVar 5) (tVar 4)) [5]) rfl scTi.nd (pi_range1 (by rfl) nR (pa_cons (pe_callB call_len_seq (by rfl) nL PySem.boot_len (pa_cons (pe_fld (pv 0) rfl) pa_nil)) pa_nil)) (blkOk_by (N := NTi) (sc := defScope pTabI) (by decide +kernel))
          (fun _ _ _ _ _ => pg_name (i := 4) scTi.nd rfl (.inr rfl)) (fun _ _ _ _ _ => pts_nil) ?inner) rfl)
      (pss_cons (ps_expr (pe_bm PySem.F.plainAttrs_list PySem.F.slot_list_append PySem.F.type_list_append mt_append (pe_fld (pv 0) rfl) (pa_cons (pv 2) pa_nil)))
      (pss_cons (ps_fld (pv 0) pe_int rfl)
      (pss_one (ps_fld (pv 0) (pv 3) rfl)))))), ?rd⟩
    case inner =>
      intro s1 H1 C1 cl1 fp1
      refine pe_lc (own := [("column", 5)]) (g := gName 5) (tt := tYes) rfl scTi.nd (pi_list (pv 1)) ?bk (fun _ _ _ _ _ => pg_name (i := 5) scTi.nd rfl (.inl rfl)) (fun _ _ _ _ _ => pts_nil) (fun _ _ _ _ _ => pe_ix (r := rIxL K) ix_list (pv 5) (pv 4) (fun _ _ => rfl))
      exact blkOk_by (by rfl)
    refine ⟨_, rfl, cp, _, rfl, .inl (SqL.of hc), ?_⟩
    rw [fl_len]
    refine ⟨_, rfl, RgOk.of_le (by omega) (by omega) (by omega) (by omega), fun hp nhp => ?_⟩
    rw [show (0 : Int) = ((0 : Nat) : Int) from rfl, rg_fl, Nat.sub_zero]
    have tH : (fl n fun i => V.int ((0 + i : Nat) : Int)) = fl n fun j => V.int (j : Nat) := fl_congr fun i _ => by rw [Nat.zero_add]
    rw [tH]
    have s1 := same_new (o := .lst (fl n fun j => .int (j : Nat))) nhp
    have e1 : (upd H hp (.lst (fl n fun j => .int (j : Nat)))) hp = some (.lst (fl n fun j => .int (j : Nat))) := upd_same
    generalize upd H hp (.lst (fl n fun j => .int (j : Nat))) = H1 at s1 e1 ⊢
    have nht : hp ≠ t := fun e => ne_of_none ht nhp e.symm
    refine ⟨_, rfl, t, C, dx, _, rfl, s1 _ _ ht, TC.cl, TC.nH, (by show 0 < 1000; decide), ?_⟩
    show tSeq _ _ _ _ (upd H1 t (.ins C dx (t1 hp)))
    have k2 : Keep t H (upd H1 t (.ins C dx (t1 hp))) := (sKeep s1).trans keep_at
    have e2 : (upd H1 t (.ins C dx (t1 hp))) hp = some (.lst (fl n fun j => .int (j : Nat))) := by
      rw [upd_ne nht]
      exact e1
    have o2 : (upd H1 t (.ins C dx (t1 hp))) t = some (.ins C dx (t1 hp)) := upd_same
    generalize upd H1 t (.ins C dx (t1 hp)) = H2 at k2 e2 o2 ⊢
    have nct : cp ≠ t := ne_of hc ht (fun z => by cases z)
    have nbt : bp ≠ t := ne_of hb ht (fun z => by cases z)
    have ngt : gp ≠ t := ne_of hg ht (fun z => by cases z)
    refine ⟨_, rfl, cp, _, rfl, .inl (SqL.of (k2 _ _ nct hc)), _, rfl, bp, _, rfl, .inl (SqL.of (k2 _ _ nbt hb)), ?_⟩
    rw [fl_len, fl_len]
    refine ⟨_, _, rfl, rfl, RgOk.of_le (by omega) (by omega) (by omega) (by omega), fun sp nsp => ?_⟩
    rw [rg_fl, show n + m - n = m by omega]
    have s3 := same_new (o := .lst (fl m fun i => .int (n + i : Nat))) nsp
    have e3 : (upd H2 sp (.lst (fl m fun i => .int (n + i : Nat)))) sp = some (.lst (fl m fun i => .int (n + i : Nat))) := upd_same
    generalize upd H2 sp (.lst (fl m fun i => .int (n + i : Nat))) = H3 at s3 e3 ⊢
    have nst : sp ≠ t := fun e => ne_of_none o2 nsp e.symm
    have nhs : hp ≠ sp := ne_of_none e2 nsp
    have nsp0 : H sp = none := by
      cases c : H sp with
      | none => rfl
      | some o =>
        have := k2 _ _ nst c
        rw [nsp] at this
        cases this
    refine ⟨_, rfl, t, C, dx, _, rfl, s3 _ _ o2, TC.cl, TC.nS, (t_len hp sp 0 0 0).1, ?_⟩
    show tSeq _ _ _ _ (upd H3 t (.ins C dx (t2 hp sp)))
    have k4 : Keep t H (upd H3 t (.ins C dx (t2 hp sp))) := (k2.trans (sKeep s3)).trans keep_at
    have eh4 : (upd H3 t (.ins C dx (t2 hp sp))) hp = some (.lst (fl n fun j => .int (j : Nat))) := by
      rw [upd_ne nht]
      exact s3 _ _ e2
    have es4 : (upd H3 t (.ins C dx (t2 hp sp))) sp = some (.lst (fl m fun i => .int (n + i : Nat))) := by
      rw [upd_ne nst]
      exact e3
    have o4 : (upd H3 t (.ins C dx (t2 hp sp))) t = some (.ins C dx (t2 hp sp)) := upd_same
    generalize upd H3 t (.ins C dx (t2 hp sp)) = H4 at k4 eh4 es4 o4 ⊢
    have hc4 := k4 _ _ nct hc
    have hca4 : ∀ j, j < n → H4 (ca j) = some (.lst (fl m fun i => .int (A i j))) := fun j hj => k4 _ _ (ne_of (hca j hj) ht (fun z => by cases z)) (hca j hj)
    refine ⟨_, rfl, t, C, dx, _, _, rfl, o4, TC.cl, TC.nS, t2_sides _ _, sp, _, rfl, .inl (SqL.of es4), ?_⟩
    rw [fl_len]
    refine ⟨(m : Nat), rfl, by omega, by omega, fun D hD => ?_⟩
    refine lc_it (walk_range (lo := 0) (n := m)) (fun i H5 => Same H4 H5 ∧ ∃ ra : Nat → Addr, H5 D = some (.lst (fl i fun k => .ref (ra k))) ∧ ∀ k, k < i → H4 (ra k) = none ∧ ra k ≠ D ∧ H5 (ra k) = some (.lst (fl n fun j => .int (A k j))))
      ⟨same_new hD, fun _ => D, upd_same, fun k hk => absurd hk (Nat.not_lt_zero _)⟩ (fun _ _ _ _ => True.intro) ?_ ?_
    · rintro i v H5 H6 hi ⟨z, ra, eD, hra⟩ ⟨rfl, rfl⟩
      show gName 4 (V.int (0 + (i : Int))) _ _ _
      rw [Int.zero_add]
      refine ⟨rfl, _, rfl, cp, rfl, ⟨_, SqL.of (z _ _ hc4)⟩, fun D2 hD2 => ?_⟩
      refine lc_it (walk_list (K := K) (a := cp) (xs := fl n fun j => .ref (ca j))) (fun j H7 => Same H6 H7 ∧ H7 D2 = some (.lst (fl j fun j => .int (A i j)))) ⟨same_new hD2, upd_same⟩ (fun j H7 _ ⟨z7, _⟩ => SqL.of (z7 _ _ (z _ _ hc4))) ?_ ?_
      · rintro j v H7 H8 hj ⟨z7, e7⟩ ⟨rfl, hv⟩
        obtain ⟨hjn, rfl⟩ := fl_inv hv
        refine ⟨rfl, _, rfl, _, rfl, ca j, _, (i : Nat), _, rfl, rfl, SqL.of (z7 _ _ (z _ _ (hca4 j hjn))), at_fl hi, _, e7, ?_, same_upd z7 hD2, ?_⟩
        · rw [fl_len]
          exact Nat.lt_of_lt_of_le (show j < 100 by omega) (by decide)
        · rw [upd_same]
          exact congrArg (fun l => some (HO.lst l)) (fl_snoc j _)
      · rintro H7 ⟨z7, e7⟩
        rw [fl_len] at e7
        refine ⟨_, z7 _ _ eD, ?_, same_upd (z.trans z7) hD, fun k => if k = i then D2 else ra k, ?_, fun k hk => ?_⟩
        · rw [fl_len]
          exact Nat.lt_of_lt_of_le (show i < 100 by omega) (by decide)
        · rw [upd_same, fl_ref rfl]
        · dsimp only
          have nD2 : D2 ≠ D := fun e => ne_of_none eD hD2 e.symm
          by_cases c : k = i
          · subst c
            rw [if_pos rfl]
            exact ⟨z.free hD2, nD2, by rw [upd_ne nD2]; exact e7⟩
          · obtain ⟨b1, b2, b3⟩ := hra k (by omega)
            rw [if_neg c]
            exact ⟨b1, b2, by rw [upd_ne b2]; exact z7 _ _ b3⟩
    rintro H5 ⟨z, ra, eD, hra⟩
    have o5 := z _ _ o4
    have nDt : D ≠ t := fun e => ne_of_none o4 hD e.symm
    refine ⟨_, rfl, t, C, dx, _, rfl, o5, TC.cl, TC.nR, (t_len hp sp 0 0 0).2.1, ?_⟩
    show tSeq _ _ _ _ (upd H5 t (.ins C dx (t3 hp sp D)))
    refine ⟨_, rfl, t, C, dx, _, _, rfl, upd_same, TC.cl, TC.nR, t3_rows _ _ _, .inl ⟨rfl, _, .inl (.inl (by rw [upd_ne nDt]; exact eD))⟩, _, rfl, D, _, _, rfl, rfl, by rw [upd_ne nDt]; exact eD, ?_, ?_⟩
    · rw [fl_len]
      exact Nat.lt_of_lt_of_le (show m < 101 by omega) (by decide)
    rw [fl_ref (i := m) rfl]
    refine ⟨_, rfl, t, C, dx, _, rfl, by rw [upd_ne (Ne.symm nDt), upd_same], TC.cl, TC.nD, (t_len hp sp D 0 0).2.2.1, ?_⟩
    refine ⟨_, rfl, _, rfl, t, C, dx, _, rfl, upd_same, TC.cl, TC.nB, (t_len hp sp D 1 0).2.2.2.1, ?_⟩
    show Ends.nx _ _ (upd (upd (upd (upd H5 t (.ins C dx (t3 hp sp D))) D (.lst (fl (m + 1) fun k => .ref (if k = m then gp else ra k)))) t (.ins C dx (t4 hp sp D 1))) t (.ins C dx (t5 hp sp D 1 bp)))
    have old : ∀ c o, H5 c = some o → c ≠ t → c ≠ D → (upd (upd (upd (upd H5 t (.ins C dx (t3 hp sp D))) D (.lst (fl (m + 1) fun k => .ref (if k = m then gp else ra k)))) t (.ins C dx (t4 hp sp D 1))) t (.ins C dx (t5 hp sp D 1 bp))) c = some o := fun c o e n1 n2 => by
      rw [upd_ne n1, upd_ne n1, upd_ne n2, upd_ne n1]
      exact e
    have eD9 : (upd (upd (upd (upd H5 t (.ins C dx (t3 hp sp D))) D (.lst (fl (m + 1) fun k => .ref (if k = m then gp else ra k)))) t (.ins C dx (t4 hp sp D 1))) t (.ins C dx (t5 hp sp D 1 bp))) D = some (.lst (fl (m + 1) fun k => .ref (if k = m then gp else ra k))) := by
      rw [upd_ne nDt, upd_ne nDt, upd_same]
    have o9 : (upd (upd (upd (upd H5 t (.ins C dx (t3 hp sp D))) D (.lst (fl (m + 1) fun k => .ref (if k = m then gp else ra k)))) t (.ins C dx (t4 hp sp D 1))) t (.ins C dx (t5 hp sp D 1 bp))) t = some (.ins C dx (t5 hp sp D 1 bp)) := upd_same
    generalize upd (upd (upd (upd H5 t (.ins C dx (t3 hp sp D))) D (.lst (fl (m + 1) fun k => .ref (if k = m then gp else ra k)))) t (.ins C dx (t4 hp sp D 1))) t (.ins C dx (t5 hp sp D 1 bp)) = H9 at old eD9 o9 ⊢
    have nhD : hp ≠ D := ne_of_none eh4 hD
    have nsD : sp ≠ D := ne_of_none es4 hD
    have hb4 := k4 _ _ nbt hb
    have hg4 := k4 _ _ ngt hg
    have nbD : bp ≠ D := ne_of_none hb4 hD
    have ngD : gp ≠ D := ne_of_none hg4 hD
    refine q H9 hp sp D (fun k => if k = m then gp else ra k) (fun c o n1 e => ?_) nhp nsp0 ?_
    · have e4 := k4 c o n1 e
      exact old c o (z _ _ e4) n1 (ne_of_none e4 hD)
    refine ⟨o9, old _ _ (z _ _ eh4) nht nhD, old _ _ (z _ _ es4) nst nsD, eD9, fun i hi => ?_, old _ _ (z _ _ hb4) nbt nbD, nhs, ⟨nhD, nsD⟩, ⟨fun e => ne_of_none hb nhp e.symm, fun e => ne_of_none hb nsp0 e.symm⟩, fun i hi => ?_, hn, hm⟩
    · have hi' : i < m + 1 := hi
      show H9 (if i = m then gp else ra i) = _
      by_cases c : i = m
      · subst c
        rw [if_pos rfl]
        exact old _ _ (z _ _ hg4) ngt ngD
      · obtain ⟨b1, b2, b3⟩ := hra i (by omega)
        rw [if_neg c]
        exact old _ _ b3 (fun e => ne_of_none o4 b1 e.symm) b2
    · have hi' : i < m + 1 := hi
      show hp ≠ (if i = m then gp else ra i) ∧ sp ≠ (if i = m then gp else ra i)
      by_cases c : i = m
      · rw [if_pos c]
        exact ⟨fun e => ne_of_none hg nhp e.symm, fun e => ne_of_none hg nsp0 e.symm⟩
      · obtain ⟨b1, b2, b3⟩ := hra i (by omega)
        rw [if_neg c]
        exact ⟨ne_of_none eh4 b1, ne_of_none es4 b1⟩
end
end K73
namespace GD
open PySem PySem.Spec PyProof.Rows L2 GM
theorem rep_fl (n : Nat) (v : V) : (List.replicate n [v]).flatten = fl n fun _ => v := by
  unfold fl
  induction n with
  | zero => rfl
  | succ n ih =>
    rw [List.replicate_succ', List.flatten_append, ih, List.range_succ, List.map_append]
    rfl
theorem fl_setI {N a : Nat} {g : Nat → Int} {z : Int} (h : a < N) : (fl N fun k => V.int (g k)).set a (.int z) = fl N fun k => .int (if k = a then z else g k) := by
  rw [fl_set h]
  refine fl_congr fun k _ => ?_
  by_cases c : k = a
  · rw [if_pos c, if_pos c]
  · rw [if_neg c, if_neg c]
theorem fl_take {N n : Nat} {f : Nat → V} (h : n ≤ N) : cutV (fl N f) none (some (n : Int)) = fl n f := by
  unfold cutV
  rw [HT.sIx_nat, HT.sIx_none, List.drop_zero, Nat.sub_zero, fl_len, Nat.min_eq_left h]
  refine List.ext_getElem? fun i => ?_
  by_cases c : i < n
  · rw [List.getElem?_take_of_lt c, fl_get (by omega), fl_get c]
  · rw [List.getElem?_eq_none (by rw [List.length_take, fl_len]; omega), List.getElem?_eq_none (by rw [fl_len]; omega)]
theorem fl_drop {n m : Nat} {f : Nat → V} : cutV (fl (n + m) f) (some (n : Int)) none = fl m fun i => f (n + i) := by
  rw [cut_vs_end]
  refine List.ext_getElem? fun i => ?_
  rw [List.getElem?_drop]
  by_cases c : i < m
  · rw [fl_get (by omega), fl_get c]
  · rw [List.getElem?_eq_none (by rw [fl_len]; omega), List.getElem?_eq_none (by rw [fl_len]; omega)]
def spAmounts (C : Addr) : Sp := fun vs H Q _ => ∃ (x : Tb) (f : Nat), vs = [.ref x.t, .int (f : Nat)] ∧ TabAt C H x ∧ f < x.n ∧ Whole x.n x.m (x.n + x.m) x.hd x.sd ∧
  ∀ p H', Same H H' → H p = none → H' p = some (.lst (fl x.n fun c => .int (val x.n x.m x.hd x.sd x.T x.d f c))) → Q (.ref p) H'
def spCosts (C : Addr) : Sp := fun vs H Q _ => ∃ (x : Tb), vs = [.ref x.t] ∧ TabAt C H x ∧ Whole x.n x.m (x.n + x.m) x.hd x.sd ∧
  ∀ p H', Same H H' → H p = none → H' p = some (.lst (fl x.m fun i => .int (cost x.n x.m x.hd x.T (x.n + i)))) → Q (.ref p) H'
end GD
namespace K73
open PySem PySem.Spec PyProof.Rows L2 GD GM
section
variable {P : Program} {w : World} {K : PySem.W.Frag} {mg : Str → Option Value} {base : Heap}
abbrev NAm : List Str := ["self", "to", "found", "side", "row"]
theorem scAm : FnScope NAm ["self", "to"] (defScope pAmounts) := ⟨rfl, rfl, rfl, by decide +kernel, rfl, by decide +kernel, by decide +kernel⟩
abbrev NCs : List Str := ["self", "found", "head", "item"]
theorem scCs : FnScope NCs ["self"] (defScope pCosts) := ⟨rfl, rfl, rfl, by decide +kernel, rfl, by decide +kernel, by decide +kernel⟩
theorem ok_amounts {f C : Addr} {fd : FuncData} (F : Fun K "amounts" "Table.amounts" pAmounts f fd) (TC : TabC K C) (nL : mg "len" = none) (nZ : mg "zip" = none) : FnOk P w K mg base CX0 1 f fd ["self", "to"] (spAmounts C) := by
  refine F.ok scAm (fun vs H Q E h => ?_) (fun cdv A outer s H vs Q E hr h => ?_)
  · obtain ⟨x, f, rfl, _⟩ := h
    rfl
  · obtain ⟨x, f, rfl, hx, hf, W, q⟩ := h
    refine ⟨_, pss_cons (ps_set (i := 2) scAm.nd rfl (.inl rfl) (pe_op op_rep (pe_lst (pa_cons pe_int pa_nil)) (pe_callB call_len_seq (by rfl) nL PySem.boot_len (pa_cons (pe_fld (pv 0) rfl) pa_nil))))
      (pss_cons (ps_asg (pe_fld (pv 0) rfl) (pg_sub (pv 2) (pe_ix ix_list (pe_fld (pv 0) rfl) (pv 1) (fun _ _ => rfl)) set_list))
      (pss_cons (ps_for PassesOwn.never rfl (pi_zip (by rfl) nZ (pa_cons (pe_fld (pv 0) rfl) (pa_cons (pe_fld (pv 0) rfl) pa_nil))) (pg_tup rfl (pgs_cons (pg_name (i := 3) scAm.nd rfl (.inl rfl)) (pgs_cons (pg_name (i := 4) scAm.nd rfl (.inl rfl)) pgs_nil)))
        (pss_one (ps_asg (pe_ix ix_list (pv 4) (pv 1) (fun _ _ => rfl)) (pg_sub (pv 2) (pv 3) set_list))))
      (pss_one (ps_ret (pe_slice sl_list (pv 2) po_none (po_some (pe_callB call_len_seq (by rfl) nL PySem.boot_len (pa_cons (pe_fld (pv 0) rfl) pa_nil)))))))), ?rd⟩
    have hn := hx.n1
    have hm := hx.m1
    refine ⟨(by show 1 ≤ sizeLine; decide), fun l nl => ?_⟩
    have s1 := same_new (o := .lst [.int 0]) nl
    have e1 : (upd H l (.lst [.int 0])) l = some (.lst [.int 0]) := upd_same
    generalize upd H l (.lst [.int 0]) = H1 at s1 e1 ⊢
    refine ⟨_, rfl, x.t, C, x.dx, _, _, rfl, s1 _ _ hx.o, TC.cl, TC.nB, t5_bound, x.bp, _, rfl, .inl (SqL.of (s1 _ _ hx.b)), ?_⟩
    rw [fl_len]
    refine ⟨l, _, _, rfl, rfl, e1, by omega, by omega, ?_, fun p np => ?_⟩
    · rw [Int.toNat_natCast]
      exact Nat.le_trans (show [V.int 0].length * (x.n + x.m) ≤ 200 by rw [List.length_singleton]; omega) (by decide)
    rw [Int.toNat_natCast, rep_fl]
    have s2 := s1.trans (same_new (o := .lst (fl (x.n + x.m) fun _ => .int 0)) np)
    have e2 : (upd H1 p (.lst (fl (x.n + x.m) fun _ => .int 0))) p = some (.lst (fl (x.n + x.m) fun _ => .int 0)) := upd_same
    have np0 := s1.free np
    generalize upd H1 p (.lst (fl (x.n + x.m) fun _ => .int 0)) = H2 at s2 e2 ⊢
    refine ⟨_, rfl, x.t, C, x.dx, _, _, rfl, s2 _ _ hx.o, TC.cl, TC.nD, t5_divisor, _, rfl, _, rfl, x.t, C, x.dx, _, _, rfl, s2 _ _ hx.o, TC.cl, TC.nH, t5_heads, _, rfl, x.hp, _, (f : Nat), _, rfl, rfl, SqL.of (s2 _ _ hx.h), at_fl hf,
      p, _, (x.hd f : Nat), x.hd f, rfl, rfl, e2, ixN_fl (W.l f hf), ?_⟩
    rw [fl_setI (W.l f hf)]
    have s3 : Same H (upd H2 p (.lst (fl (x.n + x.m) fun k => .int (if k = x.hd f then x.d else 0)))) := same_upd s2 np0
    have e3 : (upd H2 p (.lst (fl (x.n + x.m) fun k => .int (if k = x.hd f then x.d else 0)))) p = some (.lst (fl (x.n + x.m) fun k => .int (if k = x.hd f then x.d else 0))) := upd_same
    generalize upd H2 p (.lst (fl (x.n + x.m) fun k => .int (if k = x.hd f then x.d else 0))) = H3 at s3 e3 ⊢
    refine ⟨_, rfl, x.t, C, x.dx, _, _, rfl, s3 _ _ hx.o, TC.cl, TC.nS, t5_sides, _, rfl, x.t, C, x.dx, _, _, rfl, s3 _ _ hx.o, TC.cl, TC.nR, t5_rows, x.sp, x.rp, _, _, rfl, SqL.of (s3 _ _ hx.s), SqL.of (s3 _ _ hx.r), ?_⟩
    refine for_it (walk_zip (K := K) (a := x.sp) (b := x.rp) (xs := fl x.m fun i => .int (x.sd i : Nat)) (ys := fl (x.m + 1) fun i => .ref (x.ra i)) (n := x.m) (by rw [fl_len, fl_len]; omega))
      (fun i σ H' => ∃ (x3 x4 : Option V) (g : Nat → Int), σ = [some (.ref x.t), some (.int (f : Nat)), some (.ref p), x3, x4] ∧ Same H H' ∧ H' p = some (.lst (fl (x.n + x.m) fun k => .int (g k))) ∧ (∀ k, (∀ j, j < i → k ≠ x.sd j) → g k = if k = x.hd f then x.d else 0) ∧ ∀ j, j < i → g (x.sd j) = x.T j f)
      ⟨none, none, _, rfl, s3, e3, fun k _ => rfl, fun j hj => absurd hj (Nat.not_lt_zero _)⟩ (fun i σ H' _ ⟨_, _, _, _, z, _⟩ => ⟨SqL.of (z _ _ hx.s), SqL.of (z _ _ hx.r)⟩) ?_ ?_
    · rintro i v σ H' H'' hi ⟨x3, x4, g, rfl, z, ep, g1, g2⟩ ⟨T', u1, u2, rfl, hT, rfl, hu1, hu2⟩
      obtain ⟨_, rfl⟩ := fl_inv hu1
      obtain ⟨him, rfl⟩ := fl_inv hu2
      have sT := same_new (o := .tup [.int (x.sd i : Nat), .ref (x.ra i)]) hT
      have zT := z.trans sT
      refine ⟨T', _, rfl, SqT.of upd_same, rfl, _, _, rfl, _, _, rfl, rfl, ?_⟩
      refine ⟨_, rfl, _, rfl, x.ra i, _, (f : Nat), _, rfl, rfl, SqL.of (zT _ _ (hx.rr i him)), at_fl hf, _, rfl, _, rfl, p, _, (x.sd i : Nat), x.sd i, rfl, rfl, sT _ _ ep, ixN_fl (W.k i hi), ?_⟩
      rw [fl_setI (W.k i hi)]
      refine ⟨_, _, fun k => if k = x.sd i then x.T i f else g k, rfl, same_upd zT np0, upd_same, fun k hk => ?_, fun j hj => ?_⟩
      · dsimp only
        rw [if_neg (hk i (Nat.lt_succ_self i))]
        exact g1 k fun j hj => hk j (by omega)
      · dsimp only
        by_cases c : j = i
        · rw [c, if_pos rfl]
        · rw [if_neg (fun e => c (W.s j i (by omega) hi e))]
          exact g2 j (by omega)
    · rintro σ H' ⟨x3, x4, g, rfl, z, ep, g1, g2⟩
      refine ⟨_, rfl, ?_⟩
      dsimp only [tNoPart]
      refine ⟨_, rfl, x.t, C, x.dx, _, _, rfl, z _ _ hx.o, TC.cl, TC.nH, t5_heads, x.hp, _, rfl, .inl (SqL.of (z _ _ hx.h)), ?_⟩
      rw [fl_len]
      refine ⟨_, rfl, p, _, rfl, SqL.of ep, fun p2 np2 => ?_⟩
      rw [fl_take (by omega)]
      refine q p2 _ (z.trans (same_new np2)) (z.free np2) ?_
      rw [upd_same]
      refine congrArg (fun l => some (HO.lst l)) (fl_congr fun c hc => congrArg V.int ?_)
      rcases W.c c (by omega) with ⟨j, hj, rfl⟩ | ⟨i, hi, rfl⟩
      · rw [val_head W hf hj, g1 _ fun i hi e => W.d i j hi hj e.symm]
        by_cases d : j = f
        · rw [d, if_pos rfl, if_pos rfl]
        · rw [if_neg d, if_neg fun e => d (W.h j f hj hf e)]
      · rw [val_side W hf hi, g2 i hi]
theorem ok_costs {f C : Addr} {fd : FuncData} (F : Fun K "costs" "Table.costs" pCosts f fd) (TC : TabC K C) (nL : mg "len" = none) (nZ : mg "zip" = none) : FnOk P w K mg base CX0 1 f fd ["self"] (spCosts C) := by
  refine F.ok scCs (fun vs H Q E h => ?_) (fun cdv A outer s H vs Q E hr h => ?_)
  · obtain ⟨x, rfl, _⟩ := h
    rfl
  · obtain ⟨x, rfl, hx, W, q⟩ := h
    refine ⟨_, pss_cons (ps_set (i := 1) scCs.nd rfl (.inl rfl) (pe_op op_rep (pe_lst (pa_cons pe_int pa_nil)) (pe_callB call_len_seq (by rfl) nL PySem.boot_len (pa_cons (pe_fld (pv 0) rfl) pa_nil))))
      (pss_cons (ps_for PassesOwn.never rfl (pi_zip (by rfl) nZ (pa_cons (pe_fld (pv 0) rfl) (pa_cons (pe_ix ix_list (pe_fld (pv 0) rfl) (pe_un un_neg pe_int) (fun _ _ => rfl)) pa_nil))) (pg_tup rfl (pgs_cons (pg_name (i := 2) scCs.nd rfl (.inl rfl)) (pgs_cons (pg_name (i := 3) scCs.nd rfl (.inl rfl)) pgs_nil)))
        (pss_one (ps_asg (pe_un un_neg (pv 3)) (pg_sub (pv 1) (pv 2) set_list))))
      (pss_one (ps_ret (pe_slice sl_list (pv 1) (po_some (pe_callB call_len_seq (by rfl) nL PySem.boot_len (pa_cons (pe_fld (pv 0) rfl) pa_nil))) po_none)))), ?rd⟩
    have hn := hx.n1
    have hm := hx.m1
    refine ⟨(by show 1 ≤ sizeLine; decide), fun l nl => ?_⟩
    have s1 := same_new (o := .lst [.int 0]) nl
    have e1 : (upd H l (.lst [.int 0])) l = some (.lst [.int 0]) := upd_same
    generalize upd H l (.lst [.int 0]) = H1 at s1 e1 ⊢
    refine ⟨_, rfl, x.t, C, x.dx, _, _, rfl, s1 _ _ hx.o, TC.cl, TC.nB, t5_bound, x.bp, _, rfl, .inl (SqL.of (s1 _ _ hx.b)), ?_⟩
    rw [fl_len]
    refine ⟨l, _, _, rfl, rfl, e1, by omega, by omega, ?_, fun p np => ?_⟩
    · rw [Int.toNat_natCast]
      exact Nat.le_trans (show [V.int 0].length * (x.n + x.m) ≤ 200 by rw [List.length_singleton]; omega) (by decide)
    rw [Int.toNat_natCast, rep_fl]
    have s2 := s1.trans (same_new (o := .lst (fl (x.n + x.m) fun _ => .int 0)) np)
    have e2 : (upd H1 p (.lst (fl (x.n + x.m) fun _ => .int 0))) p = some (.lst (fl (x.n + x.m) fun _ => .int 0)) := upd_same
    have np0 := s1.free np
    generalize upd H1 p (.lst (fl (x.n + x.m) fun _ => .int 0)) = H2 at s2 e2 ⊢
    refine ⟨_, rfl, x.t, C, x.dx, _, _, rfl, s2 _ _ hx.o, TC.cl, TC.nH, t5_heads, _, rfl, x.t, C, x.dx, _, _, rfl, s2 _ _ hx.o, TC.cl, TC.nR, t5_rows, _, rfl, x.rp, _, -1, _, rfl, rfl, SqL.of (s2 _ _ hx.r), at_flL, x.hp, x.ra x.m, _, _, rfl, SqL.of (s2 _ _ hx.h), SqL.of (s2 _ _ (hx.rr x.m (by omega))), ?_⟩
    refine for_it (walk_zip (K := K) (a := x.hp) (b := x.ra x.m) (xs := fl x.n fun i => .int (x.hd i : Nat)) (ys := fl x.n fun j => .int (x.T x.m j)) (n := x.n) (by rw [fl_len, fl_len]; omega))
      (fun i σ H' => ∃ (x3 x4 : Option V) (g : Nat → Int), σ = [some (.ref x.t), some (.ref p), x3, x4] ∧ Same H H' ∧ H' p = some (.lst (fl (x.n + x.m) fun k => .int (g k))) ∧ (∀ k, (∀ j, j < i → k ≠ x.hd j) → g k = 0) ∧ ∀ j, j < i → g (x.hd j) = -x.T x.m j)
      ⟨none, none, _, rfl, s2, e2, fun k _ => rfl, fun j hj => absurd hj (Nat.not_lt_zero _)⟩ (fun i σ H' _ ⟨_, _, _, _, z, _⟩ => ⟨SqL.of (z _ _ hx.h), SqL.of (z _ _ (hx.rr x.m (by omega)))⟩) ?_ ?_
    · rintro i v σ H' H'' hi ⟨x3, x4, g, rfl, z, ep, g1, g2⟩ ⟨T', u1, u2, rfl, hT, rfl, hu1, hu2⟩
      obtain ⟨_, rfl⟩ := fl_inv hu1
      obtain ⟨_, rfl⟩ := fl_inv hu2
      have sT := same_new (o := .tup [.int (x.hd i : Nat), .int (x.T x.m i)]) hT
      have zT := z.trans sT
      refine ⟨T', _, rfl, SqT.of upd_same, rfl, _, _, rfl, _, _, rfl, rfl, ?_⟩
      refine ⟨_, rfl, _, rfl, _, rfl, _, rfl, p, _, (x.hd i : Nat), x.hd i, rfl, rfl, sT _ _ ep, ixN_fl (W.l i hi), ?_⟩
      rw [fl_setI (W.l i hi)]
      refine ⟨_, _, fun k => if k = x.hd i then -x.T x.m i else g k, rfl, same_upd zT np0, upd_same, fun k hk => ?_, fun j hj => ?_⟩
      · dsimp only
        rw [if_neg (hk i (Nat.lt_succ_self i))]
        exact g1 k fun j hj => hk j (by omega)
      · dsimp only
        by_cases c : j = i
        · rw [c, if_pos rfl]
        · rw [if_neg (fun e => c (W.h j i (by omega) hi e))]
          exact g2 j (by omega)
    · rintro σ H' ⟨x3, x4, g, rfl, z, ep, g1, g2⟩
      refine ⟨_, rfl, _, rfl, x.t, C, x.dx, _, _, rfl, z _ _ hx.o, TC.cl, TC.nH, t5_heads, x.hp, _, rfl, .inl (SqL.of (z _ _ hx.h)), ?_⟩
      rw [fl_len]
      refine ⟨_, rfl, ?_⟩
      dsimp only [tNoPart]
      refine ⟨p, _, rfl, SqL.of ep, fun p2 np2 => ?_⟩
      rw [fl_drop]
      refine q p2 _ (z.trans (same_new np2)) (z.free np2) ?_
      rw [upd_same]
      refine congrArg (fun l => some (HO.lst l)) (fl_congr fun c hc => congrArg V.int ?_)
      by_cases ex : ∃ j, j < x.n ∧ x.hd j = x.n + c
      · obtain ⟨j, hj, e⟩ := ex
        rw [← e, cost_head W hj, g2 j hj]
      · rw [g1 _ fun j hj e => ex ⟨j, hj, e.symm⟩]
        unfold cost
        rw [dif_neg ex]
end
end K73
namespace K73
open PySem PySem.Spec PyProof.Rows L2 GD GM
abbrev pBasic : Stmt := top 60
section
variable {P : Program} {w : World} {K : PySem.W.Frag} {mg : Str → Option Value} {base : Heap}
abbrev NBc : List Str := ["manners", "found", "job", "manner", "begin", "end", "loose"]
theorem scBc : FnScope NBc ["manners"] (defScope pBasic) := ⟨rfl, rfl, rfl, by decide +kernel, rfl, by decide +kernel, by decide +kernel⟩
theorem ok_basic {f : Addr} {fd : FuncData} (F : Fun K "basic_stocks" "basic_stocks" pBasic f fd) (G : Chgs K w mg) (nE : mg "enumerate" = none) : FnOk P w K mg base CX0 1 f fd ["manners"] (spBasic K) := by
  obtain ⟨⟨pM, gM, tM⟩, pC, gC, hC⟩ := G
  refine F.ok scBc (fun vs H Q E h => ?_) (fun cdv A outer s H vs Q E hr h => ?_)
  · obtain ⟨m, ms, rfl, _⟩ := h
    rfl
  · obtain ⟨m, ms, rfl, hm, h4, hl, q⟩ := h
    refine ⟨_, pss_cons (ps_set (i := 1) scBc.nd rfl (.inl rfl) (pe_lst (pa_cons (pe_glob (v := .ref pM) (by rfl) gM rfl) pa_nil)))
      (pss_cons (ps_for PassesOwn.never rfl (pi_enumT (by rfl) nE (pa_cons (pv 0) pa_nil)) (pg_tup rfl (pgs_cons (pg_name (i := 2) scBc.nd rfl (.inr rfl)) (pgs_cons (pg_name (i := 3) scBc.nd rfl (.inl rfl)) pgs_nil)))
        (pss_one (ps_expr (pe_bm PySem.F.plainAttrs_list PySem.F.slot_list_extend PySem.F.type_list_extend mt_extend (pv 1) (pa_cons (pe_lc (own := [("begin", 4), ("end", 5), ("loose", 6)]) (g := gTup K 3 (gCons (gName 4) (gCons (gName 5) (gCons (gName 6) gNil)))) (tt := tYes) rfl scBc.nd
          (pi_tup (pe_ix ix_kdict (pe_glob (v := .ref pC) (by rfl) gC rfl) (pv 3) (fun _ _ => rfl))) (blkOk_by (N := NBc) (sc := defScope pBasic) (by decide +kernel))
          (fun _ _ _ _ _ => pg_tup rfl (pgs_cons (pg_name (i := 4) scBc.nd rfl (.inl rfl)) (pgs_cons (pg_name (i := 5) scBc.nd rfl (.inl rfl)) (pgs_cons (pg_name (i := 6) scBc.nd rfl (.inl rfl)) pgs_nil)))) (fun _ _ _ _ _ => pts_nil)
          (fun _ _ _ _ _ => pe_tup (pa_cons pe_int (pa_cons (pv 2) (pa_cons (pv 4) (pa_cons (pv 5) (pa_cons (pv 6) pa_nil))))))) pa_nil)))))
      (pss_one (ps_ret (pv 1)))), ?rd⟩
    refine ⟨(by show 1 ≤ sizeLine; decide), fun p np => ?_⟩
    have sp := same_new (o := .lst [.ref pM]) np
    refine ⟨_, rfl, m, _, rfl, SqT.of (sp _ _ hm), ?_⟩
    refine for_it (walk_enumT (K := K) (a := m) (xs := ms.map V.str)) (fun i σ H' => ∃ (x2 x3 : Option V), σ = [some (.ref m), some (.ref p), x2, x3, none, none, none] ∧ Same H H' ∧ BasAt K H' p (basics (ms.take i)))
      ⟨none, none, rfl, sp, [.ref pM], upd_same, rfl, fun i v hv => ?_⟩ (fun i σ H' _ ⟨_, _, _, z, _⟩ => SqT.of (z _ _ hm)) ?_ ?_
    · cases i with
      | zero =>
        obtain rfl := Option.some.inj hv
        exact ⟨pM, morn, rfl, rfl, tM _⟩
      | succ i => cases hv
    · rintro i v σ H' H'' hi ⟨x2, x3, rfl, z, xs, ep, lx, ax⟩ ⟨T', u1, u2, rfl, hT, rfl, hu1, hu2⟩
      rw [List.length_map] at hi
      obtain rfl := Option.some.inj hu1
      have hu3 : (ms.map V.str)[i]? = some u2 := hu2
      rw [List.getElem?_map, List.getElem?_eq_getElem hi] at hu3
      obtain rfl := Option.some.inj hu3
      clear hu2
      have hmem : ms[i] ∈ ms := List.getElem_mem hi
      obtain ⟨pt, qs, kd, tq, lq, aq⟩ := hC _ (h4 _ hmem)
      have sT := same_new (o := .tup [.int (i : Nat), .str ms[i]]) hT
      have epT := sT _ _ ep
      refine ⟨T', _, rfl, SqT.of upd_same, rfl, _, _, rfl, _, _, rfl, rfl, ?_⟩
      refine ⟨_, rfl, .inl ⟨rfl, _, .inl (.inl epT)⟩, ?_⟩
      refine ⟨_, rfl, pC, ms[i], .ref pt, rfl, rfl, kd, pt, rfl, ⟨_, tq _⟩, fun D hD => ?_⟩
      have c2 := chg_len ms[i]
      have nDp : D ≠ p := fun e => ne_of_none epT hD e.symm
      generalize upd H' T' (.tup [.int (i : Nat), .str ms[i]]) = H0 at sT epT hD ⊢
      refine lc_it (walk_tup (K := K) (a := pt) (xs := qs.map V.ref)) (fun k H2 => Same H0 H2 ∧ ∃ ys, H2 D = some (.lst ys) ∧ ys.length = k ∧ ∀ (j : Nat) (v : V), ys[j]? = some v → ∃ q c, (chg ms[i])[j]? = some c ∧ v = V.ref q ∧ q ≠ D ∧ H2 q = some (.tup [.int 0, .int (i : Nat), .int c.1, .int c.2.1, .bl c.2.2]))
        ⟨same_new hD, [], upd_same, rfl, fun j v h => (by cases h)⟩ (fun k H2 _ _ => tq H2) ?_ ?_
      · rintro k v H2 H3 hk ⟨z2, ys, eD, ly, ay⟩ ⟨rfl, hv⟩
        rw [List.getElem?_map] at hv
        rw [List.length_map] at hk
        rw [List.getElem?_eq_getElem hk] at hv
        obtain rfl := Option.some.inj hv
        obtain ⟨c, ec, tc⟩ := aq k _ (List.getElem?_eq_getElem hk)
        refine ⟨qs[k], _, rfl, tc _, rfl, _, _, rfl, _, _, rfl, _, _, rfl, rfl, rfl, ?_⟩
        refine ⟨_, rfl, _, rfl, _, rfl, _, rfl, (by show 5 ≤ sizeLine; decide), fun q nq => ?_⟩
        have sq := same_new (o := .tup [.int 0, .int (i : Nat), .int c.1, .int c.2.1, .bl c.2.2]) nq
        have nqD : q ≠ D := fun e => ne_of_none eD nq e.symm
        refine ⟨ys, sq _ _ eD, ?_, same_upd (z2.trans sq) hD, ys ++ [.ref q], upd_same, by rw [List.length_append, ly]; rfl, fun j v hj => ?_⟩
        · exact Nat.lt_of_lt_of_le (show ys.length < 10 by omega) (by decide)
        · by_cases w : j < ys.length
          · rw [List.getElem?_append_left w] at hj
            obtain ⟨q', c', e1, e2, e3, e4⟩ := ay j v hj
            exact ⟨q', c', e1, e2, e3, by rw [upd_ne e3]; exact sq _ _ e4⟩
          · have hl2 := (List.getElem?_eq_some_iff.mp hj).1
            rw [List.length_append, List.length_singleton] at hl2
            obtain rfl : j = ys.length := by omega
            rw [List.getElem?_append_right (Nat.le_refl _), Nat.sub_self] at hj
            obtain rfl := Option.some.inj hj
            exact ⟨q, c, by rw [ly]; exact ec, rfl, nqD, by rw [upd_ne nqD, upd_same]⟩
      · rintro H2 ⟨z2, ys, eD, ly, ay⟩
        rw [List.length_map] at ly
        have zz := z.trans (sT.trans z2)
        have ep2 := z2 _ _ epT
        have bl := basFrom_len (ms.take i) 0
        rw [List.length_take, Nat.min_eq_left (by omega)] at bl
        have lxb : xs.length ≤ 9 := by
          rw [lx]
          show (basFrom 0 (ms.take i)).length + 1 ≤ 9
          omega
        refine ⟨p, D, _, _, rfl, rfl, ep2, eD, Nat.le_trans (show xs.length + ys.length ≤ 20 by omega) (by decide), ?_⟩
        refine ⟨_, _, rfl, same_upd zz np, xs ++ ys, upd_same, ?_, fun j v hj => ?_⟩
        · rw [List.length_append, lx, ly, lq, List.take_add_one, List.getElem?_eq_getElem hi]
          show _ = (morn :: basFrom 0 (ms.take i ++ [ms[i]])).length
          rw [basFrom_snoc]
          show (basFrom 0 (ms.take i)).length + 1 + _ = _
          rw [List.length_cons, List.length_append, List.length_map]
          omega
        · have eb : basics (ms.take (i + 1)) = basics (ms.take i) ++ (chg ms[i]).map (ofC i) := by
            rw [List.take_add_one, List.getElem?_eq_getElem hi]
            show morn :: basFrom 0 (ms.take i ++ [ms[i]]) = (morn :: basFrom 0 (ms.take i)) ++ _
            rw [basFrom_snoc, List.length_take, Nat.min_eq_left (by omega), Nat.zero_add]
            rfl
          rw [eb]
          have ne : ∀ q o, H2 q = some (.tup o) → q ≠ p := fun q o e => ne_of e ep2 (fun z => by cases z)
          by_cases w : j < xs.length
          · rw [List.getElem?_append_left w] at hj
            obtain ⟨q', b, e1, e2, e3⟩ := ax j v hj
            have w' : j < (basics (ms.take i)).length := by rw [← lx]; exact w
            refine ⟨q', b, by rw [List.getElem?_append_left w']; exact e1, e2, ?_⟩
            have e4 := seqT_same (sT.trans z2) e3
            exact seqT_lst ep2 e4
          · rw [List.getElem?_append_right (by omega)] at hj
            obtain ⟨q', c, e1, e2, e3, e4⟩ := ay _ v hj
            refine ⟨q', ofC i c, ?_, e2, SqT.of (by rw [upd_ne (ne _ _ e4)]; exact e4)⟩
            rw [List.getElem?_append_right (by omega), List.getElem?_map, ← lx, e1]
            rfl
    · rintro σ H' ⟨x2, x3, rfl, z, hb⟩
      rw [List.length_map, List.take_length] at hb
      exact ⟨_, rfl, q p H' z np hb⟩
end
end K73
namespace GD
open PySem PySem.Spec PyProof.Rows L2 GM
def diffS (s t : Stn) : Stn := List.zipWith (fun p q => (p.1 - q.1, p.2 - q.2)) s t
def spDiff : Sp := fun vs H Q _ => ∃ (x y : V) (s t : Stn), vs = [x, y] ∧ Fz H x (eS s) ∧ Fz H y (eS t) ∧ s.length = t.length ∧ s.length ≤ 10 ∧ ∀ v H', Same H H' → Fz H' v (eS (diffS s t)) → Q v H'
/-- basic stocks whose jobs are below k -/
def BasIn (k : Nat) (bs : List Bas) : Prop := (∀ b ∈ bs, b.j < k ∧ -1 ≤ b.fi ∧ b.fi ≤ 1 ∧ -1 ≤ b.be ∧ b.be ≤ 1 ∧ -1 ≤ b.en ∧ b.en ≤ 1) ∧ bs.length ≤ 50
def spLevels (K : PySem.W.Frag) : Sp := fun vs H Q _ => ∃ (l am : Addr) (bs : List Bas) (one : Int) (y : V) (ps : Stn), vs = [.ref l, .ref am] ∧ BasAt K H l bs ∧ H am = some (.tup [.int one, y]) ∧ Fz H y (eS ps) ∧ BasIn ps.length bs ∧
  ∀ p H', Same H H' → H p = none → H' p = some (.lst (fl bs.length fun i => .int (levF bs one ps i))) → Q (.ref p) H'
/-- what goes into the levels of a fact -/
def fOne : Fact → Int
  | .as_ _ _ => 0
  | _ => 1
def fPs : Fact → Stn
  | .let_ s => s
  | .not_ s => s
  | .as_ s t => diffS s t
/-- all standings of a fact have k pairs -/
def FLen (k : Nat) : Fact → Prop
  | .let_ s => s.length = k
  | .not_ s => s.length = k
  | .as_ s t => s.length = k ∧ t.length = k
def spFactLevels (K : PySem.W.Frag) : Sp := fun vs H Q _ => ∃ (l : Addr) (v : V) (bs : List Bas) (f : Fact) (k : Nat), vs = [.ref l, v] ∧ BasAt K H l bs ∧ Fz H v (eF f) ∧ kindS f ≠ "not" ∧ FLen k f ∧ k ≤ 10 ∧ BasIn k bs ∧
  ∀ p H', Same H H' → H p = none → H' p = some (.lst (fl bs.length fun i => .int (levF bs (fOne f) (fPs f) i))) → Q (.ref p) H'
theorem diffS_len {s t : Stn} (h : s.length = t.length) : (diffS s t).length = s.length := by
  unfold diffS
  rw [List.length_zipWith, h, Nat.min_self]
end GD
namespace K73
open PySem PySem.Spec PyProof.Rows L2 GD GM
abbrev pLevels : Stmt := top 61
abbrev pFactLevels : Stmt := top 62
abbrev pDiff : Stmt := top 63
section
variable {P : Program} {w : World} {K : PySem.W.Frag} {mg : Str → Option Value} {base : Heap}
abbrev NLs : List Str := ["basics", "aim", "one", "pairs", "first", "job", "begin", "end", "_"]
theorem scLs : FnScope NLs ["basics", "aim"] (defScope pLevels) := ⟨rfl, rfl, rfl, by decide +kernel, rfl, by decide +kernel, by decide +kernel⟩
theorem ok_levels {f : Addr} {fd : FuncData} (F : Fun K "levels" "levels" pLevels f fd) : FnOk P w K mg base CX0 1 f fd ["basics", "aim"] (spLevels K) := by
  refine F.ok scLs (fun vs H Q E h => ?_) (fun cdv A outer s H vs Q E hr h => ?_)
  · obtain ⟨l, am, bs, one, y, ps, rfl, _⟩ := h
    rfl
  · obtain ⟨l, am, bs, one, y, ps, rfl, hb, ham, fy, ⟨hin, hl⟩, q⟩ := h
    refine ⟨_, pss_cons (ps_asg (pv 1) (pg_tup rfl (pgs_cons (pg_name (i := 2) scLs.nd rfl (.inr rfl)) (pgs_cons (pg_name (i := 3) scLs.nd rfl (.inr rfl)) pgs_nil))))
      (pss_one (ps_ret (pe_lc (own := [("first", 4), ("job", 5), ("begin", 6), ("end", 7), ("_", 8)]) (g := gTup K 5 (gCons (gName 4) (gCons (gName 5) (gCons (gName 6) (gCons (gName 7) (gCons (gName 8) gNil)))))) (tt := tYes) rfl scLs.nd (pi_list (pv 0)) (blkOk_by (N := NLs) (sc := defScope pLevels) (by decide +kernel))
        (fun _ _ _ _ _ => pg_tup rfl (pgs_cons (pg_name (i := 4) scLs.nd rfl (.inl rfl)) (pgs_cons (pg_name (i := 5) scLs.nd rfl (.inl rfl)) (pgs_cons (pg_name (i := 6) scLs.nd rfl (.inl rfl)) (pgs_cons (pg_name (i := 7) scLs.nd rfl (.inl rfl)) (pgs_cons (pg_name (i := 8) scLs.nd rfl (.inl rfl)) pgs_nil))))))
        (fun _ _ _ _ _ => pts_nil)
        (fun _ _ _ _ _ => pe_op op_add (pe_op op_add (pe_op op_mul (pv 4) (pv 2)) (pe_op op_mul (pv 6) (pe_ix (r := rIxT K) ix_tup (pe_ix (r := rIxT K) ix_tup (pv 3) (pv 5) (fun _ _ => rfl)) pe_int (fun _ _ => rfl)))) (pe_op op_mul (pv 7) (pe_ix (r := rIxT K) ix_tup (pe_ix (r := rIxT K) ix_tup (pv 3) (pv 5) (fun _ _ => rfl)) pe_int (fun _ _ => rfl))))))), ?rd⟩
    obtain ⟨xs, el, lx, ax⟩ := id hb
    obtain ⟨ya, yx, rfl, hya, fs⟩ := fy.t
    refine ⟨_, rfl, am, _, rfl, SqT.of ham, rfl, _, _, rfl, _, _, rfl, rfl, ?_⟩
    show Ends.nx _ ([some (.ref l), some (.ref am), some (.int one), some (.ref ya), none, none, none, none, none] : L2.St) H
    refine ⟨_, rfl, l, rfl, ⟨_, SqL.of el⟩, fun D hD => ?_⟩
    refine lc_it (walk_list (K := K) (a := l) (xs := xs)) (fun i H2 => Same H H2 ∧ H2 D = some (.lst (fl i fun i => .int (levF bs one ps i)))) ⟨same_new hD, upd_same⟩ (fun i H2 _ ⟨z, _⟩ => SqL.of (z _ _ el)) ?_ ?_
    · rintro i v H2 H3 hi ⟨z, eD⟩ ⟨rfl, hv⟩
      obtain ⟨t, b, eb, rfl, ht⟩ := ax i v hv
      obtain ⟨hj, h1, h2, h3, h4, h5, h6⟩ := hin b (List.mem_of_getElem? eb)
      obtain ⟨u, hu, fu⟩ := fs.getM (i := b.j) (j := ps[b.j]) (List.getElem?_eq_getElem hj)
      obtain ⟨b1, u1, u2, rfl, hb1, i1, i2⟩ := fu.t2
      obtain rfl := i1.i
      obtain rfl := i2.i
      refine ⟨t, _, rfl, seqT_same z ht, rfl, _, _, rfl, _, _, rfl, _, _, rfl, _, _, rfl, _, _, rfl, rfl, wipe5 (by decide), ?_⟩
      dsimp only [List.map, wipe, List.set_cons_zero, List.set_cons_succ, tYes]
      have a1 : atI yx ((b.j : Nat) : Int) = some (.ref b1) := atI_nat hu
      refine ⟨_, rfl, _, rfl, _, _, rfl, rfl, .inl ⟨by omega, by omega⟩, _, rfl, _, rfl, _, rfl, ya, _, (b.j : Nat), _, rfl, rfl, SqT.of (z _ _ hya), a1, b1, _, 0, _, rfl, rfl, SqT.of (z _ _ hb1), at0, _, _, rfl, rfl, .inl ⟨by omega, by omega⟩, _, _, rfl, rfl,
        _, rfl, _, rfl, _, rfl, ya, _, (b.j : Nat), _, rfl, rfl, SqT.of (z _ _ hya), a1, b1, _, 1, _, rfl, rfl, SqT.of (z _ _ hb1), at1, _, _, rfl, rfl, .inl ⟨by omega, by omega⟩, _, _, rfl, rfl, _, eD, ?_, same_upd z hD, ?_⟩
      · rw [fl_len]
        exact Nat.lt_of_lt_of_le (show i < 51 by omega) (by decide)
      · rw [upd_same]
        have e : levF bs one ps i = b.fi * one + b.be * ps[b.j].1 + b.en * ps[b.j].2 := by
          unfold levF lev
          rw [show bs.getD i defB = b by rw [List.getD_eq_getElem?_getD, eb]; rfl, show ps.getD b.j (0, 0) = ps[b.j] by rw [List.getD_eq_getElem?_getD, List.getElem?_eq_getElem hj]; rfl]
        dsimp only
        rw [← e]
        exact congrArg (fun l => some (HO.lst l)) (fl_snoc i fun i => .int (levF bs one ps i))
    · rintro H2 ⟨z, eD⟩
      rw [lx] at eD
      exact q D H2 z hD eD
abbrev NDf : List Str := ["pairs", "others", "begun", "ended", "before", "behind"]
theorem scDf : FnScope NDf ["pairs", "others"] (defScope pDiff) := ⟨rfl, rfl, rfl, by decide +kernel, rfl, by decide +kernel, by decide +kernel⟩
theorem ok_diff {f : Addr} {fd : FuncData} (F : Fun K "difference" "difference" pDiff f fd) (nZ : mg "zip" = none) (nT : mg "tuple" = none) : FnOk P w K mg base CX0 1 f fd ["pairs", "others"] spDiff := by
  refine F.ok scDf (fun vs H Q E h => ?_) (fun cdv A outer s H vs Q E hr h => ?_)
  · obtain ⟨x, y, s, t, rfl, _⟩ := h
    rfl
  · obtain ⟨x, y, s, t, rfl, fx, fy, hl, hs, q⟩ := h
    refine ⟨_, pss_one (ps_ret (pe_callTy call_tuple_of (by rfl) nT (by decide +kernel) (pa_cons (pe_lc (own := [("begun", 2), ("ended", 3), ("before", 4), ("behind", 5)])
        (g := gTup K 2 (gCons (gTup K 2 (gCons (gName 2) (gCons (gName 3) gNil))) (gCons (gTup K 2 (gCons (gName 4) (gCons (gName 5) gNil))) gNil))) (tt := tYes) rfl scDf.nd (RZ.pi_zipA (by rfl) nZ (pa_cons (pv 0) (pa_cons (pv 1) pa_nil))) (blkOk_by (N := NDf) (sc := defScope pDiff) (by decide +kernel))
        (fun _ _ _ _ _ => pg_tup rfl (pgs_cons (pg_tup rfl (pgs_cons (pg_name (i := 2) scDf.nd rfl (.inl rfl)) (pgs_cons (pg_name (i := 3) scDf.nd rfl (.inl rfl)) pgs_nil))) (pgs_cons (pg_tup rfl (pgs_cons (pg_name (i := 4) scDf.nd rfl (.inl rfl)) (pgs_cons (pg_name (i := 5) scDf.nd rfl (.inl rfl)) pgs_nil))) pgs_nil)))
        (fun _ _ _ _ _ => pts_nil) (fun _ _ _ _ _ => pe_tup (pa_cons (pe_op op_sub (pv 2) (pv 4)) (pa_cons (pe_op op_sub (pv 3) (pv 5)) pa_nil)))) pa_nil))), ?rd⟩
    obtain ⟨ca, cx, rfl, hca, fc⟩ := fx.t
    obtain ⟨ya, yx, rfl, hya, fs⟩ := fy.t
    have lx : cx.length = s.length := by rw [fc.len, List.length_map]
    have ly : yx.length = s.length := by rw [fs.len, List.length_map, hl]
    refine ⟨_, rfl, _, rfl, ca, ya, cx, yx, rfl, .inr ⟨SqT.of hca, SqT.of hya, fun D hD => ?_⟩⟩
    refine lc_it (walk_zipT (K := K) (a := ca) (b := ya) (xs := cx) (ys := yx) (n := s.length) lx.symm ly.symm) (fun i H2 => Same H H2 ∧ ∃ acc, H2 D = some (.lst acc) ∧ FzAll H2 acc (((diffS s t).take i).map eP)) ⟨same_new hD, [], upd_same, by rw [List.take_zero]; exact .nil⟩ (fun i H2 _ ⟨z, _⟩ => ⟨SqT.of (z _ _ hca), SqT.of (z _ _ hya)⟩) ?_ ?_
    · rintro i v H2 H3 hi ⟨z, acc, eD, fa⟩ ⟨T', u1, u2, rfl, hT, rfl, hu1, hu2⟩
      obtain ⟨p, hp, f1⟩ := fc.atM hu1
      obtain ⟨r, hr2, f2⟩ := fs.atM hu2
      obtain ⟨b1, x1, x2, rfl, hb1, i1, i2⟩ := f1.t2
      obtain ⟨b2, x3, x4, rfl, hb2, i3, i4⟩ := f2.t2
      obtain rfl := i1.i
      obtain rfl := i2.i
      obtain rfl := i3.i
      obtain rfl := i4.i
      have sT := same_new (o := .tup [.ref b1, .ref b2]) hT
      have e1 := sT _ _ (z _ _ hb1)
      have e2 := sT _ _ (z _ _ hb2)
      refine ⟨T', _, rfl, SqT.of upd_same, rfl, _, _, rfl, b1, _, rfl, SqT.of e1, rfl, _, _, rfl, _, _, rfl, rfl, _, _, rfl, b2, _, rfl, SqT.of e2, rfl, _, _, rfl, _, _, rfl, rfl, rfl, rfl, ?_⟩
      refine ⟨_, rfl, _, rfl, _, _, rfl, rfl, _, rfl, _, rfl, _, _, rfl, rfl, (by show 2 ≤ sizeLine; decide), fun n nn => ?_⟩
      have sn := same_new (o := .tup [.int (p.1 - r.1), .int (p.2 - r.2)]) nn
      have eD3 := sn _ _ (sT _ _ eD)
      refine ⟨acc, eD3, ?_, same_upd (z.trans (sT.trans sn)) hD, acc ++ [.ref n], upd_same, FzAll.mv (tups_lst eD3) ?_⟩
      · rw [fa.len, List.length_map, List.length_take]
        exact Nat.lt_of_le_of_lt (Nat.min_le_left _ _) (Nat.lt_of_lt_of_le (show i < 10 by omega) (by decide))
      · have ed : (diffS s t)[i]? = some (p.1 - r.1, p.2 - r.2) := by
          unfold diffS
          rw [List.getElem?_zipWith, hp, hr2]
        rw [List.take_add_one, ed]
        show FzAll _ _ (((diffS s t).take i ++ [(p.1 - r.1, p.2 - r.2)]).map eP)
        rw [List.map_append]
        exact (fa.same (sT.trans sn)).snoc (.tup upd_same (.cons (.int _) (.cons (.int _) .nil)))
    · rintro H2 ⟨z, acc, eD, fa⟩
      rw [List.take_of_length_le (by rw [diffS_len hl]; exact Nat.le_refl _)] at fa
      refine ⟨D, _, rfl, .inl ⟨SqL.of eD, fun n nn => ?_⟩⟩
      have sn := same_new (o := .tup acc) nn
      exact q _ _ (z.trans sn) (.tup upd_same (fa.same sn))
theorem scFlv : FnScope ["basics", "fact"] ["basics", "fact"] (defScope pFactLevels) := ⟨rfl, rfl, rfl, by decide +kernel, rfl, by decide +kernel, by decide +kernel⟩
theorem ok_factlevels {f fL fD : Addr} {fd fdL fdD : FuncData} (F : Fun K "fact_levels" "fact_levels" pFactLevels f fd)
    (gL : mg "levels" = some (.ref fL)) (bL : Binds K fdL ["basics", "aim"] []) (kL : PySem.W.keepIn K (.ref fL) = true) (GL : FnOk P w K mg base CX0 1 fL fdL ["basics", "aim"] (spLevels K))
    (gD : mg "difference" = some (.ref fD)) (bD : Binds K fdD ["pairs", "others"] []) (kD : PySem.W.keepIn K (.ref fD) = true) (GD' : FnOk P w K mg base CX0 1 fD fdD ["pairs", "others"] spDiff) : FnOk P w K mg base CX0 2 f fd ["basics", "fact"] (spFactLevels K) := by
  refine F.ok scFlv (fun vs H Q E h => ?_) (fun cdv A outer s H vs Q E hr h => ?_)
  · obtain ⟨l, v, bs, f, k, rfl, _⟩ := h
    rfl
  · obtain ⟨l, v, bs, f, k, rfl, hb, fz, nn, hk, hk10, hin, q⟩ := h
    refine ⟨_, pss_cons (ps_if (pt_cmpR op_eq (pe_ix ix_tup (pv 1) pe_int (fun _ _ => rfl)) pe_str (nomark _)) (pss_one (ps_ret (pe_call GL hr (by rfl) gL kL bL .nil pass0 (pa_cons (pv 0) (pa_cons (pe_tup (pa_cons pe_int (pa_cons (pe_ix ix_tup (pv 1) pe_int (fun _ _ => rfl)) pa_nil))) pa_nil))))) pss_nil)
      (pss_one (ps_ret (pe_call GL hr (by rfl) gL kL bL .nil pass0 (pa_cons (pv 0) (pa_cons (pe_tup (pa_cons pe_int (pa_cons (pe_call GD' hr (by rfl) gD kD bD .nil pass0 (pa_cons (pe_ix ix_tup (pv 1) pe_int (fun _ _ => rfl)) (pa_cons (pe_ix ix_tup (pv 1) pe_int (fun _ _ => rfl)) pa_nil))) pa_nil))) pa_nil))))), ?rd⟩
    rcases fz.fact_at with ⟨b, y, s, rfl, hv, fy, hf⟩ | ⟨b, y, z, s, t, rfl, hv, fy, fw, rfl⟩
    · obtain rfl : f = .let_ s := by
        rcases hf with rfl | rfl
        · rfl
        · exact absurd rfl nn
      refine ⟨_, rfl, b, _, 0, _, rfl, rfl, SqT.of hv, at0, rfl, _, rfl, ?_⟩
      refine iteT ⟨_, rfl, _, rfl, b, _, 1, _, rfl, rfl, SqT.of hv, at1, (by show 2 ≤ sizeLine; decide), fun n nn => ?_⟩
      have sn := same_new (o := .tup [.int 1, y]) nn
      exact ⟨l, n, bs, 1, y, s, rfl, hb.same sn, upd_same, fy.same sn, by rw [show s.length = k from hk]; exact hin, fun p H' s' np e => q p H' (sn.trans s') (sn.free np) e⟩
    · refine ⟨_, rfl, b, _, 0, _, rfl, rfl, SqT.of hv, at0, rfl, _, rfl, ?_⟩
      rw [show decide (V.str ("as" : Str) = V.str ("let" : Str)) = false from decide_eq_false (fun e => absurd (V.str.inj e) (by decide +kernel))]
      have a2 : atI [V.str ("as" : Str), y, z] 2 = some z := atI_nat (j := 2) rfl
      refine iteF ⟨_, rfl, _, rfl, b, _, 1, _, rfl, rfl, SqT.of hv, at1, _, rfl, b, _, 2, _, rfl, rfl, SqT.of hv, a2, ?_⟩
      dsimp only [tNil]
      refine ⟨y, z, s, t, rfl, fy, fw, by rw [hk.1, hk.2], by rw [hk.1]; exact hk10, fun v H1 s1 fv => ?_⟩
      refine ⟨(by show 2 ≤ sizeLine; decide), fun n nn => ?_⟩
      have sn := s1.trans (same_new (o := .tup [.int 0, v]) nn)
      refine ⟨l, n, bs, 0, v, diffS s t, rfl, hb.same sn, upd_same, fv.same (same_new nn), ?_, fun p H' s' np e => q p H' (sn.trans s') (sn.free np) e⟩
      rw [diffS_len (by rw [hk.1, hk.2]), hk.1]
      exact hin
end
end K73
namespace GD
open PySem PySem.Spec PyProof.Rows L2 GM
def spShort : Sp := fun vs H Q _ => ∃ (l : Addr) (n : Nat) (g : Nat → Int), vs = [.ref l] ∧ H l = some (.lst (fl n fun i => .int (g i))) ∧ n ≤ 200 ∧ (∃ i, i < n ∧ g i ≠ 0) ∧ (∀ i, i < n → (g i).natAbs < 2 ^ 1000) ∧
  ∀ p H' (c : Int), Same H H' → H p = none → 0 < c → (∀ i, i < n → c * (g i / c) = g i) → H' p = some (.lst (fl n fun i => .int (g i / c))) → Q (.ref p) H'
/-- the numbers that are taken, and how often -/
def partsL (k : Nat) (f : Nat → Nat) (g : Nat → Int) : List (Int × Int) := ((List.range k).filter fun i => !decide (g i = 0)).map fun i => ((f i : Int), g i)
def spTaken : Sp := fun vs H Q _ => ∃ (l1 l2 : Addr) (k : Nat) (f : Nat → Nat) (g : Nat → Int), vs = [.ref l1, .ref l2] ∧ H l1 = some (.lst (fl k fun i => .int (f i : Nat))) ∧ H l2 = some (.lst (fl k fun i => .int (g i))) ∧ k ≤ 100 ∧
  ∀ v H', Same H H' → Fz H' v (.tuple ((partsL k f g).map eP)) → Q v H'
/-- the stock that is the sum of so much of each basic one -/
def sumB (bs : List Bas) (g : Nat → Int) (ch : Bas → Int) (i j : Nat) : Int := sumN i fun t => if (bs.getD t defB).j = j then g t * ch (bs.getD t defB) else 0
def sumK (bs : List Bas) (g : Nat → Int) (many : Nat) : Stk := (sumN bs.length fun t => g t * (bs.getD t defB).fi, (List.range many).map fun j => (sumB bs g Bas.be bs.length j, sumB bs g Bas.en bs.length j))
def spSummed (K : PySem.W.Frag) : Sp := fun vs H Q _ => ∃ (l a : Addr) (bs : List Bas) (g : Nat → Int) (many : Nat), vs = [.ref l, .ref a, .int (many : Nat)] ∧ BasAt K H l bs ∧ H a = some (.lst (fl bs.length fun i => .int (g i))) ∧ BasIn many bs ∧ many ≤ 10 ∧ (∀ i, i < bs.length → (g i).natAbs < 2 ^ 1000) ∧
  ∀ v H', Same H H' → Fz H' v (eK (sumK bs g many)) → Q v H'
theorem partsL_next (k : Nat) (f : Nat → Nat) (g : Nat → Int) : partsL (k + 1) f g = partsL k f g ++ if g k = 0 then [] else [((f k : Int), g k)] := by
  unfold partsL
  rw [List.range_succ, List.filter_append, List.map_append]
  by_cases c : g k = 0
  · rw [if_pos c, List.filter_cons_of_neg (by rw [decide_eq_true c]; decide)]
    rfl
  · rw [if_neg c, List.filter_cons_of_pos (by rw [decide_eq_false c]; rfl)]
    rfl
theorem partsL_len (k : Nat) (f : Nat → Nat) (g : Nat → Int) : (partsL k f g).length ≤ k := by
  unfold partsL
  rw [List.length_map]
  refine Nat.le_trans (List.length_filter_le _ _) ?_
  rw [List.length_range]
  exact Nat.le_refl _
end GD
namespace K73
open PySem PySem.Spec PyProof.Rows L2 GD GM
abbrev pTaken : Stmt := top 65
abbrev pSummed : Stmt := top 66
abbrev pShort : Stmt := top 67
section
variable {P : Program} {w : World} {K : PySem.W.Frag} {mg : Str → Option Value} {base : Heap}
abbrev NSh : List Str := ["amounts", "common", "amount"]
theorem scSh : FnScope NSh ["amounts"] (defScope pShort) := ⟨rfl, rfl, rfl, by decide +kernel, rfl, by decide +kernel, by decide +kernel⟩
theorem ok_short {f : Addr} {fd : FuncData} (F : Fun K "shortened" "shortened" pShort f fd) (gG : mg "gcd" = some (.builtin "math.gcd")) : FnOk P w K mg base CX0 1 f fd ["amounts"] spShort := by
  refine F.ok scSh (fun vs H Q E h => ?_) (fun cdv A outer s H vs Q E hr h => ?_)
  · obtain ⟨l, n, g, rfl, _⟩ := h
    rfl
  · obtain ⟨l, n, g, rfl, hl, hn, ⟨i0, hi0, nz⟩, sm, q⟩ := h
    refine ⟨_, pss_cons (ps_set (i := 1) scSh.nd rfl (.inr rfl) pe_int)
      (pss_cons (ps_for PassesOwn.never rfl (pi_list (pv 0)) (pg_name (i := 2) scSh.nd rfl (.inl rfl)) (pss_one (ps_set (i := 1) scSh.nd rfl (.inr rfl) (pe_callBfun cr_gcd (by rfl) gG (pa_cons (pv 1) (pa_cons (pv 2) pa_nil))))))
      (pss_one (ps_ret (pe_lc (own := [("amount", 2)]) (g := gName 2) (tt := tYes) rfl scSh.nd (pi_list (pv 0)) (blkOk_by (N := NSh) (sc := defScope pShort) (by decide +kernel)) (fun _ _ _ _ _ => pg_name (i := 2) scSh.nd rfl (.inl rfl)) (fun _ _ _ _ _ => pts_nil) (fun _ _ _ _ _ => pe_op op_fdivW (pv 2) (pv 1)))))), ?rd⟩
    refine ⟨_, rfl, l, rfl, ⟨_, SqL.of hl⟩, ?_⟩
    refine for_it (walk_list (K := K) (a := l) (xs := fl n fun i => .int (g i))) (fun i σ H' => ∃ (x2 : Option V) (c : Nat), σ = [some (.ref l), some (.int (c : Nat)), x2] ∧ H' = H ∧ (∀ j, j < i → c ∣ (g j).natAbs) ∧ ((∃ j, j < i ∧ g j ≠ 0) → 0 < c))
      ⟨none, 0, rfl, rfl, fun j hj => absurd hj (Nat.not_lt_zero _), fun ⟨j, hj, _⟩ => absurd hj (Nat.not_lt_zero _)⟩ (fun i σ H' _ ⟨_, _, _, z, _⟩ => by rw [z]; exact SqL.of hl) ?_ ?_
    · rintro i v σ H' H'' hi ⟨x2, c, rfl, rfl, hd, hp⟩ ⟨rfl, hv⟩
      obtain ⟨hin, rfl⟩ := fl_inv hv
      refine ⟨_, rfl, _, rfl, _, _, rfl, _, _, rfl, rfl, fun j hj => ?_, fun ⟨j, hj, nj⟩ => ?_⟩
      · by_cases e : j = i
        · rw [e]
          exact Nat.gcd_dvd_right _ _
        · exact Nat.dvd_trans (Nat.gcd_dvd_left _ _) (hd j (by omega))
      · by_cases e : j = i
        · subst e
          exact Nat.gcd_pos_of_pos_right _ (by omega)
        · have := hp ⟨j, by omega, nj⟩
          exact Nat.gcd_pos_of_pos_left _ (by rw [Int.natAbs_natCast]; exact this)
    · rintro σ H' ⟨x2, c, rfl, rfl, hd, hp⟩
      rw [fl_len] at hd hp
      have c0 := hp ⟨i0, hi0, nz⟩
      have cs : c < 2 ^ 1000 := Nat.lt_of_le_of_lt (Nat.le_of_dvd (by omega) (hd i0 hi0)) (sm i0 hi0)
      refine ⟨_, rfl, l, rfl, ⟨_, SqL.of hl⟩, fun D hD => ?_⟩
      refine lc_it (walk_list (K := K) (a := l) (xs := fl n fun i => .int (g i))) (fun i H2 => Same H' H2 ∧ H2 D = some (.lst (fl i fun i => .int (g i / (c : Int))))) ⟨same_new hD, upd_same⟩ (fun i H2 _ ⟨z, _⟩ => SqL.of (z _ _ hl)) ?_ ?_
      · rintro i v H2 H3 hi ⟨z, eD⟩ ⟨rfl, hv⟩
        obtain ⟨hin, rfl⟩ := fl_inv hv
        refine ⟨rfl, _, rfl, _, rfl, _, _, rfl, rfl, wide_div (b := 1000) (by omega) (by rw [Int.natAbs_natCast]; exact cs) (by decide) (by decide), _, eD, ?_, same_upd z hD, ?_⟩
        · rw [fl_len]
          exact Nat.lt_of_lt_of_le (show i < 200 by omega) (by decide)
        · rw [upd_same]
          exact congrArg (fun l => some (HO.lst l)) (fl_snoc i fun i => .int (g i / (c : Int)))
      · rintro H2 ⟨z, eD⟩
        rw [fl_len] at eD
        exact q D H2 c z hD (by omega) (fun i hi => Int.mul_ediv_cancel' (Int.ofNat_dvd_left.mpr (hd i hi))) eD
abbrev NTk : List Str := ["numbers", "amounts", "number", "amount"]
theorem scTk : FnScope NTk ["numbers", "amounts"] (defScope pTaken) := ⟨rfl, rfl, rfl, by decide +kernel, rfl, by decide +kernel, by decide +kernel⟩
theorem ok_taken {f : Addr} {fd : FuncData} (F : Fun K "taken" "taken" pTaken f fd) (nZ : mg "zip" = none) (nT : mg "tuple" = none) : FnOk P w K mg base CX0 1 f fd ["numbers", "amounts"] spTaken := by
  refine F.ok scTk (fun vs H Q E h => ?_) (fun cdv A outer s H vs Q E hr h => ?_)
  · obtain ⟨l1, l2, k, f, g, rfl, _⟩ := h
    rfl
  · obtain ⟨l1, l2, k, f, g, rfl, h1, h2, hk, q⟩ := h
    refine ⟨_, pss_one (ps_ret (pe_callTy call_tuple_of (by rfl) nT (by decide +kernel) (pa_cons (pe_lc (own := [("number", 2), ("amount", 3)]) (g := gTup K 2 (gCons (gName 2) (gCons (gName 3) gNil))) rfl scTk.nd (pi_zip (by rfl) nZ (pa_cons (pv 0) (pa_cons (pv 1) pa_nil))) (blkOk_by (N := NTk) (sc := defScope pTaken) (by decide +kernel))
        (fun _ _ _ _ _ => pg_tup rfl (pgs_cons (pg_name (i := 2) scTk.nd rfl (.inl rfl)) (pgs_cons (pg_name (i := 3) scTk.nd rfl (.inl rfl)) pgs_nil))) (fun _ _ _ _ _ => pts_one (pt_cmpR op_ne (pv 3) pe_int (nomark _))) (fun _ _ _ _ _ => pe_tup (pa_cons (pv 2) (pa_cons (pv 3) pa_nil)))) pa_nil))), ?rd⟩
    refine ⟨_, rfl, _, rfl, l1, l2, _, _, rfl, SqL.of h1, SqL.of h2, fun D hD => ?_⟩
    refine lc_it (walk_zip (K := K) (a := l1) (b := l2) (xs := fl k fun i => .int (f i : Nat)) (ys := fl k fun i => .int (g i)) (n := k) (by rw [fl_len, fl_len]; omega)) (fun i H2 => Same H H2 ∧ ∃ acc, H2 D = some (.lst acc) ∧ FzAll H2 acc ((partsL i f g).map eP)) ⟨same_new hD, [], upd_same, .nil⟩ (fun i H2 _ ⟨z, _⟩ => ⟨SqL.of (z _ _ h1), SqL.of (z _ _ h2)⟩) ?_ ?_
    · rintro i v H2 H3 hi ⟨z, acc, eD, fa⟩ ⟨T', u1, u2, rfl, hT, rfl, hu1, hu2⟩
      obtain ⟨_, rfl⟩ := fl_inv hu1
      obtain ⟨_, rfl⟩ := fl_inv hu2
      have sT := same_new (o := .tup [.int (f i : Nat), .int (g i)]) hT
      refine ⟨T', _, rfl, SqT.of upd_same, rfl, _, _, rfl, _, _, rfl, rfl, rfl, ?_⟩
      refine ⟨_, rfl, rfl, _, rfl, ?_⟩
      by_cases c : g i = 0
      · rw [show (!decide (V.int (g i) = V.int 0)) = false by rw [decide_eq_true (congrArg V.int c)]; rfl]
        refine iteF ⟨z.trans sT, acc, sT _ _ eD, ?_⟩
        rw [partsL_next, if_pos c, List.append_nil]
        exact fa.same sT
      · rw [show (!decide (V.int (g i) = V.int 0)) = true by rw [decide_eq_false (fun e => c (V.int.inj e))]; rfl]
        refine iteT ⟨_, rfl, _, rfl, (by show 2 ≤ sizeLine; decide), fun n nn => ?_⟩
        have sn := same_new (o := .tup [.int (f i : Nat), .int (g i)]) nn
        have eD3 := sn _ _ (sT _ _ eD)
        refine ⟨acc, eD3, ?_, same_upd (z.trans (sT.trans sn)) hD, acc ++ [.ref n], upd_same, FzAll.mv (tups_lst eD3) ?_⟩
        · rw [fa.len, List.length_map]
          exact Nat.lt_of_le_of_lt (partsL_len i f g) (Nat.lt_of_lt_of_le (show i < 100 by omega) (by decide))
        · rw [partsL_next, if_neg c, List.map_append]
          exact (fa.same (sT.trans sn)).snoc (.tup upd_same (.cons (.int _) (.cons (.int _) .nil)))
    · rintro H2 ⟨z, acc, eD, fa⟩
      refine ⟨D, _, rfl, .inl ⟨SqL.of eD, fun n nn => ?_⟩⟩
      have sn := same_new (o := .tup acc) nn
      exact q _ _ (z.trans sn) (.tup upd_same (fa.same sn))
end
end K73
namespace GD
open PySem PySem.Spec PyProof.Rows L2 GM
theorem sumB_next (bs : List Bas) (g : Nat → Int) (ch : Bas → Int) (i j : Nat) : sumB bs g ch (i + 1) j = if j = (bs.getD i defB).j then sumB bs g ch i j + g i * ch (bs.getD i defB) else sumB bs g ch i j := by
  show sumB bs g ch i j + (if (bs.getD i defB).j = j then g i * ch (bs.getD i defB) else 0) = _
  by_cases c : j = (bs.getD i defB).j
  · rw [if_pos c, if_pos c.symm]
  · rw [if_neg c, if_neg fun e => c e.symm, Int.add_zero]
theorem pairs_next (n : Nat) (f g : Nat → Int) : ((List.range (n + 1)).map fun j => (f j, g j)) = ((List.range n).map fun j => (f j, g j)) ++ [(f n, g n)] := by
  rw [List.range_succ, List.map_append]
  rfl
end GD
namespace K73
open PySem PySem.Spec PyProof.Rows L2 GD GM
section
variable {P : Program} {w : World} {K : PySem.W.Frag} {mg : Str → Option Value} {base : Heap}
abbrev NSm : List Str := ["basics", "amounts", "many", "level", "begins", "ends", "first", "job", "begin", "end", "_", "amount"]
theorem scSm : FnScope NSm ["basics", "amounts", "many"] (defScope pSummed) := ⟨rfl, rfl, rfl, by decide +kernel, rfl, by decide +kernel, by decide +kernel⟩
theorem ok_summed {f : Addr} {fd : FuncData} (F : Fun K "summed" "summed" pSummed f fd) (nZ : mg "zip" = none) (nT : mg "tuple" = none) : FnOk P w K mg base CX0 1 f fd ["basics", "amounts", "many"] (spSummed K) := by
  refine F.ok scSm (fun vs H Q E h => ?_) (fun cdv A outer s H vs Q E hr h => ?_)
  · obtain ⟨l, a, bs, g, many, rfl, _⟩ := h
    rfl
  · obtain ⟨l, a, bs, g, many, rfl, hb, ha, ⟨hin, hbl⟩, hm, sm, q⟩ := h
    refine ⟨_, pss_cons (ps_set (i := 3) scSm.nd rfl (.inl rfl) pe_int)
      (pss_cons (ps_set (i := 4) scSm.nd rfl (.inl rfl) (pe_op op_rep (pe_lst (pa_cons pe_int pa_nil)) (pv 2)))
      (pss_cons (ps_set (i := 5) scSm.nd rfl (.inl rfl) (pe_op op_rep (pe_lst (pa_cons pe_int pa_nil)) (pv 2)))
      (pss_cons (ps_for PassesOwn.never rfl (pi_zip (by rfl) nZ (pa_cons (pv 0) (pa_cons (pv 1) pa_nil))) (pg_tup rfl (pgs_cons (pg_tup rfl (pgs_cons (pg_name (i := 6) scSm.nd rfl (.inl rfl)) (pgs_cons (pg_name (i := 7) scSm.nd rfl (.inl rfl)) (pgs_cons (pg_name (i := 8) scSm.nd rfl (.inl rfl)) (pgs_cons (pg_name (i := 9) scSm.nd rfl (.inl rfl)) (pgs_cons (pg_name (i := 10) scSm.nd rfl (.inl rfl)) pgs_nil)))))) (pgs_cons (pg_name (i := 11) scSm.nd rfl (.inl rfl)) pgs_nil)))
        (pss_cons (ps_set (i := 3) scSm.nd rfl (.inl rfl) (pe_op op_add (pv 3) (pe_op op_mulW (pv 11) (pv 6))))
        (pss_cons (ps_asg (pe_op op_add (pe_ix ix_list (pv 4) (pv 7) (fun _ _ => rfl)) (pe_op op_mulW (pv 11) (pv 8))) (pg_sub (pv 4) (pv 7) set_list))
        (pss_one (ps_asg (pe_op op_add (pe_ix ix_list (pv 5) (pv 7) (fun _ _ => rfl)) (pe_op op_mulW (pv 11) (pv 9))) (pg_sub (pv 5) (pv 7) set_list))))))
      (pss_one (ps_ret (pe_tup (pa_cons (pv 3) (pa_cons (pe_callTy call_tuple_of (by rfl) nT (by decide +kernel) (pa_cons (pe_lc (own := [("begin", 8), ("end", 9)]) (g := gTup K 2 (gCons (gName 8) (gCons (gName 9) gNil))) (tt := tYes) rfl scSm.nd (pi_zip (by rfl) nZ (pa_cons (pv 4) (pa_cons (pv 5) pa_nil))) (blkOk_by (N := NSm) (sc := defScope pSummed) (by decide +kernel))
          (fun _ _ _ _ _ => pg_tup rfl (pgs_cons (pg_name (i := 8) scSm.nd rfl (.inl rfl)) (pgs_cons (pg_name (i := 9) scSm.nd rfl (.inl rfl)) pgs_nil))) (fun _ _ _ _ _ => pts_nil) (fun _ _ _ _ _ => pe_tup (pa_cons (pv 8) (pa_cons (pv 9) pa_nil)))) pa_nil)) pa_nil)))))))), ?rd⟩
    obtain ⟨xs, el, lx, ax⟩ := id hb
    refine ⟨(by show 1 ≤ sizeLine; decide), fun t1 n1 => ?_⟩
    have s1 := same_new (o := .lst [.int 0]) n1
    have e1 : (upd H t1 (.lst [.int 0])) t1 = some (.lst [.int 0]) := upd_same
    generalize upd H t1 (.lst [.int 0]) = H1 at s1 e1 ⊢
    refine ⟨_, rfl, t1, _, _, rfl, rfl, e1, by omega, by omega, ?_, fun pb npb => ?_⟩
    · rw [Int.toNat_natCast]
      exact Nat.le_trans (show [V.int 0].length * many ≤ 200 by rw [List.length_singleton]; omega) (by decide)
    rw [Int.toNat_natCast, rep_fl]
    have s2 := s1.trans (same_new (o := .lst (fl many fun _ => .int 0)) npb)
    have e2 : (upd H1 pb (.lst (fl many fun _ => .int 0))) pb = some (.lst (fl many fun _ => .int 0)) := upd_same
    have npb0 := s1.free npb
    generalize upd H1 pb (.lst (fl many fun _ => .int 0)) = H2 at s2 e2 ⊢
    refine ⟨(by show 1 ≤ sizeLine; decide), fun t2 n2 => ?_⟩
    have s3' := same_new (o := .lst [.int 0]) n2
    have e3 : (upd H2 t2 (.lst [.int 0])) t2 = some (.lst [.int 0]) := upd_same
    generalize upd H2 t2 (.lst [.int 0]) = H3 at s3' e3 ⊢
    have s3 := s2.trans s3'
    refine ⟨_, rfl, t2, _, _, rfl, rfl, e3, by omega, by omega, ?_, fun pe npe => ?_⟩
    · rw [Int.toNat_natCast]
      exact Nat.le_trans (show [V.int 0].length * many ≤ 200 by rw [List.length_singleton]; omega) (by decide)
    rw [Int.toNat_natCast, rep_fl]
    have s4' := same_new (o := .lst (fl many fun _ => .int 0)) npe
    have s4 := s3.trans s4'
    have e4 : (upd H3 pe (.lst (fl many fun _ => .int 0))) pe = some (.lst (fl many fun _ => .int 0)) := upd_same
    have b4 := s4' _ _ (s3' _ _ e2)
    have npe0 := s3.free npe
    have nbe : pb ≠ pe := ne_of_none (s3' _ _ e2) npe
    generalize upd H3 pe (.lst (fl many fun _ => .int 0)) = H4 at s4 e4 b4 ⊢
    show Ends.nx _ ([some (.ref l), some (.ref a), some (.int (many : Nat)), some (.int 0), some (.ref pb), some (.ref pe), none, none, none, none, none, none] : L2.St) H4
    refine ⟨_, rfl, _, rfl, l, a, _, _, rfl, SqL.of (s4 _ _ el), SqL.of (s4 _ _ ha), ?_⟩
    refine for_it (walk_zip (K := K) (a := l) (b := a) (xs := xs) (ys := fl bs.length fun i => .int (g i)) (n := bs.length) (by rw [fl_len, lx]; omega))
      (fun i σ H' => ∃ (x6 x7 x8 x9 x10 x11 : Option V), σ = [some (.ref l), some (.ref a), some (.int (many : Nat)), some (.int (sumN i fun t => g t * (bs.getD t defB).fi)), some (.ref pb), some (.ref pe), x6, x7, x8, x9, x10, x11] ∧ Same H H' ∧ H' pb = some (.lst (fl many fun j => .int (sumB bs g Bas.be i j))) ∧ H' pe = some (.lst (fl many fun j => .int (sumB bs g Bas.en i j))))
      ⟨none, none, none, none, none, none, rfl, s4, b4, e4⟩ (fun i σ H' _ ⟨_, _, _, _, _, _, _, z, _⟩ => ⟨SqL.of (z _ _ el), SqL.of (z _ _ ha)⟩) ?_ ?_
    · rintro i v σ H' H'' hi ⟨x6, x7, x8, x9, x10, x11, rfl, z, eb, ee⟩ ⟨T', u1, u2, rfl, hT, rfl, hu1, hu2⟩
      obtain ⟨_, rfl⟩ := fl_inv hu2
      obtain ⟨t, b, ebs, rfl, ht⟩ := ax i u1 hu1
      have eD : bs.getD i defB = b := by rw [List.getD_eq_getElem?_getD, ebs]; rfl
      obtain ⟨hj, h1, h2, h3, h4, h5, h6⟩ := hin b (List.mem_of_getElem? ebs)
      have sT := same_new (o := .tup [.ref t, .int (g i)]) hT
      have zT := z.trans sT
      have ht2 := seqT_same zT ht
      have eb2 := sT _ _ eb
      have ee2 := sT _ _ ee
      have smi := sm i hi
      have w1 : ∀ c : Int, -1 ≤ c → c ≤ 1 → CMulW (g i) c := fun c c1 c2 => wide_mul (b := 1) smi (show c.natAbs < 2 ^ 1 by omega) (by decide) (by decide) (by decide)
      refine ⟨T', _, rfl, SqT.of upd_same, rfl, _, _, rfl, t, _, rfl, ht2, rfl, _, _, rfl, _, _, rfl, _, _, rfl, _, _, rfl, _, _, rfl, rfl, _, _, rfl, rfl, ?_⟩
      dsimp only [List.set_cons_zero, List.set_cons_succ]
      refine ⟨_, rfl, _, rfl, _, rfl, _, _, rfl, rfl, w1 _ h1 h2, _, _, rfl, rfl, ?_⟩
      dsimp only [List.set_cons_zero, List.set_cons_succ]
      refine ⟨_, rfl, _, rfl, pb, _, (b.j : Nat), _, rfl, rfl, SqL.of eb2, at_fl hj, _, rfl, _, rfl, _, _, rfl, rfl, w1 _ h3 h4, _, _, rfl, rfl, _, rfl, _, rfl, pb, _, (b.j : Nat), b.j, rfl, rfl, eb2, ixN_fl hj, ?_⟩
      rw [fl_setI hj]
      have z5 : Same H (upd (upd H' T' (.tup [.ref t, .int (g i)])) pb (.lst (fl many fun k => .int (if k = b.j then sumB bs g Bas.be i b.j + g i * b.be else sumB bs g Bas.be i k)))) := same_upd zT npb0
      have eb5 : (upd (upd H' T' (.tup [.ref t, .int (g i)])) pb (.lst (fl many fun k => .int (if k = b.j then sumB bs g Bas.be i b.j + g i * b.be else sumB bs g Bas.be i k)))) pb = some (.lst (fl many fun j => .int (sumB bs g Bas.be (i + 1) j))) := by
        rw [upd_same]
        refine congrArg (fun l => some (HO.lst l)) (fl_congr fun j _ => congrArg V.int ?_)
        rw [sumB_next, eD]
        by_cases c : j = b.j
        · rw [if_pos c, if_pos c, c]
        · rw [if_neg c, if_neg c]
      have ee5 : (upd (upd H' T' (.tup [.ref t, .int (g i)])) pb (.lst (fl many fun k => .int (if k = b.j then sumB bs g Bas.be i b.j + g i * b.be else sumB bs g Bas.be i k)))) pe = some (.lst (fl many fun j => .int (sumB bs g Bas.en i j))) := by
        rw [upd_ne (Ne.symm nbe)]
        exact ee2
      generalize upd (upd H' T' (.tup [.ref t, .int (g i)])) pb (.lst (fl many fun k => .int (if k = b.j then sumB bs g Bas.be i b.j + g i * b.be else sumB bs g Bas.be i k))) = H5 at z5 eb5 ee5 ⊢
      refine ⟨_, rfl, _, rfl, pe, _, (b.j : Nat), _, rfl, rfl, SqL.of ee5, at_fl hj, _, rfl, _, rfl, _, _, rfl, rfl, w1 _ h5 h6, _, _, rfl, rfl, _, rfl, _, rfl, pe, _, (b.j : Nat), b.j, rfl, rfl, ee5, ixN_fl hj, ?_⟩
      rw [fl_setI hj]
      refine ⟨some (.int b.fi), some (.int (b.j : Nat)), some (.int b.be), some (.int b.en), some (.bl b.lo), some (.int (g i)), ?_, same_upd z5 npe0, by rw [upd_ne nbe]; exact eb5, ?_⟩
      · have e7 : (sumN (i + 1) fun t => g t * (bs.getD t defB).fi) = (sumN i fun t => g t * (bs.getD t defB).fi) + g i * b.fi := by
          show (sumN i fun t => g t * (bs.getD t defB).fi) + g i * (bs.getD i defB).fi = _
          rw [eD]
        rw [e7]
        rfl
      · rw [upd_same]
        refine congrArg (fun l => some (HO.lst l)) (fl_congr fun j _ => congrArg V.int ?_)
        rw [sumB_next, eD]
        by_cases c : j = b.j
        · rw [if_pos c, if_pos c, c]
        · rw [if_neg c, if_neg c]
    · rintro σ H' ⟨x6, x7, x8, x9, x10, x11, rfl, z, eb, ee⟩
      refine ⟨_, rfl, _, rfl, _, rfl, pb, pe, _, _, rfl, SqL.of eb, SqL.of ee, fun D hD => ?_⟩
      refine lc_it (walk_zip (K := K) (a := pb) (b := pe) (xs := fl many fun j => .int (sumB bs g Bas.be bs.length j)) (ys := fl many fun j => .int (sumB bs g Bas.en bs.length j)) (n := many) (by rw [fl_len, fl_len]; omega))
        (fun i H2 => Same H' H2 ∧ ∃ acc, H2 D = some (.lst acc) ∧ FzAll H2 acc (((List.range i).map fun j => (sumB bs g Bas.be bs.length j, sumB bs g Bas.en bs.length j)).map eP)) ⟨same_new hD, [], upd_same, .nil⟩ (fun i H2 _ ⟨z2, _⟩ => ⟨SqL.of (z2 _ _ eb), SqL.of (z2 _ _ ee)⟩) ?_ ?_
      · rintro i v H2 H3 hi ⟨z2, acc, eD, fa⟩ ⟨T', u1, u2, rfl, hT, rfl, hu1, hu2⟩
        obtain ⟨_, rfl⟩ := fl_inv hu1
        obtain ⟨_, rfl⟩ := fl_inv hu2
        have sT := same_new (o := .tup [.int (sumB bs g Bas.be bs.length i), .int (sumB bs g Bas.en bs.length i)]) hT
        refine ⟨T', _, rfl, SqT.of upd_same, rfl, _, _, rfl, _, _, rfl, rfl, rfl, ?_⟩
        refine ⟨_, rfl, _, rfl, (by show 2 ≤ sizeLine; decide), fun n nn => ?_⟩
        have sn := same_new (o := .tup [.int (sumB bs g Bas.be bs.length i), .int (sumB bs g Bas.en bs.length i)]) nn
        have eD3 := sn _ _ (sT _ _ eD)
        refine ⟨acc, eD3, ?_, same_upd (z2.trans (sT.trans sn)) hD, acc ++ [.ref n], upd_same, FzAll.mv (tups_lst eD3) ?_⟩
        · rw [fa.len, List.length_map, List.length_map, List.length_range]
          exact Nat.lt_of_lt_of_le (show i < 10 by omega) (by decide)
        · rw [pairs_next, List.map_append]
          exact (fa.same (sT.trans sn)).snoc (.tup upd_same (.cons (.int _) (.cons (.int _) .nil)))
      · rintro H2 ⟨z2, acc, eD, fa⟩
        refine ⟨D, _, rfl, .inl ⟨SqL.of eD, fun n nn => ?_⟩⟩
        have sn := same_new (o := .tup acc) nn
        have fn : Fz (upd H2 n (.tup acc)) (.ref n) (.tuple (((List.range many).map fun j => (sumB bs g Bas.be bs.length j, sumB bs g Bas.en bs.length j)).map eP)) := .tup upd_same (fa.same sn)
        refine ⟨(by show 2 ≤ sizeLine; decide), fun u nu => ?_⟩
        have su := same_new (o := .tup [.int (sumN bs.length fun t => g t * (bs.getD t defB).fi), .ref n]) nu
        exact q _ _ (z.trans (z2.trans (sn.trans su))) (.tup upd_same (.cons (.int _) (.cons (fn.same su) .nil)))
end
end K73
namespace GD
open PySem PySem.Spec PyProof.Rows L2 GM
def dF : Fact := .let_ []
def numsOf (x : Str) (fs : List Fact) : List Nat := (List.range fs.length).filter fun i => decide (kindS (fs.getD i dF) = x)
abbrev Aim := Int × Stn
section
variable (bs : List Bas) (fs : List Fact) (qs : List Aim)
def takenN : List Nat := numsOf "let" fs ++ numsOf "as" fs
def colN : Nat := qs.length + (takenN fs).length
def factOf (j : Nat) : Fact := fs.getD ((takenN fs).getD (j - qs.length) 0) dF
def Amat (i j : Nat) : Int :=
  if i < bs.length then (if j < qs.length then levF bs (qs.getD j (0, [])).1 (qs.getD j (0, [])).2 i else -levF bs (fOne (factOf fs qs j)) (fPs (factOf fs qs j)) i) else if j < qs.length then 1 else 0
def Bfun (k : Nat) : Bool := if k < qs.length + (numsOf "let" fs).length then true else if k < colN fs qs then false else !(bs.getD (k - colN fs qs) defB).lo
end
theorem mem_nums {x : Str} {fs : List Fact} {i : Nat} : i ∈ numsOf x fs ↔ i < fs.length ∧ kindS (fs.getD i dF) = x := by
  unfold numsOf
  rw [List.mem_filter, List.mem_range, decide_eq_true_iff]
/-- all counts of a fact are small -/
def FSmall : Fact → Prop
  | .let_ s => Small s
  | .not_ s => Small s
  | .as_ s t => Small s ∧ Small t
structure Asks (k : Nat) (bs : List Bas) (fs : List Fact) (qs : List Aim) : Prop where
  b : BasIn k bs
  f : ∀ f ∈ fs, FLen k f ∧ FSmall f
  q : ∀ q ∈ qs, q.2.length = k ∧ (-1000 ≤ q.1 ∧ q.1 ≤ 1000) ∧ Small q.2
  q1 : 1 ≤ qs.length
  n : colN fs qs ≤ 50
  k10 : k ≤ 10
theorem one_mul_small {c x : Int} {m : Nat} (h1 : -1 ≤ c) (h2 : c ≤ 1) (hx : x.natAbs ≤ m) : (c * x).natAbs ≤ m := by
  obtain rfl | rfl | rfl : c = -1 ∨ c = 0 ∨ c = 1 := by omega
  · omega
  · omega
  · omega
theorem pair_small {s : Stn} {m : Nat} (h : ∀ p ∈ s, p.1.natAbs ≤ m ∧ p.2.natAbs ≤ m) (j : Nat) : (s.getD j (0, 0)).1.natAbs ≤ m ∧ (s.getD j (0, 0)).2.natAbs ≤ m := by
  rw [List.getD_eq_getElem?_getD]
  cases e : s[j]? with
  | none => exact ⟨Nat.zero_le _, Nat.zero_le _⟩
  | some p => exact h p (List.mem_of_getElem? e)
theorem lev_small {b : Bas} {one : Int} {s : Stn} {m : Nat} (hb : -1 ≤ b.fi ∧ b.fi ≤ 1 ∧ -1 ≤ b.be ∧ b.be ≤ 1 ∧ -1 ≤ b.en ∧ b.en ≤ 1) (ho : one.natAbs ≤ 1000) (h : ∀ p ∈ s, p.1.natAbs ≤ m ∧ p.2.natAbs ≤ m) : (lev b one s).natAbs ≤ 1000 + m + m := by
  obtain ⟨h1, h2, h3, h4, h5, h6⟩ := hb
  obtain ⟨p1, p2⟩ := pair_small h b.j
  have a1 := one_mul_small h1 h2 ho
  have a2 := one_mul_small h3 h4 p1
  have a3 := one_mul_small h5 h6 p2
  unfold lev
  omega
theorem small_abs {s : Stn} (h : Small s) : ∀ p ∈ s, p.1.natAbs ≤ 2000 ∧ p.2.natAbs ≤ 2000 := fun p hp => by
  obtain ⟨a, b, c, d⟩ := h p hp
  omega
theorem fps_small {f : Fact} (h : FSmall f) : ∀ p ∈ fPs f, p.1.natAbs ≤ 2000 ∧ p.2.natAbs ≤ 2000 := by
  cases f with
  | let_ s => exact small_abs h
  | not_ s => exact small_abs h
  | as_ s t =>
    intro p hp
    obtain ⟨i, hi⟩ := List.getElem?_of_mem hp
    have hi2 : (List.zipWith (fun p q : Int × Int => (p.1 - q.1, p.2 - q.2)) s t)[i]? = some p := hi
    rw [List.getElem?_zipWith] at hi2
    cases e1 : s[i]? with
    | none =>
      rw [e1] at hi2
      cases hi2
    | some a =>
      cases e2 : t[i]? with
      | none =>
        rw [e1, e2] at hi2
        cases hi2
      | some b =>
        rw [e1, e2] at hi2
        obtain rfl := Option.some.inj hi2
        obtain ⟨a1, a2, a3, a4⟩ := h.1 a (List.mem_of_getElem? e1)
        obtain ⟨b1, b2, b3, b4⟩ := h.2 b (List.mem_of_getElem? e2)
        show (a.1 - b.1).natAbs ≤ 2000 ∧ (a.2 - b.2).natAbs ≤ 2000
        omega
theorem fone_small (f : Fact) : (fOne f).natAbs ≤ 1000 := by
  cases f with
  | let_ s => exact (by decide : (1 : Int).natAbs ≤ 1000)
  | not_ s => exact (by decide : (1 : Int).natAbs ≤ 1000)
  | as_ s t => exact (by decide : (0 : Int).natAbs ≤ 1000)
section
variable {k : Nat} {bs : List Bas} {fs : List Fact} {qs : List Aim}
theorem nums_let {i : Nat} (h : i < (numsOf "let" fs).length) : (takenN fs).getD i 0 ∈ numsOf "let" fs := by
  unfold takenN
  rw [List.getD_eq_getElem?_getD, List.getElem?_append_left h, List.getElem?_eq_getElem h]
  exact List.getElem_mem h
theorem taken_in {i : Nat} (h : i < (takenN fs).length) : (takenN fs).getD i 0 < fs.length ∧ (kindS (fs.getD ((takenN fs).getD i 0) dF) = "let" ∨ kindS (fs.getD ((takenN fs).getD i 0) dF) = "as") := by
  have hm : (takenN fs).getD i 0 ∈ takenN fs := by
    rw [List.getD_eq_getElem?_getD, List.getElem?_eq_getElem h]
    exact List.getElem_mem h
  rcases List.mem_append.mp hm with z | z
  · exact ⟨(mem_nums.mp z).1, .inl (mem_nums.mp z).2⟩
  · exact ⟨(mem_nums.mp z).1, .inr (mem_nums.mp z).2⟩
theorem Asks.small (h : Asks k bs fs qs) (i j : Nat) (hj : j < colN fs qs) : (Amat bs fs qs i j).natAbs ≤ 5000 := by
  unfold Amat
  by_cases hi : i < bs.length
  · rw [if_pos hi]
    have hb := h.b.1 (bs.getD i defB) (by rw [List.getD_eq_getElem?_getD, List.getElem?_eq_getElem hi]; exact List.getElem_mem hi)
    by_cases c : j < qs.length
    · rw [if_pos c]
      have hq := h.q (qs.getD j (0, [])) (by rw [List.getD_eq_getElem?_getD, List.getElem?_eq_getElem c]; exact List.getElem_mem c)
      have z := lev_small (m := 2000) hb.2 (show (qs.getD j (0, [])).1.natAbs ≤ 1000 by omega) (small_abs hq.2.2)
      unfold levF
      omega
    · rw [if_neg c]
      have hf := h.f (factOf fs qs j) (by
        have hl := (taken_in (fs := fs) (i := j - qs.length) (by unfold colN at hj; omega)).1
        unfold factOf
        rw [List.getD_eq_getElem?_getD (l := fs), List.getElem?_eq_getElem hl]
        exact List.getElem_mem hl)
      have z := lev_small (m := 2000) hb.2 (fone_small (factOf fs qs j)) (fps_small hf.2)
      unfold levF
      omega
  · rw [if_neg hi]
    split <;> decide
theorem unit_small (i c : Nat) : (unit i c).natAbs ≤ 5000 := by
  unfold unit
  split <;> decide
theorem pow50 {n : Nat} (h : n ≤ 50) : (n * 5000) ^ n < 2 ^ 1000 := by
  refine Nat.lt_of_le_of_lt (Nat.pow_le_pow_left (show n * 5000 ≤ 250000 by omega) n) (Nat.lt_of_le_of_lt (Nat.pow_le_pow_right (by decide) h) ?_)
  decide +kernel
theorem Asks.forms (h : Asks k bs fs qs) (c : Nat) (kk : Nat) (hc : c < colN fs qs) : (GM.forms (colN fs qs) (Amat bs fs qs) kk c).natAbs ≤ 5000 := by
  unfold GM.forms
  split
  · exact unit_small _ _
  · exact h.small _ _ hc
/-- a stock as parted tells it, by how much of each basic one -/
structure IsStock (bs : List Bas) (fs : List Fact) (qs : List Aim) (g : Nat → Int) : Prop where
  b : ∀ i, i < bs.length → (bs.getD i defB).lo = false → 0 ≤ g i
  a : ∀ q ∈ qs, (sumN bs.length fun i => g i * levF bs q.1 q.2 i) < 0
  l : ∀ f ∈ fs, kindS f = "let" → 0 ≤ sumN bs.length fun i => g i * levF bs (fOne f) (fPs f) i
  s : ∀ f ∈ fs, kindS f = "as" → (sumN bs.length fun i => g i * levF bs (fOne f) (fPs f) i) = 0
/-- a mixture as parted tells it, by all its amounts -/
structure IsParts (bs : List Bas) (fs : List Fact) (qs : List Aim) (a : Nat → Int) : Prop where
  n : ∀ c, c < qs.length + (numsOf "let" fs).length → 0 ≤ a c
  p : 0 < sumN qs.length a
  r : ∀ i, i < bs.length → ((bs.getD i defB).lo = false → 0 ≤ sumN (colN fs qs) fun c => Amat bs fs qs i c * a c) ∧ ((bs.getD i defB).lo = true → (sumN (colN fs qs) fun c => Amat bs fs qs i c * a c) = 0)
theorem let_le : (numsOf "let" fs).length ≤ (takenN fs).length := by
  unfold takenN
  rw [List.length_append]
  omega
theorem forms_unit {c : Nat} (hc : c < colN fs qs) : c < colN fs qs + bs.length ∧ ∀ i, i < colN fs qs → GM.forms (colN fs qs) (Amat bs fs qs) c i = unit c i := by
  refine ⟨by omega, fun i _ => ?_⟩
  unfold GM.forms
  rw [if_pos hc]
theorem forms_row (i c : Nat) : GM.forms (colN fs qs) (Amat bs fs qs) (colN fs qs + i) c = Amat bs fs qs i c := by
  unfold GM.forms
  rw [if_neg (by omega), Nat.add_sub_cancel_left]
theorem goal_row (c : Nat) : Amat bs fs qs bs.length c = if c < qs.length then 1 else 0 := by
  unfold Amat
  rw [if_neg (by omega)]
theorem b_aim {c : Nat} (h : c < qs.length + (numsOf "let" fs).length) : Bfun bs fs qs c = true := if_pos h
theorem b_back {c : Nat} (h : ¬ c < qs.length + (numsOf "let" fs).length) (hc : c < colN fs qs) : Bfun bs fs qs c = false := by
  unfold Bfun
  rw [if_neg h, if_pos hc]
theorem b_unit (i : Nat) : Bfun bs fs qs (colN fs qs + i) = !(bs.getD i defB).lo := by
  have := let_le (fs := fs)
  unfold Bfun
  rw [if_neg (by unfold colN; omega), if_neg (by omega), Nat.add_sub_cancel_left]
theorem goal0 {c : Nat} (hc : c < colN fs qs) (hb : Bfun bs fs qs c = false) : GM.forms (colN fs qs) (Amat bs fs qs) (colN fs qs + bs.length) c = 0 := by
  rw [forms_row, goal_row]
  refine if_neg fun h => ?_
  rw [b_aim (by omega)] at hb
  cases hb
variable {S : GM.St}
theorem stops_stock (ok : S.Ok (colN fs qs) bs.length (colN fs qs + bs.length) (GM.forms (colN fs qs) (Amat bs fs qs))) (set : Set2 (colN fs qs) bs.length (Bfun bs fs qs) S.hd S.sd S.T) (q1 : 1 ≤ qs.length)
    (no : ∀ j, j < colN fs qs → Bfun bs fs qs (S.hd j) = true → S.T bs.length j ≤ 0) :
    (∃ i, i < bs.length ∧ cost (colN fs qs) bs.length S.hd S.T (colN fs qs + i) ≠ 0) ∧ ∀ (g : Nat → Int) (c : Int), 0 < c → (∀ i, i < bs.length → c * g i = cost (colN fs qs) bs.length S.hd S.T (colN fs qs + i)) → IsStock bs fs qs g := by
  obtain ⟨h1, h2⟩ := ok.stops set (fun c hc => forms_unit hc) (fun c hc hb => goal0 hc hb) no rfl
  have d0 := ok.P.d0
  have hN : qs.length ≤ colN fs qs := by unfold colN; omega
  have aim : ∀ j, j < qs.length → (sumN bs.length fun i => cost (colN fs qs) bs.length S.hd S.T (colN fs qs + i) * levF bs (qs.getD j (0, [])).1 (qs.getD j (0, [])).2 i) < 0 := fun j hj => by
    have z := (h2 j (by omega)).1 (b_aim (by omega))
    rw [forms_row, goal_row, if_pos hj, Int.mul_one] at z
    refine Int.lt_of_le_of_lt (Int.le_of_eq ?_) (Int.lt_of_le_of_lt z (by omega))
    refine sumN_congr fun i hi => ?_
    rw [forms_row]
    unfold Amat
    rw [if_pos hi, if_pos hj]
  refine ⟨?_, fun g c c0 hg => ?_⟩
  · refine Classical.byContradiction fun no => ?_
    have z := aim 0 (by omega)
    rw [sumN_zero (f := fun i => cost (colN fs qs) bs.length S.hd S.T (colN fs qs + i) * levF bs (qs.getD 0 (0, [])).1 (qs.getD 0 (0, [])).2 i) fun i hi => by
      rw [Classical.byContradiction fun e => no ⟨i, hi, e⟩, Int.zero_mul]] at z
    omega
  have scale : ∀ F : Nat → Int, (sumN bs.length fun i => cost (colN fs qs) bs.length S.hd S.T (colN fs qs + i) * F i) = c * sumN bs.length fun i => g i * F i := fun F => by
    rw [← sumN_mul]
    exact sumN_congr fun i hi => by rw [← hg i hi, Int.mul_assoc]
  have fact : ∀ j, qs.length ≤ j → j < colN fs qs → (sumN bs.length fun i => cost (colN fs qs) bs.length S.hd S.T (colN fs qs + i) * GM.forms (colN fs qs) (Amat bs fs qs) (colN fs qs + i) j) = -(c * sumN bs.length fun i => g i * levF bs (fOne (factOf fs qs j)) (fPs (factOf fs qs j)) i) := fun j h1 h2 => by
    have e : ∀ i, i < bs.length → cost (colN fs qs) bs.length S.hd S.T (colN fs qs + i) * GM.forms (colN fs qs) (Amat bs fs qs) (colN fs qs + i) j = (-1) * (cost (colN fs qs) bs.length S.hd S.T (colN fs qs + i) * levF bs (fOne (factOf fs qs j)) (fPs (factOf fs qs j)) i) := fun i hi => by
      rw [forms_row]
      unfold Amat
      rw [if_pos hi, if_neg (by omega)]
      grind
    rw [sumN_congr e, sumN_mul, scale]
    omega
  have at_ : ∀ n : Nat, ∀ f ∈ fs, ∃ i, fs[i]? = some f := fun _ f hf => List.getElem?_of_mem hf
  refine ⟨fun i hi hb => ?_, fun q hq => ?_, fun f hf hk => ?_, fun f hf hk => ?_⟩
  · have z := h1 (colN fs qs + i) (by omega) (by rw [b_unit, hb]; rfl)
    rw [← hg i hi] at z
    exact Int.nonneg_of_mul_nonneg_right z c0
  · obtain ⟨j, hj⟩ := List.getElem?_of_mem hq
    have hjl := (List.getElem?_eq_some_iff.mp hj).1
    have z := aim j hjl
    rw [show qs.getD j (0, []) = q by rw [List.getD_eq_getElem?_getD, hj]; rfl, scale fun i => levF bs q.1 q.2 i] at z
    exact Int.lt_of_mul_lt_mul_left (by rw [Int.mul_zero]; exact z) (by omega)
  · obtain ⟨i, hi⟩ := List.getElem?_of_mem hf
    have hil := (List.getElem?_eq_some_iff.mp hi).1
    have eD : fs.getD i dF = f := by rw [List.getD_eq_getElem?_getD, hi]; rfl
    have hm : i ∈ numsOf "let" fs := mem_nums.mpr ⟨hil, by rw [eD]; exact hk⟩
    obtain ⟨t, ht⟩ := List.getElem?_of_mem hm
    have htl := (List.getElem?_eq_some_iff.mp ht).1
    have hle := let_le (fs := fs)
    have ef : factOf fs qs (qs.length + t) = f := by
      unfold factOf
      rw [Nat.add_sub_cancel_left]
      unfold takenN
      rw [List.getD_eq_getElem?_getD (l := numsOf "let" fs ++ numsOf "as" fs), List.getElem?_append_left htl, ht]
      exact eD
    have z := (h2 (qs.length + t) (by unfold colN; omega)).1 (b_aim (by omega))
    rw [forms_row bs.length, goal_row, if_neg (by omega), Int.mul_zero, Int.neg_zero, fact _ (by omega) (by unfold colN; omega), ef] at z
    exact Int.nonneg_of_mul_nonneg_right (show 0 ≤ c * _ by omega) c0
  · obtain ⟨i, hi⟩ := List.getElem?_of_mem hf
    have hil := (List.getElem?_eq_some_iff.mp hi).1
    have eD : fs.getD i dF = f := by rw [List.getD_eq_getElem?_getD, hi]; rfl
    have hm : i ∈ numsOf "as" fs := mem_nums.mpr ⟨hil, by rw [eD]; exact hk⟩
    obtain ⟨t, ht⟩ := List.getElem?_of_mem hm
    have htl := (List.getElem?_eq_some_iff.mp ht).1
    have lt : (takenN fs).length = (numsOf "let" fs).length + (numsOf "as" fs).length := List.length_append
    have ef : factOf fs qs (qs.length + ((numsOf "let" fs).length + t)) = f := by
      unfold factOf
      rw [Nat.add_sub_cancel_left]
      unfold takenN
      rw [List.getD_eq_getElem?_getD (l := numsOf "let" fs ++ numsOf "as" fs), List.getElem?_append_right (by omega), Nat.add_sub_cancel_left, ht]
      exact eD
    have z := (h2 (qs.length + ((numsOf "let" fs).length + t)) (by unfold colN; omega)).2 (b_back (by omega) (by unfold colN; omega))
    rw [fact _ (by omega) (by unfold colN; omega), ef] at z
    rcases Int.mul_eq_zero.mp (Int.neg_eq_zero.mp z) with e | e
    · omega
    · exact e
theorem grows_parts (ok : S.Ok (colN fs qs) bs.length (colN fs qs + bs.length) (GM.forms (colN fs qs) (Amat bs fs qs))) (set : Set2 (colN fs qs) bs.length (Bfun bs fs qs) S.hd S.sd S.T) {f : Nat} (hf : f < colN fs qs)
    (bf : Bfun bs fs qs (S.hd f) = true) (gp : 0 < S.T bs.length f) (no : ∀ i, i < bs.length → Bfun bs fs qs (S.sd i) = true → 0 ≤ S.T i f) :
    (∃ c, c < colN fs qs ∧ val (colN fs qs) bs.length S.hd S.sd S.T S.d f c ≠ 0) ∧ ∀ (a : Nat → Int) (c : Int), 0 < c → (∀ i, i < colN fs qs → c * a i = val (colN fs qs) bs.length S.hd S.sd S.T S.d f i) → IsParts bs fs qs a := by
  obtain ⟨h1, h2, h3, h4⟩ := ok.grows set (fun c hc => forms_unit hc) hf bf gp no
  have hN : qs.length ≤ colN fs qs := by unfold colN; omega
  have hle := let_le (fs := fs)
  have goal : (sumN qs.length fun c => val (colN fs qs) bs.length S.hd S.sd S.T S.d f c) = S.T bs.length f := by
    rw [← h2, show colN fs qs = qs.length + (takenN fs).length from rfl, sumN_split, sumN_zero (n := (takenN fs).length) fun i hi => ?_, Int.add_zero]
    · refine sumN_congr fun i hi => ?_
      show _ = GM.forms (colN fs qs) (Amat bs fs qs) (colN fs qs + bs.length) i * _
      rw [forms_row, goal_row, if_pos hi, Int.one_mul]
    · show GM.forms (colN fs qs) (Amat bs fs qs) (colN fs qs + bs.length) (qs.length + i) * _ = 0
      rw [forms_row, goal_row, if_neg (by omega), Int.zero_mul]
  refine ⟨?_, fun a c c0 ha => ?_⟩
  · refine Classical.byContradiction fun no => ?_
    rw [sumN_zero (n := qs.length) fun i hi => Classical.byContradiction fun e => no ⟨i, Nat.lt_of_lt_of_le hi hN, e⟩] at goal
    omega
  refine ⟨fun i hi => ?_, ?_, fun i hi => ?_⟩
  · have hi2 : i < colN fs qs := by unfold colN; omega
    have z := h3 i (by omega) (b_aim hi)
    rw [← ha i hi2] at z
    exact Int.nonneg_of_mul_nonneg_right z c0
  · have e : (sumN qs.length fun t => val (colN fs qs) bs.length S.hd S.sd S.T S.d f t) = c * sumN qs.length a := by
      rw [← sumN_mul]
      exact sumN_congr fun t ht => (ha t (by omega)).symm
    rw [e] at goal
    exact Int.pos_of_mul_pos_right (show 0 < c * _ by omega) c0
  · have row : (sumN (colN fs qs) fun t => Amat bs fs qs i t * val (colN fs qs) bs.length S.hd S.sd S.T S.d f t) = c * sumN (colN fs qs) fun t => Amat bs fs qs i t * a t := by
      rw [← sumN_mul]
      exact sumN_congr fun t ht => by rw [← ha t ht]; grind
    have e := h1 (colN fs qs + i) (by omega)
    rw [sumN_congr fun t _ => by rw [forms_row], row] at e
    refine ⟨fun hb => ?_, fun hb => ?_⟩
    · have z := h3 (colN fs qs + i) (by omega) (by rw [b_unit, hb]; rfl)
      rw [← e] at z
      exact Int.nonneg_of_mul_nonneg_right z c0
    · have z := h4 (colN fs qs + i) (by omega) ⟨by omega, by rw [b_unit, hb]; rfl⟩
      rw [z] at e
      rcases Int.mul_eq_zero.mp e with w | w
      · omega
      · exact w
end
theorem val_small {n m : Nat} {hd sd : Nat → Nat} {T : Nat → Nat → Int} {d : Int} (s : SmallT n m T d) {f : Nat} (hf : f < n) (k : Nat) : (val n m hd sd T d f k).natAbs < 2 ^ 1000 := by
  unfold val
  split
  · exact s.2.2
  split
  · rename_i h
    exact s.1 _ _ (by have := (Classical.choose_spec h).1; omega) hf
  · decide +kernel
theorem cost_small {n m : Nat} {hd : Nat → Nat} {T : Nat → Nat → Int} {d : Int} (s : SmallT n m T d) (k : Nat) : (cost n m hd T k).natAbs < 2 ^ 1000 := by
  unfold cost
  split
  · rename_i h
    rw [Int.natAbs_neg]
    exact s.1 _ _ (by omega) (Classical.choose_spec h).1
  · decide +kernel
end GD
namespace GD
open PySem PySem.Spec PyProof.Rows L2 GM
def AimsAt (H : Hp) (la : Addr) (qs : List Aim) : Prop := ∃ xs : List V, H la = some (.lst xs) ∧ xs.length = qs.length ∧
  ∀ (i : Nat) (v : V), xs[i]? = some v → ∃ (am : Addr) (q : Aim) (y : V), qs[i]? = some q ∧ v = V.ref am ∧ H am = some (.tup [.int q.1, y]) ∧ Fz H y (eS q.2)
theorem AimsAt.same {H H' : Hp} {la : Addr} {qs : List Aim} (s : Same H H') (h : AimsAt H la qs) : AimsAt H' la qs := by
  obtain ⟨xs, e, l, a⟩ := h
  refine ⟨xs, s _ _ e, l, fun i v hv => ?_⟩
  obtain ⟨am, q, y, e1, e2, e3, e4⟩ := a i v hv
  exact ⟨am, q, y, e1, e2, s _ _ e3, e4.same s⟩
def letN (fs : List Fact) (i : Nat) : Nat := (numsOf "let" fs).getD i 0
def asN (fs : List Fact) (i : Nat) : Nat := (numsOf "as" fs).getD i 0
def eMix (fs : List Fact) (qs : List Aim) (a : Nat → Int) : PyData := .tuple [.tuple ((List.range qs.length).map fun i => .int (a i)), .tuple ((partsL (numsOf "let" fs).length (letN fs) fun i => a (qs.length + i)).map eP),
  .tuple ((partsL (numsOf "as" fs).length (asN fs) fun i => a (qs.length + (numsOf "let" fs).length + i)).map eP)]
def spParted (K : PySem.W.Frag) : Sp := fun vs H Q _ => ∃ (l la : Addr) (x : V) (bs : List Bas) (fs : List Fact) (qs : List Aim) (k : Nat), vs = [.ref l, x, .ref la] ∧ BasAt K H l bs ∧ Fz H x (.tuple (fs.map eF)) ∧ AimsAt H la qs ∧ Asks k bs fs qs ∧ fs.length ≤ 60 ∧
  ∀ v H', Same H H' → ((∃ g, IsStock bs fs qs g ∧ Fz H' v (.tuple [.str "stock", eK (sumK bs g k)])) ∨ ∃ a, IsParts bs fs qs a ∧ Fz H' v (.tuple [.str "parts", eMix fs qs a])) → Q v H'
def numsTo (x : Str) (fs : List Fact) (i : Nat) : List Nat := (List.range i).filter fun t => decide (kindS (fs.getD t dF) = x)
theorem numsTo_next (x : Str) (fs : List Fact) (i : Nat) : numsTo x fs (i + 1) = numsTo x fs i ++ if kindS (fs.getD i dF) = x then [i] else [] := by
  unfold numsTo
  rw [List.range_succ, List.filter_append]
  by_cases c : kindS (fs.getD i dF) = x
  · rw [if_pos c, List.filter_cons_of_pos (by rw [decide_eq_true c])]
    rfl
  · rw [if_neg c, List.filter_cons_of_neg (by rw [decide_eq_false c]; decide)]
    rfl
theorem numsTo_len (x : Str) (fs : List Fact) (i : Nat) : (numsTo x fs i).length ≤ i := by
  unfold numsTo
  refine Nat.le_trans (List.length_filter_le _ _) ?_
  rw [List.length_range]
  exact Nat.le_refl _
def natL (ns : List Nat) : List V := ns.map fun i => V.int (i : Nat)
theorem natL_fl (ns : List Nat) : natL ns = fl ns.length fun i => .int (ns.getD i 0 : Nat) := fl_mk 0 _ ns
theorem fact_kind {H : Hp} {v : V} {f : Fact} (h : Fz H v (eF f)) : ∃ b r, v = .ref b ∧ H b = some (.tup (.str (kindS f) :: r)) := h.fact
theorem outs_same {X : List Addr} {H1 H2 H3 : Hp} (s : Same H1 H2) (o : Outs X H2 H3) (n : ∀ a ∈ X, H1 a = none) : Same H1 H3 := fun c u e => o c u (fun hc => by rw [n c hc] at e; cases e) (s c u e)
theorem fl_app {n m : Nat} {f g h : Nat → V} (h1 : ∀ i, i < n → h i = f i) (h2 : ∀ i, i < m → h (n + i) = g i) : fl n f ++ fl m g = fl (n + m) h := by
  refine List.ext_getElem? fun i => ?_
  by_cases c : i < n
  · rw [List.getElem?_append_left (by rw [fl_len]; exact c), fl_get c, fl_get (by omega), h1 i c]
  · rw [List.getElem?_append_right (by rw [fl_len]; omega), fl_len]
    by_cases d : i < n + m
    · rw [fl_get (by omega), fl_get d, ← h2 (i - n) (by omega), show n + (i - n) = i by omega]
    · rw [List.getElem?_eq_none (by rw [fl_len]; omega), List.getElem?_eq_none (by rw [fl_len]; omega)]
theorem rep_read {H : Hp} {Q : VK} {t : Addr} {v : V} {n : Nat} (h : n ≤ 200) (e : H t = some (.lst [v])) (q : ∀ p, H p = none → Q (.ref p) (upd H p (.lst (fl n fun _ => v)))) : rRep (.ref t) (.int (n : Nat)) H Q := by
  refine ⟨t, _, _, rfl, rfl, e, by omega, by omega, ?_, fun p np => ?_⟩
  · rw [Int.toNat_natCast]
    exact Nat.le_trans (show [v].length * n ≤ 200 by rw [List.length_singleton]; omega) (by decide)
  · rw [Int.toNat_natCast, rep_fl]
    exact q p np
theorem cat_read {H : Hp} {Q : VK} {a b : Addr} {xs ys : List V} (ha : H a = some (.lst xs)) (hb : H b = some (.lst ys)) (hl : xs.length + ys.length ≤ 1000) (q : ∀ p, H p = none → Q (.ref p) (upd H p (.lst (xs ++ ys)))) : rCat (.ref a) (.ref b) H Q :=
  ⟨a, b, _, _, rfl, rfl, ha, hb, Nat.le_trans hl (by decide), q⟩
theorem fl_mid {n a b : Nat} {f : Nat → V} (h : a + b ≤ n) : cutV (fl n f) (some (a : Int)) (some ((a + b : Nat) : Int)) = fl b fun i => f (a + i) := by
  unfold cutV
  rw [HT.sIx_nat, HT.sIx_nat, fl_len, Nat.min_eq_left h, Nat.min_eq_left (show a ≤ n by omega), Nat.add_sub_cancel_left]
  refine List.ext_getElem? fun i => ?_
  by_cases c : i < b
  · rw [List.getElem?_take_of_lt c, List.getElem?_drop, fl_get (by omega), fl_get c]
  · rw [List.getElem?_eq_none (by rw [List.length_take, List.length_drop, fl_len]; omega), List.getElem?_eq_none (by rw [fl_len]; omega)]
theorem fz_intsL (H : Hp) (g : Nat → Int) : ∀ ns : List Nat, FzAll H (ns.map fun i => V.int (g i)) (ns.map fun i => PyData.int (g i))
  | [] => .nil
  | n :: ns => .cons (.int _) (fz_intsL H g ns)
theorem div_small {c g z : Int} {b : Nat} (h : c * g = z) (c0 : 0 < c) (hz : z.natAbs < b) : g.natAbs < b := by
  rw [← h, Int.natAbs_mul] at hz
  exact Nat.lt_of_le_of_lt (Nat.le_mul_of_pos_left _ (by omega)) hz
end GD
namespace K73
open PySem PySem.Spec PyProof.Rows L2 GD GM
abbrev pParted : Stmt := top 64
section
variable {P : Program} {w : World} {K : PySem.W.Frag} {mg : Str → Option Value} {base : Heap}
abbrev NPa : List Str := ["basics", "facts", "aims", "number", "lets", "backs", "columns", "goal", "bound", "table", "to", "amounts", "middle", "end", "fact", "aim", "level", "basic"]
theorem scPa : FnScope NPa ["basics", "facts", "aims"] (defScope pParted) := ⟨rfl, rfl, rfl, by decide +kernel, rfl, by decide +kernel, by decide +kernel⟩
theorem ok_parted {f C fLv fFL fSm fSh fTk fI fG fC fA : Addr} {fd fdLv fdFL fdSm fdSh fdTk fdI fdG fdC fdA : FuncData} (F : Fun K "parted" "parted" pParted f fd) (TC : TabC K C) (nE : mg "enumerate" = none) (nL : mg "len" = none) (nT : mg "tuple" = none)
    (gLv : mg "levels" = some (.ref fLv)) (bLv : Binds K fdLv ["basics", "aim"] []) (kLv : PySem.W.keepIn K (.ref fLv) = true) (GLv : FnOk P w K mg base CX0 1 fLv fdLv ["basics", "aim"] (spLevels K))
    (gFL : mg "fact_levels" = some (.ref fFL)) (bFL : Binds K fdFL ["basics", "fact"] []) (kFL : PySem.W.keepIn K (.ref fFL) = true) (GFL : FnOk P w K mg base CX0 2 fFL fdFL ["basics", "fact"] (spFactLevels K))
    (gSm : mg "summed" = some (.ref fSm)) (bSm : Binds K fdSm ["basics", "amounts", "many"] []) (kSm : PySem.W.keepIn K (.ref fSm) = true) (GSm : FnOk P w K mg base CX0 1 fSm fdSm ["basics", "amounts", "many"] (spSummed K))
    (gSh : mg "shortened" = some (.ref fSh)) (bSh : Binds K fdSh ["amounts"] []) (kSh : PySem.W.keepIn K (.ref fSh) = true) (GSh : FnOk P w K mg base CX0 1 fSh fdSh ["amounts"] spShort)
    (gTk : mg "taken" = some (.ref fTk)) (bTk : Binds K fdTk ["numbers", "amounts"] []) (kTk : PySem.W.keepIn K (.ref fTk) = true) (GTk : FnOk P w K mg base CX0 1 fTk fdTk ["numbers", "amounts"] spTaken)
    (MT : Mk K C fI) (gT : mg "Table" = some (.ref C)) (bT : Binds K fdI ["self", "columns", "goal", "bound"] []) (GT : FnOk P w K mg base CX0 1 fI fdI ["self", "columns", "goal", "bound"] (spTabI C))
    (mG : Meth K C "grow" fG) (bG : Binds K fdG ["self"] []) (GG : FnOk P w K mg base CX0 3 fG fdG ["self"] (spGrow C))
    (mC : Meth K C "costs" fC) (bC : Binds K fdC ["self"] []) (GC : FnOk P w K mg base CX0 1 fC fdC ["self"] (spCosts C))
    (mA : Meth K C "amounts" fA) (bA : Binds K fdA ["self", "to"] []) (GA : FnOk P w K mg base CX0 1 fA fdA ["self", "to"] (spAmounts C)) :
    FnOk P w K mg base CX0 4 f fd ["basics", "facts", "aims"] (spParted K) := by
  refine F.ok scPa (fun vs H Q E h => ?_) (fun cdv A outer s H vs Q E hr h => ?_)
  · obtain ⟨l, la, x, bs, fs, qs, k, rfl, _⟩ := h
    rfl
  · obtain ⟨l, la, x, bs, fs, qs, k, rfl, hb, fz, hq, ask, hfl, q⟩ := h
    have hr1 : Room 1 _ := hr.mono (by decide)
    have hr2 : Room 2 _ := hr.mono (by decide)
    refine ⟨_, pss_cons (ps_setLc (i := 4) (own := [("number", 3), ("fact", 14)]) (g := gTup K 2 (gCons (gName 3) (gCons (gName 14) gNil))) rfl scPa.nd rfl rfl (sw_true rfl rfl rfl (by decide +kernel)) (pi_enumT (by rfl) nE (pa_cons (pv 1) pa_nil)) (blkOk_by (N := NPa) (sc := defScope pParted) (by decide +kernel))
          (fun _ _ _ _ _ => pg_tup rfl (pgs_cons (pg_name (i := 3) scPa.nd rfl (.inl rfl)) (pgs_cons (pg_name (i := 14) scPa.nd rfl (.inl rfl)) pgs_nil))) (fun _ _ _ _ _ => pts_one (pt_cmpR op_eq (pe_ix (r := rIxT K) ix_tup (pv 14) pe_int (fun _ _ => rfl)) pe_str (nomark _))) (fun _ _ _ _ _ => pv 3))
      (pss_cons (ps_setLc (i := 5) (own := [("number", 3), ("fact", 14)]) (g := gTup K 2 (gCons (gName 3) (gCons (gName 14) gNil))) rfl scPa.nd rfl rfl (sw_true rfl rfl rfl (by decide +kernel)) (pi_enumT (by rfl) nE (pa_cons (pv 1) pa_nil)) (blkOk_by (N := NPa) (sc := defScope pParted) (by decide +kernel))
          (fun _ _ _ _ _ => pg_tup rfl (pgs_cons (pg_name (i := 3) scPa.nd rfl (.inl rfl)) (pgs_cons (pg_name (i := 14) scPa.nd rfl (.inl rfl)) pgs_nil))) (fun _ _ _ _ _ => pts_one (pt_cmpR op_eq (pe_ix (r := rIxT K) ix_tup (pv 14) pe_int (fun _ _ => rfl)) pe_str (nomark _))) (fun _ _ _ _ _ => pv 3))
      (pss_cons (ps_setLc (i := 6) (own := [("aim", 15)]) (g := gName 15) (tt := tYes) rfl scPa.nd rfl rfl (sw_true rfl rfl rfl (by decide +kernel)) (pi_list (pv 2)) (blkOk_by (N := NPa) (sc := defScope pParted) (by decide +kernel))
          (fun _ _ _ _ _ => pg_name (i := 15) scPa.nd rfl (.inl rfl)) (fun _ _ _ _ _ => pts_nil) (fun _ _ _ _ _ => pe_call GLv hr1 (by rfl) gLv kLv bLv .nil pass0 (pa_cons (pv 0) (pa_cons (pv 15) pa_nil))))
      (pss_cons (ps_for PassesOwn.never rfl (pi_list (pe_op op_cat (pv 4) (pv 5))) (pg_name (i := 3) scPa.nd rfl (.inl rfl))
        (pss_one (ps_expr (pe_bm PySem.F.plainAttrs_list PySem.F.slot_list_append PySem.F.type_list_append mt_append (pv 6) (pa_cons (pe_lc (own := [("level", 16)]) (g := gName 16) (tt := tYes) rfl scPa.nd (pi_list (pe_call GFL hr2 (by rfl) gFL kFL bFL .nil pass0 (pa_cons (pv 0) (pa_cons (pe_ix ix_tup (pv 1) (pv 3) (fun _ _ => rfl)) pa_nil)))) (blkOk_by (N := NPa) (sc := defScope pParted) (by decide +kernel))
            (fun _ _ _ _ _ => pg_name (i := 16) scPa.nd rfl (.inl rfl)) (fun _ _ _ _ _ => pts_nil) (fun _ _ _ _ _ => pe_un un_neg (pv 16))) pa_nil)))))
      (pss_cons (ps_set (i := 7) scPa.nd rfl (.inl rfl) (pe_op op_cat (pe_op op_rep (pe_lst (pa_cons pe_int pa_nil)) (pe_callB call_len_seq (by rfl) nL PySem.boot_len (pa_cons (pv 2) pa_nil))) (pe_op op_rep (pe_lst (pa_cons pe_int pa_nil)) (pe_callB call_len_seq (by rfl) nL PySem.boot_len (pa_cons (pe_op op_cat (pv 4) (pv 5)) pa_nil)))))
      (pss_cons (ps_set (i := 8) scPa.nd rfl (.inl rfl) (pe_op op_cat (pe_op op_cat (pe_op op_rep (pe_lst (pa_cons pe_bl pa_nil)) (pe_callB call_len_seq (by rfl) nL PySem.boot_len (pa_cons (pe_op op_cat (pv 2) (pv 4)) pa_nil))) (pe_op op_rep (pe_lst (pa_cons pe_bl pa_nil)) (pe_callB call_len_seq (by rfl) nL PySem.boot_len (pa_cons (pv 5) pa_nil))))
          (pe_lc (own := [("basic", 17)]) (g := gName 17) (tt := tYes) rfl scPa.nd (pi_list (pv 0)) (blkOk_by (N := NPa) (sc := defScope pParted) (by decide +kernel)) (fun _ _ _ _ _ => pg_name (i := 17) scPa.nd rfl (.inl rfl)) (fun _ _ _ _ _ => pts_nil) (fun _ _ _ _ _ => pe_not (pe_ix (r := rIxT K) ix_tup (pv 17) (pe_un un_neg pe_int) (fun _ _ => rfl))))))
      (pss_cons (ps_set (i := 9) scPa.nd rfl (.inl rfl) (pe_make MT GT hr2 (by rfl) gT bT .nil pass0 (pa_cons (pv 6) (pa_cons (pv 7) (pa_cons (pv 8) pa_nil)))))
      (pss_cons (ps_set (i := 10) scPa.nd rfl (.inl rfl) (pe_meth0 (pv 9) TC.cl mG GG hr bG .nil pass0))
      (pss_cons (ps_if (pt_cmpR op_isN (pv 10) pe_non (nomark _)) (pss_one (ps_ret (pe_tup (pa_cons pe_str (pa_cons (pe_call GSm hr1 (by rfl) gSm kSm bSm .nil pass0 (pa_cons (pv 0) (pa_cons (pe_call GSh hr1 (by rfl) gSh kSh bSh .nil pass0 (pa_cons (pe_meth0 (pv 9) TC.cl mC GC hr1 bC .nil pass0) pa_nil))
            (pa_cons (pe_callB call_len_seq (by rfl) nL PySem.boot_len (pa_cons (pe_ix ix_tup (pe_ix ix_list (pv 2) pe_int (fun _ _ => rfl)) pe_int (fun _ _ => rfl)) pa_nil)) pa_nil)))) pa_nil))))) pss_nil)
      (pss_cons (ps_set (i := 11) scPa.nd rfl (.inl rfl) (pe_call GSh hr1 (by rfl) gSh kSh bSh .nil pass0 (pa_cons (pe_meth (pv 9) TC.cl mA GA hr1 bA .nil pass0 (pa_cons (pv 10) pa_nil)) pa_nil)))
      (pss_cons (ps_set (i := 12) scPa.nd rfl (.inl rfl) (pe_callB call_len_seq (by rfl) nL PySem.boot_len (pa_cons (pv 2) pa_nil)))
      (pss_cons (ps_set (i := 13) scPa.nd rfl (.inl rfl) (pe_op op_add (pv 12) (pe_callB call_len_seq (by rfl) nL PySem.boot_len (pa_cons (pv 4) pa_nil))))
      (pss_one (ps_ret (pe_tup (pa_cons pe_str (pa_cons (pe_tup (pa_cons (pe_callTy call_tuple_of (by rfl) nT (by decide +kernel) (pa_cons (pe_slice sl_list (pv 11) po_none (po_some (pv 12))) pa_nil)) (pa_cons (pe_call GTk hr1 (by rfl) gTk kTk bTk .nil pass0 (pa_cons (pv 4) (pa_cons (pe_slice sl_list (pv 11) (po_some (pv 12)) (po_some (pv 13))) pa_nil)))
          (pa_cons (pe_call GTk hr1 (by rfl) gTk kTk bTk .nil pass0 (pa_cons (pv 5) (pa_cons (pe_slice sl_list (pv 11) (po_some (pv 13)) po_none) pa_nil))) pa_nil)))) pa_nil)))))))))))))))), ?rd⟩
    obtain ⟨af, xs, rfl, haf, fa⟩ := fz.t
    obtain ⟨bxs, ebs, lbs, abs⟩ := id hb
    obtain ⟨qxs, eqs, lqs, aqs⟩ := id hq
    have lxs : xs.length = fs.length := by rw [fa.len, List.length_map]
    refine ⟨_, rfl, af, _, rfl, SqT.of haf, fun pl npl => ?_⟩
    refine lc_it (walk_enumT (K := K) (a := af) (xs := xs)) (fun i H2 => Same H H2 ∧ H2 pl = some (.lst (natL (numsTo "let" fs i)))) ⟨same_new npl, upd_same⟩ (fun i H2 _ ⟨z, _⟩ => SqT.of (z _ _ haf)) ?_ ?_
    · rintro i v H2 H3 hi ⟨z, eD⟩ ⟨T', u1, u2, rfl, hT, rfl, hu1, hu2⟩
      obtain rfl := Option.some.inj hu1
      obtain ⟨fc, hfc, ff⟩ := fa.atM (show xs[i]? = some u2 from hu2)
      have ifs : i < fs.length := (List.getElem?_eq_some_iff.mp hfc).1
      have eK : fs.getD i dF = fc := by rw [List.getD_eq_getElem?_getD, hfc]; rfl
      obtain ⟨b, r, rfl, hb'⟩ := fact_kind ff
      have sT := same_new (o := .tup [.int (i : Nat), .ref b]) hT
      refine ⟨T', _, rfl, SqT.of upd_same, rfl, _, _, rfl, _, _, rfl, rfl, rfl, ?_⟩
      refine ⟨_, rfl, b, _, 0, _, rfl, rfl, SqT.of ((z.trans sT) _ _ hb'), at0, rfl, _, rfl, ?_⟩
      by_cases c : kindS fc = "let"
      · rw [show decide (V.str (kindS fc) = V.str "let") = true from decide_eq_true (by rw [c])]
        refine iteT ⟨_, rfl, _, sT _ _ eD, ?_, same_upd (z.trans sT) npl, ?_⟩
        · unfold natL
          rw [List.length_map]
          exact Nat.lt_of_le_of_lt (numsTo_len _ fs i) (Nat.lt_of_lt_of_le (show i < 60 by omega) (by decide))
        · rw [upd_same, numsTo_next, if_pos (by rw [eK]; exact c)]
          unfold natL
          rw [List.map_append]
          rfl
      · rw [show decide (V.str (kindS fc) = V.str "let") = false from decide_eq_false (fun e => c (V.str.inj e))]
        refine iteF ⟨z.trans sT, ?_⟩
        rw [numsTo_next, if_neg (by rw [eK]; exact c), List.append_nil]
        exact sT _ _ eD
    rintro H1 ⟨s1, el⟩
    rw [lxs] at el
    have el : H1 pl = some (.lst (natL (numsOf "let" fs))) := el
    refine ⟨_, rfl, af, _, rfl, SqT.of (s1 _ _ haf), fun pk npk => ?_⟩
    refine lc_it (walk_enumT (K := K) (a := af) (xs := xs)) (fun i H2 => Same H1 H2 ∧ H2 pk = some (.lst (natL (numsTo "as" fs i)))) ⟨same_new npk, upd_same⟩ (fun i H2 _ ⟨z, _⟩ => SqT.of (z _ _ (s1 _ _ haf))) ?_ ?_
    · rintro i v H2 H3 hi ⟨z, eD⟩ ⟨T', u1, u2, rfl, hT, rfl, hu1, hu2⟩
      obtain rfl := Option.some.inj hu1
      obtain ⟨fc, hfc, ff⟩ := fa.atM (show xs[i]? = some u2 from hu2)
      have ifs : i < fs.length := (List.getElem?_eq_some_iff.mp hfc).1
      have eK : fs.getD i dF = fc := by rw [List.getD_eq_getElem?_getD, hfc]; rfl
      obtain ⟨b, r, rfl, hb'⟩ := fact_kind ff
      have sT := same_new (o := .tup [.int (i : Nat), .ref b]) hT
      refine ⟨T', _, rfl, SqT.of upd_same, rfl, _, _, rfl, _, _, rfl, rfl, rfl, ?_⟩
      refine ⟨_, rfl, b, _, 0, _, rfl, rfl, SqT.of ((z.trans sT) _ _ (s1 _ _ hb')), at0, rfl, _, rfl, ?_⟩
      by_cases c : kindS fc = "as"
      · rw [show decide (V.str (kindS fc) = V.str "as") = true from decide_eq_true (by rw [c])]
        refine iteT ⟨_, rfl, _, sT _ _ eD, ?_, same_upd (z.trans sT) npk, ?_⟩
        · unfold natL
          rw [List.length_map]
          exact Nat.lt_of_le_of_lt (numsTo_len _ fs i) (Nat.lt_of_lt_of_le (show i < 60 by omega) (by decide))
        · rw [upd_same, numsTo_next, if_pos (by rw [eK]; exact c)]
          unfold natL
          rw [List.map_append]
          rfl
      · rw [show decide (V.str (kindS fc) = V.str "as") = false from decide_eq_false (fun e => c (V.str.inj e))]
        refine iteF ⟨z.trans sT, ?_⟩
        rw [numsTo_next, if_neg (by rw [eK]; exact c), List.append_nil]
        exact sT _ _ eD
    rintro H2 ⟨s2', ek⟩
    rw [lxs] at ek
    have ek : H2 pk = some (.lst (natL (numsOf "as" fs))) := ek
    have s2 := s1.trans s2'
    have el2 := s2' _ _ el
    refine ⟨_, rfl, la, rfl, ⟨_, SqL.of (s2 _ _ eqs)⟩, fun pc npc => ?_⟩
    refine lc_it (walk_list (K := K) (a := la) (xs := qxs)) (fun i H3 => Same H2 H3 ∧ ∃ ca : Nat → Addr, H3 pc = some (.lst (fl i fun j => .ref (ca j))) ∧ ∀ j, j < i → ca j ≠ pc ∧ H3 (ca j) = some (.lst (fl bs.length fun t => .int (Amat bs fs qs t j))))
      ⟨same_new npc, fun _ => pc, upd_same, fun j hj => absurd hj (Nat.not_lt_zero _)⟩ (fun i H3 _ ⟨z, _⟩ => SqL.of (z _ _ (s2 _ _ eqs))) ?_ ?_
    · rintro i v H3 H4 hi ⟨z, ca, eD, hca⟩ ⟨rfl, hv⟩
      obtain ⟨am, q0, y, e1, rfl, e3, e4⟩ := aqs i v hv
      have zz := s2.trans z
      have hiq : i < qs.length := by omega
      have hcn : qs.length ≤ 50 := by have := ask.n; unfold colN at this; omega
      refine ⟨rfl, _, rfl, _, rfl, ?_⟩
      dsimp only [tNil]
      refine ⟨l, am, bs, q0.1, y, q0.2, rfl, hb.same zz, zz _ _ e3, e4.same zz, by rw [(ask.q q0 (List.mem_of_getElem? e1)).1]; exact ask.b, fun p H5 s5 np e5 => ?_⟩
      refine ⟨_, s5 _ _ eD, ?_, same_upd (z.trans s5) npc, fun j => if j = i then p else ca j, ?_, fun j hj => ?_⟩
      · rw [fl_len]
        exact Nat.lt_of_lt_of_le (show i < 51 by omega) (by decide)
      · rw [upd_same, fl_ref rfl]
      · dsimp only
        have npp : p ≠ pc := fun e => ne_of_none eD np e.symm
        by_cases c : j = i
        · subst c
          rw [if_pos rfl]
          refine ⟨npp, ?_⟩
          rw [upd_ne npp, e5]
          refine congrArg (fun l => some (HO.lst l)) (fl_congr fun t ht => congrArg V.int ?_)
          unfold Amat
          rw [if_pos ht, if_pos hiq, show qs.getD j (0, []) = q0 by rw [List.getD_eq_getElem?_getD, e1]; rfl]
        · obtain ⟨b1, b2⟩ := hca j (by omega)
          rw [if_neg c]
          exact ⟨b1, by rw [upd_ne b1]; exact s5 _ _ b2⟩
    rintro H3 ⟨s3', ca, ec, hca⟩
    rw [lqs] at ec hca
    have el3 := s3' _ _ el2
    have ek3 := s3' _ _ ek
    have ltn : (numsOf "let" fs).length + (numsOf "as" fs).length = (takenN fs).length := by
      unfold takenN
      rw [List.length_append]
    have hcn : qs.length + (takenN fs).length ≤ 50 := ask.n
    have lN : ∀ ns : List Nat, (natL ns).length = ns.length := fun ns => List.length_map ..
    refine ⟨_, rfl, _, rfl, pl, pk, _, _, rfl, rfl, el3, ek3, Nat.le_trans (show (natL (numsOf "let" fs)).length + (natL (numsOf "as" fs)).length ≤ 50 by rw [lN, lN]; omega) (by decide), fun ps nps => ?_⟩
    have eNN : natL (numsOf "let" fs) ++ natL (numsOf "as" fs) = natL (takenN fs) := by
      unfold natL takenN
      rw [List.map_append]
    rw [eNN]
    have s4' := same_new (o := .lst (natL (takenN fs))) nps
    have es4 : (upd H3 ps (.lst (natL (takenN fs)))) ps = some (.lst (natL (takenN fs))) := upd_same
    have ec4 := s4' _ _ ec
    have hca4 : ∀ j, j < qs.length → ca j ≠ pc ∧ (upd H3 ps (.lst (natL (takenN fs)))) (ca j) = some (.lst (fl bs.length fun t => .int (Amat bs fs qs t j))) := fun j hj => ⟨(hca j hj).1, s4' _ _ (hca j hj).2⟩
    have s24 : Same H2 (upd H3 ps (.lst (natL (takenN fs)))) := s3'.trans s4'
    generalize upd H3 ps (.lst (natL (takenN fs))) = H4 at s24 es4 ec4 hca4 ⊢
    refine ⟨ps, rfl, ⟨_, SqL.of es4⟩, ?_⟩
    have npsc : ps ≠ pc := fun e => ne_of_none ec nps e.symm
    refine for_it (walk_list (K := K) (a := ps) (xs := natL (takenN fs))) (fun i σ H' => ∃ (x3 : Option V) (ca : Nat → Addr), σ = [some (.ref l), some (.ref af), some (.ref la), x3, some (.ref pl), some (.ref pk), some (.ref pc), none, none, none, none, none, none, none, none, none, none, none] ∧ Same H2 H' ∧
        H' ps = some (.lst (natL (takenN fs))) ∧ H' pc = some (.lst (fl (qs.length + i) fun j => .ref (ca j))) ∧ ∀ j, j < qs.length + i → ca j ≠ pc ∧ H' (ca j) = some (.lst (fl bs.length fun t => .int (Amat bs fs qs t j))))
      ⟨none, ca, rfl, s24, es4, ec4, hca4⟩ (fun i σ H' _ ⟨_, _, _, _, z, _⟩ => SqL.of z) ?_ ?_
    · clear ca ec hca ec4 hca4
      rintro i v σ H5 H5' hi ⟨x3, ca, rfl, z, es, ec, hca⟩ ⟨rfl, hv⟩
      rw [lN] at hi
      have hv2 : ((takenN fs).map fun i : Nat => V.int (i : Int))[i]? = some v := hv
      rw [List.getElem?_map, List.getElem?_eq_getElem hi] at hv2
      obtain rfl := Option.some.inj hv2
      obtain ⟨hnl, hkd⟩ := taken_in hi
      have eg : (takenN fs).getD i 0 = (takenN fs)[i] := by rw [List.getD_eq_getElem?_getD, List.getElem?_eq_getElem hi]; rfl
      rw [eg] at hnl hkd
      obtain ⟨u, hu, fu⟩ := fa.getM (i := (takenN fs)[i]) (j := fs[(takenN fs)[i]]) (List.getElem?_eq_getElem hnl)
      have efd : fs.getD (takenN fs)[i] dF = fs[(takenN fs)[i]] := by rw [List.getD_eq_getElem?_getD, List.getElem?_eq_getElem hnl]; rfl
      rw [efd] at hkd
      have zz := s2.trans z
      have hfo : factOf fs qs (qs.length + i) = fs[(takenN fs)[i]] := by
        unfold factOf
        rw [Nat.add_sub_cancel_left, eg, efd]
      generalize fs[(takenN fs)[i]] = fct at fu hkd hfo
      have hfm : fct ∈ fs := by
        rw [← hfo]
        unfold factOf
        rw [Nat.add_sub_cancel_left, eg, efd]
        exact List.getElem_mem hnl
      refine ⟨_, rfl, .inl ⟨rfl, _, .inl (.inl ec)⟩, ?_⟩
      refine ⟨_, rfl, _, rfl, _, rfl, af, _, ((takenN fs)[i] : Nat), _, rfl, rfl, SqT.of (zz _ _ haf), atI_nat hu, ?_⟩
      dsimp only [tNil]
      refine ⟨l, u, bs, fct, k, rfl, hb.same zz, fu.same zz, ?_, (ask.f fct hfm).1, ask.k10, ask.b, fun p H6 s6 np e6 => ?_⟩
      · rcases hkd with e | e
        · rw [e]
          decide +kernel
        · rw [e]
          decide +kernel
      refine ⟨p, rfl, ⟨_, SqL.of e6⟩, fun D hD => ?_⟩
      refine lc_it (walk_list (K := K) (a := p) (xs := fl bs.length fun t => .int (levF bs (fOne fct) (fPs fct) t))) (fun t H7 => Same H6 H7 ∧ H7 D = some (.lst (fl t fun t => .int (-levF bs (fOne fct) (fPs fct) t)))) ⟨same_new hD, upd_same⟩ (fun t H7 _ ⟨z7, _⟩ => SqL.of (z7 _ _ e6)) ?_ ?_
      · rintro t v H7 H8 ht ⟨z7, eD⟩ ⟨rfl, hv⟩
        obtain ⟨htn, rfl⟩ := fl_inv hv
        refine ⟨rfl, _, rfl, _, rfl, _, eD, ?_, same_upd z7 hD, ?_⟩
        · rw [fl_len]
          exact Nat.lt_of_lt_of_le (show t < 51 by have := ask.b.2; omega) (by decide)
        · rw [upd_same]
          exact congrArg (fun l => some (HO.lst l)) (fl_snoc t fun t => .int (-levF bs (fOne fct) (fPs fct) t))
      · rintro H7 ⟨z7, eD⟩
        rw [fl_len] at eD
        have z57 := s6.trans z7
        have ec7 := z57 _ _ ec
        have nDc : D ≠ pc := fun e => ne_of_none (s6 _ _ ec) hD e.symm
        refine ⟨pc, _, _, rfl, rfl, ec7, ?_, ?_⟩
        · rw [fl_len]
          exact Nat.lt_of_lt_of_le (show qs.length + i < 51 by omega) (by decide)
        rw [fl_ref (i := qs.length + i) rfl]
        refine ⟨_, fun j => if j = qs.length + i then D else ca j, rfl, same_upd (z.trans z57) npc, by rw [upd_ne npsc]; exact z57 _ _ es, upd_same, fun j hj => ?_⟩
        dsimp only
        by_cases c : j = qs.length + i
        · subst c
          rw [if_pos rfl]
          refine ⟨nDc, ?_⟩
          rw [upd_ne nDc, eD]
          refine congrArg (fun l => some (HO.lst l)) (fl_congr fun t ht => congrArg V.int ?_)
          unfold Amat
          rw [if_pos ht, if_neg (by omega), hfo]
        · obtain ⟨b1, b2⟩ := hca j (by omega)
          rw [if_neg c]
          exact ⟨b1, by rw [upd_ne b1]; exact z57 _ _ b2⟩
    clear ca ec hca ec4 hca4 es4 s24
    rintro σ H5 ⟨x3, ca, rfl, s5', es, ec, hca⟩
    rw [lN] at ec hca
    have s25 := s2.trans s5'
    have el5 := s5' _ _ el2
    have ek5 := s5' _ _ ek
    refine ⟨(by show 1 ≤ sizeLine; decide), fun t1 n1 => ?_⟩
    have a1 := same_new (o := .lst [.int 1]) n1
    have b1 : (upd H5 t1 (.lst [.int 1])) t1 = some (.lst [.int 1]) := upd_same
    generalize upd H5 t1 (.lst [.int 1]) = H6 at a1 b1 ⊢
    refine ⟨_, rfl, la, _, rfl, .inl (SqL.of ((s25.trans a1) _ _ eqs)), ?_⟩
    rw [lqs]
    refine rep_read (by omega) b1 fun p1 np1 => ?_
    have a2 := a1.trans (same_new (o := .lst (fl qs.length fun _ => .int 1)) np1)
    have b2 : (upd H6 p1 (.lst (fl qs.length fun _ => .int 1))) p1 = some (.lst (fl qs.length fun _ => .int 1)) := upd_same
    generalize upd H6 p1 (.lst (fl qs.length fun _ => .int 1)) = H7 at a2 b2 ⊢
    refine ⟨(by show 1 ≤ sizeLine; decide), fun t2 n2 => ?_⟩
    have a3' := same_new (o := .lst [.int 0]) n2
    have b3 : (upd H7 t2 (.lst [.int 0])) t2 = some (.lst [.int 0]) := upd_same
    generalize upd H7 t2 (.lst [.int 0]) = H8 at a3' b3 ⊢
    have a3 := a2.trans a3'
    have c3 := a3' _ _ b2
    refine ⟨_, rfl, _, rfl, ?_⟩
    refine cat_read (a3 _ _ el5) (a3 _ _ ek5) (by rw [lN, lN]; omega) fun p2 np2 => ?_
    rw [eNN]
    have a4' := same_new (o := .lst (natL (takenN fs))) np2
    have b4 : (upd H8 p2 (.lst (natL (takenN fs)))) p2 = some (.lst (natL (takenN fs))) := upd_same
    generalize upd H8 p2 (.lst (natL (takenN fs))) = H9 at a4' b4 ⊢
    have a4 := a3.trans a4'
    refine ⟨p2, _, rfl, .inl (SqL.of b4), ?_⟩
    rw [lN]
    refine rep_read (by omega) (a4' _ _ b3) fun p3 np3 => ?_
    have a5' := same_new (o := .lst (fl (takenN fs).length fun _ => .int 0)) np3
    have b5 : (upd H9 p3 (.lst (fl (takenN fs).length fun _ => .int 0))) p3 = some (.lst (fl (takenN fs).length fun _ => .int 0)) := upd_same
    generalize upd H9 p3 (.lst (fl (takenN fs).length fun _ => .int 0)) = H10 at a5' b5 ⊢
    have a5 := a4.trans a5'
    refine cat_read (a5' _ _ (a4' _ _ c3)) b5 (by rw [fl_len, fl_len]; omega) fun gp ngp => ?_
    rw [fl_app (h := fun j => V.int (Amat bs fs qs bs.length j)) (fun i hi => by rw [goal_row, if_pos hi]) (fun i hi => by rw [goal_row, if_neg (by omega)])]
    have a6' := same_new (o := .lst (fl (qs.length + (takenN fs).length) fun j => V.int (Amat bs fs qs bs.length j))) ngp
    have eg : (upd H10 gp (.lst (fl (qs.length + (takenN fs).length) fun j => V.int (Amat bs fs qs bs.length j)))) gp = some (.lst (fl (qs.length + (takenN fs).length) fun j => V.int (Amat bs fs qs bs.length j))) := upd_same
    generalize upd H10 gp (.lst (fl (qs.length + (takenN fs).length) fun j => V.int (Amat bs fs qs bs.length j))) = H11 at a6' eg ⊢
    have a6 := a5.trans a6'
    clear b1 b2 b3 c3 b4 b5 a1 a2 a3 a3' a4 a4' a5 a5' a6' np1 np2 np3 n1 n2
    refine ⟨(by show 1 ≤ sizeLine; decide), fun t1 n1 => ?_⟩
    have a1 := same_new (o := .lst [.bl true]) n1
    have b1 : (upd H11 t1 (.lst [.bl true])) t1 = some (.lst [.bl true]) := upd_same
    generalize upd H11 t1 (.lst [.bl true]) = H12 at a1 b1 ⊢
    refine ⟨_, rfl, _, rfl, ?_⟩
    refine cat_read ((a6.trans a1) _ _ (s25 _ _ eqs)) ((a6.trans a1) _ _ el5) (by rw [lN]; omega) fun p2 np2 => ?_
    have a2' := same_new (o := .lst (qxs ++ natL (numsOf "let" fs))) np2
    have b2 : (upd H12 p2 (.lst (qxs ++ natL (numsOf "let" fs)))) p2 = some (.lst (qxs ++ natL (numsOf "let" fs))) := upd_same
    generalize upd H12 p2 (.lst (qxs ++ natL (numsOf "let" fs))) = H13 at a2' b2 ⊢
    have a2 := a1.trans a2'
    refine ⟨p2, _, rfl, .inl (SqL.of b2), ?_⟩
    rw [List.length_append, lqs, lN]
    refine rep_read (by omega) (a2' _ _ b1) fun p3 np3 => ?_
    have a3' := same_new (o := .lst (fl (qs.length + (numsOf "let" fs).length) fun _ => .bl true)) np3
    have b3 : (upd H13 p3 (.lst (fl (qs.length + (numsOf "let" fs).length) fun _ => .bl true))) p3 = some (.lst (fl (qs.length + (numsOf "let" fs).length) fun _ => .bl true)) := upd_same
    generalize upd H13 p3 (.lst (fl (qs.length + (numsOf "let" fs).length) fun _ => .bl true)) = H14 at a3' b3 ⊢
    have a3 := a2.trans a3'
    refine ⟨(by show 1 ≤ sizeLine; decide), fun t4 n4 => ?_⟩
    have a4' := same_new (o := .lst [.bl false]) n4
    have b4 : (upd H14 t4 (.lst [.bl false])) t4 = some (.lst [.bl false]) := upd_same
    generalize upd H14 t4 (.lst [.bl false]) = H15 at a4' b4 ⊢
    have a4 := a3.trans a4'
    refine ⟨_, rfl, pk, _, rfl, .inl (SqL.of ((a6.trans a4) _ _ ek5)), ?_⟩
    rw [lN]
    refine rep_read (by omega) b4 fun p5 np5 => ?_
    have a5' := same_new (o := .lst (fl (numsOf "as" fs).length fun _ => .bl false)) np5
    have b5 : (upd H15 p5 (.lst (fl (numsOf "as" fs).length fun _ => .bl false))) p5 = some (.lst (fl (numsOf "as" fs).length fun _ => .bl false)) := upd_same
    generalize upd H15 p5 (.lst (fl (numsOf "as" fs).length fun _ => .bl false)) = H16 at a5' b5 ⊢
    have a5 := a4.trans a5'
    refine cat_read (a5' _ _ (a4' _ _ b3)) b5 (by rw [fl_len, fl_len]; omega) fun p6 np6 => ?_
    rw [fl_app (h := fun j => V.bl (Bfun bs fs qs j)) (fun i hi => by rw [b_aim hi]) (fun i hi => by rw [b_back (by omega) (by unfold colN; omega)])]
    have a6'' := same_new (o := .lst (fl (qs.length + (numsOf "let" fs).length + (numsOf "as" fs).length) fun j => V.bl (Bfun bs fs qs j))) np6
    have b6 : (upd H16 p6 (.lst (fl (qs.length + (numsOf "let" fs).length + (numsOf "as" fs).length) fun j => V.bl (Bfun bs fs qs j)))) p6 = some (.lst (fl (qs.length + (numsOf "let" fs).length + (numsOf "as" fs).length) fun j => V.bl (Bfun bs fs qs j))) := upd_same
    generalize upd H16 p6 (.lst (fl (qs.length + (numsOf "let" fs).length + (numsOf "as" fs).length) fun j => V.bl (Bfun bs fs qs j))) = H17 at a6'' b6 ⊢
    have a7 := a5.trans a6''
    have s17 := s25.trans (a6.trans a7)
    clear b1 b2 b3 b4 b5 a1 a2 a2' a3 a3' a4 a4' a5 a5' a6'' np2 np3 np5 np6 n1 n4
    refine ⟨_, rfl, l, rfl, ⟨_, SqL.of (s17 _ _ ebs)⟩, fun D hD => ?_⟩
    refine lc_it (walk_list (K := K) (a := l) (xs := bxs)) (fun t H18 => Same H17 H18 ∧ H18 D = some (.lst (fl t fun t => .bl (!(bs.getD t defB).lo)))) ⟨same_new hD, upd_same⟩ (fun t H18 _ ⟨z, _⟩ => SqL.of (z _ _ (s17 _ _ ebs))) ?_ ?_
    · rintro t v H18 H19 ht ⟨z, eD⟩ ⟨rfl, hv⟩
      obtain ⟨tq, b, e1, rfl, e3⟩ := abs t v hv
      refine ⟨rfl, _, rfl, _, rfl, tq, _, -1, .bl b.lo, rfl, rfl, seqT_same (s17.trans z) e3, rfl, b.lo, rfl, _, eD, ?_, same_upd z hD, ?_⟩
      · rw [fl_len]
        exact Nat.lt_of_lt_of_le (show t < 51 by have := ask.b.2; omega) (by decide)
      · rw [upd_same]
        have e : (bs.getD t defB) = b := by rw [List.getD_eq_getElem?_getD, e1]; rfl
        rw [← e]
        exact congrArg (fun l => some (HO.lst l)) (fl_snoc t fun t => .bl (!(bs.getD t defB).lo))
    rintro H18 ⟨z18, eD⟩
    rw [lbs] at eD
    refine cat_read (z18 _ _ b6) eD (by rw [fl_len, fl_len]; have := ask.b.2; omega) fun bp nbp => ?_
    rw [fl_app (h := fun j => V.bl (Bfun bs fs qs j)) (fun i hi => rfl) (fun i hi => by rw [show qs.length + (numsOf "let" fs).length + (numsOf "as" fs).length + i = colN fs qs + i by unfold colN; omega, b_unit])]
    rw [show qs.length + (numsOf "let" fs).length + (numsOf "as" fs).length + bs.length = colN fs qs + bs.length by unfold colN; omega]
    have a8 := z18.trans (same_new (o := .lst (fl (colN fs qs + bs.length) fun j => V.bl (Bfun bs fs qs j))) nbp)
    have ebp : (upd H18 bp (.lst (fl (colN fs qs + bs.length) fun j => V.bl (Bfun bs fs qs j)))) bp = some (.lst (fl (colN fs qs + bs.length) fun j => V.bl (Bfun bs fs qs j))) := upd_same
    generalize upd H18 bp (.lst (fl (colN fs qs + bs.length) fun j => V.bl (Bfun bs fs qs j))) = H19 at a8 ebp ⊢
    have s5m := a6.trans (a7.trans a8)
    have sm := s25.trans s5m
    have egm := (a7.trans a8) _ _ eg
    have ecm := s5m _ _ ec
    have nm : colN fs qs ≤ 50 := ask.n
    have mm := ask.b.2
    refine ⟨_, rfl, _, rfl, _, rfl, fun xT dx nx nd ne => ?_⟩
    have sX : Same H19 (upd (upd H19 dx (.own xT)) xT (.ins C dx [])) := same_upd (same_new nd) nx
    have eX : (upd (upd H19 dx (.own xT)) xT (.ins C dx [])) xT = some (.ins C dx []) := upd_same
    generalize upd (upd H19 dx (.own xT)) xT (.ins C dx []) = H20 at sX eX ⊢
    refine ⟨xT, dx, pc, gp, bp, colN fs qs, bs.length, ca, Amat bs fs qs, Bfun bs fs qs, rfl, eX, sX _ _ ecm, fun j hj => sX _ _ (s5m _ _ (hca j hj).2), sX _ _ egm, sX _ _ ebp, by omega, by omega, fun H21 hp sp rp ra kk nhp nsp tab => ⟨rfl, ?_⟩⟩
    have sM : Same H19 H21 := fun c o e => kk c o (ne_of_none e nx) (sX c o e)
    have fair : Fair ⟨xT, dx, hp, sp, rp, bp, colN fs qs, bs.length, ra, fun j => j, fun i => colN fs qs + i, Amat bs fs qs, 1, Bfun bs fs qs⟩ (GM.forms (colN fs qs) (Amat bs fs qs)) :=
      ⟨rfl, rfl, ⟨1, Sta.first (colN fs qs) bs.length (Amat bs fs qs)⟩, ⟨5000, fun kk c hc => ask.forms c kk hc, pow50 nm⟩⟩
    refine ⟨_, rfl, xT, dx, _, rfl, tab.o, t5_noM (by simp), ?_⟩
    dsimp only [tNil]
    refine ⟨_, _, rfl, tab, fair, fun H22 rp2 ra2 S o22 tb ok set => ⟨fun f hf bf gpos no => ?_, fun no => ?_⟩⟩
    · have sG : Same H19 H22 := outs_same sM o22 (fun a ha => by
        simp only [Tb.own, List.mem_cons, List.not_mem_nil, or_false] at ha
        rcases ha with rfl | rfl | rfl
        · exact nx
        · exact sX.free nhp
        · exact sX.free nsp)
      have s22 := sm.trans sG
      obtain ⟨⟨c1, hc1, hc2⟩, mk⟩ := grows_parts ok set hf bf gpos no
      have sml := fair.small ok
      refine ⟨_, rfl, rfl, _, rfl, iteF ?_⟩
      refine ⟨_, rfl, xT, dx, _, rfl, tb.o, t5_noM (by simp), _, rfl, ?_⟩
      dsimp only [tNil]
      refine ⟨_, f, rfl, tb, hf, ok.W, fun p H23 s23 np e => ?_⟩
      refine ⟨p, colN fs qs, val (colN fs qs) bs.length S.hd S.sd S.T S.d f, rfl, e, by omega, ⟨c1, hc1, hc2⟩, fun i _ => val_small sml hf i, fun pa H24 c s24 np2 c0 hc ea => ?_⟩
      obtain ⟨a, ha⟩ : ∃ a : Nat → Int, a = fun i => val (colN fs qs) bs.length S.hd S.sd S.T S.d f i / c := ⟨_, rfl⟩
      have parts : IsParts bs fs qs a := by
        rw [ha]
        exact mk _ c c0 hc
      have ea : H24 pa = some (.lst (fl (colN fs qs) fun i => .int (a i))) := by
        rw [ha]
        exact ea
      clear ha
      have sA := s23.trans s24
      have sAll := s22.trans sA
      have s5A := s5m.trans (sG.trans sA)
      refine ⟨_, rfl, la, _, rfl, .inl (SqL.of (sAll _ _ eqs)), ?_⟩
      rw [lqs]
      refine ⟨_, rfl, _, rfl, pl, _, rfl, .inl (SqL.of (s5A _ _ el5)), _, _, rfl, rfl, ?_⟩
      dsimp only [gName, List.set_cons_zero, List.set_cons_succ]
      rw [lN, show ((qs.length : Nat) : Int) + (((numsOf "let" fs).length : Nat) : Int) = ((qs.length + (numsOf "let" fs).length : Nat) : Int) by omega]
      refine ⟨_, rfl, ?_⟩
      dsimp only [tNoPart]
      refine ⟨_, rfl, _, rfl, pa, _, rfl, SqL.of ea, fun p1 np1 => ?_⟩
      rw [fl_take (by unfold colN; omega)]
      have u1 := same_new (o := .lst (fl qs.length fun i => .int (a i))) np1
      have e1 : (upd H24 p1 (.lst (fl qs.length fun i => .int (a i)))) p1 = some (.lst (fl qs.length fun i => .int (a i))) := upd_same
      generalize upd H24 p1 (.lst (fl qs.length fun i => .int (a i))) = H25 at u1 e1 ⊢
      refine ⟨p1, _, rfl, .inl ⟨SqL.of e1, fun p2 np2 => ?_⟩⟩
      have u2 := u1.trans (same_new (o := .tup (fl qs.length fun i => .int (a i))) np2)
      have F1 : Fz (upd H25 p2 (.tup (fl qs.length fun i => .int (a i)))) (.ref p2) (.tuple ((List.range qs.length).map fun i => .int (a i))) := .tup upd_same (fz_intsL _ a _)
      generalize upd H25 p2 (.tup (fl qs.length fun i => .int (a i))) = H26 at u2 F1 ⊢
      refine ⟨_, rfl, _, rfl, _, rfl, _, rfl, _, rfl, _, rfl, pa, _, rfl, SqL.of (u2 _ _ ea), fun p3 np3 => ?_⟩
      rw [fl_mid (by unfold colN; omega)]
      dsimp only [tNil]
      have u3' := same_new (o := .lst (fl (numsOf "let" fs).length fun i => .int (a (qs.length + i)))) np3
      have u3 := u2.trans u3'
      refine ⟨pl, p3, (numsOf "let" fs).length, letN fs, fun i => a (qs.length + i), rfl, ?_, upd_same, by omega, fun v1 H28 s28 F2 => ?_⟩
      · rw [(s5A.trans u3) _ _ el5, natL_fl]
        rfl
      have u4 := u3.trans s28
      have F1b := F1.same (u3'.trans s28)
      refine ⟨_, rfl, _, rfl, _, rfl, _, rfl, ?_⟩
      dsimp only [tNoPart]
      refine ⟨pa, _, rfl, SqL.of (u4 _ _ ea), fun p4 np4 => ?_⟩
      rw [show colN fs qs = qs.length + (numsOf "let" fs).length + (numsOf "as" fs).length by unfold colN; omega, fl_drop]
      dsimp only [tNil]
      have u5' := same_new (o := .lst (fl (numsOf "as" fs).length fun i => .int (a (qs.length + (numsOf "let" fs).length + i)))) np4
      have u5 := u4.trans u5'
      refine ⟨pk, p4, (numsOf "as" fs).length, asN fs, fun i => a (qs.length + (numsOf "let" fs).length + i), rfl, ?_, upd_same, by omega, fun v2 H30 s30 F3 => ?_⟩
      · rw [(s5A.trans u5) _ _ ek5, natL_fl]
        rfl
      have u6 := u5.trans s30
      have F1c := F1b.same (u5'.trans s30)
      have F2c := F2.same (u5'.trans s30)
      refine ⟨(by show 3 ≤ sizeLine; decide), fun r3 nr3 => ?_⟩
      have u7' := same_new (o := .tup [.ref p2, v1, v2]) nr3
      have F4 : Fz (upd H30 r3 (.tup [.ref p2, v1, v2])) (.ref r3) (eMix fs qs a) := .tup upd_same (.cons (F1c.same u7') (.cons (F2c.same u7') (.cons (F3.same u7') .nil)))
      generalize upd H30 r3 (.tup [.ref p2, v1, v2]) = H31 at u7' F4 ⊢
      refine ⟨(by show 2 ≤ sizeLine; decide), fun r2 nr2 => ?_⟩
      have u8 := same_new (o := .tup [.str "parts", .ref r3]) nr2
      exact q _ _ (sAll.trans ((u6.trans u7').trans u8)) (.inr ⟨a, parts, .tup upd_same (.cons (.str _) (.cons (F4.same u8) .nil))⟩)
    · have sG : Same H19 H22 := outs_same sM o22 (fun a ha => by
        simp only [Tb.own, List.mem_cons, List.not_mem_nil, or_false] at ha
        rcases ha with rfl | rfl | rfl
        · exact nx
        · exact sX.free nhp
        · exact sX.free nsp)
      have s22 := sm.trans sG
      obtain ⟨⟨i1, hi1, hi2⟩, mk⟩ := stops_stock ok set ask.q1 no
      have sml := fair.small ok
      refine ⟨_, rfl, rfl, _, rfl, iteT ?_⟩
      refine ⟨_, rfl, _, rfl, xT, dx, _, rfl, tb.o, t5_noM (by simp), ?_⟩
      dsimp only [tNil]
      refine ⟨_, rfl, tb, ok.W, fun p H23 s23 np e => ?_⟩
      refine ⟨p, bs.length, fun i => cost (colN fs qs) bs.length S.hd S.T (colN fs qs + i), rfl, e, by omega, ⟨i1, hi1, hi2⟩, fun i _ => cost_small sml _, fun pa H24 c s24 np2 c0 hc ea => ?_⟩
      obtain ⟨g, hg⟩ : ∃ g : Nat → Int, g = fun i => cost (colN fs qs) bs.length S.hd S.T (colN fs qs + i) / c := ⟨_, rfl⟩
      have stock : IsStock bs fs qs g := by
        rw [hg]
        exact mk _ c c0 hc
      have ea : H24 pa = some (.lst (fl bs.length fun i => .int (g i))) := by
        rw [hg]
        exact ea
      have gsm : ∀ i, i < bs.length → (g i).natAbs < 2 ^ 1000 := fun i hi => by
        rw [hg]
        exact div_small (hc i hi) c0 (cost_small sml _)
      clear hg
      have sAll := s22.trans (s23.trans s24)
      have q1 := ask.q1
      have hx0 : qxs[0]? = some qxs[0] := List.getElem?_eq_getElem (by omega)
      obtain ⟨am, q0, y, e1, e2, e3, e4⟩ := aqs 0 _ hx0
      obtain ⟨ya, yx, rfl, hya, fy⟩ := e4.t
      have lyx : yx.length = k := by rw [fy.len, List.length_map, (ask.q q0 (List.mem_of_getElem? e1)).1]
      have ax0 : atI qxs 0 = some (.ref am) := by
        rw [← e2]
        exact atI_nat (j := 0) hx0
      refine ⟨_, rfl, la, _, 0, _, rfl, rfl, SqL.of (sAll _ _ eqs), ax0, am, _, 1, _, rfl, rfl, SqT.of (sAll _ _ e3), at1, ya, _, rfl, .inr (SqT.of (sAll _ _ hya)), ?_⟩
      dsimp only [tNil]
      refine ⟨l, pa, bs, g, k, by rw [lyx] <;> rfl, hb.same sAll, ea, ask.b, ask.k10, gsm, fun v H25 s25' fv => ?_⟩
      refine ⟨(by show 2 ≤ sizeLine; decide), fun r nr => ?_⟩
      have sr := same_new (o := .tup [.str "stock", v]) nr
      exact q _ _ (sAll.trans (s25'.trans sr)) (.inl ⟨g, stock, .tup upd_same (.cons (.str _) (.cons (fv.same sr) .nil))⟩)
end
end K73
namespace GD
open PySem PySem.Spec PyProof.Rows L2 GM
theorem numsTo_cnt (x : Str) (fs : List Fact) : ∀ i, i ≤ fs.length → (numsTo x fs i).length = GD.cnt x (fs.take i)
  | 0, _ => rfl
  | i + 1, h => by
    have e : fs[i]? = some (fs.getD i dF) := by rw [List.getD_eq_getElem?_getD, List.getElem?_eq_getElem (by omega)]; rfl
    rw [numsTo_next, List.length_append, numsTo_cnt x fs i (by omega), List.take_add_one, e]
    unfold GD.cnt
    rw [show (some (fs.getD i dF)).toList = [fs.getD i dF] from rfl, List.filter_append, List.length_append]
    by_cases c : kindS (fs.getD i dF) = x
    · rw [if_pos c, List.filter_cons_of_pos (by rw [decide_eq_true c])]
      rfl
    · rw [if_neg c, List.filter_cons_of_neg (by rw [decide_eq_false c]; decide)]
      rfl
theorem nums_cnt (x : Str) (fs : List Fact) : (numsOf x fs).length = GD.cnt x fs := by
  have z := numsTo_cnt x fs fs.length (Nat.le_refl _)
  rw [List.take_length] at z
  exact z
def eSure (fs : List Fact) (q : Aim) (a : Nat → Int) : PyData := .tuple [.str "sure", .tuple [.int (a 0), .tuple ((partsL (numsOf "let" fs).length (letN fs) fun i => a (1 + i)).map eP), .tuple ((partsL (numsOf "as" fs).length (asN fs) fun i => a (1 + (numsOf "let" fs).length + i)).map eP)]]
/-- what is told of one aim -/
def Told1 (bs : List Bas) (fs : List Fact) (q : Aim) (k : Nat) (d : PyData) : Prop := (∃ g, IsStock bs fs [q] g ∧ d = .tuple [.str "stock", eK (sumK bs g k)]) ∨ ∃ a, IsParts bs fs [q] a ∧ d = eSure fs q a
def spProofBy (K : PySem.W.Frag) : Sp := fun vs H Q _ => ∃ (l am : Addr) (x y : V) (bs : List Bas) (fs : List Fact) (q : Aim) (k : Nat), vs = [.ref l, x, .ref am] ∧ BasAt K H l bs ∧ Fz H x (.tuple (fs.map eF)) ∧ H am = some (.tup [.int q.1, y]) ∧ Fz H y (eS q.2) ∧ Asks k bs fs [q] ∧ fs.length ≤ 60 ∧
  ∀ v H' d, Same H H' → Told1 bs fs q k d → Fz H' v d → Q v H'
def spProof : Sp := fun vs H Q _ => ∃ (m am : Addr) (x y : V) (ms : List Str) (fs : List Fact) (q : Aim), vs = [.ref m, x, .ref am] ∧ H m = some (.tup (ms.map V.str)) ∧ (∀ x ∈ ms, x ∈ mans4) ∧ ms.length ≤ 4 ∧ Fz H x (.tuple (fs.map eF)) ∧ H am = some (.tup [.int q.1, y]) ∧ Fz H y (eS q.2) ∧ Asks ms.length (basics ms) fs [q] ∧ fs.length ≤ 60 ∧
  ∀ v H' d, Same H H' → Told1 (basics ms) fs q ms.length d → Fz H' v d → Q v H'
end GD
namespace K73
open PySem PySem.Spec PyProof.Rows L2 GD GM
abbrev pProofBy : Stmt := top 52
abbrev pProof : Stmt := top 51
abbrev pSure : Stmt := top 49
section
variable {P : Program} {w : World} {K : PySem.W.Frag} {mg : Str → Option Value} {base : Heap}
abbrev NPb : List Str := ["basics", "facts", "aim", "found", "shares", "weights", "backs"]
theorem scPb : FnScope NPb ["basics", "facts", "aim"] (defScope pProofBy) := ⟨rfl, rfl, rfl, by decide +kernel, rfl, by decide +kernel, by decide +kernel⟩
theorem ok_proofby {f fP : Addr} {fd fdP : FuncData} (F : Fun K "proof_by" "proof_by" pProofBy f fd) (gP : mg "parted" = some (.ref fP)) (bP : Binds K fdP ["basics", "facts", "aims"] []) (kP : PySem.W.keepIn K (.ref fP) = true) (GP : FnOk P w K mg base CX0 4 fP fdP ["basics", "facts", "aims"] (spParted K)) :
    FnOk P w K mg base CX0 5 f fd ["basics", "facts", "aim"] (spProofBy K) := by
  refine F.ok scPb (fun vs H Q E h => ?_) (fun cdv A outer s H vs Q E hr h => ?_)
  · obtain ⟨l, am, x, y, bs, fs, q, k, rfl, _⟩ := h
    rfl
  · obtain ⟨l, am, x, y, bs, fs, qq, k, rfl, hb, fz, ha, fy, ask, hl, q⟩ := h
    refine ⟨_, pss_cons (ps_set (i := 3) scPb.nd rfl (.inl rfl) (pe_call GP hr (by rfl) gP kP bP .nil pass0 (pa_cons (pv 0) (pa_cons (pv 1) (pa_cons (pe_lst (pa_cons (pv 2) pa_nil)) pa_nil)))))
      (pss_cons (ps_if (pt_cmpR op_eq (pe_ix ix_tup (pv 3) pe_int (fun _ _ => rfl)) pe_str (nomark _)) (pss_one (ps_ret (pv 3))) pss_nil)
      (pss_cons (ps_asg (pe_ix ix_tup (pv 3) pe_int (fun _ _ => rfl)) (pg_tup rfl (pgs_cons (pg_name (i := 4) scPb.nd rfl (.inl rfl)) (pgs_cons (pg_name (i := 5) scPb.nd rfl (.inl rfl)) (pgs_cons (pg_name (i := 6) scPb.nd rfl (.inl rfl)) pgs_nil)))))
      (pss_one (ps_ret (pe_tup (pa_cons pe_str (pa_cons (pe_tup (pa_cons (pe_ix ix_tup (pv 4) pe_int (fun _ _ => rfl)) (pa_cons (pv 5) (pa_cons (pv 6) pa_nil)))) pa_nil))))))), ?rd⟩
    refine ⟨_, rfl, _, rfl, _, rfl, (by show 1 ≤ sizeLine; decide), fun la nla => ?_⟩
    have s1 := same_new (o := .lst [.ref am]) nla
    have e1 : (upd H la (.lst [.ref am])) la = some (.lst [.ref am]) := upd_same
    generalize upd H la (.lst [.ref am]) = H1 at s1 e1 ⊢
    dsimp only [tNil]
    refine ⟨l, la, x, bs, fs, [qq], k, rfl, hb.same s1, fz.same s1, ⟨_, e1, rfl, fun i v hv => ?_⟩, ask, hl, fun v H2 s2 hv => ?_⟩
    · cases i with
      | zero =>
        obtain rfl := Option.some.inj hv
        exact ⟨am, qq, y, rfl, rfl, s1 _ _ ha, fy.same s1⟩
      | succ i => cases hv
    have s12 := s1.trans s2
    rcases hv with ⟨g, st, fv⟩ | ⟨a, pt, fv⟩
    · obtain ⟨va, x1, x2, rfl, hva, f1, f2⟩ := fv.t2
      obtain rfl := f1.s
      refine ⟨_, rfl, va, _, 0, _, rfl, rfl, SqT.of hva, at0, rfl, _, rfl, ?_⟩
      refine iteT ⟨_, rfl, ?_⟩
      exact q _ H2 _ s12 (.inl ⟨g, st, rfl⟩) fv
    · obtain ⟨va, x1, x2, rfl, hva, f1, f2⟩ := fv.t2
      obtain rfl := f1.s
      obtain ⟨ma, y1, y2, y3, rfl, hma, g1, g2, g3⟩ := f2.t3
      obtain ⟨sa, sx, rfl, hsa, h1⟩ := g1.t
      have h1 : FzAll H2 sx [PyData.int (a 0)] := h1
      cases h1 with
      | cons hh ht =>
        cases ht
        obtain rfl := hh.i
        refine ⟨_, rfl, va, _, 0, _, rfl, rfl, SqT.of hva, at0, rfl, _, rfl, ?_⟩
        rw [show decide (V.str ("parts" : Str) = V.str ("stock" : Str)) = false from decide_eq_false (fun e => absurd (V.str.inj e) (by decide +kernel))]
        refine iteF ⟨_, rfl, va, _, 1, _, rfl, rfl, SqT.of hva, at1, ma, _, rfl, SqT.of hma, rfl, _, _, rfl, _, _, rfl, _, _, rfl, rfl, ?_⟩
        refine ⟨_, rfl, sa, _, 0, _, rfl, rfl, SqT.of hsa, at0, _, rfl, _, rfl, (by show 3 ≤ sizeLine; decide), fun r3 n3 => ?_⟩
        have s3 := same_new (o := .tup [.int (a 0), y2, y3]) n3
        have F3 : Fz (upd H2 r3 (.tup [.int (a 0), y2, y3])) (.ref r3) (.tuple [.int (a 0), .tuple ((partsL (numsOf "let" fs).length (letN fs) fun i => a (1 + i)).map eP), .tuple ((partsL (numsOf "as" fs).length (asN fs) fun i => a (1 + (numsOf "let" fs).length + i)).map eP)]) := .tup upd_same (.cons (.int _) (.cons (g2.same s3) (.cons (g3.same s3) .nil)))
        generalize upd H2 r3 (.tup [.int (a 0), y2, y3]) = H3 at s3 F3 ⊢
        refine ⟨(by show 2 ≤ sizeLine; decide), fun r2 n2 => ?_⟩
        have s4 := same_new (o := .tup [.str "sure", .ref r3]) n2
        exact q _ _ _ (s12.trans (s3.trans s4)) (.inr ⟨a, pt, rfl⟩) (.tup upd_same (.cons (.str _) (.cons (F3.same s4) .nil)))
theorem scPf : FnScope ["manners", "facts", "aim"] ["manners", "facts", "aim"] (defScope pProof) := ⟨rfl, rfl, rfl, by decide +kernel, rfl, by decide +kernel, by decide +kernel⟩
theorem ok_proof {f fP fB : Addr} {fd fdP fdB : FuncData} (F : Fun K "proof" "proof" pProof f fd) (gP : mg "proof_by" = some (.ref fP)) (bP : Binds K fdP ["basics", "facts", "aim"] []) (kP : PySem.W.keepIn K (.ref fP) = true) (GP : FnOk P w K mg base CX0 5 fP fdP ["basics", "facts", "aim"] (spProofBy K))
    (gB : mg "basic_stocks" = some (.ref fB)) (bB : Binds K fdB ["manners"] []) (kB : PySem.W.keepIn K (.ref fB) = true) (GB : FnOk P w K mg base CX0 1 fB fdB ["manners"] (spBasic K)) : FnOk P w K mg base CX0 6 f fd ["manners", "facts", "aim"] spProof := by
  refine F.ok scPf (fun vs H Q E h => ?_) (fun cdv A outer s H vs Q E hr h => ?_)
  · obtain ⟨m, am, x, y, ms, fs, q, rfl, _⟩ := h
    rfl
  · obtain ⟨m, am, x, y, ms, fs, qq, rfl, hm, h4, hl4, fz, ha, fy, ask, hl, q⟩ := h
    have hr1 : Room 1 _ := hr.mono (by decide)
    refine ⟨_, pss_one (ps_ret (pe_call GP hr (by rfl) gP kP bP .nil pass0 (pa_cons (pe_call GB hr1 (by rfl) gB kB bB .nil pass0 (pa_cons (pv 0) pa_nil)) (pa_cons (pv 1) (pa_cons (pv 2) pa_nil))))), ?rd⟩
    refine ⟨_, rfl, ?_⟩
    dsimp only [tNil]
    refine ⟨m, ms, rfl, hm, h4, hl4, fun p H1 s1 np hb => ?_⟩
    refine ⟨_, rfl, _, rfl, ?_⟩
    dsimp only [tNil]
    exact ⟨p, am, x, y, basics ms, fs, qq, ms.length, rfl, hb, fz.same s1, s1 _ _ ha, fy.same s1, ask, hl, fun v H2 d s2 td fv => q v H2 d (s1.trans s2) td fv⟩
end
end K73
namespace GD
open PySem PySem.Spec PyProof.Rows L2 GM
theorem sumN_nonneg {n : Nat} {f : Nat → Int} (h : ∀ i, i < n → 0 ≤ f i) : 0 ≤ sumN n f := by
  induction n with
  | zero => exact Int.le_refl _
  | succ n ih =>
    have a := ih fun i hi => h i (by omega)
    have b := h n (by omega)
    show 0 ≤ sumN n f + f n
    omega
theorem sumN_nonpos {n : Nat} {f : Nat → Int} (h : ∀ i, i < n → f i ≤ 0) : sumN n f ≤ 0 := by
  induction n with
  | zero => exact Int.le_refl _
  | succ n ih =>
    have a := ih fun i hi => h i (by omega)
    have b := h n (by omega)
    show sumN n f + f n ≤ 0
    omega
theorem sumN_neg {n c : Nat} {f : Nat → Int} (hc : c < n) (h0 : f c < 0) (h : ∀ i, i < n → f i ≤ 0) : sumN n f < 0 := by
  induction n with
  | zero => omega
  | succ n ih =>
    show sumN n f + f n < 0
    have b := h n (by omega)
    by_cases e : c = n
    · have a := sumN_nonpos (n := n) (f := f) fun i hi => h i (by omega)
      rw [e] at h0
      omega
    · have a := ih (by omega) fun i hi => h i (by omega)
      omega
/-- a sum over basic stocks and their amounts -/
def SB (bs : List Bas) (g : Nat → Int) (one : Int) (ps : Stn) : Int := sumN bs.length fun t => g t * lev (bs.getD t defB) one ps
theorem SB_app (xs ys : List Bas) (g : Nat → Int) (one : Int) (ps : Stn) : SB (xs ++ ys) g one ps = SB xs g one ps + SB ys (fun t => g (xs.length + t)) one ps := by
  unfold SB
  rw [List.length_append, sumN_split]
  congr 1
  · refine sumN_congr fun i hi => ?_
    rw [List.getD_eq_getElem?_getD, List.getElem?_append_left hi, ← List.getD_eq_getElem?_getD]
  · refine sumN_congr fun i hi => ?_
    rw [List.getD_eq_getElem?_getD, List.getElem?_append_right (by omega), Nat.add_sub_cancel_left, ← List.getD_eq_getElem?_getD]
def dot (cs : List (Int × Int)) (ps : Stn) : Int := (List.zipWith (fun c p => c.1 * p.1 + c.2 * p.2) cs ps).sum
/-- the changes that a manner allows -/
def MOk (m : Str) (c : Int × Int) : Prop := if m = "plain" then c.1 ≤ 0 ∧ 0 ≤ c.2 else if m = "clean" then c.1 ≤ 0 ∧ c.2 = -c.1 else if m = "spent" then c.1 ≤ 0 ∧ c.2 = 0 else True
def MsOk (ms : List Str) (cs : List (Int × Int)) : Prop := cs.length = ms.length ∧ ∀ (i : Nat) (m : Str) (c : Int × Int), ms[i]? = some m → cs[i]? = some c → MOk m c
/-- what amounts may be: of a basic stock that cannot be taken away, none below 0 -/
def GOk (bs : List Bas) (g : Nat → Int) : Prop := ∀ t, t < bs.length → (bs.getD t defB).lo = false → 0 ≤ g t
theorem GOk.left {xs ys : List Bas} {g : Nat → Int} (h : GOk (xs ++ ys) g) : GOk xs g := fun t ht lo => h t (by rw [List.length_append]; omega) (by rw [List.getD_eq_getElem?_getD, List.getElem?_append_left ht, ← List.getD_eq_getElem?_getD]; exact lo)
theorem GOk.right {xs ys : List Bas} {g : Nat → Int} (h : GOk (xs ++ ys) g) : GOk ys fun t => g (xs.length + t) := fun t ht lo => h (xs.length + t) (by rw [List.length_append]; omega) (by rw [List.getD_eq_getElem?_getD, List.getElem?_append_right (by omega), Nat.add_sub_cancel_left, ← List.getD_eq_getElem?_getD]; exact lo)
theorem dot_drop {k : Nat} {ps : Stn} (c : Int × Int) (cs : List (Int × Int)) : dot (c :: cs) (ps.drop k) = (c.1 * (ps.getD k (0, 0)).1 + c.2 * (ps.getD k (0, 0)).2) + dot cs (ps.drop (k + 1)) := by
  by_cases h : k < ps.length
  · rw [List.drop_eq_getElem_cons h, show ps.getD k (0, 0) = ps[k] by rw [List.getD_eq_getElem?_getD, List.getElem?_eq_getElem h]; rfl]
    unfold dot
    rw [List.zipWith_cons_cons, List.sum_cons]
  · rw [List.drop_eq_nil_of_le (by omega), List.drop_eq_nil_of_le (by omega), show ps.getD k (0, 0) = (0, 0) by rw [List.getD_eq_getElem?_getD, List.getElem?_eq_none (by omega)]; rfl]
    unfold dot
    rw [List.zipWith_nil_right, List.zipWith_nil_right, Int.mul_zero, Int.mul_zero, Int.zero_add, Int.zero_add]
/-- the amounts of a job's basic stocks are its changes -/
theorem chunk_to (m : Str) (k : Nat) {g : Nat → Int} (h : GOk ((chg m).map (ofC k)) g) : ∃ c, MOk m c ∧ ∀ one ps, SB ((chg m).map (ofC k)) g one ps = c.1 * (ps.getD k (0, 0)).1 + c.2 * (ps.getD k (0, 0)).2 := by
  unfold chg at h ⊢
  by_cases h1 : m = "plain"
  · rw [if_pos h1] at h ⊢
    have a0 := h 0 (by show 0 < _ + 1; omega) rfl
    have a1 := h 1 (by show 1 < _ + 1 + 1; omega) rfl
    refine ⟨(-(g 0), g 1), by unfold MOk; rw [if_pos h1]; exact ⟨by show -(g 0) ≤ 0; omega, a1⟩, fun one ps => ?_⟩
    show 0 + g 0 * lev ⟨0, k, -1, 0, false⟩ one ps + g 1 * lev ⟨0, k, 0, 1, false⟩ one ps = _
    unfold lev
    grind
  rw [if_neg h1] at h ⊢
  by_cases h2 : m = "clean"
  · rw [if_pos h2] at h ⊢
    have a0 := h 0 (by show 0 < _ + 1; omega) rfl
    refine ⟨(-(g 0), g 0), by unfold MOk; rw [if_neg h1, if_pos h2]; exact ⟨by show -(g 0) ≤ 0; omega, by show g 0 = - -(g 0); omega⟩, fun one ps => ?_⟩
    show 0 + g 0 * lev ⟨0, k, -1, 1, false⟩ one ps = _
    unfold lev
    grind
  rw [if_neg h2] at h ⊢
  by_cases h3 : m = "spent"
  · rw [if_pos h3] at h ⊢
    have a0 := h 0 (by show 0 < _ + 1; omega) rfl
    refine ⟨(-(g 0), 0), by unfold MOk; rw [if_neg h1, if_neg h2, if_pos h3]; exact ⟨by show -(g 0) ≤ 0; omega, rfl⟩, fun one ps => ?_⟩
    show 0 + g 0 * lev ⟨0, k, -1, 0, false⟩ one ps = _
    unfold lev
    grind
  rw [if_neg h3] at h ⊢
  refine ⟨(g 0, g 1), by unfold MOk; rw [if_neg h1, if_neg h2, if_neg h3]; trivial, fun one ps => ?_⟩
  show 0 + g 0 * lev ⟨0, k, 1, 0, true⟩ one ps + g 1 * lev ⟨0, k, 0, 1, true⟩ one ps = _
  unfold lev
  grind
theorem chunk_of (m : Str) (k : Nat) {c : Int × Int} (h : MOk m c) : ∃ g, GOk ((chg m).map (ofC k)) g ∧ ∀ one ps, SB ((chg m).map (ofC k)) g one ps = c.1 * (ps.getD k (0, 0)).1 + c.2 * (ps.getD k (0, 0)).2 := by
  unfold chg
  unfold MOk at h
  by_cases h1 : m = "plain"
  · rw [if_pos h1] at h ⊢
    refine ⟨fun t => if t = 0 then -c.1 else c.2, fun t ht _ => ?_, fun one ps => ?_⟩
    · dsimp only
      split
      · omega
      · exact h.2
    · show 0 + (-c.1) * lev ⟨0, k, -1, 0, false⟩ one ps + c.2 * lev ⟨0, k, 0, 1, false⟩ one ps = _
      unfold lev
      grind
  rw [if_neg h1] at h ⊢
  by_cases h2 : m = "clean"
  · rw [if_pos h2] at h ⊢
    refine ⟨fun t => -c.1, fun t ht _ => by dsimp only; omega, fun one ps => ?_⟩
    show 0 + (-c.1) * lev ⟨0, k, -1, 1, false⟩ one ps = _
    rw [h.2]
    unfold lev
    grind
  rw [if_neg h2] at h ⊢
  by_cases h3 : m = "spent"
  · rw [if_pos h3] at h ⊢
    refine ⟨fun t => -c.1, fun t ht _ => by dsimp only; omega, fun one ps => ?_⟩
    show 0 + (-c.1) * lev ⟨0, k, -1, 0, false⟩ one ps = _
    rw [h.2]
    unfold lev
    grind
  rw [if_neg h3] at h ⊢
  refine ⟨fun t => if t = 0 then c.1 else c.2, fun t ht lo => ?_, fun one ps => ?_⟩
  · have ht2 : t < 2 := ht
    obtain rfl | rfl : t = 0 ∨ t = 1 := by omega
    · cases lo
    · cases lo
  · show 0 + c.1 * lev ⟨0, k, 1, 0, true⟩ one ps + c.2 * lev ⟨0, k, 0, 1, true⟩ one ps = _
    unfold lev
    grind
theorem bas_to : ∀ (ms : List Str) (k : Nat) (g : Nat → Int), GOk (basFrom k ms) g → ∃ cs, MsOk ms cs ∧ ∀ one ps, SB (basFrom k ms) g one ps = dot cs (ps.drop k)
  | [], k, g, _ => ⟨[], ⟨rfl, fun i m c h => by cases h⟩, fun one ps => rfl⟩
  | m :: r, k, g, h => by
    have h : GOk ((chg m).map (ofC k) ++ basFrom (k + 1) r) g := h
    obtain ⟨c, hc, e1⟩ := chunk_to m k h.left
    obtain ⟨cs, ⟨l, hcs⟩, e2⟩ := bas_to r (k + 1) _ h.right
    refine ⟨c :: cs, ⟨by rw [List.length_cons, List.length_cons, l], fun i m' c' h1 h2 => ?_⟩, fun one ps => ?_⟩
    · cases i with
      | zero =>
        obtain rfl := Option.some.inj h1
        obtain rfl := Option.some.inj h2
        exact hc
      | succ i => exact hcs i m' c' h1 h2
    · show SB ((chg m).map (ofC k) ++ basFrom (k + 1) r) g one ps = _
      rw [SB_app, e1, e2, dot_drop]
theorem bas_of : ∀ (ms : List Str) (k : Nat) (cs : List (Int × Int)), MsOk ms cs → ∃ g, GOk (basFrom k ms) g ∧ ∀ one ps, SB (basFrom k ms) g one ps = dot cs (ps.drop k)
  | [], k, cs, h => by
    obtain rfl : cs = [] := List.eq_nil_of_length_eq_zero h.1
    exact ⟨fun _ => 0, fun t ht => absurd ht (Nat.not_lt_zero _), fun one ps => rfl⟩
  | m :: r, k, cs, h => by
    cases cs with
    | nil => cases h.1
    | cons c cs =>
      obtain ⟨g1, ok1, e1⟩ := chunk_of m k (h.2 0 m c rfl rfl)
      obtain ⟨g2, ok2, e2⟩ := bas_of r (k + 1) cs ⟨Nat.succ.inj h.1, fun i m' c' h1 h2 => h.2 (i + 1) m' c' h1 h2⟩
      refine ⟨fun t => if t < ((chg m).map (ofC k)).length then g1 t else g2 (t - ((chg m).map (ofC k)).length), fun t ht lo => ?_, fun one ps => ?_⟩
      · dsimp only
        have ht : t < ((chg m).map (ofC k) ++ basFrom (k + 1) r).length := ht
        have lo : (((chg m).map (ofC k) ++ basFrom (k + 1) r).getD t defB).lo = false := lo
        by_cases w : t < ((chg m).map (ofC k)).length
        · rw [if_pos w]
          exact ok1 t w (by rw [List.getD_eq_getElem?_getD, List.getElem?_append_left w, ← List.getD_eq_getElem?_getD] at lo; exact lo)
        · rw [if_neg w]
          rw [List.length_append] at ht
          exact ok2 _ (by omega) (by rw [List.getD_eq_getElem?_getD, List.getElem?_append_right (by omega), ← List.getD_eq_getElem?_getD] at lo; exact lo)
      · show SB ((chg m).map (ofC k) ++ basFrom (k + 1) r) _ one ps = _
        rw [SB_app, dot_drop, ← e1 one ps, ← e2 one ps]
        congr 1
        · unfold SB
          exact sumN_congr fun i hi => by dsimp only; rw [if_pos hi]
        · unfold SB
          exact sumN_congr fun i hi => by dsimp only; rw [if_neg (by omega), Nat.add_sub_cancel_left]
/-- the level of a stock where one, ps tell how often all goes into it -/
def levK (st : Stk) (one : Int) (ps : Stn) : Int := st.1 * one + dot st.2 ps
theorem SB_basics (ms : List Str) (g : Nat → Int) (one : Int) (ps : Stn) : SB (basics ms) g one ps = g 0 * one + SB (basFrom 0 ms) (fun t => g (1 + t)) one ps := by
  have e := SB_app [morn] (basFrom 0 ms) g one ps
  rw [show basics ms = [morn] ++ basFrom 0 ms from rfl, e]
  congr 1
  show 0 + g 0 * lev morn one ps = _
  unfold lev morn
  grind
/-- a stock that keeps the facts and is below 0 at the aim -/
structure Fits (ms : List Str) (fs : List Fact) (q : Aim) (st : Stk) : Prop where
  z : 0 ≤ st.1
  m : MsOk ms st.2
  l : ∀ f ∈ fs, kindS f = "let" → 0 ≤ levK st (fOne f) (fPs f)
  s : ∀ f ∈ fs, kindS f = "as" → levK st (fOne f) (fPs f) = 0
  a : levK st q.1 q.2 < 0
section
variable {ms : List Str} {fs : List Fact} {q : Aim}
/-- no mixture where there is such a stock -/
theorem not_both {bs : List Bas} {qs : List Aim} {g a : Nat → Int} (s : IsStock bs fs qs g) (p : IsParts bs fs qs a) : False := by
  have e : (sumN bs.length fun i => g i * sumN (colN fs qs) fun c => Amat bs fs qs i c * a c) = sumN (colN fs qs) fun c => a c * sumN bs.length fun i => g i * Amat bs fs qs i c := by
    have e1 : (sumN bs.length fun i => g i * sumN (colN fs qs) fun c => Amat bs fs qs i c * a c) = sumN bs.length fun i => sumN (colN fs qs) fun c => g i * (Amat bs fs qs i c * a c) := sumN_congr fun i _ => by rw [sumN_mul]
    rw [e1, sumN_swap]
    refine sumN_congr fun c _ => ?_
    rw [← sumN_mul]
    exact sumN_congr fun i _ => by grind
  have lo : 0 ≤ sumN bs.length fun i => g i * sumN (colN fs qs) fun c => Amat bs fs qs i c * a c := by
    refine sumN_nonneg fun i hi => ?_
    cases hb : (bs.getD i defB).lo with
    | false => exact Int.mul_nonneg (s.b i hi hb) ((p.r i hi).1 hb)
    | true =>
      rw [(p.r i hi).2 hb, Int.mul_zero]
      exact Int.le_refl _
  have hN : colN fs qs = qs.length + (takenN fs).length := rfl
  have hle := let_le (fs := fs)
  have aim : ∀ c, c < qs.length → (sumN bs.length fun i => g i * Amat bs fs qs i c) < 0 := fun c hc => by
    have z := s.a (qs.getD c (0, [])) (by rw [List.getD_eq_getElem?_getD, List.getElem?_eq_getElem hc]; exact List.getElem_mem hc)
    refine Int.lt_of_le_of_lt (Int.le_of_eq ?_) z
    refine sumN_congr fun i hi => ?_
    unfold Amat
    rw [if_pos hi, if_pos hc]
  have fact : ∀ c, qs.length ≤ c → c < colN fs qs → (sumN bs.length fun i => g i * Amat bs fs qs i c) = -(sumN bs.length fun i => g i * levF bs (fOne (factOf fs qs c)) (fPs (factOf fs qs c)) i) := fun c h1 h2 => by
    have e : ∀ i, i < bs.length → g i * Amat bs fs qs i c = (-1) * (g i * levF bs (fOne (factOf fs qs c)) (fPs (factOf fs qs c)) i) := fun i hi => by
      unfold Amat
      rw [if_pos hi, if_neg (by omega)]
      grind
    rw [sumN_congr e, sumN_mul]
    omega
  have rest : (sumN (takenN fs).length fun t => a (qs.length + t) * sumN bs.length fun i => g i * Amat bs fs qs i (qs.length + t)) ≤ 0 := by
    refine sumN_nonpos fun t ht => ?_
    have hf : factOf fs qs (qs.length + t) ∈ fs := by
      unfold factOf
      rw [Nat.add_sub_cancel_left]
      have hl := (taken_in ht).1
      rw [List.getD_eq_getElem?_getD (l := fs), List.getElem?_eq_getElem hl]
      exact List.getElem_mem hl
    rw [fact _ (by omega) (by omega)]
    by_cases c : t < (numsOf "let" fs).length
    · have hk : kindS (factOf fs qs (qs.length + t)) = "let" := by
        unfold factOf
        rw [Nat.add_sub_cancel_left]
        exact (mem_nums.mp (nums_let c)).2
      have z1 := s.l _ hf hk
      have z2 := p.n (qs.length + t) (by omega)
      have z3 := Int.mul_nonneg z2 z1
      rw [Int.mul_neg]
      omega
    · have hk : kindS (factOf fs qs (qs.length + t)) = "as" := by
        unfold factOf
        rw [Nat.add_sub_cancel_left]
        have hm : (takenN fs).getD t 0 ∈ numsOf "as" fs := by
          unfold takenN at ht ⊢
          rw [List.length_append] at ht
          rw [List.getD_eq_getElem?_getD, List.getElem?_append_right (by omega), List.getElem?_eq_getElem (by omega)]
          exact List.getElem_mem _
        exact (mem_nums.mp hm).2
      rw [s.s _ hf hk, Int.neg_zero, Int.mul_zero]
      exact Int.le_refl _
  have head : (sumN qs.length fun c => a c * sumN bs.length fun i => g i * Amat bs fs qs i c) < 0 := by
    obtain ⟨c, hc, pc⟩ := sumN_pos p.p
    refine sumN_neg hc (Int.mul_neg_of_pos_of_neg pc (aim c hc)) fun t ht => ?_
    exact Int.mul_nonpos_of_nonneg_of_nonpos (p.n t (by omega)) (by have := aim t ht; omega)
  rw [e, hN, sumN_split] at lo
  omega
end
end GD
namespace GD
open PySem PySem.Spec PyProof.Rows L2 GM
theorem bd40_small {s : Stn} (h : Bd 40 s) : Small s := fun p hp => by
  have := h p hp
  omega
theorem asks_of {js : List (Str × Str)} {fs : List Fact} {s : Stn} (ok : JsOk js fs) (hl : s.length = js.length) (hs : Bd 40 s) : Asks (js.map (·.2)).length (basics (js.map (·.2))) fs [(1, s)] := by
  have n1 := ok.nm.l1
  have n4 := ok.nm.l4
  rw [List.length_map] at n1 n4
  have bl := (basics_len (js.map (·.2))).2
  rw [List.length_map] at bl
  refine ⟨⟨fun b hb => ?_, by omega⟩, fun f hf => ?_, fun q hq => ?_, Nat.le_refl 1, ?_, by rw [List.length_map]; omega⟩
  · have o := basics_ok hb
    rw [List.length_map] at o ⊢
    obtain ⟨f1, f2⟩ := o.f
    obtain ⟨b1, b2⟩ := o.b1
    obtain ⟨e1, e2⟩ := o.e1
    refine ⟨?_, by omega, f2, b1, b2, e1, e2⟩
    rcases o.j with h | h
    · exact h
    · omega
  · have hb := ok.f.b f hf
    rw [List.length_map]
    cases f with
    | let_ s => exact ⟨hb.1, bd40_small hb.2⟩
    | not_ s => exact ⟨hb.1, bd40_small hb.2⟩
    | as_ s t => exact ⟨⟨hb.1, hb.2.2.1⟩, bd40_small hb.2.1, bd40_small hb.2.2.2.1⟩
  · rw [List.mem_singleton.mp hq, List.length_map]
    exact ⟨hl, (by decide : (-1000 : Int) ≤ 1 ∧ (1 : Int) ≤ 1000), bd40_small hs⟩
  · have h1 := ok.f.lm "let" (.inl rfl)
    have h2 := ok.f.lm "as" (.inr (.inr rfl))
    rw [show lim "let" = 24 by decide +kernel] at h1
    rw [show lim "as" = 4 by decide +kernel] at h2
    unfold colN takenN
    rw [List.length_append, nums_cnt, nums_cnt]
    show 1 + _ ≤ 50
    omega
theorem facts_len {k : Nat} {fs : List Fact} (h : FactsOk k fs) : fs.length ≤ 60 := by
  have z := cnt_all fs
  have h1 := h.lm "let" (.inl rfl)
  have h2 := h.lm "as" (.inr (.inr rfl))
  have h3 := h.lm "not" (.inr (.inl rfl))
  rw [show lim "let" = 24 by decide +kernel] at h1
  rw [show lim "as" = 4 by decide +kernel] at h2
  rw [show lim "not" = 6 by decide +kernel] at h3
  omega
theorem mans_of {js : List (Str × Str)} (nd : (js.map (·.1)).Nodup) : (js.map (·.1)).map (manOf (mlOf js)) = js.map (·.2) := by
  rw [List.map_map]
  exact List.map_congr_left fun j hj => manOf_one nd hj
def spSure (C : Addr) : Sp := fun vs H Q _ => ∃ (b : Addr) (x : Str) (js : List (Str × Str)) (fs : List Fact) (y : V) (s : Stn), vs = [.ref b, y] ∧ BookAt C H b x (js.map (·.1)) (mlOf js) fs ∧ JsOk js fs ∧ Fz H y (eS s) ∧ s.length = js.length ∧ Bd 40 s ∧
  ∀ v H' d, Same H H' → Told1 (basics (js.map (·.2))) fs (1, s) (js.map (·.2)).length d → Fz H' v d → Q v H'
end GD
namespace K73
open PySem PySem.Spec PyProof.Rows L2 GD GM
section
variable {P : Program} {w : World} {K : PySem.W.Frag} {mg : Str → Option Value} {base : Heap}
theorem scSure : FnScope ["book", "standing"] ["book", "standing"] (defScope pSure) := ⟨rfl, rfl, rfl, by decide +kernel, rfl, by decide +kernel, by decide +kernel⟩
theorem ok_sure {f C fP fN : Addr} {fd fdP fdN : FuncData} (F : Fun K "sure" "sure" pSure f fd) (B : BookC K mg C) (nL : mg "len" = none)
    (gP : mg "proof" = some (.ref fP)) (bP : Binds K fdP ["manners", "facts", "aim"] []) (kP : PySem.W.keepIn K (.ref fP) = true) (GP : FnOk P w K mg base CX0 6 fP fdP ["manners", "facts", "aim"] spProof)
    (gN : mg "is_standing" = some (.ref fN)) (bN : Binds K fdN ["value", "many"] []) (kN : PySem.W.keepIn K (.ref fN) = true) (GN : FnOk P w K mg base CX0 3 fN fdN ["value", "many"] spStn) : FnOk P w K mg base CX0 7 f fd ["book", "standing"] (spSure C) := by
  refine F.ok scSure (fun vs H Q E h => ?_) (fun cdv A outer s H vs Q E hr h => ?_)
  · obtain ⟨b, x, js, fs, y, sn, rfl, _⟩ := h
    rfl
  · obtain ⟨b, x, js, fs, y, sn, rfl, hb, ok, fy, hl, hs, q⟩ := h
    have hr3 : Room 3 _ := hr.mono (by decide)
    refine ⟨_, pss_cons (ps_if (pt_not (pt_val (pe_call GN hr3 (by rfl) gN kN bN .nil pass0 (pa_cons (pv 1) (pa_cons (pe_callB call_len_seq (by rfl) nL PySem.boot_len (pa_cons (pe_fld (pv 0) rfl) pa_nil)) pa_nil))))) (pss_one ps_no) pss_nil)
      (pss_one (ps_ret (pe_call GP hr (by rfl) gP kP bP .nil pass0 (pa_cons (pe_fld (pv 0) rfl) (pa_cons (pe_fld (pv 0) rfl) (pa_cons (pe_tup (pa_cons pe_int (pa_cons (pv 1) pa_nil))) pa_nil)))))), ?rd⟩
    obtain ⟨dx, j, m, fi, a, eb, ej, em, ff, fa⟩ := id hb
    have n4 := ok.nm.l4
    rw [List.length_map] at n4
    refine ⟨_, rfl, _, rfl, b, C, dx, _, _, rfl, eb, B.cl, B.nJ, b5_jobs _ _ _ _ _, j, _, rfl, .inr ej.sq, ?_⟩
    dsimp only [tNil]
    refine ⟨y, sn, js.length, by rw [List.length_map, List.length_map] <;> rfl, fy, by omega, fun H1 s1 => ?_⟩
    rw [okN_of hl hs]
    refine ⟨_, rfl, iteF ?_⟩
    refine ⟨_, rfl, b, C, dx, _, _, rfl, s1 _ _ eb, B.cl, B.nM, b5_manners _ _ _ _ _, _, rfl, b, C, dx, _, _, rfl, s1 _ _ eb, B.cl, B.nA, b5_facts _ _ _ _ _, _, rfl, (by show 2 ≤ sizeLine; decide), fun t nt => ?_⟩
    dsimp only [tNil]
    have st := same_new (o := .tup [.int 1, y]) nt
    have s2 := s1.trans st
    refine ⟨m, t, .ref a, y, js.map (·.2), fs, (1, sn), rfl, ?_, fun x hx => ?_, by rw [List.length_map]; exact n4, fa.same s2, upd_same, fy.same s2, asks_of ok hl hs, facts_len ok.f, fun v H3 d s3 td fv => q v H3 d (s2.trans s3) td fv⟩
    · rw [← mans_of ok.nm.nd]
      exact s2 _ _ em
    · obtain ⟨p, hp, rfl⟩ := List.mem_map.mp hx
      exact ok.mn p hp
end
end K73
namespace GD
open PySem PySem.Spec PyProof.Rows L2 GM
def insL {α : Type} (at' : Nat) (x : α) (l : List α) : List α := l.take at' ++ x :: l.drop at'
theorem insL_len {α : Type} {at' : Nat} {x : α} {l : List α} (h : at' ≤ l.length) : (insL at' x l).length = l.length + 1 := by
  unfold insL
  rw [List.length_append, List.length_cons, List.length_take, List.length_drop]
  omega
theorem insL_zero {α : Type} (x : α) (l : List α) : insL 0 x l = x :: l := rfl
theorem insL_succ {α : Type} (n : Nat) (x y : α) (l : List α) : insL (n + 1) x (y :: l) = y :: insL n x l := rfl
theorem insL_erase {α : Type} (x : α) : ∀ (n : Nat) (l : List α), n ≤ l.length → (insL n x l).eraseIdx n = l
  | 0, l, _ => rfl
  | n + 1, [], h => by cases h
  | n + 1, y :: l, h => by
    rw [insL_succ, List.eraseIdx_cons_succ, insL_erase x n l (Nat.le_of_succ_le_succ h)]
theorem insL_get {α : Type} (x : α) : ∀ (n : Nat) (l : List α) (i : Nat), n ≤ l.length → (insL n x l)[i]? = if i < n then l[i]? else if i = n then some x else l[i - 1]?
  | 0, l, i, _ => by
    rw [insL_zero, if_neg (Nat.not_lt_zero _)]
    cases i with
    | zero => rfl
    | succ i => rw [if_neg (by omega)]; rfl
  | n + 1, [], i, h => by cases h
  | n + 1, y :: l, i, h => by
    rw [insL_succ]
    cases i with
    | zero => rw [if_pos (by omega)]; rfl
    | succ i =>
      rw [List.getElem?_cons_succ, insL_get x n l i (Nat.le_of_succ_le_succ h), List.getElem?_cons_succ]
      by_cases c : i < n
      · rw [if_pos c, if_pos (Nat.succ_lt_succ c)]
      · rw [if_neg c, if_neg (fun z => c (Nat.lt_of_succ_lt_succ z))]
        by_cases d : i = n
        · rw [if_pos d, if_pos (congrArg Nat.succ d)]
        · rw [if_neg d, if_neg (fun z => d (Nat.succ.inj z))]
          obtain ⟨j, rfl⟩ : ∃ j, i = j + 1 := ⟨i - 1, by omega⟩
          rfl
theorem insL_map {α β : Type} (f : α → β) (n : Nat) (x : α) (l : List α) : (insL n x l).map f = insL n (f x) (l.map f) := by
  unfold insL
  rw [List.map_append, List.map_cons, List.map_take, List.map_drop]
theorem insL_mem {α : Type} {n : Nat} {x y : α} {l : List α} : y ∈ insL n x l ↔ y = x ∨ y ∈ l := by
  unfold insL
  rw [List.mem_append, List.mem_cons]
  constructor
  · rintro (h | h | h)
    · exact .inr (List.mem_of_mem_take h)
    · exact .inl h
    · exact .inr (List.mem_of_mem_drop h)
  · rintro (h | h)
    · exact .inr (.inl h)
    · rw [← List.take_append_drop n l] at h
      rcases List.mem_append.mp h with h | h
      · exact .inl h
      · exact .inr (.inr h)
theorem mok_zero (m : Str) : MOk m (0, 0) := by
  unfold MOk
  split
  · exact ⟨Int.le_refl _, Int.le_refl _⟩
  split
  · exact ⟨Int.le_refl _, rfl⟩
  split
  · exact ⟨Int.le_refl _, rfl⟩
  · trivial
theorem MsOk.ins {ms : List Str} {cs : List (Int × Int)} (h : MsOk ms cs) {n : Nat} (hn : n ≤ ms.length) (m : Str) : MsOk (insL n m ms) (insL n (0, 0) cs) := by
  have hl := h.1
  refine ⟨by rw [insL_len (by omega), insL_len hn, hl], fun i m' c h1 h2 => ?_⟩
  rw [insL_get m n ms i hn] at h1
  rw [insL_get (0, 0) n cs i (by omega)] at h2
  by_cases c1 : i < n
  · rw [if_pos c1] at h1 h2
    exact h.2 i m' c h1 h2
  · rw [if_neg c1] at h1 h2
    by_cases c2 : i = n
    · rw [if_pos c2] at h1 h2
      obtain rfl := Option.some.inj h1
      obtain rfl := Option.some.inj h2
      exact mok_zero _
    · rw [if_neg c2] at h1 h2
      exact h.2 (i - 1) m' c h1 h2
theorem MsOk.erase {ms : List Str} {cs : List (Int × Int)} (h : MsOk ms cs) (n : Nat) : MsOk (ms.eraseIdx n) (cs.eraseIdx n) := by
  have hl := h.1
  refine ⟨by rw [List.length_eraseIdx, List.length_eraseIdx, hl], fun i m c h1 h2 => ?_⟩
  rw [List.getElem?_eraseIdx] at h1 h2
  by_cases c1 : i < n
  · rw [if_pos c1] at h1 h2
    exact h.2 i m c h1 h2
  · rw [if_neg c1] at h1 h2
    exact h.2 (i + 1) m c h1 h2
def insF (n : Nat) : Fact → Fact
  | .let_ s => .let_ (insL n (0, 0) s)
  | .not_ s => .not_ (insL n (0, 0) s)
  | .as_ s t => .as_ (insL n (0, 0) s) (insL n (0, 0) t)
def cutF (n : Nat) : Fact → Fact
  | .let_ s => .let_ (s.eraseIdx n)
  | .not_ s => .not_ (s.eraseIdx n)
  | .as_ s t => .as_ (s.eraseIdx n) (t.eraseIdx n)
theorem kind_ins (n : Nat) (f : Fact) : kindS (insF n f) = kindS f := by cases f <;> rfl
end GD
namespace GD
open PySem PySem.Spec PyProof.Rows L2 GM
theorem insL_perm {α : Type} (n : Nat) (x : α) (l : List α) : (insL n x l).Perm (x :: l) := by
  unfold insL
  have h := List.perm_middle (a := x) (l₁ := l.take n) (l₂ := l.drop n)
  rw [List.take_append_drop] at h
  exact h
theorem cut_ins {n k : Nat} {f : Fact} (h : FLen k f) (hn : n ≤ k) : cutF n (insF n f) = f := by
  cases f with
  | let_ s => exact congrArg Fact.let_ (insL_erase _ n s (by rw [show s.length = k from h]; exact hn))
  | not_ s => exact congrArg Fact.not_ (insL_erase _ n s (by rw [show s.length = k from h]; exact hn))
  | as_ s t =>
    show Fact.as_ ((insL n (0, 0) s).eraseIdx n) ((insL n (0, 0) t).eraseIdx n) = _
    rw [insL_erase _ n s (by rw [h.1]; exact hn), insL_erase _ n t (by rw [h.2]; exact hn)]
theorem FactB.flen {k : Nat} {m : Int} {f : Fact} (h : FactB k m f) : FLen k f := by
  cases f with
  | let_ s => exact h.1
  | not_ s => exact h.1
  | as_ s t => exact ⟨h.1, h.2.2.1⟩
theorem bd_ins {n : Nat} {s : Stn} (h : Bd 40 s) : Bd 40 (insL n (0, 0) s) := fun p hp => by
  rcases insL_mem.mp hp with rfl | hp
  · decide
  · exact h p hp
theorem FactB.ins {n k : Nat} {f : Fact} (h : FactB k 40 f) (hn : n ≤ k) : FactB (k + 1) 40 (insF n f) := by
  cases f with
  | let_ s => exact ⟨by rw [insL_len (by rw [h.1]; exact hn), h.1], bd_ins h.2⟩
  | not_ s => exact ⟨by rw [insL_len (by rw [h.1]; exact hn), h.1], bd_ins h.2⟩
  | as_ s t =>
    obtain ⟨h1, h2, h3, h4, h5⟩ := h
    refine ⟨by rw [insL_len (by rw [h1]; exact hn), h1], bd_ins h2, by rw [insL_len (by rw [h3]; exact hn), h3], bd_ins h4, fun e => h5 ?_⟩
    rw [← insL_erase (0, 0) n s (by rw [h1]; exact hn), e, insL_erase (0, 0) n t (by rw [h3]; exact hn)]
theorem cnt_ins (x : Str) (n : Nat) (fs : List Fact) : GD.cnt x (fs.map (insF n)) = GD.cnt x fs := by
  induction fs with
  | nil => rfl
  | cons f fs ih =>
    unfold GD.cnt at ih ⊢
    rw [List.map_cons]
    by_cases c : kindS f = x
    · rw [List.filter_cons_of_pos (by rw [kind_ins, decide_eq_true c]), List.filter_cons_of_pos (by rw [decide_eq_true c]), List.length_cons, List.length_cons, ih]
    · rw [List.filter_cons_of_neg (by rw [kind_ins, decide_eq_false c]; decide), List.filter_cons_of_neg (by rw [decide_eq_false c]; decide), ih]
theorem JsOk.ins {js : List (Str × Str)} {fs : List Fact} (h : JsOk js fs) {n : Nat} (hn : n ≤ js.length) (h4 : js.length < 4) (hp : ∀ j ∈ js, j.1 ∈ pool21) {m : Str} (hm : m ∈ man4) : JsOk (insL n ("q", m) js) (fs.map (insF n)) := by
  have en : (insL n (("q" : Str), m) js).map (·.1) = insL n ("q" : Str) (js.map (·.1)) := insL_map _ n _ js
  have pn := insL_perm n ("q" : Str) (js.map (·.1))
  have qn : ("q" : Str) ∉ js.map (·.1) := fun z => by
    obtain ⟨j, hj, e⟩ := List.mem_map.mp z
    exact q_new (e ▸ hp j hj)
  have nm := h.nm
  refine ⟨⟨?_, ?_, ?_, fun x hx => ?_⟩, fun j hj => ?_, ⟨fun f hf => ?_, ?_, fun x hx => ?_⟩⟩
  · rw [en, pn.length_eq, List.length_cons]
    omega
  · rw [en, pn.length_eq, List.length_cons, List.length_map]
    omega
  · rw [en, pn.nodup_iff, List.nodup_cons]
    exact ⟨qn, nm.nd⟩
  · rw [en] at hx
    rcases insL_mem.mp hx with rfl | hx
    · decide +kernel
    · exact nm.nm x hx
  · rcases insL_mem.mp hj with rfl | hj
    · exact hm
    · exact h.mn j hj
  · obtain ⟨g, hg, rfl⟩ := List.mem_map.mp hf
    rw [insL_len hn]
    exact (h.f.b g hg).ins hn
  · refine List.Pairwise.of_map (S := (· ≠ ·)) (cutF n) (fun a b w e => w (congrArg _ e)) ?_
    have e : (fs.map (insF n)).map (cutF n) = fs := by
      rw [List.map_map]
      refine (List.map_congr_left (g := id) fun f hf => ?_).trans (List.map_id _)
      exact cut_ins (h.f.b f hf).flen hn
    rw [e]
    exact h.f.nd
  · rw [cnt_ins]
    exact h.f.lm x hx
end GD
namespace GD
open PySem PySem.Spec PyProof.Rows L2 GM
def keepF (st : Stk) : Fact → Bool
  | .let_ s => decide (0 ≤ levelS st s)
  | .not_ _ => true
  | .as_ s t => decide (levelS st s = levelS st t)
def keepsB (fs : List Fact) (st : Stk) : Bool := fs.all (keepF st)
theorem levelS_K (st : Stk) (s : Stn) : levelS st s = levK st 1 s := by
  unfold levelS levK dot
  rw [Int.mul_one, show (fun (c p : Int × Int) => p.1 * c.1 + p.2 * c.2) = fun c p => c.1 * p.1 + c.2 * p.2 from funext fun c => funext fun p => by rw [Int.mul_comm c.1, Int.mul_comm c.2]]
theorem dot_sub : ∀ (cs : List (Int × Int)) (s t : Stn), s.length = cs.length → t.length = cs.length → dot cs (List.zipWith (fun p q : Int × Int => (p.1 - q.1, p.2 - q.2)) s t) = dot cs s - dot cs t
  | [], [], [], _, _ => rfl
  | c :: cs, p :: s, q :: t, h1, h2 => by
    have e := dot_sub cs s t (by simpa using h1) (by simpa using h2)
    have e1 : dot (c :: cs) (List.zipWith (fun p q : Int × Int => (p.1 - q.1, p.2 - q.2)) (p :: s) (q :: t)) = c.1 * (p.1 - q.1) + c.2 * (p.2 - q.2) + dot cs (List.zipWith (fun p q : Int × Int => (p.1 - q.1, p.2 - q.2)) s t) := rfl
    have e2 : dot (c :: cs) (p :: s) = c.1 * p.1 + c.2 * p.2 + dot cs s := rfl
    have e3 : dot (c :: cs) (q :: t) = c.1 * q.1 + c.2 * q.2 + dot cs t := rfl
    rw [e1, e2, e3, e]
    grind
theorem lev_as {st : Stk} {s t : Stn} (h1 : s.length = st.2.length) (h2 : t.length = st.2.length) : levK st (fOne (.as_ s t)) (fPs (.as_ s t)) = levelS st s - levelS st t := by
  rw [levelS_K, levelS_K]
  show st.1 * 0 + dot st.2 (List.zipWith (fun p q : Int × Int => (p.1 - q.1, p.2 - q.2)) s t) = _
  rw [dot_sub _ _ _ h1 h2]
  unfold levK
  omega
theorem keeps_of_fits {ms : List Str} {fs : List Fact} {q : Aim} {st : Stk} (hf : ∀ f ∈ fs, FLen st.2.length f) (h : Fits ms fs q st) : keepsB fs st = true := by
  refine List.all_eq_true.mpr fun f hm => ?_
  cases f with
  | let_ t =>
    have z := h.l _ hm rfl
    rw [show levK st (fOne (.let_ t)) (fPs (.let_ t)) = levelS st t from (levelS_K st t).symm] at z
    exact decide_eq_true z
  | not_ t => rfl
  | as_ t u =>
    have l := hf _ hm
    have z := h.s _ hm rfl
    rw [lev_as l.1 l.2] at z
    exact decide_eq_true (by omega)
theorem MsOk.snoc {ms : List Str} {cs : List (Int × Int)} {m : Str} {c : Int × Int} (h : MsOk ms cs) (o : MOk m c) : MsOk (ms ++ [m]) (cs ++ [c]) := by
  refine ⟨by rw [List.length_append, List.length_append, h.1]; rfl, fun i m' c' e1 e2 => ?_⟩
  have hl := h.1
  by_cases w : i < ms.length
  · rw [List.getElem?_append_left w] at e1
    rw [List.getElem?_append_left (by omega)] at e2
    exact h.2 i m' c' e1 e2
  · rw [List.getElem?_append_right (by omega)] at e1
    rw [List.getElem?_append_right (by omega), hl] at e2
    cases hi : i - ms.length with
    | zero =>
      rw [hi] at e1 e2
      obtain rfl := Option.some.inj e1
      obtain rfl := Option.some.inj e2
      exact o
    | succ n =>
      rw [hi] at e1
      cases e1
end GD
namespace GD
open PySem PySem.Spec PyProof.Rows L2 GM
def mokB (m : Str) (c : Int × Int) : Bool := if m = "free" then true else if 0 < c.1 then false else if m = "clean" then decide (c.2 = -c.1) else if m = "spent" then decide (c.2 = 0) else decide (0 ≤ c.2)
theorem mokB_iff {m : Str} (hm : m ∈ mans4) (c : Int × Int) : mokB m c = true ↔ MOk m c := by
  unfold mans4 at hm
  simp only [List.mem_cons, List.not_mem_nil, or_false] at hm
  unfold mokB MOk
  have e1 : ¬ (("plain" : Str) = "free") := by decide +kernel
  have e2 : ¬ (("plain" : Str) = "clean") := by decide +kernel
  have e3 : ¬ (("plain" : Str) = "spent") := by decide +kernel
  have e4 : ¬ (("clean" : Str) = "free") := by decide +kernel
  have e5 : ¬ (("clean" : Str) = "plain") := by decide +kernel
  have e6 : ¬ (("spent" : Str) = "free") := by decide +kernel
  have e7 : ¬ (("spent" : Str) = "clean") := by decide +kernel
  have e8 : ¬ (("spent" : Str) = "plain") := by decide +kernel
  have e9 : ¬ (("free" : Str) = "plain") := by decide +kernel
  have e10 : ¬ (("free" : Str) = "clean") := by decide +kernel
  have e11 : ¬ (("free" : Str) = "spent") := by decide +kernel
  rcases hm with rfl | rfl | rfl | rfl
  · rw [if_neg e1, if_pos rfl, if_neg e2, if_neg e3]
    by_cases c0 : 0 < c.1
    · rw [if_pos c0]
      exact ⟨fun z => (nomatch z), fun z => by omega⟩
    · rw [if_neg c0, decide_eq_true_iff]
      exact ⟨fun z => ⟨by omega, z⟩, fun z => z.2⟩
  · rw [if_neg e4, if_neg e5, if_pos rfl, if_pos rfl]
    by_cases c0 : 0 < c.1
    · rw [if_pos c0]
      exact ⟨fun z => (nomatch z), fun z => by omega⟩
    · rw [if_neg c0, decide_eq_true_iff]
      exact ⟨fun z => ⟨by omega, z⟩, fun z => z.2⟩
  · rw [if_neg e6, if_neg e7, if_neg e8, if_pos rfl, if_neg e7, if_pos rfl]
    by_cases c0 : 0 < c.1
    · rw [if_pos c0]
      exact ⟨fun z => (nomatch z), fun z => by omega⟩
    · rw [if_neg c0, decide_eq_true_iff]
      exact ⟨fun z => ⟨by omega, z⟩, fun z => z.2⟩
  · rw [if_pos rfl, if_neg e9, if_neg e10, if_neg e11]
    exact ⟨fun _ => trivial, fun _ => rfl⟩
def chgB (m : Str) : PyData → Bool
  | .tuple [a, b] => match GD.intD a, GD.intD b with
    | some i, some j => mokB m (i, j)
    | _, _ => false
  | _ => false
theorem chgB_two (m : Str) (a b : PyData) : chgB m (.tuple [a, b]) = match GD.intD a, GD.intD b with
    | some i, some j => mokB m (i, j)
    | _, _ => false := rfl
theorem chgB_ne {m : Str} {ds : List PyData} (h : ¬ ds.length = 2) : chgB m (.tuple ds) = false := by
  match ds, h with
  | [], _ => rfl
  | [a], _ => rfl
  | a :: b :: c :: r, _ => rfl
  | [a, b], h => exact absurd rfl h
theorem chgB_of {m : Str} {d : PyData} (h : chgB m d = true) : ∃ c, d = eP c ∧ mokB m c = true := by
  cases d with
  | tuple ds =>
    match ds, h with
    | [a, b], h =>
      rw [chgB_two] at h
      cases e1 : GD.intD a with
      | none =>
        rw [e1] at h
        cases h
      | some i =>
        cases e2 : GD.intD b with
        | none =>
          rw [e1, e2] at h
          cases h
        | some j =>
          rw [e1, e2] at h
          exact ⟨(i, j), by rw [intD_some e1, intD_some e2]; rfl, h⟩
  | none => cases h
  | bool b => cases h
  | int i => cases h
  | str x => cases h
  | list l => cases h
  | dict l => cases h
def stkB (ms : List Str) : PyData → Bool
  | .tuple [a, .tuple cs] => match GD.intD a with
    | some f => decide (0 ≤ f) && (decide (cs.length = ms.length) && (List.zipWith (fun d m => chgB m d) cs ms).all id)
    | none => false
  | _ => false
theorem stkB_two (ms : List Str) (a : PyData) (cs : List PyData) : stkB ms (.tuple [a, .tuple cs]) = match GD.intD a with
    | some f => decide (0 ≤ f) && (decide (cs.length = ms.length) && (List.zipWith (fun d m => chgB m d) cs ms).all id)
    | none => false := rfl
theorem stkB_ne {ms : List Str} {ds : List PyData} (h : ¬ ds.length = 2) : stkB ms (.tuple ds) = false := by
  unfold stkB
  split
  · rename_i heq
    cases heq
    exact absurd rfl h
  · rfl
theorem stkB_no {ms : List Str} {a b : PyData} (h : isTup b = false) : stkB ms (.tuple [a, b]) = false := by
  cases b with
  | tuple ds => cases h
  | none => rfl
  | bool b => rfl
  | int i => rfl
  | str x => rfl
  | list l => rfl
  | dict l => rfl
theorem stkB_int {ms : List Str} {a b : PyData} (h : GD.intD a = none) : stkB ms (.tuple [a, b]) = false := by
  cases b with
  | tuple ds => rw [stkB_two, h]
  | none => rfl
  | bool b => rfl
  | int i => rfl
  | str x => rfl
  | list l => rfl
  | dict l => rfl
theorem chgs_of_all : ∀ {cs : List PyData} {ms : List Str}, cs.length = ms.length → (∀ m ∈ ms, m ∈ mans4) → (List.zipWith (fun d m => chgB m d) cs ms).all id = true → ∃ l : List (Int × Int), cs = l.map eP ∧ MsOk ms l
  | [], [], _, _, _ => ⟨[], rfl, rfl, fun i m c h => by cases h⟩
  | d :: cs, m :: ms, hl, hm, h => by
    have h' : ((chgB m d) && (List.zipWith (fun d m => chgB m d) cs ms).all id) = true := h
    rw [Bool.and_eq_true] at h'
    obtain ⟨c, rfl, hc⟩ := chgB_of h'.1
    obtain ⟨l, rfl, l1, l2⟩ := chgs_of_all (by simpa using hl) (fun x hx => hm x (List.mem_cons_of_mem _ hx)) h'.2
    refine ⟨c :: l, rfl, by rw [List.length_cons, List.length_cons, l1], fun i m' c' e1 e2 => ?_⟩
    cases i with
    | zero =>
      obtain rfl := Option.some.inj e1
      obtain rfl := Option.some.inj e2
      exact (mokB_iff (hm _ List.mem_cons_self) _).mp hc
    | succ i => exact l2 i m' c' e1 e2
theorem all_of_chgs : ∀ {ms : List Str} {l : List (Int × Int)}, (∀ m ∈ ms, m ∈ mans4) → MsOk ms l → (List.zipWith (fun d m => chgB m d) (l.map eP) ms).all id = true
  | [], [], _, _ => rfl
  | m :: ms, c :: l, hm, h => by
    show (mokB m c && (List.zipWith (fun d m => chgB m d) (l.map eP) ms).all id) = true
    rw [(mokB_iff (hm _ List.mem_cons_self) _).mpr (h.2 0 m c rfl rfl), all_of_chgs (fun x hx => hm x (List.mem_cons_of_mem _ hx)) ⟨by simpa using h.1, fun i m' c' e1 e2 => h.2 (i + 1) m' c' e1 e2⟩]
    rfl
  | [], c :: l, _, h => by cases h.1
  | m :: ms, [], _, h => by cases h.1
theorem stk_of {ms : List Str} {d : PyData} (hm : ∀ m ∈ ms, m ∈ mans4) (h : stkB ms d = true) : ∃ st : Stk, d = eK st ∧ 0 ≤ st.1 ∧ MsOk ms st.2 := by
  cases d with
  | tuple ds =>
    by_cases l2 : ds.length = 2
    · match ds, l2 with
      | [a, b], _ =>
        cases b with
        | tuple cs =>
          rw [stkB_two] at h
          cases e1 : GD.intD a with
          | none =>
            rw [e1] at h
            cases h
          | some f =>
            rw [e1] at h
            have h : (decide (0 ≤ f) && (decide (cs.length = ms.length) && (List.zipWith (fun d m => chgB m d) cs ms).all id)) = true := h
            rw [Bool.and_eq_true, Bool.and_eq_true, decide_eq_true_iff, decide_eq_true_iff] at h
            obtain ⟨h0, hl, ha⟩ := h
            obtain ⟨l, rfl, ok⟩ := chgs_of_all hl hm ha
            exact ⟨(f, l), by rw [intD_some e1]; rfl, h0, ok⟩
        | none => cases h
        | bool b => cases h
        | int i => cases h
        | str x => cases h
        | list l => cases h
        | dict l => cases h
    · rw [stkB_ne l2] at h
      cases h
  | none => cases h
  | bool b => cases h
  | int i => cases h
  | str x => cases h
  | list l => cases h
  | dict l => cases h
theorem stk_to {ms : List Str} {st : Stk} (hm : ∀ m ∈ ms, m ∈ mans4) (h0 : 0 ≤ st.1) (h : MsOk ms st.2) : stkB ms (eK st) = true := by
  show (decide (0 ≤ st.1) && (decide ((st.2.map eP).length = ms.length) && (List.zipWith (fun d m => chgB m d) (st.2.map eP) ms).all id)) = true
  rw [decide_eq_true h0, decide_eq_true (by rw [List.length_map]; exact h.1), all_of_chgs hm h]
  rfl
def partOk (fs : List Fact) (kind : Str) (n t : Int) : Bool := decide (0 ≤ n ∧ n < (fs.length : Nat)) && (decide (kindS (fs.getD n.toNat dF) = kind) && (decide (0 < t) || (decide (kind = "as") && decide (t < 0))))
def partB (fs : List Fact) (kind : Str) : PyData → Bool
  | .tuple [a, b] => match GD.intD a, GD.intD b with
    | some n, some t => partOk fs kind n t
    | _, _ => false
  | _ => false
theorem partB_two (fs : List Fact) (kind : Str) (a b : PyData) : partB fs kind (.tuple [a, b]) = match GD.intD a, GD.intD b with
    | some n, some t => partOk fs kind n t
    | _, _ => false := rfl
theorem partB_ne {fs : List Fact} {kind : Str} {ds : List PyData} (h : ¬ ds.length = 2) : partB fs kind (.tuple ds) = false := by
  match ds, h with
  | [], _ => rfl
  | [a], _ => rfl
  | a :: b :: c :: r, _ => rfl
  | [a, b], h => exact absurd rfl h
theorem partB_of {fs : List Fact} {kind : Str} {d : PyData} (h : partB fs kind d = true) : ∃ p : Int × Int, d = eP p ∧ partOk fs kind p.1 p.2 = true := by
  cases d with
  | tuple ds =>
    match ds, h with
    | [a, b], h =>
      rw [partB_two] at h
      cases e1 : GD.intD a with
      | none =>
        rw [e1] at h
        cases h
      | some i =>
        cases e2 : GD.intD b with
        | none =>
          rw [e1, e2] at h
          cases h
        | some j =>
          rw [e1, e2] at h
          exact ⟨(i, j), by rw [intD_some e1, intD_some e2]; rfl, h⟩
  | none => cases h
  | bool b => cases h
  | int i => cases h
  | str x => cases h
  | list l => cases h
  | dict l => cases h
def numD : PyData → Int
  | .tuple (.int n :: _) => n
  | _ => 0
def pD : PyData → Int × Int
  | .tuple [.int a, .int b] => (a, b)
  | _ => (0, 0)
def partsB (fs : List Fact) (kind : Str) : PyData → Bool
  | .tuple ds => ds.all (partB fs kind) && decide ((ds.map numD).Pairwise (· < ·))
  | _ => false
def prsD : PyData → List (Int × Int)
  | .tuple ds => ds.map pD
  | _ => []
theorem prsD_eP (ps : List (Int × Int)) : prsD (.tuple (ps.map eP)) = ps := by
  show (ps.map eP).map pD = ps
  rw [List.map_map]
  exact (List.map_congr_left fun p _ => rfl).trans (List.map_id ps)
structure PartsOk (fs : List Fact) (kind : Str) (ps : List (Int × Int)) : Prop where
  o : ∀ p ∈ ps, partOk fs kind p.1 p.2 = true
  a : (ps.map (·.1)).Pairwise (· < ·)
theorem all_parts {fs : List Fact} {kind : Str} : ∀ {ds : List PyData}, ds.all (partB fs kind) = true → ∃ ps : List (Int × Int), ds = ps.map eP ∧ ∀ p ∈ ps, partOk fs kind p.1 p.2 = true
  | [], _ => ⟨[], rfl, fun p h => by cases h⟩
  | d :: ds, h => by
    rw [List.all_cons, Bool.and_eq_true] at h
    obtain ⟨p, rfl, hp⟩ := partB_of h.1
    obtain ⟨ps, rfl, hps⟩ := all_parts h.2
    exact ⟨p :: ps, rfl, fun q hq => by
      rcases List.mem_cons.mp hq with rfl | hq
      · exact hp
      · exact hps q hq⟩
theorem num_eP (ps : List (Int × Int)) : (ps.map eP).map numD = ps.map (·.1) := by
  rw [List.map_map]
  exact List.map_congr_left fun p _ => rfl
theorem parts_of {fs : List Fact} {kind : Str} {d : PyData} (h : partsB fs kind d = true) : ∃ ps : List (Int × Int), d = .tuple (ps.map eP) ∧ PartsOk fs kind ps := by
  cases d with
  | tuple ds =>
    have h : (ds.all (partB fs kind) && decide ((ds.map numD).Pairwise (· < ·))) = true := h
    rw [Bool.and_eq_true, decide_eq_true_iff] at h
    obtain ⟨ps, rfl, o⟩ := all_parts h.1
    exact ⟨ps, rfl, o, by rw [← num_eP]; exact h.2⟩
  | none => cases h
  | bool b => cases h
  | int i => cases h
  | str x => cases h
  | list l => cases h
  | dict l => cases h
theorem parts_to {fs : List Fact} {kind : Str} {ps : List (Int × Int)} (h : PartsOk fs kind ps) : partsB fs kind (.tuple (ps.map eP)) = true := by
  show ((ps.map eP).all (partB fs kind) && decide (((ps.map eP).map numD).Pairwise (· < ·))) = true
  rw [num_eP, decide_eq_true h.a, Bool.and_true, List.all_map]
  exact List.all_eq_true.mpr fun p hp => h.o p hp
def leftN (bs : List Bas) (fs : List Fact) (whole : Nat → Int) (parts : List (Int × Int)) (i : Nat) : Int := parts.foldl (fun x p => x - p.2 * levF bs (fOne (fs.getD p.1.toNat dF)) (fPs (fs.getD p.1.toNat dF)) i) (whole i)
def endB (b : Bas) (x : Int) : Bool := decide (x = 0) || (decide (0 < x) && !b.lo)
def enoughB (bs : List Bas) (fs : List Fact) (whole : Nat → Int) (parts : List (Int × Int)) : Bool := (List.range bs.length).all fun i => endB (bs.getD i defB) (leftN bs fs whole parts i)
def rightB (bs : List Bas) (fs : List Fact) (q : Aim) : PyData → Bool
  | .tuple [a, w, b] => match GD.intD a with
    | some m => decide (1 ≤ m) && (partsB fs "let" w && (partsB fs "as" b && enoughB bs fs (fun i => m * levF bs q.1 q.2 i) (prsD w ++ prsD b)))
    | none => false
  | _ => false
theorem rightB_three (bs : List Bas) (fs : List Fact) (q : Aim) (a w b : PyData) : rightB bs fs q (.tuple [a, w, b]) = match GD.intD a with
    | some m => decide (1 ≤ m) && (partsB fs "let" w && (partsB fs "as" b && enoughB bs fs (fun i => m * levF bs q.1 q.2 i) (prsD w ++ prsD b)))
    | none => false := rfl
theorem rightB_ne {bs : List Bas} {fs : List Fact} {q : Aim} {ds : List PyData} (h : ¬ ds.length = 3) : rightB bs fs q (.tuple ds) = false := by
  match ds, h with
  | [], _ => rfl
  | [a], _ => rfl
  | [a, b], _ => rfl
  | a :: b :: c :: e :: r, _ => rfl
  | [a, b, c], h => exact absurd rfl h
def stkD : PyData → Stk
  | .tuple [.int f, .tuple cs] => (f, cs.map pD)
  | _ => (0, [])
theorem stkD_eK (st : Stk) : stkD (eK st) = st := by
  show (st.1, (st.2.map eP).map pD) = st
  rw [List.map_map, show st.2.map (pD ∘ eP) = st.2 from (List.map_congr_left fun p _ => rfl).trans (List.map_id _)]
def refB (ms : List Str) (fs : List Fact) (s : Stn) (d : PyData) : Bool := stkB ms d && (keepsB fs (stkD d) && decide (levelS (stkD d) s < 0))
/-- whether any data are a result of sure -/
def shownB (ms : List Str) (fs : List Fact) (s : Stn) : PyData → Bool
  | .tuple [.str x, e] => if x = "sure" then rightB (basics ms) fs (1, s) e else if x = "stock" then refB ms fs s e else false
  | _ => false
/-- tuples in some data are short -/
inductive ShortT : PyData → Prop
  | tup {ds : List PyData} : ds.length ≤ 60 → (∀ d ∈ ds, ShortT d) → ShortT (.tuple ds)
  | non : ShortT .none
  | bl (b : Bool) : ShortT (.bool b)
  | int (i : Int) : ShortT (.int i)
  | str (x : Str) : ShortT (.str x)
  | lst (l : List PyData) : ShortT (.list l)
  | dct (l : List (PyData × PyData)) : ShortT (.dict l)
theorem ShortT.t {ds : List PyData} (h : ShortT (.tuple ds)) : ds.length ≤ 60 ∧ ∀ d ∈ ds, ShortT d := by
  cases h with
  | tup a b => exact ⟨a, b⟩
theorem asc_same : ∀ {xs ys : List Int}, xs.Pairwise (· < ·) → ys.Pairwise (· < ·) → (∀ k, k ∈ xs ↔ k ∈ ys) → xs = ys
  | [], [], _, _, _ => rfl
  | [], y :: ys, _, _, h => by
    have := (h y).mpr List.mem_cons_self
    cases this
  | x :: xs, [], _, _, h => by
    have := (h x).mp List.mem_cons_self
    cases this
  | x :: xs, y :: ys, hx, hy, h => by
    obtain ⟨x1, x2⟩ := List.pairwise_cons.mp hx
    obtain ⟨y1, y2⟩ := List.pairwise_cons.mp hy
    have e : x = y := by
      have a := (h x).mp List.mem_cons_self
      have b := (h y).mpr List.mem_cons_self
      rcases List.mem_cons.mp a with a | a
      · exact a
      · rcases List.mem_cons.mp b with b | b
        · exact b.symm
        · have := y1 x a
          have := x1 y b
          omega
    subst e
    rw [asc_same x2 y2 fun k => ?_]
    constructor
    · intro hk
      rcases List.mem_cons.mp ((h k).mp (List.mem_cons_of_mem _ hk)) with e | e
      · have := x1 k hk
        omega
      · exact e
    · intro hk
      rcases List.mem_cons.mp ((h k).mpr (List.mem_cons_of_mem _ hk)) with e | e
      · have := y1 k hk
        omega
      · exact e
theorem eqv_allI : ∀ (xs ys : List Int), PyData.eqvAll (xs.map PyData.int) (ys.map PyData.int) = decide (xs = ys)
  | [], [] => rfl
  | [], y :: ys => rfl
  | x :: xs, [] => rfl
  | x :: xs, y :: ys => by
    rw [List.map_cons, List.map_cons, PyData.eqvAll, eqv_allI xs ys, PyData.eqv, Bool.eq_iff_iff, Bool.and_eq_true, decide_eq_true_iff, decide_eq_true_iff]
    constructor
    · rintro ⟨a, rfl⟩
      rw [show x = y by simpa using a]
    · intro e
      cases e
      exact ⟨by simp, rfl⟩
theorem eqv_ints (xs ys : List Int) : PyData.eqv (.list (xs.map PyData.int)) (.list (ys.map PyData.int)) = decide (xs = ys) := by
  rw [PyData.eqv, eqv_allI]
theorem sh_fzI {H : Hp} {v : V} {i : Int} (h : Sh H v (.int i)) : Fz H v (.int i) := by
  rw [sh_int h]
  exact .int i
theorem sh_eP {H : Hp} {v : V} {p : Int × Int} (h : Sh H v (eP p)) : Fz H v (eP p) := by
  obtain ⟨a, xs, rfl, ha, t⟩ := sh_tup h
  obtain ⟨x, y, rfl, s1, s2⟩ := t.two
  exact .tup ha (.cons (sh_fzI s1) (.cons (sh_fzI s2) .nil))
theorem sh_ePs {H : Hp} : ∀ {vs : List V} {ps : List (Int × Int)}, ShAll H vs (ps.map eP) → FzAll H vs (ps.map eP)
  | _, [], h => by cases h; exact .nil
  | _, p :: ps, h => by
    cases h with
    | cons a t => exact .cons (sh_eP a) (sh_ePs t)
theorem sh_eK {H : Hp} {v : V} {st : Stk} (h : Sh H v (eK st)) : Fz H v (eK st) := by
  obtain ⟨a, xs, rfl, ha, t⟩ := sh_tup h
  obtain ⟨x, y, rfl, s1, s2⟩ := t.two
  obtain ⟨b, ys, rfl, hb, t2⟩ := sh_tup s2
  exact .tup ha (.cons (sh_fzI s1) (.cons (.tup hb (sh_ePs t2)) .nil))
end GD
namespace GD
open PySem PySem.Spec PyProof.Rows L2 GM
theorem sumN_shift (n : Nat) (f : Nat → Int) : sumN (n + 1) f = f 0 + sumN n fun i => f (1 + i) := by
  rw [Nat.add_comm n 1, sumN_split]
  show (0 + f 0) + _ = _
  rw [Int.zero_add]
theorem dot_sum (cs : List (Int × Int)) : ∀ (k : Nat) (ps : Stn), dot cs (ps.drop k) = sumN cs.length fun j => (cs.getD j (0, 0)).1 * (ps.getD (k + j) (0, 0)).1 + (cs.getD j (0, 0)).2 * (ps.getD (k + j) (0, 0)).2 := by
  induction cs with
  | nil => exact fun k ps => rfl
  | cons c cs ih =>
    intro k ps
    rw [dot_drop, ih (k + 1) ps, List.length_cons, sumN_shift]
    congr 1
    refine sumN_congr fun j _ => ?_
    rw [show (c :: cs).getD (1 + j) (0, 0) = cs.getD j (0, 0) by rw [Nat.add_comm 1 j]; rfl, show k + (1 + j) = k + 1 + j by omega]
theorem dot_sum0 (cs : List (Int × Int)) (ps : Stn) : dot cs ps = sumN cs.length fun j => (cs.getD j (0, 0)).1 * (ps.getD j (0, 0)).1 + (cs.getD j (0, 0)).2 * (ps.getD j (0, 0)).2 := by
  have z := dot_sum cs 0 ps
  rw [List.drop_zero] at z
  rw [z]
  exact sumN_congr fun j _ => by rw [Nat.zero_add]
theorem getD_map_range {n j : Nat} {f : Nat → Int × Int} (h : j < n) : ((List.range n).map f).getD j (0, 0) = f j := by
  rw [List.getD_eq_getElem?_getD, List.getElem?_map, List.getElem?_range h]
  rfl
def unitS (k j : Nat) (p : Int × Int) : Stn := (List.range k).map fun i => if i = j then p else (0, 0)
theorem dot_unit {cs : List (Int × Int)} {j : Nat} (h : j < cs.length) (p : Int × Int) : dot cs (unitS cs.length j p) = (cs.getD j (0, 0)).1 * p.1 + (cs.getD j (0, 0)).2 * p.2 := by
  rw [dot_sum0, sumN_one h]
  · unfold unitS
    rw [getD_map_range h, if_pos rfl]
  · intro i hi ne
    unfold unitS
    rw [getD_map_range hi, if_neg ne]
    show _ * 0 + _ * 0 = _
    omega
theorem eq_of_dots {cs ds : List (Int × Int)} (hl : cs.length = ds.length) (h : ∀ ps, dot cs ps = dot ds ps) : cs = ds := by
  refine List.ext_getElem hl fun j h1 h2 => ?_
  have a := h (unitS cs.length j (1, 0))
  have b := h (unitS cs.length j (0, 1))
  rw [dot_unit h1, hl, dot_unit h2] at a
  rw [dot_unit h1, hl, dot_unit h2] at b
  have e1 : cs.getD j (0, 0) = cs[j] := by rw [List.getD_eq_getElem?_getD, List.getElem?_eq_getElem h1]; rfl
  have e2 : ds.getD j (0, 0) = ds[j] := by rw [List.getD_eq_getElem?_getD, List.getElem?_eq_getElem h2]; rfl
  rw [e1, e2] at a b
  refine Prod.ext ?_ ?_
  · simpa using a
  · simpa using b
theorem sum_pick {n k : Nat} {J : Nat → Nat} (hJ : ∀ t, t < n → J t < k) (x : Nat → Int) (p : Nat → Int) : (sumN k fun j => (sumN n fun t => if J t = j then x t else 0) * p j) = sumN n fun t => x t * p (J t) := by
  have e1 : (sumN k fun j => (sumN n fun t => if J t = j then x t else 0) * p j) = sumN k fun j => sumN n fun t => if J t = j then x t * p j else 0 := sumN_congr fun j _ => by
    rw [Int.mul_comm, ← sumN_mul]
    exact sumN_congr fun t _ => by
      split
      · rw [Int.mul_comm]
      · rw [Int.mul_zero]
  rw [e1, sumN_swap]
  refine sumN_congr fun t ht => ?_
  rw [sumN_one (hJ t ht)]
  · rw [if_pos rfl]
  · intro i _ ne
    rw [if_neg (fun e => ne e.symm)]
theorem sumK_lev {k : Nat} {bs : List Bas} (hb : BasIn k bs) (g : Nat → Int) (one : Int) (ps : Stn) : levK (sumK bs g k) one ps = SB bs g one ps := by
  have hJ : ∀ t, t < bs.length → (bs.getD t defB).j < k := fun t ht => (hb.1 (bs.getD t defB) (by rw [List.getD_eq_getElem?_getD, List.getElem?_eq_getElem ht]; exact List.getElem_mem ht)).1
  unfold levK
  show (sumN bs.length fun t => g t * (bs.getD t defB).fi) * one + dot ((List.range k).map fun j => (sumB bs g Bas.be bs.length j, sumB bs g Bas.en bs.length j)) ps = _
  rw [dot_sum0, List.length_map, List.length_range]
  have e1 : (sumN k fun j => (((List.range k).map fun j => (sumB bs g Bas.be bs.length j, sumB bs g Bas.en bs.length j)).getD j (0, 0)).1 * (ps.getD j (0, 0)).1 + (((List.range k).map fun j => (sumB bs g Bas.be bs.length j, sumB bs g Bas.en bs.length j)).getD j (0, 0)).2 * (ps.getD j (0, 0)).2) =
      (sumN k fun j => sumB bs g Bas.be bs.length j * (ps.getD j (0, 0)).1) + sumN k fun j => sumB bs g Bas.en bs.length j * (ps.getD j (0, 0)).2 := by
    rw [← sumN_add]
    exact sumN_congr fun j hj => by rw [getD_map_range hj]
  rw [e1]
  unfold sumB
  rw [sum_pick hJ (fun t => g t * (bs.getD t defB).be) fun j => (ps.getD j (0, 0)).1, sum_pick hJ (fun t => g t * (bs.getD t defB).en) fun j => (ps.getD j (0, 0)).2, Int.mul_comm, ← sumN_mul, ← sumN_add, ← sumN_add]
  unfold SB lev
  exact sumN_congr fun t _ => by grind
theorem stock_told {ms : List Str} {fs : List Fact} {s : Stn} {g : Nat → Int} (hm : ∀ m ∈ ms, m ∈ mans4) (h1 : 1 ≤ ms.length) (h4 : ms.length ≤ 4) (hf : ∀ f ∈ fs, FLen ms.length f) (h : IsStock (basics ms) fs [(1, s)] g) :
    refB ms fs s (eK (sumK (basics ms) g ms.length)) = true ∧ (sumK (basics ms) g ms.length).2.length = ms.length ∧ Fits ms fs (1, s) (sumK (basics ms) g ms.length) := by
  have hb : BasIn ms.length (basics ms) := by
    have bl := (basics_len ms).2
    refine ⟨fun b hb => ?_, by omega⟩
    have o := basics_ok hb
    obtain ⟨f1, f2⟩ := o.f
    obtain ⟨b1, b2⟩ := o.b1
    obtain ⟨e1, e2⟩ := o.e1
    refine ⟨?_, by omega, f2, b1, b2, e1, e2⟩
    rcases o.j with h | h
    · exact h
    · omega
  have lev := sumK_lev hb g
  have gok : GOk ([morn] ++ basFrom 0 ms) g := h.b
  obtain ⟨cs, mo, e⟩ := bas_to ms 0 _ gok.right
  have len : (sumK (basics ms) g ms.length).2.length = ms.length := by
    show ((List.range ms.length).map _).length = _
    rw [List.length_map, List.length_range]
  have e0 : ∀ one ps, levK (sumK (basics ms) g ms.length) one ps = g 0 * one + dot cs ps := fun one ps => by
    have e2 := e one ps
    rw [lev, SB_basics]
    rw [List.drop_zero] at e2
    rw [← e2]
    rfl
  have k1 : (sumK (basics ms) g ms.length).1 = g 0 := by
    have z := e0 1 []
    unfold levK at z
    have d0 : ∀ l : List (Int × Int), dot l [] = 0 := fun l => by cases l <;> rfl
    rw [d0, d0] at z
    omega
  have k2 : (sumK (basics ms) g ms.length).2 = cs := eq_of_dots (by rw [len, mo.1]) fun ps => by
    have z := e0 0 ps
    unfold levK at z
    omega
  have mo2 : MsOk ms (sumK (basics ms) g ms.length).2 := by rw [k2]; exact mo
  have z0 : 0 ≤ (sumK (basics ms) g ms.length).1 := by
    rw [k1]
    exact gok.left 0 (by decide) rfl
  have ft : Fits ms fs (1, s) (sumK (basics ms) g ms.length) := ⟨z0, mo2, fun f hf hk => by rw [lev]; exact h.l f hf hk, fun f hf hk => by rw [lev]; exact h.s f hf hk, by rw [lev]; exact h.a _ (List.mem_singleton.mpr rfl)⟩
  refine ⟨?_, len, ft⟩
  unfold refB
  rw [stkD_eK, stk_to hm z0 mo2, keeps_of_fits (ms := ms) (q := (1, s)) (by rw [len]; exact hf) ft, decide_eq_true (by rw [levelS_K]; exact ft.a)]
  rfl
theorem leftN_sum (bs : List Bas) (fs : List Fact) (i : Nat) : ∀ (parts : List (Int × Int)) (whole : Nat → Int), leftN bs fs whole parts i = whole i - (parts.map fun p => p.2 * levF bs (fOne (fs.getD p.1.toNat dF)) (fPs (fs.getD p.1.toNat dF)) i).sum
  | [], whole => by
    show whole i = whole i - 0
    omega
  | p :: r, whole => by
    have z := leftN_sum bs fs i r fun t => whole t - p.2 * levF bs (fOne (fs.getD p.1.toNat dF)) (fPs (fs.getD p.1.toNat dF)) t
    show leftN bs fs (fun t => whole t - p.2 * levF bs (fOne (fs.getD p.1.toNat dF)) (fPs (fs.getD p.1.toNat dF)) t) r i = _
    rw [z, List.map_cons, List.sum_cons]
    omega
theorem parts_sum (k : Nat) (f : Nat → Nat) (g : Nat → Int) (lf : Nat → Int) : ((partsL k f g).map fun p => p.2 * lf p.1.toNat).sum = sumN k fun i => g i * lf (f i) := by
  induction k with
  | zero => rfl
  | succ k ih =>
    rw [partsL_next, List.map_append, List.sum_append, ih]
    show _ = sumN k _ + g k * lf (f k)
    congr 1
    by_cases c : g k = 0
    · rw [if_pos c, c, Int.zero_mul]
      rfl
    · rw [if_neg c]
      show g k * lf ((f k : Int)).toNat + 0 = _
      rw [Int.toNat_natCast, Int.add_zero]
theorem parts_mem {k : Nat} {f : Nat → Nat} {g : Nat → Int} {p : Int × Int} (h : p ∈ partsL k f g) : ∃ i, i < k ∧ p = ((f i : Int), g i) ∧ g i ≠ 0 := by
  unfold partsL at h
  obtain ⟨i, hi, rfl⟩ := List.mem_map.mp h
  rw [List.mem_filter, List.mem_range] at hi
  refine ⟨i, hi.1, rfl, fun e => ?_⟩
  rw [decide_eq_true e] at hi
  exact absurd hi.2 (by decide)
theorem parts_asc {k : Nat} {f : Nat → Nat} {g : Nat → Int} (h : ∀ i j, i < j → j < k → f i < f j) : ((partsL k f g).map (·.1)).Pairwise (· < ·) := by
  unfold partsL
  rw [List.map_map, List.pairwise_map]
  refine List.Pairwise.imp_of_mem (R := fun i j => i < j) (fun {a b} ha hb hab => ?_) (List.Pairwise.filter _ List.pairwise_lt_range)
  have hb' := (List.mem_filter.mp hb).1
  have := h a b hab (List.mem_range.mp hb')
  show ((f a : Int)) < ((f b : Int))
  omega
theorem nums_asc {x : Str} {fs : List Fact} {i j : Nat} (h : i < j) (hj : j < (numsOf x fs).length) : (numsOf x fs).getD i 0 < (numsOf x fs).getD j 0 := by
  have p : (numsOf x fs).Pairwise (· < ·) := List.Pairwise.filter _ List.pairwise_lt_range
  rw [List.getD_eq_getElem?_getD, List.getD_eq_getElem?_getD, List.getElem?_eq_getElem (show i < _ by omega), List.getElem?_eq_getElem hj]
  exact List.pairwise_iff_getElem.mp p i j _ _ h
theorem num_in {x : Str} {fs : List Fact} {i : Nat} (h : i < (numsOf x fs).length) : (numsOf x fs).getD i 0 < fs.length ∧ kindS (fs.getD ((numsOf x fs).getD i 0) dF) = x := by
  have hm : (numsOf x fs).getD i 0 ∈ numsOf x fs := by
    rw [List.getD_eq_getElem?_getD, List.getElem?_eq_getElem h]
    exact List.getElem_mem h
  exact mem_nums.mp hm
theorem partOk_of {fs : List Fact} {x : Str} {i : Nat} {t : Int} (h : i < (numsOf x fs).length) (ht : 0 < t ∨ x = "as" ∧ t < 0) : partOk fs x ((numsOf x fs).getD i 0 : Nat) t = true := by
  obtain ⟨a, b⟩ := num_in h
  unfold partOk
  rw [Int.toNat_natCast, b, decide_eq_true (show (0 : Int) ≤ ((numsOf x fs).getD i 0 : Nat) ∧ (((numsOf x fs).getD i 0 : Nat) : Int) < (fs.length : Nat) by omega), decide_eq_true rfl]
  rcases ht with c | ⟨rfl, c⟩
  · rw [decide_eq_true c]
    rfl
  · rw [decide_eq_true c, decide_eq_true rfl, Bool.and_true, Bool.or_true]
    rfl
section
variable {bs : List Bas} {fs : List Fact} {q : Aim} {a : Nat → Int}
def wsOf (fs : List Fact) (a : Nat → Int) : List (Int × Int) := partsL (numsOf "let" fs).length (letN fs) fun i => a (1 + i)
def zsOf (fs : List Fact) (a : Nat → Int) : List (Int × Int) := partsL (numsOf "as" fs).length (asN fs) fun i => a (1 + (numsOf "let" fs).length + i)
theorem eSure_eq : eSure fs q a = .tuple [.str "sure", .tuple [.int (a 0), .tuple ((wsOf fs a).map eP), .tuple ((zsOf fs a).map eP)]] := rfl
theorem left_told (i : Nat) (hi : i < bs.length) : leftN bs fs (fun i => a 0 * levF bs q.1 q.2 i) (wsOf fs a ++ zsOf fs a) i = sumN (colN fs [q]) fun c => Amat bs fs [q] i c * a c := by
  have hN : colN fs [q] = 1 + ((numsOf "let" fs).length + (numsOf "as" fs).length) := by
    show [q].length + (takenN fs).length = _
    unfold takenN
    rw [List.length_append]
    rfl
  have eF : ∀ t, (takenN fs).getD t 0 = if t < (numsOf "let" fs).length then letN fs t else asN fs (t - (numsOf "let" fs).length) := fun t => by
    unfold takenN letN asN
    split
    · rename_i c
      rw [List.getD_eq_getElem?_getD, List.getElem?_append_left c, ← List.getD_eq_getElem?_getD]
    · rename_i c
      rw [List.getD_eq_getElem?_getD, List.getElem?_append_right (by omega), ← List.getD_eq_getElem?_getD]
  rw [leftN_sum, List.map_append, List.sum_append]
  unfold wsOf zsOf
  rw [parts_sum (lf := fun n => levF bs (fOne (fs.getD n dF)) (fPs (fs.getD n dF)) i), parts_sum (lf := fun n => levF bs (fOne (fs.getD n dF)) (fPs (fs.getD n dF)) i), hN, sumN_split, sumN_split]
  have h0 : (sumN 1 fun c => Amat bs fs [q] i c * a c) = a 0 * levF bs q.1 q.2 i := by
    show 0 + Amat bs fs [q] i 0 * a 0 = _
    unfold Amat
    rw [if_pos hi, if_pos (show 0 < [q].length from Nat.one_pos), Int.zero_add, Int.mul_comm]
    rfl
  have h1 : (sumN (numsOf "let" fs).length fun t => Amat bs fs [q] i (1 + t) * a (1 + t)) = -(sumN (numsOf "let" fs).length fun t => a (1 + t) * levF bs (fOne (fs.getD (letN fs t) dF)) (fPs (fs.getD (letN fs t) dF)) i) := by
    rw [show -(sumN (numsOf "let" fs).length fun t => a (1 + t) * levF bs (fOne (fs.getD (letN fs t) dF)) (fPs (fs.getD (letN fs t) dF)) i) = (-1) * sumN (numsOf "let" fs).length fun t => a (1 + t) * levF bs (fOne (fs.getD (letN fs t) dF)) (fPs (fs.getD (letN fs t) dF)) i by omega, ← sumN_mul]
    refine sumN_congr fun t ht => ?_
    unfold Amat factOf
    rw [if_pos hi, if_neg (show ¬ 1 + t < [q].length by show ¬ 1 + t < 1; omega), show 1 + t - [q].length = t from Nat.add_sub_cancel_left 1 t, eF, if_pos ht]
    grind
  have h2 : (sumN (numsOf "as" fs).length fun t => Amat bs fs [q] i (1 + ((numsOf "let" fs).length + t)) * a (1 + ((numsOf "let" fs).length + t))) = -(sumN (numsOf "as" fs).length fun t => a (1 + (numsOf "let" fs).length + t) * levF bs (fOne (fs.getD (asN fs t) dF)) (fPs (fs.getD (asN fs t) dF)) i) := by
    rw [show -(sumN (numsOf "as" fs).length fun t => a (1 + (numsOf "let" fs).length + t) * levF bs (fOne (fs.getD (asN fs t) dF)) (fPs (fs.getD (asN fs t) dF)) i) = (-1) * sumN (numsOf "as" fs).length fun t => a (1 + (numsOf "let" fs).length + t) * levF bs (fOne (fs.getD (asN fs t) dF)) (fPs (fs.getD (asN fs t) dF)) i by omega, ← sumN_mul]
    refine sumN_congr fun t ht => ?_
    unfold Amat factOf
    rw [if_pos hi, if_neg (show ¬ 1 + ((numsOf "let" fs).length + t) < [q].length by show ¬ 1 + ((numsOf "let" fs).length + t) < 1; omega), show 1 + ((numsOf "let" fs).length + t) - [q].length = (numsOf "let" fs).length + t from Nat.add_sub_cancel_left 1 _, eF, if_neg (by omega), Nat.add_sub_cancel_left, Nat.add_assoc]
    grind
  rw [h0, h1, h2]
  omega
theorem ws_ok (p : IsParts bs fs [q] a) : PartsOk fs "let" (wsOf fs a) := by
  refine ⟨fun r hr => ?_, parts_asc fun i j h hj => nums_asc h hj⟩
  obtain ⟨i, hi, rfl, nz⟩ := parts_mem hr
  refine partOk_of hi (.inl ?_)
  have z := p.n (1 + i) (by show 1 + i < 1 + _; omega)
  show 0 < a (1 + i)
  omega
theorem zs_ok : PartsOk fs "as" (zsOf fs a) := by
  refine ⟨fun r hr => ?_, parts_asc fun i j h hj => nums_asc h hj⟩
  obtain ⟨i, hi, rfl, nz⟩ := parts_mem hr
  refine partOk_of hi ?_
  show 0 < a (1 + (numsOf "let" fs).length + i) ∨ _ ∧ a (1 + (numsOf "let" fs).length + i) < 0
  by_cases c : 0 < a (1 + (numsOf "let" fs).length + i)
  · exact .inl c
  · exact .inr ⟨rfl, by omega⟩
theorem parts_told (p : IsParts bs fs [q] a) : rightB bs fs q (.tuple [.int (a 0), .tuple ((wsOf fs a).map eP), .tuple ((zsOf fs a).map eP)]) = true := by
  have a0 : 1 ≤ a 0 := by
    have z : 0 < 0 + a 0 := p.p
    omega
  show (decide (1 ≤ a 0) && (partsB fs "let" (.tuple ((wsOf fs a).map eP)) && (partsB fs "as" (.tuple ((zsOf fs a).map eP)) && enoughB bs fs (fun i => a 0 * levF bs q.1 q.2 i) (prsD (.tuple ((wsOf fs a).map eP)) ++ prsD (.tuple ((zsOf fs a).map eP)))))) = true
  rw [decide_eq_true a0, parts_to (ws_ok p), parts_to zs_ok, prsD_eP, prsD_eP]
  show enoughB bs fs (fun i => a 0 * levF bs q.1 q.2 i) (wsOf fs a ++ zsOf fs a) = true
  unfold enoughB
  refine List.all_eq_true.mpr fun i hi => ?_
  have hi := List.mem_range.mp hi
  rw [left_told i hi]
  obtain ⟨r1, r2⟩ := p.r i hi
  unfold endB
  cases c : (bs.getD i defB).lo with
  | true =>
    rw [r2 c]
    rfl
  | false =>
    have z := r1 c
    generalize (sumN (colN fs [q]) fun c => Amat bs fs [q] i c * a c) = y at z
    by_cases c0 : y = 0
    · rw [decide_eq_true c0]
      rfl
    · rw [decide_eq_true (show 0 < y by omega), Bool.true_and]
      cases decide (y = 0) <;> rfl
end
theorem short_eP (p : Int × Int) : ShortT (eP p) := .tup (by show 2 ≤ 60; decide) fun d hd => by
  simp only [List.mem_cons, List.not_mem_nil, or_false] at hd
  rcases hd with rfl | rfl
  · exact .int _
  · exact .int _
theorem short_ePs {ps : List (Int × Int)} (h : ps.length ≤ 60) : ShortT (.tuple (ps.map eP)) := .tup (by rw [List.length_map]; exact h) fun d hd => by
  obtain ⟨p, _, rfl⟩ := List.mem_map.mp hd
  exact short_eP p
theorem short_eK {st : Stk} (h : st.2.length ≤ 60) : ShortT (eK st) := .tup (by show 2 ≤ 60; decide) fun d hd => by
  simp only [List.mem_cons, List.not_mem_nil, or_false] at hd
  rcases hd with rfl | rfl
  · exact .int _
  · exact short_ePs h
theorem short_two {x : Str} {d : PyData} (h : ShortT d) : ShortT (.tuple [.str x, d]) := .tup (by show 2 ≤ 60; decide) fun e he => by
  simp only [List.mem_cons, List.not_mem_nil, or_false] at he
  rcases he with rfl | rfl
  · exact .str _
  · exact h
theorem short_mix {m : Int} {ws zs : List (Int × Int)} (hw : ws.length ≤ 60) (hz : zs.length ≤ 60) : ShortT (.tuple [.int m, .tuple (ws.map eP), .tuple (zs.map eP)]) := .tup (by show 3 ≤ 60; decide) fun e he => by
  simp only [List.mem_cons, List.not_mem_nil, or_false] at he
  rcases he with rfl | rfl | rfl
  · exact .int _
  · exact short_ePs hw
  · exact short_ePs hz
theorem told_short {ms : List Str} {fs : List Fact} {s : Stn} {d : PyData} (h4 : ms.length ≤ 4) (h60 : fs.length ≤ 60) (h : Told1 (basics ms) fs (1, s) ms.length d) : ShortT d := by
  rcases h with ⟨g, st, rfl⟩ | ⟨a, pt, rfl⟩
  · refine short_two (short_eK ?_)
    show ((List.range ms.length).map _).length ≤ 60
    rw [List.length_map, List.length_range]
    omega
  · have n1 : ∀ x, (numsOf x fs).length ≤ 60 := fun x => by
      unfold numsOf
      refine Nat.le_trans (List.length_filter_le _ _) ?_
      rw [List.length_range]
      exact h60
    rw [eSure_eq]
    exact short_two (short_mix (Nat.le_trans (partsL_len _ _ _) (n1 _)) (Nat.le_trans (partsL_len _ _ _) (n1 _)))
end GD
namespace GD
open PySem PySem.Spec PyProof.Rows L2 GM
theorem SB_to {ms : List Str} {g : Nat → Int} (h : GOk (basics ms) g) : ∃ st : Stk, 0 ≤ st.1 ∧ MsOk ms st.2 ∧ ∀ one ps, SB (basics ms) g one ps = levK st one ps := by
  have gok : GOk ([morn] ++ basFrom 0 ms) g := h
  obtain ⟨cs, hm, e⟩ := bas_to ms 0 _ gok.right
  refine ⟨(g 0, cs), gok.left 0 (by decide) rfl, hm, fun one ps => ?_⟩
  have e2 : SB (basFrom 0 ms) (fun t => g (1 + t)) one ps = dot cs (ps.drop 0) := e one ps
  rw [SB_basics, e2, List.drop_zero]
  rfl
theorem SB_of {ms : List Str} {st : Stk} (h0 : 0 ≤ st.1) (hm : MsOk ms st.2) : ∃ g, GOk (basics ms) g ∧ ∀ one ps, SB (basics ms) g one ps = levK st one ps := by
  obtain ⟨g, ok, e⟩ := bas_of ms 0 st.2 hm
  refine ⟨fun i => if i = 0 then st.1 else g (i - 1), fun i hi lo => ?_, fun one ps => ?_⟩
  · by_cases c : i = 0
    · dsimp only
      rw [if_pos c]
      exact h0
    · dsimp only
      rw [if_neg c]
      have hi : i < ([morn] ++ basFrom 0 ms).length := hi
      have lo : (([morn] ++ basFrom 0 ms).getD i defB).lo = false := lo
      rw [List.length_append] at hi
      refine ok (i - 1) (by simp at hi; omega) ?_
      rw [List.getD_eq_getElem?_getD, List.getElem?_append_right (by simp; omega), ← List.getD_eq_getElem?_getD] at lo
      exact lo
  · rw [SB_basics, if_pos rfl]
    unfold levK
    have e2 := e one ps
    rw [List.drop_zero] at e2
    rw [← e2]
    congr 1
    unfold SB
    exact sumN_congr fun i hi => by dsimp only; rw [if_neg (by omega), Nat.add_sub_cancel_left]
/-- what is left of a stock's level, so many times, when parts are taken -/
def leftK (fs : List Fact) (m : Int) (q : Aim) (parts : List (Int × Int)) (st : Stk) : Int := m * levK st q.1 q.2 - (parts.map fun p => p.2 * levK st (fOne (fs.getD p.1.toNat dF)) (fPs (fs.getD p.1.toNat dF))).sum
theorem left_lin (bs : List Bas) (fs : List Fact) (q : Aim) (m : Int) (g : Nat → Int) : ∀ parts : List (Int × Int), (sumN bs.length fun t => g t * leftN bs fs (fun i => m * levF bs q.1 q.2 i) parts t) = m * SB bs g q.1 q.2 - (parts.map fun p => p.2 * SB bs g (fOne (fs.getD p.1.toNat dF)) (fPs (fs.getD p.1.toNat dF))).sum := by
  intro parts
  have e1 : (sumN bs.length fun t => g t * leftN bs fs (fun i => m * levF bs q.1 q.2 i) parts t) = (sumN bs.length fun t => m * (g t * levF bs q.1 q.2 t)) + sumN bs.length fun t => (-1) * (g t * (parts.map fun p => p.2 * levF bs (fOne (fs.getD p.1.toNat dF)) (fPs (fs.getD p.1.toNat dF)) t).sum) := by
    rw [← sumN_add]
    exact sumN_congr fun t _ => by
      rw [leftN_sum]
      grind
  rw [e1, sumN_mul, sumN_mul]
  clear e1
  have e2 : (sumN bs.length fun t => g t * (parts.map fun p => p.2 * levF bs (fOne (fs.getD p.1.toNat dF)) (fPs (fs.getD p.1.toNat dF)) t).sum) = (parts.map fun p => p.2 * SB bs g (fOne (fs.getD p.1.toNat dF)) (fPs (fs.getD p.1.toNat dF))).sum := by
    induction parts with
    | nil => exact sumN_zero fun t _ => by show g t * 0 = 0; rw [Int.mul_zero]
    | cons p r ih =>
      rw [List.map_cons, List.sum_cons, ← ih, ← show (sumN bs.length fun t => p.2 * (g t * levF bs (fOne (fs.getD p.1.toNat dF)) (fPs (fs.getD p.1.toNat dF)) t)) = p.2 * SB bs g (fOne (fs.getD p.1.toNat dF)) (fPs (fs.getD p.1.toNat dF)) from sumN_mul _ _ _, ← sumN_add]
      exact sumN_congr fun t _ => by
        rw [List.map_cons, List.sum_cons]
        grind
  rw [e2]
  show m * SB bs g q.1 q.2 + _ = _
  omega
theorem endB_iff (b : Bas) (x : Int) : endB b x = true ↔ (b.lo = false → 0 ≤ x) ∧ (b.lo = true → x = 0) := by
  unfold endB
  cases c : b.lo with
  | true =>
    rw [Bool.or_eq_true, decide_eq_true_iff]
    constructor
    · rintro (h | h)
      · exact ⟨fun z => (nomatch z), fun _ => h⟩
      · simp at h
    · rintro ⟨_, h⟩
      exact .inl (h rfl)
  | false =>
    rw [Bool.or_eq_true, decide_eq_true_iff]
    constructor
    · rintro (h | h)
      · exact ⟨fun _ => by omega, fun z => (nomatch z)⟩
      · have : 0 < x := by simpa using h
        exact ⟨fun _ => by omega, fun z => (nomatch z)⟩
    · rintro ⟨h, _⟩
      have := h rfl
      by_cases c0 : x = 0
      · exact .inl c0
      · right
        rw [decide_eq_true (show 0 < x by omega)]
        rfl
theorem enough_all {ms : List Str} {fs : List Fact} {q : Aim} {m : Int} {parts : List (Int × Int)} : enoughB (basics ms) fs (fun i => m * levF (basics ms) q.1 q.2 i) parts = true ↔ ∀ st : Stk, 0 ≤ st.1 → MsOk ms st.2 → 0 ≤ leftK fs m q parts st := by
  unfold enoughB
  rw [List.all_eq_true]
  have lin := left_lin (basics ms) fs q m
  have toK : ∀ {g : Nat → Int} {st : Stk}, (∀ one ps, SB (basics ms) g one ps = levK st one ps) → (sumN (basics ms).length fun t => g t * leftN (basics ms) fs (fun i => m * levF (basics ms) q.1 q.2 i) parts t) = leftK fs m q parts st := fun {g st} e => by
    rw [lin]
    unfold leftK
    rw [e]
    congr 2
    exact List.map_congr_left fun p _ => by rw [e]
  constructor
  · intro h st h0 hm
    obtain ⟨g, ok, e⟩ := SB_of h0 hm
    rw [← toK e]
    refine sumN_nonneg fun t ht => ?_
    obtain ⟨a, b⟩ := (endB_iff _ _).mp (h t (List.mem_range.mpr ht))
    cases c : ((basics ms).getD t defB).lo with
    | false => exact Int.mul_nonneg (ok t ht c) (a c)
    | true =>
      rw [b c, Int.mul_zero]
      exact Int.le_refl _
  · intro h i hi
    have hi := List.mem_range.mp hi
    have one : ∀ c : Int, (((basics ms).getD i defB).lo = false → 0 ≤ c) → 0 ≤ c * leftN (basics ms) fs (fun i => m * levF (basics ms) q.1 q.2 i) parts i := fun c hc => by
      have ok : GOk (basics ms) fun t => if t = i then c else 0 := fun t _ lo => by
        by_cases e : t = i
        · dsimp only
          rw [if_pos e]
          rw [e] at lo
          exact hc lo
        · dsimp only
          rw [if_neg e]
          exact Int.le_refl _
      obtain ⟨st, h0, hm, e⟩ := SB_to ok
      have z := h st h0 hm
      rw [← toK e, sumN_one hi fun t _ ne => by rw [if_neg ne, Int.zero_mul]] at z
      rw [if_pos rfl] at z
      exact z
    refine (endB_iff _ _).mpr ⟨fun lo => ?_, fun lo => ?_⟩
    · have z := one 1 fun _ => by decide
      omega
    · have z1 := one 1 fun _ => by decide
      have z2 := one (-1) fun z => by rw [lo] at z; cases z
      omega
/-- a mixture by its parts -/
structure MixOk (ms : List Str) (fs : List Fact) (q : Aim) (m : Int) (ws zs : List (Int × Int)) : Prop where
  m1 : 1 ≤ m
  w : PartsOk fs "let" ws
  z : PartsOk fs "as" zs
  e : ∀ st : Stk, 0 ≤ st.1 → MsOk ms st.2 → 0 ≤ leftK fs m q (ws ++ zs) st
def eMx (m : Int) (ws zs : List (Int × Int)) : PyData := .tuple [.int m, .tuple (ws.map eP), .tuple (zs.map eP)]
theorem right_iff {ms : List Str} {fs : List Fact} {q : Aim} {d : PyData} : rightB (basics ms) fs q d = true ↔ ∃ m ws zs, d = eMx m ws zs ∧ MixOk ms fs q m ws zs := by
  constructor
  · intro h
    cases d with
    | tuple ds =>
      by_cases l3 : ds.length = 3
      · obtain ⟨a, b, c, rfl⟩ : ∃ a b c, ds = [a, b, c] := by
          match ds, l3 with
          | [a, b, c], _ => exact ⟨a, b, c, rfl⟩
        rw [rightB_three] at h
        cases e1 : GD.intD a with
        | none =>
          rw [e1] at h
          cases h
        | some m =>
          rw [e1] at h
          have h : (decide (1 ≤ m) && (partsB fs "let" b && (partsB fs "as" c && enoughB (basics ms) fs (fun i => m * levF (basics ms) q.1 q.2 i) (prsD b ++ prsD c)))) = true := h
          rw [Bool.and_eq_true, Bool.and_eq_true, Bool.and_eq_true, decide_eq_true_iff] at h
          obtain ⟨h1, h2, h3, h4⟩ := h
          obtain ⟨ws, rfl, ow⟩ := parts_of h2
          obtain ⟨zs, rfl, oz⟩ := parts_of h3
          rw [prsD_eP, prsD_eP] at h4
          exact ⟨m, ws, zs, by rw [intD_some e1]; rfl, h1, ow, oz, enough_all.mp h4⟩
      · rw [rightB_ne l3] at h
        cases h
    | none => cases h
    | bool b => cases h
    | int i => cases h
    | str x => cases h
    | list l => cases h
    | dict l => cases h
  · rintro ⟨m, ws, zs, rfl, o⟩
    show (decide (1 ≤ m) && (partsB fs "let" (.tuple (ws.map eP)) && (partsB fs "as" (.tuple (zs.map eP)) && enoughB (basics ms) fs (fun i => m * levF (basics ms) q.1 q.2 i) (prsD (.tuple (ws.map eP)) ++ prsD (.tuple (zs.map eP)))))) = true
    rw [decide_eq_true o.m1, parts_to o.w, parts_to o.z, prsD_eP, prsD_eP, enough_all.mpr o.e]
    rfl
theorem part_fact {fs : List Fact} {k : Str} {ps : List (Int × Int)} (h : PartsOk fs k ps) {p : Int × Int} (hp : p ∈ ps) : fs.getD p.1.toNat dF ∈ fs ∧ kindS (fs.getD p.1.toNat dF) = k ∧ (0 < p.2 ∨ k = "as" ∧ p.2 < 0) := by
  have z := h.o p hp
  unfold partOk at z
  rw [Bool.and_eq_true, Bool.and_eq_true, Bool.or_eq_true, Bool.and_eq_true, decide_eq_true_iff, decide_eq_true_iff, decide_eq_true_iff, decide_eq_true_iff, decide_eq_true_iff] at z
  obtain ⟨⟨a, b⟩, c, e⟩ := z
  have hl : p.1.toNat < fs.length := by omega
  exact ⟨by rw [List.getD_eq_getElem?_getD, List.getElem?_eq_getElem hl]; exact List.getElem_mem hl, c, e⟩
theorem sum_nonneg : ∀ {l : List Int}, (∀ x ∈ l, 0 ≤ x) → 0 ≤ l.sum
  | [], _ => Int.le_refl 0
  | x :: l, h => by
    rw [List.sum_cons]
    have a := h x List.mem_cons_self
    have b := sum_nonneg fun y hy => h y (List.mem_cons_of_mem _ hy)
    omega
/-- no stock refuses a standing that has a right mixture -/
theorem mix_no {ms : List Str} {fs : List Fact} {q : Aim} {m : Int} {ws zs : List (Int × Int)} (o : MixOk ms fs q m ws zs) : ¬ ∃ st, Fits ms fs q st := by
  rintro ⟨st, f⟩
  have h := o.e st f.z f.m
  unfold leftK at h
  have hs : 0 ≤ ((ws ++ zs).map fun p => p.2 * levK st (fOne (fs.getD p.1.toNat dF)) (fPs (fs.getD p.1.toNat dF))).sum := by
    refine sum_nonneg fun x hx => ?_
    obtain ⟨p, hp, rfl⟩ := List.mem_map.mp hx
    rcases List.mem_append.mp hp with hp | hp
    · obtain ⟨a, b, c⟩ := part_fact o.w hp
      have z := f.l _ a b
      rcases c with c | ⟨c, _⟩
      · exact Int.mul_nonneg (by omega) z
      · exact absurd c (by decide +kernel)
    · obtain ⟨a, b, _⟩ := part_fact o.z hp
      rw [f.s _ a b, Int.mul_zero]
      exact Int.le_refl _
  have ha := f.a
  have m1 := o.m1
  have : m * levK st q.1 q.2 < 0 := Int.mul_neg_of_pos_of_neg (by omega) ha
  omega
/-- manners that allow no more -/
def MansLe (ms' ms : List Str) : Prop := ∀ cs, MsOk ms' cs → MsOk ms cs
theorem MixOk.le {ms ms' : List Str} {fs : List Fact} {q : Aim} {m : Int} {ws zs : List (Int × Int)} (o : MixOk ms fs q m ws zs) (h : MansLe ms' ms) : MixOk ms' fs q m ws zs := ⟨o.m1, o.w, o.z, fun st h0 hm => o.e st h0 (h _ hm)⟩
theorem Fits.le {ms ms' : List Str} {fs : List Fact} {q : Aim} {st : Stk} (f : Fits ms' fs q st) (h : MansLe ms' ms) : Fits ms fs q st := ⟨f.z, h _ f.m, f.l, f.s, f.a⟩
theorem mans_le {ms' ms : List Str} (hl : ms'.length = ms.length) (h : ∀ (i : Nat) (m' m : Str), ms'[i]? = some m' → ms[i]? = some m → ∀ c, MOk m' c → MOk m c) : MansLe ms' ms := fun cs o => by
  refine ⟨by rw [o.1, hl], fun i m c hm hc => ?_⟩
  have hi : i < ms.length := (List.getElem?_eq_some_iff.mp hm).1
  exact h i (ms'[i]'(by omega)) m (List.getElem?_eq_getElem _) hm c (o.2 i _ c (List.getElem?_eq_getElem _) hc)
theorem mok_clean {c : Int × Int} (h : MOk "clean" c) : MOk "plain" c := by
  unfold MOk at h ⊢
  rw [if_neg (by decide +kernel), if_pos rfl] at h
  rw [if_pos rfl]
  omega
theorem mok_spent {c : Int × Int} (h : MOk "spent" c) : MOk "plain" c := by
  unfold MOk at h ⊢
  rw [if_neg (by decide +kernel), if_neg (by decide +kernel), if_pos rfl] at h
  rw [if_pos rfl]
  omega
theorem mok_free (c : Int × Int) : MOk "free" c := by
  unfold MOk
  rw [if_neg (by decide +kernel), if_neg (by decide +kernel), if_neg (by decide +kernel)]
  trivial
end GD
namespace GD
open PySem PySem.Spec PyProof.Rows L2
section
variable {prog : Program} {w : World} {A : Around} {R : Result → Shared → Prop} {I : Addr} {fp wr : List Addr} {G : Array GenState → Array GenState → Prop} {n : Nat} {Pv : Nat → Value → Prop} {St : Nat → Shared → Prop}
theorem update_ints (W : WalksS prog w A.in1 I fp wr G n Pv St) (S : Addr) (hSf : S ∉ fp) (val : Nat → Int) (hval : ∀ i v, Pv i v → ∃ tk, v = Value.int (val i) tk) (hb : n + 1 < scanBound) :
    ∀ (m i : Nat) (s : Shared), n - i = m → i ≤ n → St i s → SetR w s.heap S (metB val i) (metN val i) →
      (∀ s', Moved (S :: wr) G s s' → SetR w s'.heap S (metB val n) (metN val n) → R (.ok (.ret .none)) s') → codeAny (model prog w) A (.builtin "set.update.loop" ⟨[.ref S, .ref I], []⟩) R s := by
  have out : S ∉ wr := fun h => hSf (W.sub _ h)
  have keep : ∀ {i : Nat} {s s' : Shared}, Moved wr G s s' → SetR w s.heap S (metB val i) (metN val i) → SetR w s'.heap S (metB val i) (metN val i) := fun hm R => R.at fun o ho => hm.heap S o out ho
  have wide : ∀ b ∈ wr, b ∈ S :: wr := fun b h => List.mem_cons_of_mem _ h
  intro m
  induction m with
  | zero =>
    intro i s hm hi hst hS hR
    obtain rfl : i = n := by omega
    refine codeAny_builtin F.entry_set_update_loop ?_
    rw [Around.under_plainId F.plain_set_update_loop _]
    exact wpAny_bind (W.done s _ _ hst fun s' mv => wpAny_pure (hR s' (mv.mono wide) (keep mv hS)))
  | succ m ih =>
    intro i s hm hi hst hS hR
    have hlt : i < n := by omega
    refine codeAny_builtin F.entry_set_update_loop ?_
    rw [Around.under_plainId F.plain_set_update_loop _]
    refine wpAny_bind (W.item i s _ _ hlt hst fun v s' hv hst' mv => ?_)
    obtain ⟨tk, rfl⟩ := hval i v hv
    refine wpAny_bind (wpAny_holding ?_)
    unfold setAdd
    have room := metN_le val i
    have hS' := keep mv hS
    refine wpAny_holding (wpAny_bind ((intKind prog w).pyHash (intKind_is prog w (val i) tk) (setR_add_hashed (s := { s' with toks := s'.toks + 1 }) hS' (by omega) fun h' same hS2 => ?_)))
    refine wpAny_pure ⟨plainId_quiet F.plain_set_update_loop _, ih (i + 1) _ (by omega) hlt (W.frame _ s' _ _ hst' (Nat.le_succ _) fun b hb o e => (same.2 b fun z => hSf (z ▸ hb)).trans e) ?_ fun s2 mv2 hS3 => ?_⟩
    · exact SetR.congr hS2 fun k => metB_succ val i k
    · exact hR s2 (Moved.trans W.gtrans ((mv.mono wide).then_heap (Nat.le_succ _) fun b o hb e => (same.2 b fun z => hb (z ▸ List.mem_cons_self)).trans e) mv2) hS3
end
section
variable {prog : Program} {w : World} {A : Around} {E : Value → Shared → Prop} {s : Shared}
theorem call_set_ints {l : Addr} {items : Array Value} {Q : Value → Shared → Prop} (hh : A.handled = none) (hl : s.heap.IsList l items) (val : Nat → Int) (hval : ∀ i v, items[i]? = some v → ∃ tk, v = Value.int (val i) tk) (hb : items.size + 1 < scanBound)
    (h : ∀ (h' : Heap) (tk : Nat), SetR w h' s.heap.objs.size (metB val items.size) (metN val items.size) → (∀ b o, b < s.heap.objs.size → s.heap.get? b = some o → h'.get? b = some o) → Q (.ref s.heap.objs.size) { s with heap := h', toks := tk }) :
    wpAny (model prog w) A (call (.type "set") [.ref l]) Q E s := by
  obtain ⟨c, tl, hmro⟩ := PySem.F.called_set.mro
  have made := PySem.F.called_set.made
  have sub := PySem.F.called_set.sub
  refine wpAny_call (codeAny_of_tree ?_)
  show wpAny _ _ (callAny (.type "set") _) _ _ _
  refine wpAny_pure ⟨Code.quiet_builtin _ (by decide +kernel), codeAny_builtin PySem.F.entry_type_call ?_⟩
  rw [Around.under_plain (weight_type_call_type "set" [.ref l] []) rfl]
  have a1 := PySem.F.called_set.notType
  have a2 := PySem.F.called_set.canCreate
  have a3 := PySem.F.typeCall_set_1 (.ref l)
  repeat (any_goals (first | assumption | wp_step))
  refine codeAny_mono (code_set_led1 (.ref l) (E := E) (Q₁ := fun v s1 => v = .ref s.heap.objs.size ∧ s1 = { s with heap := s.heap.push { cls := .type "set", dict := none, data := .set #[] 0 (.fresh 0 0 (!w.params.followText "set-order")) } }) ⟨rfl, rfl⟩) fun r s1 hr => ?_
  rcases r with e | fl
  · exact hr
  cases fl with
  | ret v =>
    obtain ⟨rfl, rfl⟩ := hr
    have hnew : (s.heap.push { cls := .type "set", dict := none, data := .set #[] 0 (.fresh 0 0 (!w.params.followText "set-order")) }).get? s.heap.objs.size = some { cls := .type "set", dict := none, data := .set #[] 0 (.fresh 0 0 (!w.params.followText "set-order")) } := Heap.get?_push_size _ rfl
    have hR0 : SetR w (s.heap.push { cls := .type "set", dict := none, data := .set #[] 0 (.fresh 0 0 (!w.params.followText "set-order")) }) s.heap.objs.size (fun _ => false) 0 := setR_fresh w
    have hty : Shared.TypeIs { s with heap := s.heap.push { cls := .type "set", dict := none, data := .set #[] 0 (.fresh 0 0 (!w.params.followText "set-order")) } } (.ref s.heap.objs.size) "set" := ⟨_, hnew, rfl⟩
    generalize (!w.params.followText "set-order") = led at hnew hR0 hty ⊢
    have i1 := PySem.F.called_set.init.lookup
    have i2 := PySem.F.called_set.init.bind (.ref s.heap.objs.size)
    repeat (any_goals (first | assumption | wp_step))
    let good : Value → Shared → Prop := fun r s2 => r = .none ∧ ∃ h' tk, s2 = { s with heap := h', toks := tk } ∧ SetR w h' s.heap.objs.size (metB val items.size) (metN val items.size) ∧ ∀ b o, b < s.heap.objs.size → s.heap.get? b = some o → h'.get? b = some o
    refine codeAny_mono (codeAny_call_builtin (R := wants good E) PySem.F.called_set.init.plain PySem.F.entry_set_init (check_set_init_1 hty ?_)) fun r2 s2 hr2 => ?_
    · obtain ⟨ol, hol, hcl, nl, hdl⟩ := hl
      obtain ⟨oc, od, odt, osl⟩ := ol
      obtain rfl : oc = .type "list" := hcl
      obtain rfl : odt = .seq items nl := hdl
      have hol' : (s.heap.push { cls := .type "set", dict := none, data := .set #[] 0 (.fresh 0 0 led) }).get? l = some { cls := .type "list", dict := od, data := .seq items nl, slots := osl } := Heap.get?_push_of_some _ hol
      have hil : (s.heap.push { cls := .type "set", dict := none, data := .set #[] 0 (.fresh 0 0 led) }).IsList l items := ⟨_, hol', rfl, nl, rfl⟩
      have b1 := PySem.F.sub_list_set
      have b2 := PySem.F.sub_list_frozenset
      have b3 : (Value.type "list" == Value.type "dict") = false := by decide
      unfold Builtin.«set.__init__» noKeywords Builtin.Frozenset.updateFrom
      generalize hPI : pyIter = PI
      wp_walk
      subst hPI
      refine wpAny_pyIter_list hil (wpAny_bind (wpAny_runValue ?_))
      have ll : l < s.heap.objs.size := Heap.lt_size hol
      have hd3 : A.in1.in1.in1.handled = none := by simp [hh]
      have sz : (s.heap.push { cls := .type "set", dict := none, data := .set #[] 0 (.fresh 0 0 led) }).objs.size = s.heap.objs.size + 1 := Heap.size_push ..
      have neI : l ≠ (s.heap.push { cls := .type "set", dict := none, data := .set #[] 0 (.fresh 0 0 led) }).objs.size := by
        rw [sz]
        exact Nat.ne_of_lt (Nat.lt_succ_of_lt ll)
      have far : s.heap.objs.size ∉ [(s.heap.push { cls := .type "set", dict := none, data := .set #[] 0 (.fresh 0 0 led) }).objs.size, l] := fun m => by
        rcases List.mem_cons.mp m with z | z
        · rw [sz] at z
          exact Nat.ne_of_lt (Nat.lt_succ_self _) z
        · exact Nat.ne_of_gt ll (List.mem_singleton.mp z)
      refine update_ints ((Walks.list hd3 _ l neI items).toS) s.heap.objs.size far val hval hb (items.size - 0) 0 _ (by omega) (Nat.zero_le _) ⟨⟨_, Heap.get?_push_size _ rfl, rfl, rfl⟩, (hil.push _)⟩ ?_ ?_
      · exact SetR.congr (hR0.at fun o ho => Heap.get?_push_of_some _ ho) fun _ => rfl
      · intro s' mv hS
        have e1 := mv.gens
        have e2 := mv.drawn
        have e3 := mv.os
        obtain ⟨h', g', d', tk', os'⟩ := s'
        simp only at e1 e2 e3
        subst e1 e2 e3
        refine wpAny_pure ?_
        show wpAny _ _ (ret Value.none) _ _ _
        refine wpAny_pure ⟨rfl, h', tk', rfl, hS, fun b o hb e => mv.heap b o (fun m => ?_) (Heap.get?_push_of_some _ (Heap.get?_push_of_some _ e))⟩
        rcases List.mem_cons.mp m with z | z
        · exact Nat.ne_of_lt hb z
        · have z2 := List.mem_singleton.mp z
          rw [sz] at z2
          exact Nat.ne_of_lt (Nat.lt_succ_of_lt hb) z2
    · rcases r2 with e | fl2
      · exact hr2
      cases fl2 with
      | ret r =>
        obtain ⟨rfl, h', tk, rfl, hS, hk⟩ := hr2
        repeat (any_goals (first | assumption | wp_step))
        exact h _ _ hS hk
      | _ => exact hr2.elim
  | _ => exact hr.elim
end
theorem metB_mem {ns : List Int} (k : Int) : metB (fun i => ns.getD i 0) ns.length k = decide (k ∈ ns) := by
  rw [Bool.eq_iff_iff, decide_eq_true_iff]
  unfold metB
  rw [List.any_eq_true]
  constructor
  · rintro ⟨j, hj, e⟩
    have hj' := List.mem_range.mp hj
    rw [beq_iff_eq] at e
    rw [← e]
    show ns.getD j 0 ∈ _
    rw [List.getD_eq_getElem?_getD, List.getElem?_eq_getElem (by omega)]
    exact List.getElem_mem hj'
  · intro h
    obtain ⟨j, hj, e⟩ := List.getElem_of_mem h
    refine ⟨j, List.mem_range.mpr (by omega), ?_⟩
    rw [beq_iff_eq]
    show ns.getD j 0 = k
    rw [List.getD_eq_getElem?_getD, List.getElem?_eq_getElem (by omega)]
    exact e
theorem ints_get : ∀ {vs : List Value} {ns : List Int} {i : Nat} {v : Value}, IntsAre vs ns → vs[i]? = some v → ∃ tk, v = Value.int (ns.getD i 0) tk
  | _, _, 0, _, .cons n t r, h => by
    obtain rfl := Option.some.inj h
    exact ⟨t, rfl⟩
  | _, _, i + 1, _, .cons n t r, h => ints_get (i := i) r h
/-- set(xs), xs a list of ints -/
def rSetI (K : PySem.W.Frag) (w : World) : List V → Hp → VK → Prop := fun xs H Q => ∃ (l : Addr) (ns : List Int), xs = [.ref l] ∧ SqL K H l (ns.map V.int) ∧ ns.length < 64 ∧
  ∀ a n, H a = none → n ≤ ns.length → Q (.ref a) (upd H a (SetO w a (fun k => decide (k ∈ ns)) n))
section
variable {X : Cx}
theorem cr_setI (hc : X.calm = true) : CallR X (.type "set") (rSetI X.K X.w) := by
  intro pins s σ H xs us Q I r h
  obtain ⟨l, ns, rfl, hq, h64, q⟩ := h
  obtain ⟨its, rv, pl, hz⟩ := I.list hq
  have sa := rv.ints
  have sz : its.toArray.size = ns.length := by rw [List.size_toArray, ← rv.length, List.length_map]
  rw [Vals.ref1 r]
  refine call_set_ints (I.ok.hd hc) pl.isList (fun i => ns.getD i 0) (fun i v hv => ?_) (by rw [sz]; unfold scanBound; omega) fun h' tk hS hk => ?_
  · exact ints_get sa (by simpa using hv)
  · rw [sz] at hS
    have hS2 : SetR X.w h' s.heap.objs.size (fun k => decide (k ∈ ns)) (metN (fun i => ns.getD i 0) ns.length) := hS.congr fun k => (metB_mem k).symm
    exact ⟨.ref s.heap.objs.size, upd H s.heap.objs.size (SetO X.w s.heap.objs.size (fun k => decide (k ∈ ns)) (metN (fun i => ns.getD i 0) ns.length)), I.laid (t' := tk) (fun b u e => hk b u (Heap.lt_size e) e) (Nat.le_refl _) (setO_new hS2), rfl, q _ _ (I.hok.fresh (Nat.le_refl _)) (metN_le _ _)⟩
end
end GD
namespace GD
open PySem PySem.Spec PyProof.Rows L2 GM
def toldB (x : Str) (k : Nat) : PyData → Bool
  | .tuple ds => decide (ds.length = k) && wordD [x] (ds.headD .none)
  | _ => false
def spToldA : Sp := fun vs H Q _ => ∃ (v : V) (d : PyData) (x : Str) (k : Nat), vs = [v, .str x, .int (k : Nat)] ∧ Sh H v d ∧ 1 ≤ k ∧ ∀ H', Same H H' → Q (.bl (toldB x k d)) H'
def spChgA : Sp := fun vs H Q _ => ∃ (v : V) (d : PyData) (m : Str), vs = [v, .str m] ∧ Sh H v d ∧ Q (.bl (chgB m d)) H
def spStkA : Sp := fun vs H Q _ => ∃ (v : V) (d : PyData) (l : Addr) (ms : List Str), vs = [v, .ref l] ∧ Sh H v d ∧ H l = some (.tup (ms.map V.str)) ∧ ms.length ≤ 4 ∧ ∀ H', Same H H' → Q (.bl (stkB ms d)) H'
def spPartA : Sp := fun vs H Q _ => ∃ (v x : V) (d : PyData) (fs : List Fact) (k : Str), vs = [v, x, .str k] ∧ Sh H v d ∧ Fz H x (.tuple (fs.map eF)) ∧ fs.length ≤ 60 ∧ Q (.bl (partB fs k d)) H
def spPartsA : Sp := fun vs H Q _ => ∃ (v x : V) (d : PyData) (fs : List Fact) (k : Str), vs = [v, x, .str k] ∧ Sh H v d ∧ ShortT d ∧ Fz H x (.tuple (fs.map eF)) ∧ fs.length ≤ 60 ∧ ∀ H', Same H H' → Q (.bl (partsB fs k d)) H'
def spBothA : Sp := fun vs H Q _ => ∃ (v u x : V) (d e : PyData) (fs : List Fact), vs = [v, u, x] ∧ Sh H v d ∧ Sh H u e ∧ ShortT d ∧ ShortT e ∧ Fz H x (.tuple (fs.map eF)) ∧ fs.length ≤ 60 ∧ ∀ H', Same H H' → Q (.bl (partsB fs "let" d && partsB fs "as" e)) H'
theorem chg_none1 {m : Str} {a b : PyData} (h : GD.intD a = none) : chgB m (.tuple [a, b]) = false := by rw [chgB_two, h]
theorem chg_none2 {m : Str} {a b : PyData} (h : GD.intD b = none) : chgB m (.tuple [a, b]) = false := by
  rw [chgB_two, h]
  cases GD.intD a <;> rfl
theorem part_none1 {fs : List Fact} {m : Str} {a b : PyData} (h : GD.intD a = none) : partB fs m (.tuple [a, b]) = false := by rw [partB_two, h]
theorem part_none2 {fs : List Fact} {m : Str} {a b : PyData} (h : GD.intD b = none) : partB fs m (.tuple [a, b]) = false := by
  rw [partB_two, h]
  cases GD.intD a <;> rfl
theorem isTup_no {d : PyData} (h : isTup d = false) (m : Str) (ms : List Str) (fs : List Fact) : chgB m d = false ∧ stkB ms d = false ∧ partB fs m d = false ∧ partsB fs m d = false := by
  cases d with
  | tuple ds => cases h
  | none => exact ⟨rfl, rfl, rfl, rfl⟩
  | bool b => exact ⟨rfl, rfl, rfl, rfl⟩
  | int i => exact ⟨rfl, rfl, rfl, rfl⟩
  | str x => exact ⟨rfl, rfl, rfl, rfl⟩
  | list l => exact ⟨rfl, rfl, rfl, rfl⟩
  | dict l => exact ⟨rfl, rfl, rfl, rfl⟩
theorem tup_of {d : PyData} (h : isTup d = true) : ∃ ds, d = .tuple ds := by
  cases d with
  | tuple ds => exact ⟨ds, rfl⟩
  | none => cases h
  | bool b => cases h
  | int i => cases h
  | str x => cases h
  | list l => cases h
  | dict l => cases h
theorem len2 {ds : List PyData} (h : ds.length = 2) : ∃ a b, ds = [a, b] := by
  match ds, h with
  | [a, b], _ => exact ⟨a, b, rfl⟩
end GD
namespace K73
open PySem PySem.Spec PyProof.Rows L2 GD GM
abbrev pIsTold : Stmt := top 17
abbrev pIsStkA : Stmt := top 23
abbrev pIsChgA : Stmt := top 24
abbrev pAreParts : Stmt := top 56
abbrev pIsParts : Stmt := top 57
abbrev pIsPart : Stmt := top 58
section
variable {P : Program} {w : World} {K : PySem.W.Frag} {mg : Str → Option Value} {base : Heap}
theorem scTld : FnScope ["value", "word", "size"] ["value", "word", "size"] (defScope pIsTold) := ⟨rfl, rfl, rfl, by decide +kernel, rfl, by decide +kernel, by decide +kernel⟩
theorem ok_istold {f fW : Addr} {fd fdW : FuncData} (F : Fun K "is_told" "is_told" pIsTold f fd) (S : Forms1 mg) (AW : At K mg "is_word" pIsWord ["value", "words"] fW fdW) : FnOk P w K mg base CX0 2 f fd ["value", "word", "size"] spToldA := by
  have GW : FnOk P w K mg base CX0 1 fW fdW ["value", "words"] (spWordA K) := oka_isword AW.F S
  refine F.ok scTld (fun vs H Q E h => ?_) (fun cdv A outer s H vs Q E hr h => ?_)
  · obtain ⟨v, d, x, k, rfl, _⟩ := h
    rfl
  · obtain ⟨v, d, x, k, rfl, sh, hk, q⟩ := h
    refine ⟨_, pss_one (ps_ret (pe_and (pe_callB call_isi (by rfl) S.isi (by decide +kernel) (pa_cons (pv 0) (pa_cons (pe_bltn (v := .ty "tuple") (by rfl) S.tup PyProof.Rows.Boot.«tuple» rfl) pa_nil)))
      (pe_and (pe_cmpR op_eq (pe_callB call_len_seq (by rfl) S.len PySem.boot_len (pa_cons (pv 0) pa_nil)) (pv 2) (nomark _))
        (pe_one (pe_call GW hr (by rfl) AW.g AW.F.kp AW.b .nil pass0 (pa_cons (pe_ix ix_tup (pv 0) pe_int (fun _ _ => rfl)) (pa_cons (pe_tup (pa_cons (pv 1) pa_nil)) pa_nil))))))), ?_⟩
    refine ⟨_, rfl, _, _, _, _, isTup d, rfl, .ty _, ty_sh sh (Same.refl H), kit_tup d, _, rfl, ?_⟩
    cases d with
    | none => exact iteF (q H (Same.refl H))
    | bool b => exact iteF (q H (Same.refl H))
    | int i => exact iteF (q H (Same.refl H))
    | list ds => exact iteF (q H (Same.refl H))
    | str x => exact iteF (q H (Same.refl H))
    | dict ds => exact iteF (q H (Same.refl H))
    | tuple ds =>
      refine iteT ?_
      obtain ⟨b, xs, rfl, hb, t⟩ := sh_tup sh
      have lx := t.length
      refine ⟨_, rfl, b, _, rfl, .inr (SqT.of hb), _, rfl, rfl, _, rfl, ?_⟩
      by_cases h2 : ds.length = k
      · rw [decide_eq_true (show V.int (xs.length : Nat) = V.int (k : Nat) by rw [lx, h2])]
        obtain ⟨e, r, rfl⟩ : ∃ e r, ds = e :: r := by
          cases ds with
          | nil =>
            rw [List.length_nil] at h2
            omega
          | cons e r => exact ⟨e, r, rfl⟩
        cases t with
        | cons a t =>
          refine iteT ⟨_, rfl, b, _, 0, _, rfl, rfl, SqT.of hb, at0, _, rfl, (by show 1 ≤ sizeLine; decide), fun p np => ?_⟩
          have sp := same_new (o := .tup [.str x]) np
          refine ⟨_, e, p, [x], rfl, a.same sp, .inr (SqT.of upd_same), ?_⟩
          have qq := q _ sp
          rw [show toldB x k (.tuple (e :: r)) = wordD [x] e by show (decide ((e :: r).length = k) && wordD [x] e) = _; rw [decide_eq_true h2]; rfl] at qq
          exact qq
      · rw [decide_eq_false (show ¬ V.int (xs.length : Nat) = V.int (k : Nat) from fun z => h2 (by have := V.int.inj z; omega))]
        refine iteF ?_
        have qq := q H (Same.refl H)
        rw [show toldB x k (.tuple ds) = false by show (decide (ds.length = k) && wordD [x] (ds.headD .none)) = _; rw [decide_eq_false h2]; rfl] at qq
        exact qq
theorem scChA : FnScope ["value", "manner", "begin", "end"] ["value", "manner"] (defScope pIsChgA) := ⟨rfl, rfl, rfl, by decide +kernel, rfl, by decide +kernel, by decide +kernel⟩
theorem oka_ischg {f fI : Addr} {fd fdI : FuncData} (F : Fun K "is_change" "is_change" pIsChgA f fd) (S : Forms1 mg) (AI : At K mg "is_integer" pIsInt ["value"] fI fdI) : FnOk P w K mg base CX0 2 f fd ["value", "manner"] spChgA := by
  have GI : FnOk P w K mg base CX0 1 fI fdI ["value"] (spIntA K) := oka_isint AI.F S
  refine F.ok scChA (fun vs H Q E h => ?_) (fun cdv A outer s H vs Q E hr h => ?_)
  · obtain ⟨v, d, m, rfl, _⟩ := h
    rfl
  · obtain ⟨v, d, m, rfl, sh, q⟩ := h
    refine ⟨_, pss_cons (ps_if (pw_or (pt_not (pt_val (pe_callB call_isi (by rfl) S.isi (by decide +kernel) (pa_cons (pv 0) (pa_cons (pe_bltn (v := .ty "tuple") (by rfl) S.tup PyProof.Rows.Boot.«tuple» rfl) pa_nil)))))
          (pw_or1 (pt_cmpR op_ne (pe_callB call_len_seq (by rfl) S.len PySem.boot_len (pa_cons (pv 0) pa_nil)) pe_int (nomark _)))).pt (pss_one (ps_ret (pe_bl))) pss_nil)
      (pss_cons (ps_asg (pv 0) (pg_tup rfl (pgs_cons (pg_name (i := 2) scChA.nd rfl (.inl rfl)) (pgs_cons (pg_name (i := 3) scChA.nd rfl (.inl rfl)) pgs_nil))))
      (pss_cons (ps_if (pw_or (pt_not (pt_val (pe_call GI hr (by rfl) AI.g AI.F.kp AI.b .nil pass0 (pa_cons (pv 2) pa_nil)))) (pw_or1 (pt_not (pt_val (pe_call GI hr (by rfl) AI.g AI.F.kp AI.b .nil pass0 (pa_cons (pv 3) pa_nil)))))).pt (pss_one (ps_ret pe_bl)) pss_nil)
      (pss_cons (ps_if (pt_cmpR op_eq (pv 1) pe_str (nomark _)) (pss_one (ps_ret pe_bl)) pss_nil)
      (pss_cons (ps_if (pt_cmpR op_gt (pv 2) pe_int (nomark _)) (pss_one (ps_ret pe_bl)) pss_nil)
      (pss_cons (ps_if (pt_cmpR op_eq (pv 1) pe_str (nomark _)) (pss_one (ps_ret (pe_cmpR op_eq (pv 3) (pe_un un_neg (pv 2)) (nomark _)))) pss_nil)
      (pss_cons (ps_if (pt_cmpR op_eq (pv 1) pe_str (nomark _)) (pss_one (ps_ret (pe_cmpR op_eq (pv 3) pe_int (nomark _)))) pss_nil)
      (pss_one (ps_ret (pe_cmpR op_ge (pv 3) pe_int (nomark _)))))))))), ?_⟩
    refine ⟨_, rfl, _, _, _, _, isTup d, rfl, .ty _, ty_sh sh (Same.refl H), kit_tup d, _, rfl, ?_⟩
    cases ht : isTup d with
    | false =>
      rw [(isTup_no ht m [] []).1] at q
      exact iteT q
    | true =>
    obtain ⟨ds, rfl⟩ := tup_of ht
    refine iteF ?_
    obtain ⟨b, xs, rfl, hb, t⟩ := sh_tup sh
    have lx := t.length
    refine ⟨_, rfl, b, _, rfl, .inr (SqT.of hb), rfl, _, rfl, ?_⟩
    by_cases h2 : ds.length = 2
    rotate_left
    · rw [chgB_ne h2] at q
      rw [show (!decide (V.int (xs.length : Nat) = V.int 2)) = true by
        rw [lx, decide_eq_false fun z => h2 (by have := V.int.inj z; omega)]
        rfl]
      exact iteT q
    obtain ⟨d1, d2, rfl⟩ := len2 h2
    obtain ⟨x, y, rfl, s1, s2⟩ := t.two
    refine iteF ?_
    refine ⟨_, rfl, b, _, rfl, SqT.of hb, rfl, _, _, rfl, _, _, rfl, rfl, ?_⟩
    refine ⟨_, rfl, x, _, rfl, intOr_sh s1 (Same.refl H), _, rfl, ?_⟩
    cases e1 : GD.intD d1 with
    | none =>
      rw [chg_none1 e1] at q
      exact iteT q
    | some i =>
    obtain rfl := intD_some e1
    obtain rfl := sh_int s1
    refine iteF ⟨_, rfl, y, _, rfl, intOr_sh s2 (Same.refl H), _, rfl, ?_⟩
    cases e2 : GD.intD d2 with
    | none =>
      rw [chg_none2 e2] at q
      exact iteT q
    | some j =>
    obtain rfl := intD_some e2
    obtain rfl := sh_int s2
    have q : Q (.bl (mokB m (i, j))) H := q
    unfold mokB at q
    refine iteF ⟨_, rfl, rfl, _, rfl, ite2 (fun c => ?_) (fun c => ?_)⟩
    · have e : m = "free" := V.str.inj (of_decide_eq_true c)
      rw [if_pos e] at q
      exact q
    have n1 : ¬ m = "free" := fun z => c (decide_eq_true (congrArg V.str z))
    rw [if_neg n1] at q
    refine ⟨_, rfl, _, _, rfl, rfl, _, rfl, ?_⟩
    by_cases c0 : 0 < i
    · rw [decide_eq_true c0]
      rw [if_pos (show 0 < ((i, j) : Int × Int).1 from c0)] at q
      exact iteT q
    rw [decide_eq_false c0]
    rw [if_neg (show ¬ 0 < ((i, j) : Int × Int).1 from c0)] at q
    refine iteF ⟨_, rfl, rfl, _, rfl, ite2 (fun c2 => ?_) (fun c2 => ?_)⟩
    · have e : m = "clean" := V.str.inj (of_decide_eq_true c2)
      rw [if_pos e] at q
      refine ⟨_, rfl, _, rfl, _, rfl, rfl, ?_⟩
      rw [show decide (V.int j = V.int (-i)) = decide (j = -i) from decide_eq_decide.mpr ⟨fun e => V.int.inj e, fun e => by rw [e]⟩]
      exact q
    have n2 : ¬ m = "clean" := fun z => c2 (decide_eq_true (congrArg V.str z))
    rw [if_neg n2] at q
    refine ⟨_, rfl, rfl, _, rfl, ite2 (fun c3 => ?_) (fun c3 => ?_)⟩
    · have e : m = "spent" := V.str.inj (of_decide_eq_true c3)
      rw [if_pos e] at q
      refine ⟨_, rfl, rfl, ?_⟩
      rw [show decide (V.int j = V.int 0) = decide (j = 0) from decide_eq_decide.mpr ⟨fun e => V.int.inj e, fun e => by rw [e]⟩]
      exact q
    have n3 : ¬ m = "spent" := fun z => c3 (decide_eq_true (congrArg V.str z))
    rw [if_neg n3] at q
    exact ⟨_, rfl, _, _, rfl, rfl, q⟩
abbrev NSkA : List Str := ["value", "manners", "first", "changes", "change", "manner"]
theorem scSkA : FnScope NSkA ["value", "manners"] (defScope pIsStkA) := ⟨rfl, rfl, rfl, by decide +kernel, rfl, by decide +kernel, by decide +kernel⟩
theorem oka_isstk {f fI fC : Addr} {fd fdI fdC : FuncData} (F : Fun K "is_stock" "is_stock" pIsStkA f fd) (S : Forms1 mg) (nZ : mg "zip" = none) (AI : At K mg "is_integer" pIsInt ["value"] fI fdI) (AC : At K mg "is_change" pIsChgA ["value", "manner"] fC fdC) : FnOk P w K mg base CX0 3 f fd ["value", "manners"] spStkA := by
  have GI : FnOk P w K mg base CX0 1 fI fdI ["value"] (spIntA K) := oka_isint AI.F S
  have GC : FnOk P w K mg base CX0 2 fC fdC ["value", "manner"] spChgA := oka_ischg AC.F S AI
  refine F.ok scSkA (fun vs H Q E h => ?_) (fun cdv A outer s H vs Q E hr h => ?_)
  · obtain ⟨v, d, l, ms, rfl, _⟩ := h
    rfl
  · obtain ⟨v, d, l, ms, rfl, sh, hl, hl4, q⟩ := h
    have hr1 : Room 1 _ := hr.mono (by decide)
    refine ⟨_, pss_cons (ps_if (pw_or (pt_not (pt_val (pe_callB call_isi (by rfl) S.isi (by decide +kernel) (pa_cons (pv 0) (pa_cons (pe_bltn (v := .ty "tuple") (by rfl) S.tup PyProof.Rows.Boot.«tuple» rfl) pa_nil)))))
          (pw_or1 (pt_cmpR op_ne (pe_callB call_len_seq (by rfl) S.len PySem.boot_len (pa_cons (pv 0) pa_nil)) pe_int (nomark _)))).pt (pss_one (ps_ret (pe_bl))) pss_nil)
      (pss_cons (ps_asg (pv 0) (pg_tup rfl (pgs_cons (pg_name (i := 2) scSkA.nd rfl (.inl rfl)) (pgs_cons (pg_name (i := 3) scSkA.nd rfl (.inl rfl)) pgs_nil))))
      (pss_cons (ps_if (pw_or (pt_not (pt_val (pe_call GI hr1 (by rfl) AI.g AI.F.kp AI.b .nil pass0 (pa_cons (pv 2) pa_nil)))) (pw_or1 (pt_cmpR op_lt (pv 2) pe_int (nomark _)))).pt (pss_one (ps_ret pe_bl)) pss_nil)
      (pss_cons (ps_if (pw_or (pt_not (pt_val (pe_callB call_isi (by rfl) S.isi (by decide +kernel) (pa_cons (pv 3) (pa_cons (pe_bltn (v := .ty "tuple") (by rfl) S.tup PyProof.Rows.Boot.«tuple» rfl) pa_nil)))))
          (pw_or1 (pt_cmpR op_ne (pe_callB call_len_seq (by rfl) S.len PySem.boot_len (pa_cons (pv 3) pa_nil)) (pe_callB call_len_seq (by rfl) S.len PySem.boot_len (pa_cons (pv 1) pa_nil)) (nomark _)))).pt (pss_one (ps_ret (pe_bl))) pss_nil)
      (pss_one (ps_ret (pe_callB (cr_all rfl) (by rfl) S.all (by decide +kernel) (pa_cons (pe_lc (own := [("change", 4), ("manner", 5)]) (g := gTup K 2 (gCons (gName 4) (gCons (gName 5) gNil))) (tt := tYes) rfl scSkA.nd (RZ.pi_zipA (by rfl) nZ (pa_cons (pv 3) (pa_cons (pv 1) pa_nil))) (blkOk_by (N := NSkA) (sc := defScope pIsStkA) (by decide +kernel))
        (fun _ _ _ _ _ => pg_tup rfl (pgs_cons (pg_name (i := 4) scSkA.nd rfl (.inl rfl)) (pgs_cons (pg_name (i := 5) scSkA.nd rfl (.inl rfl)) pgs_nil))) (fun _ _ _ _ _ => pts_nil) (fun _ _ _ _ _ => pe_call GC hr (by rfl) AC.g AC.F.kp AC.b .nil pass0 (pa_cons (pv 4) (pa_cons (pv 5) pa_nil)))) pa_nil))))))), ?_⟩
    have q0 := q H (Same.refl H)
    refine ⟨_, rfl, _, _, _, _, isTup d, rfl, .ty _, ty_sh sh (Same.refl H), kit_tup d, _, rfl, ?_⟩
    cases ht : isTup d with
    | false =>
      rw [(isTup_no ht "" ms []).2.1] at q0
      exact iteT q0
    | true =>
    obtain ⟨ds, rfl⟩ := tup_of ht
    refine iteF ?_
    obtain ⟨b, xs, rfl, hb, t⟩ := sh_tup sh
    have lx := t.length
    refine ⟨_, rfl, b, _, rfl, .inr (SqT.of hb), rfl, _, rfl, ?_⟩
    by_cases h2 : ds.length = 2
    rotate_left
    · rw [stkB_ne h2] at q0
      rw [show (!decide (V.int (xs.length : Nat) = V.int 2)) = true by
        rw [lx, decide_eq_false fun z => h2 (by have := V.int.inj z; omega)]
        rfl]
      exact iteT q0
    obtain ⟨d1, d2, rfl⟩ := len2 h2
    obtain ⟨x, y, rfl, s1, s2⟩ := t.two
    refine iteF ?_
    refine ⟨_, rfl, b, _, rfl, SqT.of hb, rfl, _, _, rfl, _, _, rfl, rfl, ?_⟩
    refine ⟨_, rfl, x, _, rfl, intOr_sh s1 (Same.refl H), _, rfl, ?_⟩
    cases e1 : GD.intD d1 with
    | none =>
      rw [stkB_int e1] at q0
      exact iteT q0
    | some fi =>
    obtain rfl := intD_some e1
    obtain rfl := sh_int s1
    refine iteF ⟨_, rfl, _, _, rfl, rfl, _, rfl, ?_⟩
    cases ht2 : isTup d2 with
    | false =>
      rw [stkB_no ht2] at q0
      by_cases c0 : fi < 0
      · rw [decide_eq_true c0]
        exact iteT q0
      rw [decide_eq_false c0]
      refine iteF ⟨_, rfl, _, _, _, _, isTup d2, rfl, .ty _, ty_sh s2 (Same.refl H), kit_tup d2, _, rfl, ?_⟩
      rw [ht2]
      exact iteT q0
    | true =>
    obtain ⟨cs, rfl⟩ := tup_of ht2
    have eS : stkB ms (.tuple [.int fi, .tuple cs]) = (decide (0 ≤ fi) && (decide (cs.length = ms.length) && (List.zipWith (fun d m => chgB m d) cs ms).all id)) := rfl
    rw [eS] at q0
    by_cases c0 : fi < 0
    · rw [decide_eq_true c0]
      rw [decide_eq_false (show ¬ 0 ≤ fi by omega)] at q0
      exact iteT q0
    rw [decide_eq_false c0]
    refine iteF ⟨_, rfl, _, _, _, _, isTup (.tuple cs), rfl, .ty _, ty_sh s2 (Same.refl H), kit_tup (.tuple cs), _, rfl, iteF ?_⟩
    obtain ⟨ca, cx, rfl, hca, fc⟩ := sh_tup s2
    have lcx := fc.length
    have lm : (ms.map V.str).length = ms.length := List.length_map ..
    refine ⟨_, rfl, ca, _, rfl, .inr (SqT.of hca), _, rfl, l, _, rfl, .inr (SqT.of hl), rfl, _, rfl, ?_⟩
    rw [lcx, lm]
    by_cases c1 : cs.length = ms.length
    rotate_left
    · rw [show (!decide (V.int ((cs.length : Nat) : Int) = V.int ((ms.length : Nat) : Int))) = true by
        rw [decide_eq_false fun z => c1 (by have := V.int.inj z; omega)]
        rfl]
      rw [decide_eq_true (show 0 ≤ fi by omega), decide_eq_false c1] at q0
      exact iteT q0
    rw [show (!decide (V.int ((cs.length : Nat) : Int) = V.int ((ms.length : Nat) : Int))) = false by rw [c1]; simp]
    refine iteF ?_
    have q2 : ∀ H', Same H H' → Q (.bl ((List.zipWith (fun d m => chgB m d) cs ms).all id)) H' := fun H' s' => by
      have z := q H' s'
      rw [eS, decide_eq_true (show 0 ≤ fi by omega), decide_eq_true c1] at z
      exact z
    refine ⟨_, rfl, _, rfl, ca, l, cx, ms.map V.str, rfl, .inr ⟨SqT.of hca, SqT.of hl, fun D hD => ?_⟩⟩
    refine lc_it (walk_zipT (K := K) (a := ca) (b := l) (xs := cx) (ys := ms.map V.str) (n := ms.length) (by omega) (by omega)) (fun i H' => Same H H' ∧ H' D = some (.lst (((List.zipWith (fun d m => chgB m d) cs ms).take i).map V.bl))) ⟨same_new hD, upd_same⟩ (fun i H' _ ⟨s1, _⟩ => ⟨SqT.of (s1 _ _ hca), SqT.of (s1 _ _ hl)⟩) ?_ ?_
    · rintro i x H' H'' hi ⟨z1, eD⟩ ⟨T', u, v, rfl, hT, rfl, hu, hv⟩
      obtain ⟨c, hc, f1⟩ := fc.get hu
      have hv : (ms.map V.str)[i]? = some v := hv
      rw [List.getElem?_map] at hv
      cases e : ms[i]? with
      | none =>
        rw [e] at hv
        cases hv
      | some m =>
        rw [e] at hv
        obtain rfl : V.str m = v := Option.some.inj hv
        have sT := same_new (o := .tup [u, .str m]) hT
        have z2 := z1.trans sT
        refine ⟨T', _, rfl, SqT.of upd_same, rfl, _, _, rfl, _, _, rfl, rfl, rfl, ?_⟩
        refine ⟨_, rfl, _, rfl, u, c, m, rfl, f1.same z2, ?_⟩
        refine ⟨_, sT _ _ eD, ?_, same_upd z2 hD, ?_⟩
        · rw [List.length_map, List.length_take]
          exact Nat.lt_of_le_of_lt (Nat.min_le_left _ _) (Nat.lt_of_lt_of_le (show i < 10 by omega) (by decide))
        · rw [upd_same, GD.take_next (x := chgB m c) (by rw [List.getElem?_zipWith, hc, e]), List.map_append]
          rfl
    · rintro H' ⟨z1, eD⟩
      rw [List.take_of_length_le (by rw [List.length_zipWith]; omega)] at eD
      exact ⟨D, _, rfl, SqL.of eD, q2 H' z1⟩
abbrev NPt : List Str := ["value", "facts", "kind", "number", "times"]
theorem scPt : FnScope NPt ["value", "facts", "kind"] (defScope pIsPart) := ⟨rfl, rfl, rfl, by decide +kernel, rfl, by decide +kernel, by decide +kernel⟩
theorem oka_ispart {f fI fN : Addr} {fd fdI fdN : FuncData} (F : Fun K "is_part" "is_part" pIsPart f fd) (S : Forms1 mg) (AI : At K mg "is_integer" pIsInt ["value"] fI fdI) (AN : At K mg "is_number" pIsNumb ["value", "many"] fN fdN) : FnOk P w K mg base CX0 3 f fd ["value", "facts", "kind"] spPartA := by
  have GI : FnOk P w K mg base CX0 1 fI fdI ["value"] (spIntA K) := oka_isint AI.F S
  have GN : FnOk P w K mg base CX0 2 fN fdN ["value", "many"] (spNumbA K) := oka_isnumb AN.F S AI
  refine F.ok scPt (fun vs H Q E h => ?_) (fun cdv A outer s H vs Q E hr h => ?_)
  · obtain ⟨v, x, d, fs, k, rfl, _⟩ := h
    rfl
  · obtain ⟨v, x, d, fs, k, rfl, sh, fx, h60, q⟩ := h
    have hr1 : Room 1 _ := hr.mono (by decide)
    refine ⟨_, pss_cons (ps_if (pw_or (pt_not (pt_val (pe_callB call_isi (by rfl) S.isi (by decide +kernel) (pa_cons (pv 0) (pa_cons (pe_bltn (v := .ty "tuple") (by rfl) S.tup PyProof.Rows.Boot.«tuple» rfl) pa_nil)))))
          (pw_or1 (pt_cmpR op_ne (pe_callB call_len_seq (by rfl) S.len PySem.boot_len (pa_cons (pv 0) pa_nil)) pe_int (nomark _)))).pt (pss_one (ps_ret (pe_bl))) pss_nil)
      (pss_cons (ps_asg (pv 0) (pg_tup rfl (pgs_cons (pg_name (i := 3) scPt.nd rfl (.inl rfl)) (pgs_cons (pg_name (i := 4) scPt.nd rfl (.inl rfl)) pgs_nil))))
      (pss_cons (ps_if (pw_or (pt_not (pt_val (pe_call GN hr (by rfl) AN.g AN.F.kp AN.b .nil pass0 (pa_cons (pv 3) (pa_cons (pe_callB call_len_seq (by rfl) S.len PySem.boot_len (pa_cons (pv 1) pa_nil)) pa_nil)))))
          (pw_or (pt_cmpR op_ne (pe_ix ix_tup (pe_ix ix_tup (pv 1) (pv 3) (fun _ _ => rfl)) pe_int (fun _ _ => rfl)) (pv 2) (nomark _)) (pw_or1 (pt_not (pt_val (pe_call GI hr1 (by rfl) AI.g AI.F.kp AI.b .nil pass0 (pa_cons (pv 4) pa_nil))))))).pt (pss_one (ps_ret pe_bl)) pss_nil)
      (pss_one (ps_ret (pe_or (pe_cmpR op_gt (pv 4) pe_int (nomark _)) (pe_one (pe_and (pe_cmpR op_eq (pv 2) pe_str (nomark _)) (pe_one (pe_cmpR op_lt (pv 4) pe_int (nomark _)))))))))), ?_⟩
    refine ⟨_, rfl, _, _, _, _, isTup d, rfl, .ty _, ty_sh sh (Same.refl H), kit_tup d, _, rfl, ?_⟩
    cases ht : isTup d with
    | false =>
      rw [(isTup_no ht k [] fs).2.2.1] at q
      exact iteT q
    | true =>
    obtain ⟨ds, rfl⟩ := tup_of ht
    refine iteF ?_
    obtain ⟨b, xs, rfl, hb, t⟩ := sh_tup sh
    have lx := t.length
    refine ⟨_, rfl, b, _, rfl, .inr (SqT.of hb), rfl, _, rfl, ?_⟩
    by_cases h2 : ds.length = 2
    rotate_left
    · rw [partB_ne h2] at q
      rw [show (!decide (V.int (xs.length : Nat) = V.int 2)) = true by
        rw [lx, decide_eq_false fun z => h2 (by have := V.int.inj z; omega)]
        rfl]
      exact iteT q
    obtain ⟨d1, d2, rfl⟩ := len2 h2
    obtain ⟨x1, y1, rfl, s1, s2⟩ := t.two
    obtain ⟨xa, xv, rfl, hxa, fxa⟩ := fx.t
    have lxv : xv.length = fs.length := by rw [fxa.len, List.length_map]
    refine iteF ?_
    refine ⟨_, rfl, b, _, rfl, SqT.of hb, rfl, _, _, rfl, _, _, rfl, rfl, ?_⟩
    refine ⟨_, rfl, _, rfl, xa, _, rfl, .inr (SqT.of hxa), x1, _, _, rfl, intOr_sh s1 (Same.refl H), _, rfl, ?_⟩
    cases e1 : GD.intD d1 with
    | none =>
      rw [part_none1 e1] at q
      exact iteT q
    | some n =>
    obtain rfl := intD_some e1
    obtain rfl := sh_int s1
    rw [show inR (some n) ((xv.length : Nat) : Int) = decide (0 ≤ n ∧ n < (fs.length : Nat)) by rw [lxv]; rfl]
    by_cases c0 : 0 ≤ n ∧ n < (fs.length : Nat)
    rotate_left
    · rw [decide_eq_false c0]
      have e : partB fs k (.tuple [.int n, d2]) = false := by
        rw [partB_two]
        cases GD.intD d2 with
        | none => rfl
        | some t =>
          show partOk fs k n t = false
          unfold partOk
          rw [decide_eq_false c0]
          rfl
      rw [e] at q
      exact iteT q
    rw [decide_eq_true c0]
    obtain ⟨i, rfl⟩ := Int.eq_ofNat_of_zero_le c0.1
    have hi : i < fs.length := by omega
    obtain ⟨u, hu, fu⟩ := fxa.getM (i := i) (j := fs[i]) (List.getElem?_eq_getElem hi)
    obtain ⟨ub, ur, rfl, hub⟩ := fu.fact
    have eg : fs.getD ((i : Int)).toNat dF = fs[i] := by
      rw [Int.toNat_natCast, List.getD_eq_getElem?_getD, List.getElem?_eq_getElem hi]
      rfl
    refine iteF ⟨_, rfl, _, rfl, xa, _, (i : Nat), _, rfl, rfl, SqT.of hxa, atI_nat hu, ub, _, 0, _, rfl, rfl, SqT.of hub, at0, _, rfl, rfl, _, rfl, ?_⟩
    by_cases c1 : kindS fs[i] = k
    rotate_left
    · rw [show (!decide (V.str (kindS fs[i]) = V.str k)) = true by rw [decide_eq_false fun z => c1 (V.str.inj z)]; rfl]
      have e : partB fs k (.tuple [.int (i : Nat), d2]) = false := by
        rw [partB_two]
        cases GD.intD d2 with
        | none => rfl
        | some t =>
          show partOk fs k (i : Nat) t = false
          unfold partOk
          rw [eg, decide_eq_false c1, Bool.false_and, Bool.and_false]
      rw [e] at q
      exact iteT q
    rw [show (!decide (V.str (kindS fs[i]) = V.str k)) = false by rw [c1]; simp]
    refine iteF ⟨_, rfl, y1, _, rfl, intOr_sh s2 (Same.refl H), _, rfl, ?_⟩
    cases e2 : GD.intD d2 with
    | none =>
      rw [part_none2 e2] at q
      exact iteT q
    | some tm =>
    obtain rfl := intD_some e2
    obtain rfl := sh_int s2
    have e : partB fs k (.tuple [.int (i : Nat), .int tm]) = (decide (0 < tm) || (decide (k = "as") && decide (tm < 0))) := by
      show partOk fs k (i : Nat) tm = _
      unfold partOk
      rw [eg, decide_eq_true c0, decide_eq_true c1]
      rfl
    rw [e] at q
    refine iteF ⟨_, rfl, _, _, rfl, rfl, _, rfl, ?_⟩
    by_cases c2 : 0 < tm
    · rw [decide_eq_true c2] at q ⊢
      exact iteT q
    rw [decide_eq_false c2] at q ⊢
    refine iteF ⟨_, rfl, rfl, _, rfl, ?_⟩
    by_cases c3 : k = "as"
    · rw [show decide (V.str k = V.str "as") = true from decide_eq_true (by rw [c3])]
      rw [decide_eq_true c3] at q
      exact iteT ⟨_, rfl, _, _, rfl, rfl, q⟩
    · rw [show decide (V.str k = V.str "as") = false from decide_eq_false fun z => c3 (V.str.inj z)]
      rw [decide_eq_false c3] at q
      exact iteF q
end
end K73
namespace GD
open PySem PySem.Spec PyProof.Rows L2 GM
theorem shape_intL (xs : List Int) : SeqAt.shaped (.list (xs.map PyData.int)) = true := by
  refine shape_of ?_ ?_
  · rw [PyData.canLay0]
    exact can_all fun d hd => by
      obtain ⟨i, _, e⟩ := List.mem_map.mp hd
      rw [← e]
      simp [PyData.canLay0]
  · rw [PyData.depth]
    have z := depth_all (n := 1) (ds := xs.map PyData.int) fun d hd => by
      obtain ⟨i, _, e⟩ := List.mem_map.mp hd
      rw [← e]
      simp [PyData.depth]
    omega
theorem fz_ints {H : Hp} : ∀ ns : List Int, FzAll H (ns.map V.int) (ns.map PyData.int)
  | [] => .nil
  | n :: ns => .cons (.int n) (fz_ints ns)
theorem num_of {fs : List Fact} {k : Str} {d : PyData} (h : partB fs k d = true) : ∃ n e, d = .tuple [.int n, e] ∧ numD d = n := by
  obtain ⟨p, rfl, _⟩ := partB_of h
  exact ⟨p.1, .int p.2, rfl, rfl⟩
end GD
namespace K73
open PySem PySem.Spec PyProof.Rows L2 GD GM
section
variable {P : Program} {w : World} {K : PySem.W.Frag} {mg : Str → Option Value} {base : Heap}
abbrev NPs : List Str := ["value", "facts", "kind", "numbers", "part", "number", "_"]
theorem scPs : FnScope NPs ["value", "facts", "kind"] (defScope pIsParts) := ⟨rfl, rfl, rfl, by decide +kernel, rfl, by decide +kernel, by decide +kernel⟩
theorem oka_isparts {f fP fI fN : Addr} {fd fdP fdI fdN : FuncData} (F : Fun K "is_parts" "is_parts" pIsParts f fd) (S : Forms1 mg) (nSo : mg "sorted" = none) (nSe : mg "set" = none) (AP : At K mg "is_part" pIsPart ["value", "facts", "kind"] fP fdP) (AI : At K mg "is_integer" pIsInt ["value"] fI fdI) (AN : At K mg "is_number" pIsNumb ["value", "many"] fN fdN) :
    FnOk P w K mg base CX0 4 f fd ["value", "facts", "kind"] spPartsA := by
  have GP : FnOk P w K mg base CX0 3 fP fdP ["value", "facts", "kind"] spPartA := oka_ispart AP.F S AI AN
  refine F.ok scPs (fun vs H Q E h => ?_) (fun cdv A outer s H vs Q E hr h => ?_)
  · obtain ⟨v, x, d, fs, k, rfl, _⟩ := h
    rfl
  · obtain ⟨v, x, d, fs, k, rfl, sh, hsh, fx, h60, q⟩ := h
    refine ⟨_, pss_cons (ps_if (pw_or (pt_not (pt_val (pe_callB call_isi (by rfl) S.isi (by decide +kernel) (pa_cons (pv 0) (pa_cons (pe_bltn (v := .ty "tuple") (by rfl) S.tup PyProof.Rows.Boot.«tuple» rfl) pa_nil)))))
          (pw_or1 (pt_not (pt_val (pe_callB (cr_all rfl) (by rfl) S.all (by decide +kernel) (pa_cons (pe_lc (own := [("part", 4)]) (g := gName 4) (tt := tYes) rfl scPs.nd (pi_tup (pv 0)) (blkOk_by (N := NPs) (sc := defScope pIsParts) (by decide +kernel))
            (fun _ _ _ _ _ => pg_name (i := 4) scPs.nd rfl (.inl rfl)) (fun _ _ _ _ _ => pts_nil) (fun _ _ _ _ _ => pe_call GP hr (by rfl) AP.g AP.F.kp AP.b .nil pass0 (pa_cons (pv 4) (pa_cons (pv 1) (pa_cons (pv 2) pa_nil))))) pa_nil)))))).pt (pss_one (ps_ret (pe_bl))) pss_nil)
      (pss_cons (ps_setLc (i := 3) (own := [("number", 5), ("_", 6)]) (g := gTup K 2 (gCons (gName 5) (gCons (gName 6) gNil))) (tt := tYes) rfl scPs.nd rfl rfl (sw_true rfl rfl rfl (by decide +kernel)) (pi_tup (pv 0)) (blkOk_by (N := NPs) (sc := defScope pIsParts) (by decide +kernel))
          (fun _ _ _ _ _ => pg_tup rfl (pgs_cons (pg_name (i := 5) scPs.nd rfl (.inl rfl)) (pgs_cons (pg_name (i := 6) scPs.nd rfl (.inl rfl)) pgs_nil))) (fun _ _ _ _ _ => pts_nil) (fun _ _ _ _ _ => pv 5))
      (pss_one (ps_ret (pe_cmpR (op_eqD hr.units) (pv 3) (pe_callB (cr_sortedSet rfl) (by rfl) nSo (by decide +kernel) (pa_cons (pe_callTy (cr_setI rfl) (by rfl) nSe (by decide +kernel) (pa_cons (pv 3) pa_nil)) pa_nil)) (nomark _))))), ?_⟩
    have q0 := q H (Same.refl H)
    refine ⟨_, rfl, _, _, _, _, isTup d, rfl, .ty _, ty_sh sh (Same.refl H), kit_tup d, _, rfl, ?_⟩
    cases ht : isTup d with
    | false =>
      rw [(isTup_no ht k [] fs).2.2.2] at q0
      exact iteT q0
    | true =>
    obtain ⟨ds, rfl⟩ := tup_of ht
    refine iteF ?_
    obtain ⟨b, xs, rfl, hb, t⟩ := sh_tup sh
    have lx := t.length
    have l60 := hsh.t.1
    have eP0 : partsB fs k (.tuple ds) = (ds.all (partB fs k) && decide ((ds.map numD).Pairwise (· < ·))) := rfl
    refine ⟨_, rfl, b, rfl, ⟨_, SqT.of hb⟩, fun D hD => ?_⟩
    refine lc_tup (K := K) (a := b) (xs := xs) (fun i H' => Same H H' ∧ H' D = some (.lst (((ds.take i).map (partB fs k)).map V.bl))) ⟨same_new hD, upd_same⟩ (fun i H' _ ⟨z, _⟩ => SqT.of (z _ _ hb)) ?_ ?_
    · rintro i v H' hx ⟨z, eD⟩
      obtain ⟨e, h1, s1⟩ := t.get hx
      have hi : i < ds.length := (List.getElem?_eq_some_iff.mp h1).1
      refine ⟨rfl, _, rfl, _, rfl, _, rfl, v, x, e, fs, k, rfl, s1.same z, fx.same z, h60, ?_⟩
      refine ⟨_, eD, ?_, same_upd z hD, ?_⟩
      · rw [List.length_map, List.length_map, List.length_take]
        exact Nat.lt_of_le_of_lt (Nat.min_le_left _ _) (Nat.lt_of_lt_of_le (show i < 61 by omega) (by decide))
      · rw [upd_same, GD.take_next h1, List.map_append, List.map_append]
        rfl
    rintro H1 ⟨z1, eD⟩
    refine ⟨D, _, rfl, SqL.of eD, _, rfl, ?_⟩
    rw [lx, List.take_length, List.all_map]
    have q1 := q H1 z1
    rw [eP0] at q1
    cases ca : ds.all (partB fs k) with
    | false =>
      rw [show ds.all (id ∘ partB fs k) = false from ca]
      rw [ca] at q1
      exact iteT q1
    | true =>
    rw [show ds.all (id ∘ partB fs k) = true from ca]
    refine iteF ?_
    have key := List.all_eq_true.mp ca
    have q2 : ∀ H', Same H H' → Q (.bl (decide ((ds.map numD).Pairwise (· < ·)))) H' := fun H' s' => by
      have z := q H' s'
      rw [eP0, ca] at z
      exact z
    refine ⟨_, rfl, b, rfl, ⟨_, SqT.of (z1 _ _ hb)⟩, fun D2 hD2 => ?_⟩
    refine lc_tup (K := K) (a := b) (xs := xs) (fun i H' => Same H1 H' ∧ H' D2 = some (.lst (((ds.take i).map numD).map V.int))) ⟨same_new hD2, upd_same⟩ (fun i H' _ ⟨z, _⟩ => SqT.of (z _ _ (z1 _ _ hb))) ?_ ?_
    · rintro i v H' hx ⟨z, eD2⟩
      obtain ⟨e, h1, s1⟩ := t.get hx
      have hi : i < ds.length := (List.getElem?_eq_some_iff.mp h1).1
      obtain ⟨n, e2, rfl, en⟩ := num_of (key e (List.mem_of_getElem? h1))
      obtain ⟨b2, ys, rfl, hb2, t2⟩ := sh_tup s1
      obtain ⟨u1, u2, rfl, g1, g2⟩ := t2.two
      obtain rfl := sh_int g1
      refine ⟨b2, _, rfl, SqT.of (z _ _ (z1 _ _ hb2)), rfl, _, _, rfl, _, _, rfl, rfl, rfl, ?_⟩
      refine ⟨_, rfl, _, eD2, ?_, same_upd z hD2, ?_⟩
      · rw [List.length_map, List.length_map, List.length_take]
        exact Nat.lt_of_le_of_lt (Nat.min_le_left _ _) (Nat.lt_of_lt_of_le (show i < 61 by omega) (by decide))
      · rw [upd_same, GD.take_next h1, List.map_append, List.map_append, ← en]
        rfl
    rintro H2 ⟨z2, eD2⟩
    rw [lx, List.take_length] at eD2
    refine ⟨_, rfl, _, rfl, D2, ds.map numD, rfl, SqL.of eD2, by rw [List.length_map]; omega, fun a n na hn => ?_⟩
    have s3 := same_new (o := SetO w a (fun k => decide (k ∈ ds.map numD)) n) na
    have e3 : (upd H2 a (SetO w a (fun k => decide (k ∈ ds.map numD)) n)) a = some (SetO w a (fun k => decide (k ∈ ds.map numD)) n) := upd_same
    refine ⟨a, _, n, rfl, e3, by rw [List.length_map] at hn; omega, fun ns p asc mem len np => ?_⟩
    have s4 := same_new (o := .lst (ns.map V.int)) np
    have sA := s3.trans s4
    refine ⟨.list ((ds.map numD).map PyData.int), .list (ns.map PyData.int), LstAt.dp ⟨_, sA _ _ eD2, fz_ints _⟩, LstAt.dp ⟨_, upd_same, fz_ints _⟩, shape_intL _, shape_intL _, ?_⟩
    rw [eqv_ints]
    have e : decide (ds.map numD = ns) = decide ((ds.map numD).Pairwise (· < ·)) := by
      rw [decide_eq_decide]
      refine ⟨fun e => by rw [e]; exact asc, fun h => asc_same h asc fun k => ?_⟩
      rw [mem k, decide_eq_true_iff]
    rw [e]
    exact q2 _ (z1.trans (z2.trans sA))
theorem scAp : FnScope ["weights", "backs", "facts"] ["weights", "backs", "facts"] (defScope pAreParts) := ⟨rfl, rfl, rfl, by decide +kernel, rfl, by decide +kernel, by decide +kernel⟩
theorem oka_areparts {f fS : Addr} {fd fdS : FuncData} (F : Fun K "are_parts" "are_parts" pAreParts f fd) (gS : mg "is_parts" = some (.ref fS)) (bS : Binds K fdS ["value", "facts", "kind"] []) (kS : PySem.W.keepIn K (.ref fS) = true) (GS : FnOk P w K mg base CX0 4 fS fdS ["value", "facts", "kind"] spPartsA) :
    FnOk P w K mg base CX0 5 f fd ["weights", "backs", "facts"] spBothA := by
  refine F.ok scAp (fun vs H Q E h => ?_) (fun cdv A outer s H vs Q E hr h => ?_)
  · obtain ⟨v, u, x, d, e, fs, rfl, _⟩ := h
    rfl
  · obtain ⟨v, u, x, d, e, fs, rfl, s1, s2, h1, h2, fx, h60, q⟩ := h
    refine ⟨_, pss_one (ps_ret (pe_and (pe_call GS hr (by rfl) gS kS bS .nil pass0 (pa_cons (pv 0) (pa_cons (pv 2) (pa_cons pe_str pa_nil))))
      (pe_one (pe_call GS hr (by rfl) gS kS bS .nil pass0 (pa_cons (pv 1) (pa_cons (pv 2) (pa_cons pe_str pa_nil))))))), ?_⟩
    refine ⟨_, rfl, _, rfl, ?_⟩
    dsimp only [tNil]
    refine ⟨v, x, d, fs, "let", rfl, s1, h1, fx, h60, fun H1 z1 => ⟨_, rfl, ?_⟩⟩
    cases c : partsB fs "let" d with
    | false =>
      refine iteF ?_
      have z := q H1 z1
      rw [c] at z
      exact z
    | true =>
      refine iteT ⟨_, rfl, _, rfl, ?_⟩
      dsimp only [tNil]
      refine ⟨u, x, e, fs, "as", rfl, s2.same z1, h2, fx.same z1, h60, fun H2 z2 => ?_⟩
      have z := q H2 (z1.trans z2)
      rw [c] at z
      exact z
end
end K73
namespace GD
open PySem PySem.Spec PyProof.Rows L2 GM
def spBelow1 : Sp := fun vs H Q _ => ∃ (l : Addr) (x y : V) (st : Stk) (s : Stn), vs = [.ref l, y] ∧ H l = some (.lst [x]) ∧ Fz H x (eK st) ∧ Fz H y (eS s) ∧ st.2.length = s.length ∧ s.length ≤ 10 ∧ Small s ∧
  ∀ v H', Same H H' → Fz H' v (.tuple (if levelS st s < 0 then [.int 0] else [])) → Q v H'
def spSo1 : Sp := fun vs H Q _ => ∃ (l : Addr) (x y : V) (st : Stk) (f : Fact) (k : Nat), vs = [.ref l, y] ∧ H l = some (.lst [x]) ∧ Fz H x (eK st) ∧ Fz H y (eF f) ∧ st.2.length = k ∧ k ≤ 10 ∧ FLen k f ∧ FSmall f ∧ kindS f ≠ "not" ∧
  ∀ H', Same H H' → Q (.bl (keepF st f)) H'
def spKeepsP : Sp := fun vs H Q _ => ∃ (x y : V) (st : Stk) (fs : List Fact) (k : Nat), vs = [x, y] ∧ Fz H x (eK st) ∧ Fz H y (.tuple (fs.map eF)) ∧ st.2.length = k ∧ k ≤ 10 ∧ (∀ f ∈ fs, FLen k f ∧ FSmall f) ∧ fs.length ≤ 60 ∧
  ∀ H', Same H H' → Q (.bl (keepsB fs st)) H'
end GD
namespace K73
open PySem PySem.Spec PyProof.Rows L2 GD GM
abbrev pLevAt : Stmt := top 42
abbrev pBelow1 : Stmt := top 43
abbrev pKeeps : Stmt := top 44
abbrev pIsSo1 : Stmt := top 45
section
variable {P : Program} {w : World} {K : PySem.W.Frag} {mg : Str → Option Value} {base : Heap}
theorem scLa1 : FnScope ["stock", "pairs", "level", "changes", "change", "pair"] ["stock", "pairs"] (defScope pLevAt) := ⟨rfl, rfl, rfl, by decide +kernel, rfl, by decide +kernel, by decide +kernel⟩
theorem ok_levat {f : Addr} {fd : FuncData} (F : Fun K "level_at" "level_at" pLevAt f fd) (nZ : mg "zip" = none) : FnOk P w K mg base CX0 1 f fd ["stock", "pairs"] (spLevel K) := by
  refine F.ok scLa1 (fun vs H Q E h => ?_) (fun cdv A outer s H vs Q E hr h => ?_)
  · obtain ⟨x, y, st, sn, rfl, _⟩ := h
    rfl
  · obtain ⟨x, y, st, sn, rfl, fx, fy, hl, hl10, hsm, k⟩ := h
    refine ⟨_, pss_cons (ps_asg (pv 0) (pg_tup rfl (pgs_cons (pg_name (i := 2) scLa1.nd rfl (.inl rfl)) (pgs_cons (pg_name (i := 3) scLa1.nd rfl (.inl rfl)) pgs_nil))))
      (pss_cons (ps_for PassesOwn.never rfl (RZ.pi_zipA (by rfl) nZ (pa_cons (pv 3) (pa_cons (pv 1) pa_nil))) (pg_tup rfl (pgs_cons (pg_name (i := 4) scLa1.nd rfl (.inl rfl)) (pgs_cons (pg_name (i := 5) scLa1.nd rfl (.inl rfl)) pgs_nil)))
        (pss_one (ps_set (i := 2) scLa1.nd rfl (.inl rfl) (pe_op op_add (pe_op op_add (pv 2) (pe_op op_mul (pe_ix ix_tup (pv 4) pe_int (fun _ _ => rfl)) (pe_ix ix_tup (pv 5) pe_int (fun _ _ => rfl)))) (pe_op op_mul (pe_ix ix_tup (pv 4) pe_int (fun _ _ => rfl)) (pe_ix ix_tup (pv 5) pe_int (fun _ _ => rfl)))))))
      (pss_one (ps_ret (pv 2)))), ?_⟩
    obtain ⟨sa, z1, z2, rfl, hsa, g1, g2⟩ := fx.t2
    obtain rfl := g1.i
    obtain ⟨ca, cx, rfl, hca, fc⟩ := g2.t
    obtain ⟨ya, yx, rfl, hya, fs⟩ := fy.t
    have lx : cx.length = st.2.length := by rw [fc.len, List.length_map]
    have ly : yx.length = sn.length := by rw [fs.len, List.length_map]
    refine ⟨_, rfl, sa, _, rfl, SqT.of hsa, rfl, _, _, rfl, _, _, rfl, rfl, ?_⟩
    refine ⟨_, rfl, _, rfl, ca, ya, cx, yx, rfl, .inr ⟨SqT.of hca, SqT.of hya, ?_⟩⟩
    refine for_it (walk_zipT (K := K) (a := ca) (b := ya) (xs := cx) (ys := yx) (n := sn.length) (by omega) (by omega)) (fun i σ H' => ∃ x4 x5 : Option V, σ = [some (.ref sa), some (.ref ya), some (.int (st.1 + ((List.zipWith (fun c p => p.1 * c.1 + p.2 * c.2) st.2 sn).take i).sum)), some (.ref ca), x4, x5] ∧ Same H H')
      ⟨none, none, by rw [List.take_zero, List.sum_nil, Int.add_zero]; rfl, Same.refl H⟩ (fun i σ H' _ ⟨_, _, _, z⟩ => ⟨SqT.of (z _ _ hca), SqT.of (z _ _ hya)⟩) ?_ ?_
    · rintro i x σ H' H'' hi ⟨x4, x5, rfl, z⟩ ⟨T', u, v, rfl, hT, rfl, hu, hv⟩
      obtain ⟨c, hc, f1⟩ := fc.atM hu
      obtain ⟨p, hp, f2⟩ := fs.atM hv
      obtain ⟨b1, u1, u2, rfl, hb1, i1, i2⟩ := f1.t2
      obtain ⟨b2, v1, v2, rfl, hb2, i3, i4⟩ := f2.t2
      obtain rfl := i1.i
      obtain rfl := i2.i
      obtain rfl := i3.i
      obtain rfl := i4.i
      have sT := same_new (o := .tup [.ref b1, .ref b2]) hT
      have e1 := sT _ _ (z _ _ hb1)
      have e2 := sT _ _ (z _ _ hb2)
      obtain ⟨q1, q2, q3, q4⟩ := hsm p (List.mem_of_getElem? hp)
      refine ⟨T', _, rfl, SqT.of upd_same, rfl, _, _, rfl, _, _, rfl, rfl, ?_⟩
      refine ⟨_, rfl, _, rfl, b1, _, 0, _, rfl, rfl, SqT.of e1, at0, _, rfl, b2, _, 0, _, rfl, rfl, SqT.of e2, at0, _, _, rfl, rfl, .inr ⟨by omega, by omega⟩, _, _, rfl, rfl, ?_⟩
      refine ⟨_, rfl, b1, _, 1, _, rfl, rfl, SqT.of e1, at1, _, rfl, b2, _, 1, _, rfl, rfl, SqT.of e2, at1, _, _, rfl, rfl, .inr ⟨by omega, by omega⟩, _, _, rfl, rfl, ?_⟩
      refine ⟨some (.ref b1), some (.ref b2), ?_, z.trans sT⟩
      rw [GD.take_next (x := p.1 * c.1 + p.2 * c.2) (by rw [List.getElem?_zipWith, hc, hp]), List.sum_append, List.sum_cons, List.sum_nil]
      show [some (V.ref sa), some (V.ref ya), some (V.int _), some (V.ref ca), _, _] = _
      congr 5
      rw [Int.mul_comm c.1 p.1, Int.mul_comm c.2 p.2]
      omega
    · rintro σ H' ⟨x4, x5, rfl, z⟩
      rw [List.take_of_length_le (by rw [List.length_zipWith]; omega)]
      exact ⟨_, rfl, k H' z⟩
abbrev NB1 : List Str := ["stocks", "standing", "number", "stock"]
theorem scB1 : FnScope NB1 ["stocks", "standing"] (defScope pBelow1) := ⟨rfl, rfl, rfl, by decide +kernel, rfl, by decide +kernel, by decide +kernel⟩
theorem ok_below1 {f fV : Addr} {fd fdV : FuncData} (F : Fun K "below" "below" pBelow1 f fd) (nT : mg "tuple" = none) (nE : mg "enumerate" = none) (nZ : mg "zip" = none) (AV : At K mg "level_at" pLevAt ["stock", "pairs"] fV fdV) : FnOk P w K mg base CX0 2 f fd ["stocks", "standing"] spBelow1 := by
  have GV : FnOk P w K mg base CX0 1 fV fdV ["stock", "pairs"] (spLevel K) := ok_levat AV.F nZ
  refine F.ok scB1 (fun vs H Q E h => ?_) (fun cdv A outer s H vs Q E hr h => ?_)
  · obtain ⟨l, x, y, st, sn, rfl, _⟩ := h
    rfl
  · obtain ⟨l, x, y, st, sn, rfl, hl, fx, fy, hst, hl10, hsm, k⟩ := h
    refine ⟨_, pss_one (ps_ret (pe_callTy call_tuple_of (by rfl) nT (by decide +kernel) (pa_cons (pe_lc (own := [("number", 2), ("stock", 3)]) (g := gTup K 2 (gCons (gName 2) (gCons (gName 3) gNil))) rfl scB1.nd (pi_enum (by rfl) nE (pa_cons (pv 0) pa_nil)) (blkOk_by (N := NB1) (sc := defScope pBelow1) (by decide +kernel))
      (fun _ _ _ _ _ => pg_tup rfl (pgs_cons (pg_name (i := 2) scB1.nd rfl (.inl rfl)) (pgs_cons (pg_name (i := 3) scB1.nd rfl (.inl rfl)) pgs_nil)))
      (fun _ _ _ _ _ => pts_one (pt_cmpR op_lt (pe_call GV hr (by rfl) AV.g AV.F.kp AV.b .nil pass0 (pa_cons (pv 3) (pa_cons (pv 1) pa_nil))) pe_int (nomark _))) (fun _ _ _ _ _ => pv 2)) pa_nil))), ?_⟩
    refine ⟨_, rfl, l, [x], rfl, SqL.of hl, fun D hD => ?_⟩
    refine lc_it (walk_enum (K := K) (a := l) (xs := [x])) (fun i H' => Same H H' ∧ H' D = some (.lst (if i = 0 then [] else if levelS st sn < 0 then [.int 0] else []))) ⟨same_new hD, upd_same⟩ (fun i H' _ ⟨z, _⟩ => SqL.of (z _ _ hl)) ?_ ?_
    · rintro i u H' H'' hi ⟨z, eD⟩ ⟨T', u1, v1, rfl, hT, rfl, hu, hv⟩
      have hi : i < 1 := hi
      obtain rfl : i = 0 := by omega
      obtain rfl : V.int ((0 : Nat) : Int) = u1 := Option.some.inj hu
      obtain rfl : x = v1 := Option.some.inj hv
      rw [if_pos rfl] at eD
      have sT := same_new (o := .tup [.int ((0 : Nat) : Int), x]) hT
      have z2 := z.trans sT
      refine ⟨T', _, rfl, SqT.of upd_same, rfl, _, _, rfl, _, _, rfl, rfl, ?_⟩
      refine ⟨rfl, _, rfl, _, rfl, x, y, st, sn, rfl, fx.same z2, fy.same z2, hst, hl10, hsm, fun H2 s2 => ⟨_, _, rfl, rfl, _, rfl, ?_⟩⟩
      have eD2 := s2 _ _ (sT _ _ eD)
      by_cases c : levelS st sn < 0
      · rw [decide_eq_true c]
        refine iteT ⟨_, rfl, _, eD2, (by decide), same_upd (z2.trans s2) hD, ?_⟩
        rw [upd_same, if_neg (by omega), if_pos c]
        rfl
      · rw [decide_eq_false c]
        refine iteF ⟨z2.trans s2, ?_⟩
        rw [eD2, if_neg (by omega), if_neg c]
    · rintro H1 ⟨z, eD⟩
      have eD : H1 D = some (.lst (if levelS st sn < 0 then [.int 0] else [])) := eD
      refine ⟨D, _, rfl, .inl ⟨SqL.of eD, fun m hm => ?_⟩⟩
      have s7 := same_new (o := .tup (if levelS st sn < 0 then [.int 0] else [])) hm
      refine k _ _ (z.trans s7) (.tup upd_same ?_)
      by_cases c : levelS st sn < 0
      · rw [if_pos c, if_pos c]
        exact .cons (.int 0) .nil
      · rw [if_neg c, if_neg c]
        exact .nil
abbrev NSo1 : List Str := ["stocks", "fact", "stock"]
theorem scSo1 : FnScope NSo1 ["stocks", "fact"] (defScope pIsSo1) := ⟨rfl, rfl, rfl, by decide +kernel, rfl, by decide +kernel, by decide +kernel⟩
theorem ok_isso1 {f fV fB : Addr} {fd fdV fdB : FuncData} (F : Fun K "is_so" "is_so" pIsSo1 f fd) (nA : mg "all" = none) (nT : mg "tuple" = none) (nE : mg "enumerate" = none) (nZ : mg "zip" = none) (AV : At K mg "level_at" pLevAt ["stock", "pairs"] fV fdV) (AB : At K mg "below" pBelow1 ["stocks", "standing"] fB fdB) :
    FnOk P w K mg base CX0 3 f fd ["stocks", "fact"] spSo1 := by
  have GV : FnOk P w K mg base CX0 1 fV fdV ["stock", "pairs"] (spLevel K) := ok_levat AV.F nZ
  have GB : FnOk P w K mg base CX0 2 fB fdB ["stocks", "standing"] spBelow1 := ok_below1 AB.F nT nE nZ AV
  refine F.ok scSo1 (fun vs H Q E h => ?_) (fun cdv A outer s H vs Q E hr h => ?_)
  · obtain ⟨l, x, y, st, f, k, rfl, _⟩ := h
    rfl
  · obtain ⟨l, x, y, st, f, n, rfl, hl, fx, fy, hst, hn, hf, hsm, hk, k⟩ := h
    have hr1 : Room 1 _ := hr.mono (by decide)
    refine ⟨_, pss_cons (ps_if (pt_cmpR op_eq (pe_ix ix_tup (pv 1) pe_int (fun _ _ => rfl)) pe_str (nomark _))
        (pss_one (ps_ret (pe_callB (cr_all rfl) (by rfl) nA (by decide +kernel) (pa_cons (pe_lc (own := [("stock", 2)]) (g := gName 2) (tt := tYes) rfl scSo1.nd (pi_list (pv 0)) (blkOk_by (N := NSo1) (sc := defScope pIsSo1) (by decide +kernel))
          (fun _ _ _ _ _ => pg_name (i := 2) scSo1.nd rfl (.inl rfl)) (fun _ _ _ _ _ => pts_nil) (fun _ _ _ _ _ => pe_cmpR op_eq (pe_call GV hr1 (by rfl) AV.g AV.F.kp AV.b .nil pass0 (pa_cons (pv 2) (pa_cons (te := tOp (rIxT K) (tVar 1) (tC (.int 1))) ?ix1 pa_nil)))
            (pe_call GV hr1 (by rfl) AV.g AV.F.kp AV.b .nil pass0 (pa_cons (pv 2) (pa_cons (te := tOp (rIxT K) (tVar 1) (tC (.int 2))) ?ix2 pa_nil))) (nomark _))) pa_nil)))) pss_nil)
      (pss_one (ps_ret (pe_cmpR op_eq (pe_cmpR op_eq (pe_ix ix_tup (pv 1) pe_int (fun _ _ => rfl)) pe_str (nomark _))
        (pe_cmpR (op_eqD hr.units) (pe_call GB hr (by rfl) AB.g AB.F.kp AB.b .nil pass0 (pa_cons (pv 0) (pa_cons (pe_ix ix_tup (pv 1) pe_int (fun _ _ => rfl)) pa_nil))) (pe_tup pa_nil) (nomark _)) (nomark _)))), ?rd⟩
    case ix1 => exact pe_ix ix_tup (pv 1) pe_int (fun _ _ => rfl)
    case ix2 => exact pe_ix ix_tup (pv 1) pe_int (fun _ _ => rfl)
    cases f with
    | let_ sn =>
      obtain ⟨b, x0, x1, rfl, eb, f0, fx1⟩ := fy.t2
      obtain rfl := f0.s
      refine ⟨_, rfl, b, _, 0, _, rfl, rfl, SqT.of eb, at0, rfl, _, rfl, ?_⟩
      rw [decide_eq_false (show ¬ V.str "let" = V.str "as" from fun z => by have z2 := V.str.inj z; revert z2; decide +kernel)]
      refine iteF ?_
      refine ⟨_, rfl, b, _, 0, _, rfl, rfl, SqT.of eb, at0, rfl, ?_⟩
      refine ⟨_, rfl, _, rfl, b, _, 1, _, rfl, rfl, SqT.of eb, at1, l, x, x1, st, sn, rfl, hl, fx, fx1, by rw [hst]; exact hf.symm, by rw [show sn.length = n from hf]; exact hn, hsm, fun v H' z fv => ?_⟩
      refine ⟨(by show 0 ≤ sizeLine; decide), fun t ht => ?_⟩
      refine ⟨.tuple (if levelS st sn < 0 then [.int 0] else []), .tuple [], (fv.same (same_new ht)).dp, (Fz.tup upd_same .nil).dp, ?_, by decide, ?_⟩
      · by_cases c : levelS st sn < 0
        · rw [if_pos c]
          decide
        · rw [if_neg c]
          decide
      have q := k _ (z.trans (same_new (o := .tup []) ht))
      refine ⟨rfl, ?_⟩
      have e : decide (V.bl (decide (V.str "let" = V.str "let")) = V.bl (PyData.eqv (.tuple (if levelS st sn < 0 then [.int 0] else [])) (.tuple []))) = keepF st (.let_ sn) := by
        rw [show decide (V.str "let" = V.str "let") = true by decide +kernel]
        show _ = decide (0 ≤ levelS st sn)
        by_cases c : levelS st sn < 0
        · rw [if_pos c, show PyData.eqv (.tuple [.int 0]) (.tuple []) = false by decide, decide_eq_false (show ¬ 0 ≤ levelS st sn by omega)]
          decide
        · rw [if_neg c, show PyData.eqv (.tuple []) (.tuple []) = true by decide, decide_eq_true (show 0 ≤ levelS st sn by omega)]
          decide
      rw [← e] at q
      exact q
    | not_ sn => exact absurd rfl hk
    | as_ sn tn =>
      obtain ⟨b, x0, x1, x2, rfl, eb, f0, fx1, fx2⟩ := fy.t3
      obtain rfl := f0.s
      obtain ⟨ln, ln2⟩ := hf
      refine ⟨_, rfl, b, _, 0, _, rfl, rfl, SqT.of eb, at0, rfl, _, rfl, iteT ?_⟩
      refine ⟨_, rfl, l, rfl, ⟨_, SqL.of hl⟩, fun D hD => ?_⟩
      refine lc_it (walk_list (K := K) (a := l) (xs := [x])) (fun i H' => Same H H' ∧ H' D = some (.lst (if i = 0 then [] else [V.bl (decide (levelS st sn = levelS st tn))]))) ⟨same_new hD, upd_same⟩ (fun i H' _ ⟨z, _⟩ => SqL.of (z _ _ hl)) ?_ ?_
      · rintro i v H' H'' hi ⟨z, eD⟩ ⟨rfl, hv⟩
        have hi : i < 1 := hi
        obtain rfl : i = 0 := by omega
        obtain rfl : x = v := Option.some.inj hv
        rw [if_pos rfl] at eD
        refine ⟨rfl, _, rfl, _, rfl, b, _, 1, _, rfl, rfl, SqT.of (z _ _ eb), at1, x, x1, st, sn, rfl, fx.same z, fx1.same z, by rw [hst, ln], by omega, hsm.1, fun H2 z2 => ?_⟩
        have z3 := z.trans z2
        refine ⟨_, rfl, _, rfl, b, _, 2, _, rfl, rfl, SqT.of (z3 _ _ eb), at2, x, x2, st, tn, rfl, fx.same z3, fx2.same z3, by rw [hst, ln2], by omega, hsm.2, fun H3 z4 => ?_⟩
        refine ⟨rfl, _, z4 _ _ (z2 _ _ eD), (by decide), same_upd (z3.trans z4) hD, ?_⟩
        rw [upd_same, if_neg (by omega), show decide (V.int (levelS st sn) = V.int (levelS st tn)) = decide (levelS st sn = levelS st tn) from decide_eq_decide.mpr ⟨fun e => V.int.inj e, fun e => by rw [e]⟩]
        rfl
      · rintro H' ⟨z, eD⟩
        have eD : H' D = some (.lst ([decide (levelS st sn = levelS st tn)].map V.bl)) := eD
        refine ⟨D, _, rfl, SqL.of eD, ?_⟩
        have q := k H' z
        rw [show keepF st (.as_ sn tn) = ([decide (levelS st sn = levelS st tn)]).all id by show decide (levelS st sn = levelS st tn) = (decide (levelS st sn = levelS st tn) && true); rw [Bool.and_true]] at q
        exact q
abbrev NKs : List Str := ["stock", "facts", "fact"]
theorem scKs : FnScope NKs ["stock", "facts"] (defScope pKeeps) := ⟨rfl, rfl, rfl, by decide +kernel, rfl, by decide +kernel, by decide +kernel⟩
theorem ok_keepsP {f fS : Addr} {fd fdS : FuncData} (F : Fun K "keeps" "keeps" pKeeps f fd) (nA : mg "all" = none) (gS : mg "is_so" = some (.ref fS)) (bS : Binds K fdS ["stocks", "fact"] []) (kS : PySem.W.keepIn K (.ref fS) = true) (GS : FnOk P w K mg base CX0 3 fS fdS ["stocks", "fact"] spSo1) :
    FnOk P w K mg base CX0 4 f fd ["stock", "facts"] spKeepsP := by
  refine F.ok scKs (fun vs H Q E h => ?_) (fun cdv A outer s H vs Q E hr h => ?_)
  · obtain ⟨x, y, st, fs, k, rfl, _⟩ := h
    rfl
  · obtain ⟨x, y, st, fs, k, rfl, fx, fy, hst, hk, hf, h60, q⟩ := h
    refine ⟨_, pss_one (ps_ret (pe_callB (cr_all rfl) (by rfl) nA (by decide +kernel) (pa_cons (pe_lc (own := [("fact", 2)]) (g := gName 2) (tt := tYes) rfl scKs.nd (pi_tup (pv 1)) (blkOk_by (N := NKs) (sc := defScope pKeeps) (by decide +kernel))
          (fun _ _ _ _ _ => pg_name (i := 2) scKs.nd rfl (.inl rfl)) (fun _ _ _ _ _ => pts_nil) (fun _ _ _ _ _ => pe_or (pe_cmpR op_eq (pe_ix (r := rIxT K) ix_tup (pv 2) pe_int (fun _ _ => rfl)) pe_str (nomark _))
            (pe_one (pe_call GS hr (by rfl) gS kS bS .nil pass0 (pa_cons (pe_lst (pa_cons (pv 0) pa_nil)) (pa_cons (pv 2) pa_nil)))))) pa_nil))), ?_⟩
    obtain ⟨ya, ys, rfl, hya, fys⟩ := fy.t
    have lys : ys.length = fs.length := by rw [fys.len, List.length_map]
    refine ⟨_, rfl, ya, rfl, ⟨_, SqT.of hya⟩, fun D hD => ?_⟩
    refine lc_tup (K := K) (a := ya) (xs := ys) (fun i H' => Same H H' ∧ H' D = some (.lst (((fs.take i).map (keepF st)).map V.bl))) ⟨same_new hD, upd_same⟩ (fun i H' _ ⟨z, _⟩ => SqT.of (z _ _ hya)) ?_ ?_
    · rintro i v H' hx ⟨z, eD⟩
      obtain ⟨ft, hft, fv⟩ := fys.atM hx
      have hi : i < fs.length := (List.getElem?_eq_some_iff.mp hft).1
      obtain ⟨f1, f2⟩ := hf ft (List.mem_of_getElem? hft)
      have fin : ∀ {H''}, Same H' H'' → H'' D = some (.lst (((fs.take i).map (keepF st)).map V.bl)) → ∃ acc, H'' D = some (.lst acc) ∧ acc.length < sizeLine ∧ (Same H (upd H'' D (.lst (acc ++ [V.bl (keepF st ft)]))) ∧ (upd H'' D (.lst (acc ++ [V.bl (keepF st ft)]))) D = some (.lst (((fs.take (i + 1)).map (keepF st)).map V.bl))) := fun s2 e2 => by
        refine ⟨_, e2, ?_, same_upd (z.trans s2) hD, ?_⟩
        · rw [List.length_map, List.length_map, List.length_take]
          exact Nat.lt_of_le_of_lt (Nat.min_le_left _ _) (Nat.lt_of_lt_of_le (show i < 61 by omega) (by decide))
        · rw [upd_same, GD.take_next hft, List.map_append, List.map_append]
          rfl
      obtain ⟨bb, r, rfl, hbb⟩ := (fv.same z).fact
      refine ⟨rfl, _, rfl, bb, _, 0, _, rfl, rfl, SqT.of hbb, at0, rfl, _, rfl, ?_⟩
      by_cases c : kindS ft = "not"
      · rw [show decide (V.str (kindS ft) = V.str "not") = true from decide_eq_true (by rw [c])]
        refine iteT ?_
        have e : keepF st ft = true := by
          cases ft with
          | not_ s => rfl
          | let_ s => exact absurd c (by show ¬ ("let" : Str) = "not"; decide +kernel)
          | as_ s t => exact absurd c (by show ¬ ("as" : Str) = "not"; decide +kernel)
        have z3 := fin (Same.refl _) eD
        rw [e] at z3
        exact z3
      · rw [show decide (V.str (kindS ft) = V.str "not") = false from decide_eq_false fun e => c (V.str.inj e)]
        refine iteF ⟨_, rfl, (by show 1 ≤ sizeLine; decide), fun p np => ?_⟩
        have sp := same_new (o := .lst [x]) np
        have zp := z.trans sp
        refine ⟨_, rfl, p, x, _, st, ft, k, rfl, upd_same, fx.same zp, (fv.same z).same sp, hst, hk, f1, f2, c, fun H2 s2 => ?_⟩
        exact fin (sp.trans s2) ((sp.trans s2) _ _ eD)
    · rintro H' ⟨z, eD⟩
      rw [lys, List.take_length] at eD
      refine ⟨D, _, rfl, SqL.of eD, ?_⟩
      rw [List.all_map]
      exact q H' z
end
end K73
namespace GD
open PySem PySem.Spec PyProof.Rows L2 GM
def numOk (fs : List Fact) (p : Int × Int) : Prop := 0 ≤ p.1 ∧ p.1 < (fs.length : Nat) ∧ kindS (fs.getD p.1.toNat dF) ≠ "not"
def spEnoughP (K : PySem.W.Frag) : Sp := fun vs H Q _ => ∃ (l w : Addr) (x y : V) (bs : List Bas) (fs : List Fact) (k : Nat) (whole : Nat → Int) (parts : List (Int × Int)), vs = [.ref l, x, .ref w, y] ∧ BasAt K H l bs ∧ Fz H x (.tuple (fs.map eF)) ∧ H w = some (.lst (fl bs.length fun i => .int (whole i))) ∧ Fz H y (.tuple (parts.map eP)) ∧
  BasIn k bs ∧ k ≤ 10 ∧ (∀ f ∈ fs, FLen k f ∧ FSmall f) ∧ (∀ p ∈ parts, numOk fs p) ∧ ∀ H', Same H H' → Q (.bl (enoughB bs fs whole parts)) H'
def spRightBy (K : PySem.W.Frag) : Sp := fun vs H Q _ => ∃ (l am : Addr) (x y v : V) (d : PyData) (bs : List Bas) (fs : List Fact) (q : Aim), vs = [.ref l, x, .ref am, v] ∧ BasAt K H l bs ∧ Fz H x (.tuple (fs.map eF)) ∧ H am = some (.tup [.int q.1, y]) ∧ Fz H y (eS q.2) ∧
  BasIn q.2.length bs ∧ q.2.length ≤ 10 ∧ (-1000 ≤ q.1 ∧ q.1 ≤ 1000) ∧ Small q.2 ∧ (∀ f ∈ fs, FLen q.2.length f ∧ FSmall f) ∧ fs.length ≤ 60 ∧ Sh H v d ∧ ShortT d ∧ ∀ H', Same H H' → Q (.bl (rightB bs fs q d)) H'
theorem lev_64 {k : Nat} {bs : List Bas} {one : Int} {ps : Stn} (hb : BasIn k bs) {i : Nat} (hi : i < bs.length) (ho : one.natAbs ≤ 1000) (h : ∀ p ∈ ps, p.1.natAbs ≤ 2000 ∧ p.2.natAbs ≤ 2000) : -(2 ^ 64) < levF bs one ps i ∧ levF bs one ps i < 2 ^ 64 := by
  have z := lev_small (m := 2000) (hb.1 (bs.getD i defB) (by rw [List.getD_eq_getElem?_getD, List.getElem?_eq_getElem hi]; exact List.getElem_mem hi)).2 ho h
  have z2 : (levF bs one ps i).natAbs ≤ 5000 := z
  omega
theorem leftN_next {bs : List Bas} {fs : List Fact} {whole : Nat → Int} {parts : List (Int × Int)} {i : Nat} {p : Int × Int} (h : parts[i]? = some p) (t : Nat) : leftN bs fs whole (parts.take (i + 1)) t = leftN bs fs whole (parts.take i) t - p.2 * levF bs (fOne (fs.getD p.1.toNat dF)) (fPs (fs.getD p.1.toNat dF)) t := by
  unfold leftN
  rw [GD.take_next h, List.foldl_append]
  rfl
theorem num_ok {fs : List Fact} {k : Str} (hk : k ≠ "not") {ps : List (Int × Int)} (h : PartsOk fs k ps) : ∀ p ∈ ps, numOk fs p := fun p hp => by
  have z := h.o p hp
  unfold partOk at z
  rw [Bool.and_eq_true, Bool.and_eq_true, decide_eq_true_iff, decide_eq_true_iff] at z
  exact ⟨z.1.1, z.1.2, by rw [z.2.1]; exact hk⟩
theorem len3 {ds : List PyData} (h : ds.length = 3) : ∃ a b c, ds = [a, b, c] := by
  match ds, h with
  | [a, b, c], _ => exact ⟨a, b, c, rfl⟩
theorem ShAll.three {H : Hp} {xs : List V} {d e f : PyData} (h : ShAll H xs [d, e, f]) : ∃ x y z, xs = [x, y, z] ∧ Sh H x d ∧ Sh H y e ∧ Sh H z f := by
  cases h with
  | cons a t =>
    cases t with
    | cons b t =>
      cases t with
      | cons c t =>
        cases t
        exact ⟨_, _, _, rfl, a, b, c⟩
theorem right_no {bs : List Bas} {fs : List Fact} {q : Aim} {d : PyData} (h : isTup d = false) : rightB bs fs q d = false := by
  cases d with
  | tuple ds => cases h
  | none => rfl
  | bool b => rfl
  | int i => rfl
  | str x => rfl
  | list l => rfl
  | dict l => rfl
end GD
namespace K73
open PySem PySem.Spec PyProof.Rows L2 GD GM
abbrev pRight : Stmt := top 53
abbrev pRightBy : Stmt := top 54
abbrev pEnough : Stmt := top 59
section
variable {P : Program} {w : World} {K : PySem.W.Frag} {mg : Str → Option Value} {base : Heap}
abbrev NEo : List Str := ["basics", "facts", "whole", "parts", "left", "number", "times", "told", "level", "part", "basic"]
theorem scEo : FnScope NEo ["basics", "facts", "whole", "parts"] (defScope pEnough) := ⟨rfl, rfl, rfl, by decide +kernel, rfl, by decide +kernel, by decide +kernel⟩
theorem ok_enough {f fF : Addr} {fd fdF : FuncData} (F : Fun K "is_enough" "is_enough" pEnough f fd) (nA : mg "all" = none) (nZ : mg "zip" = none)
    (gF : mg "fact_levels" = some (.ref fF)) (bF : Binds K fdF ["basics", "fact"] []) (kF : PySem.W.keepIn K (.ref fF) = true) (GF : FnOk P w K mg base CX0 2 fF fdF ["basics", "fact"] (spFactLevels K)) :
    FnOk P w K mg base CX0 3 f fd ["basics", "facts", "whole", "parts"] (spEnoughP K) := by
  refine F.ok scEo (fun vs H Q E h => ?_) (fun cdv A outer s H vs Q E hr h => ?_)
  · obtain ⟨l, w', x, y, bs, fs, k, whole, parts, rfl, _⟩ := h
    rfl
  · obtain ⟨l, w', x, y, bs, fs, k, whole, parts, rfl, hb, fx, ew, fy, hin, hk, hf, hp, q⟩ := h
    refine ⟨_, pss_cons (ps_set (i := 4) scEo.nd rfl (.inl rfl) (pv 2))
      (pss_cons (ps_for PassesOwn.never rfl (pi_tup (pv 3)) (pg_tup rfl (pgs_cons (pg_name (i := 5) scEo.nd rfl (.inl rfl)) (pgs_cons (pg_name (i := 6) scEo.nd rfl (.inr rfl)) pgs_nil)))
        (pss_cons (ps_set (i := 7) scEo.nd rfl (.inl rfl) (pe_call GF hr (by rfl) gF kF bF .nil pass0 (pa_cons (pv 0) (pa_cons (pe_ix ix_tup (pv 1) (pv 5) (fun _ _ => rfl)) pa_nil))))
        (pss_one (ps_setLc (i := 4) (own := [("level", 8), ("part", 9)]) (g := gTup K 2 (gCons (gName 8) (gCons (gName 9) gNil))) (tt := tYes) rfl scEo.nd rfl rfl (sw_true rfl rfl rfl (by decide +kernel)) (pi_zip (by rfl) nZ (pa_cons (pv 4) (pa_cons (pv 7) pa_nil))) (blkOk_by (N := NEo) (sc := defScope pEnough) (by decide +kernel))
          (fun _ _ _ _ _ => pg_tup rfl (pgs_cons (pg_name (i := 8) scEo.nd rfl (.inl rfl)) (pgs_cons (pg_name (i := 9) scEo.nd rfl (.inl rfl)) pgs_nil))) (fun _ _ _ _ _ => pts_nil) (fun _ _ _ _ _ => pe_op op_sub (pv 8) (pe_op op_mul (pv 6) (pv 9)))))))
      (pss_one (ps_ret (pe_callB (cr_all rfl) (by rfl) nA (by decide +kernel) (pa_cons (pe_lc (own := [("level", 8), ("basic", 10)]) (g := gTup K 2 (gCons (gName 8) (gCons (gName 10) gNil))) (tt := tYes) rfl scEo.nd (pi_zip (by rfl) nZ (pa_cons (pv 4) (pa_cons (pv 0) pa_nil))) (blkOk_by (N := NEo) (sc := defScope pEnough) (by decide +kernel))
          (fun _ _ _ _ _ => pg_tup rfl (pgs_cons (pg_name (i := 8) scEo.nd rfl (.inl rfl)) (pgs_cons (pg_name (i := 10) scEo.nd rfl (.inl rfl)) pgs_nil))) (fun _ _ _ _ _ => pts_nil)
          (fun _ _ _ _ _ => pe_or (pe_cmpR op_eq (pv 8) pe_int (nomark _)) (pe_one (pe_and (pe_cmpR op_gt (pv 8) pe_int (nomark _)) (pe_one (pe_not (pe_ix (r := rIxT K) ix_tup (pv 10) (pe_un un_neg pe_int) (fun _ _ => rfl)))))))) pa_nil))))), ?_⟩
    obtain ⟨bxs, ebs, lbs, abs⟩ := id hb
    obtain ⟨xa, xv, rfl, hxa, fxa⟩ := fx.t
    obtain ⟨ya, yv, rfl, hya, fya⟩ := fy.t
    have lyv : yv.length = parts.length := by rw [fya.len, List.length_map]
    have l50 := hin.2
    refine ⟨_, rfl, _, rfl, ya, rfl, ⟨_, SqT.of hya⟩, ?_⟩
    refine for_it (walk_tup (K := K) (a := ya) (xs := yv)) (fun i σ H' => ∃ (L : Addr) (x5 x6 x7 : Option V), σ = [some (.ref l), some (.ref xa), some (.ref w'), some (.ref ya), some (.ref L), x5, x6, x7, none, none, none] ∧ Same H H' ∧ H' L = some (.lst (fl bs.length fun t => .int (leftN bs fs whole (parts.take i) t))))
      ⟨w', none, none, none, rfl, Same.refl H, ew⟩ (fun i σ H' _ ⟨_, _, _, _, _, z, _⟩ => SqT.of (z _ _ hya)) ?_ ?_
    · rintro i v σ H2 H1 hi ⟨L, x5, x6, x7, rfl, z, eL⟩ ⟨rfl, hv⟩
      obtain ⟨p, hpp, fv⟩ := fya.atM hv
      obtain ⟨b, u1, u2, rfl, hb1, g1, g2⟩ := fv.t2
      obtain rfl := g1.i
      obtain rfl := g2.i
      obtain ⟨p0, p1, pk⟩ := hp p (List.mem_of_getElem? hpp)
      obtain ⟨n, hn⟩ := Int.eq_ofNat_of_zero_le p0
      have hnl : n < fs.length := by omega
      have eg : fs.getD p.1.toNat dF = fs[n] := by
        rw [hn, Int.toNat_natCast, List.getD_eq_getElem?_getD, List.getElem?_eq_getElem hnl]
        rfl
      obtain ⟨u, hu, fu⟩ := fxa.getM (i := n) (j := fs[n]) (List.getElem?_eq_getElem hnl)
      obtain ⟨fl1, fsm⟩ := hf fs[n] (List.getElem_mem hnl)
      refine ⟨b, _, rfl, SqT.of (z _ _ hb1), rfl, _, _, rfl, _, _, rfl, rfl, ?_⟩
      refine ⟨_, rfl, _, rfl, _, rfl, xa, _, p.1, _, rfl, rfl, SqT.of (z _ _ hxa), (by rw [hn]; exact atI_nat hu), ?_⟩
      dsimp only [tNil]
      refine ⟨l, u, bs, fs[n], k, rfl, hb.same z, fu.same z, by rw [← eg]; exact pk, fl1, hk, hin, fun T H3 s3 nT eT => ?_⟩
      have z3 := z.trans s3
      refine ⟨_, rfl, _, rfl, L, T, _, _, rfl, SqL.of (s3 _ _ eL), SqL.of eT, fun D hD => ?_⟩
      refine lc_it (walk_zip (K := K) (a := L) (b := T) (xs := fl bs.length fun t => .int (leftN bs fs whole (parts.take i) t)) (ys := fl bs.length fun t => .int (levF bs (fOne fs[n]) (fPs fs[n]) t)) (n := bs.length) (by rw [fl_len, fl_len]; exact (Nat.min_self _).symm))
        (fun t H' => Same H3 H' ∧ H' D = some (.lst (fl t fun t => .int (leftN bs fs whole (parts.take (i + 1)) t)))) ⟨same_new hD, upd_same⟩ (fun t H' _ ⟨z4, _⟩ => ⟨SqL.of (z4 _ _ (s3 _ _ eL)), SqL.of (z4 _ _ eT)⟩) ?_ ?_
      · rintro t v H4 H5 ht ⟨z4, eD⟩ ⟨T', c1, c2, rfl, hT, rfl, hc1, hc2⟩
        obtain ⟨_, rfl⟩ := fl_inv hc1
        obtain ⟨_, rfl⟩ := fl_inv hc2
        have sT := same_new (o := .tup [.int (leftN bs fs whole (parts.take i) t), .int (levF bs (fOne fs[n]) (fPs fs[n]) t)]) hT
        refine ⟨T', _, rfl, SqT.of upd_same, rfl, _, _, rfl, _, _, rfl, rfl, rfl, ?_⟩
        refine ⟨_, rfl, _, rfl, _, rfl, _, _, rfl, rfl, .inr (lev_64 hin ht (fone_small _) (fps_small fsm)), _, _, rfl, rfl, _, sT _ _ eD, ?_, same_upd (z4.trans sT) hD, ?_⟩
        · rw [fl_len]
          exact Nat.lt_of_lt_of_le (show t < 51 by omega) (by decide)
        · rw [upd_same]
          have e := leftN_next (bs := bs) (fs := fs) (whole := whole) hpp t
          rw [eg] at e
          dsimp only
          rw [← e]
          exact congrArg (fun l => some (HO.lst l)) (fl_snoc t fun t => .int (leftN bs fs whole (parts.take (i + 1)) t))
      · rintro H4 ⟨z4, eD⟩
        exact ⟨D, _, _, _, rfl, z3.trans z4, eD⟩
    · rintro σ H1 ⟨L, x5, x6, x7, rfl, z, eL⟩
      rw [lyv, List.take_length] at eL
      refine ⟨_, rfl, _, rfl, L, l, _, _, rfl, SqL.of eL, SqL.of (z _ _ ebs), fun D hD => ?_⟩
      refine lc_it (walk_zip (K := K) (a := L) (b := l) (xs := fl bs.length fun t => .int (leftN bs fs whole parts t)) (ys := bxs) (n := bs.length) (by rw [fl_len, lbs]; exact (Nat.min_self _).symm))
        (fun t H' => Same H1 H' ∧ H' D = some (.lst (((List.range t).map fun i => endB (bs.getD i defB) (leftN bs fs whole parts i)).map V.bl))) ⟨same_new hD, upd_same⟩ (fun t H' _ ⟨z4, _⟩ => ⟨SqL.of (z4 _ _ eL), SqL.of (z4 _ _ (z _ _ ebs))⟩) ?_ ?_
      · rintro t v H4 H5 ht ⟨z4, eD⟩ ⟨T', c1, c2, rfl, hT, rfl, hc1, hc2⟩
        obtain ⟨_, rfl⟩ := fl_inv hc1
        obtain ⟨tq, b, eb, rfl, e3⟩ := abs t c2 hc2
        have sT := same_new (o := .tup [.int (leftN bs fs whole parts t), .ref tq]) hT
        have z5 := z4.trans sT
        have ebd : bs.getD t defB = b := by rw [List.getD_eq_getElem?_getD, eb]; rfl
        have fin : ∃ acc, (upd H4 T' (.tup [.int (leftN bs fs whole parts t), .ref tq])) D = some (.lst acc) ∧ acc.length < sizeLine ∧ (Same H1 (upd (upd H4 T' (.tup [.int (leftN bs fs whole parts t), .ref tq])) D (.lst (acc ++ [V.bl (endB b (leftN bs fs whole parts t))]))) ∧
            (upd (upd H4 T' (.tup [.int (leftN bs fs whole parts t), .ref tq])) D (.lst (acc ++ [V.bl (endB b (leftN bs fs whole parts t))]))) D = some (.lst (((List.range (t + 1)).map fun i => endB (bs.getD i defB) (leftN bs fs whole parts i)).map V.bl))) := by
          refine ⟨_, sT _ _ eD, ?_, same_upd z5 hD, ?_⟩
          · rw [List.length_map, List.length_map, List.length_range]
            exact Nat.lt_of_lt_of_le (show t < 51 by omega) (by decide)
          · rw [upd_same, List.range_succ, List.map_append, List.map_append, ← ebd]
            rfl
        refine ⟨T', _, rfl, SqT.of upd_same, rfl, _, _, rfl, _, _, rfl, rfl, rfl, ?_⟩
        refine ⟨_, rfl, rfl, _, rfl, ?_⟩
        generalize leftN bs fs whole parts t = lx at fin hT sT z5 ⊢
        by_cases c0 : lx = 0
        · rw [show decide (V.int lx = V.int 0) = true from decide_eq_true (by rw [c0])]
          refine iteT ?_
          rw [show endB b lx = true by unfold endB; rw [decide_eq_true c0]; rfl] at fin
          exact fin
        rw [show decide (V.int lx = V.int 0) = false from decide_eq_false fun e => c0 (V.int.inj e)]
        refine iteF ⟨_, rfl, _, _, rfl, rfl, _, rfl, ?_⟩
        by_cases c1 : 0 < lx
        · rw [decide_eq_true c1]
          rw [show endB b lx = !b.lo by unfold endB; rw [decide_eq_false c0, decide_eq_true c1]; rfl] at fin
          exact iteT ⟨_, rfl, _, rfl, tq, _, -1, .bl b.lo, rfl, rfl, seqT_same (z.trans z5) e3, rfl, b.lo, rfl, fin⟩
        · rw [decide_eq_false c1]
          rw [show endB b lx = false by unfold endB; rw [decide_eq_false c0, decide_eq_false c1]; rfl] at fin
          exact iteF fin
      · rintro H4 ⟨z4, eD⟩
        refine ⟨D, _, rfl, SqL.of eD, ?_⟩
        rw [List.all_map]
        exact q H4 (z.trans z4)
abbrev NRb : List Str := ["basics", "facts", "aim", "value", "times", "weights", "backs", "whole", "level"]
theorem scRb : FnScope NRb ["basics", "facts", "aim", "value"] (defScope pRightBy) := ⟨rfl, rfl, rfl, by decide +kernel, rfl, by decide +kernel, by decide +kernel⟩
theorem ok_rightby {f fA fI fL fE : Addr} {fd fdA fdI fdL fdE : FuncData} (F : Fun K "is_right_by" "is_right_by" pRightBy f fd) (S : Forms1 mg) (AI : At K mg "is_integer" pIsInt ["value"] fI fdI)
    (gA : mg "are_parts" = some (.ref fA)) (bA : Binds K fdA ["weights", "backs", "facts"] []) (kA : PySem.W.keepIn K (.ref fA) = true) (GA : FnOk P w K mg base CX0 5 fA fdA ["weights", "backs", "facts"] spBothA)
    (gL : mg "levels" = some (.ref fL)) (bL : Binds K fdL ["basics", "aim"] []) (kL : PySem.W.keepIn K (.ref fL) = true) (GL : FnOk P w K mg base CX0 1 fL fdL ["basics", "aim"] (spLevels K))
    (gE : mg "is_enough" = some (.ref fE)) (bE : Binds K fdE ["basics", "facts", "whole", "parts"] []) (kE : PySem.W.keepIn K (.ref fE) = true) (GE : FnOk P w K mg base CX0 3 fE fdE ["basics", "facts", "whole", "parts"] (spEnoughP K)) :
    FnOk P w K mg base CX0 6 f fd ["basics", "facts", "aim", "value"] (spRightBy K) := by
  have GI : FnOk P w K mg base CX0 1 fI fdI ["value"] (spIntA K) := oka_isint AI.F S
  refine F.ok scRb (fun vs H Q E h => ?_) (fun cdv A outer s H vs Q E hr h => ?_)
  · obtain ⟨l, am, x, y, v, d, bs, fs, q, rfl, _⟩ := h
    rfl
  · obtain ⟨l, am, x, y, v, d, bs, fs, qa, rfl, hb, fx, ham, fy, hin, hk, hq1, hsm, hf, h60, sh, hsh, q⟩ := h
    have hr1 : Room 1 _ := hr.mono (by decide)
    have hr3 : Room 3 _ := hr.mono (by decide)
    refine ⟨_, pss_cons (ps_if (pw_or (pt_not (pt_val (pe_callB call_isi (by rfl) S.isi (by decide +kernel) (pa_cons (pv 3) (pa_cons (pe_bltn (v := .ty "tuple") (by rfl) S.tup PyProof.Rows.Boot.«tuple» rfl) pa_nil)))))
          (pw_or1 (pt_cmpR op_ne (pe_callB call_len_seq (by rfl) S.len PySem.boot_len (pa_cons (pv 3) pa_nil)) pe_int (nomark _)))).pt (pss_one (ps_ret (pe_bl))) pss_nil)
      (pss_cons (ps_asg (pv 3) (pg_tup rfl (pgs_cons (pg_name (i := 4) scRb.nd rfl (.inr rfl)) (pgs_cons (pg_name (i := 5) scRb.nd rfl (.inl rfl)) (pgs_cons (pg_name (i := 6) scRb.nd rfl (.inl rfl)) pgs_nil)))))
      (pss_cons (ps_if (pw_or (pt_not (pt_val (pe_call GI hr1 (by rfl) AI.g AI.F.kp AI.b .nil pass0 (pa_cons (pv 4) pa_nil)))) (pw_or (pt_cmpR op_lt (pv 4) pe_int (nomark _))
          (pw_or1 (pt_not (pt_val (pe_call GA hr (by rfl) gA kA bA .nil pass0 (pa_cons (pv 5) (pa_cons (pv 6) (pa_cons (pv 1) pa_nil))))))))).pt (pss_one (ps_ret pe_bl)) pss_nil)
      (pss_cons (ps_setLc (i := 7) (own := [("level", 8)]) (g := gName 8) (tt := tYes) rfl scRb.nd rfl rfl (sw_true rfl rfl rfl (by decide +kernel)) (pi_list (pe_call GL hr1 (by rfl) gL kL bL .nil pass0 (pa_cons (pv 0) (pa_cons (pv 2) pa_nil)))) (blkOk_by (N := NRb) (sc := defScope pRightBy) (by decide +kernel))
          (fun _ _ _ _ _ => pg_name (i := 8) scRb.nd rfl (.inl rfl)) (fun _ _ _ _ _ => pts_nil) (fun _ _ _ _ _ => pe_op op_mul (pv 4) (pv 8)))
      (pss_one (ps_ret (pe_call GE hr3 (by rfl) gE kE bE .nil pass0 (pa_cons (pv 0) (pa_cons (pv 1) (pa_cons (pv 7) (pa_cons (pe_op op_catA (pv 5) (pv 6)) pa_nil)))))))))), ?_⟩
    have q0 := q H (Same.refl H)
    refine ⟨_, rfl, _, _, _, _, isTup d, rfl, .ty _, ty_sh sh (Same.refl H), kit_tup d, _, rfl, ?_⟩
    cases ht : isTup d with
    | false =>
      rw [right_no ht] at q0
      exact iteT q0
    | true =>
    obtain ⟨ds, rfl⟩ := tup_of ht
    refine iteF ?_
    obtain ⟨b, xs, rfl, hvb, t⟩ := sh_tup sh
    have lx := t.length
    refine ⟨_, rfl, b, _, rfl, .inr (SqT.of hvb), rfl, _, rfl, ?_⟩
    by_cases h3 : ds.length = 3
    rotate_left
    · rw [rightB_ne h3] at q0
      rw [show (!decide (V.int (xs.length : Nat) = V.int 3)) = true by
        rw [lx, decide_eq_false fun z => h3 (by have := V.int.inj z; omega)]
        rfl]
      exact iteT q0
    obtain ⟨d1, d2, d3, rfl⟩ := len3 h3
    obtain ⟨v1, v2, v3, rfl, s1, s2, s3⟩ := t.three
    refine iteF ?_
    refine ⟨_, rfl, b, _, rfl, SqT.of hvb, rfl, _, _, rfl, _, _, rfl, _, _, rfl, rfl, ?_⟩
    refine ⟨_, rfl, v1, _, rfl, intOr_sh s1 (Same.refl H), _, rfl, ?_⟩
    cases e1 : GD.intD d1 with
    | none =>
      rw [rightB_three, e1] at q0
      exact iteT q0
    | some m =>
    obtain rfl := intD_some e1
    obtain rfl := sh_int s1
    have eR : rightB bs fs qa (.tuple [.int m, d2, d3]) = (decide (1 ≤ m) && (partsB fs "let" d2 && (partsB fs "as" d3 && enoughB bs fs (fun i => m * levF bs qa.1 qa.2 i) (prsD d2 ++ prsD d3)))) := rfl
    rw [eR] at q0
    refine iteF ⟨_, rfl, _, _, rfl, rfl, _, rfl, ?_⟩
    by_cases c0 : m < 1
    · rw [decide_eq_true c0]
      rw [decide_eq_false (show ¬ 1 ≤ m by omega)] at q0
      exact iteT q0
    rw [decide_eq_false c0]
    obtain ⟨_, hs⟩ := hsh.t
    refine iteF ⟨_, rfl, _, rfl, _, rfl, ?_⟩
    dsimp only [tNil]
    refine ⟨v2, v3, x, d2, d3, fs, rfl, s2, s3, hs d2 (by simp), hs d3 (by simp), fx, h60, fun H1 z1 => ⟨_, rfl, ?_⟩⟩
    cases cw : partsB fs "let" d2 with
    | false =>
      have q1 := q H1 z1
      rw [eR, cw, Bool.false_and, Bool.and_false] at q1
      exact iteT q1
    | true =>
    cases cb : partsB fs "as" d3 with
    | false =>
      have q1 := q H1 z1
      rw [eR, cb, Bool.false_and, Bool.and_false, Bool.and_false] at q1
      exact iteT q1
    | true =>
    obtain ⟨ws, rfl, okw⟩ := parts_of cw
    obtain ⟨zs, rfl, okz⟩ := parts_of cb
    have q2 : ∀ H', Same H H' → Q (.bl (enoughB bs fs (fun i => m * levF bs qa.1 qa.2 i) (ws ++ zs))) H' := fun H' s' => by
      have z := q H' s'
      rw [eR, cw, cb, decide_eq_true (show 1 ≤ m by omega), prsD_eP, prsD_eP] at z
      exact z
    have sh2 := hs _ (show PyData.tuple (ws.map eP) ∈ [PyData.int m, .tuple (ws.map eP), .tuple (zs.map eP)] by simp)
    have sh3 := hs _ (show PyData.tuple (zs.map eP) ∈ [PyData.int m, .tuple (ws.map eP), .tuple (zs.map eP)] by simp)
    have lw := sh2.t.1
    have lz := sh3.t.1
    rw [List.length_map] at lw lz
    obtain ⟨wa, wv, rfl, hwa, fw⟩ := sh_tup s2
    obtain ⟨za, zv, rfl, hza, fz⟩ := sh_tup s3
    have Fw : Fz H (.ref wa) (.tuple (ws.map eP)) := .tup hwa (sh_ePs fw)
    have Fzz : Fz H (.ref za) (.tuple (zs.map eP)) := .tup hza (sh_ePs fz)
    refine iteF ⟨_, rfl, _, rfl, ?_⟩
    dsimp only [tNil]
    refine ⟨l, am, bs, qa.1, y, qa.2, rfl, hb.same z1, z1 _ _ ham, fy.same z1, hin, fun T H2 z2 nT eT => ?_⟩
    refine ⟨T, rfl, ⟨_, SqL.of eT⟩, fun D hD => ?_⟩
    have hone : qa.1.natAbs ≤ 1000 := by omega
    refine lc_it (walk_list (K := K) (a := T) (xs := fl bs.length fun i => .int (levF bs qa.1 qa.2 i))) (fun i H' => Same H2 H' ∧ H' D = some (.lst (fl i fun i => .int (m * levF bs qa.1 qa.2 i)))) ⟨same_new hD, upd_same⟩ (fun i H' _ ⟨z3, _⟩ => SqL.of (z3 _ _ eT)) ?_ ?_
    · rintro i v H3 H4 hi ⟨z3, eD⟩ ⟨rfl, hv⟩
      obtain ⟨hil, rfl⟩ := fl_inv hv
      have l50 := hin.2
      refine ⟨rfl, _, rfl, _, rfl, _, _, rfl, rfl, .inr (lev_64 hin hil hone (small_abs hsm)), _, eD, ?_, same_upd z3 hD, ?_⟩
      · rw [fl_len]
        exact Nat.lt_of_lt_of_le (show i < 51 by omega) (by decide)
      · rw [upd_same]
        exact congrArg (fun l => some (HO.lst l)) (fl_snoc i fun i => .int (m * levF bs qa.1 qa.2 i))
    rintro H3 ⟨z3, eD⟩
    rw [fl_len] at eD
    have zA := z1.trans (z2.trans z3)
    refine ⟨_, rfl, _, rfl, _, rfl, _, rfl, _, rfl, ?_⟩
    refine cat_fz (Fw.same zA) (Fzz.same zA) (by rw [List.length_map, List.length_map]; omega) fun v4 H4 z4 f4 => ?_
    rw [← List.map_append] at f4
    have zB := zA.trans z4
    dsimp only [tNil]
    refine ⟨l, D, x, v4, bs, fs, qa.2.length, fun i => m * levF bs qa.1 qa.2 i, ws ++ zs, rfl, hb.same zB, fx.same zB, z4 _ _ eD, f4, hin, hk, hf, fun p hp => ?_, fun H5 z5 => q2 H5 (zB.trans z5)⟩
    rcases List.mem_append.mp hp with hp | hp
    · exact num_ok (by decide +kernel) okw p hp
    · exact num_ok (by decide +kernel) okz p hp
end
end K73
namespace GD
open PySem PySem.Spec PyProof.Rows L2 GM
def spRightM : Sp := fun vs H Q _ => ∃ (m am : Addr) (x y v : V) (d : PyData) (ms : List Str) (fs : List Fact) (q : Aim), vs = [.ref m, x, .ref am, v] ∧ H m = some (.tup (ms.map V.str)) ∧ (∀ x ∈ ms, x ∈ mans4) ∧ ms.length ≤ 4 ∧ Fz H x (.tuple (fs.map eF)) ∧ H am = some (.tup [.int q.1, y]) ∧ Fz H y (eS q.2) ∧
  q.2.length = ms.length ∧ 1 ≤ ms.length ∧ (-1000 ≤ q.1 ∧ q.1 ≤ 1000) ∧ Small q.2 ∧ (∀ f ∈ fs, FLen q.2.length f ∧ FSmall f) ∧ fs.length ≤ 60 ∧ Sh H v d ∧ ShortT d ∧ ∀ H', Same H H' → Q (.bl (rightB (basics ms) fs q d)) H'
def spRefA : Sp := fun vs H Q _ => ∃ (m : Addr) (x y v : V) (d : PyData) (ms : List Str) (fs : List Fact) (s : Stn), vs = [.ref m, x, y, v] ∧ H m = some (.tup (ms.map V.str)) ∧ (∀ x ∈ ms, x ∈ mans4) ∧ ms.length ≤ 4 ∧ Fz H x (.tuple (fs.map eF)) ∧ Fz H y (eS s) ∧
  s.length = ms.length ∧ Small s ∧ (∀ f ∈ fs, FLen s.length f ∧ FSmall f) ∧ fs.length ≤ 60 ∧ Sh H v d ∧ ∀ H', Same H H' → Q (.bl (refB ms fs s d)) H'
def spShows (C : Addr) : Sp := fun vs H Q _ => ∃ (b : Addr) (x : Str) (js : List (Str × Str)) (fs : List Fact) (y v : V) (s : Stn) (d : PyData), vs = [.ref b, y, v] ∧ BookAt C H b x (js.map (·.1)) (mlOf js) fs ∧ JsOk js fs ∧ Fz H y (eS s) ∧ s.length = js.length ∧ Bd 40 s ∧ Sh H v d ∧ ShortT d ∧
  ∀ H', Same H H' → Q (.bl (shownB (js.map (·.2)) fs s d)) H'
theorem basin_of {ms : List Str} (h1 : 1 ≤ ms.length) (h4 : ms.length ≤ 4) : BasIn ms.length (basics ms) := by
  have bl := (basics_len ms).2
  refine ⟨fun b hb => ?_, by omega⟩
  have o := basics_ok hb
  obtain ⟨f1, f2⟩ := o.f
  obtain ⟨b1, b2⟩ := o.b1
  obtain ⟨e1, e2⟩ := o.e1
  refine ⟨?_, by omega, f2, b1, b2, e1, e2⟩
  rcases o.j with h | h
  · exact h
  · omega
theorem toldB_of {x : Str} {d : PyData} (h : toldB x 2 d = true) : ∃ e, d = .tuple [.str x, e] := by
  cases d with
  | tuple ds =>
    have h : (decide (ds.length = 2) && wordD [x] (ds.headD .none)) = true := h
    rw [Bool.and_eq_true, decide_eq_true_iff] at h
    obtain ⟨a, b, rfl⟩ := len2 h.1
    have h2 : wordD [x] a = true := h.2
    cases a with
    | str z =>
      have h3 : decide (z ∈ [x]) = true := h2
      rw [decide_eq_true_iff, List.mem_singleton] at h3
      exact ⟨b, by rw [h3]⟩
    | tuple ds => cases h2
    | none => cases h2
    | bool b => cases h2
    | int i => cases h2
    | list l => cases h2
    | dict l => cases h2
  | none => cases h
  | bool b => cases h
  | int i => cases h
  | str x => cases h
  | list l => cases h
  | dict l => cases h
theorem toldB_to (x : Str) (e : PyData) : toldB x 2 (.tuple [.str x, e]) = true := by
  show (decide (([.str x, e] : List PyData).length = 2) && decide (x ∈ [x])) = true
  rw [decide_eq_true (List.mem_singleton.mpr rfl)]
  rfl
theorem shown_eq (ms : List Str) (fs : List Fact) (s : Stn) (x : Str) (e : PyData) : shownB ms fs s (.tuple [.str x, e]) = if x = "sure" then rightB (basics ms) fs (1, s) e else if x = "stock" then refB ms fs s e else false := rfl
theorem shown_sure (ms : List Str) (fs : List Fact) (s : Stn) (e : PyData) : shownB ms fs s (.tuple [.str "sure", e]) = rightB (basics ms) fs (1, s) e := by
  rw [shown_eq, if_pos rfl]
theorem shown_stock (ms : List Str) (fs : List Fact) (s : Stn) (e : PyData) : shownB ms fs s (.tuple [.str "stock", e]) = refB ms fs s e := by
  rw [shown_eq, if_neg (by decide +kernel), if_pos rfl]
theorem shown_no {ms : List Str} {fs : List Fact} {s : Stn} {d : PyData} (h1 : toldB "sure" 2 d = false) (h2 : toldB "stock" 2 d = false) : shownB ms fs s d = false := by
  unfold shownB
  split
  · rename_i x e
    have n1 : ¬ x = "sure" := fun c => by
      rw [c, toldB_to] at h1
      cases h1
    have n2 : ¬ x = "stock" := fun c => by
      rw [c, toldB_to] at h2
      cases h2
    rw [if_neg n1, if_neg n2]
  · rfl
end GD
namespace K73
open PySem PySem.Spec PyProof.Rows L2 GD GM
abbrev pShows : Stmt := top 50
abbrev pRefus : Stmt := top 55
section
variable {P : Program} {w : World} {K : PySem.W.Frag} {mg : Str → Option Value} {base : Heap}
theorem scRgt : FnScope ["manners", "facts", "aim", "value"] ["manners", "facts", "aim", "value"] (defScope pRight) := ⟨rfl, rfl, rfl, by decide +kernel, rfl, by decide +kernel, by decide +kernel⟩
theorem ok_isright {f fR fB : Addr} {fd fdR fdB : FuncData} (F : Fun K "is_right" "is_right" pRight f fd)
    (gR : mg "is_right_by" = some (.ref fR)) (bR : Binds K fdR ["basics", "facts", "aim", "value"] []) (kR : PySem.W.keepIn K (.ref fR) = true) (GR : FnOk P w K mg base CX0 6 fR fdR ["basics", "facts", "aim", "value"] (spRightBy K))
    (gB : mg "basic_stocks" = some (.ref fB)) (bB : Binds K fdB ["manners"] []) (kB : PySem.W.keepIn K (.ref fB) = true) (GB : FnOk P w K mg base CX0 1 fB fdB ["manners"] (spBasic K)) :
    FnOk P w K mg base CX0 7 f fd ["manners", "facts", "aim", "value"] spRightM := by
  refine F.ok scRgt (fun vs H Q E h => ?_) (fun cdv A outer s H vs Q E hr h => ?_)
  · obtain ⟨m, am, x, y, v, d, ms, fs, q, rfl, _⟩ := h
    rfl
  · obtain ⟨m, am, x, y, v, d, ms, fs, qa, rfl, hm, hm4, hl4, fx, ham, fy, hql, hl1, hq1, hsm, hf, h60, sh, hsh, q⟩ := h
    have hr1 : Room 1 _ := hr.mono (by decide)
    refine ⟨_, pss_one (ps_ret (pe_call GR hr (by rfl) gR kR bR .nil pass0 (pa_cons (pe_call GB hr1 (by rfl) gB kB bB .nil pass0 (pa_cons (pv 0) pa_nil)) (pa_cons (pv 1) (pa_cons (pv 2) (pa_cons (pv 3) pa_nil)))))), ?_⟩
    refine ⟨_, rfl, ?_⟩
    dsimp only [tNil]
    refine ⟨m, ms, rfl, hm, hm4, hl4, fun p H1 s1 np hb => ?_⟩
    refine ⟨_, rfl, _, rfl, _, rfl, ?_⟩
    dsimp only [tNil]
    exact ⟨p, am, x, y, v, d, basics ms, fs, qa, rfl, hb, fx.same s1, s1 _ _ ham, fy.same s1, by rw [hql]; exact basin_of hl1 hl4, by omega, hq1, hsm, hf, h60, sh.same s1, hsh, fun H2 s2 => q H2 (s1.trans s2)⟩
theorem scRef : FnScope ["manners", "facts", "pairs", "value"] ["manners", "facts", "pairs", "value"] (defScope pRefus) := ⟨rfl, rfl, rfl, by decide +kernel, rfl, by decide +kernel, by decide +kernel⟩
theorem ok_isref {f fS fK fL : Addr} {fd fdS fdK fdL : FuncData} (F : Fun K "is_refusing" "is_refusing" pRefus f fd)
    (gS : mg "is_stock" = some (.ref fS)) (bS : Binds K fdS ["value", "manners"] []) (kS : PySem.W.keepIn K (.ref fS) = true) (GS : FnOk P w K mg base CX0 3 fS fdS ["value", "manners"] spStkA)
    (gK : mg "keeps" = some (.ref fK)) (bK : Binds K fdK ["stock", "facts"] []) (kK : PySem.W.keepIn K (.ref fK) = true) (GK : FnOk P w K mg base CX0 4 fK fdK ["stock", "facts"] spKeepsP)
    (gL : mg "level_at" = some (.ref fL)) (bL : Binds K fdL ["stock", "pairs"] []) (kL : PySem.W.keepIn K (.ref fL) = true) (GL : FnOk P w K mg base CX0 1 fL fdL ["stock", "pairs"] (spLevel K)) :
    FnOk P w K mg base CX0 5 f fd ["manners", "facts", "pairs", "value"] spRefA := by
  refine F.ok scRef (fun vs H Q E h => ?_) (fun cdv A outer s H vs Q E hr h => ?_)
  · obtain ⟨m, x, y, v, d, ms, fs, sn, rfl, _⟩ := h
    rfl
  · obtain ⟨m, x, y, v, d, ms, fs, sn, rfl, hm, hm4, hl4, fx, fy, hsl, hsm, hf, h60, sh, q⟩ := h
    have hr1 : Room 1 _ := hr.mono (by decide)
    have hr3 : Room 3 _ := hr.mono (by decide)
    refine ⟨_, pss_one (ps_ret (pe_and (pe_call GS hr3 (by rfl) gS kS bS .nil pass0 (pa_cons (pv 3) (pa_cons (pv 0) pa_nil))) (pe_and (pe_call GK hr (by rfl) gK kK bK .nil pass0 (pa_cons (pv 3) (pa_cons (pv 1) pa_nil)))
      (pe_one (pe_cmpR op_lt (pe_call GL hr1 (by rfl) gL kL bL .nil pass0 (pa_cons (pv 3) (pa_cons (pv 2) pa_nil))) pe_int (nomark _)))))), ?_⟩
    refine ⟨_, rfl, _, rfl, ?_⟩
    dsimp only [tNil]
    refine ⟨v, d, m, ms, rfl, sh, hm, hl4, fun H1 s1 => ⟨_, rfl, ?_⟩⟩
    cases cs : stkB ms d with
    | false =>
      have q1 := q H1 s1
      unfold refB at q1
      rw [cs] at q1
      exact iteF q1
    | true =>
    obtain ⟨st, rfl, z0, mo⟩ := stk_of hm4 cs
    have fv := sh_eK (sh.same s1)
    have q2 : ∀ H', Same H H' → Q (.bl (keepsB fs st && decide (levelS st sn < 0))) H' := fun H' s' => by
      have z := q H' s'
      unfold refB at z
      rw [cs, stkD_eK] at z
      exact z
    refine iteT ⟨_, rfl, _, rfl, ?_⟩
    dsimp only [tNil]
    refine ⟨v, x, st, fs, sn.length, rfl, fv, fx.same s1, by rw [mo.1, hsl], by omega, hf, h60, fun H2 s2 => ⟨_, rfl, ?_⟩⟩
    have s12 := s1.trans s2
    cases ck : keepsB fs st with
    | false =>
      have q1 := q2 H2 s12
      rw [ck] at q1
      exact iteF q1
    | true =>
    refine iteT ⟨_, rfl, _, rfl, ?_⟩
    dsimp only [tNil]
    refine ⟨v, y, st, sn, rfl, fv.same s2, fy.same s12, by rw [mo.1, hsl], by omega, hsm, fun H3 s3 => ⟨_, _, rfl, rfl, ?_⟩⟩
    have q1 := q2 H3 (s12.trans s3)
    rw [ck] at q1
    exact q1
theorem scShw : FnScope ["book", "standing", "value"] ["book", "standing", "value"] (defScope pShows) := ⟨rfl, rfl, rfl, by decide +kernel, rfl, by decide +kernel, by decide +kernel⟩
theorem ok_shows {f C fN fT fR fE : Addr} {fd fdN fdT fdR fdE : FuncData} (F : Fun K "shows_sure" "shows_sure" pShows f fd) (B : BookC K mg C) (nL : mg "len" = none)
    (gN : mg "is_standing" = some (.ref fN)) (bN : Binds K fdN ["value", "many"] []) (kN : PySem.W.keepIn K (.ref fN) = true) (GN : FnOk P w K mg base CX0 3 fN fdN ["value", "many"] spStn)
    (gT : mg "is_told" = some (.ref fT)) (bT : Binds K fdT ["value", "word", "size"] []) (kT : PySem.W.keepIn K (.ref fT) = true) (GT : FnOk P w K mg base CX0 2 fT fdT ["value", "word", "size"] spToldA)
    (gR : mg "is_right" = some (.ref fR)) (bR : Binds K fdR ["manners", "facts", "aim", "value"] []) (kR : PySem.W.keepIn K (.ref fR) = true) (GR : FnOk P w K mg base CX0 7 fR fdR ["manners", "facts", "aim", "value"] spRightM)
    (gE : mg "is_refusing" = some (.ref fE)) (bE : Binds K fdE ["manners", "facts", "pairs", "value"] []) (kE : PySem.W.keepIn K (.ref fE) = true) (GE : FnOk P w K mg base CX0 5 fE fdE ["manners", "facts", "pairs", "value"] spRefA) :
    FnOk P w K mg base CX0 8 f fd ["book", "standing", "value"] (spShows C) := by
  refine F.ok scShw (fun vs H Q E h => ?_) (fun cdv A outer s H vs Q E hr h => ?_)
  · obtain ⟨b, x, js, fs, y, v, sn, d, rfl, _⟩ := h
    rfl
  · obtain ⟨b, x, js, fs, y, v, sn, d, rfl, hb, ok, fy, hl, hs, sh, hsh, q⟩ := h
    have hr2 : Room 2 _ := hr.mono (by decide)
    have hr3 : Room 3 _ := hr.mono (by decide)
    have hr5 : Room 5 _ := hr.mono (by decide)
    refine ⟨_, pss_cons (ps_if (pt_not (pt_val (pe_call GN hr3 (by rfl) gN kN bN .nil pass0 (pa_cons (pv 1) (pa_cons (pe_callB call_len_seq (by rfl) nL PySem.boot_len (pa_cons (pe_fld (pv 0) rfl) pa_nil)) pa_nil))))) (pss_one ps_no) pss_nil)
      (pss_cons (ps_if (pt_val (pe_call GT hr2 (by rfl) gT kT bT .nil pass0 (pa_cons (pv 2) (pa_cons pe_str (pa_cons pe_int pa_nil)))))
        (pss_one (ps_ret (pe_call GR hr (by rfl) gR kR bR .nil pass0 (pa_cons (pe_fld (pv 0) rfl) (pa_cons (pe_fld (pv 0) rfl) (pa_cons (pe_tup (pa_cons pe_int (pa_cons (pv 1) pa_nil))) (pa_cons (pe_ix ix_tup (pv 2) pe_int (fun _ _ => rfl)) pa_nil))))))) pss_nil)
      (pss_one (ps_ret (pe_and (pe_call GT hr2 (by rfl) gT kT bT .nil pass0 (pa_cons (pv 2) (pa_cons pe_str (pa_cons pe_int pa_nil))))
        (pe_one (pe_call GE hr5 (by rfl) gE kE bE .nil pass0 (pa_cons (pe_fld (pv 0) rfl) (pa_cons (pe_fld (pv 0) rfl) (pa_cons (pv 1) (pa_cons (pe_ix ix_tup (pv 2) pe_int (fun _ _ => rfl)) pa_nil)))))))))), ?rd⟩
    obtain ⟨dx, j, m, fi, a, eb, ej, em, ff, fa⟩ := id hb
    have n1 := ok.nm.l1
    have n4 := ok.nm.l4
    rw [List.length_map] at n1 n4
    have hfl : ∀ f ∈ fs, FLen sn.length f ∧ FSmall f := fun f h => by
      have z := ok.f.b f h
      rw [hl]
      cases f with
      | let_ s => exact ⟨z.1, z.2.small (by decide)⟩
      | not_ s => exact ⟨z.1, z.2.small (by decide)⟩
      | as_ s t => exact ⟨⟨z.1, z.2.2.1⟩, z.2.1.small (by decide), z.2.2.2.1.small (by decide)⟩
    have hmn : ∀ x ∈ js.map (·.2), x ∈ mans4 := fun x hx => by
      obtain ⟨p, hp, rfl⟩ := List.mem_map.mp hx
      exact ok.mn p hp
    have em' : H m = some (.tup ((js.map (·.2)).map V.str)) := by
      rw [← mans_of ok.nm.nd]
      exact em
    refine ⟨_, rfl, _, rfl, b, C, dx, _, _, rfl, eb, B.cl, B.nJ, b5_jobs _ _ _ _ _, j, _, rfl, .inr ej.sq, ?_⟩
    dsimp only [tNil]
    refine ⟨y, sn, js.length, by rw [List.length_map, List.length_map] <;> rfl, fy, by omega, fun H1 s1 => ?_⟩
    rw [okN_of hl hs]
    refine ⟨_, rfl, iteF ?_⟩
    refine ⟨_, rfl, ?_⟩
    dsimp only [tNil]
    refine ⟨v, d, "sure", 2, rfl, sh.same s1, by decide, fun H2 s2 => ⟨_, rfl, ?_⟩⟩
    have s12 := s1.trans s2
    cases c1 : toldB "sure" 2 d with
    | true =>
      obtain ⟨e, rfl⟩ := toldB_of c1
      obtain ⟨va, vx, rfl, hva, tv⟩ := sh_tup sh
      obtain ⟨w1, w2, rfl, g1, g2⟩ := tv.two
      obtain ⟨_, hsh2⟩ := hsh.t
      refine iteT ⟨_, rfl, b, C, dx, _, _, rfl, s12 _ _ eb, B.cl, B.nM, b5_manners _ _ _ _ _, _, rfl, b, C, dx, _, _, rfl, s12 _ _ eb, B.cl, B.nA, b5_facts _ _ _ _ _, _, rfl, (by show 2 ≤ sizeLine; decide), fun t nt => ?_⟩
      have st := same_new (o := .tup [.int 1, y]) nt
      have s3 := s12.trans st
      refine ⟨_, rfl, va, _, 1, _, rfl, rfl, SqT.of (s3 _ _ hva), at1, ?_⟩
      dsimp only [tNil]
      refine ⟨m, t, .ref a, y, w2, e, js.map (·.2), fs, (1, sn), rfl, s3 _ _ em', hmn, by rw [List.length_map]; exact n4, fa.same s3, upd_same, fy.same s3, by rw [List.length_map]; exact hl, by rw [List.length_map]; exact n1, (by decide : (-1000 : Int) ≤ 1 ∧ (1 : Int) ≤ 1000), hs.small (by decide), hfl, facts_len ok.f, g2.same s3, hsh2 e (by simp), fun H4 s4 => ?_⟩
      have z := q H4 (s3.trans s4)
      rw [shown_sure] at z
      exact z
    | false =>
      refine iteF ⟨_, rfl, ?_⟩
      dsimp only [tNil]
      refine ⟨v, d, "stock", 2, rfl, sh.same s12, by decide, fun H3 s3 => ⟨_, rfl, ?_⟩⟩
      have s13 := s12.trans s3
      cases c2 : toldB "stock" 2 d with
      | false =>
        have z := q H3 s13
        rw [shown_no c1 c2] at z
        exact iteF z
      | true =>
        obtain ⟨e, rfl⟩ := toldB_of c2
        obtain ⟨va, vx, rfl, hva, tv⟩ := sh_tup sh
        obtain ⟨w1, w2, rfl, g1, g2⟩ := tv.two
        refine iteT ⟨_, rfl, b, C, dx, _, _, rfl, s13 _ _ eb, B.cl, B.nM, b5_manners _ _ _ _ _, _, rfl, b, C, dx, _, _, rfl, s13 _ _ eb, B.cl, B.nA, b5_facts _ _ _ _ _, _, rfl, _, rfl, va, _, 1, _, rfl, rfl, SqT.of (s13 _ _ hva), at1, ?_⟩
        dsimp only [tNil]
        refine ⟨m, .ref a, y, w2, e, js.map (·.2), fs, sn, rfl, s13 _ _ em', hmn, by rw [List.length_map]; exact n4, fa.same s13, fy.same s13, by rw [List.length_map]; exact hl, hs.small (by decide), hfl, facts_len ok.f, g2.same s13, fun H4 s4 => ?_⟩
        have z := q H4 (s13.trans s4)
        rw [shown_stock] at z
        exact z
end
end K73
namespace GD
open PySem PySem.Spec PyProof.Rows L2 GM
theorem LoreOk.wide {most x2 x3 x4 x5 : Nat} {ms : List Str} {js : List (Str × Str)} {fs : List Fact} {sts : List Stk} (h : LoreOk most ms x2 x3 x4 x5 js fs sts) (h4 : most ≤ 4) (hm : ∀ m ∈ ms, m ∈ man6) : LoreOk 4 man6 x2 x3 x4 x5 js fs sts := by
  obtain ⟨jo, r⟩ := h
  exact ⟨⟨jo.1, Nat.le_trans jo.2.1 h4, jo.2.2.1, fun j hj => ⟨(jo.2.2.2 j hj).1, hm _ (jo.2.2.2 j hj).2⟩⟩, r⟩
open Classical in
/-- the word of what is sure -/
noncomputable def wordS (js : List (Str × Str)) (fs : List Fact) (s : Stn) : Str := if ∃ st, Fits (js.map (·.2)) fs (1, s) st then "stock" else "sure"
theorem word_sure {js : List (Str × Str)} {fs : List Fact} {s : Stn} : wordS js fs s = "sure" ↔ ¬ ∃ st, Fits (js.map (·.2)) fs (1, s) st := by
  unfold wordS
  constructor
  · intro h c
    rw [if_pos c] at h
    exact absurd h (by decide +kernel)
  · intro c
    rw [if_neg c]
/-- what sure told, read: its word, its value, and that it is shown -/
theorem told_read {js : List (Str × Str)} {fs : List Fact} {s : Stn} {d : PyData} (ok : JsOk js fs) (h : Told1 (basics (js.map (·.2))) fs (1, s) (js.map (·.2)).length d) :
    ∃ e, d = .tuple [.str (wordS js fs s), e] ∧ ShortT d ∧ (wordS js fs s = "sure" → ∃ m ws zs, e = eMx m ws zs ∧ MixOk (js.map (·.2)) fs (1, s) m ws zs) ∧ (wordS js fs s ≠ "sure" → wordS js fs s = "stock" ∧ ∃ st : Stk, e = eK st ∧ st.2.length = js.length ∧ Fits (js.map (·.2)) fs (1, s) st) := by
  have n1 := ok.nm.l1
  have n4 := ok.nm.l4
  rw [List.length_map] at n1 n4
  have hk : (js.map (·.2)).length = js.length := List.length_map ..
  have hm : ∀ x ∈ js.map (·.2), x ∈ mans4 := fun x hx => by
    obtain ⟨p, hp, rfl⟩ := List.mem_map.mp hx
    exact ok.mn p hp
  have hf : ∀ f ∈ fs, FLen (js.map (·.2)).length f := fun f h => by rw [hk]; exact (ok.f.b f h).flen
  have sh := told_short (by omega) (facts_len ok.f) h
  rcases h with ⟨g, st, rfl⟩ | ⟨a, pt, rfl⟩
  · obtain ⟨r, l, ft⟩ := stock_told hm (by omega) (by omega) hf st
    have e : wordS js fs s = "stock" := if_pos ⟨_, ft⟩
    refine ⟨_, by rw [e], sh, fun c => ?_, fun _ => ⟨e, _, rfl, by rw [l, hk], ft⟩⟩
    rw [e] at c
    exact absurd c (by decide +kernel)
  · obtain ⟨m, ws, zs, e1, o⟩ := right_iff.mp (parts_told pt)
    have e : wordS js fs s = "sure" := if_neg (mix_no o)
    refine ⟨_, by rw [eSure_eq, e], sh, fun _ => ⟨m, ws, zs, e1, o⟩, fun c => absurd e c⟩
theorem shown_mix {ms : List Str} {fs : List Fact} {s : Stn} {m : Int} {ws zs : List (Int × Int)} (o : MixOk ms fs (1, s) m ws zs) : shownB ms fs s (.tuple [.str "sure", eMx m ws zs]) = true := by
  rw [shown_sure]
  exact right_iff.mpr ⟨m, ws, zs, rfl, o⟩
/-- a standing near to one -/
def spNear : Sp := fun vs H Q _ => ∃ (a l : Addr) (y : V) (js : List (Str × Str)) (s : Stn) (n : Nat) (z : Int), vs = [.ref a, .ref l, y] ∧ PotAt H a z ∧ z ≤ 50000 ∧ l ≠ a ∧ LstAt H l (js.map eE) ∧ (∀ j ∈ js, j.1 ∈ pool21) ∧ 1 ≤ js.length ∧ js.length ≤ 10 ∧ Fz H y (eS s) ∧ s.length = js.length ∧ Bd n s ∧ n ≤ 30 ∧
  ∀ v (s' : Stn) H', PotAt H' a (z + 10) → Keep a H H' → Fz H' v (eS s') → s'.length = js.length → Bd ((n : Int) + 1) s' → Q v H'
theorem pool_strs : ∀ x ∈ pool21, PyData.strOk x = true := by decide +kernel
theorem can_eE {e : Str × Str} (h1 : PyData.strOk e.1 = true) (h2 : PyData.strOk e.2 = true) : (eE e).canLay0 = true := by
  rw [eE, PyData.canLay0]
  refine can_all fun d hd => ?_
  simp only [List.mem_cons, List.not_mem_nil, or_false] at hd
  rcases hd with rfl | rfl
  · rw [PyData.canLay0, h1]
  · rw [PyData.canLay0, h2]
theorem shape_evs {es : List (Str × Str)} (h : ∀ e ∈ es, PyData.strOk e.1 = true ∧ PyData.strOk e.2 = true) : SeqAt.shaped (.list (es.map eE)) = true := by
  refine shape_of ?_ ?_
  · rw [PyData.canLay0]
    exact can_all fun d hd => by
      obtain ⟨e, he, rfl⟩ := List.mem_map.mp hd
      exact can_eE (h e he).1 (h e he).2
  · rw [PyData.depth]
    have z := depth_all (n := 1) (ds := es.map eE) fun d hd => by
      obtain ⟨e, _, rfl⟩ := List.mem_map.mp hd
      simp [eE, PyData.depth, PyData.depthAll]
    omega
theorem evs_in {names : List Str} {e : Str × Str} (h : e ∈ evs names) : (e.1 = "begin" ∨ e.1 = "end") ∧ e.2 ∈ names := by
  unfold evs at h
  obtain ⟨n, hn, he⟩ := List.mem_flatMap.mp h
  simp only [List.mem_cons, List.not_mem_nil, or_false] at he
  rcases he with rfl | rfl
  · exact ⟨.inl rfl, hn⟩
  · exact ⟨.inr rfl, hn⟩
theorem eqv_nilL {ds : List PyData} (h : ds ≠ []) : PyData.eqv (.list ds) (.list []) = false := by
  cases ds with
  | nil => exact absurd rfl h
  | cons d r => rw [PyData.eqv, PyData.eqvAll]
end GD
namespace K73
open PySem PySem.Spec PyProof.Rows L2 GD GM
abbrev sNear : Stmt := top 96
section
variable {P : Program} {w : World} {K : PySem.W.Frag} {mg : Str → Option Value} {base : Heap}
abbrev NNr : List Str := ["_law_pot_here", "_law_jobs_here", "_law_standing_here", "_law_at", "_law_begun", "_law_ended"]
theorem scNr : FnScope NNr ["_law_pot_here", "_law_jobs_here", "_law_standing_here"] (defScope sNear) := ⟨rfl, rfl, rfl, by decide +kernel, rfl, by decide +kernel, by decide +kernel⟩
theorem ok_near {f fT fO fE fB : Addr} {fd fdT fdO fdE fdB : FuncData} (F : Fun K "_law_near" "_law_near" sNear f fd) (nL : mg "len" = none) (nM : mg "min" = none) (nX : mg "max" = none)
    (gT : mg "_law_take" = some (.ref fT)) (bTk : Binds K fdT ["_law_pot_here", "_law_upto"] []) (kT : PySem.W.keepIn K (.ref fT) = true) (GT : FnOk P w K mg base CX0 1 fT fdT ["_law_pot_here", "_law_upto"] spTake)
    (gO : mg "_law_of" = some (.ref fO)) (bO : Binds K fdO ["_law_pot_here", "_law_some_here"] []) (kO : PySem.W.keepIn K (.ref fO) = true) (GO : FnOk P w K mg base CX0 2 fO fdO ["_law_pot_here", "_law_some_here"] (spOf K))
    (gE : mg "_law_events" = some (.ref fE)) (bE : Binds K fdE ["_law_jobs_here", "_law_standing_here"] []) (kE : PySem.W.keepIn K (.ref fE) = true) (GE : FnOk P w K mg base CX0 3 fE fdE ["_law_jobs_here", "_law_standing_here"] (spEvents K))
    (gB : mg "_law_behind" = some (.ref fB)) (bB : Binds K fdB ["_law_jobs_here", "_law_standing_here", "_law_event"] []) (kB : PySem.W.keepIn K (.ref fB) = true) (GB : FnOk P w K mg base CX0 1 fB fdB ["_law_jobs_here", "_law_standing_here", "_law_event"] (spBehind K)) :
    FnOk P w K mg base CX0 4 f fd ["_law_pot_here", "_law_jobs_here", "_law_standing_here"] spNear := by
  refine F.ok scNr (fun vs H Q E h => ?_) (fun cdv A outer s H vs Q E hr h => ?_)
  · obtain ⟨a, l, y, js, sn, n, z, rfl, _⟩ := h
    rfl
  · obtain ⟨a, l, y, js, sn, n, z, rfl, hp, hz, hla, hj, hpool, hj1, hj10, fy, hl, hb, hn, q⟩ := h
    have hr1 : Room 1 _ := hr.mono (by decide)
    have hr2 : Room 2 _ := hr.mono (by decide)
    refine ⟨_, pss_cons (ps_if (pw_and (pt_cmpR op_eq (pe_call GT hr1 (by rfl) gT kT bTk .nil pass0 (pa_cons (pv 0) (pa_cons pe_int pa_nil))) pe_int (nomark _))
          (pw_and1 (pt_cmpR (op_neD hr.units) (pe_call GE hr (by rfl) gE kE bE .nil pass0 (pa_cons (pv 1) (pa_cons (pv 2) pa_nil))) (pe_lst pa_nil) (nomark _)))).pt
        (pss_one (ps_ret (pe_call GB hr1 (by rfl) gB kB bB .nil pass0 (pa_cons (pv 1) (pa_cons (pv 2) (pa_cons (pe_call GO hr2 (by rfl) gO kO bO .nil pass0 (pa_cons (pv 0) (pa_cons (pe_call GE hr (by rfl) gE kE bE .nil pass0 (pa_cons (pv 1) (pa_cons (pv 2) pa_nil))) pa_nil))) pa_nil)))))) pss_nil)
      (pss_cons (ps_set (i := 3) scNr.nd rfl (.inl rfl) (pe_call GT hr1 (by rfl) gT kT bTk .nil pass0 (pa_cons (pv 0) (pa_cons (pe_callB call_len_seq (by rfl) nL PySem.boot_len (pa_cons (pv 1) pa_nil)) pa_nil))))
      (pss_cons (ps_asg (pe_ix ix_tup (pv 2) (pv 3) (fun _ _ => rfl)) (pg_tup rfl (pgs_cons (pg_name (i := 4) scNr.nd rfl (.inl rfl)) (pgs_cons (pg_name (i := 5) scNr.nd rfl (.inl rfl)) pgs_nil))))
      (pss_cons (ps_set (i := 4) scNr.nd rfl (.inl rfl) (pe_callB (call_max2 rfl) (by rfl) nX (by decide +kernel) (pa_cons pe_int (pa_cons (pe_op op_sub (pv 4) (pe_call GT hr1 (by rfl) gT kT bTk .nil pass0 (pa_cons (pv 0) (pa_cons pe_int pa_nil)))) pa_nil))))
      (pss_one (ps_ret (pe_op op_catA (pe_op op_catA (pe_slice sl_tupA (pv 2) po_none (po_some (pv 3)))
          (pe_tup (pa_cons (pe_tup (pa_cons (pv 4) (pa_cons (pe_callB (call_min2 rfl) (by rfl) nM (by decide +kernel) (pa_cons (pv 4) (pa_cons (pe_call GT hr1 (by rfl) gT kT bTk .nil pass0 (pa_cons (pv 0) (pa_cons (pe_op op_add (pv 5) pe_int) pa_nil))) pa_nil))) pa_nil))) pa_nil)))
          (pe_slice sl_tupA (pv 2) (po_some (pe_op op_add (pv 3) pe_int)) po_none))))))), ?rd⟩
    have names0 : js.map (·.1) ≠ [] := fun e => by
      have z2 := congrArg List.length e
      rw [List.length_map] at z2
      have z3 : js.length = 0 := z2
      omega
    have rest : ∀ {H1 : Hp} {z1 : Int}, PotAt H1 a z1 → z1 ≤ z + 2 → Keep a H H1 → ∀ {Qr : VK}, (∀ v (s' : Stn) H', PotAt H' a (z + 10) → Keep a H H' → Fz H' v (eS s') → s'.length = js.length → Bd ((n : Int) + 1) s' → Qr v H') → True := fun _ _ _ _ _ => trivial
    clear rest
    refine ⟨_, rfl, ?_⟩
    dsimp only [tNil]
    refine ⟨a, 2, z, rfl, hp, by omega, by omega, by omega, fun k H1 k0 k1 p1 k1' => ⟨rfl, _, rfl, ?_⟩⟩
    have live : ∀ {H'}, Keep a H H' → LstAt H' l (js.map eE) ∧ Fz H' y (eS sn) := fun kp => ⟨hj.keep hla kp (hp.tups kp), fy.mv (hp.tups kp)⟩
    have tail : ∀ {z1 : Int} {H2 : Hp} {D : Ends}, PotAt H2 a z1 → z1 ≤ z + 2 → Keep a H H2 → True := fun _ _ _ => trivial
    clear tail
    by_cases c : k = 0
    · subst c
      refine iteT ⟨_, rfl, _, rfl, ?_⟩
      dsimp only [tNil]
      have nes := events_some (names := js.map (·.1)) hb (by omega) names0 (by rw [hl, List.length_map])
      have hall : ∀ e ∈ (evs (js.map (·.1))).filter (canS (js.map (·.1)) sn), PyData.strOk e.1 = true ∧ PyData.strOk e.2 = true := fun e he => by
        obtain ⟨h1, h2⟩ := evs_in (List.mem_filter.mp he).1
        obtain ⟨j, hj', e2⟩ := List.mem_map.mp h2
        refine ⟨?_, by rw [← e2]; exact pool_strs _ (hpool j hj')⟩
        rcases h1 with h1 | h1
        · rw [h1]
          decide +kernel
        · rw [h1]
          decide +kernel
      refine ⟨l, y, js, sn, rfl, (live k1').1, (live k1').2, hl, hj10, fun p H2 s2 np lp => ?_⟩
      refine ⟨(by show 0 ≤ sizeLine; decide), fun t nt => ?_⟩
      have st := same_new (o := .lst []) nt
      refine ⟨.list (((evs (js.map (·.1))).filter (canS (js.map (·.1)) sn)).map eE), .list [], (lp.same st).dp, LstAt.dp ⟨[], upd_same, .nil⟩, shape_evs hall, by decide, _, rfl, ?_⟩
      rw [eqv_nilL fun e => nes (List.map_eq_nil_iff.mp e)]
      refine iteT ?_
      have K3 := k1'.trans (sKeep (s2.trans st))
      have p3 := p1.same (s2.trans st)
      refine ⟨_, rfl, _, rfl, _, rfl, _, rfl, _, rfl, ?_⟩
      dsimp only [tNil]
      refine ⟨l, y, js, sn, rfl, (live K3).1, (live K3).2, hl, hj10, fun p2 H4 s4 np2 lp2 => ?_⟩
      have K4 := K3.trans (sKeep s4)
      have p4 := p3.same s4
      obtain ⟨xe, ee, fe⟩ := lp2
      have lxe : xe.length ≤ 20 := by
        rw [fe.len, List.length_map]
        refine Nat.le_trans (List.length_filter_le _ _) ?_
        rw [evs_len, List.length_map]
        omega
      refine ⟨a, p2, xe, z + 1, rfl, p4, by omega, p3.ne np2, ee, ?_, by omega, fun ev H5 hv p5 k5 => ?_⟩
      · intro e
        rw [e] at fe
        have z2 := fe.len
        rw [List.length_map] at z2
        exact nes (List.eq_nil_of_length_eq_zero z2.symm)
      obtain ⟨de, hde, fde⟩ := Fz.has fe hv
      obtain ⟨e, hme, rfl⟩ := List.mem_map.mp hde
      obtain ⟨hme1, hcan⟩ := List.mem_filter.mp hme
      have K5 := K4.trans k5
      have hem := event_job hme1
      have hix : ixOf (js.map (·.1)) e.2 < sn.length := by
        rw [hl, ← List.length_map (f := (·.1))]
        exact ixOf_lt hem
      refine ⟨l, y, ev, js, sn, e, rfl, (live K5).1, (live K5).2, fde.mv (p4.tups k5), hl, hj10, hem, fun bv H6 s6 f6 => ?_⟩
      exact q bv _ H6 ((p5.same s6).le (by omega)) (K5.trans (sKeep s6)) f6 (by rw [behS_len hix, hl]) (bd_beh hb hix hcan)
    · rw [show decide (V.int k = V.int 0) = false from decide_eq_false fun e => c (V.int.inj e)]
      refine iteF ?_
      obtain ⟨xj, ej, fj⟩ := (live k1').1
      have lxj : xj.length = js.length := by rw [fj.len, List.length_map]
      refine ⟨_, rfl, _, rfl, l, _, rfl, .inl (SqL.of ej), ?_⟩
      dsimp only [tNil]
      refine ⟨a, (xj.length : Int), z + 1, rfl, p1, by omega, by omega, by omega, fun kk H2 j0 j1 p2 k2 => ?_⟩
      obtain ⟨i, rfl⟩ := Int.eq_ofNat_of_zero_le j0
      have hi : i < sn.length := by omega
      have K2 := k1'.trans k2
      obtain ⟨ya, ys, rfl, hya, fys⟩ := (live K2).2.t
      obtain ⟨u, hu, fu⟩ := fys.getM (i := i) (j := sn[i]) (List.getElem?_eq_getElem hi)
      obtain ⟨ub, u1, u2, rfl, hub, g1, g2⟩ := fu.t2
      obtain rfl := g1.i
      obtain rfl := g2.i
      obtain ⟨b0, b1, b2⟩ := hb sn[i] (List.getElem_mem hi)
      refine ⟨_, rfl, _, rfl, ya, _, (i : Nat), _, rfl, rfl, SqT.of hya, atI_nat hu, ub, _, rfl, SqT.of hub, rfl, _, _, rfl, _, _, rfl, rfl, ?_⟩
      refine ⟨_, rfl, _, rfl, ?_⟩
      dsimp only [tNil]
      refine ⟨a, 2, z + 1 + 1, rfl, p2, by omega, by omega, by omega, fun m H3 m0 m1 p3 k3 => ?_⟩
      refine ⟨_, _, rfl, rfl, _, _, rfl, ?_⟩
      have K3 := K2.trans k3
      obtain ⟨B, hB, B0, B1⟩ : ∃ B : Int, (if sn[i].1 - m > 0 then sn[i].1 - m else 0) = B ∧ 0 ≤ B ∧ B ≤ sn[i].1 := by
        refine ⟨_, rfl, ?_, ?_⟩
        · split <;> omega
        · split <;> omega
      rw [hB]
      refine ⟨_, rfl, _, rfl, i, rfl, ?_⟩
      dsimp only [tNoPart]
      refine slice_fz (live K3).2 fun v1 H4 s4 f4 => ?_
      rw [cut_to (by rw [List.length_map]; omega)] at f4
      have K4 := K3.trans (sKeep s4)
      have p4 := p3.same s4
      refine ⟨_, rfl, _, rfl, _, rfl, _, rfl, _, _, rfl, rfl, ?_⟩
      dsimp only [tNil]
      refine ⟨a, sn[i].2 + 2, z + 1 + 1 + 1, rfl, p4, by omega, by omega, by omega, fun e H5 e0 e1 p5 k5 => ?_⟩
      refine ⟨_, _, rfl, ?_⟩
      obtain ⟨E2, hE, E0, E1⟩ : ∃ E2 : Int, (if e < B then e else B) = E2 ∧ 0 ≤ E2 ∧ E2 ≤ B := by
        refine ⟨_, rfl, ?_, ?_⟩
        · split <;> omega
        · split <;> omega
      rw [hE]
      have K5 := K4.trans k5
      refine ⟨(by show 2 ≤ sizeLine; decide), fun t1 nt1 => ?_⟩
      have s6 := same_new (o := .tup [.int B, .int E2]) nt1
      have f6 : Fz (upd H5 t1 (.tup [.int B, .int E2])) (.ref t1) (eP (B, E2)) := .tup upd_same (.cons (.int _) (.cons (.int _) .nil))
      generalize upd H5 t1 (.tup [.int B, .int E2]) = H6 at s6 f6 ⊢
      refine ⟨(by show 1 ≤ sizeLine; decide), fun t2 nt2 => ?_⟩
      have s7 := same_new (o := .tup [.ref t1]) nt2
      have f7 : Fz (upd H6 t2 (.tup [.ref t1])) (.ref t2) (.tuple ([(B, E2)].map eP)) := .tup upd_same (.cons (f6.same s7) .nil)
      generalize upd H6 t2 (.tup [.ref t1]) = H7 at s7 f7 ⊢
      have p7 := p5.same (s6.trans s7)
      have K7 := K5.trans (sKeep (s6.trans s7))
      refine cat_fz ((f4.mv (p4.tups k5)).same (s6.trans s7)) f7 ?_ fun v8 H8 s8 f8 => ?_
      · rw [List.length_take, List.length_map, List.length_map]
        show _ + 1 ≤ 1000
        omega
      refine ⟨_, rfl, _, rfl, _, _, rfl, rfl, (i : Int) + 1, rfl, ?_⟩
      dsimp only [tNoPart]
      have K8 := K7.trans (sKeep s8)
      refine slice_fz (live K8).2 fun v9 H9 s9 f9 => ?_
      rw [show ((i : Int) + 1) = ((i + 1 : Nat) : Int) by omega, cut_from (by rw [List.length_map]; omega)] at f9
      refine cat_fz (f8.same s9) f9 ?_ fun v10 H10 s10 f10 => ?_
      · rw [List.length_append, List.length_take, List.length_drop, List.length_map, List.length_map]
        show _ + 1 + _ ≤ 1000
        omega
      rw [← List.map_take, ← List.map_drop, ← List.map_append, ← List.map_append] at f10
      refine q v10 (sn.take i ++ [(B, E2)] ++ sn.drop (i + 1)) H10 ((p7.same (s8.trans (s9.trans s10))).le (by omega)) (K8.trans (sKeep (s9.trans s10))) f10 ?_ fun r hr => ?_
      · rw [List.length_append, List.length_append, List.length_take, List.length_drop]
        show _ + 1 + _ = _
        omega
      · rcases List.mem_append.mp hr with hr | hr
        · rcases List.mem_append.mp hr with hr | hr
          · have := hb r (List.mem_of_mem_take hr)
            omega
          · rw [List.mem_singleton.mp hr]
            show 0 ≤ E2 ∧ E2 ≤ B ∧ B ≤ (n : Int) + 1
            omega
        · have := hb r (List.mem_of_mem_drop hr)
          omega
end
end K73
namespace GD
open PySem PySem.Spec PyProof.Rows L2 GM
/-- the jobs, one of them of another manner -/
def setM (n m : Str) (js : List (Str × Str)) : List (Str × Str) := js.map fun j => (j.1, if j.1 = n then m else j.2)
theorem setM_names (n m : Str) (js : List (Str × Str)) : (setM n m js).map (·.1) = js.map (·.1) := by
  unfold setM
  rw [List.map_map]
  exact List.map_congr_left fun j _ => rfl
theorem setM_len (n m : Str) (js : List (Str × Str)) : (setM n m js).length = js.length := List.length_map ..
theorem setM_at {n m : Str} {js : List (Str × Str)} {i : Nat} {x : Str} (h : ((setM n m js).map (·.2))[i]? = some x) : ∃ j, js[i]? = some j ∧ x = if j.1 = n then m else j.2 := by
  unfold setM at h
  rw [List.map_map, List.getElem?_map] at h
  cases e : js[i]? with
  | none =>
    rw [e] at h
    cases h
  | some j =>
    rw [e] at h
    exact ⟨j, rfl, (Option.some.inj h).symm⟩
theorem JsOk.setM {n m : Str} {js : List (Str × Str)} {fs : List Fact} (h : JsOk js fs) (hm : m ∈ man4) : JsOk (GD.setM n m js) fs := by
  refine ⟨by rw [setM_names]; exact h.nm, fun j hj => ?_, by rw [setM_len]; exact h.f⟩
  obtain ⟨j0, h0, rfl⟩ := List.mem_map.mp hj
  show (if j0.1 = n then m else j0.2) ∈ man4
  split
  · exact hm
  · exact h.mn j0 h0
theorem mans_less {n m : Str} {js : List (Str × Str)} (hp : ∀ j ∈ js, j.2 = ("plain" : Str)) (hm : ∀ c, MOk m c → MOk "plain" c) : MansLe ((setM n m js).map (·.2)) (js.map (·.2)) := by
  refine mans_le (by rw [List.length_map, List.length_map, setM_len]) fun i m' m0 e1 e2 c o => ?_
  obtain ⟨j, hj, rfl⟩ := setM_at e1
  rw [List.getElem?_map, hj] at e2
  obtain rfl := Option.some.inj e2
  have pl := hp j (List.mem_of_getElem? hj)
  dsimp only
  rw [pl]
  split at o
  · exact hm c o
  · rw [pl] at o
    exact o
theorem mans_more {n : Str} {js : List (Str × Str)} : MansLe (js.map (·.2)) ((setM n "free" js).map (·.2)) := by
  refine mans_le (by rw [List.length_map, List.length_map, setM_len]) fun i m' m0 e1 e2 c o => ?_
  obtain ⟨j, hj, rfl⟩ := setM_at e2
  rw [List.getElem?_map, hj] at e1
  obtain rfl := Option.some.inj e1
  split
  · exact mok_free c
  · exact o
theorem word_le {js js' : List (Str × Str)} {fs : List Fact} {s : Stn} (h : MansLe (js'.map (·.2)) (js.map (·.2))) (e : wordS js fs s = "sure") : wordS js' fs s = "sure" := word_sure.mpr fun ⟨st, f⟩ => word_sure.mp e ⟨st, f.le h⟩
def spMLore : Sp := fun vs H Q _ => ∃ (d : Addr) (n m : Str) (js : List (Str × Str)) (fs : List Fact), vs = [.ref d, .str n, .str m] ∧ Lines H d js fs ∧ js.length ≤ 10 ∧ ∀ d' H', Same H H' → H d' = none → Lines H' d' (setM n m js) fs → Q (.ref d') H'
def spAreRt : Sp := fun vs H Q _ => ∃ (d : Addr) (y : V) (n : Str) (js : List (Str × Str)) (fs : List Fact) (s : Stn), vs = [.ref d, y, .str n] ∧ Lines H d js fs ∧ JsOk js fs ∧ (∀ j ∈ js, j.2 = ("plain" : Str)) ∧ Fz H y (eS s) ∧ s.length = js.length ∧ Bd 40 s ∧ ∀ H', Same H H' → Q (.bl true) H'
theorem two_str {v : V} {i : Nat} (h : ([.str "clean", .str "spent"] : List V)[i]? = some v) : ∃ m : Str, v = .str m ∧ (m = "clean" ∨ m = "spent") := by
  match i, h with
  | 0, h => exact ⟨"clean", (Option.some.inj h).symm, .inl rfl⟩
  | 1, h => exact ⟨"spent", (Option.some.inj h).symm, .inr rfl⟩
  | i + 2, h => cases h
end GD
namespace K73
open PySem PySem.Spec PyProof.Rows L2 GD GM
abbrev sMLore : Stmt := top 95
abbrev sAreRt : Stmt := top 97
section
variable {P : Program} {w : World} {K : PySem.W.Frag} {mg : Str → Option Value} {base : Heap}
abbrev NMl : List Str := ["_law_lore_here", "_law_name", "_law_manner", "_law_jobs_here", "_law_job", "_law_own"]
theorem scMl : FnScope NMl ["_law_lore_here", "_law_name", "_law_manner"] (defScope sMLore) := ⟨rfl, rfl, rfl, by decide +kernel, rfl, by decide +kernel, by decide +kernel⟩
theorem ok_mlore {f : Addr} {fd : FuncData} (F : Fun K "_law_manner_lore" "_law_manner_lore" sMLore f fd) : FnOk P w K mg base CX0 1 f fd ["_law_lore_here", "_law_name", "_law_manner"] spMLore := by
  refine F.ok scMl (fun vs H Q E h => ?_) (fun cdv A outer s H vs Q E hr h => ?_)
  · obtain ⟨d, n, m, js, fs, rfl, _⟩ := h
    rfl
  · obtain ⟨d, n, m, js, fs, rfl, ⟨kvs, lj, lf, ed, vj, vf, ⟨xj, ej, fj⟩, ⟨xf, ef, ff⟩⟩, hjl, q⟩ := h
    refine ⟨_, pss_cons (ps_setLc (i := 3) (own := [("_law_job", 4), ("_law_own", 5)]) (g := gTup K 2 (gCons (gName 4) (gCons (gName 5) gNil))) (tt := tYes) rfl scMl.nd rfl rfl (sw_true rfl rfl rfl (by decide +kernel)) (pi_list (pe_dget (u1 hr) (pv 0) pe_str (fun _ _ => rfl))) (blkOk_by (N := NMl) (sc := defScope sMLore) (by decide +kernel))
          (fun _ _ _ _ _ => pg_tup rfl (pgs_cons (pg_name (i := 4) scMl.nd rfl (.inl rfl)) (pgs_cons (pg_name (i := 5) scMl.nd rfl (.inl rfl)) pgs_nil))) (fun _ _ _ _ _ => pts_nil)
          (fun _ _ _ _ _ => pe_tup (pa_cons (pv 4) (pa_cons (pe_ifExp (pt_cmpR op_eq (pv 4) (pv 1) (nomark _)) (pv 2) (pv 5)) pa_nil))))
      (pss_one (ps_ret (pe_disp (pps_cons pe_str (pv 3) (pps_cons pe_str (pe_dget (u1 hr) (pv 0) pe_str (fun _ _ => rfl)) (pps_cons pe_str (pe_lst pa_nil) pps_nil))) (by rfl) (by rfl) (fun z => by cases z) (by show 3 ≤ 15; decide)))), ?rd⟩
    have lxj : xj.length = js.length := by rw [fj.len, List.length_map]
    have dg1 : ∀ {H' : Hp}, Same H H' → DGet H' d (.str "jobs") (some (.ref lj)) := fun s => by
      have z := DGet.k (k := .inr "jobs") (s _ _ ed)
      rw [vj] at z
      exact z
    have dg2 : ∀ {H' : Hp}, Same H H' → DGet H' d (.str "facts") (some (.ref lf)) := fun s => by
      have z := DGet.k (k := .inr "facts") (s _ _ ed)
      rw [vf] at z
      exact z
    refine ⟨_, rfl, d, _, rfl, dg1 (Same.refl _), lj, rfl, ⟨_, SqL.of ej⟩, fun D hD => ?_⟩
    refine lc_it (walk_list (K := K) (a := lj) (xs := xj)) (fun i H' => Same H H' ∧ ∃ acc, H' D = some (.lst acc) ∧ FzAll H' acc ((setM n m (js.take i)).map eE)) ⟨same_new hD, [], upd_same, .nil⟩ (fun i H' _ ⟨z, _⟩ => SqL.of (z _ _ ej)) ?_ ?_
    · rintro i v H2 H1 hi ⟨z, acc, eD, fa⟩ ⟨rfl, hv⟩
      obtain ⟨j, hj, fv⟩ := fj.atM hv
      have hij : i < js.length := (List.getElem?_eq_some_iff.mp hj).1
      obtain ⟨jn, jm⟩ := j
      obtain ⟨b, x1, y1, rfl, hb, f1, f2⟩ := fv.t2
      obtain rfl := f1.s
      obtain rfl := f2.s
      have la : acc.length = i := by rw [fa.len, List.length_map, setM_len, List.length_take]; omega
      refine ⟨b, _, rfl, SqT.of (z _ _ hb), rfl, _, _, rfl, _, _, rfl, rfl, rfl, ?_⟩
      refine ⟨_, rfl, _, rfl, _, rfl, rfl, _, rfl, ?_⟩
      refine ite_kv (fun v H' => v = .str (if jn = n then m else jm) ∧ H' = H1) (fun v H' ⟨e1, e2⟩ => ?_) (fun key => ?_)
      · subst e1 e2
        refine ⟨(by show 2 ≤ sizeLine; decide), fun t nt => ?_⟩
        have st := same_new (o := .tup [.str jn, .str (if jn = n then m else jm)]) nt
        have et := st _ _ eD
        refine ⟨acc, et, ?_, same_upd (z.trans st) hD, acc ++ [.ref t], upd_same, FzAll.mv (tups_lst et) ?_⟩
        · rw [la]
          exact Nat.lt_of_lt_of_le (show i < 20 by omega) (by decide)
        · unfold setM
          rw [GD.take_next hj, List.map_append, List.map_append]
          exact (fa.same st).snoc (.tup upd_same (.cons (.str _) (.cons (.str _) .nil)))
      · refine ite2 (fun c => ?_) (fun c => ?_)
        · have c' : jn = n := V.str.inj (of_decide_eq_true c)
          exact ⟨_, rfl, key _ _ ⟨by rw [if_pos c'], rfl⟩⟩
        · have c' : ¬ jn = n := fun z => c (decide_eq_true (congrArg V.str z))
          exact ⟨_, rfl, key _ _ ⟨by rw [if_neg c'], rfl⟩⟩
    rintro H1 ⟨z, acc, eD, fa⟩
    rw [lxj, List.take_length] at fa
    intro d' nd
    have s0 := same_new (o := .dK []) nd
    have e0 : (upd H1 d' (.dK [])) d' = some (.dK []) := upd_same
    generalize upd H1 d' (.dK []) = H2 at s0 e0 ⊢
    have z2 := z.trans s0
    refine ⟨_, rfl, _, rfl, d, _, rfl, dg2 z2, (by show 0 ≤ sizeLine; decide), fun p7 np7 => ?_⟩
    have s7 := same_new (o := .lst []) np7
    have zA := z2.trans s7
    have e7 := s7 _ _ (s0 _ _ eD)
    have ef7 := zA _ _ ef
    have fa7 := fa.same (s0.trans s7)
    have ff7 := ff.same zA
    have ed7 := s7 _ _ e0
    generalize upd H2 p7 (.lst []) = H9 at e7 ef7 fa7 ff7 zA ed7 ⊢
    refine ⟨ed7, [(.inr "jobs", .ref D), (.inr "facts", .ref lf), (.inr "stocks", .ref p7)], rfl, (by show 3 ≤ 15; decide), ?_⟩
    have nd0 : H d' = none := z.free nd
    have n1 : D ≠ d' := ne_of e7 ed7 (fun z => by cases z)
    have n2 : lf ≠ d' := ne_of ef7 ed7 (fun z => by cases z)
    have tU : Tups H9 (upd H9 d' (.dK [(.inr "jobs", .ref D), (.inr "facts", .ref lf), (.inr "stocks", .ref p7)])) := tups_dK ed7
    exact q d' _ (same_upd zA nd0) nd0 ⟨_, D, lf, upd_same, rfl, rfl, ⟨acc, by rw [upd_ne n1]; exact e7, fa7.mv tU⟩, ⟨xf, by rw [upd_ne n2]; exact ef7, ff7.mv tU⟩⟩
abbrev NAr : List Str := ["_law_lore_here", "_law_standing_here", "_law_name", "_law_plain", "_law_told", "_law_manner", "_law_other", "_law_free"]
theorem scAr : FnScope NAr ["_law_lore_here", "_law_standing_here", "_law_name"] (defScope sAreRt) := ⟨rfl, rfl, rfl, by decide +kernel, rfl, by decide +kernel, by decide +kernel⟩
theorem ok_areright {f CB fLB fM fSu fSh : Addr} {fd fdLB fdM fdSu fdSh : FuncData} (F : Fun K "_law_are_right" "_law_are_right" sAreRt f fd)
    (gLB : mg "_law_book" = some (.ref fLB)) (bLB : Binds K fdLB ["_law_lore_here"] []) (kLB : PySem.W.keepIn K (.ref fLB) = true) (GLB : FnOk P w K mg base CX0 8 fLB fdLB ["_law_lore_here"] (spLawBook CB))
    (gM : mg "_law_manner_lore" = some (.ref fM)) (bM : Binds K fdM ["_law_lore_here", "_law_name", "_law_manner"] []) (kM : PySem.W.keepIn K (.ref fM) = true) (GM : FnOk P w K mg base CX0 1 fM fdM ["_law_lore_here", "_law_name", "_law_manner"] spMLore)
    (gSu : mg "sure" = some (.ref fSu)) (bSu : Binds K fdSu ["book", "standing"] []) (kSu : PySem.W.keepIn K (.ref fSu) = true) (GSu : FnOk P w K mg base CX0 7 fSu fdSu ["book", "standing"] (spSure CB))
    (gSh : mg "shows_sure" = some (.ref fSh)) (bSh : Binds K fdSh ["book", "standing", "value"] []) (kSh : PySem.W.keepIn K (.ref fSh) = true) (GSh : FnOk P w K mg base CX0 8 fSh fdSh ["book", "standing", "value"] (spShows CB)) :
    FnOk P w K mg base CX0 9 f fd ["_law_lore_here", "_law_standing_here", "_law_name"] spAreRt := by
  refine F.ok scAr (fun vs H Q E h => ?_) (fun cdv A outer s H vs Q E hr h => ?_)
  · obtain ⟨d, y, n, js, fs, sn, rfl, _⟩ := h
    rfl
  · obtain ⟨d, y, n, js, fs, sn, rfl, lines, ok, hpl, fy, hl, hb, q⟩ := h
    have hr1 : Room 1 _ := hr.mono (by decide)
    have hr7 : Room 7 _ := hr.mono (by decide)
    refine ⟨_, pss_cons (ps_par (i := 3) (j := 4) rfl scAr.nd rfl rfl (by decide) rfl rfl (pa_cons (pe_call GLB hr (by rfl) gLB kLB bLB .nil pass0 (pa_cons (pv 0) pa_nil))
          (pa_cons (pe_call GSu hr7 (by rfl) gSu kSu bSu .nil pass0 (pa_cons (pe_call GLB hr (by rfl) gLB kLB bLB .nil pass0 (pa_cons (pv 0) pa_nil)) (pa_cons (pv 1) pa_nil))) pa_nil)) (by rfl))
      (pss_cons (ps_for PassesOwn.never rfl (pi_tup (pe_tup (pa_cons pe_str (pa_cons pe_str pa_nil)))) (pg_name (i := 5) scAr.nd rfl (.inl rfl))
        (pss_cons (ps_set (i := 6) scAr.nd rfl (.inl rfl) (pe_call GLB hr (by rfl) gLB kLB bLB .nil pass0 (pa_cons (pe_call GM hr1 (by rfl) gM kM bM .nil pass0 (pa_cons (pv 0) (pa_cons (pv 2) (pa_cons (pv 5) pa_nil)))) pa_nil)))
        (pss_one (ps_if (pt_cmpR op_eq (pe_ix ix_tup (pv 4) pe_int (fun _ _ => rfl)) pe_str (nomark _))
          (pss_one (ps_if (pw_or (pt_cmpR op_ne (pe_ix ix_tup (pe_call GSu hr7 (by rfl) gSu kSu bSu .nil pass0 (pa_cons (pv 6) (pa_cons (pv 1) pa_nil))) pe_int (fun _ _ => rfl)) pe_str (nomark _))
            (pw_or1 (pt_cmpR op_isnot_bl (pe_call GSh hr (by rfl) gSh kSh bSh .nil pass0 (pa_cons (pv 6) (pa_cons (pv 1) (pa_cons (pv 4) pa_nil)))) pe_bl (nomark _)))).pt (pss_one (ps_ret pe_bl)) pss_nil)) pss_nil))))
      (pss_cons (ps_set (i := 7) scAr.nd rfl (.inl rfl) (pe_call GSu hr7 (by rfl) gSu kSu bSu .nil pass0 (pa_cons (pe_call GLB hr (by rfl) gLB kLB bLB .nil pass0 (pa_cons (pe_call GM hr1 (by rfl) gM kM bM .nil pass0 (pa_cons (pv 0) (pa_cons (pv 2) (pa_cons pe_str pa_nil)))) pa_nil)) (pa_cons (pv 1) pa_nil))))
      (pss_cons (ps_if (pt_cmpR op_eq (pe_ix ix_tup (pv 7) pe_int (fun _ _ => rfl)) pe_str (nomark _))
        (pss_one (ps_ret (pe_and (pe_cmpR op_eq (pe_ix ix_tup (pv 4) pe_int (fun _ _ => rfl)) pe_str (nomark _)) (pe_one (pe_cmpR op_is_bl (pe_call GSh hr (by rfl) gSh kSh bSh .nil pass0 (pa_cons (pv 3) (pa_cons (pv 1) (pa_cons (pv 7) pa_nil)))) pe_bl (nomark _)))))) pss_nil)
      (pss_one (ps_ret pe_bl))))), ?rd⟩
    have n4 := ok.nm.l4
    rw [List.length_map] at n4
    have okM : ∀ {m : Str}, m ∈ man4 → JsOk (setM n m js) fs := fun hm => ok.setM hm
    have linesS : ∀ {H'}, Same H H' → Lines H' d js fs := fun s => by
      obtain ⟨kvs, lj, lf, e1, e2, e3, e4, e5⟩ := lines
      exact ⟨kvs, lj, lf, s _ _ e1, e2, e3, e4.same s, e5.same s⟩
    refine ⟨_, rfl, ?_⟩
    dsimp only [tNil]
    refine ⟨d, js, fs, rfl, lines, ok, fun b1 H1 s1 nb1 bk1 => ?_⟩
    refine ⟨_, rfl, ?_⟩
    dsimp only [tNil]
    refine ⟨d, js, fs, rfl, linesS s1, ok, fun b2 H2 s2 nb2 bk2 => ?_⟩
    have s12 := s1.trans s2
    refine ⟨_, rfl, ?_⟩
    dsimp only [tNil]
    refine ⟨b2, _, js, fs, y, sn, rfl, bk2, ok, fy.same s12, hl, hb, fun tv H3 dd s3 td ft => ?_⟩
    have s13 := s12.trans s3
    obtain ⟨e, rfl, sh, hsu, hst⟩ := told_read ok td
    obtain ⟨ta, t1, t2, rfl, hta, ft1, ft2⟩ := id ft.t2
    obtain rfl := ft1.s
    have bk := bk1.same (s2.trans s3)
    refine ⟨_, _, rfl, ?_⟩
    refine ⟨(by show 2 ≤ sizeLine; decide), fun t5 nt5 => ?_⟩
    have s4 := same_new (o := .tup [.str "clean", .str "spent"]) nt5
    have e5 : (upd H3 t5 (.tup [.str "clean", .str "spent"])) t5 = some (.tup [.str "clean", .str "spent"]) := upd_same
    generalize upd H3 t5 (.tup [.str "clean", .str "spent"]) = H4 at s4 e5 ⊢
    refine ⟨t5, rfl, ⟨_, SqT.of e5⟩, ?_⟩
    have s14 := s13.trans s4
    refine for_it (walk_tup (K := K) (a := t5) (xs := [.str "clean", .str "spent"])) (fun i σ H' => ∃ x5 x6 : Option V, σ = [some (.ref d), some y, some (.str n), some (.ref b1), some (.ref ta), x5, x6, none] ∧ Same H4 H') ⟨none, none, rfl, Same.refl _⟩ (fun i σ H' _ ⟨_, _, _, z⟩ => SqT.of (z _ _ e5)) ?_ ?_
    · rintro i v σ H6 H5 hi ⟨x5, x6, rfl, z5⟩ ⟨rfl, hv⟩
      obtain ⟨m, rfl, hm⟩ := two_str hv
      have hm4 : m ∈ man4 := by
        rcases hm with rfl | rfl <;> decide +kernel
      have hmok : ∀ c, MOk m c → MOk "plain" c := fun c h => by
        rcases hm with rfl | rfl
        · exact mok_clean h
        · exact mok_spent h
      have le := mans_less (n := n) hpl hmok
      have sA := s14.trans z5
      refine ⟨_, rfl, _, rfl, _, rfl, ?_⟩
      dsimp only [tNil]
      refine ⟨d, n, m, js, fs, rfl, linesS sA, by omega, fun d2 H7 s7 nd2 lines7 => ?_⟩
      refine ⟨d2, setM n m js, fs, rfl, lines7, okM hm4, fun b3 H8 s8 nb3 bk3 => ?_⟩
      have sB := sA.trans (s7.trans s8)
      have sB3 := s4.trans (z5.trans (s7.trans s8))
      refine ⟨_, rfl, ta, _, 0, _, rfl, rfl, SqT.of (sB3 _ _ hta), at0, rfl, _, rfl, ?_⟩
      by_cases cw : wordS js fs sn = "sure"
      rotate_left
      · rw [show decide (V.str (wordS js fs sn) = V.str "sure") = false from decide_eq_false fun e => cw (V.str.inj e)]
        exact iteF ⟨_, _, rfl, z5.trans (s7.trans s8)⟩
      rw [show decide (V.str (wordS js fs sn) = V.str "sure") = true from decide_eq_true (by rw [cw])]
      have cw2 := word_le le cw
      refine iteT ⟨_, rfl, _, rfl, ?_⟩
      dsimp only [tNil]
      refine ⟨b3, _, setM n m js, fs, y, sn, rfl, bk3, okM hm4, fy.same sB, by rw [setM_len]; exact hl, hb, fun tv2 H9 dd2 s9 td2 ft2' => ?_⟩
      obtain ⟨e2, rfl, _⟩ := told_read (okM hm4) td2
      obtain ⟨tb, w1, w2, rfl, htb, g1, g2⟩ := id ft2'.t2
      obtain rfl := g1.s
      refine ⟨tb, _, 0, _, rfl, rfl, SqT.of htb, at0, rfl, _, rfl, ?_⟩
      rw [show (!decide (V.str (wordS (setM n m js) fs sn) = V.str "sure")) = false by rw [cw2]; simp]
      refine iteF ⟨_, rfl, _, rfl, _, rfl, ?_⟩
      dsimp only [tNil]
      have sC := sB.trans s9
      refine ⟨b3, _, setM n m js, fs, y, .ref ta, sn, _, rfl, bk3.same s9, okM hm4, fy.same sC, by rw [setM_len]; exact hl, hb, (ft.same (sB3.trans s9)).sh, sh, fun H10 s10 => ?_⟩
      have e1 : shownB ((setM n m js).map (·.2)) fs sn (.tuple [.str (wordS js fs sn), e]) = true := by
        obtain ⟨mm, ws, zs, rfl, o⟩ := hsu cw
        rw [cw]
        exact shown_mix (o.le le)
      rw [e1]
      refine ⟨true, true, rfl, rfl, _, rfl, ?_⟩
      exact iteF ⟨_, _, rfl, z5.trans (s7.trans (s8.trans (s9.trans s10)))⟩
    · rintro σ H5 ⟨x5, x6, rfl, z5⟩
      have sA := s14.trans z5
      refine ⟨_, rfl, _, rfl, ?_⟩
      dsimp only [tNil]
      refine ⟨d, n, "free", js, fs, rfl, linesS sA, by omega, fun d2 H7 s7 nd2 lines7 => ?_⟩
      have hf4 : ("free" : Str) ∈ man4 := by decide +kernel
      refine ⟨d2, setM n "free" js, fs, rfl, lines7, okM hf4, fun b3 H8 s8 nb3 bk3 => ?_⟩
      have sB := sA.trans (s7.trans s8)
      have sB3 := s4.trans (z5.trans (s7.trans s8))
      refine ⟨_, rfl, ?_⟩
      dsimp only [tNil]
      refine ⟨b3, _, setM n "free" js, fs, y, sn, rfl, bk3, okM hf4, fy.same sB, by rw [setM_len]; exact hl, hb, fun tv2 H9 dd2 s9 td2 ft2' => ?_⟩
      obtain ⟨e2, rfl, sh2, hsu2, _⟩ := told_read (okM hf4) td2
      obtain ⟨tb, w1, w2, rfl, htb, g1, g2⟩ := id ft2'.t2
      obtain rfl := g1.s
      have sC := sB.trans s9
      refine ⟨_, rfl, tb, _, 0, _, rfl, rfl, SqT.of htb, at0, rfl, _, rfl, ?_⟩
      by_cases cw : wordS (setM n "free" js) fs sn = "sure"
      rotate_left
      · rw [show decide (V.str (wordS (setM n "free" js) fs sn) = V.str "sure") = false from decide_eq_false fun e => cw (V.str.inj e)]
        exact iteF (q H9 sC)
      rw [show decide (V.str (wordS (setM n "free" js) fs sn) = V.str "sure") = true from decide_eq_true (by rw [cw])]
      have cw2 := word_le mans_more cw
      refine iteT ⟨_, rfl, ta, _, 0, _, rfl, rfl, SqT.of ((sB3.trans s9) _ _ hta), at0, rfl, _, rfl, ?_⟩
      rw [show decide (V.str (wordS js fs sn) = V.str "sure") = true from decide_eq_true (by rw [cw2])]
      refine iteT ⟨_, rfl, _, rfl, _, rfl, ?_⟩
      dsimp only [tNil]
      refine ⟨b1, _, js, fs, y, .ref tb, sn, _, rfl, bk.same (sB3.trans s9), ok, fy.same sC, hl, hb, ft2'.sh, sh2, fun H10 s10 => ?_⟩
      have e1 : shownB (js.map (·.2)) fs sn (.tuple [.str (wordS (setM n "free" js) fs sn), e2]) = true := by
        obtain ⟨mm, ws, zs, rfl, o⟩ := hsu2 cw
        rw [cw]
        exact shown_mix (o.le mans_more)
      rw [e1]
      exact ⟨true, true, rfl, rfl, q H10 (sC.trans s10)⟩
end
end K73
namespace GD
open PySem PySem.Spec PyProof.Rows L2 GM
/-- the first standing of a fact -/
def fact1 : Fact → Stn
  | .let_ s => s
  | .not_ s => s
  | .as_ s _ => s
theorem fact1_b {k : Nat} {n : Int} {f : Fact} (h : FactB k n f) : (fact1 f).length = k ∧ Bd n (fact1 f) := by
  cases f with
  | let_ s => exact ⟨h.1, h.2⟩
  | not_ s => exact ⟨h.1, h.2⟩
  | as_ s t => exact ⟨h.1, h.2.1⟩
theorem fact1_at {H : Hp} {v : V} {f : Fact} (h : Fz H v (eF f)) : ∃ b x y r, v = .ref b ∧ H b = some (.tup (x :: y :: r)) ∧ Fz H y (eS (fact1 f)) := by
  rcases h.fact_at with ⟨b, y, s, rfl, hb, fy, rfl | rfl⟩ | ⟨b, y, z, s, t, rfl, hb, fy, _, rfl⟩
  · exact ⟨b, _, y, _, rfl, hb, fy⟩
  · exact ⟨b, _, y, _, rfl, hb, fy⟩
  · exact ⟨b, _, y, _, rfl, hb, fy⟩
/-- a good standing there -/
def StnAt (k : Nat) (n : Int) (H : Hp) (v : V) : Prop := ∃ s : Stn, Fz H v (eS s) ∧ s.length = k ∧ Bd n s
theorem StnAt.mv {k : Nat} {n m : Int} {H H' : Hp} {v : V} (h : StnAt k n H v) (t : Tups H H') (nm : n ≤ m) : StnAt k m H' v := by
  obtain ⟨s, f, l, b⟩ := h
  exact ⟨s, f.mv t, l, b.le nm⟩
def spRight73 : Sp := fun vs H Q _ => ∃ (a : Addr) (z : Int), vs = [.ref a] ∧ PotAt H a z ∧ z ≤ 4000 ∧ ∀ H', PotAt H' a (z + 3000) → Keep a H H' → Q (.bl true) H'
end GD
namespace K73
open PySem PySem.Spec PyProof.Rows L2 GD GM
abbrev sRight73 : Stmt := top 98
section
variable {P : Program} {w : World} {K : PySem.W.Frag} {mg : Str → Option Value} {base : Heap}
abbrev NR73 : List Str := ["_law_pot_here", "_law_lore_here", "_law_jobs_here", "_law_seen", "_law_lap", "_law_name", "_law_one", "_law_standing_here", "_law_fact"]
theorem scR73 : FnScope NR73 ["_law_pot_here"] (defScope sRight73) := ⟨rfl, rfl, rfl, by decide +kernel, rfl, by decide +kernel, by decide +kernel⟩
theorem ok_right73 {f fO fLo fF fN fSt fA : Addr} {fd fdO fdLo fdF fdN fdSt fdA : FuncData} (F : Fun K "_law_right" "_law_right" sRight73 f fd) (nR : mg "range" = none)
    (gLo : mg "_law_lore" = some (.ref fLo)) (bLo : Binds K fdLo ["_law_pot_here", "_law_most", "_law_manners", "_law_sizes"] []) (kLo : PySem.W.keepIn K (.ref fLo) = true) (GLo : FnOk P w K mg base CX0 5 fLo fdLo ["_law_pot_here", "_law_most", "_law_manners", "_law_sizes"] spLore)
    (gF : mg "_law_first" = some (.ref fF)) (bF : Binds K fdF ["_law_jobs_here"] []) (kF : PySem.W.keepIn K (.ref fF) = true) (GF : FnOk P w K mg base CX0 1 fF fdF ["_law_jobs_here"] (spFirst K))
    (gO : mg "_law_of" = some (.ref fO)) (bO : Binds K fdO ["_law_pot_here", "_law_some_here"] []) (kO : PySem.W.keepIn K (.ref fO) = true) (GO : FnOk P w K mg base CX0 2 fO fdO ["_law_pot_here", "_law_some_here"] (spOf K))
    (gN : mg "_law_near" = some (.ref fN)) (bN : Binds K fdN ["_law_pot_here", "_law_jobs_here", "_law_standing_here"] []) (kN : PySem.W.keepIn K (.ref fN) = true) (GN : FnOk P w K mg base CX0 4 fN fdN ["_law_pot_here", "_law_jobs_here", "_law_standing_here"] spNear)
    (gSt : mg "_law_standing" = some (.ref fSt)) (bSt : Binds K fdSt ["_law_pot_here", "_law_jobs_here", "_law_far"] []) (kSt : PySem.W.keepIn K (.ref fSt) = true) (GSt : FnOk P w K mg base CX0 2 fSt fdSt ["_law_pot_here", "_law_jobs_here", "_law_far"] spStanding)
    (gA : mg "_law_are_right" = some (.ref fA)) (bA : Binds K fdA ["_law_lore_here", "_law_standing_here", "_law_name"] []) (kA : PySem.W.keepIn K (.ref fA) = true) (GA : FnOk P w K mg base CX0 9 fA fdA ["_law_lore_here", "_law_standing_here", "_law_name"] spAreRt) :
    FnOk P w K mg base CX0 10 f fd ["_law_pot_here"] spRight73 := by
  refine F.ok scR73 (fun vs H Q E h => ?_) (fun cdv A outer s H vs Q E hr h => ?_)
  · obtain ⟨a, z, rfl, _⟩ := h
    rfl
  · obtain ⟨a, z, rfl, hp, hz, q⟩ := h
    have hr1 : Room 1 _ := hr.mono (by decide)
    have hr2 : Room 2 _ := hr.mono (by decide)
    have hr4 : Room 4 _ := hr.mono (by decide)
    have hr5 : Room 5 _ := hr.mono (by decide)
    have hr9 : Room 9 _ := hr.mono (by decide)
    refine ⟨_, pss_cons (ps_set (i := 1) scR73.nd rfl (.inl rfl) (pe_call GLo hr5 (by rfl) gLo kLo bLo .nil pass0 (pa_cons (pv 0) (pa_cons pe_int (pa_cons (pe_lst (pa_cons pe_str pa_nil)) (pa_cons (pe_tup (pa_cons pe_int (pa_cons pe_int (pa_cons pe_int (pa_cons pe_int (pa_cons pe_int (pa_cons pe_int pa_nil))))))) pa_nil))))))
      (pss_cons (ps_par (i := 2) (j := 3) rfl scR73.nd rfl rfl (by decide) rfl rfl (pa_cons (pe_dget (u1 hr) (pv 1) pe_str (fun _ _ => rfl)) (pa_cons (pe_op op_cat (pe_lc (own := [("_law_fact", 8)]) (g := gName 8) (tt := tYes) rfl scR73.nd (pi_list (pe_dget (u1 hr) (pv 1) pe_str (fun _ _ => rfl))) (blkOk_by (N := NR73) (sc := defScope sRight73) (by decide +kernel))
            (fun _ _ _ _ _ => pg_name (i := 8) scR73.nd rfl (.inl rfl)) (fun _ _ _ _ _ => pts_nil) (fun _ _ _ _ _ => pe_ix (r := rIxT K) ix_tup (pv 8) pe_int (fun _ _ => rfl)))
          (pe_lst (pa_cons (pe_call GF hr1 (by rfl) gF kF bF .nil pass0 (pa_cons (pe_dget (u1 hr) (pv 1) pe_str (fun _ _ => rfl)) pa_nil)) pa_nil))) pa_nil)) (by rfl))
      (pss_cons (ps_for PassesOwn.never rfl (pi_range1 (by rfl) nR (pa_cons pe_int pa_nil)) (pg_name (i := 4) scR73.nd rfl (.inl rfl))
        (pss_cons (ps_par (i := 5) (j := 6) rfl scR73.nd rfl rfl (by decide) rfl rfl (pa_cons (pe_ix ix_tup (pe_call GO hr2 (by rfl) gO kO bO .nil pass0 (pa_cons (pv 0) (pa_cons (pv 2) pa_nil))) pe_int (fun _ _ => rfl)) (pa_cons (pe_call GO hr2 (by rfl) gO kO bO .nil pass0 (pa_cons (pv 0) (pa_cons (pv 3) pa_nil))) pa_nil)) (by rfl))
        (pss_cons (ps_set (i := 7) scR73.nd rfl (.inl rfl) (pe_call GO hr2 (by rfl) gO kO bO .nil pass0 (pa_cons (pv 0) (pa_cons (pe_lst (pa_cons (pv 6) (pa_cons (pe_call GN hr4 (by rfl) gN kN bN .nil pass0 (pa_cons (pv 0) (pa_cons (pv 2) (pa_cons (pv 6) pa_nil)))) (pa_cons (pe_call GN hr4 (by rfl) gN kN bN .nil pass0 (pa_cons (pv 0) (pa_cons (pv 2) (pa_cons (pv 6) pa_nil)))) (pa_cons (pe_call GSt hr2 (by rfl) gSt kSt bSt .nil pass0 (pa_cons (pv 0) (pa_cons (pv 2) (pa_cons pe_int pa_nil)))) pa_nil))))) pa_nil))))
        (pss_one (ps_if (pt_not (pt_val (pe_call GA hr9 (by rfl) gA kA bA .nil pass0 (pa_cons (pv 1) (pa_cons (pv 7) (pa_cons (pv 5) pa_nil)))))) (pss_one (ps_ret pe_bl)) pss_nil)))))
      (pss_one (ps_ret pe_bl)))), ?rd⟩
    refine ⟨_, rfl, (by show 1 ≤ sizeLine; decide), fun lm nlm => ?_⟩
    have sm := same_new (o := .lst ((["plain"] : List Str).map V.str)) nlm
    have em : (upd H lm (.lst ((["plain"] : List Str).map V.str))) lm = some (.lst ((["plain"] : List Str).map V.str)) := upd_same
    refine Eq.mpr (congrArg _ (show upd H lm (.lst [.str "plain"]) = upd H lm (.lst ((["plain"] : List Str).map V.str)) from rfl)) ?_
    generalize upd H lm (.lst ((["plain"] : List Str).map V.str)) = H1 at sm em ⊢
    refine ⟨(by show 6 ≤ sizeLine; decide), fun sz nsz => ?_⟩
    have ss := same_new (o := .tup [.int ((3 : Nat) : Int), .int ((3 : Nat) : Int), .int ((6 : Nat) : Int), .int ((8 : Nat) : Int), .int ((3 : Nat) : Int), .int ((3 : Nat) : Int)]) nsz
    have s01 := sm.trans ss
    refine ⟨a, lm, sz, 3, ["plain"], z, 3, 3, 6, 8, 3, 3, rfl, hp.same s01, by omega, by decide, by decide, hp.ne nlm, ss _ _ em, (fun z => by cases z), by decide, upd_same, by decide, by decide, by decide, by decide, by decide, by decide, by decide, fun d lj lf ls js fs sts H2 nd nlj nlf nls p2 k2 lore lok => ?_⟩
    have pk := hp.same s01
    have K2 : Keep a H H2 := (sKeep s01).trans k2
    have dj : lj ≠ a := pk.ne nlj
    have df : lf ≠ a := pk.ne nlf
    have ok := (lok.wide (by decide) (by decide +kernel)).js (by decide) (by decide) (by decide) (by decide)
    have hjl3 : js.length ≤ 3 := lok.1.2.1
    have hj1 : 1 ≤ js.length := lok.1.1
    have hpool : ∀ j ∈ js, j.1 ∈ pool21 := fun j hj => (lok.1.2.2.2 j hj).1
    have hpl : ∀ j ∈ js, j.2 = ("plain" : Str) := fun j hj => List.mem_singleton.mp (lok.1.2.2.2 j hj).2
    have hfb : ∀ f ∈ fs, FactB js.length 6 f := fun f hf => (lok.2.2.2.1 f hf).b
    obtain ⟨ed, hj, hf, hst⟩ := lore
    have dd : d ≠ a := pk.ne nd
    have hf60 := facts_len ok.f
    have live : ∀ {H'}, Keep a H2 H' → H' d = some (.dK [(.inr "jobs", .ref lj), (.inr "facts", .ref lf), (.inr "stocks", .ref ls)]) ∧ LstAt H' lj (js.map eE) ∧ LstAt H' lf (fs.map eF) := fun kp => ⟨kp _ _ dd ed, hj.keep dj kp (p2.tups kp), hf.keep df kp (p2.tups kp)⟩
    have liveL : ∀ {H'}, Keep a H2 H' → Lines H' d js fs := fun kp => ⟨_, lj, lf, (live kp).1, rfl, rfl, (live kp).2.1, (live kp).2.2⟩
    have dg1 : ∀ {H'}, Keep a H2 H' → DGet H' d (.str "jobs") (some (.ref lj)) := fun kp => DGet.k (k := .inr "jobs") (live kp).1
    have dg2 : ∀ {H'}, Keep a H2 H' → DGet H' d (.str "facts") (some (.ref lf)) := fun kp => DGet.k (k := .inr "facts") (live kp).1
    have kr2 : Keep a H2 H2 := sKeep (Same.refl _)
    obtain ⟨xf, ef, ff⟩ := id hf
    have lxf : xf.length = fs.length := by rw [ff.len, List.length_map]
    refine ⟨_, rfl, d, _, rfl, dg1 kr2, _, rfl, d, _, rfl, dg2 kr2, lf, rfl, ⟨_, SqL.of ef⟩, fun D hD => ?_⟩
    refine lc_it (walk_list (K := K) (a := lf) (xs := xf)) (fun i H' => Same H2 H' ∧ ∃ acc, H' D = some (.lst acc) ∧ FzAll H' acc ((fs.take i).map fun f => eS (fact1 f))) ⟨same_new hD, [], upd_same, .nil⟩ (fun i H' _ ⟨z1, _⟩ => SqL.of (z1 _ _ ef)) ?_ ?_
    · rintro i v H4 H3 hi ⟨z1, acc, eD, fa⟩ ⟨rfl, hv⟩
      obtain ⟨ft, hft, fv⟩ := ff.atM hv
      have hif : i < fs.length := (List.getElem?_eq_some_iff.mp hft).1
      have eT : fs.take (i + 1) = fs.take i ++ [ft] := by rw [List.take_add_one, hft]; rfl
      have la : acc.length ≤ i := by
        rw [fa.len, List.length_map, List.length_take]
        omega
      obtain ⟨b, x, y, r, rfl, hb, fy⟩ := fact1_at (fv.same z1)
      refine ⟨rfl, _, rfl, b, _, 1, _, rfl, rfl, SqT.of hb, at1, ?_⟩
      refine ⟨acc, eD, ?_, same_upd z1 hD, acc ++ [y], upd_same, FzAll.mv (tups_lst eD) ?_⟩
      · exact Nat.lt_of_lt_of_le (show acc.length < 100 by omega) (by decide)
      · rw [eT, List.map_append]
        exact fa.snoc fy
    rintro H3 ⟨z1, acc, eD, fa⟩
    rw [lxf, List.take_length] at fa
    have k3 : Keep a H2 H3 := sKeep z1
    have p3 := p2.same z1
    have lacc : acc.length = fs.length := by rw [fa.len, List.length_map]
    obtain ⟨xj, ej, fj⟩ := id hj
    have lxj : xj.length = js.length := by rw [fj.len, List.length_map]
    refine ⟨_, rfl, d, _, rfl, dg1 k3, ?_⟩
    dsimp only [tNil]
    refine ⟨lj, xj, rfl, SqL.of (z1 _ _ ej), by omega, fun v1 H4 z2 f1 => ?_⟩
    rw [lxj] at f1
    have s34 := z1.trans z2
    refine ⟨(by show 1 ≤ sizeLine; decide), fun t2 nt2 => ?_⟩
    have s5 := same_new (o := .lst [v1]) nt2
    have eD5 := s5 _ _ (z2 _ _ eD)
    refine ⟨D, t2, acc, [v1], rfl, rfl, eD5, upd_same, by show acc.length + 1 ≤ sizeLine; exact Nat.le_trans (show acc.length + 1 ≤ 100 by omega) (by decide), fun kn nkn => ?_⟩
    have s6 := same_new (o := .lst (acc ++ [v1])) nkn
    have ekn : (upd (upd H4 t2 (.lst [v1])) kn (.lst (acc ++ [v1]))) kn = some (.lst (acc ++ [v1])) := upd_same
    have seen : ∀ v ∈ acc ++ [v1], StnAt js.length 6 (upd (upd H4 t2 (.lst [v1])) kn (.lst (acc ++ [v1]))) v := fun v hv => by
      rcases List.mem_append.mp hv with hv | hv
      · obtain ⟨de, hde, fde⟩ := Fz.has (fa.same (z2.trans (s5.trans s6))) hv
        obtain ⟨f, hf, rfl⟩ := List.mem_map.mp hde
        exact ⟨_, fde, fact1_b (hfb f hf)⟩
      · rw [List.mem_singleton.mp hv]
        exact ⟨_, f1.same (s5.trans s6), List.length_replicate .., bd_first.le (by decide)⟩
    have s26 := s34.trans (s5.trans s6)
    have nek : acc ++ [v1] ≠ [] := fun e => by
      have w := congrArg List.length e
      rw [List.length_append] at w
      cases w
    have lk : (acc ++ [v1]).length ≤ 1000 := by
      rw [List.length_append]
      show acc.length + 1 ≤ 1000
      omega
    have nkn2 : H2 kn = none := s34.free (s5.free nkn)
    generalize upd (upd H4 t2 (.lst [v1])) kn (.lst (acc ++ [v1])) = H6 at ekn seen s26 ⊢
    generalize acc ++ [v1] = xk at ekn seen nek lk ⊢
    have K6 : Keep a H2 H6 := sKeep s26
    have p6 := p2.same s26
    have nka : kn ≠ a := p2.ne nkn2
    refine ⟨_, _, rfl, ?_⟩
    refine ⟨6, rfl, by decide, by decide, ?_⟩
    refine for_range (lo := 0) (n := 6) (fun i σ H' => ∃ x4 x5 x6 x7 : Option V, σ = [some (.ref a), some (.ref d), some (.ref lj), some (.ref kn), x4, x5, x6, x7, none] ∧ PotAt H' a (z + 2500 + 60 * (i : Nat)) ∧ Keep a H6 H') ⟨none, none, none, none, rfl, p6.le (by omega), sKeep (Same.refl _)⟩ ?_ ?_
    · rintro i σ H7 hi ⟨x4, x5, x6, x7, rfl, p7, k7⟩
      have K7 := K6.trans k7
      obtain ⟨xj7, ej7, fj7⟩ := (live K7).2.1
      have lxj7 : xj7.length = js.length := by rw [fj7.len, List.length_map]
      refine ⟨_, rfl, _, rfl, ?_⟩
      dsimp only [tNil]
      refine ⟨a, lj, xj7, _, rfl, p7, by omega, dj, ej7, fun e => ?_, by omega, fun v8 H8 hv8 p8 k8 => ?_⟩
      · rw [e] at lxj7
        have lxj7 : 0 = js.length := lxj7
        omega
      obtain ⟨de, hde, fde⟩ := Fz.has fj7 hv8
      obtain ⟨j, hj', rfl⟩ := List.mem_map.mp hde
      obtain ⟨tj, y1, y2, rfl, etj, g1, g2⟩ := (fde.mv (p7.tups k8)).t2
      obtain rfl := g1.s
      refine ⟨tj, _, 0, _, rfl, rfl, SqT.of etj, at0, ?_⟩
      have K8 := k7.trans k8
      refine ⟨_, rfl, _, rfl, ?_⟩
      dsimp only [tNil]
      refine ⟨a, kn, xk, _, rfl, p8, by omega, nka, K8 _ _ nka ekn, nek, lk, fun v9 H9 hv9 p9 k9 => ?_⟩
      have K9 := K8.trans k9
      have A9 : StnAt js.length 6 H9 v9 := (seen v9 hv9).mv (p6.tups K9) (Int.le_refl _)
      refine ⟨_, _, rfl, ?_⟩
      refine ⟨_, rfl, _, rfl, _, rfl, _, rfl, _, rfl, ?_⟩
      dsimp only [tNil]
      obtain ⟨s9, f9, l9, b9⟩ := id A9
      refine ⟨a, lj, v9, js, s9, 6, _, rfl, p9, by omega, dj, (live (K6.trans K9)).2.1, hpool, hj1, by omega, f9, l9, b9, by decide, fun w1 u1 Ha pa ka fa1 la1 ba1 => ?_⟩
      have Ka := K9.trans ka
      refine ⟨_, rfl, _, rfl, _, rfl, ?_⟩
      dsimp only [tNil]
      refine ⟨a, lj, v9, js, s9, 6, _, rfl, pa, by omega, dj, (live (K6.trans Ka)).2.1, hpool, hj1, by omega, f9.mv (p9.tups ka), l9, b9, by decide, fun w2 u2 Hb pb kb fb2 lb2 bb2 => ?_⟩
      have Kb := Ka.trans kb
      refine ⟨_, rfl, _, rfl, ?_⟩
      dsimp only [tNil]
      refine ⟨a, lj, 3, js, _, rfl, pb, by omega, dj, (live (K6.trans Kb)).2.1, by omega, by decide, fun w3 u3 Hc pc kc fc3 lc3 bc3 => ?_⟩
      have Kc := Kb.trans kc
      refine ⟨(by show 4 ≤ sizeLine; decide), fun t nt => ?_⟩
      have sd := same_new (o := .lst [v9, w1, w2, w3]) nt
      have etn : (upd Hc t (.lst [v9, w1, w2, w3])) t = some (.lst [v9, w1, w2, w3]) := upd_same
      have good : ∀ v ∈ ([v9, w1, w2, w3] : List V), StnAt js.length 40 (upd Hc t (.lst [v9, w1, w2, w3])) v := fun v hv => by
        have tc : Tups Hc (upd Hc t (.lst [v9, w1, w2, w3])) := fun c o e => sd _ _ e
        simp only [List.mem_cons, List.not_mem_nil, or_false] at hv
        rcases hv with rfl | rfl | rfl | rfl
        · exact StnAt.mv (StnAt.mv (StnAt.mv (StnAt.mv A9 (p9.tups ka) (Int.le_refl _)) (pa.tups kb) (Int.le_refl _)) (pb.tups kc) (Int.le_refl _)) tc (by decide)
        · exact StnAt.mv (StnAt.mv (StnAt.mv (⟨u1, fa1, la1, ba1⟩ : StnAt js.length _ Ha _) (pa.tups kb) (Int.le_refl _)) (pb.tups kc) (Int.le_refl _)) tc (by decide)
        · exact StnAt.mv (StnAt.mv (⟨u2, fb2, lb2, bb2⟩ : StnAt js.length _ Hb _) (pb.tups kc) (Int.le_refl _)) tc (by decide)
        · exact StnAt.mv (⟨u3, fc3, lc3, bc3⟩ : StnAt js.length _ Hc _) tc (by decide)
      have pd := pc.same sd
      have nta := pc.ne nt
      generalize upd Hc t (.lst [v9, w1, w2, w3]) = Hd at sd etn good pd ⊢
      have Kd := Kc.trans (sKeep sd)
      refine ⟨a, t, _, _, rfl, pd, by omega, nta, etn, (fun z => by cases z), (by show 4 ≤ 1000; decide), fun ve He hve pe ke => ?_⟩
      obtain ⟨se, fe, le, be⟩ := (good ve hve).mv (pd.tups ke) (Int.le_refl _)
      have Ke := Kd.trans ke
      refine ⟨_, rfl, _, rfl, _, rfl, ?_⟩
      dsimp only [tNil]
      refine ⟨d, ve, j.1, js, fs, se, rfl, liveL (K6.trans Ke), ok, hpl, fe, le, be, fun Hf sf => ?_⟩
      refine ⟨_, rfl, iteF ⟨_, _, _, _, rfl, ?_, Ke.trans (sKeep sf)⟩⟩
      exact (pe.same sf).le (by omega)
    · rintro σ H7 ⟨x4, x5, x6, x7, rfl, p7, k7⟩
      exact q H7 (p7.le (by have : ((6 : Nat) : Int) = 6 := rfl; omega)) (K2.trans (K6.trans k7))
end
end K73
namespace K73
open PySem PySem.Spec PyProof.Rows L2 GD
def spLaw73 (K : PySem.W.Frag) : Sp := fun vs H Q _ => ∃ (s : Addr) (ns : List Int), vs = [.ref s] ∧ SqL K H s (ns.map V.int) ∧ ∀ H', Q (.bl true) H'
abbrev sLaw73 : Stmt := top 99
section
variable {P : Program} {w : World} {K : PySem.W.Frag} {mg : Str → Option Value} {base : Heap}
abbrev NLw73 : List Str := ["_law_script", "_law_place", "_law_pot_here", "_law_lap"]
theorem scLw73 : FnScope NLw73 ["_law_script"] (defScope sLaw73) := ⟨rfl, rfl, rfl, by decide +kernel, rfl, by decide +kernel, by decide +kernel⟩
theorem ok_law73 {f fR fP fC : Addr} {fd fdR fdP fdC : FuncData} (F : Fun K "law" "law" sLaw73 f fd) (S : Small1 K mg)
    (gR : mg "_law_right" = some (.ref fR)) (bR : Binds K fdR ["_law_pot_here"] []) (kR : PySem.W.keepIn K (.ref fR) = true) (GR : FnOk P w K mg base CX0 10 fR fdR ["_law_pot_here"] spRight73)
    (AP : At K mg "_law_pot" sPot ["_law_script", "_law_place"] fP fdP) (AC : At K mg "_law_cells" sCells ["_law_script", "_law_most"] fC fdC) : FnOk P w K mg base CX0 11 f fd ["_law_script"] (spLaw73 K) := by
  have GP : FnOk P w K mg base CX0 1 fP fdP ["_law_script", "_law_place"] (spPot K) := ok_pot AP.F S.ta
  have GC : FnOk P w K mg base CX0 1 fC fdC ["_law_script", "_law_most"] (spCells K) := ok_cells AC.F S.ta
  refine F.ok scLw73 (fun vs H Q E h => ?_) (fun cdv A outer s H vs Q E hr h => ?_)
  · obtain ⟨a, ns, rfl, _⟩ := h
    rfl
  · obtain ⟨a, ns, rfl, hs, k⟩ := h
    have hr1 : Room 1 _ := hr.mono (by decide)
    refine ⟨_, pss_cons (ps_for PassesOwn.never rfl (pi_list (pe_call GC hr1 (by rfl) AC.g AC.F.kp AC.b .nil pass0 (pa_cons (pv 0) (pa_cons pe_int pa_nil)))) (pg_name (i := 1) scLw73.nd rfl (.inl rfl))
        (pss_cons (ps_set (i := 2) scLw73.nd rfl (.inr rfl) (pe_call GP hr1 (by rfl) AP.g AP.F.kp AP.b .nil pass0 (pa_cons (pv 0) (pa_cons (pv 1) pa_nil))))
        (pss_one (ps_if (pt_not (pt_val (pe_callB (cr_all rfl) (by rfl) S.all (by decide +kernel) (pa_cons (pe_lc (own := [("_law_lap", 3)]) (g := gName 3) (tt := tYes) rfl scLw73.nd (pi_range1 (by rfl) S.ta.range (pa_cons pe_int pa_nil)) (blkOk_by (N := NLw73) (sc := defScope sLaw73) (by decide +kernel))
          (fun _ _ _ _ _ => pg_name (i := 3) scLw73.nd rfl (.inl rfl)) (fun _ _ _ _ _ => pts_nil) (fun _ _ _ _ _ => pe_call GR hr (by rfl) gR kR bR .nil pass0 (pa_cons (pv 2) pa_nil))) pa_nil)))) (pss_one (ps_ret pe_bl)) pss_nil))))
      (pss_one (ps_ret pe_bl)), ?_⟩
    refine ⟨_, rfl, a, ns, 3, rfl, hs, by decide, by decide, fun p n hp h0 h4 => ?_⟩
    have sp := same_new (o := .lst (rgV 0 n)) hp
    have ep : (upd H p (.lst (rgV 0 n))) p = some (.lst (rgV 0 n)) := upd_same
    generalize upd H p (.lst (rgV 0 n)) = H1 at sp ep ⊢
    refine ⟨p, rfl, ⟨_, SqL.of ep⟩, for_list (K := K) (a := p) (xs := rgV 0 n) (fun i σ H' => ∃ x1 x2 : Option V, σ = [some (.ref a), x1, x2, none] ∧ Same H1 H') ⟨none, none, rfl, Same.refl _⟩ (fun i σ H' _ ⟨_, _, _, s⟩ => SqL.of (s _ _ ep)) ?_ ?_⟩
    · rintro i v σ H2 hi ⟨x1, x2, rfl, s2⟩
      have hlt := (List.getElem?_eq_some_iff.mp hi).1
      obtain ⟨pl, rfl, p0, p1⟩ : ∃ pl : Int, v = .int pl ∧ 0 ≤ pl ∧ pl ≤ 1000 := by
        have zl := rgV_length 0 n
        unfold rgV at hi
        rw [zl] at hlt
        rw [List.getElem?_map, List.getElem?_range (by omega)] at hi
        exact ⟨0 + (i : Nat), (Option.some.inj hi).symm, by omega, by omega⟩
      refine ⟨_, rfl, _, rfl, a, ns, pl, rfl, s2.seq (sp.seq hs), p0, p1, fun q H3 nq pq s3 => ?_⟩
      have nq2 : H2 q = none := nq
      refine ⟨2, rfl, by decide, by decide, fun D hD => ?_⟩
      have dDq : D ≠ q := pq.ne hD
      refine lc_range (lo := 0) (n := 2) (fun j H' => PotAt H' q (0 + 3000 * (j : Nat)) ∧ Same H2 H' ∧ H' D = some (.lst ((List.replicate j true).map V.bl))) ⟨(pq.upd_ne dDq).le (by omega), same_upd s3 (s3.free hD), upd_same⟩ ?_ ?_
      · rintro j H4 hj ⟨p4, s4, eD⟩
        refine ⟨rfl, _, rfl, q, _, rfl, p4, by omega, fun H5 p5 k5 => ?_⟩
        have eD5 := k5 _ _ dDq eD
        have D0 : H2 D = none := s3.free hD
        refine ⟨_, eD5, ?_, (p5.upd_ne dDq).le (by omega), fun c o e => ?_, ?_⟩
        · rw [List.length_map, List.length_replicate]
          exact Nat.lt_of_lt_of_le (show j < 10 by omega) (by decide)
        · have nc : c ≠ D := fun z => by
            rw [z, D0] at e
            cases e
          have ncq : c ≠ q := fun z => by
            rw [z, nq2] at e
            cases e
          rw [upd_ne nc]
          exact k5 _ _ ncq (s4 _ _ e)
        · rw [upd_same, List.replicate_succ', List.map_append]
          rfl
      · rintro H4 ⟨p4, s4, eD⟩
        refine ⟨D, _, rfl, SqL.of eD, ?_⟩
        refine ⟨_, rfl, iteF ?_⟩
        exact ⟨_, _, rfl, s2.trans s4⟩
    · rintro σ H2 ⟨x1, x2, rfl, s2⟩
      exact k H2
end
end K73
namespace GD
open PySem PySem.Spec PyProof.Rows L2 LamX
end GD
namespace K73
open PySem PySem.Spec PyProof.Rows L2 GD LamX
def Df (K : PySem.W.Frag) (x : Str) (st : Stmt) : Prop := ∃ f oc od an osl kV doc pm cdv ct, PySem.W.nsIn K mainGlobals x = some (some (.ref f)) ∧
  K.lookup f = some ⟨oc, od, .func (PySem.W.fnOf x x (defArgs st) (defBody st) (defScope st) .none kV doc pm an cdv ct), osl⟩ ∧ PySem.W.codeIn K cdv x = true ∧ PySem.W.keepIn K (.ref f) = true
def Dm (K : PySem.W.Frag) (C : Addr) (x y : Str) (st : Stmt) : Prop := ∃ f oc od an osl kV doc pm cdv ct, PySem.W.findIn K (.ref C) x = some (some (.ref f)) ∧ PySem.W.isFn K (.ref f) = true ∧
  K.lookup f = some ⟨oc, od, .func (PySem.W.fnOf x y (defArgs st) (defBody st) (defScope st) .none kV doc pm an cdv ct), osl⟩ ∧ PySem.W.codeIn K cdv y = true ∧ PySem.W.keepIn K (.ref f) = true
theorem told_of {K : PySem.W.Frag} {w : World} {mg : Str → Option Value} {p : Addr} (g : mg "MOST_TOLD" = some (.ref p)) (h1 : KDct K w p "let" (.int 24)) (h2 : KDct K w p "not" (.int 6)) (h3 : KDct K w p "as" (.int 4)) : Told K w mg := ⟨p, g, fun x hx => by
  rcases hx with rfl | rfl | rfl
  · exact h1
  · exact h2
  · exact h3⟩
theorem us1 {us : List Value} (h : us.length = 1) : ∃ x0, us = [x0] := by
  match us, h with
  | [x0], _ => exact ⟨x0, rfl⟩
theorem us2 {us : List Value} (h : us.length = 2) : ∃ x0 x1, us = [x0, x1] := by
  match us, h with
  | [x0, x1], _ => exact ⟨x0, x1, rfl⟩
theorem us3 {us : List Value} (h : us.length = 3) : ∃ x0 x1 x2, us = [x0, x1, x2] := by
  match us, h with
  | [x0, x1, x2], _ => exact ⟨x0, x1, x2, rfl⟩
theorem us4 {us : List Value} (h : us.length = 4) : ∃ x0 x1 x2 x3, us = [x0, x1, x2, x3] := by
  match us, h with
  | [x0, x1, x2, x3], _ => exact ⟨x0, x1, x2, x3, rfl⟩
theorem us5 {us : List Value} (h : us.length = 5) : ∃ x0 x1 x2 x3 x4, us = [x0, x1, x2, x3, x4] := by
  match us, h with
  | [x0, x1, x2, x3, x4], _ => exact ⟨x0, x1, x2, x3, x4, rfl⟩
theorem fin_mk {P : Program} {w : World} {K : PySem.W.Frag} {h : Heap} {mg : Str → Option Value} {fa C CT : Addr} (X : K.In h) (G : h.Ns mainGlobals mg) (hfa : mg "law" = some (.ref fa))
    (aC : PySem.W.nsIn K mainGlobals "Book" = some (some (.ref C)))
    (aCT : PySem.W.nsIn K mainGlobals "Table" = some (some (.ref CT)))
    (dT_pot : Df K "_law_pot" sPot)
    (dT_take : Df K "_law_take" sTake)
    (dT_of : Df K "_law_of" sOf)
    (dT_some : Df K "_law_some" sSome)
    (dT_cells : Df K "_law_cells" sCells)
    (dT_names : Df K "_law_names" sNames)
    (dT_jobs : Df K "_law_jobs" sJobs)
    (dT_first : Df K "_law_first" sFirst)
    (dT_behind : Df K "_law_behind" sBehind)
    (dT_can : Df K "_law_can_come" sCanCome)
    (dT_events : Df K "_law_events" sEvents)
    (dT_standing : Df K "_law_standing" sStanding)
    (dT_change : Df K "_law_change" sChange)
    (dT_stock : Df K "_law_stock" sStock)
    (dT_level : Df K "_law_level" sLevel)
    (dT_lets : Df K "_law_lets" sLets)
    (dT_heard : Df K "_law_heard_facts" sHeardFacts)
    (dT_alike : Df K "_law_alike_facts" sAlikeFacts)
    (dT_few : Df K "_law_few" sFew)
    (dT_lore : Df K "_law_lore" sLore)
    (dT_stext : Df K "_law_standing_text" sStandingText)
    (dT_fline : Df K "_law_fact_line" sFactLine)
    (dT_lines : Df K "_law_lines" sLines)
    (dT_text : Df K "_law_text" sText)
    (dT_book : Df K "_law_book" sLawBook)
    (dP_isint : Df K "is_integer" pIsInt)
    (dP_isnumb : Df K "is_number" pIsNumb)
    (dP_isword : Df K "is_word" pIsWord)
    (dP_isname : Df K "is_name" pIsName)
    (dP_ispair : Df K "is_pair" pIsPair)
    (dP_isstn : Df K "is_standing" pIsStn)
    (dP_isfact : Df K "is_fact" pIsFact)
    (dP_isfull : Df K "is_full" pIsFull)
    (dP_rdjobs : Df K "read_jobs" pReadJobs)
    (dP_rdman : Df K "read_manners" pReadManners)
    (dP_rdfacts : Df K "read_facts" pReadFacts)
    (dP_rdfact : Df K "read_fact" pReadFact)
    (dP_rdstn : Df K "read_standing" pReadStn)
    (dP_rdcount : Df K "read_count" pReadCount)
    (dP_isnumeral : Df K "is_numeral" pIsNumeral)
    (dP_sure : Df K "sure" pSure)
    (dP_proof : Df K "proof" pProof)
    (dP_proofby : Df K "proof_by" pProofBy)
    (dP_basic : Df K "basic_stocks" pBasic)
    (dP_levels : Df K "levels" pLevels)
    (dP_flev : Df K "fact_levels" pFactLevels)
    (dP_diff : Df K "difference" pDiff)
    (dP_parted : Df K "parted" pParted)
    (dP_taken : Df K "taken" pTaken)
    (dP_summed : Df K "summed" pSummed)
    (dP_short : Df K "shortened" pShort)
    (dP_istold : Df K "is_told" pIsTold)
    (dP_isstk : Df K "is_stock" pIsStkA)
    (dP_ischg : Df K "is_change" pIsChgA)
    (dP_levat : Df K "level_at" pLevAt)
    (dP_below : Df K "below" pBelow1)
    (dP_keeps : Df K "keeps" pKeeps)
    (dP_isso : Df K "is_so" pIsSo1)
    (dP_shows : Df K "shows_sure" pShows)
    (dP_isright : Df K "is_right" pRight)
    (dP_rightby : Df K "is_right_by" pRightBy)
    (dP_isref : Df K "is_refusing" pRefus)
    (dP_areparts : Df K "are_parts" pAreParts)
    (dP_isparts : Df K "is_parts" pIsParts)
    (dP_ispart : Df K "is_part" pIsPart)
    (dP_isenough : Df K "is_enough" pEnough)
    (dT_near : Df K "_law_near" sNear)
    (dT_mlore : Df K "_law_manner_lore" sMLore)
    (dT_areright : Df K "_law_are_right" sAreRt)
    (dT_right : Df K "_law_right" sRight73)
    (dT_law : Df K "law" sLaw73)
    (dM_init : Dm K C "__init__" "Book.__init__" pInit)
    (dM_tinit : Dm K CT "__init__" "Table.__init__" pTabI)
    (dM_tgrow : Dm K CT "grow" "Table.grow" pGrow)
    (dM_tset : Dm K CT "settle" "Table.settle" pSettle)
    (dM_tent : Dm K CT "entering" "Table.entering" pEntering)
    (dM_tleav : Dm K CT "leaving" "Table.leaving" pLeaving)
    (dM_tswap : Dm K CT "swap" "Table.swap" pSwap)
    (dM_tam : Dm K CT "amounts" "Table.amounts" pAmounts)
    (dM_tco : Dm K CT "costs" "Table.costs" pCosts)
    (n_sorted : PySem.W.nsIn K mainGlobals "sorted" = some none)
    (n_len : PySem.W.nsIn K mainGlobals "len" = some none)
    (n_abs : PySem.W.nsIn K mainGlobals "abs" = some none)
    (n_int : PySem.W.nsIn K mainGlobals "int" = some none)
    (n_max : PySem.W.nsIn K mainGlobals "max" = some none)
    (n_min : PySem.W.nsIn K mainGlobals "min" = some none)
    (n_list : PySem.W.nsIn K mainGlobals "list" = some none)
    (n_range : PySem.W.nsIn K mainGlobals "range" = some none)
    (n_all : PySem.W.nsIn K mainGlobals "all" = some none)
    (n_tuple : PySem.W.nsIn K mainGlobals "tuple" = some none)
    (n_sum : PySem.W.nsIn K mainGlobals "sum" = some none)
    (n_zip : PySem.W.nsIn K mainGlobals "zip" = some none)
    (n_isinstance : PySem.W.nsIn K mainGlobals "isinstance" = some none)
    (n_bool : PySem.W.nsIn K mainGlobals "bool" = some none)
    (n_str : PySem.W.nsIn K mainGlobals "str" = some none)
    (n_set : PySem.W.nsIn K mainGlobals "set" = some none)
    (n_enumerate : PySem.W.nsIn K mainGlobals "enumerate" = some none)
    (c40 : ∃ u, PySem.W.nsIn K mainGlobals "MOST_COUNTED" = some (some u) ∧ RelV (.int 40) u)
    (c8 : ∃ u, PySem.W.nsIn K mainGlobals "LONGEST_NAME" = some (some u) ∧ RelV (.int 8) u)
    (c4 : ∃ u, PySem.W.nsIn K mainGlobals "MOST_JOBS" = some (some u) ∧ RelV (.int 4) u)
    (cm : ∃ u, PySem.W.nsIn K mainGlobals "NO_COUNT" = some (some u) ∧ RelV (.int (-1)) u)
    (cT : ∃ p, PySem.W.nsIn K mainGlobals "MOST_TOLD" = some (some (.ref p)) ∧ KDct K w p "let" (.int 24) ∧ KDct K w p "not" (.int 6) ∧ KDct K w p "as" (.int 4))
    (cL : ∃ p, PySem.W.nsIn K mainGlobals "LINED_MANNERS" = some (some (.ref p)) ∧ ∀ H, SqT K H p (lined3.map V.str))
    (cM : ∃ p, PySem.W.nsIn K mainGlobals "MORNING" = some (some (.ref p)) ∧ ∀ H, SqT K H p [.int 1, .int 0, .int 0, .int 0, .bl false])
    (cCh : ∃ (p q1 q2 q3 q4 r1 r2 r3 r4 r5 r6 : Addr), PySem.W.nsIn K mainGlobals "CHANGES" = some (some (.ref p)) ∧ KDct K w p "plain" (.ref q1) ∧ KDct K w p "clean" (.ref q2) ∧ KDct K w p "spent" (.ref q3) ∧ KDct K w p "free" (.ref q4) ∧ (∀ H, SqT K H q1 [.ref r1, .ref r2]) ∧ (∀ H, SqT K H q2 [.ref r3]) ∧ (∀ H, SqT K H q3 [.ref r4]) ∧ (∀ H, SqT K H q4 [.ref r5, .ref r6]) ∧ (∀ H, SqT K H r1 [.int (-1), .int 0, .bl false]) ∧ (∀ H, SqT K H r2 [.int 0, .int 1, .bl false]) ∧ (∀ H, SqT K H r3 [.int (-1), .int 1, .bl false]) ∧ (∀ H, SqT K H r4 [.int (-1), .int 0, .bl false]) ∧ (∀ H, SqT K H r5 [.int 1, .int 0, .bl true]) ∧ (∀ H, SqT K H r6 [.int 0, .int 1, .bl true]))
    (cl : Cls K C)
    (nT : NoAttr K C "text")
    (nJ : NoAttr K C "jobs")
    (nM : NoAttr K C "manners")
    (nF : NoAttr K C "first")
    (nH : NoAttr K C "head")
    (nA : NoAttr K C "facts")
    (mk : PySem.W.makesIn K C = true)
    (kc : PySem.W.keepIn K (.ref C) = true)
    (ct : Cls K CT)
    (tH : NoAttr K CT "heads")
    (tS : NoAttr K CT "sides")
    (tR : NoAttr K CT "rows")
    (tD : NoAttr K CT "divisor")
    (tB : NoAttr K CT "bound")
    (mkt : PySem.W.makesIn K CT = true)
    (kct : PySem.W.keepIn K (.ref CT) = true)
    (gG : PySem.W.nsIn K mainGlobals "gcd" = some (some (.builtin "math.gcd"))) :
    ∃ fd : FuncData, (∀ (s : Shared) (u : Value), BindsTo s fd ⟨[u], []⟩ [("_law_script", u)]) ∧ ∀ base : Heap, K.In base → base.Ns mainGlobals mg → FnOk P w K mg base CX0 11 fa fd ["_law_script"] (spLaw73 K) := by
  have Z : ∀ {x : Str}, PySem.W.nsIn K mainGlobals x = some none → mg x = none := fun e => PySem.W.mg_none_of X G e
  have O : ∀ {x : Str} {u : Value}, PySem.W.nsIn K mainGlobals x = some (some u) → mg x = some u := fun e => PySem.W.mg_of X G e
  obtain ⟨fT_pot, _, _, _, _, _, _, _, _, _, gT_pot, lT_pot, cT_pot, kT_pot⟩ := dT_pot
  have FT_pot := fun_mk (st := sPot) lT_pot cT_pot kT_pot
  have bT_pot := FT_pot.binds (ps := ["_law_script", "_law_place"]) fun _ _ _ _ _ _ us hl => by obtain ⟨_, _, rfl⟩ := us2 hl; exact rfl
  have AT_pot : At K mg "_law_pot" sPot ["_law_script", "_law_place"] fT_pot _ := ⟨FT_pot, O gT_pot, bT_pot⟩
  obtain ⟨fT_take, _, _, _, _, _, _, _, _, _, gT_take, lT_take, cT_take, kT_take⟩ := dT_take
  have FT_take := fun_mk (st := sTake) lT_take cT_take kT_take
  have bT_take := FT_take.binds (ps := ["_law_pot_here", "_law_upto"]) fun _ _ _ _ _ _ us hl => by obtain ⟨_, _, rfl⟩ := us2 hl; exact rfl
  have AT_take : At K mg "_law_take" sTake ["_law_pot_here", "_law_upto"] fT_take _ := ⟨FT_take, O gT_take, bT_take⟩
  obtain ⟨fT_of, _, _, _, _, _, _, _, _, _, gT_of, lT_of, cT_of, kT_of⟩ := dT_of
  have FT_of := fun_mk (st := sOf) lT_of cT_of kT_of
  have bT_of := FT_of.binds (ps := ["_law_pot_here", "_law_some_here"]) fun _ _ _ _ _ _ us hl => by obtain ⟨_, _, rfl⟩ := us2 hl; exact rfl
  have AT_of : At K mg "_law_of" sOf ["_law_pot_here", "_law_some_here"] fT_of _ := ⟨FT_of, O gT_of, bT_of⟩
  obtain ⟨fT_some, _, _, _, _, _, _, _, _, _, gT_some, lT_some, cT_some, kT_some⟩ := dT_some
  have FT_some := fun_mk (st := sSome) lT_some cT_some kT_some
  have bT_some := FT_some.binds (ps := ["_law_pot_here", "_law_pool", "_law_many"]) fun _ _ _ _ _ _ us hl => by obtain ⟨_, _, _, rfl⟩ := us3 hl; exact rfl
  have AT_some : At K mg "_law_some" sSome ["_law_pot_here", "_law_pool", "_law_many"] fT_some _ := ⟨FT_some, O gT_some, bT_some⟩
  obtain ⟨fT_cells, _, _, _, _, _, _, _, _, _, gT_cells, lT_cells, cT_cells, kT_cells⟩ := dT_cells
  have FT_cells := fun_mk (st := sCells) lT_cells cT_cells kT_cells
  have bT_cells := FT_cells.binds (ps := ["_law_script", "_law_most"]) fun _ _ _ _ _ _ us hl => by obtain ⟨_, _, rfl⟩ := us2 hl; exact rfl
  have AT_cells : At K mg "_law_cells" sCells ["_law_script", "_law_most"] fT_cells _ := ⟨FT_cells, O gT_cells, bT_cells⟩
  obtain ⟨fT_names, _, _, _, _, _, _, _, _, _, gT_names, lT_names, cT_names, kT_names⟩ := dT_names
  have FT_names := fun_mk (st := sNames) lT_names cT_names kT_names
  have bT_names := FT_names.binds (ps := ["_law_pot_here", "_law_many"]) fun _ _ _ _ _ _ us hl => by obtain ⟨_, _, rfl⟩ := us2 hl; exact rfl
  have AT_names : At K mg "_law_names" sNames ["_law_pot_here", "_law_many"] fT_names _ := ⟨FT_names, O gT_names, bT_names⟩
  obtain ⟨fT_jobs, _, _, _, _, _, _, _, _, _, gT_jobs, lT_jobs, cT_jobs, kT_jobs⟩ := dT_jobs
  have FT_jobs := fun_mk (st := sJobs) lT_jobs cT_jobs kT_jobs
  have bT_jobs := FT_jobs.binds (ps := ["_law_pot_here", "_law_most", "_law_manners"]) fun _ _ _ _ _ _ us hl => by obtain ⟨_, _, _, rfl⟩ := us3 hl; exact rfl
  have AT_jobs : At K mg "_law_jobs" sJobs ["_law_pot_here", "_law_most", "_law_manners"] fT_jobs _ := ⟨FT_jobs, O gT_jobs, bT_jobs⟩
  obtain ⟨fT_first, _, _, _, _, _, _, _, _, _, gT_first, lT_first, cT_first, kT_first⟩ := dT_first
  have FT_first := fun_mk (st := sFirst) lT_first cT_first kT_first
  have bT_first := FT_first.binds (ps := ["_law_jobs_here"]) fun _ _ _ _ _ _ us hl => by obtain ⟨_, rfl⟩ := us1 hl; exact rfl
  have AT_first : At K mg "_law_first" sFirst ["_law_jobs_here"] fT_first _ := ⟨FT_first, O gT_first, bT_first⟩
  obtain ⟨fT_behind, _, _, _, _, _, _, _, _, _, gT_behind, lT_behind, cT_behind, kT_behind⟩ := dT_behind
  have FT_behind := fun_mk (st := sBehind) lT_behind cT_behind kT_behind
  have bT_behind := FT_behind.binds (ps := ["_law_jobs_here", "_law_standing_here", "_law_event"]) fun _ _ _ _ _ _ us hl => by obtain ⟨_, _, _, rfl⟩ := us3 hl; exact rfl
  have AT_behind : At K mg "_law_behind" sBehind ["_law_jobs_here", "_law_standing_here", "_law_event"] fT_behind _ := ⟨FT_behind, O gT_behind, bT_behind⟩
  obtain ⟨fT_can, _, _, _, _, _, _, _, _, _, gT_can, lT_can, cT_can, kT_can⟩ := dT_can
  have FT_can := fun_mk (st := sCanCome) lT_can cT_can kT_can
  have bT_can := FT_can.binds (ps := ["_law_jobs_here", "_law_standing_here", "_law_event"]) fun _ _ _ _ _ _ us hl => by obtain ⟨_, _, _, rfl⟩ := us3 hl; exact rfl
  have AT_can : At K mg "_law_can_come" sCanCome ["_law_jobs_here", "_law_standing_here", "_law_event"] fT_can _ := ⟨FT_can, O gT_can, bT_can⟩
  obtain ⟨fT_events, _, _, _, _, _, _, _, _, _, gT_events, lT_events, cT_events, kT_events⟩ := dT_events
  have FT_events := fun_mk (st := sEvents) lT_events cT_events kT_events
  have bT_events := FT_events.binds (ps := ["_law_jobs_here", "_law_standing_here"]) fun _ _ _ _ _ _ us hl => by obtain ⟨_, _, rfl⟩ := us2 hl; exact rfl
  have AT_events : At K mg "_law_events" sEvents ["_law_jobs_here", "_law_standing_here"] fT_events _ := ⟨FT_events, O gT_events, bT_events⟩
  obtain ⟨fT_standing, _, _, _, _, _, _, _, _, _, gT_standing, lT_standing, cT_standing, kT_standing⟩ := dT_standing
  have FT_standing := fun_mk (st := sStanding) lT_standing cT_standing kT_standing
  have bT_standing := FT_standing.binds (ps := ["_law_pot_here", "_law_jobs_here", "_law_far"]) fun _ _ _ _ _ _ us hl => by obtain ⟨_, _, _, rfl⟩ := us3 hl; exact rfl
  have AT_standing : At K mg "_law_standing" sStanding ["_law_pot_here", "_law_jobs_here", "_law_far"] fT_standing _ := ⟨FT_standing, O gT_standing, bT_standing⟩
  obtain ⟨fT_change, _, _, _, _, _, _, _, _, _, gT_change, lT_change, cT_change, kT_change⟩ := dT_change
  have FT_change := fun_mk (st := sChange) lT_change cT_change kT_change
  have bT_change := FT_change.binds (ps := ["_law_pot_here", "_law_manner", "_law_size"]) fun _ _ _ _ _ _ us hl => by obtain ⟨_, _, _, rfl⟩ := us3 hl; exact rfl
  have AT_change : At K mg "_law_change" sChange ["_law_pot_here", "_law_manner", "_law_size"] fT_change _ := ⟨FT_change, O gT_change, bT_change⟩
  obtain ⟨fT_stock, _, _, _, _, _, _, _, _, _, gT_stock, lT_stock, cT_stock, kT_stock⟩ := dT_stock
  have FT_stock := fun_mk (st := sStock) lT_stock cT_stock kT_stock
  have bT_stock := FT_stock.binds (ps := ["_law_pot_here", "_law_jobs_here", "_law_size"]) fun _ _ _ _ _ _ us hl => by obtain ⟨_, _, _, rfl⟩ := us3 hl; exact rfl
  have AT_stock : At K mg "_law_stock" sStock ["_law_pot_here", "_law_jobs_here", "_law_size"] fT_stock _ := ⟨FT_stock, O gT_stock, bT_stock⟩
  obtain ⟨fT_level, _, _, _, _, _, _, _, _, _, gT_level, lT_level, cT_level, kT_level⟩ := dT_level
  have FT_level := fun_mk (st := sLevel) lT_level cT_level kT_level
  have bT_level := FT_level.binds (ps := ["_law_stock_here", "_law_standing_here"]) fun _ _ _ _ _ _ us hl => by obtain ⟨_, _, rfl⟩ := us2 hl; exact rfl
  have AT_level : At K mg "_law_level" sLevel ["_law_stock_here", "_law_standing_here"] fT_level _ := ⟨FT_level, O gT_level, bT_level⟩
  obtain ⟨fT_lets, _, _, _, _, _, _, _, _, _, gT_lets, lT_lets, cT_lets, kT_lets⟩ := dT_lets
  have FT_lets := fun_mk (st := sLets) lT_lets cT_lets kT_lets
  have bT_lets := FT_lets.binds (ps := ["_law_stocks", "_law_standing_here"]) fun _ _ _ _ _ _ us hl => by obtain ⟨_, _, rfl⟩ := us2 hl; exact rfl
  have AT_lets : At K mg "_law_lets" sLets ["_law_stocks", "_law_standing_here"] fT_lets _ := ⟨FT_lets, O gT_lets, bT_lets⟩
  obtain ⟨fT_heard, _, _, _, _, _, _, _, _, _, gT_heard, lT_heard, cT_heard, kT_heard⟩ := dT_heard
  have FT_heard := fun_mk (st := sHeardFacts) lT_heard cT_heard kT_heard
  have bT_heard := FT_heard.binds (ps := ["_law_pot_here", "_law_jobs_here", "_law_stocks", "_law_days", "_law_most"]) fun _ _ _ _ _ _ us hl => by obtain ⟨_, _, _, _, _, rfl⟩ := us5 hl; exact rfl
  have AT_heard : At K mg "_law_heard_facts" sHeardFacts ["_law_pot_here", "_law_jobs_here", "_law_stocks", "_law_days", "_law_most"] fT_heard _ := ⟨FT_heard, O gT_heard, bT_heard⟩
  obtain ⟨fT_alike, _, _, _, _, _, _, _, _, _, gT_alike, lT_alike, cT_alike, kT_alike⟩ := dT_alike
  have FT_alike := fun_mk (st := sAlikeFacts) lT_alike cT_alike kT_alike
  have bT_alike := FT_alike.binds (ps := ["_law_pot_here", "_law_stocks", "_law_met", "_law_many"]) fun _ _ _ _ _ _ us hl => by obtain ⟨_, _, _, _, rfl⟩ := us4 hl; exact rfl
  have AT_alike : At K mg "_law_alike_facts" sAlikeFacts ["_law_pot_here", "_law_stocks", "_law_met", "_law_many"] fT_alike _ := ⟨FT_alike, O gT_alike, bT_alike⟩
  obtain ⟨fT_few, _, _, _, _, _, _, _, _, _, gT_few, lT_few, cT_few, kT_few⟩ := dT_few
  have FT_few := fun_mk (st := sFew) lT_few cT_few kT_few
  have bT_few := FT_few.binds (ps := ["_law_facts", "_law_lets_here", "_law_nots", "_law_ases"]) fun _ _ _ _ _ _ us hl => by obtain ⟨_, _, _, _, rfl⟩ := us4 hl; exact rfl
  have AT_few : At K mg "_law_few" sFew ["_law_facts", "_law_lets_here", "_law_nots", "_law_ases"] fT_few _ := ⟨FT_few, O gT_few, bT_few⟩
  obtain ⟨fT_lore, _, _, _, _, _, _, _, _, _, gT_lore, lT_lore, cT_lore, kT_lore⟩ := dT_lore
  have FT_lore := fun_mk (st := sLore) lT_lore cT_lore kT_lore
  have bT_lore := FT_lore.binds (ps := ["_law_pot_here", "_law_most", "_law_manners", "_law_sizes"]) fun _ _ _ _ _ _ us hl => by obtain ⟨_, _, _, _, rfl⟩ := us4 hl; exact rfl
  have AT_lore : At K mg "_law_lore" sLore ["_law_pot_here", "_law_most", "_law_manners", "_law_sizes"] fT_lore _ := ⟨FT_lore, O gT_lore, bT_lore⟩
  obtain ⟨fT_stext, _, _, _, _, _, _, _, _, _, gT_stext, lT_stext, cT_stext, kT_stext⟩ := dT_stext
  have FT_stext := fun_mk (st := sStandingText) lT_stext cT_stext kT_stext
  have bT_stext := FT_stext.binds (ps := ["_law_standing_here"]) fun _ _ _ _ _ _ us hl => by obtain ⟨_, rfl⟩ := us1 hl; exact rfl
  have AT_stext : At K mg "_law_standing_text" sStandingText ["_law_standing_here"] fT_stext _ := ⟨FT_stext, O gT_stext, bT_stext⟩
  obtain ⟨fT_fline, _, _, _, _, _, _, _, _, _, gT_fline, lT_fline, cT_fline, kT_fline⟩ := dT_fline
  have FT_fline := fun_mk (st := sFactLine) lT_fline cT_fline kT_fline
  have bT_fline := FT_fline.binds (ps := ["_law_fact"]) fun _ _ _ _ _ _ us hl => by obtain ⟨_, rfl⟩ := us1 hl; exact rfl
  have AT_fline : At K mg "_law_fact_line" sFactLine ["_law_fact"] fT_fline _ := ⟨FT_fline, O gT_fline, bT_fline⟩
  obtain ⟨fT_lines, _, _, _, _, _, _, _, _, _, gT_lines, lT_lines, cT_lines, kT_lines⟩ := dT_lines
  have FT_lines := fun_mk (st := sLines) lT_lines cT_lines kT_lines
  have bT_lines := FT_lines.binds (ps := ["_law_lore_here"]) fun _ _ _ _ _ _ us hl => by obtain ⟨_, rfl⟩ := us1 hl; exact rfl
  have AT_lines : At K mg "_law_lines" sLines ["_law_lore_here"] fT_lines _ := ⟨FT_lines, O gT_lines, bT_lines⟩
  obtain ⟨fT_text, _, _, _, _, _, _, _, _, _, gT_text, lT_text, cT_text, kT_text⟩ := dT_text
  have FT_text := fun_mk (st := sText) lT_text cT_text kT_text
  have bT_text := FT_text.binds (ps := ["_law_lore_here"]) fun _ _ _ _ _ _ us hl => by obtain ⟨_, rfl⟩ := us1 hl; exact rfl
  have AT_text : At K mg "_law_text" sText ["_law_lore_here"] fT_text _ := ⟨FT_text, O gT_text, bT_text⟩
  obtain ⟨fT_book, _, _, _, _, _, _, _, _, _, gT_book, lT_book, cT_book, kT_book⟩ := dT_book
  have FT_book := fun_mk (st := sLawBook) lT_book cT_book kT_book
  have bT_book := FT_book.binds (ps := ["_law_lore_here"]) fun _ _ _ _ _ _ us hl => by obtain ⟨_, rfl⟩ := us1 hl; exact rfl
  have AT_book : At K mg "_law_book" sLawBook ["_law_lore_here"] fT_book _ := ⟨FT_book, O gT_book, bT_book⟩
  obtain ⟨fP_isint, _, _, _, _, _, _, _, _, _, gP_isint, lP_isint, cP_isint, kP_isint⟩ := dP_isint
  have FP_isint := fun_mk (st := pIsInt) lP_isint cP_isint kP_isint
  have bP_isint := FP_isint.binds (ps := ["value"]) fun _ _ _ _ _ _ us hl => by obtain ⟨_, rfl⟩ := us1 hl; exact rfl
  have AP_isint : At K mg "is_integer" pIsInt ["value"] fP_isint _ := ⟨FP_isint, O gP_isint, bP_isint⟩
  obtain ⟨fP_isnumb, _, _, _, _, _, _, _, _, _, gP_isnumb, lP_isnumb, cP_isnumb, kP_isnumb⟩ := dP_isnumb
  have FP_isnumb := fun_mk (st := pIsNumb) lP_isnumb cP_isnumb kP_isnumb
  have bP_isnumb := FP_isnumb.binds (ps := ["value", "many"]) fun _ _ _ _ _ _ us hl => by obtain ⟨_, _, rfl⟩ := us2 hl; exact rfl
  have AP_isnumb : At K mg "is_number" pIsNumb ["value", "many"] fP_isnumb _ := ⟨FP_isnumb, O gP_isnumb, bP_isnumb⟩
  obtain ⟨fP_isword, _, _, _, _, _, _, _, _, _, gP_isword, lP_isword, cP_isword, kP_isword⟩ := dP_isword
  have FP_isword := fun_mk (st := pIsWord) lP_isword cP_isword kP_isword
  have bP_isword := FP_isword.binds (ps := ["value", "words"]) fun _ _ _ _ _ _ us hl => by obtain ⟨_, _, rfl⟩ := us2 hl; exact rfl
  have AP_isword : At K mg "is_word" pIsWord ["value", "words"] fP_isword _ := ⟨FP_isword, O gP_isword, bP_isword⟩
  obtain ⟨fP_isname, _, _, _, _, _, _, _, _, _, gP_isname, lP_isname, cP_isname, kP_isname⟩ := dP_isname
  have FP_isname := fun_mk (st := pIsName) lP_isname cP_isname kP_isname
  have bP_isname := FP_isname.binds (ps := ["text"]) fun _ _ _ _ _ _ us hl => by obtain ⟨_, rfl⟩ := us1 hl; exact rfl
  have AP_isname : At K mg "is_name" pIsName ["text"] fP_isname _ := ⟨FP_isname, O gP_isname, bP_isname⟩
  obtain ⟨fP_ispair, _, _, _, _, _, _, _, _, _, gP_ispair, lP_ispair, cP_ispair, kP_ispair⟩ := dP_ispair
  have FP_ispair := fun_mk (st := pIsPair) lP_ispair cP_ispair kP_ispair
  have bP_ispair := FP_ispair.binds (ps := ["value"]) fun _ _ _ _ _ _ us hl => by obtain ⟨_, rfl⟩ := us1 hl; exact rfl
  have AP_ispair : At K mg "is_pair" pIsPair ["value"] fP_ispair _ := ⟨FP_ispair, O gP_ispair, bP_ispair⟩
  obtain ⟨fP_isstn, _, _, _, _, _, _, _, _, _, gP_isstn, lP_isstn, cP_isstn, kP_isstn⟩ := dP_isstn
  have FP_isstn := fun_mk (st := pIsStn) lP_isstn cP_isstn kP_isstn
  have bP_isstn := FP_isstn.binds (ps := ["value", "many"]) fun _ _ _ _ _ _ us hl => by obtain ⟨_, _, rfl⟩ := us2 hl; exact rfl
  have AP_isstn : At K mg "is_standing" pIsStn ["value", "many"] fP_isstn _ := ⟨FP_isstn, O gP_isstn, bP_isstn⟩
  obtain ⟨fP_isfact, _, _, _, _, _, _, _, _, _, gP_isfact, lP_isfact, cP_isfact, kP_isfact⟩ := dP_isfact
  have FP_isfact := fun_mk (st := pIsFact) lP_isfact cP_isfact kP_isfact
  have bP_isfact := FP_isfact.binds (ps := ["value", "many"]) fun _ _ _ _ _ _ us hl => by obtain ⟨_, _, rfl⟩ := us2 hl; exact rfl
  have AP_isfact : At K mg "is_fact" pIsFact ["value", "many"] fP_isfact _ := ⟨FP_isfact, O gP_isfact, bP_isfact⟩
  obtain ⟨fP_isfull, _, _, _, _, _, _, _, _, _, gP_isfull, lP_isfull, cP_isfull, kP_isfull⟩ := dP_isfull
  have FP_isfull := fun_mk (st := pIsFull) lP_isfull cP_isfull kP_isfull
  have bP_isfull := FP_isfull.binds (ps := ["facts", "kind"]) fun _ _ _ _ _ _ us hl => by obtain ⟨_, _, rfl⟩ := us2 hl; exact rfl
  have AP_isfull : At K mg "is_full" pIsFull ["facts", "kind"] fP_isfull _ := ⟨FP_isfull, O gP_isfull, bP_isfull⟩
  obtain ⟨fP_rdjobs, _, _, _, _, _, _, _, _, _, gP_rdjobs, lP_rdjobs, cP_rdjobs, kP_rdjobs⟩ := dP_rdjobs
  have FP_rdjobs := fun_mk (st := pReadJobs) lP_rdjobs cP_rdjobs kP_rdjobs
  have bP_rdjobs := FP_rdjobs.binds (ps := ["line"]) fun _ _ _ _ _ _ us hl => by obtain ⟨_, rfl⟩ := us1 hl; exact rfl
  have AP_rdjobs : At K mg "read_jobs" pReadJobs ["line"] fP_rdjobs _ := ⟨FP_rdjobs, O gP_rdjobs, bP_rdjobs⟩
  obtain ⟨fP_rdman, _, _, _, _, _, _, _, _, _, gP_rdman, lP_rdman, cP_rdman, kP_rdman⟩ := dP_rdman
  have FP_rdman := fun_mk (st := pReadManners) lP_rdman cP_rdman kP_rdman
  have bP_rdman := FP_rdman.binds (ps := ["lines", "jobs"]) fun _ _ _ _ _ _ us hl => by obtain ⟨_, _, rfl⟩ := us2 hl; exact rfl
  have AP_rdman : At K mg "read_manners" pReadManners ["lines", "jobs"] fP_rdman _ := ⟨FP_rdman, O gP_rdman, bP_rdman⟩
  obtain ⟨fP_rdfacts, _, _, _, _, _, _, _, _, _, gP_rdfacts, lP_rdfacts, cP_rdfacts, kP_rdfacts⟩ := dP_rdfacts
  have FP_rdfacts := fun_mk (st := pReadFacts) lP_rdfacts cP_rdfacts kP_rdfacts
  have bP_rdfacts := FP_rdfacts.binds (ps := ["lines", "start", "many"]) fun _ _ _ _ _ _ us hl => by obtain ⟨_, _, _, rfl⟩ := us3 hl; exact rfl
  have AP_rdfacts : At K mg "read_facts" pReadFacts ["lines", "start", "many"] fP_rdfacts _ := ⟨FP_rdfacts, O gP_rdfacts, bP_rdfacts⟩
  obtain ⟨fP_rdfact, _, _, _, _, _, _, _, _, _, gP_rdfact, lP_rdfact, cP_rdfact, kP_rdfact⟩ := dP_rdfact
  have FP_rdfact := fun_mk (st := pReadFact) lP_rdfact cP_rdfact kP_rdfact
  have bP_rdfact := FP_rdfact.binds (ps := ["words", "many"]) fun _ _ _ _ _ _ us hl => by obtain ⟨_, _, rfl⟩ := us2 hl; exact rfl
  have AP_rdfact : At K mg "read_fact" pReadFact ["words", "many"] fP_rdfact _ := ⟨FP_rdfact, O gP_rdfact, bP_rdfact⟩
  obtain ⟨fP_rdstn, _, _, _, _, _, _, _, _, _, gP_rdstn, lP_rdstn, cP_rdstn, kP_rdstn⟩ := dP_rdstn
  have FP_rdstn := fun_mk (st := pReadStn) lP_rdstn cP_rdstn kP_rdstn
  have bP_rdstn := FP_rdstn.binds (ps := ["words"]) fun _ _ _ _ _ _ us hl => by obtain ⟨_, rfl⟩ := us1 hl; exact rfl
  have AP_rdstn : At K mg "read_standing" pReadStn ["words"] fP_rdstn _ := ⟨FP_rdstn, O gP_rdstn, bP_rdstn⟩
  obtain ⟨fP_rdcount, _, _, _, _, _, _, _, _, _, gP_rdcount, lP_rdcount, cP_rdcount, kP_rdcount⟩ := dP_rdcount
  have FP_rdcount := fun_mk (st := pReadCount) lP_rdcount cP_rdcount kP_rdcount
  have bP_rdcount := FP_rdcount.binds (ps := ["word"]) fun _ _ _ _ _ _ us hl => by obtain ⟨_, rfl⟩ := us1 hl; exact rfl
  have AP_rdcount : At K mg "read_count" pReadCount ["word"] fP_rdcount _ := ⟨FP_rdcount, O gP_rdcount, bP_rdcount⟩
  obtain ⟨fP_isnumeral, _, _, _, _, _, _, _, _, _, gP_isnumeral, lP_isnumeral, cP_isnumeral, kP_isnumeral⟩ := dP_isnumeral
  have FP_isnumeral := fun_mk (st := pIsNumeral) lP_isnumeral cP_isnumeral kP_isnumeral
  have bP_isnumeral := FP_isnumeral.binds (ps := ["text"]) fun _ _ _ _ _ _ us hl => by obtain ⟨_, rfl⟩ := us1 hl; exact rfl
  have AP_isnumeral : At K mg "is_numeral" pIsNumeral ["text"] fP_isnumeral _ := ⟨FP_isnumeral, O gP_isnumeral, bP_isnumeral⟩
  obtain ⟨fP_sure, _, _, _, _, _, _, _, _, _, gP_sure, lP_sure, cP_sure, kP_sure⟩ := dP_sure
  have FP_sure := fun_mk (st := pSure) lP_sure cP_sure kP_sure
  have bP_sure := FP_sure.binds (ps := ["book", "standing"]) fun _ _ _ _ _ _ us hl => by obtain ⟨_, _, rfl⟩ := us2 hl; exact rfl
  have AP_sure : At K mg "sure" pSure ["book", "standing"] fP_sure _ := ⟨FP_sure, O gP_sure, bP_sure⟩
  obtain ⟨fP_proof, _, _, _, _, _, _, _, _, _, gP_proof, lP_proof, cP_proof, kP_proof⟩ := dP_proof
  have FP_proof := fun_mk (st := pProof) lP_proof cP_proof kP_proof
  have bP_proof := FP_proof.binds (ps := ["manners", "facts", "aim"]) fun _ _ _ _ _ _ us hl => by obtain ⟨_, _, _, rfl⟩ := us3 hl; exact rfl
  have AP_proof : At K mg "proof" pProof ["manners", "facts", "aim"] fP_proof _ := ⟨FP_proof, O gP_proof, bP_proof⟩
  obtain ⟨fP_proofby, _, _, _, _, _, _, _, _, _, gP_proofby, lP_proofby, cP_proofby, kP_proofby⟩ := dP_proofby
  have FP_proofby := fun_mk (st := pProofBy) lP_proofby cP_proofby kP_proofby
  have bP_proofby := FP_proofby.binds (ps := ["basics", "facts", "aim"]) fun _ _ _ _ _ _ us hl => by obtain ⟨_, _, _, rfl⟩ := us3 hl; exact rfl
  have AP_proofby : At K mg "proof_by" pProofBy ["basics", "facts", "aim"] fP_proofby _ := ⟨FP_proofby, O gP_proofby, bP_proofby⟩
  obtain ⟨fP_basic, _, _, _, _, _, _, _, _, _, gP_basic, lP_basic, cP_basic, kP_basic⟩ := dP_basic
  have FP_basic := fun_mk (st := pBasic) lP_basic cP_basic kP_basic
  have bP_basic := FP_basic.binds (ps := ["manners"]) fun _ _ _ _ _ _ us hl => by obtain ⟨_, rfl⟩ := us1 hl; exact rfl
  have AP_basic : At K mg "basic_stocks" pBasic ["manners"] fP_basic _ := ⟨FP_basic, O gP_basic, bP_basic⟩
  obtain ⟨fP_levels, _, _, _, _, _, _, _, _, _, gP_levels, lP_levels, cP_levels, kP_levels⟩ := dP_levels
  have FP_levels := fun_mk (st := pLevels) lP_levels cP_levels kP_levels
  have bP_levels := FP_levels.binds (ps := ["basics", "aim"]) fun _ _ _ _ _ _ us hl => by obtain ⟨_, _, rfl⟩ := us2 hl; exact rfl
  have AP_levels : At K mg "levels" pLevels ["basics", "aim"] fP_levels _ := ⟨FP_levels, O gP_levels, bP_levels⟩
  obtain ⟨fP_flev, _, _, _, _, _, _, _, _, _, gP_flev, lP_flev, cP_flev, kP_flev⟩ := dP_flev
  have FP_flev := fun_mk (st := pFactLevels) lP_flev cP_flev kP_flev
  have bP_flev := FP_flev.binds (ps := ["basics", "fact"]) fun _ _ _ _ _ _ us hl => by obtain ⟨_, _, rfl⟩ := us2 hl; exact rfl
  have AP_flev : At K mg "fact_levels" pFactLevels ["basics", "fact"] fP_flev _ := ⟨FP_flev, O gP_flev, bP_flev⟩
  obtain ⟨fP_diff, _, _, _, _, _, _, _, _, _, gP_diff, lP_diff, cP_diff, kP_diff⟩ := dP_diff
  have FP_diff := fun_mk (st := pDiff) lP_diff cP_diff kP_diff
  have bP_diff := FP_diff.binds (ps := ["pairs", "others"]) fun _ _ _ _ _ _ us hl => by obtain ⟨_, _, rfl⟩ := us2 hl; exact rfl
  have AP_diff : At K mg "difference" pDiff ["pairs", "others"] fP_diff _ := ⟨FP_diff, O gP_diff, bP_diff⟩
  obtain ⟨fP_parted, _, _, _, _, _, _, _, _, _, gP_parted, lP_parted, cP_parted, kP_parted⟩ := dP_parted
  have FP_parted := fun_mk (st := pParted) lP_parted cP_parted kP_parted
  have bP_parted := FP_parted.binds (ps := ["basics", "facts", "aims"]) fun _ _ _ _ _ _ us hl => by obtain ⟨_, _, _, rfl⟩ := us3 hl; exact rfl
  have AP_parted : At K mg "parted" pParted ["basics", "facts", "aims"] fP_parted _ := ⟨FP_parted, O gP_parted, bP_parted⟩
  obtain ⟨fP_taken, _, _, _, _, _, _, _, _, _, gP_taken, lP_taken, cP_taken, kP_taken⟩ := dP_taken
  have FP_taken := fun_mk (st := pTaken) lP_taken cP_taken kP_taken
  have bP_taken := FP_taken.binds (ps := ["numbers", "amounts"]) fun _ _ _ _ _ _ us hl => by obtain ⟨_, _, rfl⟩ := us2 hl; exact rfl
  have AP_taken : At K mg "taken" pTaken ["numbers", "amounts"] fP_taken _ := ⟨FP_taken, O gP_taken, bP_taken⟩
  obtain ⟨fP_summed, _, _, _, _, _, _, _, _, _, gP_summed, lP_summed, cP_summed, kP_summed⟩ := dP_summed
  have FP_summed := fun_mk (st := pSummed) lP_summed cP_summed kP_summed
  have bP_summed := FP_summed.binds (ps := ["basics", "amounts", "many"]) fun _ _ _ _ _ _ us hl => by obtain ⟨_, _, _, rfl⟩ := us3 hl; exact rfl
  have AP_summed : At K mg "summed" pSummed ["basics", "amounts", "many"] fP_summed _ := ⟨FP_summed, O gP_summed, bP_summed⟩
  obtain ⟨fP_short, _, _, _, _, _, _, _, _, _, gP_short, lP_short, cP_short, kP_short⟩ := dP_short
  have FP_short := fun_mk (st := pShort) lP_short cP_short kP_short
  have bP_short := FP_short.binds (ps := ["amounts"]) fun _ _ _ _ _ _ us hl => by obtain ⟨_, rfl⟩ := us1 hl; exact rfl
  have AP_short : At K mg "shortened" pShort ["amounts"] fP_short _ := ⟨FP_short, O gP_short, bP_short⟩
  obtain ⟨fP_istold, _, _, _, _, _, _, _, _, _, gP_istold, lP_istold, cP_istold, kP_istold⟩ := dP_istold
  have FP_istold := fun_mk (st := pIsTold) lP_istold cP_istold kP_istold
  have bP_istold := FP_istold.binds (ps := ["value", "word", "size"]) fun _ _ _ _ _ _ us hl => by obtain ⟨_, _, _, rfl⟩ := us3 hl; exact rfl
  have AP_istold : At K mg "is_told" pIsTold ["value", "word", "size"] fP_istold _ := ⟨FP_istold, O gP_istold, bP_istold⟩
  obtain ⟨fP_isstk, _, _, _, _, _, _, _, _, _, gP_isstk, lP_isstk, cP_isstk, kP_isstk⟩ := dP_isstk
  have FP_isstk := fun_mk (st := pIsStkA) lP_isstk cP_isstk kP_isstk
  have bP_isstk := FP_isstk.binds (ps := ["value", "manners"]) fun _ _ _ _ _ _ us hl => by obtain ⟨_, _, rfl⟩ := us2 hl; exact rfl
  have AP_isstk : At K mg "is_stock" pIsStkA ["value", "manners"] fP_isstk _ := ⟨FP_isstk, O gP_isstk, bP_isstk⟩
  obtain ⟨fP_ischg, _, _, _, _, _, _, _, _, _, gP_ischg, lP_ischg, cP_ischg, kP_ischg⟩ := dP_ischg
  have FP_ischg := fun_mk (st := pIsChgA) lP_ischg cP_ischg kP_ischg
  have bP_ischg := FP_ischg.binds (ps := ["value", "manner"]) fun _ _ _ _ _ _ us hl => by obtain ⟨_, _, rfl⟩ := us2 hl; exact rfl
  have AP_ischg : At K mg "is_change" pIsChgA ["value", "manner"] fP_ischg _ := ⟨FP_ischg, O gP_ischg, bP_ischg⟩
  obtain ⟨fP_levat, _, _, _, _, _, _, _, _, _, gP_levat, lP_levat, cP_levat, kP_levat⟩ := dP_levat
  have FP_levat := fun_mk (st := pLevAt) lP_levat cP_levat kP_levat
  have bP_levat := FP_levat.binds (ps := ["stock", "pairs"]) fun _ _ _ _ _ _ us hl => by obtain ⟨_, _, rfl⟩ := us2 hl; exact rfl
  have AP_levat : At K mg "level_at" pLevAt ["stock", "pairs"] fP_levat _ := ⟨FP_levat, O gP_levat, bP_levat⟩
  obtain ⟨fP_below, _, _, _, _, _, _, _, _, _, gP_below, lP_below, cP_below, kP_below⟩ := dP_below
  have FP_below := fun_mk (st := pBelow1) lP_below cP_below kP_below
  have bP_below := FP_below.binds (ps := ["stocks", "standing"]) fun _ _ _ _ _ _ us hl => by obtain ⟨_, _, rfl⟩ := us2 hl; exact rfl
  have AP_below : At K mg "below" pBelow1 ["stocks", "standing"] fP_below _ := ⟨FP_below, O gP_below, bP_below⟩
  obtain ⟨fP_keeps, _, _, _, _, _, _, _, _, _, gP_keeps, lP_keeps, cP_keeps, kP_keeps⟩ := dP_keeps
  have FP_keeps := fun_mk (st := pKeeps) lP_keeps cP_keeps kP_keeps
  have bP_keeps := FP_keeps.binds (ps := ["stock", "facts"]) fun _ _ _ _ _ _ us hl => by obtain ⟨_, _, rfl⟩ := us2 hl; exact rfl
  have AP_keeps : At K mg "keeps" pKeeps ["stock", "facts"] fP_keeps _ := ⟨FP_keeps, O gP_keeps, bP_keeps⟩
  obtain ⟨fP_isso, _, _, _, _, _, _, _, _, _, gP_isso, lP_isso, cP_isso, kP_isso⟩ := dP_isso
  have FP_isso := fun_mk (st := pIsSo1) lP_isso cP_isso kP_isso
  have bP_isso := FP_isso.binds (ps := ["stocks", "fact"]) fun _ _ _ _ _ _ us hl => by obtain ⟨_, _, rfl⟩ := us2 hl; exact rfl
  have AP_isso : At K mg "is_so" pIsSo1 ["stocks", "fact"] fP_isso _ := ⟨FP_isso, O gP_isso, bP_isso⟩
  obtain ⟨fP_shows, _, _, _, _, _, _, _, _, _, gP_shows, lP_shows, cP_shows, kP_shows⟩ := dP_shows
  have FP_shows := fun_mk (st := pShows) lP_shows cP_shows kP_shows
  have bP_shows := FP_shows.binds (ps := ["book", "standing", "value"]) fun _ _ _ _ _ _ us hl => by obtain ⟨_, _, _, rfl⟩ := us3 hl; exact rfl
  have AP_shows : At K mg "shows_sure" pShows ["book", "standing", "value"] fP_shows _ := ⟨FP_shows, O gP_shows, bP_shows⟩
  obtain ⟨fP_isright, _, _, _, _, _, _, _, _, _, gP_isright, lP_isright, cP_isright, kP_isright⟩ := dP_isright
  have FP_isright := fun_mk (st := pRight) lP_isright cP_isright kP_isright
  have bP_isright := FP_isright.binds (ps := ["manners", "facts", "aim", "value"]) fun _ _ _ _ _ _ us hl => by obtain ⟨_, _, _, _, rfl⟩ := us4 hl; exact rfl
  have AP_isright : At K mg "is_right" pRight ["manners", "facts", "aim", "value"] fP_isright _ := ⟨FP_isright, O gP_isright, bP_isright⟩
  obtain ⟨fP_rightby, _, _, _, _, _, _, _, _, _, gP_rightby, lP_rightby, cP_rightby, kP_rightby⟩ := dP_rightby
  have FP_rightby := fun_mk (st := pRightBy) lP_rightby cP_rightby kP_rightby
  have bP_rightby := FP_rightby.binds (ps := ["basics", "facts", "aim", "value"]) fun _ _ _ _ _ _ us hl => by obtain ⟨_, _, _, _, rfl⟩ := us4 hl; exact rfl
  have AP_rightby : At K mg "is_right_by" pRightBy ["basics", "facts", "aim", "value"] fP_rightby _ := ⟨FP_rightby, O gP_rightby, bP_rightby⟩
  obtain ⟨fP_isref, _, _, _, _, _, _, _, _, _, gP_isref, lP_isref, cP_isref, kP_isref⟩ := dP_isref
  have FP_isref := fun_mk (st := pRefus) lP_isref cP_isref kP_isref
  have bP_isref := FP_isref.binds (ps := ["manners", "facts", "pairs", "value"]) fun _ _ _ _ _ _ us hl => by obtain ⟨_, _, _, _, rfl⟩ := us4 hl; exact rfl
  have AP_isref : At K mg "is_refusing" pRefus ["manners", "facts", "pairs", "value"] fP_isref _ := ⟨FP_isref, O gP_isref, bP_isref⟩
  obtain ⟨fP_areparts, _, _, _, _, _, _, _, _, _, gP_areparts, lP_areparts, cP_areparts, kP_areparts⟩ := dP_areparts
  have FP_areparts := fun_mk (st := pAreParts) lP_areparts cP_areparts kP_areparts
  have bP_areparts := FP_areparts.binds (ps := ["weights", "backs", "facts"]) fun _ _ _ _ _ _ us hl => by obtain ⟨_, _, _, rfl⟩ := us3 hl; exact rfl
  have AP_areparts : At K mg "are_parts" pAreParts ["weights", "backs", "facts"] fP_areparts _ := ⟨FP_areparts, O gP_areparts, bP_areparts⟩
  obtain ⟨fP_isparts, _, _, _, _, _, _, _, _, _, gP_isparts, lP_isparts, cP_isparts, kP_isparts⟩ := dP_isparts
  have FP_isparts := fun_mk (st := pIsParts) lP_isparts cP_isparts kP_isparts
  have bP_isparts := FP_isparts.binds (ps := ["value", "facts", "kind"]) fun _ _ _ _ _ _ us hl => by obtain ⟨_, _, _, rfl⟩ := us3 hl; exact rfl
  have AP_isparts : At K mg "is_parts" pIsParts ["value", "facts", "kind"] fP_isparts _ := ⟨FP_isparts, O gP_isparts, bP_isparts⟩
  obtain ⟨fP_ispart, _, _, _, _, _, _, _, _, _, gP_ispart, lP_ispart, cP_ispart, kP_ispart⟩ := dP_ispart
  have FP_ispart := fun_mk (st := pIsPart) lP_ispart cP_ispart kP_ispart
  have bP_ispart := FP_ispart.binds (ps := ["value", "facts", "kind"]) fun _ _ _ _ _ _ us hl => by obtain ⟨_, _, _, rfl⟩ := us3 hl; exact rfl
  have AP_ispart : At K mg "is_part" pIsPart ["value", "facts", "kind"] fP_ispart _ := ⟨FP_ispart, O gP_ispart, bP_ispart⟩
  obtain ⟨fP_isenough, _, _, _, _, _, _, _, _, _, gP_isenough, lP_isenough, cP_isenough, kP_isenough⟩ := dP_isenough
  have FP_isenough := fun_mk (st := pEnough) lP_isenough cP_isenough kP_isenough
  have bP_isenough := FP_isenough.binds (ps := ["basics", "facts", "whole", "parts"]) fun _ _ _ _ _ _ us hl => by obtain ⟨_, _, _, _, rfl⟩ := us4 hl; exact rfl
  have AP_isenough : At K mg "is_enough" pEnough ["basics", "facts", "whole", "parts"] fP_isenough _ := ⟨FP_isenough, O gP_isenough, bP_isenough⟩
  obtain ⟨fT_near, _, _, _, _, _, _, _, _, _, gT_near, lT_near, cT_near, kT_near⟩ := dT_near
  have FT_near := fun_mk (st := sNear) lT_near cT_near kT_near
  have bT_near := FT_near.binds (ps := ["_law_pot_here", "_law_jobs_here", "_law_standing_here"]) fun _ _ _ _ _ _ us hl => by obtain ⟨_, _, _, rfl⟩ := us3 hl; exact rfl
  have AT_near : At K mg "_law_near" sNear ["_law_pot_here", "_law_jobs_here", "_law_standing_here"] fT_near _ := ⟨FT_near, O gT_near, bT_near⟩
  obtain ⟨fT_mlore, _, _, _, _, _, _, _, _, _, gT_mlore, lT_mlore, cT_mlore, kT_mlore⟩ := dT_mlore
  have FT_mlore := fun_mk (st := sMLore) lT_mlore cT_mlore kT_mlore
  have bT_mlore := FT_mlore.binds (ps := ["_law_lore_here", "_law_name", "_law_manner"]) fun _ _ _ _ _ _ us hl => by obtain ⟨_, _, _, rfl⟩ := us3 hl; exact rfl
  have AT_mlore : At K mg "_law_manner_lore" sMLore ["_law_lore_here", "_law_name", "_law_manner"] fT_mlore _ := ⟨FT_mlore, O gT_mlore, bT_mlore⟩
  obtain ⟨fT_areright, _, _, _, _, _, _, _, _, _, gT_areright, lT_areright, cT_areright, kT_areright⟩ := dT_areright
  have FT_areright := fun_mk (st := sAreRt) lT_areright cT_areright kT_areright
  have bT_areright := FT_areright.binds (ps := ["_law_lore_here", "_law_standing_here", "_law_name"]) fun _ _ _ _ _ _ us hl => by obtain ⟨_, _, _, rfl⟩ := us3 hl; exact rfl
  have AT_areright : At K mg "_law_are_right" sAreRt ["_law_lore_here", "_law_standing_here", "_law_name"] fT_areright _ := ⟨FT_areright, O gT_areright, bT_areright⟩
  obtain ⟨fT_right, _, _, _, _, _, _, _, _, _, gT_right, lT_right, cT_right, kT_right⟩ := dT_right
  have FT_right := fun_mk (st := sRight73) lT_right cT_right kT_right
  have bT_right := FT_right.binds (ps := ["_law_pot_here"]) fun _ _ _ _ _ _ us hl => by obtain ⟨_, rfl⟩ := us1 hl; exact rfl
  have AT_right : At K mg "_law_right" sRight73 ["_law_pot_here"] fT_right _ := ⟨FT_right, O gT_right, bT_right⟩
  obtain ⟨fT_law, oc0, od0, an0, osl0, kV0, doc0, pm0, cdv0, ct0, gT_law, lT_law, cT_law, kT_law⟩ := dT_law
  have e := hfa.symm.trans (O gT_law)
  cases e
  have FT_law := fun_mk (st := sLaw73) lT_law cT_law kT_law
  have bT_law := FT_law.binds (ps := ["_law_script"]) fun _ _ _ _ _ _ us hl => by obtain ⟨_, rfl⟩ := us1 hl; exact rfl
  obtain ⟨fM_init, _, _, _, _, _, _, _, _, _, gM_init, iM_init, lM_init, cM_init, kM_init⟩ := dM_init
  have FM_init := fun_mk (st := pInit) lM_init cM_init kM_init
  have bM_init := FM_init.binds (ps := ["self", "text"]) fun _ _ _ _ _ _ us hl => by obtain ⟨_, _, rfl⟩ := us2 hl; exact rfl
  obtain ⟨fM_tinit, _, _, _, _, _, _, _, _, _, gM_tinit, iM_tinit, lM_tinit, cM_tinit, kM_tinit⟩ := dM_tinit
  have FM_tinit := fun_mk (st := pTabI) lM_tinit cM_tinit kM_tinit
  have bM_tinit := FM_tinit.binds (ps := ["self", "columns", "goal", "bound"]) fun _ _ _ _ _ _ us hl => by obtain ⟨_, _, _, _, rfl⟩ := us4 hl; exact rfl
  obtain ⟨fM_tgrow, _, _, _, _, _, _, _, _, _, gM_tgrow, iM_tgrow, lM_tgrow, cM_tgrow, kM_tgrow⟩ := dM_tgrow
  have FM_tgrow := fun_mk (st := pGrow) lM_tgrow cM_tgrow kM_tgrow
  have bM_tgrow := FM_tgrow.binds (ps := ["self"]) fun _ _ _ _ _ _ us hl => by obtain ⟨_, rfl⟩ := us1 hl; exact rfl
  obtain ⟨fM_tset, _, _, _, _, _, _, _, _, _, gM_tset, iM_tset, lM_tset, cM_tset, kM_tset⟩ := dM_tset
  have FM_tset := fun_mk (st := pSettle) lM_tset cM_tset kM_tset
  have bM_tset := FM_tset.binds (ps := ["self"]) fun _ _ _ _ _ _ us hl => by obtain ⟨_, rfl⟩ := us1 hl; exact rfl
  obtain ⟨fM_tent, _, _, _, _, _, _, _, _, _, gM_tent, iM_tent, lM_tent, cM_tent, kM_tent⟩ := dM_tent
  have FM_tent := fun_mk (st := pEntering) lM_tent cM_tent kM_tent
  have bM_tent := FM_tent.binds (ps := ["self"]) fun _ _ _ _ _ _ us hl => by obtain ⟨_, rfl⟩ := us1 hl; exact rfl
  obtain ⟨fM_tleav, _, _, _, _, _, _, _, _, _, gM_tleav, iM_tleav, lM_tleav, cM_tleav, kM_tleav⟩ := dM_tleav
  have FM_tleav := fun_mk (st := pLeaving) lM_tleav cM_tleav kM_tleav
  have bM_tleav := FM_tleav.binds (ps := ["self", "to"]) fun _ _ _ _ _ _ us hl => by obtain ⟨_, _, rfl⟩ := us2 hl; exact rfl
  obtain ⟨fM_tswap, _, _, _, _, _, _, _, _, _, gM_tswap, iM_tswap, lM_tswap, cM_tswap, kM_tswap⟩ := dM_tswap
  have FM_tswap := fun_mk (st := pSwap) lM_tswap cM_tswap kM_tswap
  have bM_tswap := FM_tswap.binds (ps := ["self", "at", "to"]) fun _ _ _ _ _ _ us hl => by obtain ⟨_, _, _, rfl⟩ := us3 hl; exact rfl
  obtain ⟨fM_tam, _, _, _, _, _, _, _, _, _, gM_tam, iM_tam, lM_tam, cM_tam, kM_tam⟩ := dM_tam
  have FM_tam := fun_mk (st := pAmounts) lM_tam cM_tam kM_tam
  have bM_tam := FM_tam.binds (ps := ["self", "to"]) fun _ _ _ _ _ _ us hl => by obtain ⟨_, _, rfl⟩ := us2 hl; exact rfl
  obtain ⟨fM_tco, _, _, _, _, _, _, _, _, _, gM_tco, iM_tco, lM_tco, cM_tco, kM_tco⟩ := dM_tco
  have FM_tco := fun_mk (st := pCosts) lM_tco cM_tco kM_tco
  have bM_tco := FM_tco.binds (ps := ["self"]) fun _ _ _ _ _ _ us hl => by obtain ⟨_, rfl⟩ := us1 hl; exact rfl
  obtain ⟨u40, e40, r40⟩ := c40
  obtain ⟨u8, e8, r8⟩ := c8
  obtain ⟨u4, e4', r4⟩ := c4
  obtain ⟨um, em, rm⟩ := cm
  obtain ⟨pT, eT, t1, t2, t3⟩ := cT
  obtain ⟨pL, eL, tL⟩ := cL
  obtain ⟨pMo, eMo, tMo⟩ := cM
  have TA : TxtA mg := ⟨Z n_len, Z n_abs, Z n_int, Z n_max, Z n_min, Z n_list, Z n_range⟩
  have S : Small1 K mg := ⟨TA, Z n_all, Z n_tuple, Z n_sum, Z n_zip⟩
  have FS : Forms1 mg := ⟨Z n_isinstance, Z n_int, Z n_bool, Z n_str, Z n_tuple, Z n_len, Z n_all, ⟨u40, O e40, r40⟩⟩
  have RS : Reads1 mg := ⟨FS, ⟨um, O em, rm⟩, Z n_range⟩
  have TT : Told K w mg := told_of (O eT) t1 t2 t3
  have LL : Lined K mg := ⟨pL, O eL, tL⟩
  have BC : BookC K mg C := ⟨cl, nT, nJ, nM, nF, nH, nA, O aC⟩
  have TC : TabC K CT := ⟨ct, tH, tS, tR, tD, tB⟩
  have CG : Chgs K w mg := ⟨⟨pMo, O eMo, tMo⟩, chgs_of (w := w) (fun e => O e) cCh⟩
  have RD : Reader K mg _ _ _ _ _ _ _ _ _ _ _ _ _ _ _ _ _ _ _ _ := ⟨AP_isint, AP_isnumb, AP_isword, AP_ispair, AP_isstn, AP_isfact, AP_isfull, AP_rdfact, AP_rdstn, ⟨AP_rdcount, ⟨_, _, AP_isnumeral⟩⟩⟩
  have DR : Drawer K mg _ _ _ _ _ _ _ _ _ _ _ _ _ _ _ _ _ _ _ _ _ _ _ _ _ _ _ _ _ _ _ _ := ⟨AT_take, AT_of, AT_some, AT_names, AT_jobs, AT_first, AT_behind, AT_can, AT_events, AT_change, AT_stock, AT_level, AT_lets, AT_heard, AT_alike, AT_few⟩
  refine ⟨PySem.W.fnOf "law" "law" (defArgs sLaw73) (defBody sLaw73) (defScope sLaw73) .none kV0 doc0 pm0 an0 cdv0 ct0, fun s v => .of_eq rfl, fun base _ _ => ?_⟩
  have GI := ok_init (P := P) (w := w) (base := base) FM_init BC RS (O gP_rdjobs) bP_rdjobs kP_rdjobs (ok_rdjobs FP_rdjobs RS AP_isname ⟨u8, O e8, r8⟩ ⟨u4, O e4', r4⟩ (Z n_set)) (O gP_rdman) bP_rdman kP_rdman (ok_rdman FP_rdman RS LL) (O gP_rdfacts) bP_rdfacts kP_rdfacts (ok_rdfacts FP_rdfacts RS TT RD)
  have MK : Maker P w K mg base C fM_init _ := ⟨BC, ⟨mk, gM_init, iM_init, kc⟩, bM_init, GI⟩
  have GU := ok_text (P := P) (w := w) (base := base) FT_text (Z n_str) AT_stext AT_fline AT_lines
  have GLB := ok_lawbook (P := P) (w := w) (base := base) FT_book MK (O gT_text) bT_text kT_text GU
  have GSw := ok_swap (P := P) (w := w) (base := base) FM_tswap TC (Z n_zip)
  have GEn := ok_entering (P := P) (w := w) (base := base) FM_tent TC (Z n_enumerate) (Z n_min)
  have GLv := ok_leaving (P := P) (w := w) (base := base) FM_tleav TC (Z n_enumerate) (Z n_min)
  have GSt := ok_settle (P := P) (w := w) (base := base) FM_tset TC (Z n_enumerate) (Z n_range) (Z n_len) ⟨gM_tswap, iM_tswap, kM_tswap⟩ bM_tswap GSw
  have GGr := ok_grow (P := P) (w := w) (base := base) FM_tgrow TC ⟨gM_tswap, iM_tswap, kM_tswap⟩ bM_tswap GSw ⟨gM_tent, iM_tent, kM_tent⟩ bM_tent GEn ⟨gM_tleav, iM_tleav, kM_tleav⟩ bM_tleav GLv ⟨gM_tset, iM_tset, kM_tset⟩ bM_tset GSt
  have GTi := ok_tabi (P := P) (w := w) (base := base) FM_tinit TC (Z n_range) (Z n_len) (Z n_list)
  have GAm := ok_amounts (P := P) (w := w) (base := base) FM_tam TC (Z n_len) (Z n_zip)
  have GCo := ok_costs (P := P) (w := w) (base := base) FM_tco TC (Z n_len) (Z n_zip)
  have GBs := ok_basic (P := P) (w := w) (base := base) FP_basic CG (Z n_enumerate)
  have GLs := ok_levels (mg := mg) (P := P) (w := w) (base := base) FP_levels
  have GDf := ok_diff (P := P) (w := w) (base := base) FP_diff (Z n_zip) (Z n_tuple)
  have GFl := ok_factlevels (P := P) (w := w) (base := base) FP_flev (O gP_levels) bP_levels kP_levels GLs (O gP_diff) bP_diff kP_diff GDf
  have GSh := ok_short (P := P) (w := w) (base := base) FP_short (O gG)
  have GTk := ok_taken (P := P) (w := w) (base := base) FP_taken (Z n_zip) (Z n_tuple)
  have GSm := ok_summed (P := P) (w := w) (base := base) FP_summed (Z n_zip) (Z n_tuple)
  have GPa := ok_parted (P := P) (w := w) (base := base) FP_parted TC (Z n_enumerate) (Z n_len) (Z n_tuple) (O gP_levels) bP_levels kP_levels GLs (O gP_flev) bP_flev kP_flev GFl (O gP_summed) bP_summed kP_summed GSm (O gP_short) bP_short kP_short GSh (O gP_taken) bP_taken kP_taken GTk ⟨mkt, gM_tinit, iM_tinit, kct⟩ (O aCT) bM_tinit GTi ⟨gM_tgrow, iM_tgrow, kM_tgrow⟩ bM_tgrow GGr ⟨gM_tco, iM_tco, kM_tco⟩ bM_tco GCo ⟨gM_tam, iM_tam, kM_tam⟩ bM_tam GAm
  have GPb := ok_proofby (P := P) (w := w) (base := base) FP_proofby (O gP_parted) bP_parted kP_parted GPa
  have GPf := ok_proof (P := P) (w := w) (base := base) FP_proof (O gP_proofby) bP_proofby kP_proofby GPb (O gP_basic) bP_basic kP_basic GBs
  have GIs := ok_isstn (P := P) (w := w) (base := base) FP_isstn FS AP_isint AP_ispair
  have GSu := ok_sure (P := P) (w := w) (base := base) FP_sure BC (Z n_len) (O gP_proof) bP_proof kP_proof GPf (O gP_isstn) bP_isstn kP_isstn GIs
  have GLo := ok_lore (P := P) (w := w) (base := base) FT_lore S DR
  have GTake := ok_take (P := P) (w := w) (base := base) FT_take TA
  have GOf := ok_of (P := P) (w := w) (base := base) FT_of TA FT_take (O gT_take) bT_take
  have GSo := ok_some (P := P) (w := w) (base := base) FT_some TA FT_take (O gT_take) bT_take
  have GSd := ok_standing (P := P) (w := w) (base := base) FT_standing TA (Z n_tuple) FT_take (O gT_take) bT_take
  have GTo_ := ok_istold (P := P) (w := w) (base := base) FP_istold FS AP_isword
  have GSk_ := oka_isstk (P := P) (w := w) (base := base) FP_isstk FS (Z n_zip) AP_isint AP_ischg
  have GPs_ := oka_isparts (P := P) (w := w) (base := base) FP_isparts FS (Z n_sorted) (Z n_set) AP_ispart AP_isint AP_isnumb
  have GBo_ := oka_areparts (P := P) (w := w) (base := base) FP_areparts (O gP_isparts) bP_isparts kP_isparts GPs_
  have GLa_ := ok_levat (P := P) (w := w) (base := base) FP_levat (Z n_zip)
  have GIo_ := ok_isso1 (P := P) (w := w) (base := base) FP_isso (Z n_all) (Z n_tuple) (Z n_enumerate) (Z n_zip) AP_levat AP_below
  have GKp_ := ok_keepsP (P := P) (w := w) (base := base) FP_keeps (Z n_all) (O gP_isso) bP_isso kP_isso GIo_
  have GEn_ := ok_enough (P := P) (w := w) (base := base) FP_isenough (Z n_all) (Z n_zip) (O gP_flev) bP_flev kP_flev GFl
  have GRb_ := ok_rightby (P := P) (w := w) (base := base) FP_rightby FS AP_isint (O gP_areparts) bP_areparts kP_areparts GBo_ (O gP_levels) bP_levels kP_levels GLs (O gP_isenough) bP_isenough kP_isenough GEn_
  have GRi_ := ok_isright (P := P) (w := w) (base := base) FP_isright (O gP_rightby) bP_rightby kP_rightby GRb_ (O gP_basic) bP_basic kP_basic GBs
  have GRf_ := ok_isref (P := P) (w := w) (base := base) FP_isref (O gP_isstk) bP_isstk kP_isstk GSk_ (O gP_keeps) bP_keeps kP_keeps GKp_ (O gP_levat) bP_levat kP_levat GLa_
  have GShows := ok_shows (P := P) (w := w) (base := base) FP_shows BC (Z n_len) (O gP_isstn) bP_isstn kP_isstn GIs (O gP_istold) bP_istold kP_istold GTo_ (O gP_isright) bP_isright kP_isright GRi_ (O gP_isref) bP_isref kP_isref GRf_
  have GFi_ := ok_first (P := P) (w := w) (base := base) FT_first (Z n_tuple)
  have GBe_ := ok_behind (mg := mg) (P := P) (w := w) (base := base) FT_behind
  have GEv_ := ok_events (P := P) (w := w) (base := base) FT_events (Z n_all) FT_behind (O gT_behind) bT_behind FT_can (O gT_can) bT_can
  have GNr := ok_near (P := P) (w := w) (base := base) FT_near (Z n_len) (Z n_min) (Z n_max) (O gT_take) bT_take kT_take GTake (O gT_of) bT_of kT_of GOf (O gT_events) bT_events kT_events GEv_ (O gT_behind) bT_behind kT_behind GBe_
  have GMl := ok_mlore (mg := mg) (P := P) (w := w) (base := base) FT_mlore
  have GAr := ok_areright (P := P) (w := w) (base := base) FT_areright (O gT_book) bT_book kT_book GLB (O gT_mlore) bT_mlore kT_mlore GMl (O gP_sure) bP_sure kP_sure GSu (O gP_shows) bP_shows kP_shows GShows
  have GRt := ok_right73 (P := P) (w := w) (base := base) FT_right (Z n_range) (O gT_lore) bT_lore kT_lore GLo (O gT_first) bT_first kT_first GFi_ (O gT_of) bT_of kT_of GOf (O gT_near) bT_near kT_near GNr (O gT_standing) bT_standing kT_standing GSd (O gT_areright) bT_areright kT_areright GAr
  exact ok_law73 FT_law S (O gT_right) bT_right kT_right GRt AT_pot AT_cells
end K73
open PySem PySem.W PyProof.Rows in
set_option maxRecDepth 100000 in
set_option maxHeartbeats 0 in
theorem PySem.Challenge.cw_unseenstocks_k73_whole_manners_told_othe_holds : PySem.Challenge.rw_unseenstocks_k73_whole_manners_told_othe.Holds := by
  refine hd ?_
  k_fill
  refine L2.walk_of (l := PySem.Challenge.rw_unseenstocks_k73_whole_manners_told_othe) (n := 63) (k := 11) (x := "_law_script") (CX := fun _ => L2.CX0) (sp := fun w => K73.spLaw73 _) rfl (by decide) rfl ⟨rfl, by decide, by decide⟩ (fun w h Y => PySem.W.kIn_of Y) ?F (fun _ _ a ns _ _ hS => ⟨a, ns, rfl, hS, fun _ => rfl⟩) fun _ _ _ _ _ z => z
  case F =>
    intro w mg fa h KX G hmg
    refine' K73.fin_mk KX G hmg ?aC ?aCT ?dT_pot ?dT_take ?dT_of ?dT_some ?dT_cells ?dT_names ?dT_jobs ?dT_first ?dT_behind ?dT_can ?dT_events ?dT_standing ?dT_change ?dT_stock ?dT_level ?dT_lets ?dT_heard ?dT_alike ?dT_few ?dT_lore ?dT_stext ?dT_fline ?dT_lines ?dT_text ?dT_book ?dP_isint ?dP_isnumb ?dP_isword ?dP_isname ?dP_ispair ?dP_isstn ?dP_isfact ?dP_isfull ?dP_rdjobs ?dP_rdman ?dP_rdfacts ?dP_rdfact ?dP_rdstn ?dP_rdcount ?dP_isnumeral ?dP_sure ?dP_proof ?dP_proofby ?dP_basic ?dP_levels ?dP_flev ?dP_diff ?dP_parted ?dP_taken ?dP_summed ?dP_short ?dP_istold ?dP_isstk ?dP_ischg ?dP_levat ?dP_below ?dP_keeps ?dP_isso ?dP_shows ?dP_isright ?dP_rightby ?dP_isref ?dP_areparts ?dP_isparts ?dP_ispart ?dP_isenough ?dT_near ?dT_mlore ?dT_areright ?dT_right ?dT_law ?dM_init ?dM_tinit ?dM_tgrow ?dM_tset ?dM_tent ?dM_tleav ?dM_tswap ?dM_tam ?dM_tco ?n_sorted ?n_len ?n_abs ?n_int ?n_max ?n_min ?n_list ?n_range ?n_all ?n_tuple ?n_sum ?n_zip ?n_isinstance ?n_bool ?n_str ?n_set ?n_enumerate ?c40 ?c8 ?c4 ?cm ?cT ?cL ?cM ?cCh ?cl ?nT ?nJ ?nM ?nF ?nH ?nA ?mk ?kc ?ct ?tH ?tS ?tR ?tD ?tB ?mkt ?kct ?gG
    (case aC => k_is)
    (case aCT => k_is)
    (case dT_pot => exact ⟨_, _, _, _, _, _, _, _, _, _, by k_is, by k_is, by k_is, by k_is⟩)
    (case dT_take => exact ⟨_, _, _, _, _, _, _, _, _, _, by k_is, by k_is, by k_is, by k_is⟩)
    (case dT_of => exact ⟨_, _, _, _, _, _, _, _, _, _, by k_is, by k_is, by k_is, by k_is⟩)
    (case dT_some => exact ⟨_, _, _, _, _, _, _, _, _, _, by k_is, by k_is, by k_is, by k_is⟩)
    (case dT_cells => exact ⟨_, _, _, _, _, _, _, _, _, _, by k_is, by k_is, by k_is, by k_is⟩)
    (case dT_names => exact ⟨_, _, _, _, _, _, _, _, _, _, by k_is, by k_is, by k_is, by k_is⟩)
    (case dT_jobs => exact ⟨_, _, _, _, _, _, _, _, _, _, by k_is, by k_is, by k_is, by k_is⟩)
    (case dT_first => exact ⟨_, _, _, _, _, _, _, _, _, _, by k_is, by k_is, by k_is, by k_is⟩)
    (case dT_behind => exact ⟨_, _, _, _, _, _, _, _, _, _, by k_is, by k_is, by k_is, by k_is⟩)
    (case dT_can => exact ⟨_, _, _, _, _, _, _, _, _, _, by k_is, by k_is, by k_is, by k_is⟩)
    (case dT_events => exact ⟨_, _, _, _, _, _, _, _, _, _, by k_is, by k_is, by k_is, by k_is⟩)
    (case dT_standing => exact ⟨_, _, _, _, _, _, _, _, _, _, by k_is, by k_is, by k_is, by k_is⟩)
    (case dT_change => exact ⟨_, _, _, _, _, _, _, _, _, _, by k_is, by k_is, by k_is, by k_is⟩)
    (case dT_stock => exact ⟨_, _, _, _, _, _, _, _, _, _, by k_is, by k_is, by k_is, by k_is⟩)
    (case dT_level => exact ⟨_, _, _, _, _, _, _, _, _, _, by k_is, by k_is, by k_is, by k_is⟩)
    (case dT_lets => exact ⟨_, _, _, _, _, _, _, _, _, _, by k_is, by k_is, by k_is, by k_is⟩)
    (case dT_heard => exact ⟨_, _, _, _, _, _, _, _, _, _, by k_is, by k_is, by k_is, by k_is⟩)
    (case dT_alike => exact ⟨_, _, _, _, _, _, _, _, _, _, by k_is, by k_is, by k_is, by k_is⟩)
    (case dT_few => exact ⟨_, _, _, _, _, _, _, _, _, _, by k_is, by k_is, by k_is, by k_is⟩)
    (case dT_lore => exact ⟨_, _, _, _, _, _, _, _, _, _, by k_is, by k_is, by k_is, by k_is⟩)
    (case dT_stext => exact ⟨_, _, _, _, _, _, _, _, _, _, by k_is, by k_is, by k_is, by k_is⟩)
    (case dT_fline => exact ⟨_, _, _, _, _, _, _, _, _, _, by k_is, by k_is, by k_is, by k_is⟩)
    (case dT_lines => exact ⟨_, _, _, _, _, _, _, _, _, _, by k_is, by k_is, by k_is, by k_is⟩)
    (case dT_text => exact ⟨_, _, _, _, _, _, _, _, _, _, by k_is, by k_is, by k_is, by k_is⟩)
    (case dT_book => exact ⟨_, _, _, _, _, _, _, _, _, _, by k_is, by k_is, by k_is, by k_is⟩)
    (case dP_isint => exact ⟨_, _, _, _, _, _, _, _, _, _, by k_is, by k_is, by k_is, by k_is⟩)
    (case dP_isnumb => exact ⟨_, _, _, _, _, _, _, _, _, _, by k_is, by k_is, by k_is, by k_is⟩)
    (case dP_isword => exact ⟨_, _, _, _, _, _, _, _, _, _, by k_is, by k_is, by k_is, by k_is⟩)
    (case dP_isname => exact ⟨_, _, _, _, _, _, _, _, _, _, by k_is, by k_is, by k_is, by k_is⟩)
    (case dP_ispair => exact ⟨_, _, _, _, _, _, _, _, _, _, by k_is, by k_is, by k_is, by k_is⟩)
    (case dP_isstn => exact ⟨_, _, _, _, _, _, _, _, _, _, by k_is, by k_is, by k_is, by k_is⟩)
    (case dP_isfact => exact ⟨_, _, _, _, _, _, _, _, _, _, by k_is, by k_is, by k_is, by k_is⟩)
    (case dP_isfull => exact ⟨_, _, _, _, _, _, _, _, _, _, by k_is, by k_is, by k_is, by k_is⟩)
    (case dP_rdjobs => exact ⟨_, _, _, _, _, _, _, _, _, _, by k_is, by k_is, by k_is, by k_is⟩)
    (case dP_rdman => exact ⟨_, _, _, _, _, _, _, _, _, _, by k_is, by k_is, by k_is, by k_is⟩)
    (case dP_rdfacts => exact ⟨_, _, _, _, _, _, _, _, _, _, by k_is, by k_is, by k_is, by k_is⟩)
    (case dP_rdfact => exact ⟨_, _, _, _, _, _, _, _, _, _, by k_is, by k_is, by k_is, by k_is⟩)
    (case dP_rdstn => exact ⟨_, _, _, _, _, _, _, _, _, _, by k_is, by k_is, by k_is, by k_is⟩)
    (case dP_rdcount => exact ⟨_, _, _, _, _, _, _, _, _, _, by k_is, by k_is, by k_is, by k_is⟩)
    (case dP_isnumeral => exact ⟨_, _, _, _, _, _, _, _, _, _, by k_is, by k_is, by k_is, by k_is⟩)
    (case dP_sure => exact ⟨_, _, _, _, _, _, _, _, _, _, by k_is, by k_is, by k_is, by k_is⟩)
    (case dP_proof => exact ⟨_, _, _, _, _, _, _, _, _, _, by k_is, by k_is, by k_is, by k_is⟩)
    (case dP_proofby => exact ⟨_, _, _, _, _, _, _, _, _, _, by k_is, by k_is, by k_is, by k_is⟩)
    (case dP_basic => exact ⟨_, _, _, _, _, _, _, _, _, _, by k_is, by k_is, by k_is, by k_is⟩)
    (case dP_levels => exact ⟨_, _, _, _, _, _, _, _, _, _, by k_is, by k_is, by k_is, by k_is⟩)
    (case dP_flev => exact ⟨_, _, _, _, _, _, _, _, _, _, by k_is, by k_is, by k_is, by k_is⟩)
    (case dP_diff => exact ⟨_, _, _, _, _, _, _, _, _, _, by k_is, by k_is, by k_is, by k_is⟩)
    (case dP_parted => exact ⟨_, _, _, _, _, _, _, _, _, _, by k_is, by k_is, by k_is, by k_is⟩)
    (case dP_taken => exact ⟨_, _, _, _, _, _, _, _, _, _, by k_is, by k_is, by k_is, by k_is⟩)
    (case dP_summed => exact ⟨_, _, _, _, _, _, _, _, _, _, by k_is, by k_is, by k_is, by k_is⟩)
    (case dP_short => exact ⟨_, _, _, _, _, _, _, _, _, _, by k_is, by k_is, by k_is, by k_is⟩)
    (case dP_istold => exact ⟨_, _, _, _, _, _, _, _, _, _, by k_is, by k_is, by k_is, by k_is⟩)
    (case dP_isstk => exact ⟨_, _, _, _, _, _, _, _, _, _, by k_is, by k_is, by k_is, by k_is⟩)
    (case dP_ischg => exact ⟨_, _, _, _, _, _, _, _, _, _, by k_is, by k_is, by k_is, by k_is⟩)
    (case dP_levat => exact ⟨_, _, _, _, _, _, _, _, _, _, by k_is, by k_is, by k_is, by k_is⟩)
    (case dP_below => exact ⟨_, _, _, _, _, _, _, _, _, _, by k_is, by k_is, by k_is, by k_is⟩)
    (case dP_keeps => exact ⟨_, _, _, _, _, _, _, _, _, _, by k_is, by k_is, by k_is, by k_is⟩)
    (case dP_isso => exact ⟨_, _, _, _, _, _, _, _, _, _, by k_is, by k_is, by k_is, by k_is⟩)
    (case dP_shows => exact ⟨_, _, _, _, _, _, _, _, _, _, by k_is, by k_is, by k_is, by k_is⟩)
    (case dP_isright => exact ⟨_, _, _, _, _, _, _, _, _, _, by k_is, by k_is, by k_is, by k_is⟩)
    (case dP_rightby => exact ⟨_, _, _, _, _, _, _, _, _, _, by k_is, by k_is, by k_is, by k_is⟩)
    (case dP_isref => exact ⟨_, _, _, _, _, _, _, _, _, _, by k_is, by k_is, by k_is, by k_is⟩)
    (case dP_areparts => exact ⟨_, _, _, _, _, _, _, _, _, _, by k_is, by k_is, by k_is, by k_is⟩)
    (case dP_isparts => exact ⟨_, _, _, _, _, _, _, _, _, _, by k_is, by k_is, by k_is, by k_is⟩)
    (case dP_ispart => exact ⟨_, _, _, _, _, _, _, _, _, _, by k_is, by k_is, by k_is, by k_is⟩)
    (case dP_isenough => exact ⟨_, _, _, _, _, _, _, _, _, _, by k_is, by k_is, by k_is, by k_is⟩)
    (case dT_near => exact ⟨_, _, _, _, _, _, _, _, _, _, by k_is, by k_is, by k_is, by k_is⟩)
    (case dT_mlore => exact ⟨_, _, _, _, _, _, _, _, _, _, by k_is, by k_is, by k_is, by k_is⟩)
    (case dT_areright => exact ⟨_, _, _, _, _, _, _, _, _, _, by k_is, by k_is, by k_is, by k_is⟩)
    (case dT_right => exact ⟨_, _, _, _, _, _, _, _, _, _, by k_is, by k_is, by k_is, by k_is⟩)
    (case dT_law => exact ⟨_, _, _, _, _, _, _, _, _, _, by k_is, by k_is, by k_is, by k_is⟩)
    (case dM_init => exact ⟨_, _, _, _, _, _, _, _, _, _, by k_is, by k_is, by k_is, by k_is, by k_is⟩)
    (case dM_tinit => exact ⟨_, _, _, _, _, _, _, _, _, _, by k_is, by k_is, by k_is, by k_is, by k_is⟩)
    (case dM_tgrow => exact ⟨_, _, _, _, _, _, _, _, _, _, by k_is, by k_is, by k_is, by k_is, by k_is⟩)
    (case dM_tset => exact ⟨_, _, _, _, _, _, _, _, _, _, by k_is, by k_is, by k_is, by k_is, by k_is⟩)
    (case dM_tent => exact ⟨_, _, _, _, _, _, _, _, _, _, by k_is, by k_is, by k_is, by k_is, by k_is⟩)
    (case dM_tleav => exact ⟨_, _, _, _, _, _, _, _, _, _, by k_is, by k_is, by k_is, by k_is, by k_is⟩)
    (case dM_tswap => exact ⟨_, _, _, _, _, _, _, _, _, _, by k_is, by k_is, by k_is, by k_is, by k_is⟩)
    (case dM_tam => exact ⟨_, _, _, _, _, _, _, _, _, _, by k_is, by k_is, by k_is, by k_is, by k_is⟩)
    (case dM_tco => exact ⟨_, _, _, _, _, _, _, _, _, _, by k_is, by k_is, by k_is, by k_is, by k_is⟩)
    (case n_sorted => k_is)
    (case n_len => k_is)
    (case n_abs => k_is)
    (case n_int => k_is)
    (case n_max => k_is)
    (case n_min => k_is)
    (case n_list => k_is)
    (case n_range => k_is)
    (case n_all => k_is)
    (case n_tuple => k_is)
    (case n_sum => k_is)
    (case n_zip => k_is)
    (case n_isinstance => k_is)
    (case n_bool => k_is)
    (case n_str => k_is)
    (case n_set => k_is)
    (case n_enumerate => k_is)
    (case c40 => exact ⟨_, by k_is, ⟨_, rfl⟩⟩)
    (case c8 => exact ⟨_, by k_is, ⟨_, rfl⟩⟩)
    (case c4 => exact ⟨_, by k_is, ⟨_, rfl⟩⟩)
    (case cm => exact ⟨_, by k_is, ⟨_, rfl⟩⟩)
    (case cT => exact ⟨_, by k_is, ⟨_, _, _, by k_is, by exact ⟨⟨_, _, rfl, rfl⟩, ⟨_, _, rfl, rfl⟩, ⟨_, _, rfl, rfl⟩, trivial⟩, by k_is, ⟨_, rfl⟩⟩, ⟨_, _, _, by k_is, by exact ⟨⟨_, _, rfl, rfl⟩, ⟨_, _, rfl, rfl⟩, ⟨_, _, rfl, rfl⟩, trivial⟩, by k_is, ⟨_, rfl⟩⟩, ⟨_, _, _, by k_is, by exact ⟨⟨_, _, rfl, rfl⟩, ⟨_, _, rfl, rfl⟩, ⟨_, _, rfl, rfl⟩, trivial⟩, by k_is, ⟨_, rfl⟩⟩⟩)
    (case cL => exact ⟨_, by k_is, fun H => .inr ⟨_, _, _, by k_is, rfl, rfl, by decide, .cons ⟨_, rfl⟩ (.cons ⟨_, rfl⟩ (.cons ⟨_, rfl⟩ .nil))⟩⟩)
    (case cM => exact ⟨_, by k_is, fun H => .inr ⟨_, _, _, by k_is, rfl, rfl, by decide, .cons ⟨_, rfl⟩ (.cons ⟨_, rfl⟩ (.cons ⟨_, rfl⟩ (.cons ⟨_, rfl⟩ (.cons rfl (.nil)))))⟩⟩)
    (case cCh => exact ⟨_, _, _, _, _, _, _, _, _, _, _, by k_is, ⟨_, _, _, by k_is, by exact ⟨⟨_, _, rfl, rfl⟩, ⟨_, _, rfl, rfl⟩, ⟨_, _, rfl, rfl⟩, ⟨_, _, rfl, rfl⟩, trivial⟩, by k_is, rfl⟩, ⟨_, _, _, by k_is, by exact ⟨⟨_, _, rfl, rfl⟩, ⟨_, _, rfl, rfl⟩, ⟨_, _, rfl, rfl⟩, ⟨_, _, rfl, rfl⟩, trivial⟩, by k_is, rfl⟩, ⟨_, _, _, by k_is, by exact ⟨⟨_, _, rfl, rfl⟩, ⟨_, _, rfl, rfl⟩, ⟨_, _, rfl, rfl⟩, ⟨_, _, rfl, rfl⟩, trivial⟩, by k_is, rfl⟩, ⟨_, _, _, by k_is, by exact ⟨⟨_, _, rfl, rfl⟩, ⟨_, _, rfl, rfl⟩, ⟨_, _, rfl, rfl⟩, ⟨_, _, rfl, rfl⟩, trivial⟩, by k_is, rfl⟩, fun H => .inr ⟨_, _, _, by k_is, rfl, rfl, by decide, .cons rfl (.cons rfl (.nil))⟩, fun H => .inr ⟨_, _, _, by k_is, rfl, rfl, by decide, .cons rfl (.nil)⟩, fun H => .inr ⟨_, _, _, by k_is, rfl, rfl, by decide, .cons rfl (.nil)⟩, fun H => .inr ⟨_, _, _, by k_is, rfl, rfl, by decide, .cons rfl (.cons rfl (.nil))⟩, fun H => .inr ⟨_, _, _, by k_is, rfl, rfl, by decide, .cons ⟨_, rfl⟩ (.cons ⟨_, rfl⟩ (.cons rfl (.nil)))⟩, fun H => .inr ⟨_, _, _, by k_is, rfl, rfl, by decide, .cons ⟨_, rfl⟩ (.cons ⟨_, rfl⟩ (.cons rfl (.nil)))⟩, fun H => .inr ⟨_, _, _, by k_is, rfl, rfl, by decide, .cons ⟨_, rfl⟩ (.cons ⟨_, rfl⟩ (.cons rfl (.nil)))⟩, fun H => .inr ⟨_, _, _, by k_is, rfl, rfl, by decide, .cons ⟨_, rfl⟩ (.cons ⟨_, rfl⟩ (.cons rfl (.nil)))⟩, fun H => .inr ⟨_, _, _, by k_is, rfl, rfl, by decide, .cons ⟨_, rfl⟩ (.cons ⟨_, rfl⟩ (.cons rfl (.nil)))⟩, fun H => .inr ⟨_, _, _, by k_is, rfl, rfl, by decide, .cons ⟨_, rfl⟩ (.cons ⟨_, rfl⟩ (.cons rfl (.nil)))⟩⟩)
    (case cl => exact ⟨by k_is, by k_is, by k_is, by k_is⟩)
    (case nT => unfold L2.NoAttr; k_is)
    (case nJ => unfold L2.NoAttr; k_is)
    (case nM => unfold L2.NoAttr; k_is)
    (case nF => unfold L2.NoAttr; k_is)
    (case nH => unfold L2.NoAttr; k_is)
    (case nA => unfold L2.NoAttr; k_is)
    (case mk => k_is)
    (case kc => k_is)
    (case ct => exact ⟨by k_is, by k_is, by k_is, by k_is⟩)
    (case tH => unfold L2.NoAttr; k_is)
    (case tS => unfold L2.NoAttr; k_is)
    (case tR => unfold L2.NoAttr; k_is)
    (case tD => unfold L2.NoAttr; k_is)
    (case tB => unfold L2.NoAttr; k_is)
    (case mkt => k_is)
    (case kct => k_is)
    (case gG => k_is)
