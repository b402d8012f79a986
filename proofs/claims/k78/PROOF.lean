import PyProof.Rows.All
import Wide.All
import OpenK.AllK
import Wide.FinOn
import HandS.ForMost
import HandS.Conv
import HandS.Wide
import HandS.Exc
import HandS.ExcInit
import HandS.IsInst
import HandS.ExcIs
import PySem.Challenge.RW_unseenstocks_k78_errors_keep_their_value
set_option Elab.async false
set_option linter.all false
set_option maxRecDepth 100000
set_option maxHeartbeats 4000000
/-! k78: each error keeps its value. First the words that any law of this program may want (namespace GD): defs called where no repr goes on, data as repr shows it, errors as values. Then the law's own defs, one promise each, and the end. -/
namespace GD
open PySem PySem.Spec PyProof.Rows L2
/-! a def that is called where no repr goes on -/
structure FnG (P : Program) (w : World) (K : PySem.W.Frag) (mg : Str → Option Value) (base : Heap) (k : Nat) (f : Addr) (fd : FuncData) (ps : List Str) (sp : Sp) : Prop where
  len : ∀ vs H Q E, sp vs H Q E → vs.length = ps.length
  run : ∀ (A : Around) (outer : List Env) (s : Shared) (H : Hp) (us : List Value) (vs : List V) (Q : VK), A.guards = some [] → Room k A → Env0 P w K mg base A outer s H → BindsTo s fd ⟨us, []⟩ (ps.zip us) → Vals vs us → sp vs H Q E0 →
    codeAny (model P w) A (.call (.ref f) ⟨us, []⟩) (CR CX0 outer P w H s Q E0) s
section
variable {P : Program} {w : World} {K : PySem.W.Frag} {mg : Str → Option Value} {base : Heap}
theorem fnG_of {x qual : Str} {st : Stmt} {f : Addr} {fd : FuncData} {N ps : List Str} {k : Nat} {sp : Sp} (F : Fun K x qual st f fd) (S : FnScope N ps (defScope st)) (len : ∀ vs H Q E, sp vs H Q E → vs.length = ps.length)
    (hbody : ∀ (cdv : Value) (A : Around) (outer : List Env) (s : Shared) (H : Hp) (vs : List V) (Q : VK), A.guards = some [] → Room k (A.deeper (envOfC qual (defScope st) s.heap.objs.size f cdv)) → sp vs H Q E0 →
      ∃ t, PSs (cxOf CX0 P w K mg base N qual (defScope st) f cdv A outer s H E0).nox (defBody st) t ∧ t { nx := fun _ H' => Q .non H', rt := Q } (start N vs) H) : FnG P w K mg base (k + 1) f fd ps sp := by
  obtain ⟨oc, od, kV, doc, pm, an, cdv, ct, osl, rfl, lk, hcd⟩ := F.ex
  refine ⟨len, fun A outer s H us vs Q hgu hr e0 hb r hsp => ?_⟩
  have KX : K.In s.heap := e0.mod.kin.keeps fun b o e => (e0.bs b o e).1
  have lim : s.heap.NoLimit := e0.mod.nolimit.keeps fun b o e => (e0.bs b o e).1
  have look : ∀ y ∈ ps.zip us, (defScope st).names.lookup y.1 = some .local ∨ ((defScope st).names.lookup y.1 = some .cell ∧ ((cellsFrom (s.heap.objs.size + 1) (defScope st).names []).lookup y.1).isSome = true) := by
    rintro ⟨n, v⟩ hy
    rcases S.par n (List.of_mem_zip hy).1 with q | q
    · exact .inl q
    · exact .inr ⟨q, PySem.W.cellsFrom_some _ _ _ (.inl q)⟩
  refine codeAny_call_function hr.depth (KX _ _ lk) rfl S.co S.gen rfl (PySem.W.codeRec_of KX hcd) (hb _ _ _ _ ?_)
  refine wpAny_newFunctionEnv_cells S.kind look fun env he s1 x => ?_
  subst he
  refine ⟨lim.keeps x.toInCall.keep, codeAny_func ?_⟩
  obtain ⟨t, h0, hq⟩ := hbody cdv A outer s H vs Q hgu (hr.deeper _) hsp
  have I := inv_start (CX := CX0) (E := E0) (P := P) (w := w) (N := N) (cd := cdv) S hr.hd e0 (len _ _ _ _ hsp) r x
  refine wpAny_mono (h0.nox.run [] s1 (start N vs) H _ I hq) (fun fl s' hs => ?_) fun e s' hs => hs
  cases fl with
  | ret u =>
    obtain ⟨v, σ', H', J, rv, q⟩ := hs
    exact ⟨v, H', J.os, J.bare, J.base, J.hok, rv, q⟩
  | next =>
    obtain ⟨σ', H', J, q⟩ := hs
    exact ⟨V.non, H', J.os, J.bare, J.base, J.hok, rfl, q⟩
  | brk =>
    obtain ⟨_, _, _, q⟩ := hs
    exact q.elim
  | cont =>
    obtain ⟨_, _, _, q⟩ := hs
    exact q.elim
end
section
variable {X : Cx} {k : Nat} {f : Addr} {fd : FuncData} {ps : List Str} {sp : Sp} {x : Str} {p pos : Pos} {e : Expr} {es : List Expr} {t : TA}
theorem pe_callG (F : FnG X.prog X.w X.K X.mg X.base k f fd ps sp) (hgu : X.A.guards = some []) (hr : Room k X.A) (hg : Gl X x) (hm : X.mg x = some (.ref f)) (hk : PySem.W.keepIn X.K (.ref f) = true) (hb : Binds X.K fd ps [])
    (ha : PA X (e :: es) t) (hdb : (x == ("__debug__" : Str)) = false := by decide) (he : starEach (e :: es) X.env = (false, eval e X.env) :: starEach es X.env := by rfl) (hpl : (backTo pos (starEach es X.env)).any (·.1) = false := by rfl) :
    PE X (.Call (.Name x p) (e :: es) [] pos) (tCall sp [] E0 t) := by
  refine ⟨fun pins s σ H Q I h => wpAny_Call_Name_kw (ld_glob I hg hm ?_ hdb)⟩
  refine PySem.W.callWith_K (h₀ := X.base) I.ok.mod.kin hk (thn (ha.run pos pins s σ H _ I h) fun us s1 ⟨vs, H1, I1, r, q⟩ => ⟨I1.kIn, ?_⟩) he hpl
  have q' : sp vs H1 Q E0 := by
    have z : sp (vs ++ []) H1 Q E0 := q
    rw [List.append_nil] at z
    exact z
  have hl : us.length = ps.length := by
    rw [← r.length]
    exact F.len _ _ _ _ q'
  have hbb : BindsTo s1 fd ⟨us, []⟩ (ps.zip us) := by
    have z := hb s1 us I1.kIn (by rw [List.append_nil]; exact hl)
    rw [List.append_nil] at z
    exact z
  refine wpAny_call (codeAny_mono (F.run X.A X.stack s1 H1 us vs Q hgu hr I1.env0 hbb r q') fun res s' hq => ?_)
  cases res with
  | error er => exact False.elim hq
  | ok fl =>
    cases fl with
    | ret u => exact I1.after hq
    | next => exact False.elim hq
    | brk => exact False.elim hq
    | cont => exact False.elim hq
end
/-! the end of a law whose def is called where no repr goes on -/
section
open PySem.W PySem.W.OpenLaw in
theorem walkG {l : PySem.W.OpenLaw} {n k : Nat} {q : Program} {loose : List Str} {XP : (Str → Option Value) → Heap → Prop} {YP : World → Heap → Prop} {d : DefRec} {K : Params → PySem.W.Frag} {sp : PySem.W.Frag → Sp} {x : Str}
    (hn : l.most = some n) (hn2 : n ≤ sizeLine) (hdf : d.params.defaults = []) (hr : Room k callerA)
    (hY : ∀ (w : World) (h : Heap), YP w h → (K w.params).In h)
    (F : ∀ (w : World) (mg : Str → Option Value) (fa : Addr) (h : Heap), (K w.params).In h → h.Ns mainGlobals mg → mg d.name = some (.ref fa) →
      ∃ fd : FuncData, (∀ (s : Shared) (u : Value), BindsTo s fd ⟨[u], []⟩ [(x, u)]) ∧ ∀ base : Heap, (K w.params).In base → base.Ns mainGlobals mg → FnG l.prog w (K w.params) mg base k fa fd [x] (sp (K w.params)))
    (hsp : ∀ (K : PySem.W.Frag) (H : Hp) (a : Addr) (ns : List Int), ns.length ≤ n → SqL K H a (ns.map V.int) → sp K [.ref a] H (fun v _ => v = .bl true) E0) :
    PySem.W.WalkO q loose XP YP l.row.toRowW d [] (fun f vs => PySem.call f vs) := by
  refine Att.attach_call hn hdf fun w s₀ s₁ mg mb fa o pm cd doc a vs ns G Y ho hd hcd hmg ha hi hlen hg => ?_
  have KX := hY w _ Y
  obtain ⟨fd, hb, hF⟩ := F w mg fa _ KX G.T.g hmg
  have rv := vals_ints hi
  have hl : (ns.map V.int).length ≤ sizeLine := by
    rw [List.length_map]
    exact Nat.le_trans hlen hn2
  let ob : Obj := { cls := .type "list", data := .seq vs.toArray }
  let H : Hp := fun b => if b = a ∧ (K w.params).lookup a = none then some (.frz ob (.lst (ns.map V.int))) else none
  have hH : ∀ b u, H b = some u → (b = a ∧ (K w.params).lookup a = none) ∧ u = .frz ob (.lst (ns.map V.int)) := fun b u e => by
    by_cases c : b = a ∧ (K w.params).lookup a = none
    · have z : some (HO.frz ob (.lst (ns.map V.int))) = some u := (if_pos c).symm.trans e
      exact ⟨c, (Option.some.inj z).symm⟩
    · have z : (none : Option HO) = some u := (if_neg c).symm.trans e
      cases z
  have hok : HOk l.prog w H s₁.heap := fun b u e => by
    obtain ⟨⟨rfl, _⟩, rfl⟩ := hH b u e
    exact ⟨ha, hl, vs, _, rv, ha⟩
  have hS : SqL (K w.params) H a (ns.map V.int) := by
    cases c : (K w.params).lookup a with
    | none => exact .inl (.inr ⟨ob, if_pos ⟨rfl, c⟩⟩)
    | some o2 =>
      have e := KX a o2 c
      rw [ha] at e
      cases e
      exact .inr ⟨_, vs.toArray, _, c, rfl, rfl, rfl, by rw [List.size_toArray, ← rv.length]; exact hl, rv⟩
  have dictFree : ∀ {b : Addr} {o : Obj} {es : Array DictEntry} {ep : Nat}, s₁.heap.get? b = some o → o.data = .dict es ep → H b = none := fun {b o es ep} e d => by
    cases c : H b with
    | none => rfl
    | some u =>
      obtain ⟨⟨rfl, _⟩, _⟩ := hH b u c
      rw [ha] at e
      cases e
      cases (show Data.seq vs.toArray _ = Data.dict es ep from d)
  have nsB : ∀ {b : Addr} {m : Str → Option Value}, s₁.heap.Ns b m → (hidT s₁.heap H).Ns b m := fun {b m} z => by
    obtain ⟨o, es, ep, e, d, r⟩ := z
    exact ⟨o, es, ep, hidT_get e (dictFree e d), d, r⟩
  have KB : (K w.params).In (hidT s₁.heap H) := fun b o e => hidT_get (KX b o e) (by
    cases c : H b with
    | none => rfl
    | some u =>
      obtain ⟨⟨rfl, z⟩, _⟩ := hH b u c
      rw [z] at e
      cases e)
  obtain ⟨mc, lim1, lim2⟩ := G.T.nolimit
  have e0 : Env0 l.prog w (K w.params) mg (hidT s₁.heap H) callerA [] s₁ H :=
    ⟨rfl, ⟨KB, nsB G.T.g, ⟨mb, nsB G.T.b, G.T.builtins⟩, ⟨mc, nsB lim1, lim2⟩⟩, fun b o e => of_hidT e, Nat.le_of_eq (hidT_size _ _), trivial, fun b hb => (nomatch hb), hok, .of_eq hg⟩
  refine codeAny_mono ((hF _ KB (nsB G.T.g)).run callerA [] s₁ H [.ref a] [.ref a] (fun v _ => v = .bl true) rfl hr e0 (hb s₁ (.ref a)) (.cons rfl .nil) (hsp _ H a ns hlen hS)) fun r s' h => ?_
  cases r with
  | error e => exact False.elim h
  | ok fl =>
    cases fl with
    | next => exact False.elim h
    | brk => exact False.elim h
    | cont => exact False.elim h
    | ret u =>
      obtain ⟨v, H', os, bare, un, hok', r', rfl⟩ := h
      obtain rfl : u = Value.bool true := r'
      refine ⟨rfl, OldK.of_keep fun b o e => ?_, os, bare⟩
      cases c : H b with
      | none => exact un.keep b o e c (fun z => nomatch z) (fun z => nomatch z)
      | some u =>
        obtain ⟨⟨rfl, _⟩, rfl⟩ := hH b u c
        obtain ⟨e2, _⟩ := hok' b _ (un.frzs b _ _ c)
        rw [ha] at e
        cases e
        exact e2
end
end GD

namespace GD
open PySem PySem.Spec PyProof.Rows L2
/-! a value of the tracked heap that is data throughout -/
mutual
inductive Sh (H : Hp) : V → PyData → Prop
  | non : Sh H .non .none
  | bl (b : Bool) : Sh H (.bl b) (.bool b)
  | int (i : Int) : Sh H (.int i) (.int i)
  | str (x : Str) : Sh H (.str x) (.str x)
  | lst {a : Addr} {xs : List V} {ds : List PyData} : H a = some (.lst xs) → a ≠ sysModules → ShAll H xs ds → Sh H (.ref a) (.list ds)
  | tup {a : Addr} {xs : List V} {ds : List PyData} : H a = some (.tup xs) → ShAll H xs ds → Sh H (.ref a) (.tuple ds)
  | dct {a : Addr} {kvs : List (Key × V)} {ds : List (PyData × PyData)} : H a = some (.dK kvs) → ShAll H (kvs.map fun p => kV p.1) (ds.map (·.1)) → ShAll H (kvs.map (·.2)) (ds.map (·.2)) → Sh H (.ref a) (.dict ds)
inductive ShAll (H : Hp) : List V → List PyData → Prop
  | nil : ShAll H [] []
  | cons {x : V} {d : PyData} {xs : List V} {ds : List PyData} : Sh H x d → ShAll H xs ds → ShAll H (x :: xs) (d :: ds)
end
mutual
theorem Sh.same {H H' : Hp} (k : Same H H') : ∀ {v : V} {d : PyData}, Sh H v d → Sh H' v d
  | _, _, .non => .non
  | _, _, .bl b => .bl b
  | _, _, .int i => .int i
  | _, _, .str x => .str x
  | _, _, .lst h n t => .lst (k _ _ h) n (ShAll.same k t)
  | _, _, .tup h t => .tup (k _ _ h) (ShAll.same k t)
  | _, _, .dct h t u => .dct (k _ _ h) (ShAll.same k t) (ShAll.same k u)
theorem ShAll.same {H H' : Hp} (k : Same H H') : ∀ {v : List V} {d : List PyData}, ShAll H v d → ShAll H' v d
  | _, _, .nil => .nil
  | _, _, .cons a b => .cons (Sh.same k a) (ShAll.same k b)
end
section
variable {P : Program} {w : World} {H : Hp} {h : Heap}
theorem keys_rel : ∀ {kvs : List (Key × V)} {vs : List (Key × Value)} {es : List DictEntry}, KV kvs vs → Pairs (mixKind P w) es vs → Vals (kvs.map fun p => kV p.1) (es.map (·.key)) ∧ Vals (kvs.map (·.2)) (es.map (·.val))
  | _, _, _, .nil, .nil => ⟨.nil, .nil⟩
  | _, _, _, .cons r t, .cons i e p => by
    obtain ⟨h1, h2⟩ := keys_rel t p
    obtain ⟨r1, r2⟩ := r
    refine ⟨.cons ?_ h1, .cons ?_ h2⟩
    · dsimp only
      rw [r1]
      rcases keyIs_shape i with ⟨j, t, e1, e2⟩ | ⟨x, t, e1, e2⟩
      · rw [e1, e2]
        exact ⟨t, rfl⟩
      · rw [e1, e2]
        exact ⟨t, rfl⟩
    · dsimp only
      rw [e]
      exact r2
mutual
theorem reads_of (ok : HOk P w H h) : ∀ {v : V} {d : PyData} {u : Value}, Sh H v d → RelV v u → ∃ as, Reads h u d as ∧ sysModules ∉ as
  | _, _, _, .non, r => by
    cases r
    exact ⟨_, .none, fun z => nomatch z⟩
  | _, _, _, .bl b, r => by
    cases r
    exact ⟨_, .bool b, fun z => nomatch z⟩
  | _, _, _, .int i, r => by
    obtain ⟨t, rfl⟩ := r
    exact ⟨_, .int i t, fun z => nomatch z⟩
  | _, _, _, .str x, r => by
    obtain ⟨t, rfl⟩ := r
    exact ⟨_, .str x t, fun z => nomatch z⟩
  | _, _, _, .lst (a := a) (xs := xs) e n t, r => by
    cases r
    obtain ⟨_, its, m, rv, ho⟩ := (show ObjOk P w H h a (.lst xs) from ok a _ e)
    obtain ⟨as, h1, h2⟩ := readsAll_of ok t rv
    exact ⟨_, .list ho rfl rfl h1, fun z => (List.mem_cons.mp z).elim (fun q => n q.symm) h2⟩
  | _, _, _, .tup (a := a) (xs := xs) e t, r => by
    cases r
    obtain ⟨_, its, rv, o, ho, hc, m, hd⟩ := (show ObjOk P w H h a (.tup xs) from ok a _ e)
    obtain ⟨as, h1, h2⟩ := readsAll_of ok t rv
    exact ⟨_, .tuple ho hc hd h1, h2⟩
  | _, _, _, .dct (a := a) (kvs := kvs) e t1 t2, r => by
    cases r
    obtain ⟨_, hs, vs, rel, o, es, ep, ho, hx, hd, _, hp, _⟩ := (show ObjOk P w H h a (.dK kvs) from ok a _ e)
    obtain ⟨v1, v2⟩ := keys_rel rel hp
    obtain ⟨as, h1, h2⟩ := readsAll_of ok t1 v1
    obtain ⟨bs, h3, h4⟩ := readsAll_of ok t2 v2
    refine ⟨_, .dict ho hx.1 hd h1 h3, fun z => ?_⟩
    rcases List.mem_append.mp z with z | z
    · rcases List.mem_cons.mp z with z | z
      · rw [← z] at hs
        exact absurd hs (by decide)
      · exact h2 z
    · exact h4 z
theorem readsAll_of (ok : HOk P w H h) : ∀ {vs : List V} {ds : List PyData} {us : List Value}, ShAll H vs ds → Vals vs us → ∃ as, ReadsAll h us ds as ∧ sysModules ∉ as
  | _, _, _, .nil, r => by
    cases r
    exact ⟨_, .nil, fun z => nomatch z⟩
  | _, _, _, .cons a b, r => by
    cases r with
    | cons r1 r2 =>
      obtain ⟨as, h1, h2⟩ := reads_of ok a r1
      obtain ⟨bs, h3, h4⟩ := readsAll_of ok b r2
      exact ⟨_, .cons h1 h3, fun z => (List.mem_append.mp z).elim h2 h4⟩
end
end
/-- data that repr shows within the bounds -/
def NiceD (d : PyData) : Prop := d.showable = true ∧ d.depth ≤ 20 ∧ d.shown.length ≤ sizeLine
theorem call_reprS {X : Cx} (hgu : X.A.guards = some []) (hu : X.A.units + 64 < cLine) : CallR X (.builtin "repr") (fun xs H Q => ∃ v d, xs = [v] ∧ Sh H v d ∧ NiceD d ∧ Q (.str d.shown) H) := by
  intro pins s σ H xs us Q I r h
  obtain ⟨v, d, rfl, sh, ⟨hs, hd, hz⟩, q⟩ := h
  obtain ⟨u, rfl, ru⟩ := vals1 r
  have big : ∀ a : Addr, u = .ref a → wpAny (model X.prog X.w) X.A (call (.builtin "repr") [u]) (EP X pins σ Q) X.xe s := by
    rintro a rfl
    obtain ⟨as, rd, nm⟩ := reads_of I.hok sh ru
    exact repr_of_reads' rd hs (fun _ => nm) hgu (by omega) (fun _ _ e => e) (fun h' t tk k => ⟨.str d.shown, H, I.kept (t' := tk) k, ⟨_, rfl⟩, q⟩) hz
  cases sh with
  | non =>
    cases ru
    exact PySem.P.repr_of_none ⟨.str _, H, I.tok _, ⟨_, rfl⟩, q⟩
  | bl b =>
    cases ru
    exact PySem.P.repr_of_bool ⟨.str _, H, I.tok _, ⟨_, rfl⟩, q⟩
  | int i =>
    obtain ⟨t, rfl⟩ := ru
    exact PySem.P.repr_of_int (of_decide_eq_true hs) ⟨.str _, H, I.tok _, ⟨_, rfl⟩, q⟩
  | str x =>
    obtain ⟨t, rfl⟩ := ru
    exact PySem.P.repr_of_str ⟨.str _, H, I.tok _, ⟨_, rfl⟩, q⟩ hz
  | lst e n t => exact big _ ru
  | tup e t => exact big _ ru
  | dct e t u => exact big _ ru
end GD

namespace PySem.W
open PySem PySem.Spec PySem.Calls PyProof.Rows
section
variable {prog : Program} {w : World} {A : Around} {E : Value → Shared → Prop} {s : Shared} {K : Frag} {x D : Addr} {ox : Obj} {od : Option Obj}
theorem gd_findObj {C : Addr} {name : Str} {a g : Value} (hc : (clsIn K C).isSome = true) (ha : findIn K (.ref C) name = some (some a)) (hg : specialIn K a "__get__" = some (some g)) (ht : takesIn K a = some true) : findObj K C od name = some (.bind g a) := by
  obtain ⟨cd, hc⟩ := Option.isSome_iff_exists.mp hc
  unfold findObj
  rw [hc, Option.bind_some, ha, Option.bind_some]
  simp [hg, ht]
theorem gd_class {Q : Option Value → Shared → Prop} (hga : findIn K (.ref D) "__getattribute__" = some (some (.builtin "BaseException.__getattribute__"))) (hgt : findIn K (.ref D) "__getattr__" = some none) (hsub : subIn K (.ref D) (.type "BaseException") = some true)
    (hdct : hasDictIn K D = true) (ha : findIn K (.ref D) "__class__" = some (some (.builtin "object.__class__")))
    (hn : specialIn K (.builtin "object.__class__") "__get__" = some (some (.builtin "getset_descriptor.__get__"))) (htk : takesIn K (.builtin "object.__class__") = some true) (hm : mroIn K D (.type "object") = some true)
    (X : K.In s.heap) (I : InstAt s.heap x ox D od) (h : Q (some (.ref D)) { s with toks := s.toks + 1 }) : wpAny (model prog w) A (getAttr? (.ref x) "__class__") Q E s := by
  have hf : findObj K D od "__class__" = some (.bind (.builtin "getset_descriptor.__get__") (.builtin "object.__class__")) := gd_findObj (by obtain ⟨cd, hc, _⟩ := any_some hdct; rw [hc]; rfl) ha hn htk
  obtain ⟨hp, g, d, t, os⟩ := s
  have T0 := I.type (M := model prog w)
  have T1 := looks_findIn (M := model prog w) X hga
  have T2 := looks_findIn (M := model prog w) X hgt
  have T3 := looks_find (M := model prog w) X I hf
  have sub : Looks (model prog w) hp (isInstance (.ref x) (.type "BaseException")) true := T0.andThen (looks_subIn X hsub)
  have n2 : (Value.builtin "BaseException.__getattribute__" == Value.builtin "object.__getattribute__") = false := by decide +kernel
  have n1 : (onTheHeap (Value.ref D) && Value.builtin "BaseException.__getattribute__" == Value.builtin "object.__getattribute__") = false := by rw [n2]; rfl
  unfold getAttr? getAttrBy? getAttrBy
  refine wpAny_bind (wpAny_mkText (wpAny_bind (wpAny_attempt (wpAny_holding (wpAny_bind (T0.at (wpAny_bind (T1.at ?_))))))))
  show wpAny _ _ (if (onTheHeap (Value.ref D) && Value.builtin "BaseException.__getattribute__" == Value.builtin "object.__getattribute__") = true then _ else _) _ _ _
  rw [n1, if_neg Bool.false_ne_true]
  unfold getAttrByItsOwn hookBefore
  refine wpAny_bind ?_
  rw [if_pos (show onTheHeap (Value.ref D) = true from rfl)]
  refine T2.at ?_
  refine wpAny_bind (wpAny_attempt (wpAny_holding ?_))
  unfold callGetattribute
  rw [show (false && onTheHeap (Value.builtin "BaseException.__getattribute__")) = false from rfl, if_neg Bool.false_ne_true]
  unfold boundAndCalled
  rw [PySem.F.excAttr_ValueError.ga.bind (.ref x)]
  refine wpAny_bind (wpAny_pure ?_)
  show wpAny _ _ (call (.builtin "BaseException.__getattribute__") [.ref x, .str "__class__" t]) _ _ _
  refine wpAny_call (codeAny_call_builtin PySem.F.excAttr_ValueError.ga.plain PySem.F.entry_bexc_ga ?_)
  refine @check_slot (model prog w) _ _ ⟨hp, g, d, t + 1, os⟩ "BaseException.__getattribute__" "BaseException" "__getattribute__" (.ref x) [.str "__class__" t] [] _ (by decide +kernel) (by decide +kernel) sub (PySem.F.args_bexc_ga (.ref x) (.str "__class__" t)) ?_
  unfold Builtin.«object.__getattribute__»
  refine wpAny_bind (wpAny_of_eq (a := ((Value.ref x : Value), [Value.str "__class__" t])) (by first | rfl | (simp only [slotArgs]; rfl)) ?_)
  refine wpAny_bind (wpAny_pure (wpAny_bind (T0.at (wpAny_bind (T3.at ?_)))))
  show wpAny _ _ (holding [Value.builtin "object.__class__"] (call (.builtin "getset_descriptor.__get__") [.builtin "object.__class__", .ref x, .ref D]) >>= ret) _ _ _
  refine wpAny_bind (wpAny_holding (wpAny_call (class_get (s := ⟨hp, g, d, t + 1, os⟩) (ox := ox) (od := od) X I hm ?_)))
  refine wpAny_pure ?_
  show wpAny _ _ (handedOut (.ref D)) _ _ _
  rw [handedOut_of (v := .ref D) rfl]
  first
    | exact wpAny_pure (wpAny_pure h)
    | exact wpAny_pure h
    | exact wpAny_pure (wpAny_bind (wpAny_pure (wpAny_pure h)))
theorem gd_kit (hga : findIn K (.ref D) "__getattribute__" = some (some (.builtin "BaseException.__getattribute__"))) (hgt : findIn K (.ref D) "__getattr__" = some none) (hsub : subIn K (.ref D) (.type "BaseException") = some true) (hdct : hasDictIn K D = true) (ha : findIn K (.ref D) "__class__" = some (some (.builtin "object.__class__")))
    (hn : specialIn K (.builtin "object.__class__") "__get__" = some (some (.builtin "getset_descriptor.__get__"))) (htk : takesIn K (.builtin "object.__class__") = some true) (hm : mroIn K D (.type "object") = some true) :
    KitX K (.ref x) (.ref D) (fun h => InstAt h x ox D od) where
  ty := fun _ _ _ I => I.type
  it := fun _ _ X _ => by
    obtain ⟨cd, hc, _⟩ := any_some hdct
    unfold clsIn at hc
    split at hc
    · rename_i c' d' cd' sl' ho
      intro A' Q' E' s' k q
      unfold isType loadHead
      exact wpAny_bind (wpAny_loadPart (k _ _ (X _ _ ho)) (wpAny_pure q))
    · cases hc
  ne := fun h tp dd its n sl X htp => by
    obtain ⟨cd, hc, _⟩ := any_some hdct
    refine Bool.eq_false_iff.mpr fun q => ?_
    have e : D = tp := Value.ref.inj (beq_iff_eq.mp q)
    subst e
    unfold clsIn at hc
    split at hc
    · rename_i c' d' cd' sl' ho
      have z := (X _ _ ho).symm.trans htp
      cases z
    · cases hc
  ca := fun X I k => gd_class hga hgt hsub hdct ha hn htk hm X I k
end
end PySem.W
namespace GD
open PySem PySem.Spec PyProof.Rows L2
/-! errors that keep their value -/
/-- what the written part says of such a class; fI: its __init__ -/
structure EC (K : PySem.W.Frag) (C fI : Addr) : Prop where
  ox : OexC K C
  ini : PySem.W.findIn K (.ref C) "__init__" = some (some (.ref fI))
  nv : PySem.W.findIn K (.ref C) "value" = some none
  ga : PySem.W.findIn K (.ref C) "__getattribute__" = some (some (.builtin "BaseException.__getattribute__"))
  gt : PySem.W.findIn K (.ref C) "__getattr__" = some none
  hd : PySem.W.hasDictIn K C = true
  cl : PySem.W.findIn K (.ref C) "__class__" = some (some (.builtin "object.__class__"))
  cg : PySem.W.specialIn K (.builtin "object.__class__") "__get__" = some (some (.builtin "getset_descriptor.__get__"))
  ct : PySem.W.takesIn K (.builtin "object.__class__") = some true
  ob : PySem.W.mroIn K C (.type "object") = some true
/-- an error of the class C at e, that keeps v -/
def ErrAt (H : Hp) (e C : Addr) (v : V) : Prop := ∃ d, H e = some (exo e C (some d)) ∧ H d = some (exd d [(("value" : Str), v)])
theorem ErrAt.same {H H' : Hp} {e C : Addr} {v : V} (k : Same H H') (h : ErrAt H e C v) : ErrAt H' e C v := by
  obtain ⟨d, h1, h2⟩ := h
  exact ⟨d, k _ _ h1, k _ _ h2⟩
def spInit (K : PySem.W.Frag) : Sp := fun vs H Q _ => ∃ (e C : Addr) (v : V), vs = [.ref e, v] ∧ OexC K C ∧ PySem.W.findIn K (.ref C) "value" = some none ∧ H e = some (exo e C none) ∧
  ∀ d : Addr, H d = none → d ≠ e → Q .non (upd (upd H d (exd d [(("value" : Str), v)])) e (exo e C (some d)))
section
variable {X : Cx} {C fI : Addr} {x : Str} {p pos : Pos} {e : Expr} {es : List Expr} {ta : TA} {te : TE} {k : Nat} {fd : FuncData}
/-- C(e) -/
def tErr (C : Addr) (ta : TA) : TE := fun σ H Q => ta σ H fun vs H1 => ∃ v, vs = [v] ∧ ∀ a H2, H1 a = none → Same H1 H2 → ErrAt H2 a C v → Q (.ref a) H2
theorem pe_mkErr (T : EC X.K C fI) (tI : PySem.W.typeIn X.K (.ref fI) = some (.type "function")) (F : FnOk X.prog X.w X.K X.mg X.base CX0 k fI fd ["self", "value"] (spInit X.K)) (hr : Room (k + 1) X.A) (hb : Binds X.K fd ["self", "value"] [])
    (hg : Gl X x) (hm : X.mg x = some (.ref C)) (ha : PA X (e :: es) ta) (hdb : (x == ("__debug__" : Str)) = false := by decide) (he : starEach (e :: es) X.env = (false, eval e X.env) :: starEach es X.env := by rfl)
    (hpl : (backTo pos (starEach es X.env)).any (·.1) = false := by rfl) : PE X (.Call (.Name x p) (e :: es) [] pos) (tErr C ta) := by
  refine ⟨fun pins s σ H Q I h => ?_⟩
  obtain ⟨nm, q, N, bs, bm, sn, sub, ab, col, dd, k0, k1, k2, k3, k5, hC, hbm⟩ := T.ox.cls
  refine wpAny_Call_Name_kw (ld_glob I hg hm ?_ hdb)
  refine PySem.W.callWith_K (h₀ := X.base) I.ok.mod.kin T.ox.kC (thn (ha.run pos pins s σ H _ I h) fun us s1 ⟨vs, H1, I1, r1, v, ev, q1⟩ => ⟨I1.kIn, ?_⟩) he hpl
  subst ev
  show wpAny _ _ (call (.ref C) us) _ _ _
  obtain ⟨hp, g, dr, tk, os⟩ := s1
  have hsz : hp.objs.size ≤ hp.objs.size + 1 := Nat.le_succ _
  have hn : H1 (hp.objs.size + 1) = none := I1.hok.fresh hsz
  have old : ∀ b o, hp.get? b = some o → ((hp.push (PySem.W.kdv_tup us)).push (PySem.HandSPX.excO C hp.objs.size)).get? b = some o := fun b o e => Heap.get?_push_of_some _ (Heap.get?_push_of_some _ e)
  have new : ((hp.push (PySem.W.kdv_tup us)).push (PySem.HandSPX.excO C hp.objs.size)).get? (hp.objs.size + 1) = some (PySem.HandSPX.excO C hp.objs.size) := by heap_get
  have I2 : Inv X pins σ (upd H1 (hp.objs.size + 1) (exo (hp.objs.size + 1) C none)) ⟨(hp.push (PySem.W.kdv_tup us)).push (PySem.HandSPX.excO C hp.objs.size), g, dr, tk, os⟩ := I1.laid (t' := tk) (a := hp.objs.size + 1) (o := exo (hp.objs.size + 1) C none) (h' := (hp.push (PySem.W.kdv_tup us)).push (PySem.HandSPX.excO C hp.objs.size)) old hsz (exo_ok new)
  have r2 : Vals [V.ref (hp.objs.size + 1), v] (Value.ref (hp.objs.size + 1) :: us) := .cons rfl r1
  have hl : us.length = 1 := r1.length.symm
  have hq : spInit X.K [V.ref (hp.objs.size + 1), v] (upd H1 (hp.objs.size + 1) (exo (hp.objs.size + 1) C none)) (fun u H2 => u = .non ∧ Q (.ref (hp.objs.size + 1)) H2) E0 := by
    refine ⟨_, C, v, rfl, T.ox, T.nv, upd_same, fun d hd hde => ⟨rfl, q1 _ _ hn (fun b o e => ?_) ⟨d, upd_same, ?_⟩⟩⟩
    · have n1 : b ≠ hp.objs.size + 1 := ne_of_none e hn
      have n2 : b ≠ d := fun z => by
        rw [z] at e
        rw [upd_ne hde, e] at hd
        cases hd
      rw [upd_ne n1, upd_ne n2, upd_ne n1]
      exact e
    · rw [upd_ne hde, upd_same]
  have hbb : BindsTo (⟨(hp.push (PySem.W.kdv_tup us)).push (PySem.HandSPX.excO C hp.objs.size), g, dr, tk, os⟩ : Shared) fd ⟨Value.ref (hp.objs.size + 1) :: us, []⟩ ((["self", "value"] : List Str).zip (Value.ref (hp.objs.size + 1) :: us)) := by
    have z := hb _ (Value.ref (hp.objs.size + 1) :: us) I2.kIn (by rw [List.append_nil, List.length_cons, hl]; rfl)
    rw [List.append_nil] at z
    exact z
  refine wpAny_call (PySem.HandSPX.call_own PySem.F.excBase_ValueError (fun Y => PySem.HandSPX.refsVE_contains Y bm hbm) (I1.kIn _ _ hC) (PySem.W.looks_findIn I1.kIn T.ini) (fun self => PySem.W.bind_fn I1.kIn self tI) (by rw [hl, sizeLine_eq]; omega)
    (codeAny_mono (F.run _ X.stack _ _ ⟨Value.ref (hp.objs.size + 1) :: us, []⟩ _ _ _ E0 (hr.make C us []) (I2.env0.make C us []) hbb r2 hq) fun r s' hq' => ?_))
  cases r with
  | error er => exact False.elim hq'
  | ok fl =>
    cases fl with
    | ret u =>
      obtain ⟨y, H3, I3, ry, ey, q3⟩ := I2.after hq'
      subst ey
      exact ⟨ry, ⟨V.ref (hp.objs.size + 1), H3, I3, rfl, q3⟩⟩
    | next => exact False.elim hq'
    | brk => exact False.elim hq'
    | cont => exact False.elim hq'
theorem err_inst {pins : List (Addr × Obj)} {σ : L2.St} {H : Hp} {s : Shared} {a : Addr} {v : V} (I : Inv X pins σ H s) (h : ErrAt H a C v) : ∃ oe od u, PySem.W.InstAt s.heap a oe C (some od) ∧ PySem.W.lookIn "value" od = some (some u) ∧ RelV v u := by
  obtain ⟨d, h1, h2⟩ := h
  obtain ⟨t1, ho⟩ := exo_at I.hok h1
  obtain ⟨mA, hns, rel⟩ := exd_at I.hok h2
  obtain ⟨od, hod, hl⟩ := lookIn_ns hns
  have l : List.lookup ("value" : Str) [(("value" : Str), v)] = some v := by simp [List.lookup]
  obtain ⟨u, hu, ru⟩ := RelO.some_of (v := v) (o := mA "value") (by rw [← l]; exact rel "value")
  exact ⟨_, od, u, ⟨ho, rfl, rfl, hod⟩, by rw [hl, hu], ru⟩
/-- e.value -/
def tVal (K : PySem.W.Frag) (te : TE) : TE := fun σ H Q => te σ H fun x H1 => ∃ a C fI v, x = .ref a ∧ EC K C fI ∧ ErrAt H1 a C v ∧ Q v H1
theorem pe_val (he : PE X e te) (hb : attributeBase e "value" X.env (eval e X.env) = eval e X.env := by rfl) : PE X (.Attribute e "value" pos) (tVal X.K te) := by
  refine ⟨fun pins s σ H Q I h => ?_⟩
  refine attr_of hb (thn (he.run pins s σ H _ I h) fun u s1 hh => ?_)
  obtain ⟨x, H1, I1, rx, a, C, fI, v, ex, T, ea, q⟩ := hh
  subst ex
  obtain rfl : u = Value.ref a := rx
  obtain ⟨oe, od, u, J, hl, ru⟩ := err_inst I1 ea
  exact HandSPX.exc_get I1.kIn J T.ga T.gt T.ox.exC (PySem.W.findObj_own T.hd T.nv rfl hl) (handed_of ru) ⟨v, H1, I1.tok _, ru, q⟩
/-- isinstance(e, c), e such an error -/
def rIsErr (K : PySem.W.Frag) : List V → Hp → VK → Prop := fun xs H Q => ∃ (a C fI : Addr) (v c : V) (u : Value) (b : Bool), xs = [.ref a, c] ∧ EC K C fI ∧ ErrAt H a C v ∧ ClsV c u ∧ PySem.W.kitOne K (.ref C) u = some b ∧ Q (.bl b) H
theorem call_isErr : CallR X (.builtin "isinstance") (rIsErr X.K) := by
  intro pins s σ H xs us Q I r h
  obtain ⟨a, C, fI, v, c, u, b, rfl, T, ea, k, e, q⟩ := h
  obtain ⟨u1, u2, rfl, r1, r2⟩ := vals2 r
  have e2 := k.eq r2
  subst e2
  obtain rfl : u1 = Value.ref a := r1
  obtain ⟨oe, od, u, J, _, _⟩ := err_inst I ea
  exact PySem.W.kia_one (PySem.W.gd_kit T.ga T.gt T.ox.exC T.hd T.cl T.cg T.ct T.ob) I.kIn J e (fun z => nomatch z) fun tk => ⟨.bl b, H, I.tok tk, rfl, q⟩
/-- a list display, its place not the modules' dict -/
def tLstN (t : TA) : TE := fun σ H Q => t σ H fun xs H1 => xs.length ≤ sizeLine ∧ ∀ p, H1 p = none → p ≠ sysModules → Q (.ref p) (upd H1 p (.lst xs))
theorem pe_lstN (h : PA X es ta) : PE X (.List es pos) (tLstN ta) := by
  refine ⟨fun pins s σ H Q I hq => wpAny_List_spliced (thn (h.run pos pins s σ H _ I hq) fun us s1 ⟨xs, H1, I1, r, z, q⟩ => ⟨by rw [← r.length]; exact z, ?_⟩)⟩
  have hf : H1 s1.heap.objs.size = none := I1.hok.fresh (Nat.le_refl _)
  have J := I1.laid (t' := s1.toks) (a := s1.heap.objs.size) (o := .lst xs) (h' := s1.heap.push { cls := .type "list", data := .seq us.toArray }) (fun b u e => Heap.get?_push_of_some _ e) (Nat.le_refl _) ⟨z, us, 0, r, Heap.get?_push_size _ rfl⟩
  exact ⟨.ref s1.heap.objs.size, _, J, rfl, q _ hf (Nat.ne_of_gt I1.big)⟩
end
end GD

namespace GD
open PySem PySem.Spec PyProof.Rows L2
/-! written data: what a display of constants gives -/
/-- what stands in H' and did not in H -/
def minus (H H' : Hp) : Hp := fun b => if (H b).isSome = true then none else H' b
theorem minus_some {H H' : Hp} {b : Addr} {o : HO} : minus H H' b = some o ↔ H b = none ∧ H' b = some o := by
  unfold minus
  cases c : H b with
  | none => simp
  | some u => simp
theorem minus_of {H H' : Hp} {b : Addr} {o : HO} (h : H b = none) (h' : H' b = some o) : minus H H' b = some o := minus_some.mpr ⟨h, h'⟩
theorem same_new {H : Hp} {p : Addr} {o : HO} (h : H p = none) : Same H (upd H p o) := fun b u e => by
  rw [upd_ne (ne_of_none e h)]
  exact e
theorem minus_right {H H1 H2 : Hp} (k : Same H1 H2) : Same (minus H H1) (minus H H2) := fun b o e => by
  obtain ⟨h1, h2⟩ := minus_some.mp e
  exact minus_of h1 (k _ _ h2)
theorem minus_left {H H1 H2 : Hp} (k : Same H H1) : Same (minus H1 H2) (minus H H2) := fun b o e => by
  obtain ⟨h1, h2⟩ := minus_some.mp e
  exact minus_of (k.free h1) h2
/-- e gives the data d, new -/
def tD (d : PyData) : TE := fun _ H Q => ∀ v H', Same H H' → Sh (minus H H') v d → Q v H'
def tDs (ds : List PyData) : TA := fun _ H Q => ∀ vs H', Same H H' → ShAll (minus H H') vs ds → Q vs H'
theorem ShAll.length {H : Hp} : ∀ {vs : List V} {ds : List PyData}, ShAll H vs ds → vs.length = ds.length
  | _, _, .nil => rfl
  | _, _, .cons _ t => by rw [List.length_cons, List.length_cons, ShAll.length t]
theorem ShAll.mem {H : Hp} : ∀ {vs : List V} {ds : List PyData}, ShAll H vs ds → ∀ v ∈ vs, ∃ d ∈ ds, Sh H v d
  | _, _, .nil, _, h => nomatch h
  | _, _, .cons a t, v, h => by
    rcases List.mem_cons.mp h with z | z
    · rw [z]
      exact ⟨_, List.mem_cons_self, a⟩
    · obtain ⟨d, m, s⟩ := ShAll.mem t v z
      exact ⟨d, List.mem_cons_of_mem _ m, s⟩
section
variable {X : Cx} {e : Expr} {es : List Expr} {te te' : TE} {t t' : TA} {d : PyData} {ds : List PyData} {pos : Pos}
theorem pe_imp (h : PE X e te) (i : ∀ σ H Q, te' σ H Q → te σ H Q) : PE X e te' := ⟨fun pins s σ H Q I q => h.run pins s σ H Q I (i σ H Q q)⟩
theorem pa_imp (h : PA X es t) (i : ∀ σ H Q, t' σ H Q → t σ H Q) : PA X es t' := ⟨fun pos pins s σ H Q I q => h.run pos pins s σ H Q I (i σ H Q q)⟩
theorem pd_c {v : V} (h : PE X e (tC v)) (s : ∀ M, Sh M v d) : PE X e (tD d) := pe_imp h fun σ H Q q => q v H (Same.refl H) (s _)
theorem pds_nil : PA X [] (tDs []) := pa_imp pa_nil fun σ H Q q => q [] H (Same.refl H) .nil
theorem pds_cons (h : PE X e (tD d)) (ht : PA X es (tDs ds)) (hs : starEach (e :: es) X.env = (false, eval e X.env) :: starEach es X.env := by rfl) : PA X (e :: es) (tDs (d :: ds)) := pa_imp (pa_cons h ht hs) fun σ H Q q => by
  intro v H1 s1 h1 vs H2 s2 h2
  exact q (v :: vs) H2 (s1.trans s2) (.cons (h1.same (minus_right s2)) (h2.same (minus_left s1)))
theorem pd_tup {x1 : Nat} (h : PA X es (tDs ds)) (hz : ds.length ≤ 1000) : PE X (.Tuple es x1 pos) (tD (.tuple ds)) := pe_imp (pe_tup h) fun σ H Q q => by
  intro vs H1 s1 h1
  refine ⟨by rw [h1.length]; exact Nat.le_of_lt (small1000 hz), fun p hp => q _ _ (s1.trans (same_new hp)) (.tup (minus_of (s1.free hp) upd_same) (h1.same (minus_right (same_new hp))))⟩
theorem pd_lst (h : PA X es (tDs ds)) (hz : ds.length ≤ 1000) : PE X (.List es pos) (tD (.list ds)) := pe_imp (pe_lstN h) fun σ H Q q => by
  intro vs H1 s1 h1
  refine ⟨by rw [h1.length]; exact Nat.le_of_lt (small1000 hz), fun p hp np => q _ _ (s1.trans (same_new hp)) (.lst (minus_of (s1.free hp) upd_same) np (h1.same (minus_right (same_new hp))))⟩
theorem pd_dict0 : PE X (.Dict [] [] pos) (tD (.dict [])) := pe_imp pe_dnewK fun σ H Q q => by
  intro p hp
  exact q _ _ (same_new hp) (.dct (kvs := []) (minus_of hp upd_same) .nil .nil)
theorem pd_dict1 {z : Str} {k : Expr} (hk : PE X k (tC (.str z))) (h : PE X e (tD d)) : PE X (.Dict [some k] [e] pos) (tD (.dict [(.str z, d)])) := pe_imp (pe_disp (pps_cons hk h pps_nil) (by rfl) (by rfl) (fun z => by cases z) (by show 1 ≤ 15; decide)) fun σ H Q q => by
  intro p hp v H1 s1 h1
  have e1 := s1 _ _ (upd_same (H := H) (a := p) (o := .dK []))
  refine ⟨e1, [(.inr z, v)], rfl, (by show 1 ≤ 15; decide), q _ _ (fun b o e => ?_) ?_⟩
  · have nb := ne_of_none e hp
    rw [upd_ne nb]
    exact s1 _ _ (by rw [upd_ne nb]; exact e)
  · refine .dct (kvs := [(.inr z, v)]) (minus_of hp upd_same) (.cons (.str z) .nil) (.cons (h1.same fun b o e => ?_) .nil)
    obtain ⟨h3, h4⟩ := minus_some.mp e
    have nb : b ≠ p := fun z => by
      rw [z, upd_same] at h3
      cases h3
    rw [upd_ne nb] at h3
    exact minus_of h3 (by rw [upd_ne nb]; exact h4)
end
end GD

namespace K78
open PySem L2 PyProof.Rows
def top (i : Nat) : Stmt := PySem.Challenge.pw_unseenstocks_k78_errors_keep_their_value.main.body.getD i (.Pass ⟨0, 0, 0, 0⟩)
abbrev sInit : Stmt := inClass (top 1) 0
abbrev sPot : Stmt := top 30
abbrev sTake : Stmt := top 31
abbrev sOf : Stmt := top 32
abbrev sCells : Stmt := top 33
abbrev sOdd : Stmt := top 34
abbrev sMade : Stmt := top 35
abbrev sMarks : Stmt := top 36
abbrev sRight : Stmt := top 37
abbrev sLaw : Stmt := top 38

/-- a pot at a: what is left of the own number, the small one, how many were taken (at most z) -/
def PotAt (H : Hp) (a : Addr) (z : Int) : Prop := ∃ x y c : Int, H a = some (.lst [.int x, .int y, .int c]) ∧ 0 ≤ x ∧ 0 ≤ y ∧ y < 2305843009213693921 ∧ 0 ≤ c ∧ c ≤ z
/-- all but a is as it was -/
def Keep (a : Addr) (H H' : Hp) : Prop := ∀ b o, b ≠ a → H b = some o → H' b = some o

def spPot (K : PySem.W.Frag) : Sp := fun vs H Q _ => ∃ (s : Addr) (ns : List Int) (pl : Int), vs = [.ref s, .int pl] ∧ SqL K H s (ns.map V.int) ∧ 0 ≤ pl ∧ pl ≤ 1000 ∧
  ∀ (p : Addr) H', H p = none → PotAt H' p 0 → Same H H' → Q (.ref p) H'
def spTake : Sp := fun vs H Q _ => ∃ (a : Addr) (u z : Int), vs = [.ref a, .int u] ∧ PotAt H a z ∧ z ≤ 100000 ∧ 0 < u ∧ u ≤ 100000 ∧
  ∀ (k : Int) H', 0 ≤ k → k < u → PotAt H' a (z + 1) → Keep a H H' → Q (.int k) H'
def spOf (K : PySem.W.Frag) : Sp := fun vs H Q _ => ∃ (a l : Addr) (xs : List V) (z : Int), vs = [.ref a, .ref l] ∧ PotAt H a z ∧ z ≤ 100000 ∧ l ≠ a ∧ H l = some (.lst xs) ∧ xs ≠ [] ∧ xs.length ≤ 1000 ∧
  ∀ v H', v ∈ xs → PotAt H' a (z + 1) → Keep a H H' → Q v H'
def spCells (K : PySem.W.Frag) : Sp := fun vs H Q _ => ∃ (s : Addr) (ns : List Int) (m : Int), vs = [.ref s, .int m] ∧ SqL K H s (ns.map V.int) ∧ 1 ≤ m ∧ m ≤ 1000 ∧
  ∀ (p : Addr) (n : Int), H p = none → 0 ≤ n → n ≤ m → Q (.ref p) (upd H p (.lst (rgV 0 n)))

structure TxtA (mg : Str → Option Value) : Prop where
  len : mg "len" = none
  abs : mg "abs" = none
  int : mg "int" = none
  max : mg "max" = none
  min : mg "min" = none
  list : mg "list" = none
  range : mg "range" = none

theorem five (c : Int) : ∃ pr : Int, atI [V.int 2147483647, V.int 2147483629, V.int 2147483587, V.int 2147483579, V.int 2147483563] (c % 5) = some (.int pr) ∧ 0 < pr ∧ pr ≤ 2147483647 := by
  have h0 := Int.emod_nonneg c (show (5 : Int) ≠ 0 by decide)
  have h1 := Int.emod_lt_of_pos c (show (0 : Int) < 5 by decide)
  generalize c % 5 = r at h0 h1
  have hr : r = 0 ∨ r = 1 ∨ r = 2 ∨ r = 3 ∨ r = 4 := by omega
  rcases hr with rfl | rfl | rfl | rfl | rfl
  all_goals exact ⟨_, rfl, by decide, by decide⟩
theorem sq_small {c : Int} (h0 : 0 ≤ c) (h1 : c ≤ 100001) : 0 ≤ 104087 * c * c ∧ 104087 * c * c ≤ 1152921504606846976 := by
  have a : 0 ≤ 104087 * c := by omega
  have b : 104087 * c ≤ 104087 * 100001 := by omega
  exact ⟨Int.mul_nonneg a h0, Int.le_trans (Int.mul_le_mul b h1 h0 (by decide)) (by decide)⟩
theorem at_ints {ns : List Int} {i : Int} (h0 : 0 ≤ i) (h1 : i < ((ns.map V.int).length : Nat)) : ∃ n : Int, atI (ns.map V.int) i = some (.int n) := by
  obtain ⟨j, rfl⟩ := Int.eq_ofNat_of_zero_le h0
  have hj : j < ns.length := by
    rw [List.length_map] at h1
    omega
  exact ⟨ns[j], atI_nat (by rw [List.getElem?_map, List.getElem?_eq_getElem hj]; rfl)⟩
theorem at_mem {xs : List V} {i : Int} (h0 : 0 ≤ i) (h1 : i < (xs.length : Nat)) : ∃ v, atI xs i = some v ∧ v ∈ xs := by
  obtain ⟨j, rfl⟩ := Int.eq_ofNat_of_zero_le h0
  have hj : j < xs.length := by omega
  exact ⟨xs[j], atI_nat (List.getElem?_eq_getElem hj), List.getElem_mem hj⟩
theorem ite_gen {c : Prop} [Decidable c] {ta tb : TE} {σ : L2.St} {H : Hp} {Q : VK} (key : ∀ n : Int, Q (.int n) H) (h : (∀ n : Int, Q (.int n) H) → if c then ta σ H Q else tb σ H Q) : if c then ta σ H Q else tb σ H Q := h key
theorem b01 (b : Bool) : (-(2 ^ 64) < (if b = true then (1 : Int) else 0)) ∧ ((if b = true then (1 : Int) else 0) < 2 ^ 64) ∧ 0 ≤ (if b = true then (1 : Int) else 0) := by cases b <;> decide
theorem mm (m : Int) (l : Nat) (h : 1 ≤ m) : 0 ≤ (if (if (l : Int) < m then (l : Int) else m) > 1 then (if (l : Int) < m then (l : Int) else m) else 1) ∧ (if (if (l : Int) < m then (l : Int) else m) > 1 then (if (l : Int) < m then (l : Int) else m) else 1) ≤ m := by
  split <;> split <;> omega
def CPowB (i j : Int) : Prop := 0 ≤ j ∧ (Builtin.Int.intBits i : Int) * j ≤ 2 ^ 27
theorem op_powB {X : Cx} : OpR X (binaryOp .Pow) (rI CPowB fun i j => .int (i ^ j.toNat)) := opI fun _ _ _ _ _ _ _ hc q => pow_int hc.1 hc.2 q
section
variable {P : Program} {w : World} {K : PySem.W.Frag} {mg : Str → Option Value} {base : Heap}
theorem scT : FnScope ["_law_pot_here", "_law_upto", "_law_digit", "_law_prime", "_law_mixed"] ["_law_pot_here", "_law_upto"] (defScope sTake) := ⟨rfl, rfl, rfl, by decide +kernel, rfl, by decide +kernel, by decide +kernel⟩
theorem ok_take {f : Addr} {fd : FuncData} (F : Fun K "_law_take" "_law_take" sTake f fd) (T : TxtA mg) : FnOk P w K mg base CX0 1 f fd ["_law_pot_here", "_law_upto"] spTake := by
  refine F.ok scT (fun vs H Q E h => ?_) (fun cdv A outer s H vs Q E hr h => ?_)
  · obtain ⟨a, u, z, rfl, _⟩ := h
    rfl
  · obtain ⟨a, u, z, rfl, ⟨x, y, c, hp, hx, hy, hy2, hc, hc2⟩, hz, hu, hu2, k⟩ := h
    refine ⟨_, pss_cons (ps_if (pt_cmpR op_gt (pe_ix ix_list (pv 0) pe_int (fun _ _ => rfl)) pe_int (nomark _))
        (pss_cons (ps_set (i := 2) scT.nd rfl (.inl rfl) (pe_op op_mod (pe_callTy call_int1 (by rfl) T.int (by decide +kernel) (pa_cons (pe_ix ix_list (pv 0) pe_int (fun _ _ => rfl)) pa_nil)) (pv 1)))
          (pss_cons (ps_asg (pe_op op_fdivN (pe_ix ix_list (pv 0) pe_int (fun _ _ => rfl)) (pv 1)) (pg_sub (pv 0) pe_int set_list))
            (pss_one (ps_ret (pv 2))))) pss_nil)
      (pss_cons (ps_asg (pe_op op_add (pe_ix ix_list (pv 0) pe_int (fun _ _ => rfl)) pe_int) (pg_sub (pv 0) pe_int set_list))
      (pss_cons (ps_set (i := 3) scT.nd rfl (.inl rfl) (pe_ix ix_list (pe_lst (pa_cons pe_int (pa_cons pe_int (pa_cons pe_int (pa_cons pe_int (pa_cons pe_int pa_nil))))))
          (pe_op op_mod (pe_callTy call_int1 (by rfl) T.int (by decide +kernel) (pa_cons (pe_ix ix_list (pv 0) pe_int (fun _ _ => rfl)) pa_nil)) pe_int) (fun _ _ => rfl)))
      (pss_cons (ps_set (i := 4) scT.nd rfl (.inl rfl) (pe_op op_mod (pe_callTy call_int1 (by rfl) T.int (by decide +kernel) (pa_cons
          (pe_op op_pow (pe_callTy call_int1 (by rfl) T.int (by decide +kernel) (pa_cons (pe_op op_add (pe_op op_add (pe_ix ix_list (pv 0) pe_int (fun _ _ => rfl))
            (pe_op op_mul (pe_op op_mul pe_int (pe_ix ix_list (pv 0) pe_int (fun _ _ => rfl))) (pe_ix ix_list (pv 0) pe_int (fun _ _ => rfl)))) pe_int) pa_nil)) pe_int) pa_nil)) (pv 3)))
      (pss_cons (ps_set (i := 4) scT.nd rfl (.inl rfl) (pe_op op_mod (pe_callTy call_int1 (by rfl) T.int (by decide +kernel) (pa_cons
          (pe_op op_mul (pv 4) (pe_op op_add (pe_op op_mod (pe_callTy call_int1 (by rfl) T.int (by decide +kernel) (pa_cons (pv 4) pa_nil)) pe_int)
            (pe_op op_mul pe_int (pe_ix ix_list (pv 0) pe_int (fun _ _ => rfl))))) pa_nil)) pe_int))
      (pss_one (ps_ret (pe_op op_mod (pe_callTy call_int1 (by rfl) T.int (by decide +kernel) (pa_cons (pe_op op_fdiv (pv 4) pe_int) pa_nil)) (pv 1)))))))), ?_⟩
    refine ⟨_, rfl, a, _, 0, _, rfl, rfl, SqL.of hp, rfl, _, _, rfl, rfl, _, rfl, ?_⟩
    refine ite2 (fun _ => ?_) (fun _ => ?_)
    · refine ⟨_, rfl, a, _, 0, _, rfl, rfl, SqL.of hp, rfl, .inl ⟨_, rfl, ?_⟩⟩
      refine ⟨_, rfl, _, _, rfl, rfl, hu, ?_⟩
      refine ⟨_, rfl, a, _, 0, _, rfl, rfl, SqL.of hp, rfl, _, rfl, _, _, rfl, rfl, ⟨by omega, by omega⟩, _, rfl, a, _, 0, 0, rfl, rfl, hp, rfl, _, rfl, ?_⟩
      refine k _ _ (Int.emod_nonneg _ (by omega)) (Int.emod_lt_of_pos _ hu) ⟨_, y, c, upd_same, ?_, hy, hy2, hc, by omega⟩ fun b o hb e => ?_
      · rw [Int.fdiv_eq_ediv_of_nonneg x (by omega)]
        exact Int.ediv_nonneg hx (by omega)
      · rw [upd_ne hb]
        exact e
    · refine ⟨_, rfl, a, _, 2, _, rfl, rfl, SqL.of hp, rfl, _, _, rfl, rfl, _, rfl, a, _, 2, 2, rfl, rfl, hp, rfl, ?_⟩
      obtain ⟨pr, hpr, hp0, hp1⟩ := five (c + 1)
      have hq := sq_small (c := c + 1) (by omega) (by omega)
      refine ⟨(by show 5 ≤ sizeLine; decide), fun p np => ?_⟩
      have npa : p ≠ a := fun e => by
        rw [e, upd_same] at np
        cases np
      have h2 : ∀ o, upd (upd H a (.lst [.int x, .int y, .int (c + 1)])) p o a = some (.lst [.int x, .int y, .int (c + 1)]) := fun o => (upd_ne npa.symm).trans upd_same
      refine ⟨_, rfl, a, _, 2, _, rfl, rfl, SqL.of (h2 _), rfl, .inl ⟨_, rfl, _, _, rfl, rfl, (by show (0 : Int) < 5; decide), p, _, _, _, rfl, rfl, SqL.of upd_same, hpr, ?_⟩⟩
      refine ⟨_, rfl, a, _, 1, _, rfl, rfl, SqL.of (h2 _), rfl, _, rfl, a, _, 2, _, rfl, rfl, SqL.of (h2 _), rfl, _, _, rfl, rfl, .inl ⟨by decide, by decide⟩, _, rfl, a, _, 2, _, rfl, rfl, SqL.of (h2 _), rfl, _, _, rfl, rfl, .inr ⟨by omega, by omega⟩, _, _, rfl, rfl, _, _, rfl, rfl, .inl ⟨_, rfl, ?_⟩⟩
      refine ⟨_, _, rfl, rfl, ⟨by decide, by decide, by omega⟩, .inl ⟨_, rfl, _, rfl, _, _, rfl, rfl, hp0, ?_⟩⟩
      have m0 := Int.emod_nonneg ((y + 104087 * (c + 1) * (c + 1) + 145) ^ (3 : Int).toNat) (show pr ≠ 0 by omega)
      have m1 := Int.emod_lt_of_pos ((y + 104087 * (c + 1) * (c + 1) + 145) ^ (3 : Int).toNat) hp0
      refine ⟨_, rfl, _, rfl, .inl ⟨_, rfl, _, _, rfl, rfl, (by show (0 : Int) < 10259; decide), _, rfl, a, _, 2, _, rfl, rfl, SqL.of (h2 _), rfl, _, _, rfl, rfl, .inl ⟨by decide, by decide⟩, _, _, rfl, rfl, _, _, rfl, rfl, .inl ⟨by omega, by omega⟩, .inl ⟨_, rfl, _, _, rfl, rfl, (by show (0 : Int) < 2305843009213693907; decide), ?_⟩⟩⟩
      refine ⟨_, rfl, _, _, rfl, rfl, ⟨by decide, by decide⟩, .inl ⟨_, rfl, _, rfl, _, _, rfl, rfl, hu, ?_⟩⟩
      refine k _ _ (Int.emod_nonneg _ (by omega)) (Int.emod_lt_of_pos _ hu) ⟨x, y, c + 1, h2 _, hx, hy, hy2, by omega, by omega⟩ fun b o hb e => ?_
      have hbp : b ≠ p := fun z => by
        rw [z] at e
        rw [upd_ne npa] at np
        rw [np] at e
        cases e
      rw [upd_ne hbp, upd_ne hb]
      exact e
theorem scP : FnScope ["_law_script", "_law_place", "_law_cell", "_law_own", "_law_small"] ["_law_script", "_law_place"] (defScope sPot) := ⟨rfl, rfl, rfl, by decide +kernel, rfl, by decide +kernel, by decide +kernel⟩
theorem ok_pot {f : Addr} {fd : FuncData} (F : Fun K "_law_pot" "_law_pot" sPot f fd) (T : TxtA mg) : FnOk P w K mg base CX0 1 f fd ["_law_script", "_law_place"] (spPot K) := by
  refine F.ok scP (fun vs H Q E h => ?_) (fun cdv A outer s H vs Q E hr h => ?_)
  · obtain ⟨a, u, z, rfl, _⟩ := h
    rfl
  · obtain ⟨a, ns, pl, rfl, hs, hp0, hp1, k⟩ := h
    refine ⟨_, pss_cons (ps_set (i := 2) scP.nd rfl (.inl rfl) (pe_ifExp (pt_cmpR op_lt (pv 1) (pe_callB call_len_seq (by rfl) T.len PySem.boot_len (pa_cons (pv 0) pa_nil)) (nomark _)) (pe_ix ix_list (pv 0) (pv 1) (fun _ _ => rfl)) (pe_op op_add (pe_op op_mul pe_int (pv 1)) pe_int)))
      (pss_cons (ps_set (i := 3) scP.nd rfl (.inl rfl) (pe_op op_mul (pe_op op_mod (pe_callTy call_int1 (by rfl) T.int (by decide +kernel) (pa_cons (pe_callB call_abs (by rfl) T.abs (by decide +kernel) (pa_cons (pv 2) pa_nil)) pa_nil)) (pe_op op_powB (pe_op op_pow pe_int pe_int) pe_int))
          (pe_callTy call_int1 (by rfl) T.int (by decide +kernel) (pa_cons (pe_cmpR op_ge (pe_callB call_abs (by rfl) T.abs (by decide +kernel) (pa_cons (pv 2) pa_nil)) (pe_op op_pow pe_int pe_int) (nomark _)) pa_nil))))
      (pss_cons (ps_set (i := 4) scP.nd rfl (.inl rfl) (pe_op op_mod (pe_callTy call_int1 (by rfl) T.int (by decide +kernel) (pa_cons (pv 2) pa_nil)) pe_int))
      (pss_one (ps_ret (pe_lst (pa_cons (pv 3) (pa_cons (pe_op op_mod (pe_callTy call_int1 (by rfl) T.int (by decide +kernel) (pa_cons
        (pe_op op_add (pe_op op_add (pe_op op_mul (pv 4) pe_int) (pe_op op_mul (pe_op op_mul pe_int (pv 1)) (pv 1))) pe_int) pa_nil)) pe_int) (pa_cons pe_int pa_nil)))))))), ?_⟩
    refine ⟨_, rfl, _, rfl, a, _, rfl, .inl hs, _, _, rfl, rfl, _, rfl, ?_⟩
    refine ite_gen (fun n => ?_) (fun key => ?_)
    · refine ⟨_, rfl, _, rfl, .inl ⟨_, rfl, ?_⟩⟩
      refine ⟨_, _, rfl, rfl, ⟨by decide, by decide, by decide⟩, _, _, rfl, rfl, ⟨by decide, by decide +kernel⟩, _, _, rfl, rfl, (by show (0 : Int) < _; decide +kernel), ?_⟩
      refine ⟨_, rfl, _, rfl, _, _, rfl, rfl, ⟨by decide, by decide, by decide⟩, _, _, rfl, rfl, .inr ⟨_, rfl, _, _, rfl, rfl, .inr ⟨(b01 _).1, (b01 _).2.1⟩, ?_⟩⟩
      refine ⟨_, rfl, .inl ⟨_, rfl, _, _, rfl, rfl, (by show (0 : Int) < _; decide), ?_⟩⟩
      have s0 := Int.emod_nonneg n (show (2305843009213693951 : Int) ≠ 0 by decide)
      have s1 := Int.emod_lt_of_pos n (show (0 : Int) < 2305843009213693951 by decide)
      refine ⟨_, rfl, _, rfl, _, _, rfl, rfl, .inr ⟨by decide, by decide⟩, _, rfl, _, _, rfl, rfl, .inl ⟨by decide, by decide⟩, _, rfl, _, _, rfl, rfl, .inr ⟨by omega, by omega⟩, _, _, rfl, rfl, _, _, rfl, rfl, .inl ⟨_, rfl, _, _, rfl, rfl, (by show (0 : Int) < _; decide), ?_⟩⟩
      refine ⟨(by show 3 ≤ sizeLine; decide), fun p np => k p _ np ⟨_, _, _, upd_same, ?_, Int.emod_nonneg _ (by decide), Int.emod_lt_of_pos _ (by decide), by decide, by decide⟩ fun b o e => ?_⟩
      · refine Int.mul_nonneg (Int.emod_nonneg _ (by decide +kernel)) (b01 _).2.2
      · rw [upd_ne (ne_of_none e np)]
        exact e
    · refine ite2 (fun c => ?_) (fun c => ?_)
      · obtain ⟨n, hn⟩ := at_ints hp0 (of_decide_eq_true c)
        exact ⟨_, rfl, _, rfl, a, _, _, _, rfl, rfl, hs, hn, key n⟩
      · exact ⟨_, rfl, _, _, rfl, rfl, .inl ⟨by decide, by decide⟩, _, _, rfl, rfl, key _⟩
theorem scO : FnScope ["_law_pot_here", "_law_some"] ["_law_pot_here", "_law_some"] (defScope sOf) := ⟨rfl, rfl, rfl, by decide +kernel, rfl, by decide +kernel, by decide +kernel⟩
theorem ok_of {f fT : Addr} {fd fdT : FuncData} (F : Fun K "_law_of" "_law_of" sOf f fd) (T : TxtA mg) (FT : Fun K "_law_take" "_law_take" sTake fT fdT) (gT : mg "_law_take" = some (.ref fT)) (bT : Binds K fdT ["_law_pot_here", "_law_upto"] []) :
    FnOk P w K mg base CX0 2 f fd ["_law_pot_here", "_law_some"] (spOf K) := by
  have GT : FnOk P w K mg base CX0 1 fT fdT ["_law_pot_here", "_law_upto"] spTake := ok_take FT T
  refine F.ok scO (fun vs H Q E h => ?_) (fun cdv A outer s H vs Q E hr h => ?_)
  · obtain ⟨a, l, xs, z, rfl, _⟩ := h
    rfl
  · obtain ⟨a, l, xs, z, rfl, hp, hz, hla, hl, hne, hlen, k⟩ := h
    refine ⟨_, pss_one (ps_ret (pe_ix ix_list (pv 1) (pe_call GT hr rfl gT FT.kp bT .nil pass0 (pa_cons (pv 0) (pa_cons (pe_callB call_len_seq (by rfl) T.len PySem.boot_len (pa_cons (pv 1) pa_nil)) pa_nil))) (fun _ _ => rfl))), ?_⟩
    have hpos : 0 < xs.length := List.length_pos_iff.mpr hne
    refine ⟨_, rfl, _, rfl, _, rfl, l, xs, rfl, .inl (SqL.of hl), a, xs.length, z, rfl, hp, hz, by omega, by omega, fun j H' h0 h1 hp' kp => ?_⟩
    obtain ⟨v, hv, hm⟩ := at_mem h0 h1
    exact ⟨l, xs, j, v, rfl, rfl, SqL.of (kp l _ hla hl), hv, k v H' hm hp' kp⟩
theorem scC : FnScope ["_law_script", "_law_most"] ["_law_script", "_law_most"] (defScope sCells) := ⟨rfl, rfl, rfl, by decide +kernel, rfl, by decide +kernel, by decide +kernel⟩
theorem ok_cells {f : Addr} {fd : FuncData} (F : Fun K "_law_cells" "_law_cells" sCells f fd) (T : TxtA mg) : FnOk P w K mg base CX0 1 f fd ["_law_script", "_law_most"] (spCells K) := by
  refine F.ok scC (fun vs H Q E h => ?_) (fun cdv A outer s H vs Q E hr h => ?_)
  · obtain ⟨a, ns, m, rfl, _⟩ := h
    rfl
  · obtain ⟨a, ns, m, rfl, hs, h1, h2, k⟩ := h
    refine ⟨_, pss_one (ps_ret (pe_listRg rfl (by rfl) T.list (prg_1 (by rfl) T.range (pe_callB (call_max2 rfl) (by rfl) T.max (by decide +kernel) (pa_cons pe_int (pa_cons
      (pe_callB (call_min2 rfl) (by rfl) T.min (by decide +kernel) (pa_cons (pv 1) (pa_cons (pe_callB call_len_seq (by rfl) T.len PySem.boot_len (pa_cons (pv 0) pa_nil)) pa_nil))) pa_nil)))))), ?_⟩
    refine ⟨_, rfl, _, rfl, a, _, rfl, .inl hs, _, _, rfl, _, _, rfl, _, rfl, ?_, fun q hq => k q _ hq ?_ ?_⟩
    · have q := (mm m (ns.map V.int).length h1)
      exact RgOk.of_le (by decide) (by omega) (by decide) (by omega)
    · have q := (mm m (ns.map V.int).length h1)
      omega
    · exact (mm m (ns.map V.int).length h1).2
end
end K78

namespace K78
open PySem PySem.Spec PyProof.Rows L2 GD
/-! a value beside a pot at a -/
def Bes (a : Addr) (H : Hp) (v : V) (d : PyData) : Prop := Sh (del H a) v d
theorem del_some {H : Hp} {a b : Addr} {o : HO} : del H a b = some o ↔ b ≠ a ∧ H b = some o := by
  unfold del
  by_cases h : b = a
  · rw [if_pos h]
    exact ⟨fun z => (nomatch z), fun z => absurd h z.1⟩
  · rw [if_neg h]
    exact ⟨fun z => ⟨h, z⟩, fun z => z.2⟩
theorem Bes.keep {a : Addr} {H H' : Hp} {v : V} {d : PyData} (k : Keep a H H') (h : Bes a H v d) : Bes a H' v d := h.same fun b o e => by
  obtain ⟨h1, h2⟩ := del_some.mp e
  exact del_some.mpr ⟨h1, k b o h1 h2⟩
theorem Bes.all {a : Addr} {H : Hp} {v : V} {d : PyData} (h : Bes a H v d) : Sh H v d := h.same fun b o e => (del_some.mp e).2
theorem bes_of {a : Addr} {H H' : Hp} {v : V} {d : PyData} {o : HO} (ha : H a = some o) (h : Sh (minus H H') v d) : Bes a H' v d := h.same fun b u e => by
  obtain ⟨h1, h2⟩ := minus_some.mp e
  refine del_some.mpr ⟨fun z => ?_, h2⟩
  rw [z, ha] at h1
  cases h1
theorem minus_keep {a : Addr} {H H1 H2 : Hp} {o : HO} (ha : H a = some o) (k : Keep a H1 H2) : Same (minus H H1) (minus H H2) := fun b u e => by
  obtain ⟨h1, h2⟩ := minus_some.mp e
  refine minus_of h1 (k b u (fun z => ?_) h2)
  rw [z, ha] at h1
  cases h1
theorem keep_new {a p : Addr} {H : Hp} {o : HO} (h : H p = none) : Keep a H (upd H p o) := fun b u _ e => same_new h b u e
theorem Keep.trans {a : Addr} {H H1 H2 : Hp} (x : Keep a H H1) (y : Keep a H1 H2) : Keep a H H2 := fun b o n e => y b o n (x b o n e)
theorem sKeep {a : Addr} {H H1 : Hp} (x : Same H H1) : Keep a H H1 := fun b o _ e => x b o e
theorem PotAt.there {H : Hp} {a : Addr} {z : Int} (h : PotAt H a z) : ∃ o, H a = some o := by
  obtain ⟨x, y, c, e, _⟩ := h
  exact ⟨_, e⟩
theorem PotAt.same {H H' : Hp} {a : Addr} {z : Int} (k : Same H H') (h : PotAt H a z) : PotAt H' a z := by
  obtain ⟨x, y, c, e, r⟩ := h
  exact ⟨x, y, c, k _ _ e, r⟩
theorem PotAt.le {H : Hp} {a : Addr} {z y : Int} (h : PotAt H a z) (l : z ≤ y) : PotAt H a y := by
  obtain ⟨x, y, c, e, r1, r2, r3, r4, r5⟩ := h
  exact ⟨x, y, c, e, r1, r2, r3, r4, by omega⟩
theorem PotAt.upd_ne {H : Hp} {a b : Addr} {z : Int} {o : HO} (n : b ≠ a) (h : PotAt H a z) : PotAt (upd H b o) a z := by
  obtain ⟨x, y, c, e, r⟩ := h
  exact ⟨x, y, c, (L2.upd_ne n.symm).trans e, r⟩
/-! the menu -/
abbrev dI (i : Int) : PyData := .int i
abbrev dS (x : Str) : PyData := .str x
def some18 : List PyData := [.none, .bool true, .bool false, dI 0, dI 1, dI (-1), dI 41, dI (10 ^ 8), dS "", dS "a", dS "begin", dS "let", .tuple [], .list [], .dict [], .tuple [dI 0], .tuple [.tuple []], .list [dI 0]]
def more7 : List PyData := [.tuple [.tuple [dI 0, dI 0]], .tuple [.tuple [dS "begin", dS "a"]], .tuple [dS "let", .tuple [.tuple [dI 0, dI 0]]], .tuple [dI 1, .tuple [], .tuple []], .tuple [dS "never"], dS "always", .tuple [dS "a"]]
def oddD : List PyData := some18 ++ (more7 ++ [.dict [(dS "a", dI 1)]])
def niceB (d : PyData) : Bool := d.showable && (decide (d.depth ≤ 20) && decide (d.shown.length ≤ sizeLine))
theorem nice_of {d : PyData} (h : niceB d = true) : NiceD d := by
  unfold niceB at h
  rw [Bool.and_eq_true, Bool.and_eq_true] at h
  exact ⟨h.1, of_decide_eq_true h.2.1, of_decide_eq_true h.2.2⟩
def wraps (d : PyData) : List PyData := [d, .tuple [d, dI 3], .list [d], .dict [(dS "a", d)]]
theorem odd_nice : (oddD.all fun d => (wraps d).all niceB) = true := by decide +kernel
theorem nice_wrap {d w : PyData} (h : d ∈ oddD) (hw : w ∈ wraps d) : NiceD w := nice_of (List.all_eq_true.mp (List.all_eq_true.mp odd_nice d h) w hw)

def spOdd : Sp := fun vs H Q _ => ∃ (a : Addr) (z : Int), vs = [.ref a] ∧ PotAt H a z ∧ z ≤ 10000 ∧
  ∀ v d H', d ∈ oddD → PotAt H' a (z + 1) → Keep a H H' → Sh (minus H H') v d → Q v H'
section
variable {P : Program} {w : World} {K : PySem.W.Frag} {mg : Str → Option Value} {base : Heap}
theorem scD : FnScope ["_law_pot_here", "_law_some", "_law_more"] ["_law_pot_here"] (defScope sOdd) := ⟨rfl, rfl, rfl, by decide +kernel, rfl, by decide +kernel, by decide +kernel⟩
theorem ok_odd {f fO fT : Addr} {fd fdO fdT : FuncData} (F : Fun K "_law_odd" "_law_odd" sOdd f fd) (T : TxtA mg) (FO : Fun K "_law_of" "_law_of" sOf fO fdO) (gO : mg "_law_of" = some (.ref fO)) (bO : Binds K fdO ["_law_pot_here", "_law_some"] [])
    (FT : Fun K "_law_take" "_law_take" sTake fT fdT) (gT : mg "_law_take" = some (.ref fT)) (bT : Binds K fdT ["_law_pot_here", "_law_upto"] []) :
    FnOk P w K mg base CX0 3 f fd ["_law_pot_here"] spOdd := by
  have GO : FnOk P w K mg base CX0 2 fO fdO ["_law_pot_here", "_law_some"] (spOf K) := ok_of FO T FT gT bT
  refine F.ok scD (fun vs H Q E h => ?_) (fun cdv A outer s H vs Q E hr h => ?_)
  · obtain ⟨a, z, rfl, _⟩ := h
    rfl
  · obtain ⟨a, z, rfl, hp, hz, k⟩ := h
    have i0 : ∀ {X : Cx} {i : Int} {j0 : Nat} {c0 : Pos}, PE X (.Constant (.int i) j0 c0) (tD (dI i)) := pd_c pe_int fun M => .int _
    have x0 : ∀ {X : Cx} {x : Str} {j0 : Nat} {c0 : Pos}, PE X (.Constant (.str x) j0 c0) (tD (dS x)) := pd_c pe_str fun M => .str _
    have t0 : ∀ {X : Cx} {x1 : Nat} {pos : Pos}, PE X (.Tuple [] x1 pos) (tD (.tuple [])) := pd_tup pds_nil (by decide)
    refine ⟨_, pss_cons (ps_set (i := 1) scD.nd rfl (.inl rfl) (pe_lst (pds_cons (pd_c pe_non fun M => .non) (pds_cons (pd_c pe_bl fun M => .bl _) (pds_cons (pd_c pe_bl fun M => .bl _) (pds_cons i0 (pds_cons i0
        (pds_cons (pe_imp (te' := tD (dI (-1))) (pe_un un_neg pe_int) fun σ H Q q => ⟨_, rfl, q _ _ (Same.refl _) (.int _)⟩) (pds_cons i0
        (pds_cons (pe_imp (te' := tD (dI (10 ^ 8))) (pe_op op_pow pe_int pe_int) fun σ H Q q => ⟨_, _, rfl, rfl, ⟨by decide, by decide, by decide⟩, q _ _ (Same.refl _) (.int _)⟩)
        (pds_cons x0 (pds_cons x0 (pds_cons x0 (pds_cons x0 (pds_cons t0 (pds_cons (pd_lst pds_nil (by decide)) (pds_cons pd_dict0 (pds_cons (pd_tup (pds_cons i0 pds_nil) (by decide)) (pds_cons (pd_tup (pds_cons t0 pds_nil) (by decide))
        (pds_cons (pd_lst (pds_cons i0 pds_nil) (by decide)) pds_nil))))))))))))))))))))
      (pss_cons (ps_set (i := 2) scD.nd rfl (.inl rfl) (pe_lst
        (pds_cons (pd_tup (pds_cons (pd_tup (pds_cons i0 (pds_cons i0 pds_nil)) (by decide)) pds_nil) (by decide))
        (pds_cons (pd_tup (pds_cons (pd_tup (pds_cons x0 (pds_cons x0 pds_nil)) (by decide)) pds_nil) (by decide))
        (pds_cons (pd_tup (pds_cons x0 (pds_cons (pd_tup (pds_cons (pd_tup (pds_cons i0 (pds_cons i0 pds_nil)) (by decide)) pds_nil) (by decide)) pds_nil)) (by decide))
        (pds_cons (pd_tup (pds_cons i0 (pds_cons t0 (pds_cons t0 pds_nil))) (by decide))
        (pds_cons (pd_tup (pds_cons x0 pds_nil) (by decide)) (pds_cons x0 (pds_cons (pd_tup (pds_cons x0 pds_nil) (by decide)) pds_nil)))))))))
      (pss_one (ps_ret (pe_call GO hr rfl gO FO.kp bO .nil pass0 (pa_cons (pv 0) (pa_cons (pe_op op_cat (pe_op op_cat (pv 1) (pv 2)) (pe_lst (pds_cons (pd_dict1 pe_str i0) pds_nil))) pa_nil)))))), ?_⟩
    obtain ⟨o, ha⟩ := hp.there
    refine fun vs1 H1 s1 h1 => ⟨by rw [h1.length]; decide, fun l hl => ?_⟩
    have sl := same_new (o := .lst vs1) hl
    refine fun vs2 H2 s2 h2 => ⟨by rw [h2.length]; decide, fun m hm => ?_⟩
    have sm := same_new (o := .lst vs2) hm
    have eL : upd H2 m (.lst vs2) l = some (.lst vs1) := sm _ _ (s2 _ _ upd_same)
    refine ⟨_, rfl, _, rfl, _, rfl, l, m, vs1, vs2, rfl, rfl, eL, upd_same, by rw [h1.length, h2.length]; decide, fun p hp' => ?_⟩
    have sp := same_new (o := .lst (vs1 ++ vs2)) hp'
    refine fun vs3 H3 s3 h3 => ⟨by rw [h3.length]; decide, fun q hq => ?_⟩
    have sq := same_new (o := .lst vs3) hq
    refine ⟨p, q, _, _, rfl, rfl, sq _ _ (s3 _ _ upd_same), upd_same, by rw [List.length_append, h1.length, h2.length, h3.length]; decide, fun r hr' => ?_⟩
    have sr := same_new (o := .lst (vs1 ++ vs2 ++ vs3)) hr'
    have sF3 : Same H3 _ := sq.trans sr
    have sF2 : Same H2 _ := (sm.trans sp).trans (s3.trans sF3)
    have sF1 : Same H1 _ := (sl.trans s2).trans sF2
    have sF : Same H _ := s1.trans sF1
    have nra : r ≠ a := fun z => by
      rw [z] at hr'
      rw [sq _ _ (s3 _ _ (sp _ _ (sm _ _ (s2 _ _ (sl _ _ (s1 _ _ ha))))))] at hr'
      cases hr'
    refine ⟨a, r, _, z, rfl, hp.same sF, by omega, nra, upd_same, fun z => ?_, by rw [List.length_append, List.length_append, h1.length, h2.length, h3.length]; decide, fun v H' hv hP kp => ?_⟩
    · have z2 := congrArg List.length z
      rw [List.length_append, List.length_append, h1.length] at z2
      simp [some18] at z2
    · have fin : ∃ d ∈ oddD, Sh (minus H H') v d := by
        rcases List.mem_append.mp hv with hv | hv
        · rcases List.mem_append.mp hv with hv | hv
          · obtain ⟨d, hd, sh⟩ := h1.mem v hv
            exact ⟨d, List.mem_append_left _ hd, (sh.same (minus_right sF1)).same (minus_keep ha kp)⟩
          · obtain ⟨d, hd, sh⟩ := h2.mem v hv
            exact ⟨d, List.mem_append_right _ (List.mem_append_left _ hd), ((sh.same (minus_left (s1.trans sl))).same (minus_right sF2)).same (minus_keep ha kp)⟩
        · obtain ⟨d, hd, sh⟩ := h3.mem v hv
          exact ⟨d, List.mem_append_right _ (List.mem_append_right _ hd), ((sh.same (minus_left (((s1.trans sl).trans (s2.trans sm)).trans sp))).same (minus_right sF3)).same (minus_keep ha kp)⟩
      obtain ⟨d, hd, b⟩ := fin
      exact k v d H' hd hP (Keep.trans (sKeep sF) kp) b
end
end K78

namespace K78
open PySem PySem.Spec PyProof.Rows L2 GD
def cnames : List Str := ["BadBook", "NoJob", "BadFact", "Full", "NoFact", "OtherJobs", "BadRow", "BadDay", "BadStocks", "NoStock", "BadStanding", "NoShop", "BadClaim", "NotSure", "BadLap", "BadLot", "BadEvents", "BadTasks", "BadOffers", "BadEvent", "Contrary", "BadNumber", "NothingToUndo", "NothingToRedo", "NoTrial", "BadJournal", "BadLine"]
def nm (i : Nat) : Str := cnames.getD i "StockError"
/-- what the written part says: c i the class of the i-th name, c 27 the base's -/
structure TxtC (K : PySem.W.Frag) (mg : Str → Option Value) (c : Nat → Addr) (fI : Addr) : Prop where
  ec : ∀ i, i < 28 → EC K (c i) fI
  g : ∀ i, i < 28 → mg (nm i) = some (.ref (c i))
  tI : PySem.W.typeIn K (.ref fI) = some (.type "function")
  ty : ∀ i, i < 28 → PySem.W.typeIn K (.ref (c i)) = some (.type "type")
  sub : ∀ i j, i < 28 → j < 28 → PySem.W.subIn K (.ref (c i)) (.ref (c j)) = some (decide (i = j ∨ j = 27))
  ve : ∀ i, i < 28 → PySem.W.subIn K (.ref (c i)) (.type "ValueError") = some true
section
variable {P : Program} {w : World} {K : PySem.W.Frag} {mg : Str → Option Value} {base : Heap} {c : Nat → Addr} {fI : Addr} {fdI : FuncData}
theorem TxtC.kit (T : TxtC K mg c fI) {i j : Nat} (hi : i < 28) (hj : j < 28) : PySem.W.kitOne K (.ref (c i)) (.ref (c j)) = some (decide (i = j ∨ j = 27)) := by
  unfold PySem.W.kitOne
  by_cases e : (Value.ref (c i) == Value.ref (c j)) = true
  · rw [if_pos e]
    have e2 : c i = c j := Value.ref.inj (beq_iff_eq.mp e)
    have h1 := T.sub i j hi hj
    have h2 := T.sub j j hj hj
    rw [e2, h2] at h1
    rw [← h1]
    simp
  · rw [if_neg e]
    obtain ⟨cd, hc, _⟩ := PySem.W.any_some (T.ec j hj).hd
    show (if ((PySem.W.clsIn K (c j)).isSome && PySem.W.typeIn K (.ref (c j)) == some (.type "type")) = true then PySem.W.subIn K (.ref (c i)) (.ref (c j)) else none) = _
    rw [if_pos (by rw [hc, T.ty j hj]; rfl)]
    exact T.sub i j hi hj
theorem TxtC.kitV (T : TxtC K mg c fI) {i : Nat} (hi : i < 28) : PySem.W.kitOne K (.ref (c i)) (.type "ValueError") = some true := by
  unfold PySem.W.kitOne
  rw [if_neg (by show ¬ (Value.ref (c i) == Value.type "ValueError") = true; rw [show (Value.ref (c i) == Value.type "ValueError") = false from rfl]; decide)]
  show (if PySem.W.kitMeta "ValueError" = true then PySem.W.subIn K (.ref (c i)) (.type "ValueError") else none) = _
  rw [if_pos (by decide +kernel)]
  exact T.ve i hi
/-! __init__ -/
theorem scI : FnScope ["self", "value"] ["self", "value"] (defScope sInit) := ⟨rfl, rfl, rfl, by decide +kernel, rfl, by decide +kernel, by decide +kernel⟩
theorem ok_init {f : Addr} {fd : FuncData} (F : Fun K "__init__" "StockError.__init__" sInit f fd) : FnOk P w K mg base CX0 1 f fd ["self", "value"] (spInit K) := by
  refine F.ok scI (fun vs H Q E h => ?_) (fun cdv A outer s H vs Q E hr h => ?_)
  · obtain ⟨e, C, v, rfl, _⟩ := h
    rfl
  · obtain ⟨e, C, v, rfl, T, nv, he, k⟩ := h
    exact ⟨_, pss_one (ps_ost (pv 0) (pv 1)), _, rfl, _, rfl, e, C, rfl, T, nv, .inl ⟨he, fun d hd hde => k d hd hde⟩⟩
/-! a display of errors, each of the first slot's value -/
def Errs (H : Hp) (v : V) (es : List Addr) (js : List Nat) (c : Nat → Addr) : Prop := Paired (fun e j => ErrAt H e (c j) v) es js
theorem Errs.same {H H' : Hp} {v : V} {c : Nat → Addr} (k : Same H H') : ∀ {es : List Addr} {js : List Nat}, Errs H v es js c → Errs H' v es js c
  | _, _, .nil => .nil
  | _, _, .cons a t => .cons (a.same k) (Errs.same k t)
theorem Errs.append {H : Hp} {v : V} {c : Nat → Addr} : ∀ {es fs : List Addr} {js ks : List Nat}, Errs H v es js c → Errs H v fs ks c → Errs H v (es ++ fs) (js ++ ks) c
  | _, _, _, _, .nil, b => b
  | _, _, _, _, .cons a t, b => .cons a (Errs.append t b)
theorem Errs.get {H : Hp} {v : V} {c : Nat → Addr} : ∀ {es : List Addr} {js : List Nat} {i : Nat} {e : Addr}, Errs H v es js c → es[i]? = some e → ∃ j, js[i]? = some j ∧ ErrAt H e (c j) v
  | _, _, _, _, .nil, h => by simp at h
  | _, _, 0, _, .cons a t, h => by
    simp at h
    subst h
    exact ⟨_, rfl, a⟩
  | _, _, i + 1, _, .cons a t, h => by
    obtain ⟨j, h1, h2⟩ := Errs.get (i := i) t (by simpa using h)
    exact ⟨j, by simpa using h1, h2⟩
def tErrs (c : Nat → Addr) (js : List Nat) : TA := fun σ H Q => ∃ v, σ[0]? = some (some v) ∧ ∀ es H2, Same H H2 → Errs H2 v es js c → Q (es.map V.ref) H2
section
variable {X : Cx} {e : Expr} {es : List Expr}
theorem pa_errs0 : PA X [] (tErrs c []) := pa_imp pa_nil fun σ H Q q => by
  obtain ⟨v, _, k⟩ := q
  exact k [] H (Same.refl H) .nil
theorem pa_errs {i : Nat} {js : List Nat} (h : PE X e (tErr (c i) (tCons (tVar 0) tNil))) (ht : PA X es (tErrs c js)) (hs : starEach (e :: es) X.env = (false, eval e X.env) :: starEach es X.env := by rfl) : PA X (e :: es) (tErrs c (i :: js)) :=
  pa_imp (pa_cons h ht hs) fun σ H Q q => by
    obtain ⟨v, hv, k⟩ := q
    exact ⟨v, hv, v, rfl, fun a H1 _ s1 ea => ⟨v, hv, fun es H2 s2 er => k (a :: es) H2 (s1.trans s2) (.cons (ea.same s2) er)⟩⟩
end
theorem errs_upd {H : Hp} {v : V} {c : Nat → Addr} {l : Addr} {xs ys : List V} (hl : H l = some (.lst xs)) : ∀ {es : List Addr} {js : List Nat}, Errs H v es js c → Errs (upd H l (.lst ys)) v es js c
  | _, _, .nil => .nil
  | _, _, .cons a t => by
    obtain ⟨d, h1, h2⟩ := a
    refine .cons ⟨d, ?_, ?_⟩ (errs_upd hl t)
    · rw [upd_ne (ne_of h1 hl (fun z => by have z' : HO.ext _ = HO.lst xs := z; cases z'))]
      exact h1
    · rw [upd_ne (ne_of h2 hl (fun z => by have z' : HO.ext _ = HO.lst xs := z; cases z'))]
      exact h2
theorem same_upd {H H1 : Hp} {l : Addr} {o : HO} (k : Same H H1) (hl : H l = none) : Same H (upd H1 l o) := fun b u e => by
  rw [upd_ne (ne_of_none e hl)]
  exact k b u e
theorem ext_step {H Hc H2 : Hp} {l b : Addr} {v : V} {es e2 : List Addr} {js ks : List Nat} {c : Nat → Addr} (k : Same H Hc) (l0 : H l = none) (el : Hc l = some (.lst (es.map V.ref))) (r : Errs Hc v es js c) (s2 : Same Hc H2) (r2 : Errs H2 v e2 ks c) (hb : H2 b = none) :
    upd H2 b (.lst (e2.map V.ref)) l = some (.lst (es.map V.ref)) ∧ Same H (upd (upd H2 b (.lst (e2.map V.ref))) l (.lst (es.map V.ref ++ e2.map V.ref))) ∧
      upd (upd H2 b (.lst (e2.map V.ref))) l (.lst (es.map V.ref ++ e2.map V.ref)) l = some (.lst ((es ++ e2).map V.ref)) ∧ Errs (upd (upd H2 b (.lst (e2.map V.ref))) l (.lst (es.map V.ref ++ e2.map V.ref))) v (es ++ e2) (js ++ ks) c := by
  have sb := same_new (o := .lst (e2.map V.ref)) hb
  have eb := sb _ _ (s2 _ _ el)
  exact ⟨eb, same_upd ((k.trans s2).trans sb) l0, by rw [upd_same, List.map_append], Errs.append (errs_upd eb (r.same (s2.trans sb))) (errs_upd eb (r2.same sb))⟩
def spMade (c : Nat → Addr) : Sp := fun vs H Q _ => ∃ v, vs = [v] ∧ ∀ (l : Addr) (es : List Addr) H', Same H H' → H l = none → H' l = some (.lst (es.map V.ref)) → Errs H' v es (List.range 27) c → Q (.ref l) H'
theorem scM : FnScope ["_law_value", "_law_found"] ["_law_value"] (defScope sMade) := ⟨rfl, rfl, rfl, by decide +kernel, rfl, by decide +kernel, by decide +kernel⟩
theorem ok_made {f : Addr} {fd : FuncData} (F : Fun K "_law_made" "_law_made" sMade f fd) (T : TxtC K mg c fI) (FI : Fun K "__init__" "StockError.__init__" sInit fI fdI) (bI : Binds K fdI ["self", "value"] []) :
    FnOk P w K mg base CX0 4 f fd ["_law_value"] (spMade c) := by
  have GI : FnOk P w K mg base CX0 1 fI fdI ["self", "value"] (spInit K) := ok_init FI
  refine F.ok scM (fun vs H Q E h => ?_) (fun cdv A outer s H vs Q E hr h => ?_)
  · obtain ⟨v, rfl, _⟩ := h
    rfl
  · obtain ⟨v, rfl, k⟩ := h
    have hr2 : Room 2 _ := hr.mono (by decide)
    refine ⟨_, pss_cons (ps_set (i := 1) scM.nd rfl (.inl rfl) (pe_lst (t := tErrs c [0, 1, 2, 3, 4, 5, 6]) ?d1))
      (pss_cons (ps_expr (pe_bm PySem.F.plainAttrs_list PySem.F.slot_list_extend PySem.F.type_list_extend mt_extend (pv 1) (pa_cons (pe_lst (t := tErrs c [7, 8, 9, 10, 11, 12]) ?d2) pa_nil)))
      (pss_cons (ps_expr (pe_bm PySem.F.plainAttrs_list PySem.F.slot_list_extend PySem.F.type_list_extend mt_extend (pv 1) (pa_cons (pe_lst (t := tErrs c [13, 14, 15, 16, 17, 18]) ?d3) pa_nil)))
      (pss_cons (ps_expr (pe_bm PySem.F.plainAttrs_list PySem.F.slot_list_extend PySem.F.type_list_extend mt_extend (pv 1) (pa_cons (pe_lst (t := tErrs c [19, 20, 21, 22, 23]) ?d4) pa_nil)))
      (pss_one (ps_ret (pe_op op_cat (pv 1) (pe_lst (t := tErrs c [24, 25, 26]) ?d5))))))), ?rd⟩
    case d1 =>
      refine pa_errs (pe_mkErr (T.ec 0 (by decide)) T.tI GI hr2 bI (by rfl) (T.g 0 (by decide)) (pa_cons (pv 0) pa_nil)) ?_
      refine pa_errs (pe_mkErr (T.ec 1 (by decide)) T.tI GI hr2 bI (by rfl) (T.g 1 (by decide)) (pa_cons (pv 0) pa_nil)) ?_
      refine pa_errs (pe_mkErr (T.ec 2 (by decide)) T.tI GI hr2 bI (by rfl) (T.g 2 (by decide)) (pa_cons (pv 0) pa_nil)) ?_
      refine pa_errs (pe_mkErr (T.ec 3 (by decide)) T.tI GI hr2 bI (by rfl) (T.g 3 (by decide)) (pa_cons (pv 0) pa_nil)) ?_
      refine pa_errs (pe_mkErr (T.ec 4 (by decide)) T.tI GI hr2 bI (by rfl) (T.g 4 (by decide)) (pa_cons (pv 0) pa_nil)) ?_
      refine pa_errs (pe_mkErr (T.ec 5 (by decide)) T.tI GI hr2 bI (by rfl) (T.g 5 (by decide)) (pa_cons (pv 0) pa_nil)) ?_
      refine pa_errs (pe_mkErr (T.ec 6 (by decide)) T.tI GI hr2 bI (by rfl) (T.g 6 (by decide)) (pa_cons (pv 0) pa_nil)) ?_
      exact pa_errs0
    case d2 =>
      refine pa_errs (pe_mkErr (T.ec 7 (by decide)) T.tI GI hr2 bI (by rfl) (T.g 7 (by decide)) (pa_cons (pv 0) pa_nil)) ?_
      refine pa_errs (pe_mkErr (T.ec 8 (by decide)) T.tI GI hr2 bI (by rfl) (T.g 8 (by decide)) (pa_cons (pv 0) pa_nil)) ?_
      refine pa_errs (pe_mkErr (T.ec 9 (by decide)) T.tI GI hr2 bI (by rfl) (T.g 9 (by decide)) (pa_cons (pv 0) pa_nil)) ?_
      refine pa_errs (pe_mkErr (T.ec 10 (by decide)) T.tI GI hr2 bI (by rfl) (T.g 10 (by decide)) (pa_cons (pv 0) pa_nil)) ?_
      refine pa_errs (pe_mkErr (T.ec 11 (by decide)) T.tI GI hr2 bI (by rfl) (T.g 11 (by decide)) (pa_cons (pv 0) pa_nil)) ?_
      refine pa_errs (pe_mkErr (T.ec 12 (by decide)) T.tI GI hr2 bI (by rfl) (T.g 12 (by decide)) (pa_cons (pv 0) pa_nil)) ?_
      exact pa_errs0
    case d3 =>
      refine pa_errs (pe_mkErr (T.ec 13 (by decide)) T.tI GI hr2 bI (by rfl) (T.g 13 (by decide)) (pa_cons (pv 0) pa_nil)) ?_
      refine pa_errs (pe_mkErr (T.ec 14 (by decide)) T.tI GI hr2 bI (by rfl) (T.g 14 (by decide)) (pa_cons (pv 0) pa_nil)) ?_
      refine pa_errs (pe_mkErr (T.ec 15 (by decide)) T.tI GI hr2 bI (by rfl) (T.g 15 (by decide)) (pa_cons (pv 0) pa_nil)) ?_
      refine pa_errs (pe_mkErr (T.ec 16 (by decide)) T.tI GI hr2 bI (by rfl) (T.g 16 (by decide)) (pa_cons (pv 0) pa_nil)) ?_
      refine pa_errs (pe_mkErr (T.ec 17 (by decide)) T.tI GI hr2 bI (by rfl) (T.g 17 (by decide)) (pa_cons (pv 0) pa_nil)) ?_
      refine pa_errs (pe_mkErr (T.ec 18 (by decide)) T.tI GI hr2 bI (by rfl) (T.g 18 (by decide)) (pa_cons (pv 0) pa_nil)) ?_
      exact pa_errs0
    case d4 =>
      refine pa_errs (pe_mkErr (T.ec 19 (by decide)) T.tI GI hr2 bI (by rfl) (T.g 19 (by decide)) (pa_cons (pv 0) pa_nil)) ?_
      refine pa_errs (pe_mkErr (T.ec 20 (by decide)) T.tI GI hr2 bI (by rfl) (T.g 20 (by decide)) (pa_cons (pv 0) pa_nil)) ?_
      refine pa_errs (pe_mkErr (T.ec 21 (by decide)) T.tI GI hr2 bI (by rfl) (T.g 21 (by decide)) (pa_cons (pv 0) pa_nil)) ?_
      refine pa_errs (pe_mkErr (T.ec 22 (by decide)) T.tI GI hr2 bI (by rfl) (T.g 22 (by decide)) (pa_cons (pv 0) pa_nil)) ?_
      refine pa_errs (pe_mkErr (T.ec 23 (by decide)) T.tI GI hr2 bI (by rfl) (T.g 23 (by decide)) (pa_cons (pv 0) pa_nil)) ?_
      exact pa_errs0
    case d5 =>
      refine pa_errs (pe_mkErr (T.ec 24 (by decide)) T.tI GI hr2 bI (by rfl) (T.g 24 (by decide)) (pa_cons (pv 0) pa_nil)) ?_
      refine pa_errs (pe_mkErr (T.ec 25 (by decide)) T.tI GI hr2 bI (by rfl) (T.g 25 (by decide)) (pa_cons (pv 0) pa_nil)) ?_
      refine pa_errs (pe_mkErr (T.ec 26 (by decide)) T.tI GI hr2 bI (by rfl) (T.g 26 (by decide)) (pa_cons (pv 0) pa_nil)) ?_
      exact pa_errs0
    case rd =>
      refine ⟨v, rfl, fun e1 H1 s1 r1 => ⟨by rw [List.length_map, Paired.length r1]; decide, fun l hl => ?_⟩⟩
      have l0 := s1.free hl
      have u1 := r1.same (same_new (o := .lst (e1.map V.ref)) hl)
      have k1 := same_upd (o := .lst (e1.map V.ref)) s1 l0
      have z1 := Paired.length r1
      refine ⟨_, rfl, .inl ⟨rfl, _, SqL.of upd_same⟩, v, rfl, fun e2 H2 s2 r2 => ⟨by rw [List.length_map, Paired.length r2]; decide, fun b2 hb2 => ?_⟩⟩
      have z2 := Paired.length r2
      obtain ⟨x2, k2, el2, u2⟩ := ext_step k1 l0 upd_same u1 s2 r2 hb2
      refine ⟨l, b2, _, _, rfl, rfl, x2, upd_same, by rw [List.length_map, List.length_map, z1, z2]; decide, ?_⟩
      refine ⟨_, rfl, .inl ⟨rfl, _, SqL.of el2⟩, v, rfl, fun e3 H3 s3 r3 => ⟨by rw [List.length_map, Paired.length r3]; decide, fun b3 hb3 => ?_⟩⟩
      have z3 := Paired.length r3
      obtain ⟨x3, k3, el3, u3⟩ := ext_step k2 l0 el2 u2 s3 r3 hb3
      refine ⟨l, b3, _, _, rfl, rfl, x3, upd_same, by rw [List.length_map, List.length_map, List.length_append, z1, z2, z3]; decide, ?_⟩
      refine ⟨_, rfl, .inl ⟨rfl, _, SqL.of el3⟩, v, rfl, fun e4 H4 s4 r4 => ⟨by rw [List.length_map, Paired.length r4]; decide, fun b4 hb4 => ?_⟩⟩
      have z4 := Paired.length r4
      obtain ⟨x4, k4, el4, u4⟩ := ext_step k3 l0 el3 u3 s4 r4 hb4
      refine ⟨l, b4, _, _, rfl, rfl, x4, upd_same, by rw [List.length_map, List.length_map, List.length_append, List.length_append, z1, z2, z3, z4]; decide, ?_⟩
      refine ⟨_, rfl, v, rfl, fun e5 H5 s5 r5 => ⟨by rw [List.length_map, Paired.length r5]; decide, fun b5 hb5 => ?_⟩⟩
      have z5 := Paired.length r5
      have sb := same_new (o := .lst (e5.map V.ref)) hb5
      refine ⟨l, b5, _, _, rfl, rfl, sb _ _ (s5 _ _ el4), upd_same, by rw [List.length_map, List.length_map, List.length_append, List.length_append, List.length_append, z1, z2, z3, z4, z5]; decide, fun p hp => ?_⟩
      have sp := same_new (o := .lst ((e1 ++ e2 ++ e3 ++ e4).map V.ref ++ e5.map V.ref)) hp
      have kF := ((k4.trans s5).trans sb).trans sp
      refine k p (e1 ++ e2 ++ e3 ++ e4 ++ e5) _ kF (((k4.trans s5).trans sb).free hp) ?_ ((u4.same ((s5.trans sb).trans sp)).append (r5.same (sb.trans sp)))
      rw [upd_same]
      simp only [List.map_append]
end
end K78

namespace K78
open PySem PySem.Spec PyProof.Rows L2 GD
section
variable {P : Program} {w : World} {K : PySem.W.Frag} {mg : Str → Option Value} {base : Heap} {c : Nat → Addr} {fI : Addr} {fdI : FuncData}
def mks (i : Nat) (js : List Nat) : List Bool := js.map fun j => decide (i = j)
def tMarks (c : Nat → Addr) (js : List Nat) : TA := fun σ H Q => ∃ (a : Addr) (i : Nat) (v : V), σ[0]? = some (some (.ref a)) ∧ i < 28 ∧ ErrAt H a (c i) v ∧ Q ((mks i js).map V.bl) H
section
variable {X : Cx} {e : Expr} {es : List Expr}
theorem pa_marks0 : PA X [] (tMarks c []) := pa_imp pa_nil fun σ H Q q => by
  obtain ⟨a, i, v, _, _, _, k⟩ := q
  exact k
theorem pa_marks (T : TxtC X.K mg c fI) {j : Nat} {js : List Nat} (hj : j < 27) (h : PE X e (tCB (rIsErr X.K) (tCons (tVar 0) (tCons (tC (.ref (c j))) tNil)))) (ht : PA X es (tMarks c js)) (hs : starEach (e :: es) X.env = (false, eval e X.env) :: starEach es X.env := by rfl) : PA X (e :: es) (tMarks c (j :: js)) :=
  pa_imp (pa_cons h ht hs) fun σ H Q q => by
    obtain ⟨a, i, v, hv, hi, he, k⟩ := q
    have e1 : decide (i = j ∨ j = 27) = decide (i = j) := decide_eq_decide.mpr ⟨fun z => z.elim id fun y => by omega, .inl⟩
    exact ⟨_, hv, a, c i, fI, v, .ref (c j), .ref (c j), decide (i = j), rfl, T.ec i hi, he, .own _, by rw [T.kit hi (by omega), e1], a, i, v, hv, hi, he, k⟩
end
def spMarks (c : Nat → Addr) : Sp := fun vs H Q _ => ∃ (a : Addr) (i : Nat) (v : V), vs = [.ref a] ∧ i < 28 ∧ ErrAt H a (c i) v ∧
  ∀ (l : Addr) H', Same H H' → H l = none → H' l = some (.lst ((mks i (List.range 27)).map V.bl)) → Q (.ref l) H'
theorem mark_step {H Hc : Hp} {l b : Addr} {i : Nat} {js ks : List Nat} (k : Same H Hc) (l0 : H l = none) (el : Hc l = some (.lst ((mks i js).map V.bl))) (hb : Hc b = none) :
    upd Hc b (.lst ((mks i ks).map V.bl)) l = some (.lst ((mks i js).map V.bl)) ∧ Same H (upd (upd Hc b (.lst ((mks i ks).map V.bl))) l (.lst ((mks i js).map V.bl ++ (mks i ks).map V.bl))) ∧
      upd (upd Hc b (.lst ((mks i ks).map V.bl))) l (.lst ((mks i js).map V.bl ++ (mks i ks).map V.bl)) l = some (.lst ((mks i (js ++ ks)).map V.bl)) := by
  have sb := same_new (o := .lst ((mks i ks).map V.bl)) hb
  exact ⟨sb _ _ el, same_upd (k.trans sb) l0, by rw [upd_same]; simp only [mks, List.map_append]⟩
theorem scK : FnScope ["_law_error", "_law_found"] ["_law_error"] (defScope sMarks) := ⟨rfl, rfl, rfl, by decide +kernel, rfl, by decide +kernel, by decide +kernel⟩
theorem ok_marks {f : Addr} {fd : FuncData} (F : Fun K "_law_marks" "_law_marks" sMarks f fd) (T : TxtC K mg c fI) (nI : mg "isinstance" = none) : FnOk P w K mg base CX0 1 f fd ["_law_error"] (spMarks c) := by
  refine F.ok scK (fun vs H Q E h => ?_) (fun cdv A outer s H vs Q E hr h => ?_)
  · obtain ⟨a, i, v, rfl, _⟩ := h
    rfl
  · obtain ⟨a, i, v, rfl, hi, he, k⟩ := h
    refine ⟨_, pss_cons (ps_set (i := 1) scK.nd rfl (.inl rfl) (pe_lst (t := tMarks c [0, 1, 2, 3]) ?d0))
      (pss_cons (ps_expr (pe_bm PySem.F.plainAttrs_list PySem.F.slot_list_extend PySem.F.type_list_extend mt_extend (pv 1) (pa_cons (pe_lst (t := tMarks c [4, 5, 6]) ?d1) pa_nil)))
      (pss_cons (ps_expr (pe_bm PySem.F.plainAttrs_list PySem.F.slot_list_extend PySem.F.type_list_extend mt_extend (pv 1) (pa_cons (pe_lst (t := tMarks c [7, 8, 9]) ?d2) pa_nil)))
      (pss_cons (ps_expr (pe_bm PySem.F.plainAttrs_list PySem.F.slot_list_extend PySem.F.type_list_extend mt_extend (pv 1) (pa_cons (pe_lst (t := tMarks c [10, 11, 12]) ?d3) pa_nil)))
      (pss_cons (ps_expr (pe_bm PySem.F.plainAttrs_list PySem.F.slot_list_extend PySem.F.type_list_extend mt_extend (pv 1) (pa_cons (pe_lst (t := tMarks c [13, 14, 15]) ?d4) pa_nil)))
      (pss_cons (ps_expr (pe_bm PySem.F.plainAttrs_list PySem.F.slot_list_extend PySem.F.type_list_extend mt_extend (pv 1) (pa_cons (pe_lst (t := tMarks c [16, 17, 18]) ?d5) pa_nil)))
      (pss_cons (ps_expr (pe_bm PySem.F.plainAttrs_list PySem.F.slot_list_extend PySem.F.type_list_extend mt_extend (pv 1) (pa_cons (pe_lst (t := tMarks c [19, 20, 21]) ?d6) pa_nil)))
      (pss_cons (ps_expr (pe_bm PySem.F.plainAttrs_list PySem.F.slot_list_extend PySem.F.type_list_extend mt_extend (pv 1) (pa_cons (pe_lst (t := tMarks c [22, 23, 24]) ?d7) pa_nil)))
      (pss_one (ps_ret (pe_op op_cat (pv 1) (pe_lst (t := tMarks c [25, 26]) ?d8))))))))))), ?rd⟩
    case d0 =>
      refine pa_marks T (show 0 < 27 by decide) (pe_callB call_isErr (by rfl) nI (by decide +kernel) (pa_cons (pv 0) (pa_cons (pe_glob (by rfl) (T.g 0 (by decide)) rfl) pa_nil))) ?_
      refine pa_marks T (show 1 < 27 by decide) (pe_callB call_isErr (by rfl) nI (by decide +kernel) (pa_cons (pv 0) (pa_cons (pe_glob (by rfl) (T.g 1 (by decide)) rfl) pa_nil))) ?_
      refine pa_marks T (show 2 < 27 by decide) (pe_callB call_isErr (by rfl) nI (by decide +kernel) (pa_cons (pv 0) (pa_cons (pe_glob (by rfl) (T.g 2 (by decide)) rfl) pa_nil))) ?_
      refine pa_marks T (show 3 < 27 by decide) (pe_callB call_isErr (by rfl) nI (by decide +kernel) (pa_cons (pv 0) (pa_cons (pe_glob (by rfl) (T.g 3 (by decide)) rfl) pa_nil))) ?_
      exact pa_marks0
    case d1 =>
      refine pa_marks T (show 4 < 27 by decide) (pe_callB call_isErr (by rfl) nI (by decide +kernel) (pa_cons (pv 0) (pa_cons (pe_glob (by rfl) (T.g 4 (by decide)) rfl) pa_nil))) ?_
      refine pa_marks T (show 5 < 27 by decide) (pe_callB call_isErr (by rfl) nI (by decide +kernel) (pa_cons (pv 0) (pa_cons (pe_glob (by rfl) (T.g 5 (by decide)) rfl) pa_nil))) ?_
      refine pa_marks T (show 6 < 27 by decide) (pe_callB call_isErr (by rfl) nI (by decide +kernel) (pa_cons (pv 0) (pa_cons (pe_glob (by rfl) (T.g 6 (by decide)) rfl) pa_nil))) ?_
      exact pa_marks0
    case d2 =>
      refine pa_marks T (show 7 < 27 by decide) (pe_callB call_isErr (by rfl) nI (by decide +kernel) (pa_cons (pv 0) (pa_cons (pe_glob (by rfl) (T.g 7 (by decide)) rfl) pa_nil))) ?_
      refine pa_marks T (show 8 < 27 by decide) (pe_callB call_isErr (by rfl) nI (by decide +kernel) (pa_cons (pv 0) (pa_cons (pe_glob (by rfl) (T.g 8 (by decide)) rfl) pa_nil))) ?_
      refine pa_marks T (show 9 < 27 by decide) (pe_callB call_isErr (by rfl) nI (by decide +kernel) (pa_cons (pv 0) (pa_cons (pe_glob (by rfl) (T.g 9 (by decide)) rfl) pa_nil))) ?_
      exact pa_marks0
    case d3 =>
      refine pa_marks T (show 10 < 27 by decide) (pe_callB call_isErr (by rfl) nI (by decide +kernel) (pa_cons (pv 0) (pa_cons (pe_glob (by rfl) (T.g 10 (by decide)) rfl) pa_nil))) ?_
      refine pa_marks T (show 11 < 27 by decide) (pe_callB call_isErr (by rfl) nI (by decide +kernel) (pa_cons (pv 0) (pa_cons (pe_glob (by rfl) (T.g 11 (by decide)) rfl) pa_nil))) ?_
      refine pa_marks T (show 12 < 27 by decide) (pe_callB call_isErr (by rfl) nI (by decide +kernel) (pa_cons (pv 0) (pa_cons (pe_glob (by rfl) (T.g 12 (by decide)) rfl) pa_nil))) ?_
      exact pa_marks0
    case d4 =>
      refine pa_marks T (show 13 < 27 by decide) (pe_callB call_isErr (by rfl) nI (by decide +kernel) (pa_cons (pv 0) (pa_cons (pe_glob (by rfl) (T.g 13 (by decide)) rfl) pa_nil))) ?_
      refine pa_marks T (show 14 < 27 by decide) (pe_callB call_isErr (by rfl) nI (by decide +kernel) (pa_cons (pv 0) (pa_cons (pe_glob (by rfl) (T.g 14 (by decide)) rfl) pa_nil))) ?_
      refine pa_marks T (show 15 < 27 by decide) (pe_callB call_isErr (by rfl) nI (by decide +kernel) (pa_cons (pv 0) (pa_cons (pe_glob (by rfl) (T.g 15 (by decide)) rfl) pa_nil))) ?_
      exact pa_marks0
    case d5 =>
      refine pa_marks T (show 16 < 27 by decide) (pe_callB call_isErr (by rfl) nI (by decide +kernel) (pa_cons (pv 0) (pa_cons (pe_glob (by rfl) (T.g 16 (by decide)) rfl) pa_nil))) ?_
      refine pa_marks T (show 17 < 27 by decide) (pe_callB call_isErr (by rfl) nI (by decide +kernel) (pa_cons (pv 0) (pa_cons (pe_glob (by rfl) (T.g 17 (by decide)) rfl) pa_nil))) ?_
      refine pa_marks T (show 18 < 27 by decide) (pe_callB call_isErr (by rfl) nI (by decide +kernel) (pa_cons (pv 0) (pa_cons (pe_glob (by rfl) (T.g 18 (by decide)) rfl) pa_nil))) ?_
      exact pa_marks0
    case d6 =>
      refine pa_marks T (show 19 < 27 by decide) (pe_callB call_isErr (by rfl) nI (by decide +kernel) (pa_cons (pv 0) (pa_cons (pe_glob (by rfl) (T.g 19 (by decide)) rfl) pa_nil))) ?_
      refine pa_marks T (show 20 < 27 by decide) (pe_callB call_isErr (by rfl) nI (by decide +kernel) (pa_cons (pv 0) (pa_cons (pe_glob (by rfl) (T.g 20 (by decide)) rfl) pa_nil))) ?_
      refine pa_marks T (show 21 < 27 by decide) (pe_callB call_isErr (by rfl) nI (by decide +kernel) (pa_cons (pv 0) (pa_cons (pe_glob (by rfl) (T.g 21 (by decide)) rfl) pa_nil))) ?_
      exact pa_marks0
    case d7 =>
      refine pa_marks T (show 22 < 27 by decide) (pe_callB call_isErr (by rfl) nI (by decide +kernel) (pa_cons (pv 0) (pa_cons (pe_glob (by rfl) (T.g 22 (by decide)) rfl) pa_nil))) ?_
      refine pa_marks T (show 23 < 27 by decide) (pe_callB call_isErr (by rfl) nI (by decide +kernel) (pa_cons (pv 0) (pa_cons (pe_glob (by rfl) (T.g 23 (by decide)) rfl) pa_nil))) ?_
      refine pa_marks T (show 24 < 27 by decide) (pe_callB call_isErr (by rfl) nI (by decide +kernel) (pa_cons (pv 0) (pa_cons (pe_glob (by rfl) (T.g 24 (by decide)) rfl) pa_nil))) ?_
      exact pa_marks0
    case d8 =>
      refine pa_marks T (show 25 < 27 by decide) (pe_callB call_isErr (by rfl) nI (by decide +kernel) (pa_cons (pv 0) (pa_cons (pe_glob (by rfl) (T.g 25 (by decide)) rfl) pa_nil))) ?_
      refine pa_marks T (show 26 < 27 by decide) (pe_callB call_isErr (by rfl) nI (by decide +kernel) (pa_cons (pv 0) (pa_cons (pe_glob (by rfl) (T.g 26 (by decide)) rfl) pa_nil))) ?_
      exact pa_marks0
    case rd =>
      refine ⟨a, i, v, rfl, hi, he, by simp only [mks, List.length_map]; decide, fun l l0 => ?_⟩
      have k0 := same_new (o := .lst ((mks i [0, 1, 2, 3]).map V.bl)) l0
      have el0 : upd H l (.lst ((mks i [0, 1, 2, 3]).map V.bl)) l = some (.lst ((mks i [0, 1, 2, 3]).map V.bl)) := upd_same
      refine ⟨_, rfl, .inl ⟨rfl, _, SqL.of el0⟩, a, i, v, rfl, hi, he.same k0, by simp only [mks, List.length_map]; decide, fun b1 hb1 => ?_⟩
      obtain ⟨x1, k1, el1⟩ := mark_step (ks := [4, 5, 6]) k0 l0 el0 hb1
      refine ⟨l, b1, _, _, rfl, rfl, x1, upd_same, by simp only [mks, List.length_map, List.length_append]; decide, ?_⟩
      refine ⟨_, rfl, .inl ⟨rfl, _, SqL.of el1⟩, a, i, v, rfl, hi, he.same k1, by simp only [mks, List.length_map]; decide, fun b2 hb2 => ?_⟩
      obtain ⟨x2, k2, el2⟩ := mark_step (ks := [7, 8, 9]) k1 l0 el1 hb2
      refine ⟨l, b2, _, _, rfl, rfl, x2, upd_same, by simp only [mks, List.length_map, List.length_append]; decide, ?_⟩
      refine ⟨_, rfl, .inl ⟨rfl, _, SqL.of el2⟩, a, i, v, rfl, hi, he.same k2, by simp only [mks, List.length_map]; decide, fun b3 hb3 => ?_⟩
      obtain ⟨x3, k3, el3⟩ := mark_step (ks := [10, 11, 12]) k2 l0 el2 hb3
      refine ⟨l, b3, _, _, rfl, rfl, x3, upd_same, by simp only [mks, List.length_map, List.length_append]; decide, ?_⟩
      refine ⟨_, rfl, .inl ⟨rfl, _, SqL.of el3⟩, a, i, v, rfl, hi, he.same k3, by simp only [mks, List.length_map]; decide, fun b4 hb4 => ?_⟩
      obtain ⟨x4, k4, el4⟩ := mark_step (ks := [13, 14, 15]) k3 l0 el3 hb4
      refine ⟨l, b4, _, _, rfl, rfl, x4, upd_same, by simp only [mks, List.length_map, List.length_append]; decide, ?_⟩
      refine ⟨_, rfl, .inl ⟨rfl, _, SqL.of el4⟩, a, i, v, rfl, hi, he.same k4, by simp only [mks, List.length_map]; decide, fun b5 hb5 => ?_⟩
      obtain ⟨x5, k5, el5⟩ := mark_step (ks := [16, 17, 18]) k4 l0 el4 hb5
      refine ⟨l, b5, _, _, rfl, rfl, x5, upd_same, by simp only [mks, List.length_map, List.length_append]; decide, ?_⟩
      refine ⟨_, rfl, .inl ⟨rfl, _, SqL.of el5⟩, a, i, v, rfl, hi, he.same k5, by simp only [mks, List.length_map]; decide, fun b6 hb6 => ?_⟩
      obtain ⟨x6, k6, el6⟩ := mark_step (ks := [19, 20, 21]) k5 l0 el5 hb6
      refine ⟨l, b6, _, _, rfl, rfl, x6, upd_same, by simp only [mks, List.length_map, List.length_append]; decide, ?_⟩
      refine ⟨_, rfl, .inl ⟨rfl, _, SqL.of el6⟩, a, i, v, rfl, hi, he.same k6, by simp only [mks, List.length_map]; decide, fun b7 hb7 => ?_⟩
      obtain ⟨x7, k7, el7⟩ := mark_step (ks := [22, 23, 24]) k6 l0 el6 hb7
      refine ⟨l, b7, _, _, rfl, rfl, x7, upd_same, by simp only [mks, List.length_map, List.length_append]; decide, ?_⟩
      refine ⟨_, rfl, a, i, v, rfl, hi, he.same k7, by simp only [mks, List.length_map]; decide, fun b hb => ?_⟩
      have sb := same_new (o := .lst ((mks i [25, 26]).map V.bl)) hb
      refine ⟨l, b, _, _, rfl, rfl, sb _ _ el7, upd_same, by simp only [mks, List.length_map, List.length_append]; decide, fun p hp => ?_⟩
      refine k p _ ((k7.trans sb).trans (same_new hp)) ((k7.trans sb).free hp) ?_
      rw [upd_same]
      simp only [mks, ← List.map_append]
      rfl
end
end K78

namespace K78
open PySem PySem.Spec PyProof.Rows L2 GD
/-- enumerate of a list that stays -/
theorem for_enum {K : PySem.W.Frag} {a : Addr} {xs : List V} {g : TG} {tb : TS} {D : Ends} {σ : L2.St} {H : Hp} (Pv : Nat → L2.St → Hp → Prop) (h0 : Pv 0 σ H) (hl : ∀ i σ H, i ≤ xs.length → Pv i σ H → SqL K H a xs)
    (hs : ∀ i x T σ H, xs[i]? = some x → Pv i σ H → H T = none → g (.ref T) σ (upd H T (.tup [.int (i : Nat), x])) fun σ2 H2 => tb { D with nx := Pv (i + 1), ct := Pv (i + 1), bk := D.nx } σ2 H2) (hd : ∀ σ H, Pv xs.length σ H → D.nx σ H) :
    ∃ W : Nat → Nat → L2.St → Hp → Prop, (∃ m, W 0 m σ H) ∧ ∀ i m σ H, W i m σ H →
      ((Ite K a).stop i H ∧ D.nx σ H) ∨ ((Ite K a).go i H ∧ ∃ N : L2.St → Hp → Prop, (∀ σ' H', N σ' H' → ∃ m', m' < m ∧ W (i + 1) m' σ' H') ∧ ∀ x H', (Ite K a).yld i H x H' → g x σ H' fun σ2 H2 => tb { D with nx := N, ct := N, bk := D.nx } σ2 H2) := by
  refine ⟨fun i m σ H => m = xs.length - i ∧ i ≤ xs.length ∧ Pv i σ H, ⟨xs.length, by simp, Nat.zero_le _, h0⟩, ?_⟩
  rintro i m σ H ⟨rfl, hi, p⟩
  have q := hl i σ H hi p
  by_cases hlt : i < xs.length
  · refine .inr ⟨⟨xs, xs[i], q, by simp [hlt]⟩, Pv (i + 1), fun σ' H' p' => ⟨xs.length - (i + 1), by omega, rfl, hlt, p'⟩, fun x H' y => ?_⟩
    obtain ⟨T, x0, rfl, hT, rfl, hx⟩ := y
    exact hs i x0 T σ H (hx xs q) p hT
  · have e : i = xs.length := by omega
    subst e
    exact .inl ⟨⟨xs, q, Nat.le_refl _⟩, hd σ H p⟩
theorem ite_dec {α : Type} [DecidableEq α] {x : α} {A B : Prop} (h : A) : if decide (x = x) = true then A else B := by
  rw [if_pos (decide_eq_true rfl)]
  exact h
theorem canLay_bools : ∀ bs : List Bool, PyData.canLayAll0 (bs.map PyData.bool) = true
  | [] => by simp [PyData.canLayAll0]
  | b :: bs => by simp [PyData.canLayAll0, PyData.canLay0, canLay_bools bs]
theorem depth_bools : ∀ bs : List Bool, PyData.depthAll (bs.map PyData.bool) = 0
  | [] => by simp [PyData.depthAll]
  | b :: bs => by simp [PyData.depthAll, PyData.depth, depth_bools bs]
theorem shaped_bools (bs : List Bool) : SeqAt.shaped (.list (bs.map PyData.bool)) = true := by
  unfold SeqAt.shaped
  rw [Bool.and_eq_true]
  exact ⟨by simp [PyData.canLay0, canLay_bools], decide_eq_true (by simp [PyData.depth, depth_bools])⟩
theorem dpAll_bools {K : PySem.W.Frag} {H : Hp} : ∀ bs : List Bool, DpAll K H (bs.map V.bl) (bs.map PyData.bool)
  | [] => .nil
  | b :: bs => .cons (.bl b) (dpAll_bools bs)
theorem eqv_bools (bs : List Bool) : PyData.eqv (.list (bs.map PyData.bool)) (.list (bs.map PyData.bool)) = true := SeqAt.eqv_refl _ (SeqAt.canLay_of_shaped (shaped_bools bs))
def spRight : Sp := fun vs H Q _ => ∃ a : Addr, vs = [.ref a] ∧ PotAt H a 0 ∧ ∀ H', Keep a H H' → Q (.bl true) H'
structure TxtR (mg : Str → Option Value) : Prop where
  isi : mg "isinstance" = none
  ve : mg "ValueError" = none
  rep : mg "repr" = none
  enu : mg "enumerate" = none
  any : mg "any" = none
section
variable {P : Program} {w : World} {K : PySem.W.Frag} {mg : Str → Option Value} {base : Heap} {c : Nat → Addr} {fI fT fO fD fM fK : Addr} {fd fdI fdT fdO fdD fdM fdK : FuncData}
abbrev NR : List Str := ["_law_pot_here", "_law_value", "_law_made_here", "_law_spot", "_law_error", "_law_base", "_law_at"]
theorem scR : FnScope NR ["_law_pot_here"] (defScope sRight) := ⟨rfl, rfl, rfl, by decide +kernel, rfl, by decide +kernel, by decide +kernel⟩
theorem ok_right {f : Addr} (F : Fun K "_law_right" "_law_right" sRight f fd) (TA : TxtA mg) (T : TxtC K mg c fI) (TR : TxtR mg)
    (FI : Fun K "__init__" "StockError.__init__" sInit fI fdI) (bI : Binds K fdI ["self", "value"] [])
    (FT : Fun K "_law_take" "_law_take" sTake fT fdT) (gT : mg "_law_take" = some (.ref fT)) (bT : Binds K fdT ["_law_pot_here", "_law_upto"] [])
    (FO : Fun K "_law_of" "_law_of" sOf fO fdO) (gO : mg "_law_of" = some (.ref fO)) (bO : Binds K fdO ["_law_pot_here", "_law_some"] [])
    (FD : Fun K "_law_odd" "_law_odd" sOdd fD fdD) (gD : mg "_law_odd" = some (.ref fD)) (bD : Binds K fdD ["_law_pot_here"] [])
    (FM : Fun K "_law_made" "_law_made" sMade fM fdM) (gM : mg "_law_made" = some (.ref fM)) (bM : Binds K fdM ["_law_value"] [])
    (FK : Fun K "_law_marks" "_law_marks" sMarks fK fdK) (gK : mg "_law_marks" = some (.ref fK)) (bK : Binds K fdK ["_law_error"] []) :
    FnG P w K mg base 5 f fd ["_law_pot_here"] spRight := by
  have GI : FnOk P w K mg base CX0 1 fI fdI ["self", "value"] (spInit K) := ok_init FI
  have GO : FnOk P w K mg base CX0 2 fO fdO ["_law_pot_here", "_law_some"] (spOf K) := ok_of FO TA FT gT bT
  have GD : FnOk P w K mg base CX0 3 fD fdD ["_law_pot_here"] spOdd := ok_odd FD TA FO gO bO FT gT bT
  have GM : FnOk P w K mg base CX0 4 fM fdM ["_law_value"] (spMade c) := ok_made FM T FI bI
  have GK : FnOk P w K mg base CX0 1 fK fdK ["_law_error"] (spMarks c) := ok_marks FK T TR.isi
  refine fnG_of F scR (fun vs H Q E h => ?_) (fun cdv A outer s H vs Q hgu hr h => ?_)
  · obtain ⟨a, rfl, _⟩ := h
    rfl
  · obtain ⟨a, rfl, hp, k⟩ := h
    have hr3 : Room 3 _ := hr.mono (by decide)
    have hr2 : Room 2 _ := hr.mono (by decide)
    have hr1 : Room 1 _ := hr.mono (by decide)
    have hu := hr.units
    refine ⟨_, pss_cons (ps_set (i := 1) scR.nd rfl (.inl rfl) (pe_call GO hr2 rfl gO FO.kp bO .nil pass0 (pa_cons (pv 0) (pa_cons (pe_lst
          (pa_cons (pe_call GD hr3 rfl gD FD.kp bD .nil pass0 (pa_cons (pv 0) pa_nil))
          (pa_cons (pe_tup (pa_cons (pe_call GD hr3 rfl gD FD.kp bD .nil pass0 (pa_cons (pv 0) pa_nil)) (pa_cons pe_int pa_nil)))
          (pa_cons (pe_lstN (pa_cons (pe_call GD hr3 rfl gD FD.kp bD .nil pass0 (pa_cons (pv 0) pa_nil)) pa_nil))
          (pa_cons (pe_disp (pps_cons pe_str (pe_call GD hr3 rfl gD FD.kp bD .nil pass0 (pa_cons (pv 0) pa_nil)) pps_nil) (by rfl) (by rfl) (fun z => by cases z) (by show 1 ≤ 15; decide)) pa_nil))))) pa_nil))))
      (pss_cons (ps_set (i := 2) scR.nd rfl (.inl rfl) (pe_call GM hr rfl gM FM.kp bM .nil pass0 (pa_cons (pv 1) pa_nil)))
      (pss_cons (ps_for PassesOwn.never rfl (pi_enum (by rfl) TR.enu (pa_cons (pv 2) pa_nil)) (pg_tup rfl (pgs_cons (pg_name (i := 3) scR.nd rfl (.inr rfl)) (pgs_cons (pg_name (i := 4) scR.nd rfl (.inl rfl)) pgs_nil)))
        (pss_cons (ps_if (PW.pt (pw_or (pt_not (pt_val (pe_callB call_isErr (by rfl) TR.isi (by decide +kernel) (pa_cons (pv 4) (pa_cons (pe_glob (v := .ref (c 27)) (by rfl) (T.g 27 (by decide)) rfl) pa_nil)))))
            (pw_or1 (pt_not (pt_val (pe_callB call_isErr (by rfl) TR.isi (by decide +kernel) (pa_cons (pv 4) (pa_cons (pe_bltn (v := .ty "ValueError") (by rfl) TR.ve PyProof.Rows.Boot.«ValueError» rfl) pa_nil)))))))) (pss_one (ps_ret pe_bl)) pss_nil)
        (pss_one (ps_if (PW.pt (pw_or (pt_cmpR op_ne (pe_callB (call_reprS hgu hu) (by rfl) TR.rep (by decide +kernel) (pa_cons (pe_val (pv 4)) pa_nil)) (pe_callB (call_reprS hgu hu) (by rfl) TR.rep (by decide +kernel) (pa_cons (pv 1) pa_nil)) (nomark _))
            (pw_or1 (pt_cmpR (op_neD hu) (pe_call GK hr1 rfl gK FK.kp bK .nil pass0 (pa_cons (pv 4) pa_nil))
              (pe_lc (own := [("_law_at", 6)]) (g := gName 6) (tt := tYes) rfl scR.nd (pi_range1 (by rfl) TA.range (pa_cons (pe_callB call_len_seq (by rfl) TA.len PySem.boot_len (pa_cons (pv 2) pa_nil)) pa_nil)) (blkOk_by (N := NR) (sc := defScope sRight) (by decide +kernel))
                (fun _ _ _ _ _ => pg_name (i := 6) scR.nd rfl (.inl rfl)) (fun _ _ _ _ _ => pts_nil) (fun _ _ _ _ _ => pe_cmpR op_eq (pv 3) (pv 6) (nomark _))) (nomark _))))) (pss_one (ps_ret pe_bl)) pss_nil))))
      (pss_cons (ps_set (i := 5) scR.nd rfl (.inl rfl) (pe_mkErr (T.ec 27 (by decide)) T.tI GI hr2 bI (by rfl) (T.g 27 (by decide)) (pa_cons (pv 1) pa_nil)))
      (pss_one (ps_ret (pe_and (pe_cmpR op_eq (pe_callB (call_reprS hgu hu) (by rfl) TR.rep (by decide +kernel) (pa_cons (pe_val (pv 5)) pa_nil)) (pe_callB (call_reprS hgu hu) (by rfl) TR.rep (by decide +kernel) (pa_cons (pv 1) pa_nil)) (nomark _))
        (pe_and (pe_callB call_isErr (by rfl) TR.isi (by decide +kernel) (pa_cons (pv 5) (pa_cons (pe_bltn (v := .ty "ValueError") (by rfl) TR.ve PyProof.Rows.Boot.«ValueError» rfl) pa_nil)))
        (pe_one (pe_not (pe_callB (cr_any rfl) (by rfl) TR.any (by decide +kernel) (pa_cons (pe_call GK hr1 rfl gK FK.kp bK .nil pass0 (pa_cons (pv 5) pa_nil)) pa_nil))))))))))), ?_⟩
    refine ⟨_, rfl, _, rfl, a, 0, rfl, hp, by decide, fun v1 d1 H1 m1 p1 k1 b1 => ?_⟩
    obtain ⟨o0, ha⟩ := hp.there
    obtain ⟨o1, ha1⟩ := p1.there
    have B1 := bes_of ha b1
    refine ⟨_, rfl, a, 1, rfl, p1, by decide, fun v2 d2 H2 m2 p2 k2 b2 => ?_⟩
    have B2 := bes_of ha1 b2
    refine ⟨(by show 2 ≤ sizeLine; decide), fun t ht => ?_⟩
    have st := same_new (o := .tup [v2, .int 3]) ht
    have p2' := p2.same st
    obtain ⟨o2, ha2⟩ := p2.there
    have nta : t ≠ a := fun z => by
      rw [z, ha2] at ht
      cases ht
    refine ⟨_, rfl, a, 2, rfl, p2', by decide, fun v3 d3 H3 m3 p3 k3 b3 => ?_⟩
    have B3 := bes_of (st _ _ ha2) b3
    refine ⟨(by show 1 ≤ sizeLine; decide), fun q hq nq => ?_⟩
    have sq := same_new (o := .lst [v3]) hq
    have p3' := p3.same sq
    obtain ⟨o3, ha3⟩ := p3.there
    have nqa : q ≠ a := fun z => by
      rw [z, ha3] at hq
      cases hq
    refine fun r hr' => ?_
    have sr := same_new (o := .dK []) hr'
    have ha4 := sq _ _ ha3
    have nra : r ≠ a := fun z => by
      rw [z, ha4] at hr'
      cases hr'
    refine ⟨_, rfl, a, 3, rfl, p3'.same sr, by decide, fun v4 d4 H5 m4 p4 k4 b4 => ?_⟩
    have e5 := k4 _ _ nra (upd_same (H := upd H3 q (.lst [v3])) (a := r) (o := .dK []))
    refine ⟨e5, [(.inr "a", v4)], rfl, (by show 1 ≤ 15; decide), (by show 4 ≤ sizeLine; decide), fun l hl => ?_⟩
    have k36 : Keep a (upd H3 q (.lst [v3])) (upd H5 r (.dK [(.inr "a", v4)])) := fun b o nb e => by
      rw [upd_ne (ne_of_none e hr')]
      exact k4 b o nb (sr b o e)
    have B4 : Bes a (upd H5 r (.dK [(.inr "a", v4)])) v4 d4 := b4.same fun b o e => by
      obtain ⟨h1, h2⟩ := minus_some.mp e
      have n1 : b ≠ r := fun z => by
        rw [z, upd_same] at h1
        cases h1
      have n2 : b ≠ a := fun z => by
        rw [z, sr _ _ ha4] at h1
        cases h1
      exact del_some.mpr ⟨n2, by rw [upd_ne n1]; exact h2⟩
    have sl := same_new (o := .lst [v1, .ref t, .ref q, .ref r]) hl
    have K3 : Keep a H3 _ := (sKeep sq).trans (k36.trans (sKeep sl))
    have K2 : Keep a H2 _ := (sKeep st).trans (k3.trans K3)
    have K1 : Keep a H1 _ := k2.trans K2
    obtain ⟨o6, ha6⟩ := (p4.upd_ne (o := .dK [(.inr "a", v4)]) nra).there
    have nla : l ≠ a := fun z => by
      rw [z] at hl
      rw [show upd H5 r (.dK (mergeK [] [(.inr "a", v4)])) a = some o6 from ha6] at hl
      cases hl
    refine ⟨a, l, _, 4, rfl, (p4.upd_ne nra).same sl, by decide, nla, upd_same, by simp, by show 4 ≤ 1000; decide, fun v H' hv hP kp => ?_⟩
    have nice : ∃ d, NiceD d ∧ Sh H' v d := by
      simp only [List.mem_cons, List.not_mem_nil, or_false] at hv
      rcases hv with rfl | rfl | rfl | rfl
      · exact ⟨d1, nice_wrap m1 (by simp [wraps]), ((B1.keep K1).keep kp).all⟩
      · have z : Bes a (upd H2 t (.tup [v2, .int 3])) (.ref t) (.tuple [d2, dI 3]) := .tup (del_some.mpr ⟨nta, upd_same⟩) (.cons (B2.keep (sKeep st)) (.cons (.int 3) .nil))
        exact ⟨_, nice_wrap m2 (by simp [wraps]), ((z.keep (k3.trans K3)).keep kp).all⟩
      · have z : Bes a (upd H3 q (.lst [v3])) (.ref q) (.list [d3]) := .lst (del_some.mpr ⟨nqa, upd_same⟩) nq (.cons (B3.keep (sKeep sq)) .nil)
        exact ⟨_, nice_wrap m3 (by simp [wraps]), ((z.keep (k36.trans (sKeep sl))).keep kp).all⟩
      · have z : Bes a (upd H5 r (.dK [(.inr "a", v4)])) (.ref r) (.dict [(dS "a", d4)]) := .dct (kvs := [(.inr "a", v4)]) (del_some.mpr ⟨nra, upd_same⟩) (.cons (.str _) .nil) (.cons B4 .nil)
        exact ⟨_, nice_wrap m4 (by simp [wraps]), ((z.keep (sKeep sl)).keep kp).all⟩
    obtain ⟨d, nd, sh⟩ := nice
    have KF : Keep a H H' := k1.trans (K1.trans kp)
    clear hv B4 B1 B2 B3 b1 b2 b3 b4 k36 sl K3 K2 K1 e5 sr sq st hr' ha4 hq nq p3' ha3 nqa nra p4 k4 hl p3 k3 m1 m2 m3 m4 p1 k1 ha ha1 p2 k2 ht p2' ha2 nta hP kp ha6 nla
    refine ⟨_, rfl, v, rfl, fun l2 es H2' s2 n2 el er => ?_⟩
    have zes : es.length = 27 := (Paired.length er).trans (by decide)
    refine ⟨_, rfl, l2, _, rfl, SqL.of el, for_enum (K := K) (a := l2) (xs := es.map V.ref) (fun i σ H'' => ∃ x3 x4 : Option V, σ = [some (.ref a), some v, some (.ref l2), x3, x4, none, none] ∧ Same H2' H'')
      ⟨none, none, rfl, Same.refl _⟩ (fun i σ H'' _ ⟨_, _, _, sm⟩ => SqL.of (sm _ _ el)) ?_ ?_⟩
    · rintro i x T' σ H'' hi ⟨x3, x4, rfl, sm⟩ hT
      obtain ⟨e, he, rfl⟩ : ∃ e, es[i]? = some e ∧ x = V.ref e := by
        rw [List.getElem?_map] at hi
        cases z : es[i]? with
        | none =>
          rw [z] at hi
          cases hi
        | some e =>
          rw [z] at hi
          exact ⟨e, rfl, (Option.some.inj hi).symm⟩
      have hi27 : i < 27 := by
        have z := (List.getElem?_eq_some_iff.mp he).1
        omega
      obtain ⟨j, hj, ea⟩ := er.get he
      have ej : i = j := by
        rw [List.getElem?_range hi27] at hj
        exact Option.some.inj hj
      subst ej
      have sT := same_new (o := .tup [.int (i : Nat), .ref e]) hT
      have ea' := (ea.same sm).same sT
      have sh' := (sh.same s2).same (sm.trans sT)
      have ec := T.ec i (by omega)
      have kit27 : PySem.W.kitOne K (.ref (c i)) (.ref (c 27)) = some true := by
        rw [T.kit (by omega) (by decide)]
        simp
      refine ⟨T', _, rfl, SqT.of upd_same, rfl, _, _, rfl, _, _, rfl, rfl, ?_⟩
      refine ⟨_, rfl, e, c i, fI, v, _, _, true, rfl, ec, ea', .own _, kit27, true, rfl, ?_⟩
      refine iteF ?_
      refine ⟨_, rfl, e, c i, fI, v, _, _, true, rfl, ec, ea', .ty _, T.kitV (by omega), true, rfl, ?_⟩
      refine iteF ?_
      refine ⟨_, rfl, e, c i, fI, v, rfl, ec, ea', v, d, rfl, sh', nd, _, rfl, v, d, rfl, sh', nd, rfl, _, rfl, ?_⟩
      refine iteNS rfl ?_
      refine ⟨_, rfl, e, i, v, rfl, by omega, ea', fun m H3' s3 n3 em => ?_⟩
      refine ⟨_, rfl, l2, _, rfl, .inl (SqL.of (s3 _ _ (sT _ _ (sm _ _ el)))), _, rfl, ?_, ?_, fun D hD => ?_⟩
      · rw [List.length_map, zes]
        decide
      · rw [List.length_map, zes]
        decide
      · rw [List.length_map, zes]
        refine lc_range (lo := 0) (n := 27) (fun i' H' => Same H3' H' ∧ H' D = some (.lst ((mks i (List.range i')).map V.bl))) ⟨same_new hD, upd_same⟩ ?_ ?_
        · rintro i' Hx hlt ⟨sx, eD⟩
          refine ⟨rfl, _, rfl, _, rfl, rfl, _, eD, ?_, ?_, ?_⟩
          · rw [List.length_map, mks, List.length_map, List.length_range]
            exact Nat.lt_trans hlt (by decide)
          · intro b' o' e'
            have nb : b' ≠ D := ne_of_none e' hD
            rw [upd_ne nb]
            exact sx _ _ e'
          · rw [upd_same]
            have ed : decide (V.int (i : Nat) = V.int (0 + (i' : Nat))) = decide (i = i') := decide_eq_decide.mpr ⟨fun z => by
              have z2 := V.int.inj z
              omega, fun z => by rw [z, Int.zero_add]⟩
            rw [ed, mks, mks, List.range_succ, List.map_append, List.map_append]
            rfl
        · rintro Hx ⟨sx, eD⟩
          refine ⟨_, _, .lst (SqL.of (sx _ _ em)) (dpAll_bools _), .lst (SqL.of eD) (dpAll_bools _), shaped_bools _, shaped_bools _, _, rfl, ?_⟩
          rw [eqv_bools]
          refine iteF ?_
          exact ⟨_, _, rfl, ((sm.trans sT).trans s3).trans sx⟩
    · rintro σ H'' ⟨x3, x4, rfl, sm⟩
      refine ⟨_, rfl, v, rfl, fun b H3' nb s3 eb => ?_⟩
      have sh' := ((sh.same s2).same sm).same s3
      refine ⟨_, rfl, b, c 27, fI, v, rfl, T.ec 27 (by decide), eb, v, d, rfl, sh', nd, _, rfl, v, d, rfl, sh', nd, rfl, _, rfl, ?_⟩
      refine ite_dec ?_
      refine ⟨_, rfl, b, c 27, fI, v, _, _, true, rfl, T.ec 27 (by decide), eb, .ty _, T.kitV (by decide), true, rfl, iteT ?_⟩
      refine ⟨_, rfl, b, 27, v, rfl, by decide, eb, fun m H4' s4 n4 em => ?_⟩
      refine ⟨m, mks 27 (List.range 27), rfl, SqL.of em, _, rfl, ?_⟩
      have z : (!(mks 27 (List.range 27)).any id) = true := by decide
      rw [z]
      exact k _ (KF.trans (sKeep ((s2.trans sm).trans (s3.trans s4))))
end
end K78

namespace K78
open PySem PySem.Spec PyProof.Rows L2 GD
def spLaw (K : PySem.W.Frag) : Sp := fun vs H Q _ => ∃ (s : Addr) (ns : List Int), vs = [.ref s] ∧ SqL K H s (ns.map V.int) ∧ ∀ H', Q (.bl true) H'
section
variable {P : Program} {w : World} {K : PySem.W.Frag} {mg : Str → Option Value} {base : Heap} {c : Nat → Addr} {fR fP fC : Addr} {fd fdR fdP fdC : FuncData}
theorem scW : FnScope ["_law_script", "_law_place"] ["_law_script"] (defScope sLaw) := ⟨rfl, rfl, rfl, by decide +kernel, rfl, by decide +kernel, by decide +kernel⟩
theorem ok_law {f : Addr} (F : Fun K "law" "law" sLaw f fd) (TA : TxtA mg) (nAll : mg "all" = none)
    (GR : FnG P w K mg base 5 fR fdR ["_law_pot_here"] spRight) (gR : mg "_law_right" = some (.ref fR)) (kR : PySem.W.keepIn K (.ref fR) = true) (bR : Binds K fdR ["_law_pot_here"] [])
    (FP : Fun K "_law_pot" "_law_pot" sPot fP fdP) (gP : mg "_law_pot" = some (.ref fP)) (bP : Binds K fdP ["_law_script", "_law_place"] [])
    (FC : Fun K "_law_cells" "_law_cells" sCells fC fdC) (gC : mg "_law_cells" = some (.ref fC)) (bC : Binds K fdC ["_law_script", "_law_most"] []) :
    FnG P w K mg base 6 f fd ["_law_script"] (spLaw K) := by
  have GP : FnOk P w K mg base CX0 1 fP fdP ["_law_script", "_law_place"] (spPot K) := ok_pot FP TA
  have GC : FnOk P w K mg base CX0 1 fC fdC ["_law_script", "_law_most"] (spCells K) := ok_cells FC TA
  refine fnG_of F scW (fun vs H Q E h => ?_) (fun cdv A outer s H vs Q hgu hr h => ?_)
  · obtain ⟨a, ns, rfl, _⟩ := h
    rfl
  · obtain ⟨a, ns, rfl, hs, k⟩ := h
    have hr1 : Room 1 _ := hr.mono (by decide)
    refine ⟨_, pss_one (ps_ret (pe_callB (cr_all rfl) (by rfl) nAll (by decide +kernel) (pa_cons (pe_lc (own := [("_law_place", 1)]) (g := gName 1) (tt := tYes) rfl scW.nd
      (pi_list (pe_call GC hr1 rfl gC FC.kp bC .nil pass0 (pa_cons (pv 0) (pa_cons pe_int pa_nil)))) (blkOk_by (N := ["_law_script", "_law_place"]) (sc := defScope sLaw) (by decide +kernel))
      (fun _ _ _ _ _ => pg_name (i := 1) scW.nd rfl (.inl rfl)) (fun _ _ _ _ _ => pts_nil)
      (fun _ _ _ _ _ => pe_callG GR hgu hr (by rfl) gR kR bR (pa_cons (pe_call GP hr1 rfl gP FP.kp bP .nil pass0 (pa_cons (pv 0) (pa_cons (pv 1) pa_nil))) pa_nil))) pa_nil))), ?_⟩
    refine ⟨_, rfl, a, ns, 6, rfl, hs, by decide, by decide, fun p n hp h0 h6 => ?_⟩
    have sp := same_new (o := .lst (rgV 0 n)) hp
    have zl : (rgV 0 n).length ≤ 6 := by
      rw [rgV_length]
      omega
    refine ⟨p, rfl, ⟨_, SqL.of upd_same⟩, fun D hD => ?_⟩
    refine lc_list (K := K) (a := p) (xs := rgV 0 n) (fun i H' => Same (upd H p (.lst (rgV 0 n))) H' ∧ H' D = some (.lst ((List.replicate i true).map V.bl))) ⟨same_new hD, upd_same⟩ (fun i H' _ ⟨s1, _⟩ => SqL.of (s1 _ _ upd_same)) ?_ ?_
    · rintro i x H' hi ⟨s1, eD⟩
      have hlt := (List.getElem?_eq_some_iff.mp hi).1
      obtain ⟨pl, rfl, p0, p1⟩ : ∃ pl : Int, x = .int pl ∧ 0 ≤ pl ∧ pl ≤ 1000 := by
        unfold rgV at hi hlt
        rw [List.length_map, List.length_range] at hlt
        rw [List.getElem?_map, List.getElem?_range hlt] at hi
        refine ⟨0 + (i : Nat), (Option.some.inj hi).symm, by omega, by omega⟩
      refine ⟨rfl, _, rfl, _, rfl, a, ns, pl, rfl, (s1.seq (sp.seq hs)), p0, p1, fun q H2 nq pq s2 => ?_⟩
      refine ⟨q, rfl, pq, fun H3 k3 => ?_⟩
      have nDq : D ≠ q := ne_of_none eD nq
      have eD3 := k3 _ _ nDq (s2 _ _ eD)
      refine ⟨_, eD3, ?_, fun b o e => ?_, ?_⟩
      · rw [List.length_map, List.length_replicate]
        exact Nat.lt_of_lt_of_le (Nat.lt_of_lt_of_le hlt zl) (by decide)
      · have nb : b ≠ D := ne_of_none e hD
        have e1 := s1 _ _ e
        have nbq : b ≠ q := ne_of_none e1 nq
        rw [upd_ne nb]
        exact k3 _ _ nbq (s2 _ _ e1)
      · rw [upd_same, List.replicate_succ', List.map_append]
        rfl
    · rintro H' ⟨s1, eD⟩
      refine ⟨D, _, rfl, SqL.of eD, ?_⟩
      have z : (List.replicate (rgV 0 n).length true).all id = true := by simp
      rw [z]
      exact k _
end
end K78

namespace K78
open PySem PySem.Spec PyProof.Rows L2 GD
def cad : List Addr := [44, 56, 68, 80, 92, 104, 116, 128, 140, 152, 164, 176, 188, 200, 212, 224, 236, 248, 260, 272, 284, 296, 308, 320, 332, 344, 356]
def cl (i : Nat) : Addr := cad.getD i 31
def vt : List Value := [.type "ValueError", .type "Exception", .type "BaseException", .type "object"]
def mroL (i : Nat) : List Value := if i < 27 then .ref (cl i) :: .ref 31 :: vt else .ref 31 :: vt
theorem mro_has : ∀ i, i < 28 → ∀ j, j < 28 → (mroL i).contains (.ref (cl j)) = decide (i = j ∨ j = 27) := by decide +kernel
theorem mro_ve : ∀ i, i < 28 → (mroL i).contains (.type "ValueError") = true := by decide +kernel
theorem mro_ne : ∀ i, i < 28 → (mroL i).isEmpty = false := by decide +kernel
/-- one class: what is read of it -/
def One (K : PySem.W.Frag) (mg : Str → Option Value) (i : Nat) : Prop := EC K (cl i) 28 ∧ PySem.W.nsIn K mainGlobals (nm i) = some (some (.ref (cl i))) ∧ ∃ cd, PySem.W.clsIn K (cl i) = some cd ∧ cd.mro = mroL i
theorem txt_of {K : PySem.W.Frag} {h : Heap} {mg : Str → Option Value} (X : K.In h) (G : h.Ns mainGlobals mg) (o : ∀ i, i < 28 → One K mg i) (tI : PySem.W.typeIn K (.ref 28) = some (.type "function")) : TxtC K mg cl 28 where
  ec := fun i hi => (o i hi).1
  g := fun i hi => PySem.W.mg_of X G (o i hi).2.1
  tI := tI
  ty := fun i hi => (o i hi).1.ox.tyC
  sub := fun i j hi hj => by
    obtain ⟨_, _, cd, h1, h2⟩ := o i hi
    show (PySem.W.clsIn K (cl i)).bind (fun cd => if cd.mro.isEmpty then none else some (cd.mro.contains (.ref (cl j)))) = _
    rw [h1, Option.bind_some, h2, mro_ne i hi, mro_has i hi j hj]
    rfl
  ve := fun i hi => by
    obtain ⟨_, _, cd, h1, h2⟩ := o i hi
    show (PySem.W.clsIn K (cl i)).bind (fun cd => if cd.mro.isEmpty then none else some (cd.mro.contains (.type "ValueError"))) = _
    rw [h1, Option.bind_some, h2, mro_ne i hi, mro_ve i hi]
    rfl
/-- a def of the module as it is read -/
def Df (K : PySem.W.Frag) (x : Str) (st : Stmt) : Prop := ∃ f oc od an osl kV doc pm cdv ct, PySem.W.nsIn K mainGlobals x = some (some (.ref f)) ∧
  K.lookup f = some ⟨oc, od, .func (PySem.W.fnOf x x (defArgs st) (defBody st) (defScope st) .none kV doc pm an cdv ct), osl⟩ ∧ PySem.W.codeIn K cdv x = true ∧ PySem.W.keepIn K (.ref f) = true
theorem fin_mk {P : Program} {w : World} {K : PySem.W.Frag} {h : Heap} {mg : Str → Option Value} {fa : Addr} (X : K.In h) (G : h.Ns mainGlobals mg) (hfa : mg "law" = some (.ref fa))
    (o : ∀ i, i < 28 → One K mg i) (tI : PySem.W.typeIn K (.ref 28) = some (.type "function"))
    {oc : Value} {od an : Option Addr} {osl : Array (Option Value)} {kV doc pm cdv ct : Value}
    (iL : K.lookup 28 = some ⟨oc, od, .func (PySem.W.fnOf "__init__" "StockError.__init__" (defArgs sInit) (defBody sInit) (defScope sInit) .none kV doc pm an cdv ct), osl⟩) (iC : PySem.W.codeIn K cdv "StockError.__init__" = true) (iK : PySem.W.keepIn K (.ref 28) = true)
    (dP : Df K "_law_pot" sPot) (dT : Df K "_law_take" sTake) (dO : Df K "_law_of" sOf) (dC : Df K "_law_cells" sCells) (dD : Df K "_law_odd" sOdd) (dM : Df K "_law_made" sMade) (dK : Df K "_law_marks" sMarks) (dR : Df K "_law_right" sRight) (dL : Df K "law" sLaw)
    (n1 : PySem.W.nsIn K mainGlobals "len" = some none) (n2 : PySem.W.nsIn K mainGlobals "abs" = some none) (n3 : PySem.W.nsIn K mainGlobals "int" = some none) (n4 : PySem.W.nsIn K mainGlobals "max" = some none) (n5 : PySem.W.nsIn K mainGlobals "min" = some none)
    (n6 : PySem.W.nsIn K mainGlobals "list" = some none) (n7 : PySem.W.nsIn K mainGlobals "range" = some none) (n8 : PySem.W.nsIn K mainGlobals "isinstance" = some none) (n9 : PySem.W.nsIn K mainGlobals "ValueError" = some none)
    (na : PySem.W.nsIn K mainGlobals "repr" = some none) (nb : PySem.W.nsIn K mainGlobals "enumerate" = some none) (nc : PySem.W.nsIn K mainGlobals "any" = some none) (nd : PySem.W.nsIn K mainGlobals "all" = some none) :
    ∃ fd : FuncData, (∀ (s : Shared) (u : Value), BindsTo s fd ⟨[u], []⟩ [("_law_script", u)]) ∧ ∀ base : Heap, K.In base → base.Ns mainGlobals mg → FnG P w K mg base 6 fa fd ["_law_script"] (spLaw K) := by
  have Z : ∀ {x : Str}, PySem.W.nsIn K mainGlobals x = some none → mg x = none := fun e => PySem.W.mg_none_of X G e
  have TA : TxtA mg := ⟨Z n1, Z n2, Z n3, Z n4, Z n5, Z n6, Z n7⟩
  have TR : TxtR mg := ⟨Z n8, Z n9, Z na, Z nb, Z nc⟩
  have T := txt_of X G o tI
  have FI := fun_mk (st := sInit) iL iC iK
  have bI := FI.binds (ps := ["self", "value"]) fun _ _ _ _ _ _ us hl => match us, hl with | [_, _], _ => rfl
  obtain ⟨f1, _, _, _, _, _, _, _, _, _, g1, l1, c1, k1⟩ := dP
  obtain ⟨f2, _, _, _, _, _, _, _, _, _, g2, l2, c2, k2⟩ := dT
  obtain ⟨f3, _, _, _, _, _, _, _, _, _, g3, l3, c3, k3⟩ := dO
  obtain ⟨f4, _, _, _, _, _, _, _, _, _, g4, l4, c4, k4⟩ := dC
  obtain ⟨f5, _, _, _, _, _, _, _, _, _, g5, l5, c5, k5⟩ := dD
  obtain ⟨f6, _, _, _, _, _, _, _, _, _, g6, l6, c6, k6⟩ := dM
  obtain ⟨f7, _, _, _, _, _, _, _, _, _, g7, l7, c7, k7⟩ := dK
  obtain ⟨f8, _, _, _, _, _, _, _, _, _, g8, l8, c8, k8⟩ := dR
  obtain ⟨f9, _, _, _, _, _, _, _, _, _, g9, l9, c9, k9⟩ := dL
  have e := hfa.symm.trans (PySem.W.mg_of X G g9)
  cases e
  have F1 := fun_mk (st := sPot) l1 c1 k1
  have F2 := fun_mk (st := sTake) l2 c2 k2
  have F3 := fun_mk (st := sOf) l3 c3 k3
  have F4 := fun_mk (st := sCells) l4 c4 k4
  have F5 := fun_mk (st := sOdd) l5 c5 k5
  have F6 := fun_mk (st := sMade) l6 c6 k6
  have F7 := fun_mk (st := sMarks) l7 c7 k7
  have F8 := fun_mk (st := sRight) l8 c8 k8
  have F9 := fun_mk (st := sLaw) l9 c9 k9
  have b1 := F1.binds (ps := ["_law_script", "_law_place"]) fun _ _ _ _ _ _ us hl => match us, hl with | [_, _], _ => rfl
  have b2 := F2.binds (ps := ["_law_pot_here", "_law_upto"]) fun _ _ _ _ _ _ us hl => match us, hl with | [_, _], _ => rfl
  have b3 := F3.binds (ps := ["_law_pot_here", "_law_some"]) fun _ _ _ _ _ _ us hl => match us, hl with | [_, _], _ => rfl
  have b4 := F4.binds (ps := ["_law_script", "_law_most"]) fun _ _ _ _ _ _ us hl => match us, hl with | [_, _], _ => rfl
  have b5 := F5.binds (ps := ["_law_pot_here"]) fun _ _ _ _ _ _ us hl => match us, hl with | [_], _ => rfl
  have b6 := F6.binds (ps := ["_law_value"]) fun _ _ _ _ _ _ us hl => match us, hl with | [_], _ => rfl
  have b7 := F7.binds (ps := ["_law_error"]) fun _ _ _ _ _ _ us hl => match us, hl with | [_], _ => rfl
  have b8 := F8.binds (ps := ["_law_pot_here"]) fun _ _ _ _ _ _ us hl => match us, hl with | [_], _ => rfl
  have M : ∀ {x : Str} {f : Addr}, PySem.W.nsIn K mainGlobals x = some (some (.ref f)) → mg x = some (.ref f) := fun e => PySem.W.mg_of X G e
  exact ⟨_, fun s v => .of_eq rfl, fun base _ _ => ok_law F9 TA (Z nd) (ok_right F8 TA T TR FI bI F2 (M g2) b2 F3 (M g3) b3 F5 (M g5) b5 F6 (M g6) b6 F7 (M g7) b7) (M g8) k8 b8 F1 (M g1) b1 F4 (M g4) b4⟩
end K78

open PySem PySem.W PyProof.Rows in
set_option maxRecDepth 100000 in
set_option maxHeartbeats 0 in
theorem PySem.Challenge.cw_unseenstocks_k78_errors_keep_their_value_holds : PySem.Challenge.rw_unseenstocks_k78_errors_keep_their_value.Holds := by
  w_on; o_law; k_head; (case hw => w_witness2)
  k_fill
  refine GD.walkG (l := PySem.Challenge.rw_unseenstocks_k78_errors_keep_their_value) (n := 63) (k := 6) (x := "_law_script") (sp := K78.spLaw) rfl (by decide) rfl ⟨rfl, by decide, by decide⟩ (fun w h Y => PySem.W.kIn_of Y) ?F (fun K H a ns hl hS => ⟨a, ns, rfl, hS, fun _ => rfl⟩)
  case F =>
    intro w mg fa h KX G hmg
    refine' K78.fin_mk KX G hmg ?o ?tI ?iL ?iC ?iK ?dP ?dT ?dO ?dC ?dD ?dM ?dK ?dR ?dL ?n1 ?n2 ?n3 ?n4 ?n5 ?n6 ?n7 ?n8 ?n9 ?na ?nb ?nc ?nd
    case o =>
      intro i hi
      match i, hi with
      | 0, _ => exact ⟨⟨⟨⟨_, _, _, _, _, _, _, _, _, _, _, _, _, _, _, by k_is, by decide +kernel⟩, by k_is, by k_is, by k_is, by k_is⟩, by k_is, by k_is, by k_is, by k_is, by k_is, by k_is, by k_is, by k_is, by k_is⟩, by k_is, ⟨_, by k_is, rfl⟩⟩
      | 1, _ => exact ⟨⟨⟨⟨_, _, _, _, _, _, _, _, _, _, _, _, _, _, _, by k_is, by decide +kernel⟩, by k_is, by k_is, by k_is, by k_is⟩, by k_is, by k_is, by k_is, by k_is, by k_is, by k_is, by k_is, by k_is, by k_is⟩, by k_is, ⟨_, by k_is, rfl⟩⟩
      | 2, _ => exact ⟨⟨⟨⟨_, _, _, _, _, _, _, _, _, _, _, _, _, _, _, by k_is, by decide +kernel⟩, by k_is, by k_is, by k_is, by k_is⟩, by k_is, by k_is, by k_is, by k_is, by k_is, by k_is, by k_is, by k_is, by k_is⟩, by k_is, ⟨_, by k_is, rfl⟩⟩
      | 3, _ => exact ⟨⟨⟨⟨_, _, _, _, _, _, _, _, _, _, _, _, _, _, _, by k_is, by decide +kernel⟩, by k_is, by k_is, by k_is, by k_is⟩, by k_is, by k_is, by k_is, by k_is, by k_is, by k_is, by k_is, by k_is, by k_is⟩, by k_is, ⟨_, by k_is, rfl⟩⟩
      | 4, _ => exact ⟨⟨⟨⟨_, _, _, _, _, _, _, _, _, _, _, _, _, _, _, by k_is, by decide +kernel⟩, by k_is, by k_is, by k_is, by k_is⟩, by k_is, by k_is, by k_is, by k_is, by k_is, by k_is, by k_is, by k_is, by k_is⟩, by k_is, ⟨_, by k_is, rfl⟩⟩
      | 5, _ => exact ⟨⟨⟨⟨_, _, _, _, _, _, _, _, _, _, _, _, _, _, _, by k_is, by decide +kernel⟩, by k_is, by k_is, by k_is, by k_is⟩, by k_is, by k_is, by k_is, by k_is, by k_is, by k_is, by k_is, by k_is, by k_is⟩, by k_is, ⟨_, by k_is, rfl⟩⟩
      | 6, _ => exact ⟨⟨⟨⟨_, _, _, _, _, _, _, _, _, _, _, _, _, _, _, by k_is, by decide +kernel⟩, by k_is, by k_is, by k_is, by k_is⟩, by k_is, by k_is, by k_is, by k_is, by k_is, by k_is, by k_is, by k_is, by k_is⟩, by k_is, ⟨_, by k_is, rfl⟩⟩
      | 7, _ => exact ⟨⟨⟨⟨_, _, _, _, _, _, _, _, _, _, _, _, _, _, _, by k_is, by decide +kernel⟩, by k_is, by k_is, by k_is, by k_is⟩, by k_is, by k_is, by k_is, by k_is, by k_is, by k_is, by k_is, by k_is, by k_is⟩, by k_is, ⟨_, by k_is, rfl⟩⟩
      | 8, _ => exact ⟨⟨⟨⟨_, _, _, _, _, _, _, _, _, _, _, _, _, _, _, by k_is, by decide +kernel⟩, by k_is, by k_is, by k_is, by k_is⟩, by k_is, by k_is, by k_is, by k_is, by k_is, by k_is, by k_is, by k_is, by k_is⟩, by k_is, ⟨_, by k_is, rfl⟩⟩
      | 9, _ => exact ⟨⟨⟨⟨_, _, _, _, _, _, _, _, _, _, _, _, _, _, _, by k_is, by decide +kernel⟩, by k_is, by k_is, by k_is, by k_is⟩, by k_is, by k_is, by k_is, by k_is, by k_is, by k_is, by k_is, by k_is, by k_is⟩, by k_is, ⟨_, by k_is, rfl⟩⟩
      | 10, _ => exact ⟨⟨⟨⟨_, _, _, _, _, _, _, _, _, _, _, _, _, _, _, by k_is, by decide +kernel⟩, by k_is, by k_is, by k_is, by k_is⟩, by k_is, by k_is, by k_is, by k_is, by k_is, by k_is, by k_is, by k_is, by k_is⟩, by k_is, ⟨_, by k_is, rfl⟩⟩
      | 11, _ => exact ⟨⟨⟨⟨_, _, _, _, _, _, _, _, _, _, _, _, _, _, _, by k_is, by decide +kernel⟩, by k_is, by k_is, by k_is, by k_is⟩, by k_is, by k_is, by k_is, by k_is, by k_is, by k_is, by k_is, by k_is, by k_is⟩, by k_is, ⟨_, by k_is, rfl⟩⟩
      | 12, _ => exact ⟨⟨⟨⟨_, _, _, _, _, _, _, _, _, _, _, _, _, _, _, by k_is, by decide +kernel⟩, by k_is, by k_is, by k_is, by k_is⟩, by k_is, by k_is, by k_is, by k_is, by k_is, by k_is, by k_is, by k_is, by k_is⟩, by k_is, ⟨_, by k_is, rfl⟩⟩
      | 13, _ => exact ⟨⟨⟨⟨_, _, _, _, _, _, _, _, _, _, _, _, _, _, _, by k_is, by decide +kernel⟩, by k_is, by k_is, by k_is, by k_is⟩, by k_is, by k_is, by k_is, by k_is, by k_is, by k_is, by k_is, by k_is, by k_is⟩, by k_is, ⟨_, by k_is, rfl⟩⟩
      | 14, _ => exact ⟨⟨⟨⟨_, _, _, _, _, _, _, _, _, _, _, _, _, _, _, by k_is, by decide +kernel⟩, by k_is, by k_is, by k_is, by k_is⟩, by k_is, by k_is, by k_is, by k_is, by k_is, by k_is, by k_is, by k_is, by k_is⟩, by k_is, ⟨_, by k_is, rfl⟩⟩
      | 15, _ => exact ⟨⟨⟨⟨_, _, _, _, _, _, _, _, _, _, _, _, _, _, _, by k_is, by decide +kernel⟩, by k_is, by k_is, by k_is, by k_is⟩, by k_is, by k_is, by k_is, by k_is, by k_is, by k_is, by k_is, by k_is, by k_is⟩, by k_is, ⟨_, by k_is, rfl⟩⟩
      | 16, _ => exact ⟨⟨⟨⟨_, _, _, _, _, _, _, _, _, _, _, _, _, _, _, by k_is, by decide +kernel⟩, by k_is, by k_is, by k_is, by k_is⟩, by k_is, by k_is, by k_is, by k_is, by k_is, by k_is, by k_is, by k_is, by k_is⟩, by k_is, ⟨_, by k_is, rfl⟩⟩
      | 17, _ => exact ⟨⟨⟨⟨_, _, _, _, _, _, _, _, _, _, _, _, _, _, _, by k_is, by decide +kernel⟩, by k_is, by k_is, by k_is, by k_is⟩, by k_is, by k_is, by k_is, by k_is, by k_is, by k_is, by k_is, by k_is, by k_is⟩, by k_is, ⟨_, by k_is, rfl⟩⟩
      | 18, _ => exact ⟨⟨⟨⟨_, _, _, _, _, _, _, _, _, _, _, _, _, _, _, by k_is, by decide +kernel⟩, by k_is, by k_is, by k_is, by k_is⟩, by k_is, by k_is, by k_is, by k_is, by k_is, by k_is, by k_is, by k_is, by k_is⟩, by k_is, ⟨_, by k_is, rfl⟩⟩
      | 19, _ => exact ⟨⟨⟨⟨_, _, _, _, _, _, _, _, _, _, _, _, _, _, _, by k_is, by decide +kernel⟩, by k_is, by k_is, by k_is, by k_is⟩, by k_is, by k_is, by k_is, by k_is, by k_is, by k_is, by k_is, by k_is, by k_is⟩, by k_is, ⟨_, by k_is, rfl⟩⟩
      | 20, _ => exact ⟨⟨⟨⟨_, _, _, _, _, _, _, _, _, _, _, _, _, _, _, by k_is, by decide +kernel⟩, by k_is, by k_is, by k_is, by k_is⟩, by k_is, by k_is, by k_is, by k_is, by k_is, by k_is, by k_is, by k_is, by k_is⟩, by k_is, ⟨_, by k_is, rfl⟩⟩
      | 21, _ => exact ⟨⟨⟨⟨_, _, _, _, _, _, _, _, _, _, _, _, _, _, _, by k_is, by decide +kernel⟩, by k_is, by k_is, by k_is, by k_is⟩, by k_is, by k_is, by k_is, by k_is, by k_is, by k_is, by k_is, by k_is, by k_is⟩, by k_is, ⟨_, by k_is, rfl⟩⟩
      | 22, _ => exact ⟨⟨⟨⟨_, _, _, _, _, _, _, _, _, _, _, _, _, _, _, by k_is, by decide +kernel⟩, by k_is, by k_is, by k_is, by k_is⟩, by k_is, by k_is, by k_is, by k_is, by k_is, by k_is, by k_is, by k_is, by k_is⟩, by k_is, ⟨_, by k_is, rfl⟩⟩
      | 23, _ => exact ⟨⟨⟨⟨_, _, _, _, _, _, _, _, _, _, _, _, _, _, _, by k_is, by decide +kernel⟩, by k_is, by k_is, by k_is, by k_is⟩, by k_is, by k_is, by k_is, by k_is, by k_is, by k_is, by k_is, by k_is, by k_is⟩, by k_is, ⟨_, by k_is, rfl⟩⟩
      | 24, _ => exact ⟨⟨⟨⟨_, _, _, _, _, _, _, _, _, _, _, _, _, _, _, by k_is, by decide +kernel⟩, by k_is, by k_is, by k_is, by k_is⟩, by k_is, by k_is, by k_is, by k_is, by k_is, by k_is, by k_is, by k_is, by k_is⟩, by k_is, ⟨_, by k_is, rfl⟩⟩
      | 25, _ => exact ⟨⟨⟨⟨_, _, _, _, _, _, _, _, _, _, _, _, _, _, _, by k_is, by decide +kernel⟩, by k_is, by k_is, by k_is, by k_is⟩, by k_is, by k_is, by k_is, by k_is, by k_is, by k_is, by k_is, by k_is, by k_is⟩, by k_is, ⟨_, by k_is, rfl⟩⟩
      | 26, _ => exact ⟨⟨⟨⟨_, _, _, _, _, _, _, _, _, _, _, _, _, _, _, by k_is, by decide +kernel⟩, by k_is, by k_is, by k_is, by k_is⟩, by k_is, by k_is, by k_is, by k_is, by k_is, by k_is, by k_is, by k_is, by k_is⟩, by k_is, ⟨_, by k_is, rfl⟩⟩
      | 27, _ => exact ⟨⟨⟨⟨_, _, _, _, _, _, _, _, _, _, _, _, _, _, _, by k_is, by decide +kernel⟩, by k_is, by k_is, by k_is, by k_is⟩, by k_is, by k_is, by k_is, by k_is, by k_is, by k_is, by k_is, by k_is, by k_is⟩, by k_is, ⟨_, by k_is, rfl⟩⟩
      | n + 28, hn => exact absurd hn (by omega)
    (case tI => k_is)
    (case iL => k_is)
    (case iC => k_is)
    (case iK => k_is)
    (case dP => exact ⟨_, _, _, _, _, _, _, _, _, _, by k_is, by k_is, by k_is, by k_is⟩)
    (case dT => exact ⟨_, _, _, _, _, _, _, _, _, _, by k_is, by k_is, by k_is, by k_is⟩)
    (case dO => exact ⟨_, _, _, _, _, _, _, _, _, _, by k_is, by k_is, by k_is, by k_is⟩)
    (case dC => exact ⟨_, _, _, _, _, _, _, _, _, _, by k_is, by k_is, by k_is, by k_is⟩)
    (case dD => exact ⟨_, _, _, _, _, _, _, _, _, _, by k_is, by k_is, by k_is, by k_is⟩)
    (case dM => exact ⟨_, _, _, _, _, _, _, _, _, _, by k_is, by k_is, by k_is, by k_is⟩)
    (case dK => exact ⟨_, _, _, _, _, _, _, _, _, _, by k_is, by k_is, by k_is, by k_is⟩)
    (case dR => exact ⟨_, _, _, _, _, _, _, _, _, _, by k_is, by k_is, by k_is, by k_is⟩)
    (case dL => exact ⟨_, _, _, _, _, _, _, _, _, _, by k_is, by k_is, by k_is, by k_is⟩)
    (case n1 => k_is)
    (case n2 => k_is)
    (case n3 => k_is)
    (case n4 => k_is)
    (case n5 => k_is)
    (case n6 => k_is)
    (case n7 => k_is)
    (case n8 => k_is)
    (case n9 => k_is)
    (case na => k_is)
    (case nb => k_is)
    (case nc => k_is)
    (case nd => k_is)
