import PyProof.Rows.All
import Wide.All
import OpenK.AllK
import Wide.FinOn
import HandS.ForMost
import HandS.Conv
import HandS.Wide
import HandS.Exc
import HandS.ExcInit
import HandS.IsInst
import HandS.ExcIs
import HandS.Deep
import HandS.TupAny
import HandS.Zip
import HandS.Walk
import HandS.StrMore
import HandS.More
import HandS.Iter
import HandS.Strs
import HandS.Set
import HandS.TupMul
import HandS.WordsDict
import HandS.FStr
import HandS.SlotsOwn
import HandS.Style
import PySem.Challenge.RW_unseenstocks_k04_equal_books
set_option Elab.async false
set_option linter.all false
set_option maxRecDepth 100000
set_option maxHeartbeats 4000000
namespace GD
open PySem PySem.Spec PyProof.Rows L2
/-! a def that is called where no repr goes on -/
structure FnG (P : Program) (w : World) (K : PySem.W.Frag) (mg : Str → Option Value) (base : Heap) (k : Nat) (f : Addr) (fd : FuncData) (ps : List Str) (sp : Sp) : Prop where
  len : ∀ vs H Q E, sp vs H Q E → vs.length = ps.length
  run : ∀ (A : Around) (outer : List Env) (s : Shared) (H : Hp) (us : List Value) (vs : List V) (Q : VK), A.guards = some [] → Room k A → Env0 P w K mg base A outer s H → BindsTo s fd ⟨us, []⟩ (ps.zip us) → Vals vs us → sp vs H Q E0 →
    codeAny (model P w) A (.call (.ref f) ⟨us, []⟩) (CR CX0 outer P w H s Q E0) s
section
variable {P : Program} {w : World} {K : PySem.W.Frag} {mg : Str → Option Value} {base : Heap}
theorem fnG_of {x qual : Str} {st : Stmt} {f : Addr} {fd : FuncData} {N ps : List Str} {k : Nat} {sp : Sp} (F : Fun K x qual st f fd) (S : FnScope N ps (defScope st)) (len : ∀ vs H Q E, sp vs H Q E → vs.length = ps.length)
    (hbody : ∀ (cdv : Value) (A : Around) (outer : List Env) (s : Shared) (H : Hp) (vs : List V) (Q : VK), A.guards = some [] → Room k (A.deeper (envOfC qual (defScope st) s.heap.objs.size f cdv)) → sp vs H Q E0 →
      ∃ t, PSs (cxOf CX0 P w K mg base N qual (defScope st) f cdv A outer s H E0).nox (defBody st) t ∧ t { nx := fun _ H' => Q .non H', rt := Q } (start N vs) H) : FnG P w K mg base (k + 1) f fd ps sp := by
  obtain ⟨oc, od, kV, doc, pm, an, cdv, ct, osl, rfl, lk, hcd⟩ := F.ex
  refine ⟨len, fun A outer s H us vs Q hgu hr e0 hb r hsp => ?_⟩
  have KX : K.In s.heap := e0.mod.kin.keeps fun b o e => (e0.bs b o e).1
  have lim : s.heap.NoLimit := e0.mod.nolimit.keeps fun b o e => (e0.bs b o e).1
  have look : ∀ y ∈ ps.zip us, (defScope st).names.lookup y.1 = some .local ∨ ((defScope st).names.lookup y.1 = some .cell ∧ ((cellsFrom (s.heap.objs.size + 1) (defScope st).names []).lookup y.1).isSome = true) := by
    rintro ⟨n, v⟩ hy
    rcases S.par n (List.of_mem_zip hy).1 with q | q
    · exact .inl q
    · exact .inr ⟨q, PySem.W.cellsFrom_some _ _ _ (.inl q)⟩
  refine codeAny_call_function hr.depth (KX _ _ lk) rfl S.co S.gen rfl (PySem.W.codeRec_of KX hcd) (hb _ _ _ _ ?_)
  refine wpAny_newFunctionEnv_cells S.kind look fun env he s1 x => ?_
  subst he
  refine ⟨lim.keeps x.toInCall.keep, codeAny_func ?_⟩
  obtain ⟨t, h0, hq⟩ := hbody cdv A outer s H vs Q hgu (hr.deeper _) hsp
  have I := inv_start (CX := CX0) (E := E0) (P := P) (w := w) (N := N) (cd := cdv) S hr.hd e0 (len _ _ _ _ hsp) r x
  refine wpAny_mono (h0.nox.run [] s1 (start N vs) H _ I hq) (fun fl s' hs => ?_) fun e s' hs => hs
  cases fl with
  | ret u =>
    obtain ⟨v, σ', H', J, rv, q⟩ := hs
    exact ⟨v, H', J.os, J.bare, J.base, J.hok, rv, q⟩
  | next =>
    obtain ⟨σ', H', J, q⟩ := hs
    exact ⟨V.non, H', J.os, J.bare, J.base, J.hok, rfl, q⟩
  | brk =>
    obtain ⟨_, _, _, q⟩ := hs
    exact q.elim
  | cont =>
    obtain ⟨_, _, _, q⟩ := hs
    exact q.elim
end
section
variable {X : Cx} {k : Nat} {f : Addr} {fd : FuncData} {ps : List Str} {sp : Sp} {x : Str} {p pos : Pos} {e : Expr} {es : List Expr} {t : TA}
theorem pe_callG (F : FnG X.prog X.w X.K X.mg X.base k f fd ps sp) (hgu : X.A.guards = some []) (hr : Room k X.A) (hg : Gl X x) (hm : X.mg x = some (.ref f)) (hk : PySem.W.keepIn X.K (.ref f) = true) (hb : Binds X.K fd ps [])
    (ha : PA X (e :: es) t) (hdb : (x == ("__debug__" : Str)) = false := by decide) (he : starEach (e :: es) X.env = (false, eval e X.env) :: starEach es X.env := by rfl) (hpl : (backTo pos (starEach es X.env)).any (·.1) = false := by rfl) :
    PE X (.Call (.Name x p) (e :: es) [] pos) (tCall sp [] E0 t) := by
  refine ⟨fun pins s σ H Q I h => wpAny_Call_Name_kw (ld_glob I hg hm ?_ hdb)⟩
  refine PySem.W.callWith_K (h₀ := X.base) I.ok.mod.kin hk (thn (ha.run pos pins s σ H _ I h) fun us s1 ⟨vs, H1, I1, r, q⟩ => ⟨I1.kIn, ?_⟩) he hpl
  have q' : sp vs H1 Q E0 := by
    have z : sp (vs ++ []) H1 Q E0 := q
    rw [List.append_nil] at z
    exact z
  have hl : us.length = ps.length := by
    rw [← r.length]
    exact F.len _ _ _ _ q'
  have hbb : BindsTo s1 fd ⟨us, []⟩ (ps.zip us) := by
    have z := hb s1 us I1.kIn (by rw [List.append_nil]; exact hl)
    rw [List.append_nil] at z
    exact z
  refine wpAny_call (codeAny_mono (F.run X.A X.stack s1 H1 us vs Q hgu hr I1.env0 hbb r q') fun res s' hq => ?_)
  cases res with
  | error er => exact False.elim hq
  | ok fl =>
    cases fl with
    | ret u => exact I1.after hq
    | next => exact False.elim hq
    | brk => exact False.elim hq
    | cont => exact False.elim hq
end
/-! the end of a law whose def is called where no repr goes on -/
section
open PySem.W PySem.W.OpenLaw in
theorem walkG {l : PySem.W.OpenLaw} {n k : Nat} {q : Program} {loose : List Str} {XP : (Str → Option Value) → Heap → Prop} {YP : World → Heap → Prop} {d : DefRec} {K : Params → PySem.W.Frag} {sp : PySem.W.Frag → Sp} {x : Str}
    (hn : l.most = some n) (hn2 : n ≤ sizeLine) (hdf : d.params.defaults = []) (hr : Room k callerA)
    (hY : ∀ (w : World) (h : Heap), YP w h → (K w.params).In h)
    (F : ∀ (w : World) (mg : Str → Option Value) (fa : Addr) (h : Heap), (K w.params).In h → h.Ns mainGlobals mg → mg d.name = some (.ref fa) →
      ∃ fd : FuncData, (∀ (s : Shared) (u : Value), BindsTo s fd ⟨[u], []⟩ [(x, u)]) ∧ ∀ base : Heap, (K w.params).In base → base.Ns mainGlobals mg → FnG l.prog w (K w.params) mg base k fa fd [x] (sp (K w.params)))
    (hsp : ∀ (K : PySem.W.Frag) (H : Hp) (a : Addr) (ns : List Int), ns.length ≤ n → SqL K H a (ns.map V.int) → sp K [.ref a] H (fun v _ => v = .bl true) E0) :
    PySem.W.WalkO q loose XP YP l.row.toRowW d [] (fun f vs => PySem.call f vs) := by
  refine Att.attach_call hn hdf fun w s₀ s₁ mg mb fa o pm cd doc a vs ns G Y ho hd hcd hmg ha hi hlen hg => ?_
  have KX := hY w _ Y
  obtain ⟨fd, hb, hF⟩ := F w mg fa _ KX G.T.g hmg
  have rv := vals_ints hi
  have hl : (ns.map V.int).length ≤ sizeLine := by
    rw [List.length_map]
    exact Nat.le_trans hlen hn2
  let ob : Obj := { cls := .type "list", data := .seq vs.toArray }
  let H : Hp := fun b => if b = a ∧ (K w.params).lookup a = none then some (.frz ob (.lst (ns.map V.int))) else none
  have hH : ∀ b u, H b = some u → (b = a ∧ (K w.params).lookup a = none) ∧ u = .frz ob (.lst (ns.map V.int)) := fun b u e => by
    by_cases c : b = a ∧ (K w.params).lookup a = none
    · have z : some (HO.frz ob (.lst (ns.map V.int))) = some u := (if_pos c).symm.trans e
      exact ⟨c, (Option.some.inj z).symm⟩
    · have z : (none : Option HO) = some u := (if_neg c).symm.trans e
      cases z
  have hok : HOk l.prog w H s₁.heap := fun b u e => by
    obtain ⟨⟨rfl, _⟩, rfl⟩ := hH b u e
    exact ⟨ha, hl, vs, _, rv, ha⟩
  have hS : SqL (K w.params) H a (ns.map V.int) := by
    cases c : (K w.params).lookup a with
    | none => exact .inl (.inr ⟨ob, if_pos ⟨rfl, c⟩⟩)
    | some o2 =>
      have e := KX a o2 c
      rw [ha] at e
      cases e
      exact .inr ⟨_, vs.toArray, _, c, rfl, rfl, rfl, by rw [List.size_toArray, ← rv.length]; exact hl, rv⟩
  have dictFree : ∀ {b : Addr} {o : Obj} {es : Array DictEntry} {ep : Nat}, s₁.heap.get? b = some o → o.data = .dict es ep → H b = none := fun {b o es ep} e d => by
    cases c : H b with
    | none => rfl
    | some u =>
      obtain ⟨⟨rfl, _⟩, _⟩ := hH b u c
      rw [ha] at e
      cases e
      cases (show Data.seq vs.toArray _ = Data.dict es ep from d)
  have nsB : ∀ {b : Addr} {m : Str → Option Value}, s₁.heap.Ns b m → (hidT s₁.heap H).Ns b m := fun {b m} z => by
    obtain ⟨o, es, ep, e, d, r⟩ := z
    exact ⟨o, es, ep, hidT_get e (dictFree e d), d, r⟩
  have KB : (K w.params).In (hidT s₁.heap H) := fun b o e => hidT_get (KX b o e) (by
    cases c : H b with
    | none => rfl
    | some u =>
      obtain ⟨⟨rfl, z⟩, _⟩ := hH b u c
      rw [z] at e
      cases e)
  obtain ⟨mc, lim1, lim2⟩ := G.T.nolimit
  have e0 : Env0 l.prog w (K w.params) mg (hidT s₁.heap H) callerA [] s₁ H :=
    ⟨rfl, ⟨KB, nsB G.T.g, ⟨mb, nsB G.T.b, G.T.builtins⟩, ⟨mc, nsB lim1, lim2⟩⟩, fun b o e => of_hidT e, Nat.le_of_eq (hidT_size _ _), trivial, fun b hb => (nomatch hb), hok, .of_eq hg⟩
  refine codeAny_mono ((hF _ KB (nsB G.T.g)).run callerA [] s₁ H [.ref a] [.ref a] (fun v _ => v = .bl true) rfl hr e0 (hb s₁ (.ref a)) (.cons rfl .nil) (hsp _ H a ns hlen hS)) fun r s' h => ?_
  cases r with
  | error e => exact False.elim h
  | ok fl =>
    cases fl with
    | next => exact False.elim h
    | brk => exact False.elim h
    | cont => exact False.elim h
    | ret u =>
      obtain ⟨v, H', os, bare, un, hok', r', rfl⟩ := h
      obtain rfl : u = Value.bool true := r'
      refine ⟨rfl, OldK.of_keep fun b o e => ?_, os, bare⟩
      cases c : H b with
      | none => exact un.keep b o e c (fun z => nomatch z) (fun z => nomatch z)
      | some u =>
        obtain ⟨⟨rfl, _⟩, rfl⟩ := hH b u c
        obtain ⟨e2, _⟩ := hok' b _ (un.frzs b _ _ c)
        rw [ha] at e
        cases e
        exact e2
end
end GD
namespace GD
open PySem PySem.Spec PyProof.Rows L2
/-! a value of the tracked heap that is data throughout -/
mutual
inductive Sh (H : Hp) : V → PyData → Prop
  | non : Sh H .non .none
  | bl (b : Bool) : Sh H (.bl b) (.bool b)
  | int (i : Int) : Sh H (.int i) (.int i)
  | str (x : Str) : Sh H (.str x) (.str x)
  | lst {a : Addr} {xs : List V} {ds : List PyData} : H a = some (.lst xs) → a ≠ sysModules → ShAll H xs ds → Sh H (.ref a) (.list ds)
  | tup {a : Addr} {xs : List V} {ds : List PyData} : H a = some (.tup xs) → ShAll H xs ds → Sh H (.ref a) (.tuple ds)
  | dct {a : Addr} {kvs : List (Key × V)} {ds : List (PyData × PyData)} : H a = some (.dK kvs) → ShAll H (kvs.map fun p => kV p.1) (ds.map (·.1)) → ShAll H (kvs.map (·.2)) (ds.map (·.2)) → Sh H (.ref a) (.dict ds)
inductive ShAll (H : Hp) : List V → List PyData → Prop
  | nil : ShAll H [] []
  | cons {x : V} {d : PyData} {xs : List V} {ds : List PyData} : Sh H x d → ShAll H xs ds → ShAll H (x :: xs) (d :: ds)
end
mutual
theorem Sh.same {H H' : Hp} (k : Same H H') : ∀ {v : V} {d : PyData}, Sh H v d → Sh H' v d
  | _, _, .non => .non
  | _, _, .bl b => .bl b
  | _, _, .int i => .int i
  | _, _, .str x => .str x
  | _, _, .lst h n t => .lst (k _ _ h) n (ShAll.same k t)
  | _, _, .tup h t => .tup (k _ _ h) (ShAll.same k t)
  | _, _, .dct h t u => .dct (k _ _ h) (ShAll.same k t) (ShAll.same k u)
theorem ShAll.same {H H' : Hp} (k : Same H H') : ∀ {v : List V} {d : List PyData}, ShAll H v d → ShAll H' v d
  | _, _, .nil => .nil
  | _, _, .cons a b => .cons (Sh.same k a) (ShAll.same k b)
end
section
variable {P : Program} {w : World} {H : Hp} {h : Heap}
theorem keys_rel : ∀ {kvs : List (Key × V)} {vs : List (Key × Value)} {es : List DictEntry}, KV kvs vs → Pairs (mixKind P w) es vs → Vals (kvs.map fun p => kV p.1) (es.map (·.key)) ∧ Vals (kvs.map (·.2)) (es.map (·.val))
  | _, _, _, .nil, .nil => ⟨.nil, .nil⟩
  | _, _, _, .cons r t, .cons i e p => by
    obtain ⟨h1, h2⟩ := keys_rel t p
    obtain ⟨r1, r2⟩ := r
    refine ⟨.cons ?_ h1, .cons ?_ h2⟩
    · dsimp only
      rw [r1]
      rcases keyIs_shape i with ⟨j, t, e1, e2⟩ | ⟨x, t, e1, e2⟩
      · rw [e1, e2]
        exact ⟨t, rfl⟩
      · rw [e1, e2]
        exact ⟨t, rfl⟩
    · dsimp only
      rw [e]
      exact r2
mutual
theorem reads_of (ok : HOk P w H h) : ∀ {v : V} {d : PyData} {u : Value}, Sh H v d → RelV v u → ∃ as, Reads h u d as ∧ sysModules ∉ as
  | _, _, _, .non, r => by
    cases r
    exact ⟨_, .none, fun z => nomatch z⟩
  | _, _, _, .bl b, r => by
    cases r
    exact ⟨_, .bool b, fun z => nomatch z⟩
  | _, _, _, .int i, r => by
    obtain ⟨t, rfl⟩ := r
    exact ⟨_, .int i t, fun z => nomatch z⟩
  | _, _, _, .str x, r => by
    obtain ⟨t, rfl⟩ := r
    exact ⟨_, .str x t, fun z => nomatch z⟩
  | _, _, _, .lst (a := a) (xs := xs) e n t, r => by
    cases r
    obtain ⟨_, its, m, rv, ho⟩ := (show ObjOk P w H h a (.lst xs) from ok a _ e)
    obtain ⟨as, h1, h2⟩ := readsAll_of ok t rv
    exact ⟨_, .list ho rfl rfl h1, fun z => (List.mem_cons.mp z).elim (fun q => n q.symm) h2⟩
  | _, _, _, .tup (a := a) (xs := xs) e t, r => by
    cases r
    obtain ⟨_, its, rv, o, ho, hc, m, hd⟩ := (show ObjOk P w H h a (.tup xs) from ok a _ e)
    obtain ⟨as, h1, h2⟩ := readsAll_of ok t rv
    exact ⟨_, .tuple ho hc hd h1, h2⟩
  | _, _, _, .dct (a := a) (kvs := kvs) e t1 t2, r => by
    cases r
    obtain ⟨_, hs, vs, rel, o, es, ep, ho, hx, hd, _, hp, _⟩ := (show ObjOk P w H h a (.dK kvs) from ok a _ e)
    obtain ⟨v1, v2⟩ := keys_rel rel hp
    obtain ⟨as, h1, h2⟩ := readsAll_of ok t1 v1
    obtain ⟨bs, h3, h4⟩ := readsAll_of ok t2 v2
    refine ⟨_, .dict ho hx.1 hd h1 h3, fun z => ?_⟩
    rcases List.mem_append.mp z with z | z
    · rcases List.mem_cons.mp z with z | z
      · rw [← z] at hs
        exact absurd hs (by decide)
      · exact h2 z
    · exact h4 z
theorem readsAll_of (ok : HOk P w H h) : ∀ {vs : List V} {ds : List PyData} {us : List Value}, ShAll H vs ds → Vals vs us → ∃ as, ReadsAll h us ds as ∧ sysModules ∉ as
  | _, _, _, .nil, r => by
    cases r
    exact ⟨_, .nil, fun z => nomatch z⟩
  | _, _, _, .cons a b, r => by
    cases r with
    | cons r1 r2 =>
      obtain ⟨as, h1, h2⟩ := reads_of ok a r1
      obtain ⟨bs, h3, h4⟩ := readsAll_of ok b r2
      exact ⟨_, .cons h1 h3, fun z => (List.mem_append.mp z).elim h2 h4⟩
end
end
/-- data that repr shows within the bounds -/
def NiceD (d : PyData) : Prop := d.showable = true ∧ d.depth ≤ 20 ∧ d.shown.length ≤ sizeLine
theorem call_reprS {X : Cx} (hgu : X.A.guards = some []) (hu : X.A.units + 64 < cLine) : CallR X (.builtin "repr") (fun xs H Q => ∃ v d, xs = [v] ∧ Sh H v d ∧ NiceD d ∧ Q (.str d.shown) H) := by
  intro pins s σ H xs us Q I r h
  obtain ⟨v, d, rfl, sh, ⟨hs, hd, hz⟩, q⟩ := h
  obtain ⟨u, rfl, ru⟩ := vals1 r
  have big : ∀ a : Addr, u = .ref a → wpAny (model X.prog X.w) X.A (call (.builtin "repr") [u]) (EP X pins σ Q) X.xe s := by
    rintro a rfl
    obtain ⟨as, rd, nm⟩ := reads_of I.hok sh ru
    exact repr_of_reads' rd hs (fun _ => nm) hgu (by omega) (fun _ _ e => e) (fun h' t tk k => ⟨.str d.shown, H, I.kept (t' := tk) k, ⟨_, rfl⟩, q⟩) hz
  cases sh with
  | non =>
    cases ru
    exact PySem.P.repr_of_none ⟨.str _, H, I.tok _, ⟨_, rfl⟩, q⟩
  | bl b =>
    cases ru
    exact PySem.P.repr_of_bool ⟨.str _, H, I.tok _, ⟨_, rfl⟩, q⟩
  | int i =>
    obtain ⟨t, rfl⟩ := ru
    exact PySem.P.repr_of_int (of_decide_eq_true hs) ⟨.str _, H, I.tok _, ⟨_, rfl⟩, q⟩
  | str x =>
    obtain ⟨t, rfl⟩ := ru
    exact PySem.P.repr_of_str ⟨.str _, H, I.tok _, ⟨_, rfl⟩, q⟩ hz
  | lst e n t => exact big _ ru
  | tup e t => exact big _ ru
  | dct e t u => exact big _ ru
end GD
namespace PySem.W
open PySem PySem.Spec PySem.Calls PyProof.Rows
section
variable {prog : Program} {w : World} {A : Around} {E : Value → Shared → Prop} {s : Shared} {K : Frag} {x D : Addr} {ox : Obj} {od : Option Obj}
theorem gd_findObj {C : Addr} {name : Str} {a g : Value} (hc : (clsIn K C).isSome = true) (ha : findIn K (.ref C) name = some (some a)) (hg : specialIn K a "__get__" = some (some g)) (ht : takesIn K a = some true) : findObj K C od name = some (.bind g a) := by
  obtain ⟨cd, hc⟩ := Option.isSome_iff_exists.mp hc
  unfold findObj
  rw [hc, Option.bind_some, ha, Option.bind_some]
  simp [hg, ht]
theorem gd_class {Q : Option Value → Shared → Prop} (hga : findIn K (.ref D) "__getattribute__" = some (some (.builtin "BaseException.__getattribute__"))) (hgt : findIn K (.ref D) "__getattr__" = some none) (hsub : subIn K (.ref D) (.type "BaseException") = some true)
    (hdct : hasDictIn K D = true) (ha : findIn K (.ref D) "__class__" = some (some (.builtin "object.__class__")))
    (hn : specialIn K (.builtin "object.__class__") "__get__" = some (some (.builtin "getset_descriptor.__get__"))) (htk : takesIn K (.builtin "object.__class__") = some true) (hm : mroIn K D (.type "object") = some true)
    (X : K.In s.heap) (I : InstAt s.heap x ox D od) (h : Q (some (.ref D)) { s with toks := s.toks + 1 }) : wpAny (model prog w) A (getAttr? (.ref x) "__class__") Q E s := by
  have hf : findObj K D od "__class__" = some (.bind (.builtin "getset_descriptor.__get__") (.builtin "object.__class__")) := gd_findObj (by obtain ⟨cd, hc, _⟩ := any_some hdct; rw [hc]; rfl) ha hn htk
  obtain ⟨hp, g, d, t, os⟩ := s
  have T0 := I.type (M := model prog w)
  have T1 := looks_findIn (M := model prog w) X hga
  have T2 := looks_findIn (M := model prog w) X hgt
  have T3 := looks_find (M := model prog w) X I hf
  have sub : Looks (model prog w) hp (isInstance (.ref x) (.type "BaseException")) true := T0.andThen (looks_subIn X hsub)
  have n2 : (Value.builtin "BaseException.__getattribute__" == Value.builtin "object.__getattribute__") = false := by decide +kernel
  have n1 : (onTheHeap (Value.ref D) && Value.builtin "BaseException.__getattribute__" == Value.builtin "object.__getattribute__") = false := by rw [n2]; rfl
  unfold getAttr? getAttrBy? getAttrBy
  refine wpAny_bind (wpAny_mkText (wpAny_bind (wpAny_attempt (wpAny_holding (wpAny_bind (T0.at (wpAny_bind (T1.at ?_))))))))
  show wpAny _ _ (if (onTheHeap (Value.ref D) && Value.builtin "BaseException.__getattribute__" == Value.builtin "object.__getattribute__") = true then _ else _) _ _ _
  rw [n1, if_neg Bool.false_ne_true]
  unfold getAttrByItsOwn hookBefore
  refine wpAny_bind ?_
  rw [if_pos (show onTheHeap (Value.ref D) = true from rfl)]
  refine T2.at ?_
  refine wpAny_bind (wpAny_attempt (wpAny_holding ?_))
  unfold callGetattribute
  rw [show (false && onTheHeap (Value.builtin "BaseException.__getattribute__")) = false from rfl, if_neg Bool.false_ne_true]
  unfold boundAndCalled
  rw [PySem.F.excAttr_ValueError.ga.bind (.ref x)]
  refine wpAny_bind (wpAny_pure ?_)
  show wpAny _ _ (call (.builtin "BaseException.__getattribute__") [.ref x, .str "__class__" t]) _ _ _
  refine wpAny_call (codeAny_call_builtin PySem.F.excAttr_ValueError.ga.plain PySem.F.entry_bexc_ga ?_)
  refine @check_slot (model prog w) _ _ ⟨hp, g, d, t + 1, os⟩ "BaseException.__getattribute__" "BaseException" "__getattribute__" (.ref x) [.str "__class__" t] [] _ (by decide +kernel) (by decide +kernel) sub (PySem.F.args_bexc_ga (.ref x) (.str "__class__" t)) ?_
  unfold Builtin.«object.__getattribute__»
  refine wpAny_bind (wpAny_of_eq (a := ((Value.ref x : Value), [Value.str "__class__" t])) (by first | rfl | (simp only [slotArgs]; rfl)) ?_)
  refine wpAny_bind (wpAny_pure (wpAny_bind (T0.at (wpAny_bind (T3.at ?_)))))
  show wpAny _ _ (holding [Value.builtin "object.__class__"] (call (.builtin "getset_descriptor.__get__") [.builtin "object.__class__", .ref x, .ref D]) >>= ret) _ _ _
  refine wpAny_bind (wpAny_holding (wpAny_call (class_get (s := ⟨hp, g, d, t + 1, os⟩) (ox := ox) (od := od) X I hm ?_)))
  refine wpAny_pure ?_
  show wpAny _ _ (handedOut (.ref D)) _ _ _
  rw [handedOut_of (v := .ref D) rfl]
  first
    | exact wpAny_pure (wpAny_pure h)
    | exact wpAny_pure h
    | exact wpAny_pure (wpAny_bind (wpAny_pure (wpAny_pure h)))
theorem gd_kit (hga : findIn K (.ref D) "__getattribute__" = some (some (.builtin "BaseException.__getattribute__"))) (hgt : findIn K (.ref D) "__getattr__" = some none) (hsub : subIn K (.ref D) (.type "BaseException") = some true) (hdct : hasDictIn K D = true) (ha : findIn K (.ref D) "__class__" = some (some (.builtin "object.__class__")))
    (hn : specialIn K (.builtin "object.__class__") "__get__" = some (some (.builtin "getset_descriptor.__get__"))) (htk : takesIn K (.builtin "object.__class__") = some true) (hm : mroIn K D (.type "object") = some true) :
    KitX K (.ref x) (.ref D) (fun h => InstAt h x ox D od) where
  ty := fun _ _ _ I => I.type
  it := fun _ _ X _ => by
    obtain ⟨cd, hc, _⟩ := any_some hdct
    unfold clsIn at hc
    split at hc
    · rename_i c' d' cd' sl' ho
      intro A' Q' E' s' k q
      unfold isType loadHead
      exact wpAny_bind (wpAny_loadPart (k _ _ (X _ _ ho)) (wpAny_pure q))
    · cases hc
  ne := fun h tp dd its n sl X htp => by
    obtain ⟨cd, hc, _⟩ := any_some hdct
    refine Bool.eq_false_iff.mpr fun q => ?_
    have e : D = tp := Value.ref.inj (beq_iff_eq.mp q)
    subst e
    unfold clsIn at hc
    split at hc
    · rename_i c' d' cd' sl' ho
      have z := (X _ _ ho).symm.trans htp
      cases z
    · cases hc
  ca := fun X I k => gd_class hga hgt hsub hdct ha hn htk hm X I k
end
end PySem.W
namespace GD
open PySem PySem.Spec PyProof.Rows L2
/-! errors that keep their value -/
/-- what the written part says of such a class; fI: its __init__ -/
structure EC (K : PySem.W.Frag) (C fI : Addr) : Prop where
  ox : OexC K C
  ini : PySem.W.findIn K (.ref C) "__init__" = some (some (.ref fI))
  nv : PySem.W.findIn K (.ref C) "value" = some none
  ga : PySem.W.findIn K (.ref C) "__getattribute__" = some (some (.builtin "BaseException.__getattribute__"))
  gt : PySem.W.findIn K (.ref C) "__getattr__" = some none
  hd : PySem.W.hasDictIn K C = true
  cl : PySem.W.findIn K (.ref C) "__class__" = some (some (.builtin "object.__class__"))
  cg : PySem.W.specialIn K (.builtin "object.__class__") "__get__" = some (some (.builtin "getset_descriptor.__get__"))
  ct : PySem.W.takesIn K (.builtin "object.__class__") = some true
  ob : PySem.W.mroIn K C (.type "object") = some true
/-- an error of the class C at e, that keeps v -/
def ErrAt (H : Hp) (e C : Addr) (v : V) : Prop := ∃ d, H e = some (exo e C (some d)) ∧ H d = some (exd d [(("value" : Str), v)])
theorem ErrAt.same {H H' : Hp} {e C : Addr} {v : V} (k : Same H H') (h : ErrAt H e C v) : ErrAt H' e C v := by
  obtain ⟨d, h1, h2⟩ := h
  exact ⟨d, k _ _ h1, k _ _ h2⟩
def spInit (K : PySem.W.Frag) : Sp := fun vs H Q _ => ∃ (e C : Addr) (v : V), vs = [.ref e, v] ∧ OexC K C ∧ PySem.W.findIn K (.ref C) "value" = some none ∧ H e = some (exo e C none) ∧
  ∀ d : Addr, H d = none → d ≠ e → Q .non (upd (upd H d (exd d [(("value" : Str), v)])) e (exo e C (some d)))
section
variable {X : Cx} {C fI : Addr} {x : Str} {p pos : Pos} {e : Expr} {es : List Expr} {ta : TA} {te : TE} {k : Nat} {fd : FuncData}
/-- C(e) -/
def tErr (C : Addr) (ta : TA) : TE := fun σ H Q => ta σ H fun vs H1 => ∃ v, vs = [v] ∧ ∀ a H2, H1 a = none → Same H1 H2 → ErrAt H2 a C v → Q (.ref a) H2
theorem pe_mkErr (T : EC X.K C fI) (tI : PySem.W.typeIn X.K (.ref fI) = some (.type "function")) (F : FnOk X.prog X.w X.K X.mg X.base CX0 k fI fd ["self", "value"] (spInit X.K)) (hr : Room (k + 1) X.A) (hb : Binds X.K fd ["self", "value"] [])
    (hg : Gl X x) (hm : X.mg x = some (.ref C)) (ha : PA X (e :: es) ta) (hdb : (x == ("__debug__" : Str)) = false := by decide) (he : starEach (e :: es) X.env = (false, eval e X.env) :: starEach es X.env := by rfl)
    (hpl : (backTo pos (starEach es X.env)).any (·.1) = false := by rfl) : PE X (.Call (.Name x p) (e :: es) [] pos) (tErr C ta) := by
  refine ⟨fun pins s σ H Q I h => ?_⟩
  obtain ⟨nm, q, N, bs, bm, sn, sub, ab, col, dd, k0, k1, k2, k3, k5, hC, hbm⟩ := T.ox.cls
  refine wpAny_Call_Name_kw (ld_glob I hg hm ?_ hdb)
  refine PySem.W.callWith_K (h₀ := X.base) I.ok.mod.kin T.ox.kC (thn (ha.run pos pins s σ H _ I h) fun us s1 ⟨vs, H1, I1, r1, v, ev, q1⟩ => ⟨I1.kIn, ?_⟩) he hpl
  subst ev
  show wpAny _ _ (call (.ref C) us) _ _ _
  obtain ⟨hp, g, dr, tk, os⟩ := s1
  have hsz : hp.objs.size ≤ hp.objs.size + 1 := Nat.le_succ _
  have hn : H1 (hp.objs.size + 1) = none := I1.hok.fresh hsz
  have old : ∀ b o, hp.get? b = some o → ((hp.push (PySem.W.kdv_tup us)).push (PySem.HandSPX.excO C hp.objs.size)).get? b = some o := fun b o e => Heap.get?_push_of_some _ (Heap.get?_push_of_some _ e)
  have new : ((hp.push (PySem.W.kdv_tup us)).push (PySem.HandSPX.excO C hp.objs.size)).get? (hp.objs.size + 1) = some (PySem.HandSPX.excO C hp.objs.size) := by heap_get
  have I2 : Inv X pins σ (upd H1 (hp.objs.size + 1) (exo (hp.objs.size + 1) C none)) ⟨(hp.push (PySem.W.kdv_tup us)).push (PySem.HandSPX.excO C hp.objs.size), g, dr, tk, os⟩ := I1.laid (t' := tk) (a := hp.objs.size + 1) (o := exo (hp.objs.size + 1) C none) (h' := (hp.push (PySem.W.kdv_tup us)).push (PySem.HandSPX.excO C hp.objs.size)) old hsz (exo_ok new)
  have r2 : Vals [V.ref (hp.objs.size + 1), v] (Value.ref (hp.objs.size + 1) :: us) := .cons rfl r1
  have hl : us.length = 1 := r1.length.symm
  have hq : spInit X.K [V.ref (hp.objs.size + 1), v] (upd H1 (hp.objs.size + 1) (exo (hp.objs.size + 1) C none)) (fun u H2 => u = .non ∧ Q (.ref (hp.objs.size + 1)) H2) E0 := by
    refine ⟨_, C, v, rfl, T.ox, T.nv, upd_same, fun d hd hde => ⟨rfl, q1 _ _ hn (fun b o e => ?_) ⟨d, upd_same, ?_⟩⟩⟩
    · have n1 : b ≠ hp.objs.size + 1 := ne_of_none e hn
      have n2 : b ≠ d := fun z => by
        rw [z] at e
        rw [upd_ne hde, e] at hd
        cases hd
      rw [upd_ne n1, upd_ne n2, upd_ne n1]
      exact e
    · rw [upd_ne hde, upd_same]
  have hbb : BindsTo (⟨(hp.push (PySem.W.kdv_tup us)).push (PySem.HandSPX.excO C hp.objs.size), g, dr, tk, os⟩ : Shared) fd ⟨Value.ref (hp.objs.size + 1) :: us, []⟩ ((["self", "value"] : List Str).zip (Value.ref (hp.objs.size + 1) :: us)) := by
    have z := hb _ (Value.ref (hp.objs.size + 1) :: us) I2.kIn (by rw [List.append_nil, List.length_cons, hl]; rfl)
    rw [List.append_nil] at z
    exact z
  refine wpAny_call (PySem.HandSPX.call_own PySem.F.excBase_ValueError (fun Y => PySem.HandSPX.refsVE_contains Y bm hbm) (I1.kIn _ _ hC) (PySem.W.looks_findIn I1.kIn T.ini) (fun self => PySem.W.bind_fn I1.kIn self tI) (by rw [hl, sizeLine_eq]; omega)
    (codeAny_mono (F.run _ X.stack _ _ ⟨Value.ref (hp.objs.size + 1) :: us, []⟩ _ _ _ E0 (hr.make C us []) (I2.env0.make C us []) hbb r2 hq) fun r s' hq' => ?_))
  cases r with
  | error er => exact False.elim hq'
  | ok fl =>
    cases fl with
    | ret u =>
      obtain ⟨y, H3, I3, ry, ey, q3⟩ := I2.after hq'
      subst ey
      exact ⟨ry, ⟨V.ref (hp.objs.size + 1), H3, I3, rfl, q3⟩⟩
    | next => exact False.elim hq'
    | brk => exact False.elim hq'
    | cont => exact False.elim hq'
theorem err_inst {pins : List (Addr × Obj)} {σ : L2.St} {H : Hp} {s : Shared} {a : Addr} {v : V} (I : Inv X pins σ H s) (h : ErrAt H a C v) : ∃ oe od u, PySem.W.InstAt s.heap a oe C (some od) ∧ PySem.W.lookIn "value" od = some (some u) ∧ RelV v u := by
  obtain ⟨d, h1, h2⟩ := h
  obtain ⟨t1, ho⟩ := exo_at I.hok h1
  obtain ⟨mA, hns, rel⟩ := exd_at I.hok h2
  obtain ⟨od, hod, hl⟩ := lookIn_ns hns
  have l : List.lookup ("value" : Str) [(("value" : Str), v)] = some v := by simp [List.lookup]
  obtain ⟨u, hu, ru⟩ := RelO.some_of (v := v) (o := mA "value") (by rw [← l]; exact rel "value")
  exact ⟨_, od, u, ⟨ho, rfl, rfl, hod⟩, by rw [hl, hu], ru⟩
/-- e.value -/
def tVal (K : PySem.W.Frag) (te : TE) : TE := fun σ H Q => te σ H fun x H1 => ∃ a C fI v, x = .ref a ∧ EC K C fI ∧ ErrAt H1 a C v ∧ Q v H1
theorem pe_val (he : PE X e te) (hb : attributeBase e "value" X.env (eval e X.env) = eval e X.env := by rfl) : PE X (.Attribute e "value" pos) (tVal X.K te) := by
  refine ⟨fun pins s σ H Q I h => ?_⟩
  refine attr_of hb (thn (he.run pins s σ H _ I h) fun u s1 hh => ?_)
  obtain ⟨x, H1, I1, rx, a, C, fI, v, ex, T, ea, q⟩ := hh
  subst ex
  obtain rfl : u = Value.ref a := rx
  obtain ⟨oe, od, u, J, hl, ru⟩ := err_inst I1 ea
  exact HandSPX.exc_get I1.kIn J T.ga T.gt T.ox.exC (PySem.W.findObj_own T.hd T.nv rfl hl) (handed_of ru) ⟨v, H1, I1.tok _, ru, q⟩
/-- isinstance(e, c), e such an error -/
def rIsErr (K : PySem.W.Frag) : List V → Hp → VK → Prop := fun xs H Q => ∃ (a C fI : Addr) (v c : V) (u : Value) (b : Bool), xs = [.ref a, c] ∧ EC K C fI ∧ ErrAt H a C v ∧ ClsV c u ∧ PySem.W.kitOne K (.ref C) u = some b ∧ Q (.bl b) H
theorem call_isErr : CallR X (.builtin "isinstance") (rIsErr X.K) := by
  intro pins s σ H xs us Q I r h
  obtain ⟨a, C, fI, v, c, u, b, rfl, T, ea, k, e, q⟩ := h
  obtain ⟨u1, u2, rfl, r1, r2⟩ := vals2 r
  have e2 := k.eq r2
  subst e2
  obtain rfl : u1 = Value.ref a := r1
  obtain ⟨oe, od, u, J, _, _⟩ := err_inst I ea
  exact PySem.W.kia_one (PySem.W.gd_kit T.ga T.gt T.ox.exC T.hd T.cl T.cg T.ct T.ob) I.kIn J e (fun z => nomatch z) fun tk => ⟨.bl b, H, I.tok tk, rfl, q⟩
/-- a list display, its place not the modules' dict -/
def tLstN (t : TA) : TE := fun σ H Q => t σ H fun xs H1 => xs.length ≤ sizeLine ∧ ∀ p, H1 p = none → p ≠ sysModules → Q (.ref p) (upd H1 p (.lst xs))
theorem pe_lstN (h : PA X es ta) : PE X (.List es pos) (tLstN ta) := by
  refine ⟨fun pins s σ H Q I hq => wpAny_List_spliced (thn (h.run pos pins s σ H _ I hq) fun us s1 ⟨xs, H1, I1, r, z, q⟩ => ⟨by rw [← r.length]; exact z, ?_⟩)⟩
  have hf : H1 s1.heap.objs.size = none := I1.hok.fresh (Nat.le_refl _)
  have J := I1.laid (t' := s1.toks) (a := s1.heap.objs.size) (o := .lst xs) (h' := s1.heap.push { cls := .type "list", data := .seq us.toArray }) (fun b u e => Heap.get?_push_of_some _ e) (Nat.le_refl _) ⟨z, us, 0, r, Heap.get?_push_size _ rfl⟩
  exact ⟨.ref s1.heap.objs.size, _, J, rfl, q _ hf (Nat.ne_of_gt I1.big)⟩
end
end GD
namespace GD
open PySem PySem.Spec PyProof.Rows L2
/-! written data: what a display of constants gives -/
/-- what stands in H' and did not in H -/
def minus (H H' : Hp) : Hp := fun b => if (H b).isSome = true then none else H' b
theorem minus_some {H H' : Hp} {b : Addr} {o : HO} : minus H H' b = some o ↔ H b = none ∧ H' b = some o := by
  unfold minus
  cases c : H b with
  | none => simp
  | some u => simp
theorem minus_of {H H' : Hp} {b : Addr} {o : HO} (h : H b = none) (h' : H' b = some o) : minus H H' b = some o := minus_some.mpr ⟨h, h'⟩
theorem same_new {H : Hp} {p : Addr} {o : HO} (h : H p = none) : Same H (upd H p o) := fun b u e => by
  rw [upd_ne (ne_of_none e h)]
  exact e
theorem minus_right {H H1 H2 : Hp} (k : Same H1 H2) : Same (minus H H1) (minus H H2) := fun b o e => by
  obtain ⟨h1, h2⟩ := minus_some.mp e
  exact minus_of h1 (k _ _ h2)
theorem minus_left {H H1 H2 : Hp} (k : Same H H1) : Same (minus H1 H2) (minus H H2) := fun b o e => by
  obtain ⟨h1, h2⟩ := minus_some.mp e
  exact minus_of (k.free h1) h2
/-- e gives the data d, new -/
def tD (d : PyData) : TE := fun _ H Q => ∀ v H', Same H H' → Sh (minus H H') v d → Q v H'
def tDs (ds : List PyData) : TA := fun _ H Q => ∀ vs H', Same H H' → ShAll (minus H H') vs ds → Q vs H'
theorem ShAll.length {H : Hp} : ∀ {vs : List V} {ds : List PyData}, ShAll H vs ds → vs.length = ds.length
  | _, _, .nil => rfl
  | _, _, .cons _ t => by rw [List.length_cons, List.length_cons, ShAll.length t]
theorem ShAll.mem {H : Hp} : ∀ {vs : List V} {ds : List PyData}, ShAll H vs ds → ∀ v ∈ vs, ∃ d ∈ ds, Sh H v d
  | _, _, .nil, _, h => nomatch h
  | _, _, .cons a t, v, h => by
    rcases List.mem_cons.mp h with z | z
    · rw [z]
      exact ⟨_, List.mem_cons_self, a⟩
    · obtain ⟨d, m, s⟩ := ShAll.mem t v z
      exact ⟨d, List.mem_cons_of_mem _ m, s⟩
section
variable {X : Cx} {e : Expr} {es : List Expr} {te te' : TE} {t t' : TA} {d : PyData} {ds : List PyData} {pos : Pos}
theorem pe_imp (h : PE X e te) (i : ∀ σ H Q, te' σ H Q → te σ H Q) : PE X e te' := ⟨fun pins s σ H Q I q => h.run pins s σ H Q I (i σ H Q q)⟩
theorem pa_imp (h : PA X es t) (i : ∀ σ H Q, t' σ H Q → t σ H Q) : PA X es t' := ⟨fun pos pins s σ H Q I q => h.run pos pins s σ H Q I (i σ H Q q)⟩
theorem pd_c {v : V} (h : PE X e (tC v)) (s : ∀ M, Sh M v d) : PE X e (tD d) := pe_imp h fun σ H Q q => q v H (Same.refl H) (s _)
theorem pds_nil : PA X [] (tDs []) := pa_imp pa_nil fun σ H Q q => q [] H (Same.refl H) .nil
theorem pds_cons (h : PE X e (tD d)) (ht : PA X es (tDs ds)) (hs : starEach (e :: es) X.env = (false, eval e X.env) :: starEach es X.env := by rfl) : PA X (e :: es) (tDs (d :: ds)) := pa_imp (pa_cons h ht hs) fun σ H Q q => by
  intro v H1 s1 h1 vs H2 s2 h2
  exact q (v :: vs) H2 (s1.trans s2) (.cons (h1.same (minus_right s2)) (h2.same (minus_left s1)))
theorem pd_tup {x1 : Nat} (h : PA X es (tDs ds)) (hz : ds.length ≤ 1000) : PE X (.Tuple es x1 pos) (tD (.tuple ds)) := pe_imp (pe_tup h) fun σ H Q q => by
  intro vs H1 s1 h1
  refine ⟨by rw [h1.length]; exact Nat.le_of_lt (small1000 hz), fun p hp => q _ _ (s1.trans (same_new hp)) (.tup (minus_of (s1.free hp) upd_same) (h1.same (minus_right (same_new hp))))⟩
theorem pd_lst (h : PA X es (tDs ds)) (hz : ds.length ≤ 1000) : PE X (.List es pos) (tD (.list ds)) := pe_imp (pe_lstN h) fun σ H Q q => by
  intro vs H1 s1 h1
  refine ⟨by rw [h1.length]; exact Nat.le_of_lt (small1000 hz), fun p hp np => q _ _ (s1.trans (same_new hp)) (.lst (minus_of (s1.free hp) upd_same) np (h1.same (minus_right (same_new hp))))⟩
theorem pd_dict0 : PE X (.Dict [] [] pos) (tD (.dict [])) := pe_imp pe_dnewK fun σ H Q q => by
  intro p hp
  exact q _ _ (same_new hp) (.dct (kvs := []) (minus_of hp upd_same) .nil .nil)
theorem pd_dict1 {z : Str} {k : Expr} (hk : PE X k (tC (.str z))) (h : PE X e (tD d)) : PE X (.Dict [some k] [e] pos) (tD (.dict [(.str z, d)])) := pe_imp (pe_disp (pps_cons hk h pps_nil) (by rfl) (by rfl) (fun z => by cases z) (by show 1 ≤ 15; decide)) fun σ H Q q => by
  intro p hp v H1 s1 h1
  have e1 := s1 _ _ (upd_same (H := H) (a := p) (o := .dK []))
  refine ⟨e1, [(.inr z, v)], rfl, (by show 1 ≤ 15; decide), q _ _ (fun b o e => ?_) ?_⟩
  · have nb := ne_of_none e hp
    rw [upd_ne nb]
    exact s1 _ _ (by rw [upd_ne nb]; exact e)
  · refine .dct (kvs := [(.inr z, v)]) (minus_of hp upd_same) (.cons (.str z) .nil) (.cons (h1.same fun b o e => ?_) .nil)
    obtain ⟨h3, h4⟩ := minus_some.mp e
    have nb : b ≠ p := fun z => by
      rw [z, upd_same] at h3
      cases h3
    rw [upd_ne nb] at h3
    exact minus_of h3 (by rw [upd_ne nb]; exact h4)
end
end GD
namespace GD
open PySem PySem.Spec PyProof.Rows L2
/-- a pot at a: what is left of the own number, the small one, how many were taken (at most z) -/
def PotAt (H : Hp) (a : Addr) (z : Int) : Prop := ∃ x y c : Int, H a = some (.lst [.int x, .int y, .int c]) ∧ 0 ≤ x ∧ 0 ≤ y ∧ y < 2305843009213693921 ∧ 0 ≤ c ∧ c ≤ z
/-- all but a is as it was -/
def Keep (a : Addr) (H H' : Hp) : Prop := ∀ b o, b ≠ a → H b = some o → H' b = some o

def spPot (K : PySem.W.Frag) : Sp := fun vs H Q _ => ∃ (s : Addr) (ns : List Int) (pl : Int), vs = [.ref s, .int pl] ∧ SqL K H s (ns.map V.int) ∧ 0 ≤ pl ∧ pl ≤ 1000 ∧
  ∀ (p : Addr) H', H p = none → PotAt H' p 0 → Same H H' → Q (.ref p) H'
def spTake : Sp := fun vs H Q _ => ∃ (a : Addr) (u z : Int), vs = [.ref a, .int u] ∧ PotAt H a z ∧ z ≤ 100000 ∧ 0 < u ∧ u ≤ 100000 ∧
  ∀ (k : Int) H', 0 ≤ k → k < u → PotAt H' a (z + 1) → Keep a H H' → Q (.int k) H'
def spOf (K : PySem.W.Frag) : Sp := fun vs H Q _ => ∃ (a l : Addr) (xs : List V) (z : Int), vs = [.ref a, .ref l] ∧ PotAt H a z ∧ z ≤ 100000 ∧ l ≠ a ∧ H l = some (.lst xs) ∧ xs ≠ [] ∧ xs.length ≤ 1000 ∧
  ∀ v H', v ∈ xs → PotAt H' a (z + 1) → Keep a H H' → Q v H'
def spCells (K : PySem.W.Frag) : Sp := fun vs H Q _ => ∃ (s : Addr) (ns : List Int) (m : Int), vs = [.ref s, .int m] ∧ SqL K H s (ns.map V.int) ∧ 1 ≤ m ∧ m ≤ 1000 ∧
  ∀ (p : Addr) (n : Int), H p = none → 0 ≤ n → n ≤ m → Q (.ref p) (upd H p (.lst (rgV 0 n)))

structure TxtA (mg : Str → Option Value) : Prop where
  len : mg "len" = none
  abs : mg "abs" = none
  int : mg "int" = none
  max : mg "max" = none
  min : mg "min" = none
  list : mg "list" = none
  range : mg "range" = none

theorem five (c : Int) : ∃ pr : Int, atI [V.int 2147483647, V.int 2147483629, V.int 2147483587, V.int 2147483579, V.int 2147483563] (c % 5) = some (.int pr) ∧ 0 < pr ∧ pr ≤ 2147483647 := by
  have h0 := Int.emod_nonneg c (show (5 : Int) ≠ 0 by decide)
  have h1 := Int.emod_lt_of_pos c (show (0 : Int) < 5 by decide)
  generalize c % 5 = r at h0 h1
  have hr : r = 0 ∨ r = 1 ∨ r = 2 ∨ r = 3 ∨ r = 4 := by omega
  rcases hr with rfl | rfl | rfl | rfl | rfl
  all_goals exact ⟨_, rfl, by decide, by decide⟩
theorem sq_small {k c : Int} (k0 : 0 ≤ k) (k1 : k ≤ 110000) (h0 : 0 ≤ c) (h1 : c ≤ 100001) : 0 ≤ k * c * c ∧ k * c * c ≤ 1152921504606846976 := by
  have a : 0 ≤ k * c := Int.mul_nonneg k0 h0
  have b : k * c ≤ 110000 * 100001 := Int.mul_le_mul k1 h1 h0 (by decide)
  exact ⟨Int.mul_nonneg a h0, Int.le_trans (Int.mul_le_mul b h1 h0 (by decide)) (by decide)⟩
theorem at_ints {ns : List Int} {i : Int} (h0 : 0 ≤ i) (h1 : i < ((ns.map V.int).length : Nat)) : ∃ n : Int, atI (ns.map V.int) i = some (.int n) := by
  obtain ⟨j, rfl⟩ := Int.eq_ofNat_of_zero_le h0
  have hj : j < ns.length := by
    rw [List.length_map] at h1
    omega
  exact ⟨ns[j], atI_nat (by rw [List.getElem?_map, List.getElem?_eq_getElem hj]; rfl)⟩
theorem at_mem {xs : List V} {i : Int} (h0 : 0 ≤ i) (h1 : i < (xs.length : Nat)) : ∃ v, atI xs i = some v ∧ v ∈ xs := by
  obtain ⟨j, rfl⟩ := Int.eq_ofNat_of_zero_le h0
  have hj : j < xs.length := by omega
  exact ⟨xs[j], atI_nat (List.getElem?_eq_getElem hj), List.getElem_mem hj⟩
theorem ite_gen {c : Prop} [Decidable c] {ta tb : TE} {σ : L2.St} {H : Hp} {Q : VK} (key : ∀ n : Int, Q (.int n) H) (h : (∀ n : Int, Q (.int n) H) → if c then ta σ H Q else tb σ H Q) : if c then ta σ H Q else tb σ H Q := h key
theorem b01 (b : Bool) : (-(2 ^ 64) < (if b = true then (1 : Int) else 0)) ∧ ((if b = true then (1 : Int) else 0) < 2 ^ 64) ∧ 0 ≤ (if b = true then (1 : Int) else 0) := by cases b <;> decide
theorem mm (m : Int) (l : Nat) (h : 1 ≤ m) : 0 ≤ (if (if (l : Int) < m then (l : Int) else m) > 1 then (if (l : Int) < m then (l : Int) else m) else 1) ∧ (if (if (l : Int) < m then (l : Int) else m) > 1 then (if (l : Int) < m then (l : Int) else m) else 1) ≤ m := by
  split <;> split <;> omega
def CPowB (i j : Int) : Prop := 0 ≤ j ∧ (Builtin.Int.intBits i : Int) * j ≤ 2 ^ 27
theorem op_powB {X : Cx} : OpR X (binaryOp .Pow) (rI CPowB fun i j => .int (i ^ j.toNat)) := opI fun _ _ _ _ _ _ _ hc q => pow_int hc.1 hc.2 q
/-! a value beside a pot at a -/
def Bes (a : Addr) (H : Hp) (v : V) (d : PyData) : Prop := Sh (del H a) v d
theorem del_some {H : Hp} {a b : Addr} {o : HO} : del H a b = some o ↔ b ≠ a ∧ H b = some o := by
  unfold del
  by_cases h : b = a
  · rw [if_pos h]
    exact ⟨fun z => (nomatch z), fun z => absurd h z.1⟩
  · rw [if_neg h]
    exact ⟨fun z => ⟨h, z⟩, fun z => z.2⟩
theorem Bes.keep {a : Addr} {H H' : Hp} {v : V} {d : PyData} (k : Keep a H H') (h : Bes a H v d) : Bes a H' v d := h.same fun b o e => by
  obtain ⟨h1, h2⟩ := del_some.mp e
  exact del_some.mpr ⟨h1, k b o h1 h2⟩
theorem Bes.all {a : Addr} {H : Hp} {v : V} {d : PyData} (h : Bes a H v d) : Sh H v d := h.same fun b o e => (del_some.mp e).2
theorem bes_of {a : Addr} {H H' : Hp} {v : V} {d : PyData} {o : HO} (ha : H a = some o) (h : Sh (minus H H') v d) : Bes a H' v d := h.same fun b u e => by
  obtain ⟨h1, h2⟩ := minus_some.mp e
  refine del_some.mpr ⟨fun z => ?_, h2⟩
  rw [z, ha] at h1
  cases h1
theorem minus_keep {a : Addr} {H H1 H2 : Hp} {o : HO} (ha : H a = some o) (k : Keep a H1 H2) : Same (minus H H1) (minus H H2) := fun b u e => by
  obtain ⟨h1, h2⟩ := minus_some.mp e
  refine minus_of h1 (k b u (fun z => ?_) h2)
  rw [z, ha] at h1
  cases h1
theorem keep_new {a p : Addr} {H : Hp} {o : HO} (h : H p = none) : Keep a H (upd H p o) := fun b u _ e => same_new h b u e
theorem Keep.trans {a : Addr} {H H1 H2 : Hp} (x : Keep a H H1) (y : Keep a H1 H2) : Keep a H H2 := fun b o n e => y b o n (x b o n e)
theorem sKeep {a : Addr} {H H1 : Hp} (x : Same H H1) : Keep a H H1 := fun b o _ e => x b o e
theorem PotAt.there {H : Hp} {a : Addr} {z : Int} (h : PotAt H a z) : ∃ o, H a = some o := by
  obtain ⟨x, y, c, e, _⟩ := h
  exact ⟨_, e⟩
theorem PotAt.same {H H' : Hp} {a : Addr} {z : Int} (k : Same H H') (h : PotAt H a z) : PotAt H' a z := by
  obtain ⟨x, y, c, e, r⟩ := h
  exact ⟨x, y, c, k _ _ e, r⟩
theorem PotAt.le {H : Hp} {a : Addr} {z y : Int} (h : PotAt H a z) (l : z ≤ y) : PotAt H a y := by
  obtain ⟨x, y, c, e, r1, r2, r3, r4, r5⟩ := h
  exact ⟨x, y, c, e, r1, r2, r3, r4, by omega⟩
theorem PotAt.upd_ne {H : Hp} {a b : Addr} {z : Int} {o : HO} (n : b ≠ a) (h : PotAt H a z) : PotAt (upd H b o) a z := by
  obtain ⟨x, y, c, e, r⟩ := h
  exact ⟨x, y, c, (L2.upd_ne n.symm).trans e, r⟩
/-! the menu -/
abbrev dI (i : Int) : PyData := .int i
abbrev dS (x : Str) : PyData := .str x
def some18 : List PyData := [.none, .bool true, .bool false, dI 0, dI 1, dI (-1), dI 41, dI (10 ^ 8), dS "", dS "a", dS "begin", dS "let", .tuple [], .list [], .dict [], .tuple [dI 0], .tuple [.tuple []], .list [dI 0]]
def more7 : List PyData := [.tuple [.tuple [dI 0, dI 0]], .tuple [.tuple [dS "begin", dS "a"]], .tuple [dS "let", .tuple [.tuple [dI 0, dI 0]]], .tuple [dI 1, .tuple [], .tuple []], .tuple [dS "never"], dS "always", .tuple [dS "a"]]
def oddD : List PyData := some18 ++ (more7 ++ [.dict [(dS "a", dI 1)]])
def niceB (d : PyData) : Bool := d.showable && (decide (d.depth ≤ 20) && decide (d.shown.length ≤ sizeLine))
theorem nice_of {d : PyData} (h : niceB d = true) : NiceD d := by
  unfold niceB at h
  rw [Bool.and_eq_true, Bool.and_eq_true] at h
  exact ⟨h.1, of_decide_eq_true h.2.1, of_decide_eq_true h.2.2⟩
def wraps (d : PyData) : List PyData := [d, .tuple [d, dI 3], .list [d], .dict [(dS "a", d)]]
theorem odd_nice : (oddD.all fun d => (wraps d).all niceB) = true := by decide +kernel
theorem nice_wrap {d w : PyData} (h : d ∈ oddD) (hw : w ∈ wraps d) : NiceD w := nice_of (List.all_eq_true.mp (List.all_eq_true.mp odd_nice d h) w hw)

def spOdd : Sp := fun vs H Q _ => ∃ (a : Addr) (z : Int), vs = [.ref a] ∧ PotAt H a z ∧ z ≤ 10000 ∧
  ∀ v d H', d ∈ oddD → PotAt H' a (z + 1) → Keep a H H' → Sh (minus H H') v d → Q v H'
end GD
namespace GD
open PySem PySem.Spec PyProof.Rows L2
/-! frozen data: tuples of tuples, ints, texts: no step of any def changes them -/
mutual
inductive Fz (H : Hp) : V → PyData → Prop
  | non : Fz H .non .none
  | bl (b : Bool) : Fz H (.bl b) (.bool b)
  | int (i : Int) : Fz H (.int i) (.int i)
  | str (x : Str) : Fz H (.str x) (.str x)
  | tup {a : Addr} {xs : List V} {ds : List PyData} : H a = some (.tup xs) → FzAll H xs ds → Fz H (.ref a) (.tuple ds)
inductive FzAll (H : Hp) : List V → List PyData → Prop
  | nil : FzAll H [] []
  | cons {x : V} {d : PyData} {xs : List V} {ds : List PyData} : Fz H x d → FzAll H xs ds → FzAll H (x :: xs) (d :: ds)
end
def Tups (H H' : Hp) : Prop := ∀ b xs, H b = some (.tup xs) → H' b = some (.tup xs)
theorem Tups.refl (H : Hp) : Tups H H := fun _ _ e => e
theorem Tups.trans {H H1 H2 : Hp} (x : Tups H H1) (y : Tups H1 H2) : Tups H H2 := fun b xs e => y b xs (x b xs e)
theorem tups_same {H H' : Hp} (k : Same H H') : Tups H H' := fun b xs e => k b _ e
theorem tups_new {H : Hp} {p : Addr} {o : HO} (h : H p = none) : Tups H (upd H p o) := tups_same (same_new h)
theorem tups_lst {H : Hp} {p : Addr} {o : HO} {xs : List V} (h : H p = some (.lst xs)) : Tups H (upd H p o) := fun b ys e => by
  rw [upd_ne (ne_of e h (fun z => by cases z))]
  exact e
theorem tups_dK {H : Hp} {p : Addr} {o : HO} {kvs : List (Key × V)} (h : H p = some (.dK kvs)) : Tups H (upd H p o) := fun b ys e => by
  rw [upd_ne (ne_of e h (fun z => by cases z))]
  exact e
theorem Keep.tups {a : Addr} {H H' : Hp} {xs : List V} (ha : H a = some (.lst xs)) (k : Keep a H H') : Tups H H' := fun b ys e => k b _ (ne_of e ha (fun z => by cases z)) e
theorem PotAt.tups {a : Addr} {H H' : Hp} {z : Int} (p : PotAt H a z) (k : Keep a H H') : Tups H H' := by
  obtain ⟨x, y, c, e, _⟩ := p
  exact k.tups e
mutual
theorem Fz.mv {H H' : Hp} (k : Tups H H') : ∀ {v : V} {d : PyData}, Fz H v d → Fz H' v d
  | _, _, .non => .non
  | _, _, .bl b => .bl b
  | _, _, .int i => .int i
  | _, _, .str x => .str x
  | _, _, .tup h t => .tup (k _ _ h) (FzAll.mv k t)
theorem FzAll.mv {H H' : Hp} (k : Tups H H') : ∀ {v : List V} {d : List PyData}, FzAll H v d → FzAll H' v d
  | _, _, .nil => .nil
  | _, _, .cons a b => .cons (Fz.mv k a) (FzAll.mv k b)
end
mutual
theorem Fz.dp {K : PySem.W.Frag} {H : Hp} : ∀ {v : V} {d : PyData}, Fz H v d → Dp K H v d
  | _, _, .non => .non
  | _, _, .bl b => .bl b
  | _, _, .int i => .int i
  | _, _, .str x => .str x
  | _, _, .tup h t => .tup (SqT.of h) (FzAll.dp t)
theorem FzAll.dp {K : PySem.W.Frag} {H : Hp} : ∀ {v : List V} {d : List PyData}, FzAll H v d → DpAll K H v d
  | _, _, .nil => .nil
  | _, _, .cons a b => .cons (Fz.dp a) (FzAll.dp b)
end
mutual
theorem Fz.sh {H : Hp} : ∀ {v : V} {d : PyData}, Fz H v d → Sh H v d
  | _, _, .non => .non
  | _, _, .bl b => .bl b
  | _, _, .int i => .int i
  | _, _, .str x => .str x
  | _, _, .tup h t => .tup h (FzAll.sh t)
theorem FzAll.sh {H : Hp} : ∀ {v : List V} {d : List PyData}, FzAll H v d → ShAll H v d
  | _, _, .nil => .nil
  | _, _, .cons a b => .cons (Fz.sh a) (FzAll.sh b)
end
section
variable {H : Hp}
theorem Fz.i {v : V} {i : Int} (h : Fz H v (.int i)) : v = .int i := by cases h; rfl
theorem Fz.s {v : V} {x : Str} (h : Fz H v (.str x)) : v = .str x := by cases h; rfl
theorem Fz.t {v : V} {ds : List PyData} (h : Fz H v (.tuple ds)) : ∃ a xs, v = .ref a ∧ H a = some (.tup xs) ∧ FzAll H xs ds := by
  cases h with
  | tup e t => exact ⟨_, _, rfl, e, t⟩
theorem Fz.t2 {v : V} {d e : PyData} (h : Fz H v (.tuple [d, e])) : ∃ a x y, v = .ref a ∧ H a = some (.tup [x, y]) ∧ Fz H x d ∧ Fz H y e := by
  obtain ⟨a, xs, rfl, ha, t⟩ := h.t
  cases t with
  | cons p t =>
    cases t with
    | cons q t =>
      cases t
      exact ⟨a, _, _, rfl, ha, p, q⟩
theorem Fz.t3 {v : V} {d e f : PyData} (h : Fz H v (.tuple [d, e, f])) : ∃ a x y z, v = .ref a ∧ H a = some (.tup [x, y, z]) ∧ Fz H x d ∧ Fz H y e ∧ Fz H z f := by
  obtain ⟨a, xs, rfl, ha, t⟩ := h.t
  cases t with
  | cons p t =>
    cases t with
    | cons q t =>
      cases t with
      | cons r t =>
        cases t
        exact ⟨a, _, _, _, rfl, ha, p, q, r⟩
theorem FzAll.len : ∀ {xs : List V} {ds : List PyData}, FzAll H xs ds → xs.length = ds.length
  | _, _, .nil => rfl
  | _, _, .cons _ t => by rw [List.length_cons, List.length_cons, FzAll.len t]
theorem FzAll.get : ∀ {xs : List V} {ds : List PyData} {i : Nat} {d : PyData}, FzAll H xs ds → ds[i]? = some d → ∃ x, xs[i]? = some x ∧ Fz H x d
  | _, _, _, _, .nil, h => by simp at h
  | _, _, 0, _, .cons a t, h => by
    simp at h
    subst h
    exact ⟨_, rfl, a⟩
  | _, _, i + 1, _, .cons a t, h => by
    obtain ⟨x, h1, h2⟩ := FzAll.get (i := i) t (by simpa using h)
    exact ⟨x, by simpa using h1, h2⟩
theorem FzAll.at : ∀ {xs : List V} {ds : List PyData} {i : Nat} {x : V}, FzAll H xs ds → xs[i]? = some x → ∃ d, ds[i]? = some d ∧ Fz H x d
  | _, _, _, _, .nil, h => by simp at h
  | _, _, 0, _, .cons a t, h => by
    simp at h
    subst h
    exact ⟨_, rfl, a⟩
  | _, _, i + 1, _, .cons a t, h => by
    obtain ⟨x, h1, h2⟩ := FzAll.at (i := i) t (by simpa using h)
    exact ⟨x, by simpa using h1, h2⟩
theorem FzAll.append : ∀ {xs ys : List V} {ds es : List PyData}, FzAll H xs ds → FzAll H ys es → FzAll H (xs ++ ys) (ds ++ es)
  | _, _, _, _, .nil, b => b
  | _, _, _, _, .cons a t, b => .cons a (FzAll.append t b)
theorem FzAll.snoc {xs : List V} {x : V} {ds : List PyData} {d : PyData} (a : FzAll H xs ds) (b : Fz H x d) : FzAll H (xs ++ [x]) (ds ++ [d]) := a.append (.cons b .nil)
theorem FzAll.take : ∀ {xs : List V} {ds : List PyData} (n : Nat), FzAll H xs ds → FzAll H (xs.take n) (ds.take n)
  | _, _, 0, _ => .nil
  | _, _, _ + 1, .nil => .nil
  | _, _, n + 1, .cons a t => .cons a (FzAll.take n t)
theorem FzAll.drop : ∀ {xs : List V} {ds : List PyData} (n : Nat), FzAll H xs ds → FzAll H (xs.drop n) (ds.drop n)
  | _, _, 0, r => r
  | _, _, _ + 1, .nil => .nil
  | _, _, n + 1, .cons _ t => FzAll.drop n t
theorem FzAll.erase : ∀ {xs : List V} {ds : List PyData} (n : Nat), FzAll H xs ds → FzAll H (xs.eraseIdx n) (ds.eraseIdx n)
  | _, _, _, .nil => .nil
  | _, _, 0, .cons _ t => t
  | _, _, n + 1, .cons a t => .cons a (FzAll.erase n t)
theorem fz_strs : ∀ ys : List Str, FzAll H (ys.map V.str) (ys.map PyData.str)
  | [] => .nil
  | y :: ys => .cons (.str y) (fz_strs ys)
theorem FzAll.strs : ∀ {xs : List V} {ys : List Str}, FzAll H xs (ys.map PyData.str) → xs = ys.map V.str
  | _, [], h => by cases h; rfl
  | _, y :: ys, h => by
    cases h with
    | cons a t => rw [a.s, FzAll.strs t]; rfl
theorem Fz.has {x : V} {xs : List V} {ds : List PyData} (a : FzAll H xs ds) (m : x ∈ xs) : ∃ d ∈ ds, Fz H x d := by
  obtain ⟨i, hi, e⟩ := List.getElem_of_mem m
  obtain ⟨d, h1, h2⟩ := a.at (i := i) (x := x) (by rw [List.getElem?_eq_getElem hi, e])
  exact ⟨d, List.mem_of_getElem? h1, h2⟩
end
/-- a list of frozen data -/
def LstAt (H : Hp) (l : Addr) (ds : List PyData) : Prop := ∃ xs, H l = some (.lst xs) ∧ FzAll H xs ds
theorem LstAt.keep {a l : Addr} {H H' : Hp} {ds : List PyData} (n : l ≠ a) (k : Keep a H H') (t : Tups H H') (h : LstAt H l ds) : LstAt H' l ds := by
  obtain ⟨xs, e, f⟩ := h
  exact ⟨xs, k _ _ n e, f.mv t⟩
theorem LstAt.same {l : Addr} {H H' : Hp} {ds : List PyData} (k : Same H H') (h : LstAt H l ds) : LstAt H' l ds := by
  obtain ⟨xs, e, f⟩ := h
  exact ⟨xs, k _ _ e, f.mv (tups_same k)⟩
/-! how such data are read -/
abbrev Stn := List (Int × Int)
def eP (p : Int × Int) : PyData := .tuple [.int p.1, .int p.2]
def eS (s : Stn) : PyData := .tuple (s.map eP)
def eE (e : Str × Str) : PyData := .tuple [.str e.1, .str e.2]
inductive Fact where
  | let_ (s : Stn)
  | not_ (s : Stn)
  | as_ (s t : Stn)
def eF : Fact → PyData
  | .let_ s => .tuple [.str "let", eS s]
  | .not_ s => .tuple [.str "not", eS s]
  | .as_ s t => .tuple [.str "as", eS s, eS t]
/-! what a pot's taker leaves: the pot a little emptier, all else as it was, and a new object perhaps -/
def OutAt (H : Hp) (a : Addr) (z : Int) (H' : Hp) : Prop := PotAt H' a z ∧ Keep a H H'
end GD
namespace K04
open PySem PySem.Spec PyProof.Rows L2 GD
def top (i : Nat) : Stmt := PySem.Challenge.pw_unseenstocks_k04_equal_books.main.body.getD i (.Pass ⟨0, 0, 0, 0⟩)
abbrev sPot : Stmt := top 37
abbrev sTake : Stmt := top 38
abbrev sOf : Stmt := top 39
abbrev sSome : Stmt := top 40
abbrev sCells : Stmt := top 41
abbrev sOdd : Stmt := top 42
abbrev sNames : Stmt := top 43
abbrev sJobs : Stmt := top 44
abbrev sAnyManners : Stmt := top 45
abbrev sFirst : Stmt := top 46
abbrev sBehind : Stmt := top 47
abbrev sCanCome : Stmt := top 48
abbrev sEvents : Stmt := top 49
abbrev sStanding : Stmt := top 50
abbrev sChange : Stmt := top 51
abbrev sStock : Stmt := top 52
abbrev sLevel : Stmt := top 53
abbrev sLets : Stmt := top 54
abbrev sHeardFacts : Stmt := top 55
abbrev sAlikeFacts : Stmt := top 56
abbrev sFew : Stmt := top 57
abbrev sLore : Stmt := top 58
abbrev sStandingText : Stmt := top 59
abbrev sFactLine : Stmt := top 60
abbrev sLines : Stmt := top 61
abbrev sText : Stmt := top 62
abbrev sBook : Stmt := top 63
abbrev sOthers : Stmt := top 64
abbrev sRight : Stmt := top 65
abbrev sLaw : Stmt := top 66
section
variable {P : Program} {w : World} {K : PySem.W.Frag} {mg : Str → Option Value} {base : Heap}
theorem scT : FnScope ["_law_pot_here", "_law_upto", "_law_digit", "_law_prime", "_law_mixed"] ["_law_pot_here", "_law_upto"] (defScope sTake) := ⟨rfl, rfl, rfl, by decide +kernel, rfl, by decide +kernel, by decide +kernel⟩
theorem ok_take {f : Addr} {fd : FuncData} (F : Fun K "_law_take" "_law_take" sTake f fd) (T : TxtA mg) : FnOk P w K mg base CX0 1 f fd ["_law_pot_here", "_law_upto"] spTake := by
  refine F.ok scT (fun vs H Q E h => ?_) (fun cdv A outer s H vs Q E hr h => ?_)
  · obtain ⟨a, u, z, rfl, _⟩ := h
    rfl
  · obtain ⟨a, u, z, rfl, ⟨x, y, c, hp, hx, hy, hy2, hc, hc2⟩, hz, hu, hu2, k⟩ := h
    refine ⟨_, pss_cons (ps_if (pt_cmpR op_gt (pe_ix ix_list (pv 0) pe_int (fun _ _ => rfl)) pe_int (nomark _))
        (pss_cons (ps_set (i := 2) scT.nd rfl (.inl rfl) (pe_op op_mod (pe_callTy call_int1 (by rfl) T.int (by decide +kernel) (pa_cons (pe_ix ix_list (pv 0) pe_int (fun _ _ => rfl)) pa_nil)) (pv 1)))
          (pss_cons (ps_asg (pe_op op_fdivN (pe_ix ix_list (pv 0) pe_int (fun _ _ => rfl)) (pv 1)) (pg_sub (pv 0) pe_int set_list))
            (pss_one (ps_ret (pv 2))))) pss_nil)
      (pss_cons (ps_asg (pe_op op_add (pe_ix ix_list (pv 0) pe_int (fun _ _ => rfl)) pe_int) (pg_sub (pv 0) pe_int set_list))
      (pss_cons (ps_set (i := 3) scT.nd rfl (.inl rfl) (pe_ix ix_list (pe_lst (pa_cons pe_int (pa_cons pe_int (pa_cons pe_int (pa_cons pe_int (pa_cons pe_int pa_nil))))))
          (pe_op op_mod (pe_callTy call_int1 (by rfl) T.int (by decide +kernel) (pa_cons (pe_ix ix_list (pv 0) pe_int (fun _ _ => rfl)) pa_nil)) pe_int) (fun _ _ => rfl)))
      (pss_cons (ps_set (i := 4) scT.nd rfl (.inl rfl) (pe_op op_mod (pe_callTy call_int1 (by rfl) T.int (by decide +kernel) (pa_cons
          (pe_op op_pow (pe_callTy call_int1 (by rfl) T.int (by decide +kernel) (pa_cons (pe_op op_add (pe_op op_add (pe_ix ix_list (pv 0) pe_int (fun _ _ => rfl))
            (pe_op op_mul (pe_op op_mul pe_int (pe_ix ix_list (pv 0) pe_int (fun _ _ => rfl))) (pe_ix ix_list (pv 0) pe_int (fun _ _ => rfl)))) pe_int) pa_nil)) pe_int) pa_nil)) (pv 3)))
      (pss_cons (ps_set (i := 4) scT.nd rfl (.inl rfl) (pe_op op_mod (pe_callTy call_int1 (by rfl) T.int (by decide +kernel) (pa_cons
          (pe_op op_mul (pv 4) (pe_op op_add (pe_op op_mod (pe_callTy call_int1 (by rfl) T.int (by decide +kernel) (pa_cons (pv 4) pa_nil)) pe_int)
            (pe_op op_mul pe_int (pe_ix ix_list (pv 0) pe_int (fun _ _ => rfl))))) pa_nil)) pe_int))
      (pss_one (ps_ret (pe_op op_mod (pe_callTy call_int1 (by rfl) T.int (by decide +kernel) (pa_cons (pe_op op_fdiv (pv 4) pe_int) pa_nil)) (pv 1)))))))), ?_⟩
    refine ⟨_, rfl, a, _, 0, _, rfl, rfl, SqL.of hp, rfl, _, _, rfl, rfl, _, rfl, ?_⟩
    refine ite2 (fun _ => ?_) (fun _ => ?_)
    · refine ⟨_, rfl, a, _, 0, _, rfl, rfl, SqL.of hp, rfl, .inl ⟨_, rfl, ?_⟩⟩
      refine ⟨_, rfl, _, _, rfl, rfl, hu, ?_⟩
      refine ⟨_, rfl, a, _, 0, _, rfl, rfl, SqL.of hp, rfl, _, rfl, _, _, rfl, rfl, ⟨by omega, by omega⟩, _, rfl, a, _, 0, 0, rfl, rfl, hp, rfl, _, rfl, ?_⟩
      refine k _ _ (Int.emod_nonneg _ (by omega)) (Int.emod_lt_of_pos _ hu) ⟨_, y, c, upd_same, ?_, hy, hy2, hc, by omega⟩ fun b o hb e => ?_
      · rw [Int.fdiv_eq_ediv_of_nonneg x (by omega)]
        exact Int.ediv_nonneg hx (by omega)
      · rw [upd_ne hb]
        exact e
    · refine ⟨_, rfl, a, _, 2, _, rfl, rfl, SqL.of hp, rfl, _, _, rfl, rfl, _, rfl, a, _, 2, 2, rfl, rfl, hp, rfl, ?_⟩
      obtain ⟨pr, hpr, hp0, hp1⟩ := five (c + 1)
      have hq := sq_small (k := 100979) (c := c + 1) (by decide) (by decide) (by omega) (by omega)
      refine ⟨(by show 5 ≤ sizeLine; decide), fun p np => ?_⟩
      have npa : p ≠ a := fun e => by
        rw [e, upd_same] at np
        cases np
      have h2 : ∀ o, upd (upd H a (.lst [.int x, .int y, .int (c + 1)])) p o a = some (.lst [.int x, .int y, .int (c + 1)]) := fun o => (upd_ne npa.symm).trans upd_same
      refine ⟨_, rfl, a, _, 2, _, rfl, rfl, SqL.of (h2 _), rfl, .inl ⟨_, rfl, _, _, rfl, rfl, (by show (0 : Int) < 5; decide), p, _, _, _, rfl, rfl, SqL.of upd_same, hpr, ?_⟩⟩
      refine ⟨_, rfl, a, _, 1, _, rfl, rfl, SqL.of (h2 _), rfl, _, rfl, a, _, 2, _, rfl, rfl, SqL.of (h2 _), rfl, _, _, rfl, rfl, .inl ⟨by decide, by decide⟩, _, rfl, a, _, 2, _, rfl, rfl, SqL.of (h2 _), rfl, _, _, rfl, rfl, .inr ⟨by omega, by omega⟩, _, _, rfl, rfl, _, _, rfl, rfl, .inl ⟨_, rfl, ?_⟩⟩
      refine ⟨_, _, rfl, rfl, ⟨by decide, by decide, by omega⟩, .inl ⟨_, rfl, _, rfl, _, _, rfl, rfl, hp0, ?_⟩⟩
      have m0 := Int.emod_nonneg ((y + 100979 * (c + 1) * (c + 1) + 71) ^ (3 : Int).toNat) (show pr ≠ 0 by omega)
      have m1 := Int.emod_lt_of_pos ((y + 100979 * (c + 1) * (c + 1) + 71) ^ (3 : Int).toNat) hp0
      refine ⟨_, rfl, _, rfl, .inl ⟨_, rfl, _, _, rfl, rfl, (by show (0 : Int) < 10111; decide), _, rfl, a, _, 2, _, rfl, rfl, SqL.of (h2 _), rfl, _, _, rfl, rfl, .inl ⟨by decide, by decide⟩, _, _, rfl, rfl, _, _, rfl, rfl, .inl ⟨by omega, by omega⟩, .inl ⟨_, rfl, _, _, rfl, rfl, (by show (0 : Int) < 2305843009213693907; decide), ?_⟩⟩⟩
      refine ⟨_, rfl, _, _, rfl, rfl, ⟨by decide, by decide⟩, .inl ⟨_, rfl, _, rfl, _, _, rfl, rfl, hu, ?_⟩⟩
      refine k _ _ (Int.emod_nonneg _ (by omega)) (Int.emod_lt_of_pos _ hu) ⟨x, y, c + 1, h2 _, hx, hy, hy2, by omega, by omega⟩ fun b o hb e => ?_
      have hbp : b ≠ p := fun z => by
        rw [z] at e
        rw [upd_ne npa] at np
        rw [np] at e
        cases e
      rw [upd_ne hbp, upd_ne hb]
      exact e
theorem scP : FnScope ["_law_script", "_law_place", "_law_cell", "_law_own", "_law_small"] ["_law_script", "_law_place"] (defScope sPot) := ⟨rfl, rfl, rfl, by decide +kernel, rfl, by decide +kernel, by decide +kernel⟩
theorem ok_pot {f : Addr} {fd : FuncData} (F : Fun K "_law_pot" "_law_pot" sPot f fd) (T : TxtA mg) : FnOk P w K mg base CX0 1 f fd ["_law_script", "_law_place"] (spPot K) := by
  refine F.ok scP (fun vs H Q E h => ?_) (fun cdv A outer s H vs Q E hr h => ?_)
  · obtain ⟨a, u, z, rfl, _⟩ := h
    rfl
  · obtain ⟨a, ns, pl, rfl, hs, hp0, hp1, k⟩ := h
    refine ⟨_, pss_cons (ps_set (i := 2) scP.nd rfl (.inl rfl) (pe_ifExp (pt_cmpR op_lt (pv 1) (pe_callB call_len_seq (by rfl) T.len PySem.boot_len (pa_cons (pv 0) pa_nil)) (nomark _)) (pe_ix ix_list (pv 0) (pv 1) (fun _ _ => rfl)) (pe_op op_add (pe_op op_mul pe_int (pv 1)) pe_int)))
      (pss_cons (ps_set (i := 3) scP.nd rfl (.inl rfl) (pe_op op_mul (pe_op op_mod (pe_callTy call_int1 (by rfl) T.int (by decide +kernel) (pa_cons (pe_callB call_abs (by rfl) T.abs (by decide +kernel) (pa_cons (pv 2) pa_nil)) pa_nil)) (pe_op op_powB (pe_op op_pow pe_int pe_int) pe_int))
          (pe_callTy call_int1 (by rfl) T.int (by decide +kernel) (pa_cons (pe_cmpR op_ge (pe_callB call_abs (by rfl) T.abs (by decide +kernel) (pa_cons (pv 2) pa_nil)) (pe_op op_pow pe_int pe_int) (nomark _)) pa_nil))))
      (pss_cons (ps_set (i := 4) scP.nd rfl (.inl rfl) (pe_op op_mod (pe_callTy call_int1 (by rfl) T.int (by decide +kernel) (pa_cons (pv 2) pa_nil)) pe_int))
      (pss_one (ps_ret (pe_lst (pa_cons (pv 3) (pa_cons (pe_op op_mod (pe_callTy call_int1 (by rfl) T.int (by decide +kernel) (pa_cons
        (pe_op op_add (pe_op op_add (pe_op op_mul (pv 4) pe_int) (pe_op op_mul (pe_op op_mul pe_int (pv 1)) (pv 1))) pe_int) pa_nil)) pe_int) (pa_cons pe_int pa_nil)))))))), ?_⟩
    refine ⟨_, rfl, _, rfl, a, _, rfl, .inl hs, _, _, rfl, rfl, _, rfl, ?_⟩
    refine ite_gen (fun n => ?_) (fun key => ?_)
    · refine ⟨_, rfl, _, rfl, .inl ⟨_, rfl, ?_⟩⟩
      refine ⟨_, _, rfl, rfl, ⟨by decide, by decide, by decide⟩, _, _, rfl, rfl, ⟨by decide, by decide +kernel⟩, _, _, rfl, rfl, (by show (0 : Int) < _; decide +kernel), ?_⟩
      refine ⟨_, rfl, _, rfl, _, _, rfl, rfl, ⟨by decide, by decide, by decide⟩, _, _, rfl, rfl, .inr ⟨_, rfl, _, _, rfl, rfl, .inr ⟨(b01 _).1, (b01 _).2.1⟩, ?_⟩⟩
      refine ⟨_, rfl, .inl ⟨_, rfl, _, _, rfl, rfl, (by show (0 : Int) < _; decide), ?_⟩⟩
      have s0 := Int.emod_nonneg n (show (2305843009213693951 : Int) ≠ 0 by decide)
      have s1 := Int.emod_lt_of_pos n (show (0 : Int) < 2305843009213693951 by decide)
      refine ⟨_, rfl, _, rfl, _, _, rfl, rfl, .inr ⟨by decide, by decide⟩, _, rfl, _, _, rfl, rfl, .inl ⟨by decide, by decide⟩, _, rfl, _, _, rfl, rfl, .inr ⟨by omega, by omega⟩, _, _, rfl, rfl, _, _, rfl, rfl, .inl ⟨_, rfl, _, _, rfl, rfl, (by show (0 : Int) < _; decide), ?_⟩⟩
      refine ⟨(by show 3 ≤ sizeLine; decide), fun p np => k p _ np ⟨_, _, _, upd_same, ?_, Int.emod_nonneg _ (by decide), Int.emod_lt_of_pos _ (by decide), by decide, by decide⟩ fun b o e => ?_⟩
      · refine Int.mul_nonneg (Int.emod_nonneg _ (by decide +kernel)) (b01 _).2.2
      · rw [upd_ne (ne_of_none e np)]
        exact e
    · refine ite2 (fun c => ?_) (fun c => ?_)
      · obtain ⟨n, hn⟩ := at_ints hp0 (of_decide_eq_true c)
        exact ⟨_, rfl, _, rfl, a, _, _, _, rfl, rfl, hs, hn, key n⟩
      · exact ⟨_, rfl, _, _, rfl, rfl, .inl ⟨by decide, by decide⟩, _, _, rfl, rfl, key _⟩
theorem scO : FnScope ["_law_pot_here", "_law_some_here"] ["_law_pot_here", "_law_some_here"] (defScope sOf) := ⟨rfl, rfl, rfl, by decide +kernel, rfl, by decide +kernel, by decide +kernel⟩
theorem ok_of {f fT : Addr} {fd fdT : FuncData} (F : Fun K "_law_of" "_law_of" sOf f fd) (T : TxtA mg) (FT : Fun K "_law_take" "_law_take" sTake fT fdT) (gT : mg "_law_take" = some (.ref fT)) (bT : Binds K fdT ["_law_pot_here", "_law_upto"] []) :
    FnOk P w K mg base CX0 2 f fd ["_law_pot_here", "_law_some_here"] (spOf K) := by
  have GT : FnOk P w K mg base CX0 1 fT fdT ["_law_pot_here", "_law_upto"] spTake := ok_take FT T
  refine F.ok scO (fun vs H Q E h => ?_) (fun cdv A outer s H vs Q E hr h => ?_)
  · obtain ⟨a, l, xs, z, rfl, _⟩ := h
    rfl
  · obtain ⟨a, l, xs, z, rfl, hp, hz, hla, hl, hne, hlen, k⟩ := h
    refine ⟨_, pss_one (ps_ret (pe_ix ix_list (pv 1) (pe_call GT hr rfl gT FT.kp bT .nil pass0 (pa_cons (pv 0) (pa_cons (pe_callB call_len_seq (by rfl) T.len PySem.boot_len (pa_cons (pv 1) pa_nil)) pa_nil))) (fun _ _ => rfl))), ?_⟩
    have hpos : 0 < xs.length := List.length_pos_iff.mpr hne
    refine ⟨_, rfl, _, rfl, _, rfl, l, xs, rfl, .inl (SqL.of hl), a, xs.length, z, rfl, hp, hz, by omega, by omega, fun j H' h0 h1 hp' kp => ?_⟩
    obtain ⟨v, hv, hm⟩ := at_mem h0 h1
    exact ⟨l, xs, j, v, rfl, rfl, SqL.of (kp l _ hla hl), hv, k v H' hm hp' kp⟩
theorem scC : FnScope ["_law_script", "_law_most"] ["_law_script", "_law_most"] (defScope sCells) := ⟨rfl, rfl, rfl, by decide +kernel, rfl, by decide +kernel, by decide +kernel⟩
theorem ok_cells {f : Addr} {fd : FuncData} (F : Fun K "_law_cells" "_law_cells" sCells f fd) (T : TxtA mg) : FnOk P w K mg base CX0 1 f fd ["_law_script", "_law_most"] (spCells K) := by
  refine F.ok scC (fun vs H Q E h => ?_) (fun cdv A outer s H vs Q E hr h => ?_)
  · obtain ⟨a, ns, m, rfl, _⟩ := h
    rfl
  · obtain ⟨a, ns, m, rfl, hs, h1, h2, k⟩ := h
    refine ⟨_, pss_one (ps_ret (pe_listRg rfl (by rfl) T.list (prg_1 (by rfl) T.range (pe_callB (call_max2 rfl) (by rfl) T.max (by decide +kernel) (pa_cons pe_int (pa_cons
      (pe_callB (call_min2 rfl) (by rfl) T.min (by decide +kernel) (pa_cons (pv 1) (pa_cons (pe_callB call_len_seq (by rfl) T.len PySem.boot_len (pa_cons (pv 0) pa_nil)) pa_nil))) pa_nil)))))), ?_⟩
    refine ⟨_, rfl, _, rfl, a, _, rfl, .inl hs, _, _, rfl, _, _, rfl, _, rfl, ?_, fun q hq => k q _ hq ?_ ?_⟩
    · have q := (mm m (ns.map V.int).length h1)
      exact RgOk.of_le (by decide) (by omega) (by decide) (by omega)
    · have q := (mm m (ns.map V.int).length h1)
      omega
    · exact (mm m (ns.map V.int).length h1).2
end
section
variable {P : Program} {w : World} {K : PySem.W.Frag} {mg : Str → Option Value} {base : Heap}
theorem scD : FnScope ["_law_pot_here", "_law_some_here", "_law_more"] ["_law_pot_here"] (defScope sOdd) := ⟨rfl, rfl, rfl, by decide +kernel, rfl, by decide +kernel, by decide +kernel⟩
theorem ok_odd {f fO fT : Addr} {fd fdO fdT : FuncData} (F : Fun K "_law_odd" "_law_odd" sOdd f fd) (T : TxtA mg) (FO : Fun K "_law_of" "_law_of" sOf fO fdO) (gO : mg "_law_of" = some (.ref fO)) (bO : Binds K fdO ["_law_pot_here", "_law_some_here"] [])
    (FT : Fun K "_law_take" "_law_take" sTake fT fdT) (gT : mg "_law_take" = some (.ref fT)) (bT : Binds K fdT ["_law_pot_here", "_law_upto"] []) :
    FnOk P w K mg base CX0 3 f fd ["_law_pot_here"] spOdd := by
  have GO : FnOk P w K mg base CX0 2 fO fdO ["_law_pot_here", "_law_some_here"] (spOf K) := ok_of FO T FT gT bT
  refine F.ok scD (fun vs H Q E h => ?_) (fun cdv A outer s H vs Q E hr h => ?_)
  · obtain ⟨a, z, rfl, _⟩ := h
    rfl
  · obtain ⟨a, z, rfl, hp, hz, k⟩ := h
    have i0 : ∀ {X : Cx} {i : Int} {j0 : Nat} {c0 : Pos}, PE X (.Constant (.int i) j0 c0) (tD (dI i)) := pd_c pe_int fun M => .int _
    have x0 : ∀ {X : Cx} {x : Str} {j0 : Nat} {c0 : Pos}, PE X (.Constant (.str x) j0 c0) (tD (dS x)) := pd_c pe_str fun M => .str _
    have t0 : ∀ {X : Cx} {x1 : Nat} {pos : Pos}, PE X (.Tuple [] x1 pos) (tD (.tuple [])) := pd_tup pds_nil (by decide)
    refine ⟨_, pss_cons (ps_set (i := 1) scD.nd rfl (.inl rfl) (pe_lst (pds_cons (pd_c pe_non fun M => .non) (pds_cons (pd_c pe_bl fun M => .bl _) (pds_cons (pd_c pe_bl fun M => .bl _) (pds_cons i0 (pds_cons i0
        (pds_cons (pe_imp (te' := tD (dI (-1))) (pe_un un_neg pe_int) fun σ H Q q => ⟨_, rfl, q _ _ (Same.refl _) (.int _)⟩) (pds_cons i0
        (pds_cons (pe_imp (te' := tD (dI (10 ^ 8))) (pe_op op_pow pe_int pe_int) fun σ H Q q => ⟨_, _, rfl, rfl, ⟨by decide, by decide, by decide⟩, q _ _ (Same.refl _) (.int _)⟩)
        (pds_cons x0 (pds_cons x0 (pds_cons x0 (pds_cons x0 (pds_cons t0 (pds_cons (pd_lst pds_nil (by decide)) (pds_cons pd_dict0 (pds_cons (pd_tup (pds_cons i0 pds_nil) (by decide)) (pds_cons (pd_tup (pds_cons t0 pds_nil) (by decide))
        (pds_cons (pd_lst (pds_cons i0 pds_nil) (by decide)) pds_nil))))))))))))))))))))
      (pss_cons (ps_set (i := 2) scD.nd rfl (.inl rfl) (pe_lst
        (pds_cons (pd_tup (pds_cons (pd_tup (pds_cons i0 (pds_cons i0 pds_nil)) (by decide)) pds_nil) (by decide))
        (pds_cons (pd_tup (pds_cons (pd_tup (pds_cons x0 (pds_cons x0 pds_nil)) (by decide)) pds_nil) (by decide))
        (pds_cons (pd_tup (pds_cons x0 (pds_cons (pd_tup (pds_cons (pd_tup (pds_cons i0 (pds_cons i0 pds_nil)) (by decide)) pds_nil) (by decide)) pds_nil)) (by decide))
        (pds_cons (pd_tup (pds_cons i0 (pds_cons t0 (pds_cons t0 pds_nil))) (by decide))
        (pds_cons (pd_tup (pds_cons x0 pds_nil) (by decide)) (pds_cons x0 (pds_cons (pd_tup (pds_cons x0 pds_nil) (by decide)) pds_nil)))))))))
      (pss_one (ps_ret (pe_call GO hr rfl gO FO.kp bO .nil pass0 (pa_cons (pv 0) (pa_cons (pe_op op_cat (pe_op op_cat (pv 1) (pv 2)) (pe_lst (pds_cons (pd_dict1 pe_str i0) pds_nil))) pa_nil)))))), ?_⟩
    obtain ⟨o, ha⟩ := hp.there
    refine fun vs1 H1 s1 h1 => ⟨by rw [h1.length]; decide, fun l hl => ?_⟩
    have sl := same_new (o := .lst vs1) hl
    refine fun vs2 H2 s2 h2 => ⟨by rw [h2.length]; decide, fun m hm => ?_⟩
    have sm := same_new (o := .lst vs2) hm
    have eL : upd H2 m (.lst vs2) l = some (.lst vs1) := sm _ _ (s2 _ _ upd_same)
    refine ⟨_, rfl, _, rfl, _, rfl, l, m, vs1, vs2, rfl, rfl, eL, upd_same, by rw [h1.length, h2.length]; decide, fun p hp' => ?_⟩
    have sp := same_new (o := .lst (vs1 ++ vs2)) hp'
    refine fun vs3 H3 s3 h3 => ⟨by rw [h3.length]; decide, fun q hq => ?_⟩
    have sq := same_new (o := .lst vs3) hq
    refine ⟨p, q, _, _, rfl, rfl, sq _ _ (s3 _ _ upd_same), upd_same, by rw [List.length_append, h1.length, h2.length, h3.length]; decide, fun r hr' => ?_⟩
    have sr := same_new (o := .lst (vs1 ++ vs2 ++ vs3)) hr'
    have sF3 : Same H3 _ := sq.trans sr
    have sF2 : Same H2 _ := (sm.trans sp).trans (s3.trans sF3)
    have sF1 : Same H1 _ := (sl.trans s2).trans sF2
    have sF : Same H _ := s1.trans sF1
    have nra : r ≠ a := fun z => by
      rw [z] at hr'
      rw [sq _ _ (s3 _ _ (sp _ _ (sm _ _ (s2 _ _ (sl _ _ (s1 _ _ ha))))))] at hr'
      cases hr'
    refine ⟨a, r, _, z, rfl, hp.same sF, by omega, nra, upd_same, fun z => ?_, by rw [List.length_append, List.length_append, h1.length, h2.length, h3.length]; decide, fun v H' hv hP kp => ?_⟩
    · have z2 := congrArg List.length z
      rw [List.length_append, List.length_append, h1.length] at z2
      simp [some18] at z2
    · have fin : ∃ d ∈ oddD, Sh (minus H H') v d := by
        rcases List.mem_append.mp hv with hv | hv
        · rcases List.mem_append.mp hv with hv | hv
          · obtain ⟨d, hd, sh⟩ := h1.mem v hv
            exact ⟨d, List.mem_append_left _ hd, (sh.same (minus_right sF1)).same (minus_keep ha kp)⟩
          · obtain ⟨d, hd, sh⟩ := h2.mem v hv
            exact ⟨d, List.mem_append_right _ (List.mem_append_left _ hd), ((sh.same (minus_left (s1.trans sl))).same (minus_right sF2)).same (minus_keep ha kp)⟩
        · obtain ⟨d, hd, sh⟩ := h3.mem v hv
          exact ⟨d, List.mem_append_right _ (List.mem_append_right _ hd), ((sh.same (minus_left (((s1.trans sl).trans (s2.trans sm)).trans sp))).same (minus_right sF3)).same (minus_keep ha kp)⟩
      obtain ⟨d, hd, b⟩ := fin
      exact k v d H' hd hP (Keep.trans (sKeep sF) kp) b
end
end K04
namespace GD
open PySem PySem.Spec PyProof.Rows L2
theorem seq_nat {k : Int} {n : Nat} (h0 : 0 ≤ k) (h1 : k < (n : Nat)) : seqIndex? k n = some k.toNat := by
  have e : ixN n k = some k.toNat := by
    unfold ixN
    rw [if_pos h0, if_pos h1]
  exact (ixN_seq e).1
theorem keep_upd {a l : Addr} {H H1 : Hp} {o : HO} (k : Keep a H H1) (hl : H l = none) : Keep a H (upd H1 l o) := fun b u n e => by
  rw [upd_ne (ne_of_none e hl)]
  exact k b u n e
theorem same_upd {H H1 : Hp} {l : Addr} {o : HO} (k : Same H H1) (hl : H l = none) : Same H (upd H1 l o) := fun b u e => by
  rw [upd_ne (ne_of_none e hl)]
  exact k b u e
theorem PotAt.ne {a l : Addr} {H : Hp} {z : Int} (p : PotAt H a z) (hl : H l = none) : l ≠ a := fun e => by
  obtain ⟨x, y, c, h, _⟩ := p
  rw [e, h] at hl
  cases hl
theorem erase_perm {α : Type} : ∀ {l : List α} {k : Nat} {y : α}, l[k]? = some y → (y :: l.eraseIdx k).Perm l
  | [], k, y, h => by simp at h
  | x :: l, 0, y, h => by
    simp at h
    subst h
    exact List.Perm.refl _
  | x :: l, k + 1, y, h => by
    have ih := erase_perm (l := l) (k := k) (y := y) (by simpa using h)
    exact (List.Perm.swap x y (l.eraseIdx k)).trans (ih.cons x)
def spSome (K : PySem.W.Frag) : Sp := fun vs H Q _ => ∃ (a l : Addr) (xs : List V) (m : Nat) (z : Int), vs = [.ref a, .ref l, .int m] ∧ PotAt H a z ∧ z ≤ 50000 ∧ SqL K H l xs ∧ m ≤ xs.length ∧ xs.length ≤ 500 ∧
  ∀ p ys H', H p = none → PotAt H' a (z + m) → Keep a H H' → H' p = some (.lst ys) → (∃ rest, (ys ++ rest).Perm xs) → ys.length = m → Q (.ref p) H'
end GD
namespace K04
open PySem PySem.Spec PyProof.Rows L2 GD
section
variable {P : Program} {w : World} {K : PySem.W.Frag} {mg : Str → Option Value} {base : Heap}
theorem scS : FnScope ["_law_pot_here", "_law_pool", "_law_many", "_law_left", "_law_found", "_law_lap"] ["_law_pot_here", "_law_pool", "_law_many"] (defScope sSome) := ⟨rfl, rfl, rfl, by decide +kernel, rfl, by decide +kernel, by decide +kernel⟩
theorem ok_some {f fT : Addr} {fd fdT : FuncData} (F : Fun K "_law_some" "_law_some" sSome f fd) (T : TxtA mg) (FT : Fun K "_law_take" "_law_take" sTake fT fdT) (gT : mg "_law_take" = some (.ref fT)) (bT : Binds K fdT ["_law_pot_here", "_law_upto"] []) :
    FnOk P w K mg base CX0 2 f fd ["_law_pot_here", "_law_pool", "_law_many"] (spSome K) := by
  have GT : FnOk P w K mg base CX0 1 fT fdT ["_law_pot_here", "_law_upto"] spTake := ok_take FT T
  refine F.ok scS (fun vs H Q E h => ?_) (fun cdv A outer s H vs Q E hr h => ?_)
  · obtain ⟨a, l, xs, m, z, rfl, _⟩ := h
    rfl
  · obtain ⟨a, l, xs, m, z, rfl, hp, hz, hl, hm, hlen, k⟩ := h
    refine ⟨_, pss_cons (ps_par (i := 3) (j := 4) rfl scS.nd rfl rfl (by decide) rfl rfl (pa_cons (pe_callTy call_list_of (by rfl) T.list (by decide +kernel) (pa_cons (pv 1) pa_nil)) (pa_cons (pe_lst pa_nil) pa_nil)) (by rfl))
      (pss_cons (ps_for PassesOwn.never rfl (pi_range1 (by rfl) T.range (pa_cons (pv 2) pa_nil)) (pg_name (i := 5) scS.nd rfl (.inl rfl))
        (pss_one (ps_expr (pe_bm PySem.F.plainAttrs_list PySem.F.slot_list_append PySem.F.type_list_append mt_append (pv 4) (pa_cons
          (pe_bm PySem.F.plainAttrs_list PySem.F.slot_list_pop PySem.F.type_list_pop mt_popAt (pv 3) (pa_cons (pe_call GT hr rfl gT FT.kp bT .nil pass0 (pa_cons (pv 0) (pa_cons (pe_callB call_len_seq (by rfl) T.len PySem.boot_len (pa_cons (pv 3) pa_nil)) pa_nil))) pa_nil)) pa_nil)))))
      (pss_one (ps_ret (pv 4)))), ?_⟩
    refine ⟨_, rfl, l, xs, rfl, .inl hl, fun l1 n1 => ?_⟩
    have s1 := same_new (o := .lst xs) n1
    refine ⟨by decide, fun p np => ?_⟩
    have s2 := same_new (o := .lst []) np
    have p0 : H p = none := s1.free np
    have n1p : l1 ≠ p := ne_of_none upd_same np
    refine ⟨_, _, rfl, _, rfl, m, rfl, by omega, by omega, for_range (lo := 0) (n := m) (fun i σ H' => ∃ (left ys : List V) (x5 : Option V), σ = [some (.ref a), some (.ref l), some (.int m), some (.ref l1), some (.ref p), x5] ∧
      PotAt H' a (z + (i : Nat)) ∧ Keep a H H' ∧ H' l1 = some (.lst left) ∧ H' p = some (.lst ys) ∧ (ys ++ left).Perm xs ∧ ys.length = i) ⟨xs, [], none, rfl, (hp.same (s1.trans s2)).le (by omega), sKeep (s1.trans s2), s2 _ _ upd_same, upd_same, List.Perm.refl _, rfl⟩ ?_ ?_⟩
    · rintro i σ H' hi ⟨left, ys, x5, rfl, pa, ka, eL, eP, pm, ly⟩
      have zl : ys.length + left.length = xs.length := by rw [← List.length_append]; exact pm.length_eq
      have nl1 : l1 ≠ a := hp.ne n1
      have npa : p ≠ a := hp.ne p0
      refine ⟨_, rfl, .inl ⟨rfl, _, SqL.of eP⟩, _, rfl, .inl ⟨rfl, _, SqL.of eL⟩, _, rfl, _, rfl, l1, left, rfl, .inl (SqL.of eL), a, left.length, z + (i : Nat), rfl, pa, by omega, by omega, by omega, fun j H2 j0 j1 p2 k2 => ?_⟩
      have hj : j.toNat < left.length := by omega
      refine ⟨l1, left, j, j.toNat, left[j.toNat], rfl, rfl, k2 _ _ nl1 eL, by omega, by omega, seq_nat j0 j1, List.getElem?_eq_getElem hj, ?_⟩
      refine ⟨p, ys, _, rfl, rfl, by rw [upd_ne n1p.symm]; exact k2 _ _ npa eP, Nat.lt_of_le_of_lt (show ys.length ≤ 500 by omega) (by decide), ?_⟩
      refine ⟨_, _, _, rfl, ((p2.upd_ne nl1).upd_ne npa).le (by omega), keep_upd (keep_upd (ka.trans k2) n1) p0, by rw [upd_ne n1p, upd_same], upd_same, ?_, by rw [List.length_append, ly]; rfl⟩
      refine List.Perm.trans ?_ pm
      rw [List.append_assoc]
      exact List.Perm.append_left ys (erase_perm (List.getElem?_eq_getElem hj))
    · rintro σ H' ⟨left, ys, x5, rfl, pa, ka, eL, eP, pm, ly⟩
      exact ⟨_, rfl, k p ys H' p0 pa ka eP ⟨left, pm⟩ ly⟩
end
end K04
namespace GD
open PySem PySem.Spec PyProof.Rows L2
theorem ShAll.strs {H : Hp} : ∀ {xs : List V} {ys : List Str}, ShAll H xs (ys.map PyData.str) → xs = ys.map V.str
  | _, [], h => by cases h; rfl
  | _, y :: ys, h => by
    cases h with
    | cons a t =>
      cases a
      rw [ShAll.strs t]
      rfl
def pool14 : List Str := ["a", "b", "c", "ann", "bob", "jobs", "let", "not", "as", "to", "begin", "end", "clean", "zzzzzzzz"]
def pool7 : List Str := ["no", "spent", "free", "seen", "same", "plain", "undo"]
def pool21 : List Str := pool14 ++ pool7
theorem pool_nodup : pool21.Nodup := by decide +kernel
theorem strs_of : ∀ {ys : List V} {ps : List Str}, (∀ y ∈ ys, y ∈ ps.map V.str) → ∃ ns : List Str, ys = ns.map V.str ∧ ∀ n ∈ ns, n ∈ ps
  | [], _, _ => ⟨[], rfl, fun _ h => nomatch h⟩
  | y :: ys, ps, h => by
    obtain ⟨ns, e, m⟩ := strs_of (ys := ys) (ps := ps) fun z hz => h z (List.mem_cons_of_mem _ hz)
    obtain ⟨n, hn, en⟩ := List.mem_map.mp (h y List.mem_cons_self)
    refine ⟨n :: ns, by rw [List.map_cons, en, e], fun x hx => ?_⟩
    rcases List.mem_cons.mp hx with z | z
    · rw [z]
      exact hn
    · exact m x z
theorem picked {ys rest : List V} {ps : List Str} (hp : (ys ++ rest).Perm (ps.map V.str)) (nd : ps.Nodup) : ∃ ns : List Str, ys = ns.map V.str ∧ ns.Nodup ∧ ∀ n ∈ ns, n ∈ ps := by
  obtain ⟨ns, e, m⟩ := strs_of (ys := ys) (ps := ps) fun y hy => hp.mem_iff.mp (List.mem_append_left _ hy)
  have n1 : (ps.map V.str).Nodup := by
    rw [List.nodup_iff_pairwise_ne, List.pairwise_map]
    exact (List.nodup_iff_pairwise_ne.mp nd).imp fun h z => h (V.str.inj z)
  have n2 : (ys ++ rest).Nodup := hp.nodup_iff.mpr n1
  have n3 : ys.Nodup := (List.nodup_append.mp n2).1
  rw [e, List.nodup_iff_pairwise_ne, List.pairwise_map] at n3
  exact ⟨ns, e, List.nodup_iff_pairwise_ne.mpr (n3.imp fun h z => h (by rw [z])), m⟩
def spNames : Sp := fun vs H Q _ => ∃ (a : Addr) (m : Nat) (z : Int), vs = [.ref a, .int m] ∧ PotAt H a z ∧ z ≤ 50000 ∧ m ≤ 21 ∧
  ∀ p (ns : List Str) H', H p = none → PotAt H' a (z + m) → Keep a H H' → H' p = some (.lst (ns.map V.str)) → ns.length = m → ns.Nodup → (∀ n ∈ ns, n ∈ pool21) → Q (.ref p) H'
def JobsOk (most : Nat) (ms : List Str) (js : List (Str × Str)) : Prop := 1 ≤ js.length ∧ js.length ≤ most ∧ (js.map (·.1)).Nodup ∧ ∀ j ∈ js, j.1 ∈ pool21 ∧ j.2 ∈ ms
def spJobs : Sp := fun vs H Q _ => ∃ (a l : Addr) (most : Nat) (ms : List Str) (z : Int), vs = [.ref a, .int most, .ref l] ∧ PotAt H a z ∧ z ≤ 40000 ∧ 1 ≤ most ∧ most ≤ 4 ∧ l ≠ a ∧ H l = some (.lst (ms.map V.str)) ∧ ms ≠ [] ∧ ms.length ≤ 100 ∧
  ∀ p js H', H p = none → PotAt H' a (z + 20) → Keep a H H' → LstAt H' p (js.map eE) → JobsOk most ms js → Q (.ref p) H'
def spFirst (K : PySem.W.Frag) : Sp := fun vs H Q _ => ∃ (l : Addr) (xs : List V), vs = [.ref l] ∧ SqL K H l xs ∧ xs.length ≤ 100 ∧ ∀ v H', Same H H' → Fz H' v (eS (List.replicate xs.length (0, 0))) → Q v H'
def man6 : List Str := ["plain", "plain", "clean", "clean", "spent", "free"]
def spAny : Sp := fun vs H Q _ => vs = [] ∧ ∀ p, H p = none → Q (.ref p) (upd H p (.lst (man6.map V.str)))
end GD
namespace K04
open PySem PySem.Spec PyProof.Rows L2 GD
section
variable {P : Program} {w : World} {K : PySem.W.Frag} {mg : Str → Option Value} {base : Heap}
theorem scN : FnScope ["_law_pot_here", "_law_many", "_law_pool"] ["_law_pot_here", "_law_many"] (defScope sNames) := ⟨rfl, rfl, rfl, by decide +kernel, rfl, by decide +kernel, by decide +kernel⟩
theorem ok_names {f fS fT : Addr} {fd fdS fdT : FuncData} (F : Fun K "_law_names" "_law_names" sNames f fd) (T : TxtA mg) (FT : Fun K "_law_take" "_law_take" sTake fT fdT) (gT : mg "_law_take" = some (.ref fT)) (bT : Binds K fdT ["_law_pot_here", "_law_upto"] [])
    (FS : Fun K "_law_some" "_law_some" sSome fS fdS) (gS : mg "_law_some" = some (.ref fS)) (bS : Binds K fdS ["_law_pot_here", "_law_pool", "_law_many"] []) : FnOk P w K mg base CX0 3 f fd ["_law_pot_here", "_law_many"] spNames := by
  have GS : FnOk P w K mg base CX0 2 fS fdS ["_law_pot_here", "_law_pool", "_law_many"] (spSome K) := ok_some FS T FT gT bT
  refine F.ok scN (fun vs H Q E h => ?_) (fun cdv A outer s H vs Q E hr h => ?_)
  · obtain ⟨a, m, z, rfl, _⟩ := h
    rfl
  · obtain ⟨a, m, z, rfl, hp, hz, hm, k⟩ := h
    have x0 : ∀ {X : Cx} {x : Str} {j0 : Nat} {c0 : Pos}, PE X (.Constant (.str x) j0 c0) (tD (dS x)) := pd_c pe_str fun M => .str _
    refine ⟨_, pss_cons (ps_set (i := 2) scN.nd rfl (.inl rfl) (pe_lst (t := tDs (pool14.map PyData.str)) ?d1)) (pss_one (ps_ret (pe_call GS hr rfl gS FS.kp bS .nil pass0 (pa_cons (pv 0) (pa_cons (pe_op op_cat (pv 2) (pe_lst (t := tDs (pool7.map PyData.str)) ?d2)) (pa_cons (pv 1) pa_nil)))))), ?rd⟩
    case d1 =>
      iterate 14 refine pds_cons x0 ?_
      exact pds_nil
    case d2 =>
      iterate 7 refine pds_cons x0 ?_
      exact pds_nil
    case rd =>
      refine fun v1 H1 s1 h1 => ?_
      rw [h1.strs]
      refine ⟨by decide, fun l hl => ?_⟩
      have s2 := same_new (o := .lst (pool14.map V.str)) hl
      refine ⟨_, rfl, _, rfl, fun v2 H2 s3 h2 => ?_⟩
      rw [h2.strs]
      refine ⟨by decide, fun b hb => ?_⟩
      have s4 := same_new (o := .lst (pool7.map V.str)) hb
      refine ⟨l, b, _, _, rfl, rfl, s4 _ _ (s3 _ _ upd_same), upd_same, by decide, fun p hp' => ?_⟩
      have s5 := same_new (o := .lst (pool14.map V.str ++ pool7.map V.str)) hp'
      have sF := (((s1.trans s2).trans s3).trans s4).trans s5
      refine ⟨_, rfl, a, p, _, m, z, rfl, hp.same sF, hz, SqL.of upd_same, by simpa [pool14, pool7] using hm, by decide, fun q ys H' nq pq kq eq ⟨rest, pm⟩ ly => ?_⟩
      have pm' : (ys ++ rest).Perm (pool21.map V.str) := by
        rw [pool21, List.map_append]
        exact pm
      obtain ⟨ns, e, nd, mem⟩ := picked pm' pool_nodup
      subst e
      exact k q ns H' (sF.free nq) pq (Keep.trans (sKeep sF) kq) eq (by rw [← ly, List.length_map]) nd mem
theorem scY : FnScope [] [] (defScope sAnyManners) := ⟨rfl, rfl, rfl, by decide +kernel, rfl, by decide +kernel, by decide +kernel⟩
theorem ok_any {f : Addr} {fd : FuncData} (F : Fun K "_law_any_manners" "_law_any_manners" sAnyManners f fd) : FnOk P w K mg base CX0 1 f fd [] spAny := by
  refine F.ok scY (fun vs H Q E h => ?_) (fun cdv A outer s H vs Q E hr h => ?_)
  · obtain ⟨rfl, _⟩ := h
    rfl
  · obtain ⟨rfl, k⟩ := h
    exact ⟨_, pss_one (ps_ret (pe_lst (pa_cons pe_str (pa_cons pe_str (pa_cons pe_str (pa_cons pe_str (pa_cons pe_str (pa_cons pe_str pa_nil)))))))), (by show 6 ≤ sizeLine; decide), fun p np => k p np⟩
theorem scF : FnScope ["_law_jobs_here", "_law_job"] ["_law_jobs_here"] (defScope sFirst) := ⟨rfl, rfl, rfl, by decide +kernel, rfl, by decide +kernel, by decide +kernel⟩
theorem ok_first {f : Addr} {fd : FuncData} (F : Fun K "_law_first" "_law_first" sFirst f fd) (nT : mg "tuple" = none) : FnOk P w K mg base CX0 1 f fd ["_law_jobs_here"] (spFirst K) := by
  refine F.ok scF (fun vs H Q E h => ?_) (fun cdv A outer s H vs Q E hr h => ?_)
  · obtain ⟨l, xs, rfl, _⟩ := h
    rfl
  · obtain ⟨l, xs, rfl, hl, hz, k⟩ := h
    refine ⟨_, pss_one (ps_ret (pe_callTy call_tuple_of (by rfl) nT (by decide +kernel) (pa_cons (pe_lc (own := [("_law_job", 1)]) (g := gName 1) (tt := tYes) rfl scF.nd (pi_list (pv 0)) (blkOk_by (N := ["_law_jobs_here", "_law_job"]) (sc := defScope sFirst) (by decide +kernel))
      (fun _ _ _ _ _ => pg_name (i := 1) scF.nd rfl (.inl rfl)) (fun _ _ _ _ _ => pts_nil) (fun _ _ _ _ _ => pe_tup (pa_cons pe_int (pa_cons pe_int pa_nil)))) pa_nil))), ?_⟩
    refine ⟨_, rfl, l, rfl, ⟨_, hl⟩, fun D hD => ?_⟩
    refine lc_list (K := K) (a := l) (xs := xs) (fun i H' => Same H H' ∧ ∃ acc, H' D = some (.lst acc) ∧ FzAll H' acc ((List.replicate i ((0 : Int), (0 : Int))).map eP)) ⟨same_new hD, [], upd_same, .nil⟩ (fun i H' _ ⟨s1, _⟩ => s1.seq hl) ?_ ?_
    · rintro i x H' hi ⟨s1, acc, eD, fz⟩
      have hlt := (List.getElem?_eq_some_iff.mp hi).1
      refine ⟨rfl, (by show 2 ≤ sizeLine; decide), fun t ht => ?_⟩
      have st := same_new (o := .tup [.int 0, .int 0]) ht
      have zl : acc.length = i := by rw [fz.len, List.length_map, List.length_replicate]
      refine ⟨acc, st _ _ eD, by rw [zl]; exact Nat.lt_of_lt_of_le hlt (Nat.le_trans hz (by decide)), same_upd (s1.trans st) hD, _, upd_same, ?_⟩
      have f2 : FzAll (upd H' t (.tup [.int 0, .int 0])) (acc ++ [.ref t]) ((List.replicate (i + 1) ((0 : Int), (0 : Int))).map eP) := by
        rw [List.replicate_succ', List.map_append]
        exact (fz.mv (tups_same st)).snoc (.tup upd_same (.cons (.int 0) (.cons (.int 0) .nil)))
      exact f2.mv (tups_lst (st _ _ eD))
    · rintro H' ⟨s1, acc, eD, fz⟩
      refine ⟨D, acc, rfl, .inl ⟨SqL.of eD, fun t ht => k _ _ (s1.trans (same_new ht)) (.tup upd_same (fz.mv (tups_new ht)))⟩⟩
end
end K04
namespace K04
open PySem PySem.Spec PyProof.Rows L2 GD
section
variable {P : Program} {w : World} {K : PySem.W.Frag} {mg : Str → Option Value} {base : Heap}
theorem scJ : FnScope ["_law_pot_here", "_law_most", "_law_manners", "_law_name"] ["_law_pot_here", "_law_most", "_law_manners"] (defScope sJobs) := ⟨rfl, rfl, rfl, by decide +kernel, rfl, by decide +kernel, by decide +kernel⟩
theorem ok_jobs {f fN fO fS fT : Addr} {fd fdN fdO fdS fdT : FuncData} (F : Fun K "_law_jobs" "_law_jobs" sJobs f fd) (T : TxtA mg) (FT : Fun K "_law_take" "_law_take" sTake fT fdT) (gT : mg "_law_take" = some (.ref fT)) (bT : Binds K fdT ["_law_pot_here", "_law_upto"] [])
    (FS : Fun K "_law_some" "_law_some" sSome fS fdS) (gS : mg "_law_some" = some (.ref fS)) (bS : Binds K fdS ["_law_pot_here", "_law_pool", "_law_many"] [])
    (FN : Fun K "_law_names" "_law_names" sNames fN fdN) (gN : mg "_law_names" = some (.ref fN)) (bN : Binds K fdN ["_law_pot_here", "_law_many"] [])
    (FO : Fun K "_law_of" "_law_of" sOf fO fdO) (gO : mg "_law_of" = some (.ref fO)) (bO : Binds K fdO ["_law_pot_here", "_law_some_here"] []) : FnOk P w K mg base CX0 4 f fd ["_law_pot_here", "_law_most", "_law_manners"] spJobs := by
  have GT : FnOk P w K mg base CX0 1 fT fdT ["_law_pot_here", "_law_upto"] spTake := ok_take FT T
  have GN : FnOk P w K mg base CX0 3 fN fdN ["_law_pot_here", "_law_many"] spNames := ok_names FN T FT gT bT FS gS bS
  have GO : FnOk P w K mg base CX0 2 fO fdO ["_law_pot_here", "_law_some_here"] (spOf K) := ok_of FO T FT gT bT
  refine F.ok scJ (fun vs H Q E h => ?_) (fun cdv A outer s H vs Q E hr h => ?_)
  · obtain ⟨a, l, most, ms, z, rfl, _⟩ := h
    rfl
  · obtain ⟨a, l, most, ms, z, rfl, hp, hz, hm1, hm4, hla, hl, hne, hms, k⟩ := h
    have hr1 : Room 1 _ := hr.mono (by decide)
    have hr2 : Room 2 _ := hr.mono (by decide)
    refine ⟨_, pss_one (ps_ret (pe_lc (own := [("_law_name", 3)]) (g := gName 3) (tt := tYes) rfl scJ.nd
      (pi_list (pe_call GN hr rfl gN FN.kp bN .nil pass0 (pa_cons (pv 0) (pa_cons (pe_op op_add pe_int (pe_call GT hr1 rfl gT FT.kp bT .nil pass0 (pa_cons (pv 0) (pa_cons (pv 1) pa_nil)))) pa_nil))))
      (blkOk_by (N := ["_law_pot_here", "_law_most", "_law_manners", "_law_name"]) (sc := defScope sJobs) (by decide +kernel)) (fun _ _ _ _ _ => pg_name (i := 3) scJ.nd rfl (.inl rfl)) (fun _ _ _ _ _ => pts_nil)
      (fun _ _ _ _ _ => pe_tup (pa_cons (pv 3) (pa_cons (pe_call GO hr2 rfl gO FO.kp bO .nil pass0 (pa_cons (pv 0) (pa_cons (pv 2) pa_nil))) pa_nil))))), ?_⟩
    refine ⟨_, rfl, _, rfl, _, rfl, a, most, z, rfl, hp, by omega, by omega, by omega, fun j H1 j0 j1 p1 k1 => ?_⟩
    obtain ⟨m, hm⟩ := Int.eq_ofNat_of_zero_le (show 0 ≤ 1 + j by omega)
    refine ⟨_, _, rfl, rfl, a, m, z + 1, by show [V.ref a, V.int (1 + j)] = _; rw [hm], p1, by omega, by omega, fun q ns H2 nq p2 k2 eq ln nd mem => ?_⟩
    refine ⟨q, rfl, ⟨_, SqL.of eq⟩, fun D hD => ?_⟩
    have k12 : Keep a H H2 := Keep.trans k1 k2
    have q0 : H q = none := by
      cases z : H q with
      | none => rfl
      | some o =>
        rw [k1 q o (p1.ne nq) z] at nq
        cases nq
    have nqa : q ≠ a := p1.ne nq
    have D0 : H D = none := by
      cases z : H D with
      | none => rfl
      | some o =>
        rw [k12 D o (p2.ne hD) z] at hD
        cases hD
    have nDq : D ≠ q := (ne_of_none eq hD).symm
    have nDa : D ≠ a := p2.ne hD
    refine lc_list (K := K) (a := q) (xs := ns.map V.str) (fun i H' => PotAt H' a (z + 1 + m + (i : Nat)) ∧ Keep a H H' ∧ H' q = some (.lst (ns.map V.str)) ∧ ∃ (acc : List V) (js : List (Str × Str)), H' D = some (.lst acc) ∧ FzAll H' acc (js.map eE) ∧ js.map (·.1) = ns.take i ∧ ∀ j ∈ js, j.2 ∈ ms)
      ⟨(p2.upd_ne nDa).le (by omega), keep_upd k12 D0, by rw [upd_ne nDq.symm]; exact eq, [], [], upd_same, .nil, rfl, fun _ h => nomatch h⟩ (fun i H' _ ⟨_, _, e, _⟩ => SqL.of e) ?_ ?_
    · rintro i x H' hi ⟨pi, ki, ei, acc, js, eD, fz, hj, hjm⟩
      obtain ⟨n, hn, rfl⟩ : ∃ n, ns[i]? = some n ∧ x = V.str n := by
        rw [List.getElem?_map] at hi
        cases c : ns[i]? with
        | none =>
          rw [c] at hi
          cases hi
        | some n =>
          rw [c] at hi
          exact ⟨n, rfl, (Option.some.inj hi).symm⟩
      have hin : i < ns.length := (List.getElem?_eq_some_iff.mp hn).1
      have zl : acc.length = i := by
        rw [fz.len, List.length_map, ← List.length_map (f := (·.1)), hj, List.length_take]
        omega
      refine ⟨rfl, _, rfl, _, rfl, _, rfl, a, l, _, z + 1 + m + (i : Nat), rfl, pi, by omega, hla, ki _ _ hla hl, by simpa using hne, by rw [List.length_map]; omega, fun v H3 hv p3 k3 => ?_⟩
      obtain ⟨mn, hmn, rfl⟩ := List.mem_map.mp hv
      refine ⟨(by show 2 ≤ sizeLine; decide), fun t ht => ?_⟩
      have st := same_new (o := .tup [.str n, .str mn]) ht
      have t3 := pi.tups k3
      have eD3 := k3 _ _ nDa eD
      have eq3 := k3 _ _ nqa ei
      refine ⟨acc, st _ _ eD3, by rw [zl]; exact Nat.lt_trans (show i < 100 by omega) (by decide), ((p3.same st).upd_ne nDa).le (by omega), keep_upd ((Keep.trans ki k3).trans (sKeep st)) D0, by rw [upd_ne nDq.symm]; exact st _ _ eq3, _, js ++ [(n, mn)], upd_same, ?_, ?_, fun j hj' => ?_⟩
      · refine FzAll.mv (tups_lst (st _ _ eD3)) ?_
        rw [List.map_append]
        exact ((fz.mv t3).mv (tups_same st)).snoc (.tup upd_same (.cons (.str n) (.cons (.str mn) .nil)))
      · rw [List.map_append, hj, List.take_succ, hn]
        rfl
      · rcases List.mem_append.mp hj' with y | y
        · exact hjm j y
        · rw [List.mem_singleton.mp y]
          exact hmn
    · rintro H' ⟨pi, ki, ei, acc, js, eD, fz, hj, hjm⟩
      rw [List.length_map, List.take_length] at hj
      rw [List.length_map] at pi
      have lj : js.length = ns.length := by rw [← hj, List.length_map]
      refine k D js H' D0 (pi.le (by omega)) ki ⟨acc, eD, fz⟩ ⟨by omega, by omega, by rw [hj]; exact nd, fun j hj' => ⟨mem _ (by rw [← hj]; exact List.mem_map_of_mem hj'), hjm j hj'⟩⟩
end
end K04
namespace GD
open PySem PySem.Spec PyProof.Rows L2
/-! tuples of frozen data, cut and joined -/
def cutD (ds : List PyData) (lo hi : Option Int) : List PyData := (ds.drop (HT.sIx ds.length 0 lo)).take (HT.sIx ds.length ds.length hi - HT.sIx ds.length 0 lo)
theorem slice_fz {K : PySem.W.Frag} {H : Hp} {x : V} {ds : List PyData} {lo hi : Option Int} {Q : VK} (hx : Fz H x (.tuple ds)) (k : ∀ v H', Same H H' → Fz H' v (.tuple (cutD ds lo hi)) → Q v H') : rSlA K x lo hi H Q := by
  obtain ⟨a, xs, rfl, ha, t⟩ := hx.t
  have e := t.len
  refine ⟨a, xs, rfl, SqT.of ha, fun w => k _ _ (Same.refl H) (.tup ha ?_), fun _ p hp => k _ _ (same_new hp) (.tup upd_same ?_)⟩
  · obtain ⟨w1, w2⟩ := w
    unfold cutD
    rw [← e, w1, w2, List.drop_zero, Nat.sub_zero, e, List.take_length]
    exact t
  · unfold cutD cutV
    rw [← e]
    exact ((t.drop _).take _).mv (tups_new hp)
theorem cut_to {ds : List PyData} {i : Nat} (h : i ≤ ds.length) : cutD ds none (some (i : Int)) = ds.take i := by
  unfold cutD
  rw [HT.sIx_none, HT.sIx_nat, List.drop_zero, Nat.sub_zero, Nat.min_eq_left h]
theorem cut_from {ds : List PyData} {i : Nat} (h : i ≤ ds.length) : cutD ds (some (i : Int)) none = ds.drop i := by
  unfold cutD
  rw [HT.sIx_none, HT.sIx_nat, Nat.min_eq_left h, List.take_of_length_le (by rw [List.length_drop]; exact Nat.le_refl _)]
theorem cat_fz {K : PySem.W.Frag} {H : Hp} {x y : V} {ds es : List PyData} {Q : VK} (hx : Fz H x (.tuple ds)) (hy : Fz H y (.tuple es)) (hl : ds.length + es.length ≤ 1000) (k : ∀ v H', Same H H' → Fz H' v (.tuple (ds ++ es)) → Q v H') : rCatA K x y H Q := by
  obtain ⟨a, xs, rfl, ha, t⟩ := hx.t
  obtain ⟨b, ys, rfl, hb, u⟩ := hy.t
  refine ⟨a, b, xs, ys, rfl, rfl, SqT.of ha, SqT.of hb, by rw [t.len, u.len]; exact Nat.le_of_lt (small1000 hl), fun e => ?_, fun _ e => ?_, fun _ _ p hp => ?_⟩
  · subst e
    cases t
    exact k _ _ (Same.refl H) (.tup hb u)
  · subst e
    cases u
    refine k _ _ (Same.refl H) (.tup ha ?_)
    rw [List.append_nil]
    exact t
  · exact k _ _ (same_new hp) (.tup upd_same ((t.append u).mv (tups_new hp)))
theorem Fz.same {H H' : Hp} (k : Same H H') {v : V} {d : PyData} (h : Fz H v d) : Fz H' v d := h.mv (tups_same k)
theorem FzAll.same {H H' : Hp} (k : Same H H') {v : List V} {d : List PyData} (h : FzAll H v d) : FzAll H' v d := h.mv (tups_same k)
/-! what the drawer's small defs reckon -/
def bumpP (k : Str) (p : Int × Int) : Int × Int := if k = "begin" then (p.1 + 1, p.2) else (p.1, p.2 + 1)
def ixOf (names : List Str) (n : Str) : Nat := names.idxOf n
def behS (names : List Str) (s : Stn) (e : Str × Str) : Stn := s.take (ixOf names e.2) ++ [bumpP e.1 (s.getD (ixOf names e.2) (0, 0))] ++ s.drop (ixOf names e.2 + 1)
def okP (p : Int × Int) : Bool := decide (p.2 ≤ p.1) && decide (p.1 ≤ 40)
def canS (names : List Str) (s : Stn) (e : Str × Str) : Bool := (behS names s e).all okP
def evs (names : List Str) : List (Str × Str) := names.flatMap fun n => [("begin", n), ("end", n)]
theorem behS_len {names : List Str} {s : Stn} {e : Str × Str} (h : ixOf names e.2 < s.length) : (behS names s e).length = s.length := by
  unfold behS
  rw [List.length_append, List.length_append, List.length_take, List.length_drop, List.length_singleton]
  omega
theorem ixOf_lt {names : List Str} {n : Str} (h : n ∈ names) : ixOf names n < names.length := List.idxOf_lt_length_iff.mpr h
theorem eqV_str (x y : Str) : eqV (.str x) (.str y) = (x == y) := rfl
theorem all_flat : ∀ ns : List Str, (ns.map V.str).all flatV = true
  | [] => rfl
  | _ :: ns => all_flat ns
theorem ix_at {names : List Str} {n : Str} (h : n ∈ names) : names[ixOf names n]? = some n := by
  have h1 := ixOf_lt h
  rw [List.getElem?_eq_getElem h1]
  exact congrArg some (List.getElem_idxOf h1)
theorem ix_before {names : List Str} {n m : Str} {j : Nat} (hj : j < ixOf names n) (hm : names[j]? = some m) : (m == n) = false := by
  obtain ⟨h1, e⟩ := List.getElem?_eq_some_iff.mp hm
  have z := List.not_of_lt_findIdx (p := (· == n)) (xs := names) hj
  simp only [e] at z
  exact z
theorem index_str {K : PySem.W.Frag} {H : Hp} {l : Addr} {names : List Str} {n : Str} {Q : VK} (hl : SqL K H l (names.map V.str)) (h : n ∈ names) (k : Q (.int (ixOf names n : Nat)) H) : rIndex K (.ref l) [.str n] H Q := by
  refine ⟨l, _, .str n, ixOf names n, .str n, rfl, rfl, hl, rfl, all_flat _, by rw [List.getElem?_map, ix_at h]; rfl, by rw [eqV_str]; simp, fun m z hm hz => ?_, k⟩
  rw [List.getElem?_map] at hz
  cases c : names[m]? with
  | none =>
    rw [c] at hz
    cases hz
  | some y =>
    rw [c] at hz
    have e : V.str y = z := Option.some.inj hz
    rw [← e, eqV_str]
    exact ix_before hm c
theorem FzAll.atM {α : Type} {f : α → PyData} {H : Hp} {xs : List V} {L : List α} {i : Nat} {x : V} (h : FzAll H xs (L.map f)) (e : xs[i]? = some x) : ∃ j, L[i]? = some j ∧ Fz H x (f j) := by
  obtain ⟨d, h1, h2⟩ := h.at e
  rw [List.getElem?_map] at h1
  cases c : L[i]? with
  | none =>
    rw [c] at h1
    cases h1
  | some j =>
    rw [c] at h1
    have z : f j = d := Option.some.inj h1
    exact ⟨j, rfl, by rw [z]; exact h2⟩
theorem FzAll.getM {α : Type} {f : α → PyData} {H : Hp} {xs : List V} {L : List α} {i : Nat} {j : α} (h : FzAll H xs (L.map f)) (e : L[i]? = some j) : ∃ x, xs[i]? = some x ∧ Fz H x (f j) := h.get (by rw [List.getElem?_map, e]; rfl)
theorem ite_kv {c : Prop} [Decidable c] {ta tb : TE} {σ : L2.St} {H : Hp} {Q : VK} (R : V → Hp → Prop) (key : ∀ v H', R v H' → Q v H') (h : (∀ v H', R v H' → Q v H') → if c then ta σ H Q else tb σ H Q) : if c then ta σ H Q else tb σ H Q := h key
def spBehind (K : PySem.W.Frag) : Sp := fun vs H Q _ => ∃ (l : Addr) (sv ev : V) (js : List (Str × Str)) (s : Stn) (e : Str × Str), vs = [.ref l, sv, ev] ∧ LstAt H l (js.map eE) ∧ Fz H sv (eS s) ∧ Fz H ev (eE e) ∧ s.length = js.length ∧ js.length ≤ 10 ∧ e.2 ∈ js.map (·.1) ∧
  ∀ v H', Same H H' → Fz H' v (eS (behS (js.map (·.1)) s e)) → Q v H'
def spCan (K : PySem.W.Frag) : Sp := fun vs H Q _ => ∃ (l : Addr) (sv ev : V) (js : List (Str × Str)) (s : Stn) (e : Str × Str), vs = [.ref l, sv, ev] ∧ LstAt H l (js.map eE) ∧ Fz H sv (eS s) ∧ Fz H ev (eE e) ∧ s.length = js.length ∧ js.length ≤ 10 ∧ e.2 ∈ js.map (·.1) ∧
  ∀ H', Same H H' → Q (.bl (canS (js.map (·.1)) s e)) H'
def spEvents (K : PySem.W.Frag) : Sp := fun vs H Q _ => ∃ (l : Addr) (sv : V) (js : List (Str × Str)) (s : Stn), vs = [.ref l, sv] ∧ LstAt H l (js.map eE) ∧ Fz H sv (eS s) ∧ s.length = js.length ∧ js.length ≤ 10 ∧
  ∀ p H', Same H H' → H p = none → LstAt H' p (((evs (js.map (·.1))).filter (canS (js.map (·.1)) s)).map eE) → Q (.ref p) H'
end GD
namespace K04
open PySem PySem.Spec PyProof.Rows L2 GD
section
variable {P : Program} {w : World} {K : PySem.W.Frag} {mg : Str → Option Value} {base : Heap}
theorem scB : FnScope ["_law_jobs_here", "_law_standing_here", "_law_event", "_law_at", "_law_begun", "_law_ended", "_law_fresh", "_law_name", "_law_manner"] ["_law_jobs_here", "_law_standing_here", "_law_event"] (defScope sBehind) := ⟨rfl, rfl, rfl, by decide +kernel, rfl, by decide +kernel, by decide +kernel⟩
theorem ok_behind {f : Addr} {fd : FuncData} (F : Fun K "_law_behind" "_law_behind" sBehind f fd) : FnOk P w K mg base CX0 1 f fd ["_law_jobs_here", "_law_standing_here", "_law_event"] (spBehind K) := by
  refine F.ok scB (fun vs H Q E h => ?_) (fun cdv A outer s H vs Q E hr h => ?_)
  · obtain ⟨l, sv, ev, js, s, e, rfl, _⟩ := h
    rfl
  · obtain ⟨l, sv, ev, js, s, e, rfl, ⟨xs, hl, fx⟩, fs, fe, hsl, hjl, hm, k⟩ := h
    refine ⟨_, pss_cons (ps_set (i := 3) scB.nd rfl (.inl rfl) (pe_bm PySem.F.plainAttrs_list PySem.F.slot_list_index PySem.F.type_list_index mt_index
        (pe_lc (own := [("_law_name", 7), ("_law_manner", 8)]) (g := gTup K 2 (gCons (gName 7) (gCons (gName 8) gNil))) (tt := tYes) rfl scB.nd (pi_list (pv 0)) (blkOk_by (N := ["_law_jobs_here", "_law_standing_here", "_law_event", "_law_at", "_law_begun", "_law_ended", "_law_fresh", "_law_name", "_law_manner"]) (sc := defScope sBehind) (by decide +kernel))
          (fun _ _ _ _ _ => pg_tup rfl (pgs_cons (pg_name (i := 7) scB.nd rfl (.inl rfl)) (pgs_cons (pg_name (i := 8) scB.nd rfl (.inl rfl)) pgs_nil))) (fun _ _ _ _ _ => pts_nil) (fun _ _ _ _ _ => pv 7))
        (pa_cons (pe_ix ix_tup (pv 2) pe_int (fun _ _ => rfl)) pa_nil)))
      (pss_cons (ps_asg (pe_ix ix_tup (pv 1) (pv 3) (fun _ _ => rfl)) (pg_tup rfl (pgs_cons (pg_name (i := 4) scB.nd rfl (.inl rfl)) (pgs_cons (pg_name (i := 5) scB.nd rfl (.inl rfl)) pgs_nil))))
      (pss_cons (ps_set (i := 6) scB.nd rfl (.inl rfl) (pe_ifExp (pt_cmpR op_eq (pe_ix ix_tup (pv 2) pe_int (fun _ _ => rfl)) pe_str (nomark _)) (pe_tup (pa_cons (pe_op op_add (pv 4) pe_int) (pa_cons (pv 5) pa_nil))) (pe_tup (pa_cons (pv 4) (pa_cons (pe_op op_add (pv 5) pe_int) pa_nil)))))
      (pss_one (ps_ret (pe_op op_catA (pe_op op_catA (pe_slice sl_tupA (pv 1) po_none (po_some (pv 3))) (pe_tup (pa_cons (pv 6) pa_nil))) (pe_slice sl_tupA (pv 1) (po_some (pe_op op_add (pv 3) pe_int)) po_none)))))), ?_⟩
    obtain ⟨sa, ys, rfl, hsa, fy⟩ := fs.t
    obtain ⟨ea, e1, e2, rfl, hea, fe1, fe2⟩ := fe.t2
    obtain rfl := fe1.s
    obtain rfl := fe2.s
    have hi : ixOf (js.map (·.1)) e.2 < s.length := by
      rw [hsl, ← List.length_map (f := (·.1))]
      exact ixOf_lt hm
    refine ⟨_, rfl, l, rfl, ⟨_, SqL.of hl⟩, fun D hD => ?_⟩
    refine lc_list (K := K) (a := l) (xs := xs) (fun i H' => Same H H' ∧ H' D = some (.lst (((js.map (·.1)).take i).map V.str))) ⟨same_new hD, upd_same⟩ (fun i H' _ ⟨s1, _⟩ => SqL.of (s1 _ _ hl)) ?_ ?_
    · rintro i x H' hx ⟨s1, eD⟩
      obtain ⟨j, hj, fj⟩ := fx.atM hx
      obtain ⟨b, x1, x2, rfl, hb, f1, f2⟩ := fj.t2
      obtain rfl := f1.s
      have hlt : i < js.length := (List.getElem?_eq_some_iff.mp hj).1
      refine ⟨b, _, rfl, SqT.of (s1 _ _ hb), rfl, _, _, rfl, _, _, rfl, rfl, rfl, _, rfl, _, eD, ?_, same_upd s1 hD, ?_⟩
      · rw [List.length_map, List.length_take]
        exact Nat.lt_of_le_of_lt (Nat.min_le_left _ _) (Nat.lt_of_lt_of_le hlt (Nat.le_trans hjl (by decide)))
      · rw [upd_same, List.take_succ, List.getElem?_map, hj, List.map_append]
        rfl
    · rintro H1 ⟨s1, eD⟩
      rw [fx.len, List.length_map, List.take_of_length_le (by rw [List.length_map]; exact Nat.le_refl _)] at eD
      refine ⟨.inl ⟨rfl, _, SqL.of eD⟩, _, rfl, ea, _, 1, _, rfl, rfl, SqT.of (s1 _ _ hea), rfl, ?_⟩
      dsimp only [tNil]
      refine index_str (SqL.of eD) hm ?_
      generalize hix : ixOf (js.map (·.1)) e.2 = n at hi
      obtain ⟨p, hp⟩ : ∃ p, s[n]? = some p := ⟨s[n], List.getElem?_eq_getElem hi⟩
      obtain ⟨y, hy, fp⟩ := fy.getM hp
      obtain ⟨pa, p1, p2, rfl, hpa, fp1, fp2⟩ := fp.t2
      obtain rfl := fp1.i
      obtain rfl := fp2.i
      refine ⟨_, rfl, _, rfl, sa, ys, n, _, rfl, rfl, SqT.of (s1 _ _ hsa), atI_nat hy, pa, _, rfl, SqT.of (s1 _ _ hpa), rfl, _, _, rfl, _, _, rfl, rfl, ?_⟩
      refine ⟨_, rfl, ea, _, 0, _, rfl, rfl, SqT.of (s1 _ _ hea), rfl, rfl, _, rfl, ?_⟩
      refine ite_kv (fun v H' => Same H1 H' ∧ Fz H' v (eP (bumpP e.1 p))) (fun v H2 ⟨s2, f2⟩ => ?_) (fun key => ?_)
      · have fs2 : Fz H2 (.ref sa) (eS s) := ((Fz.tup hsa fy).same s1).same s2
        refine ⟨_, rfl, _, rfl, n, rfl, ?_⟩
        dsimp only [tNoPart]
        refine slice_fz fs2 fun v1 H3 s3 f3 => ?_
        rw [cut_to (by rw [List.length_map]; omega)] at f3
        refine ⟨_, rfl, (by show 1 ≤ sizeLine; decide), fun t ht => ?_⟩
        have s4 := same_new (o := .tup [v]) ht
        refine cat_fz (f3.same s4) (.tup upd_same (.cons ((f2.same s3).same s4) .nil)) ?_ fun v2 H5 s5 f5 => ?_
        · rw [List.length_take, List.length_map, List.length_singleton]
          omega
        refine ⟨_, rfl, _, rfl, _, _, rfl, rfl, (n : Int) + 1, rfl, ?_⟩
        dsimp only [tNoPart]
        refine slice_fz (((fs2.same s3).same s4).same s5) fun v3 H6 s6 f6 => ?_
        rw [show ((n : Int) + 1) = ((n + 1 : Nat) : Int) by omega, cut_from (by rw [List.length_map]; omega)] at f6
        refine cat_fz (f5.same s6) f6 ?_ fun v4 H7 s7 f7 => k v4 H7 ((((((s1.trans s2).trans s3).trans s4).trans s5).trans s6).trans s7) ?_
        · rw [List.length_append, List.length_take, List.length_drop, List.length_map, List.length_singleton]
          omega
        · have z : eS (behS (js.map (·.1)) s e) = .tuple ((s.map eP).take n ++ [eP (bumpP e.1 p)] ++ (s.map eP).drop (n + 1)) := by
            unfold eS behS
            rw [hix, List.getD_eq_getElem?_getD, hp, List.map_append, List.map_append, List.map_take, List.map_drop]
            rfl
          rw [z]
          exact f7
      · refine ite2 (fun c => ?_) (fun c => ?_)
        · have c' : e.1 = "begin" := V.str.inj (of_decide_eq_true c)
          refine ⟨_, rfl, _, _, rfl, rfl, _, rfl, (by show 2 ≤ sizeLine; decide), fun t ht => key _ _ ⟨same_new ht, ?_⟩⟩
          rw [bumpP, if_pos c']
          exact .tup upd_same (.cons (.int _) (.cons (.int _) .nil))
        · have c' : ¬ e.1 = "begin" := fun z => c (decide_eq_true (congrArg V.str z))
          refine ⟨_, rfl, _, rfl, _, _, rfl, rfl, (by show 2 ≤ sizeLine; decide), fun t ht => key _ _ ⟨same_new ht, ?_⟩⟩
          rw [bumpP, if_neg c']
          exact .tup upd_same (.cons (.int _) (.cons (.int _) .nil))
end
end K04
namespace GD
open PySem PySem.Spec PyProof.Rows L2
def spStanding : Sp := fun vs H Q _ => ∃ (a l : Addr) (far : Nat) (js : List (Str × Str)) (z : Int), vs = [.ref a, .ref l, .int far] ∧ PotAt H a z ∧ z ≤ 90000 ∧ l ≠ a ∧ LstAt H l (js.map eE) ∧ js.length ≤ 10 ∧ far ≤ 1000 ∧
  ∀ v (s : Stn) H', PotAt H' a (z + 20) → Keep a H H' → Fz H' v (eS s) → s.length = js.length → (∀ p ∈ s, 0 ≤ p.2 ∧ p.2 ≤ p.1 ∧ p.1 ≤ far) → Q v H'
theorem take_next {α : Type} {L : List α} {i : Nat} {x : α} (h : L[i]? = some x) : L.take (i + 1) = L.take i ++ [x] := by
  rw [List.take_succ, h]
  rfl
end GD
namespace K04
open PySem PySem.Spec PyProof.Rows L2 GD
section
variable {P : Program} {w : World} {K : PySem.W.Frag} {mg : Str → Option Value} {base : Heap}
abbrev NC : List Str := ["_law_jobs_here", "_law_standing_here", "_law_event", "_law_behind_here", "_law_begun", "_law_ended"]
theorem scCan : FnScope NC ["_law_jobs_here", "_law_standing_here", "_law_event"] (defScope sCanCome) := ⟨rfl, rfl, rfl, by decide +kernel, rfl, by decide +kernel, by decide +kernel⟩
theorem ok_can {f fB : Addr} {fd fdB : FuncData} (F : Fun K "_law_can_come" "_law_can_come" sCanCome f fd) (nA : mg "all" = none) (FB : Fun K "_law_behind" "_law_behind" sBehind fB fdB) (gB : mg "_law_behind" = some (.ref fB)) (bB : Binds K fdB ["_law_jobs_here", "_law_standing_here", "_law_event"] []) :
    FnOk P w K mg base CX0 2 f fd ["_law_jobs_here", "_law_standing_here", "_law_event"] (spCan K) := by
  have GB : FnOk P w K mg base CX0 1 fB fdB ["_law_jobs_here", "_law_standing_here", "_law_event"] (spBehind K) := ok_behind FB
  refine F.ok scCan (fun vs H Q E h => ?_) (fun cdv A outer s H vs Q E hr h => ?_)
  · obtain ⟨l, sv, ev, js, s, e, rfl, _⟩ := h
    rfl
  · obtain ⟨l, sv, ev, js, s, e, rfl, hl, fs, fe, hsl, hjl, hm, k⟩ := h
    refine ⟨_, pss_cons (ps_set (i := 3) scCan.nd rfl (.inl rfl) (pe_call GB hr rfl gB FB.kp bB .nil pass0 (pa_cons (pv 0) (pa_cons (pv 1) (pa_cons (pv 2) pa_nil)))))
      (pss_one (ps_ret (pe_callB (cr_all rfl) (by rfl) nA (by decide +kernel) (pa_cons (pe_lc (own := [("_law_begun", 4), ("_law_ended", 5)]) (g := gTup K 2 (gCons (gName 4) (gCons (gName 5) gNil))) (tt := tYes) rfl scCan.nd (pi_tup (pv 3)) (blkOk_by (N := NC) (sc := defScope sCanCome) (by decide +kernel))
        (fun _ _ _ _ _ => pg_tup rfl (pgs_cons (pg_name (i := 4) scCan.nd rfl (.inl rfl)) (pgs_cons (pg_name (i := 5) scCan.nd rfl (.inl rfl)) pgs_nil))) (fun _ _ _ _ _ => pts_nil) (fun _ _ _ _ _ => pe_chain op_le op_le (pv 5) (pv 4) pe_int)) pa_nil)))), ?_⟩
    refine ⟨_, rfl, _, rfl, _, rfl, l, sv, ev, js, s, e, rfl, hl, fs, fe, hsl, hjl, hm, fun v H1 s1 f1 => ?_⟩
    obtain ⟨t, ys, rfl, ht, fy⟩ := f1.t
    have hi : ixOf (js.map (·.1)) e.2 < s.length := by
      rw [hsl, ← List.length_map (f := (·.1))]
      exact ixOf_lt hm
    have hbl : (behS (js.map (·.1)) s e).length = js.length := by rw [behS_len hi, hsl]
    have yl : ys.length = js.length := by rw [fy.len, List.length_map, hbl]
    refine ⟨_, rfl, t, rfl, ⟨_, SqT.of ht⟩, fun D hD => ?_⟩
    refine lc_tup (K := K) (a := t) (xs := ys) (fun i H' => Same H1 H' ∧ H' D = some (.lst ((((behS (js.map (·.1)) s e).take i).map okP).map V.bl))) ⟨same_new hD, upd_same⟩ (fun i H' _ ⟨s2, _⟩ => SqT.of (s2 _ _ ht)) ?_ ?_
    · rintro i x H' hx ⟨s2, eD⟩
      obtain ⟨p, hp, fp⟩ := fy.atM hx
      obtain ⟨b, x1, x2, rfl, hb, f1, f2⟩ := fp.t2
      obtain rfl := f1.i
      obtain rfl := f2.i
      have hlt : i < ys.length := (List.getElem?_eq_some_iff.mp hx).1
      refine ⟨b, _, rfl, SqT.of (s2 _ _ hb), rfl, _, _, rfl, _, _, rfl, rfl, rfl, _, rfl, _, rfl, _, _, rfl, rfl, _, rfl, ?_⟩
      have fin : ∀ k : Bool, k = okP p → ∃ acc, H' D = some (.lst acc) ∧ acc.length < sizeLine ∧ Same H1 (upd H' D (.lst (acc ++ [.bl k]))) ∧ upd H' D (.lst (acc ++ [.bl k])) D = some (.lst ((((behS (js.map (·.1)) s e).take (i + 1)).map okP).map V.bl)) := by
        rintro k rfl
        refine ⟨_, eD, ?_, same_upd s2 hD, ?_⟩
        · rw [List.length_map, List.length_map, List.length_take]
          exact Nat.lt_of_le_of_lt (Nat.min_le_left _ _) (Nat.lt_of_lt_of_le hlt (Nat.le_trans (by omega) (show 10 ≤ sizeLine by decide)))
        · rw [upd_same, take_next hp, List.map_append, List.map_append]
          rfl
      refine ite2 (fun c => ⟨_, _, rfl, rfl, fin _ ?_⟩) (fun c => fin _ ?_)
      · unfold okP
        rw [c, Bool.true_and]
      · unfold okP
        rw [Bool.eq_false_iff.mpr c, Bool.false_and]
    · rintro H' ⟨s2, eD⟩
      refine ⟨D, _, rfl, SqL.of eD, ?_⟩
      rw [yl, ← hbl, List.take_length, List.all_map]
      exact k H' (s1.trans s2)
abbrev NE : List Str := ["_law_jobs_here", "_law_standing_here", "_law_some_here", "_law_name", "_law_manner", "_law_event"]
theorem scEv : FnScope NE ["_law_jobs_here", "_law_standing_here"] (defScope sEvents) := ⟨rfl, rfl, rfl, by decide +kernel, rfl, by decide +kernel, by decide +kernel⟩
theorem evs_next (L : List Str) (n : Str) : evs (L ++ [n]) = evs L ++ ([("begin", n), ("end", n)] : List (Str × Str)) := by
  unfold evs
  rw [List.flatMap_append]
  rfl
theorem ok_events {f fB fC : Addr} {fd fdB fdC : FuncData} (F : Fun K "_law_events" "_law_events" sEvents f fd) (nA : mg "all" = none) (FB : Fun K "_law_behind" "_law_behind" sBehind fB fdB) (gB : mg "_law_behind" = some (.ref fB)) (bB : Binds K fdB ["_law_jobs_here", "_law_standing_here", "_law_event"] [])
    (FC : Fun K "_law_can_come" "_law_can_come" sCanCome fC fdC) (gC : mg "_law_can_come" = some (.ref fC)) (bC : Binds K fdC ["_law_jobs_here", "_law_standing_here", "_law_event"] []) :
    FnOk P w K mg base CX0 3 f fd ["_law_jobs_here", "_law_standing_here"] (spEvents K) := by
  have GC : FnOk P w K mg base CX0 2 fC fdC ["_law_jobs_here", "_law_standing_here", "_law_event"] (spCan K) := ok_can FC nA FB gB bB
  refine F.ok scEv (fun vs H Q E h => ?_) (fun cdv A outer s H vs Q E hr h => ?_)
  · obtain ⟨l, sv, js, s, rfl, _⟩ := h
    rfl
  · obtain ⟨l, sv, js, s, rfl, ⟨xs, hl, fx⟩, fs, hsl, hjl, k⟩ := h
    refine ⟨_, pss_cons (ps_set (i := 2) scEv.nd rfl (.inl rfl) (pe_lst pa_nil))
      (pss_cons (ps_for PassesOwn.never rfl (pi_list (pv 0)) (pg_tup rfl (pgs_cons (pg_name (i := 3) scEv.nd rfl (.inl rfl)) (pgs_cons (pg_name (i := 4) scEv.nd rfl (.inl rfl)) pgs_nil)))
        (pss_one (ps_expr (pe_bm PySem.F.plainAttrs_list PySem.F.slot_list_extend PySem.F.type_list_extend mt_extend (pv 2) (pa_cons (pe_lst (pa_cons (pe_tup (pa_cons pe_str (pa_cons (pv 3) pa_nil))) (pa_cons (pe_tup (pa_cons pe_str (pa_cons (pv 3) pa_nil))) pa_nil))) pa_nil)))))
      (pss_one (ps_ret (pe_lc (own := [("_law_event", 5)]) (g := gName 5) rfl scEv.nd (pi_list (pv 2)) (blkOk_by (N := NE) (sc := defScope sEvents) (by decide +kernel)) (fun _ _ _ _ _ => pg_name (i := 5) scEv.nd rfl (.inl rfl))
        (fun _ _ _ _ _ => pts_one (pt_val (pe_call GC hr rfl gC FC.kp bC .nil pass0 (pa_cons (pv 0) (pa_cons (pv 1) (pa_cons (pv 5) pa_nil)))))) (fun _ _ _ _ _ => pv 5))))), ?_⟩
    refine ⟨by decide, fun p np => ?_⟩
    have sp := same_new (o := .lst []) np
    refine ⟨_, rfl, l, rfl, ⟨_, SqL.of (sp _ _ hl)⟩, for_list (K := K) (a := l) (xs := xs) (fun i σ H' => ∃ (x3 x4 : Option V) (acc : List V), σ = [some (.ref l), some sv, some (.ref p), x3, x4, none] ∧ Same H H' ∧ H' p = some (.lst acc) ∧ FzAll H' acc ((evs ((js.map (·.1)).take i)).map eE))
      ⟨none, none, [], rfl, sp, upd_same, .nil⟩ (fun i σ H' _ ⟨_, _, _, _, s1, _⟩ => SqL.of (s1 _ _ hl)) ?_ ?_⟩
    · rintro i x σ H' hx ⟨x3, x4, acc, rfl, s1, eP, fz⟩
      obtain ⟨j, hj, fj⟩ := fx.atM hx
      obtain ⟨b, y1, y2, rfl, hb, f1, f2⟩ := fj.t2
      obtain rfl := f1.s
      have hlt : i < js.length := (List.getElem?_eq_some_iff.mp hj).1
      have la : acc.length = 2 * i := by
        rw [fz.len, List.length_map]
        unfold evs
        rw [List.length_flatMap]
        have z : (List.take i (List.map (fun x => x.1) js)).map (fun n => [(("begin" : Str), n), (("end" : Str), n)].length) = List.replicate i 2 := by
          rw [List.eq_replicate_iff]
          refine ⟨by rw [List.length_map, List.length_take, List.length_map]; omega, fun y hy => ?_⟩
          obtain ⟨_, _, e⟩ := List.mem_map.mp hy
          exact e.symm
        rw [z, List.sum_replicate_nat]
        omega
      refine ⟨b, _, rfl, SqT.of (s1 _ _ hb), rfl, _, _, rfl, _, _, rfl, rfl, ?_⟩
      refine ⟨_, rfl, .inl ⟨rfl, _, SqL.of eP⟩, _, rfl, (by show 2 ≤ sizeLine; decide), fun t ht => ?_⟩
      have st := same_new (o := .tup [.str "begin", .str j.1]) ht
      refine ⟨_, rfl, (by show 2 ≤ sizeLine; decide), fun u hu => ?_⟩
      have su := same_new (o := .tup [.str "end", .str j.1]) hu
      refine ⟨(by show 2 ≤ sizeLine; decide), fun v hv => ?_⟩
      have sv' := same_new (o := .lst [.ref t, .ref u]) hv
      have sF := (st.trans su).trans sv'
      refine ⟨p, v, _, _, rfl, rfl, sF _ _ eP, upd_same, by rw [la]; show 2 * i + 2 ≤ sizeLine; exact Nat.le_trans (show 2 * i + 2 ≤ 100 by omega) (by decide), ?_⟩
      refine ⟨_, _, _, rfl, same_upd (s1.trans sF) np, upd_same, FzAll.mv (tups_lst (sF _ _ eP)) ?_⟩
      rw [take_next (x := j.1) (by rw [List.getElem?_map, hj]; rfl), evs_next, List.map_append]
      exact (fz.same sF).append (.cons (.tup (sv' _ _ (su _ _ upd_same)) (.cons (.str _) (.cons (.str _) .nil))) (.cons (.tup (sv' _ _ upd_same) (.cons (.str _) (.cons (.str _) .nil))) .nil))
    · rintro σ H' ⟨x3, x4, acc, rfl, s1, eP, fz⟩
      rw [fx.len, List.length_map, List.take_of_length_le (by rw [List.length_map]; exact Nat.le_refl _)] at fz
      refine ⟨_, rfl, p, rfl, ⟨_, SqL.of eP⟩, fun D hD => ?_⟩
      have D0 : H D = none := s1.free hD
      have la : acc.length ≤ 20 := by
        rw [fz.len, List.length_map]
        unfold evs
        rw [List.length_flatMap]
        have z : (List.map (fun x => x.1) js).map (fun n => [(("begin" : Str), n), (("end" : Str), n)].length) = List.replicate js.length 2 := by
          rw [List.eq_replicate_iff]
          refine ⟨by rw [List.length_map, List.length_map], fun y hy => ?_⟩
          obtain ⟨_, _, e⟩ := List.mem_map.mp hy
          exact e.symm
        rw [z, List.sum_replicate_nat]
        omega
      refine lc_list (K := K) (a := p) (xs := acc) (fun i H2 => Same H' H2 ∧ ∃ acc2, H2 D = some (.lst acc2) ∧ acc2.length ≤ i ∧ FzAll H2 acc2 ((((evs (js.map (·.1))).take i).filter (canS (js.map (·.1)) s)).map eE)) ⟨same_new hD, [], upd_same, Nat.le_refl _, .nil⟩ (fun i H2 _ ⟨s2, _⟩ => SqL.of (s2 _ _ eP)) ?_ ?_
      · rintro i x H2 hx ⟨s2, acc2, eD, l2, fz2⟩
        obtain ⟨e, he, fe⟩ := fz.atM hx
        have hlt : i < acc.length := (List.getElem?_eq_some_iff.mp hx).1
        have hem : e.2 ∈ js.map (·.1) := by
          have m := List.mem_of_getElem? he
          unfold evs at m
          obtain ⟨n, hn, hm⟩ := List.mem_flatMap.mp m
          rcases List.mem_cons.mp hm with z | z
          · rw [z]
            exact hn
          · rw [List.mem_singleton.mp z]
            exact hn
        have sH2 := s1.trans s2
        have fe2 := fe.same s2
        refine ⟨rfl, _, rfl, _, rfl, _, rfl, l, sv, x, js, s, e, rfl, ⟨xs, sH2 _ _ hl, fx.same sH2⟩, fs.same sH2, fe2, hsl, hjl, hem, fun H3 s3 => ⟨_, rfl, ?_⟩⟩
        have nD : ∀ o, Same H' (upd H3 D o) := fun o => same_upd (s2.trans s3) hD
        refine ite2 (fun c => ?_) (fun c => ?_)
        · refine ⟨_, rfl, acc2, s3 _ _ eD, Nat.lt_of_le_of_lt l2 (Nat.lt_of_lt_of_le (show i < 100 by omega) (by decide)), nD _, _, upd_same, by rw [List.length_append, List.length_singleton]; omega, FzAll.mv (tups_lst (s3 _ _ eD)) ?_⟩
          rw [take_next he, List.filter_append, List.map_append]
          rw [show List.filter (canS (js.map (·.1)) s) [e] = [e] by simp [c]]
          exact (fz2.same s3).snoc (fe2.same s3)
        · refine ⟨s2.trans s3, acc2, s3 _ _ eD, Nat.le_succ_of_le l2, ?_⟩
          rw [take_next he, List.filter_append, List.map_append]
          rw [show List.filter (canS (js.map (·.1)) s) [e] = [] by simp [c]]
          rw [List.map_nil, List.append_nil]
          exact fz2.same s3
      · rintro H2 ⟨s2, acc2, eD, _, fz2⟩
        rw [fz.len, List.length_map, List.take_length] at fz2
        exact k D H2 (s1.trans s2) D0 ⟨acc2, eD, fz2⟩
end
end K04
namespace GD
open PySem PySem.Spec PyProof.Rows L2
def MannerOk (m : Str) (size : Nat) (c : Int × Int) : Prop := (m = "clean" → c.1 ≤ 0 ∧ c.2 = -c.1) ∧ (m = "spent" → c.1 ≤ 0 ∧ c.2 = 0) ∧ (m = "plain" → c.1 ≤ 0 ∧ 0 ≤ c.2) ∧ -(size : Int) ≤ c.1 ∧ c.1 ≤ size ∧ -(size : Int) ≤ c.2 ∧ c.2 ≤ size
def spChange : Sp := fun vs H Q _ => ∃ (a : Addr) (m : Str) (size : Nat) (z : Int), vs = [.ref a, .str m, .int size] ∧ PotAt H a z ∧ z ≤ 90000 ∧ 1 ≤ size ∧ size ≤ 1000 ∧
  ∀ v (c : Int × Int) H', PotAt H' a (z + 4) → Keep a H H' → Fz H' v (eP c) → MannerOk m size c → Q v H'
abbrev Stk := Int × List (Int × Int)
def eK (st : Stk) : PyData := .tuple [.int st.1, .tuple (st.2.map eP)]
def StockOk (js : List (Str × Str)) (size : Nat) (st : Stk) : Prop := 0 ≤ st.1 ∧ st.1 ≤ 2 * size ∧ st.2.length = js.length ∧ ∀ (i : Nat) (j : Str × Str) (c : Int × Int), js[i]? = some j → st.2[i]? = some c → MannerOk j.2 size c
def spStock : Sp := fun vs H Q _ => ∃ (a l : Addr) (js : List (Str × Str)) (size : Nat) (z : Int), vs = [.ref a, .ref l, .int size] ∧ PotAt H a z ∧ z ≤ 80000 ∧ l ≠ a ∧ LstAt H l (js.map eE) ∧ js.length ≤ 10 ∧ 1 ≤ size ∧ size ≤ 1000 ∧
  ∀ v st H', PotAt H' a (z + 50) → Keep a H H' → Fz H' v (eK st) → StockOk js size st → Q v H'
def levelS (st : Stk) (s : Stn) : Int := st.1 + (List.zipWith (fun c p => p.1 * c.1 + p.2 * c.2) st.2 s).sum
def letsS (sts : List Stk) (s : Stn) : Bool := sts.all fun st => decide (0 ≤ levelS st s)
def Small (s : Stn) : Prop := ∀ p ∈ s, -1000 ≤ p.1 ∧ p.1 ≤ 1000 ∧ -1000 ≤ p.2 ∧ p.2 ≤ 1000
def spLevel (K : PySem.W.Frag) : Sp := fun vs H Q _ => ∃ (x y : V) (st : Stk) (s : Stn), vs = [x, y] ∧ Fz H x (eK st) ∧ Fz H y (eS s) ∧ st.2.length = s.length ∧ s.length ≤ 10 ∧ Small s ∧ ∀ H', Same H H' → Q (.int (levelS st s)) H'
def spLets (K : PySem.W.Frag) : Sp := fun vs H Q _ => ∃ (l : Addr) (y : V) (sts : List Stk) (s : Stn), vs = [.ref l, y] ∧ LstAt H l (sts.map eK) ∧ Fz H y (eS s) ∧ (∀ st ∈ sts, st.2.length = s.length) ∧ s.length ≤ 10 ∧ sts.length ≤ 100 ∧ Small s ∧ ∀ H', Same H H' → Q (.bl (letsS sts s)) H'
theorem keep_none {a p : Addr} {H H' : Hp} {z : Int} (hp : PotAt H' a z) (k : Keep a H H') (h : H' p = none) : H p = none := by
  cases c : H p with
  | none => rfl
  | some o =>
    rw [k p o (hp.ne h) c] at h
    cases h
end GD
namespace K04
open PySem PySem.Spec PyProof.Rows L2 GD
section
variable {P : Program} {w : World} {K : PySem.W.Frag} {mg : Str → Option Value} {base : Heap}
theorem scSt : FnScope ["_law_pot_here", "_law_jobs_here", "_law_far", "_law_found", "_law_name", "_law_manner", "_law_begun"] ["_law_pot_here", "_law_jobs_here", "_law_far"] (defScope sStanding) := ⟨rfl, rfl, rfl, by decide +kernel, rfl, by decide +kernel, by decide +kernel⟩
theorem ok_standing {f fT : Addr} {fd fdT : FuncData} (F : Fun K "_law_standing" "_law_standing" sStanding f fd) (T : TxtA mg) (nT : mg "tuple" = none) (FT : Fun K "_law_take" "_law_take" sTake fT fdT) (gT : mg "_law_take" = some (.ref fT)) (bT : Binds K fdT ["_law_pot_here", "_law_upto"] []) :
    FnOk P w K mg base CX0 2 f fd ["_law_pot_here", "_law_jobs_here", "_law_far"] spStanding := by
  have GT : FnOk P w K mg base CX0 1 fT fdT ["_law_pot_here", "_law_upto"] spTake := ok_take FT T
  refine F.ok scSt (fun vs H Q E h => ?_) (fun cdv A outer s H vs Q E hr h => ?_)
  · obtain ⟨a, l, far, js, z, rfl, _⟩ := h
    rfl
  · obtain ⟨a, l, far, js, z, rfl, hp, hz, hla, ⟨xs, hl, fx⟩, hjl, hfar, k⟩ := h
    refine ⟨_, pss_cons (ps_set (i := 3) scSt.nd rfl (.inl rfl) (pe_lst pa_nil))
      (pss_cons (ps_for PassesOwn.never rfl (pi_list (pv 1)) (pg_tup rfl (pgs_cons (pg_name (i := 4) scSt.nd rfl (.inl rfl)) (pgs_cons (pg_name (i := 5) scSt.nd rfl (.inl rfl)) pgs_nil)))
        (pss_cons (ps_set (i := 6) scSt.nd rfl (.inl rfl) (pe_call GT hr rfl gT FT.kp bT .nil pass0 (pa_cons (pv 0) (pa_cons (pe_op op_add (pv 2) pe_int) pa_nil))))
        (pss_one (ps_expr (pe_bm PySem.F.plainAttrs_list PySem.F.slot_list_append PySem.F.type_list_append mt_append (pv 3) (pa_cons (pe_tup (pa_cons (pv 6) (pa_cons (pe_call GT hr rfl gT FT.kp bT .nil pass0 (pa_cons (pv 0) (pa_cons (pe_op op_add (pv 6) pe_int) pa_nil))) pa_nil))) pa_nil))))))
      (pss_one (ps_ret (pe_callTy call_tuple_of (by rfl) nT (by decide +kernel) (pa_cons (pv 3) pa_nil))))), ?_⟩
    refine ⟨by decide, fun p np => ?_⟩
    have sp := same_new (o := .lst []) np
    have npa := hp.ne np
    refine ⟨_, rfl, l, rfl, ⟨_, SqL.of (sp _ _ hl)⟩, for_list (K := K) (a := l) (xs := xs) (fun i σ H' => ∃ (x4 x5 x6 : Option V) (acc : List V) (sn : Stn), σ = [some (.ref a), some (.ref l), some (.int far), some (.ref p), x4, x5, x6] ∧ PotAt H' a (z + 2 * (i : Nat)) ∧ Keep a H H' ∧ H' p = some (.lst acc) ∧ FzAll H' acc (sn.map eP) ∧ sn.length = i ∧ ∀ q ∈ sn, 0 ≤ q.2 ∧ q.2 ≤ q.1 ∧ q.1 ≤ far)
      ⟨none, none, none, [], [], rfl, (hp.same sp).le (by omega), sKeep sp, upd_same, .nil, rfl, fun _ h => nomatch h⟩ (fun i σ H' _ ⟨_, _, _, _, _, _, _, k1, _⟩ => SqL.of (k1 _ _ hla hl)) ?_ ?_⟩
    · rintro i x σ H' hx ⟨x4, x5, x6, acc, sn, rfl, pi, ki, eP', fz, ls, hq⟩
      obtain ⟨j, hj, fj⟩ := fx.atM hx
      obtain ⟨b, y1, y2, rfl, hb, f1, f2⟩ := fj.t2
      have tK := hp.tups ki
      have hlt : i < js.length := (List.getElem?_eq_some_iff.mp hj).1
      refine ⟨b, _, rfl, SqT.of (tK _ _ hb), rfl, _, _, rfl, _, _, rfl, rfl, ?_⟩
      refine ⟨_, rfl, _, rfl, _, _, rfl, rfl, a, far + 1, z + 2 * (i : Nat), rfl, pi, by omega, by omega, by omega, fun n H2 n0 n1 p2 k2 => ?_⟩
      have eP2 := k2 _ _ npa eP'
      refine ⟨_, rfl, .inl ⟨rfl, _, SqL.of eP2⟩, _, rfl, _, rfl, _, rfl, _, _, rfl, rfl, a, n + 1, _, rfl, p2, by omega, by omega, by omega, fun m H3 m0 m1 p3 k3 => ?_⟩
      refine ⟨(by show 2 ≤ sizeLine; decide), fun t ht => ?_⟩
      have st := same_new (o := .tup [.int n, .int m]) ht
      have eP3 := st _ _ (k3 _ _ npa eP2)
      have la : acc.length = i := by rw [fz.len, List.length_map, ls]
      refine ⟨p, acc, _, rfl, rfl, eP3, by rw [la]; exact Nat.lt_of_lt_of_le (show i < 100 by omega) (by decide), ?_⟩
      have tT : Tups H' (upd H3 t (.tup [.int n, .int m])) := ((pi.tups k2).trans (p2.tups k3)).trans (tups_same st)
      refine ⟨_, _, _, _, sn ++ [(n, m)], rfl, ((p3.same st).upd_ne npa).le (by omega), keep_upd (((ki.trans k2).trans k3).trans (sKeep st)) np, upd_same, FzAll.mv (tups_lst eP3) ?_, by rw [List.length_append, ls]; rfl, fun q hq' => ?_⟩
      · rw [List.map_append]
        exact (fz.mv tT).snoc (.tup upd_same (.cons (.int _) (.cons (.int _) .nil)))
      · rcases List.mem_append.mp hq' with y | y
        · exact hq q y
        · rw [List.mem_singleton.mp y]
          exact ⟨m0, by show m ≤ n; omega, by show n ≤ far; omega⟩
    · rintro σ H' ⟨x4, x5, x6, acc, sn, rfl, pi, ki, eP', fz, ls, hq⟩
      rw [fx.len, List.length_map] at ls pi
      refine ⟨_, rfl, p, acc, rfl, .inl ⟨SqL.of eP', fun t ht => k _ sn _ ((pi.same (same_new ht)).le (by omega)) (ki.trans (sKeep (same_new ht))) (.tup upd_same (fz.mv (tups_new ht))) ls hq⟩⟩
theorem scCh : FnScope ["_law_pot_here", "_law_manner", "_law_size", "_law_taken"] ["_law_pot_here", "_law_manner", "_law_size"] (defScope sChange) := ⟨rfl, rfl, rfl, by decide +kernel, rfl, by decide +kernel, by decide +kernel⟩
theorem ok_change {f fT : Addr} {fd fdT : FuncData} (F : Fun K "_law_change" "_law_change" sChange f fd) (T : TxtA mg) (FT : Fun K "_law_take" "_law_take" sTake fT fdT) (gT : mg "_law_take" = some (.ref fT)) (bT : Binds K fdT ["_law_pot_here", "_law_upto"] []) :
    FnOk P w K mg base CX0 2 f fd ["_law_pot_here", "_law_manner", "_law_size"] spChange := by
  have GT : FnOk P w K mg base CX0 1 fT fdT ["_law_pot_here", "_law_upto"] spTake := ok_take FT T
  refine F.ok scCh (fun vs H Q E h => ?_) (fun cdv A outer s H vs Q E hr h => ?_)
  · obtain ⟨a, m, size, z, rfl, _⟩ := h
    rfl
  · obtain ⟨a, m, size, z, rfl, hp, hz, h1, h2, k⟩ := h
    refine ⟨_, pss_cons (ps_set (i := 3) scCh.nd rfl (.inl rfl) (pe_call GT hr rfl gT FT.kp bT .nil pass0 (pa_cons (pv 0) (pa_cons (pv 2) pa_nil))))
      (pss_cons (ps_if (pt_cmpR op_eq (pv 1) pe_str (nomark _)) (pss_one (ps_ret (pe_tup (pa_cons (pe_un un_neg (pv 3)) (pa_cons (pv 3) pa_nil))))) pss_nil)
      (pss_cons (ps_if (pt_cmpR op_eq (pv 1) pe_str (nomark _)) (pss_one (ps_ret (pe_tup (pa_cons (pe_un un_neg (pv 3)) (pa_cons pe_int pa_nil))))) pss_nil)
      (pss_cons (ps_if (pt_cmpR op_eq (pv 1) pe_str (nomark _)) (pss_one (ps_ret (pe_tup (pa_cons (pe_un un_neg (pv 3)) (pa_cons (pe_call GT hr rfl gT FT.kp bT .nil pass0 (pa_cons (pv 0) (pa_cons (pv 2) pa_nil))) pa_nil))))) pss_nil)
      (pss_one (ps_ret (pe_tup (pa_cons (pe_op op_add (pe_op op_sub (pe_call GT hr rfl gT FT.kp bT .nil pass0 (pa_cons (pv 0) (pa_cons (pe_op op_sub (pe_op op_mul pe_int (pv 2)) pe_int) pa_nil))) (pv 2)) pe_int)
        (pa_cons (pe_op op_add (pe_op op_sub (pe_call GT hr rfl gT FT.kp bT .nil pass0 (pa_cons (pv 0) (pa_cons (pe_op op_sub (pe_op op_mul pe_int (pv 2)) pe_int) pa_nil))) (pv 2)) pe_int) pa_nil)))))))), ?_⟩
    have small : CMul 2 (size : Int) := .inl ⟨by decide, by decide⟩
    refine ⟨_, rfl, _, rfl, a, size, z, rfl, hp, by omega, by omega, by omega, fun n H1 n0 n1 p1 k1 => ?_⟩
    refine ⟨_, rfl, rfl, _, rfl, ite2 (fun c => ?_) (fun c1 => ?_)⟩
    · have c' : m = "clean" := V.str.inj (of_decide_eq_true c)
      refine ⟨_, rfl, _, rfl, _, rfl, (by show 2 ≤ sizeLine; decide), fun t ht => k _ (-n, n) _ ((p1.same (same_new ht)).le (by omega)) (k1.trans (sKeep (same_new ht))) (.tup upd_same (.cons (.int _) (.cons (.int _) .nil))) ?_⟩
      subst c'
      exact ⟨fun _ => ⟨by show -n ≤ 0; omega, by show n = - -n; omega⟩, fun z => by exact absurd z (by decide), fun z => by exact absurd z (by decide), by show -(size : Int) ≤ -n; omega, by show -n ≤ size; omega, by show -(size : Int) ≤ n; omega, by show n ≤ size; omega⟩
    have c1' : ¬ m = "clean" := fun z => c1 (decide_eq_true (congrArg V.str z))
    refine ⟨_, rfl, rfl, _, rfl, ite2 (fun c => ?_) (fun c2 => ?_)⟩
    · have c' : m = "spent" := V.str.inj (of_decide_eq_true c)
      refine ⟨_, rfl, _, rfl, (by show 2 ≤ sizeLine; decide), fun t ht => k _ (-n, 0) _ ((p1.same (same_new ht)).le (by omega)) (k1.trans (sKeep (same_new ht))) (.tup upd_same (.cons (.int _) (.cons (.int _) .nil))) ?_⟩
      subst c'
      exact ⟨fun z => by exact absurd z (by decide), fun _ => ⟨by show -n ≤ 0; omega, rfl⟩, fun z => by exact absurd z (by decide), by show -(size : Int) ≤ -n; omega, by show -n ≤ size; omega, by show -(size : Int) ≤ 0; omega, by show (0 : Int) ≤ size; omega⟩
    have c2' : ¬ m = "spent" := fun z => c2 (decide_eq_true (congrArg V.str z))
    refine ⟨_, rfl, rfl, _, rfl, ite2 (fun c => ?_) (fun c3 => ?_)⟩
    · have c' : m = "plain" := V.str.inj (of_decide_eq_true c)
      refine ⟨_, rfl, _, rfl, _, rfl, _, rfl, a, size, _, rfl, p1, by omega, by omega, by omega, fun n2 H2 m0 m1 p2 k2 => ?_⟩
      refine ⟨(by show 2 ≤ sizeLine; decide), fun t ht => k _ (-n, n2) _ ((p2.same (same_new ht)).le (by omega)) ((k1.trans k2).trans (sKeep (same_new ht))) (.tup upd_same (.cons (.int _) (.cons (.int _) .nil))) ?_⟩
      exact ⟨fun z => absurd z c1', fun z => absurd z c2', fun _ => ⟨by show -n ≤ 0; omega, m0⟩, by show -(size : Int) ≤ -n; omega, by show -n ≤ size; omega, by show -(size : Int) ≤ n2; omega, by show n2 ≤ size; omega⟩
    have c3' : ¬ m = "plain" := fun z => c3 (decide_eq_true (congrArg V.str z))
    refine ⟨_, rfl, _, rfl, _, _, rfl, rfl, small, _, _, rfl, rfl, a, 2 * (size : Int) - 1, _, rfl, p1, by omega, by omega, by omega, fun u H2 u0 u1 p2 k2 => ?_⟩
    refine ⟨_, rfl, _, _, rfl, rfl, _, _, rfl, rfl, _, rfl, _, rfl, _, _, rfl, rfl, small, _, _, rfl, rfl, a, 2 * (size : Int) - 1, _, rfl, p2, by omega, by omega, by omega, fun v H3 v0 v1 p3 k3 => ?_⟩
    refine ⟨_, rfl, _, _, rfl, rfl, _, _, rfl, rfl, (by show 2 ≤ sizeLine; decide), fun t ht => k _ (u - size + 1, v - size + 1) _ ((p3.same (same_new ht)).le (by omega)) (((k1.trans k2).trans k3).trans (sKeep (same_new ht))) (.tup upd_same (.cons (.int _) (.cons (.int _) .nil))) ?_⟩
    exact ⟨fun z => absurd z c1', fun z => absurd z c2', fun z => absurd z c3', by show -(size : Int) ≤ u - size + 1; omega, by show u - size + 1 ≤ (size : Int); omega, by show -(size : Int) ≤ v - size + 1; omega, by show v - size + 1 ≤ (size : Int); omega⟩
end
end K04
namespace GD
open PySem PySem.Spec PyProof.Rows L2
/-! what the drawn facts are -/
def Bd (n : Int) (s : Stn) : Prop := ∀ p ∈ s, 0 ≤ p.2 ∧ p.2 ≤ p.1 ∧ p.1 ≤ n
theorem Bd.le {n m : Int} {s : Stn} (h : Bd n s) (l : n ≤ m) : Bd m s := fun p hp => by
  have z := h p hp
  omega
theorem Bd.small {n : Int} {s : Stn} (h : Bd n s) (l : n ≤ 1000) : Small s := fun p hp => by
  have z := h p hp
  omega
theorem bd_first {k : Nat} : Bd 0 (List.replicate k (0, 0)) := fun p hp => by
  rw [(List.mem_replicate.mp hp).2]
  decide
theorem okP_iff {p : Int × Int} : okP p = true ↔ p.2 ≤ p.1 ∧ p.1 ≤ 40 := by
  unfold okP
  rw [Bool.and_eq_true, decide_eq_true_iff, decide_eq_true_iff]
theorem mem_beh {names : List Str} {s : Stn} {e : Str × Str} {q : Int × Int} (h : q ∈ behS names s e) : q ∈ s ∨ q = bumpP e.1 (s.getD (ixOf names e.2) (0, 0)) := by
  unfold behS at h
  rcases List.mem_append.mp h with h | h
  · rcases List.mem_append.mp h with h | h
    · exact .inl (List.mem_of_mem_take h)
    · exact .inr (List.mem_singleton.mp h)
  · exact .inl (List.mem_of_mem_drop h)
theorem bump_mem {names : List Str} {s : Stn} {e : Str × Str} : bumpP e.1 (s.getD (ixOf names e.2) (0, 0)) ∈ behS names s e := by
  unfold behS
  exact List.mem_append_left _ (List.mem_append_right _ (List.mem_singleton.mpr rfl))
theorem getD_mem {s : Stn} {i : Nat} (h : i < s.length) : s.getD i (0, 0) ∈ s := by
  rw [List.getD_eq_getElem?_getD, List.getElem?_eq_getElem h]
  exact List.getElem_mem h
theorem bd_beh {n : Int} {names : List Str} {s : Stn} {e : Str × Str} (h : Bd n s) (hi : ixOf names e.2 < s.length) (c : canS names s e = true) : Bd (n + 1) (behS names s e) := fun q hq => by
  have ok := okP_iff.mp (List.all_eq_true.mp c q hq)
  rcases mem_beh hq with m | m
  · have z := h q m
    omega
  · have z := h _ (getD_mem hi)
    have z2 : 0 ≤ q.2 ∧ q.1 ≤ n + 1 := by
      rw [m]
      unfold bumpP
      split
      · constructor
        · exact z.1
        · show (s.getD (ixOf names e.2) (0, 0)).1 + 1 ≤ n + 1
          omega
      · constructor
        · show 0 ≤ (s.getD (ixOf names e.2) (0, 0)).2 + 1
          omega
        · show (s.getD (ixOf names e.2) (0, 0)).1 ≤ n + 1
          omega
    omega
theorem can_begin {n : Int} {names : List Str} {s : Stn} {x : Str} (h : Bd n s) (hn : n ≤ 39) (hx : x ∈ names) (hl : s.length = names.length) : canS names s ("begin", x) = true := by
  refine List.all_eq_true.mpr fun q hq => okP_iff.mpr ?_
  have hi : ixOf names x < s.length := by
    rw [hl]
    exact ixOf_lt hx
  rcases mem_beh hq with m | m
  · have z := h q m
    omega
  · have z := h _ (getD_mem hi)
    rw [m]
    show (s.getD (ixOf names x) (0, 0)).2 ≤ (s.getD (ixOf names x) (0, 0)).1 + 1 ∧ (s.getD (ixOf names x) (0, 0)).1 + 1 ≤ 40
    omega
theorem events_some {n : Int} {names : List Str} {s : Stn} (h : Bd n s) (hn : n ≤ 39) (h1 : names ≠ []) (hl : s.length = names.length) : (evs names).filter (canS names s) ≠ [] := by
  cases names with
  | nil => exact absurd rfl h1
  | cons x r =>
    have m : (("begin" : Str), x) ∈ evs (x :: r) := by
      unfold evs
      exact List.mem_flatMap.mpr ⟨x, List.mem_cons_self, List.mem_cons_self⟩
    exact List.ne_nil_of_mem (List.mem_filter.mpr ⟨m, can_begin h hn List.mem_cons_self hl⟩)
theorem event_job {names : List Str} {e : Str × Str} (h : e ∈ evs names) : e.2 ∈ names := by
  unfold evs at h
  obtain ⟨n, hn, hm⟩ := List.mem_flatMap.mp h
  rcases List.mem_cons.mp hm with z | z
  · rw [z]
    exact hn
  · rw [List.mem_singleton.mp z]
    exact hn
theorem evs_len (names : List Str) : (evs names).length = 2 * names.length := by
  induction names with
  | nil => rfl
  | cons x r ih =>
    have e : evs (x :: r) = ([("begin", x), ("end", x)] : List (Str × Str)) ++ evs r := rfl
    rw [e, List.length_append, ih, List.length_cons]
    show 2 + 2 * r.length = 2 * (r.length + 1)
    omega
theorem level_first {st : Stk} {k : Nat} : levelS st (List.replicate k (0, 0)) = st.1 := by
  unfold levelS
  have z : ∀ (cs : List (Int × Int)) (k : Nat), (List.zipWith (fun c p => p.1 * c.1 + p.2 * c.2) cs (List.replicate k ((0 : Int), (0 : Int)))).sum = 0 := by
    intro cs
    induction cs with
    | nil =>
      intro k
      rfl
    | cons c r ih =>
      intro k
      cases k with
      | zero => rfl
      | succ k =>
        rw [List.replicate_succ, List.zipWith_cons_cons, List.sum_cons, ih k]
        simp
  rw [z]
  omega
theorem lets_first {sts : List Stk} {k : Nat} (h : ∀ st ∈ sts, 0 ≤ st.1) : letsS sts (List.replicate k (0, 0)) = true := by
  refine List.all_eq_true.mpr fun st hs => ?_
  rw [level_first]
  exact decide_eq_true (h st hs)
/-- a fact as it was heard: let where all stocks let it, not where one does not -/
def HeardOk (k : Nat) (n : Int) (sts : List Stk) : Fact → Prop
  | .let_ s => s.length = k ∧ Bd n s ∧ letsS sts s = true
  | .not_ s => s.length = k ∧ Bd n s ∧ letsS sts s = false
  | .as_ s t => s.length = k ∧ Bd n s ∧ t.length = k ∧ Bd n t ∧ s ≠ t ∧ ∀ st ∈ sts, levelS st s = levelS st t
def spHeard : Sp := fun vs H Q _ => ∃ (a lj ls : Addr) (days most : Nat) (js : List (Str × Str)) (sts : List Stk) (z : Int), vs = [.ref a, .ref lj, .ref ls, .int days, .int most] ∧ PotAt H a z ∧ z ≤ 20000 ∧ lj ≠ a ∧ ls ≠ a ∧ LstAt H lj (js.map eE) ∧ LstAt H ls (sts.map eK) ∧
  (∀ st ∈ sts, 0 ≤ st.1 ∧ st.2.length = js.length) ∧ sts.length ≤ 100 ∧ 1 ≤ js.length ∧ js.length ≤ 10 ∧ days ≤ 10 ∧ 1 ≤ most ∧ most ≤ 30 ∧
  ∀ (t l1 l2 : Addr) (fs : List Fact) (ms : List Stn) H', PotAt H' a (z + 1000) → Keep a H H' → H l1 = none → H l2 = none → l1 ≠ l2 → H' t = some (.tup [.ref l1, .ref l2]) → LstAt H' l1 (fs.map eF) → LstAt H' l2 (ms.map eS) →
    (∀ f ∈ fs, HeardOk js.length most sts f) → (∀ f ∈ fs, ∀ s t, f ≠ .as_ s t) → ms ≠ [] → (∀ m ∈ ms, m.length = js.length ∧ Bd most m ∧ letsS sts m = true) → fs.length ≤ days * most → ms.length ≤ 1 + days * most → Q (.ref t) H'
end GD
namespace GD
open PySem PySem.Spec PyProof.Rows L2
theorem walk_zipT {K : PySem.W.Frag} {a b : Addr} {xs ys : List V} {n : Nat} (hx : n = xs.length) (hy : n = ys.length) : Walk (RZ.ItzT K a b) n (fun H => SqT K H a xs ∧ SqT K H b ys) (YPair (fun i => xs[i]?) (fun i => ys[i]?)) := by
  refine ⟨fun i _ hi q => ?_, fun _ q => ⟨xs, ys, q.1, q.2, by omega⟩, fun i H v H' _ q y => ?_⟩
  · exact ⟨xs, ys, xs[i]'(by omega), ys[i]'(by omega), q.1, q.2, List.getElem?_eq_getElem (by omega), List.getElem?_eq_getElem (by omega)⟩
  · obtain ⟨T, x, z, h1, h2, h3, h4, h5⟩ := y
    exact ⟨T, x, z, h1, h2, h3, h4 xs q.1, h5 ys q.2⟩
end GD
namespace K04
open PySem PySem.Spec PyProof.Rows L2 GD
section
variable {P : Program} {w : World} {K : PySem.W.Frag} {mg : Str → Option Value} {base : Heap}
abbrev NS : List Str := ["_law_pot_here", "_law_jobs_here", "_law_size", "_law_name", "_law_manner"]
theorem scStock : FnScope NS ["_law_pot_here", "_law_jobs_here", "_law_size"] (defScope sStock) := ⟨rfl, rfl, rfl, by decide +kernel, rfl, by decide +kernel, by decide +kernel⟩
theorem ok_stock {f fC fT : Addr} {fd fdC fdT : FuncData} (F : Fun K "_law_stock" "_law_stock" sStock f fd) (T : TxtA mg) (nT : mg "tuple" = none) (FT : Fun K "_law_take" "_law_take" sTake fT fdT) (gT : mg "_law_take" = some (.ref fT)) (bT : Binds K fdT ["_law_pot_here", "_law_upto"] [])
    (FC : Fun K "_law_change" "_law_change" sChange fC fdC) (gC : mg "_law_change" = some (.ref fC)) (bC : Binds K fdC ["_law_pot_here", "_law_manner", "_law_size"] []) : FnOk P w K mg base CX0 3 f fd ["_law_pot_here", "_law_jobs_here", "_law_size"] spStock := by
  have GT : FnOk P w K mg base CX0 1 fT fdT ["_law_pot_here", "_law_upto"] spTake := ok_take FT T
  have GC : FnOk P w K mg base CX0 2 fC fdC ["_law_pot_here", "_law_manner", "_law_size"] spChange := ok_change FC T FT gT bT
  refine F.ok scStock (fun vs H Q E h => ?_) (fun cdv A outer s H vs Q E hr h => ?_)
  · obtain ⟨a, l, js, size, z, rfl, _⟩ := h
    rfl
  · obtain ⟨a, l, js, size, z, rfl, hp, hz, hla, ⟨xs, hl, fx⟩, hjl, h1, h2, k⟩ := h
    have hr1 : Room 1 _ := hr.mono (by decide)
    refine ⟨_, pss_one (ps_ret (pe_tup (pa_cons (pe_call GT hr1 rfl gT FT.kp bT .nil pass0 (pa_cons (pv 0) (pa_cons (pe_op op_add (pe_op op_mul pe_int (pv 2)) pe_int) pa_nil)))
      (pa_cons (pe_callTy call_tuple_of (by rfl) nT (by decide +kernel) (pa_cons (pe_lc (own := [("_law_name", 3), ("_law_manner", 4)]) (g := gTup K 2 (gCons (gName 3) (gCons (gName 4) gNil))) (tt := tYes) rfl scStock.nd (pi_list (pv 1)) (blkOk_by (N := NS) (sc := defScope sStock) (by decide +kernel))
        (fun _ _ _ _ _ => pg_tup rfl (pgs_cons (pg_name (i := 3) scStock.nd rfl (.inl rfl)) (pgs_cons (pg_name (i := 4) scStock.nd rfl (.inl rfl)) pgs_nil))) (fun _ _ _ _ _ => pts_nil)
        (fun _ _ _ _ _ => pe_call GC hr rfl gC FC.kp bC .nil pass0 (pa_cons (pv 0) (pa_cons (pv 4) (pa_cons (pv 2) pa_nil))))) pa_nil)) pa_nil)))), ?_⟩
    refine ⟨_, rfl, _, rfl, _, _, rfl, rfl, .inl ⟨by decide, by decide⟩, _, _, rfl, rfl, a, 2 * (size : Int) + 1, z, rfl, hp, by omega, by omega, by omega, fun n H1 n0 n1 p1 k1 => ?_⟩
    have hl1 := k1 _ _ hla hl
    refine ⟨_, rfl, l, rfl, ⟨_, SqL.of hl1⟩, fun D hD => ?_⟩
    have D0 : H D = none := keep_none p1 k1 hD
    have nDa : D ≠ a := p1.ne hD
    refine lc_list (K := K) (a := l) (xs := xs) (fun i H' => PotAt H' a (z + 1 + 4 * (i : Nat)) ∧ Keep a H H' ∧ ∃ (acc : List V) (cs : List (Int × Int)), H' D = some (.lst acc) ∧ FzAll H' acc (cs.map eP) ∧ cs.length = i ∧ ∀ (m : Nat) (j : Str × Str) (c : Int × Int), js[m]? = some j → cs[m]? = some c → MannerOk j.2 size c)
      ⟨(p1.upd_ne nDa).le (by omega), keep_upd k1 D0, [], [], upd_same, .nil, rfl, fun m j c _ h => by simp at h⟩ (fun i H' _ ⟨_, k2, _⟩ => SqL.of (k2 _ _ hla hl)) ?_ ?_
    · rintro i x H' hx ⟨pi, ki, acc, cs, eD, fz, lc, hm⟩
      obtain ⟨j, hj, fj⟩ := fx.atM hx
      obtain ⟨b, y1, y2, rfl, hb, f1, f2⟩ := fj.t2
      obtain rfl := f2.s
      have tK := hp.tups ki
      have hlt : i < js.length := (List.getElem?_eq_some_iff.mp hj).1
      refine ⟨b, _, rfl, SqT.of (tK _ _ hb), rfl, _, _, rfl, _, _, rfl, rfl, rfl, ?_⟩
      refine ⟨_, rfl, _, rfl, _, rfl, a, j.2, size, _, rfl, pi, by omega, h1, h2, fun v c H2 p2 k2 fc mo => ?_⟩
      have eD2 := k2 _ _ nDa eD
      have la : acc.length = i := by rw [fz.len, List.length_map, lc]
      refine ⟨acc, eD2, by rw [la]; exact Nat.lt_of_lt_of_le (show i < 100 by omega) (by decide), (p2.upd_ne nDa).le (by omega), keep_upd (ki.trans k2) D0, _, cs ++ [c], upd_same, FzAll.mv (tups_lst eD2) ?_, by rw [List.length_append, lc]; rfl, fun m j' c' hj' hc' => ?_⟩
      · rw [List.map_append]
        exact (fz.mv (pi.tups k2)).snoc fc
      · by_cases hmi : m < cs.length
        · rw [List.getElem?_append_left hmi] at hc'
          exact hm m j' c' hj' hc'
        · have hml : m < (cs ++ [c]).length := (List.getElem?_eq_some_iff.mp hc').1
          rw [List.length_append, List.length_singleton] at hml
          have em : m = i := by omega
          subst em
          rw [List.getElem?_append_right (by omega), lc, Nat.sub_self] at hc'
          simp at hc'
          rw [hj] at hj'
          rw [← Option.some.inj hj', ← hc']
          exact mo
    · rintro H' ⟨pi, ki, acc, cs, eD, fz, lc, hm⟩
      rw [fx.len, List.length_map] at lc pi
      refine ⟨D, acc, rfl, .inl ⟨SqL.of eD, fun t ht => ?_⟩⟩
      have st := same_new (o := .tup acc) ht
      refine ⟨(by show 2 ≤ sizeLine; decide), fun u hu => ?_⟩
      have su := same_new (o := .tup [.int n, .ref t]) hu
      exact k _ (n, cs) _ ((pi.same (st.trans su)).le (by omega)) (ki.trans (sKeep (st.trans su))) (.tup upd_same (.cons (.int _) (.cons (.tup (su _ _ upd_same) (fz.same (st.trans su))) .nil))) ⟨n0, by show n ≤ 2 * (size : Int); omega, lc, hm⟩
abbrev NL : List Str := ["_law_stock_here", "_law_standing_here", "_law_first_here", "_law_changes", "_law_up", "_law_down", "_law_begun", "_law_ended"]
theorem scLv : FnScope NL ["_law_stock_here", "_law_standing_here"] (defScope sLevel) := ⟨rfl, rfl, rfl, by decide +kernel, rfl, by decide +kernel, by decide +kernel⟩
theorem ok_level {f : Addr} {fd : FuncData} (F : Fun K "_law_level" "_law_level" sLevel f fd) (nS : mg "sum" = none) (nZ : mg "zip" = none) : FnOk P w K mg base CX0 1 f fd ["_law_stock_here", "_law_standing_here"] (spLevel K) := by
  refine F.ok scLv (fun vs H Q E h => ?_) (fun cdv A outer s H vs Q E hr h => ?_)
  · obtain ⟨x, y, st, sn, rfl, _⟩ := h
    rfl
  · obtain ⟨x, y, st, sn, rfl, fx, fy, hl, hl10, hsm, k⟩ := h
    refine ⟨_, pss_cons (ps_asg (pv 0) (pg_tup rfl (pgs_cons (pg_name (i := 2) scLv.nd rfl (.inl rfl)) (pgs_cons (pg_name (i := 3) scLv.nd rfl (.inl rfl)) pgs_nil))))
      (pss_one (ps_ret (pe_op op_add (pv 2) (pe_callB (cr_sum rfl) (by rfl) nS (by decide +kernel) (pa_cons (pe_lc (own := [("_law_up", 4), ("_law_down", 5), ("_law_begun", 6), ("_law_ended", 7)])
        (g := gTup K 2 (gCons (gTup K 2 (gCons (gName 4) (gCons (gName 5) gNil))) (gCons (gTup K 2 (gCons (gName 6) (gCons (gName 7) gNil))) gNil))) (tt := tYes) rfl scLv.nd (RZ.pi_zipA (by rfl) nZ (pa_cons (pv 3) (pa_cons (pv 1) pa_nil))) (blkOk_by (N := NL) (sc := defScope sLevel) (by decide +kernel))
        (fun _ _ _ _ _ => pg_tup rfl (pgs_cons (pg_tup rfl (pgs_cons (pg_name (i := 4) scLv.nd rfl (.inl rfl)) (pgs_cons (pg_name (i := 5) scLv.nd rfl (.inl rfl)) pgs_nil))) (pgs_cons (pg_tup rfl (pgs_cons (pg_name (i := 6) scLv.nd rfl (.inl rfl)) (pgs_cons (pg_name (i := 7) scLv.nd rfl (.inl rfl)) pgs_nil))) pgs_nil)))
        (fun _ _ _ _ _ => pts_nil) (fun _ _ _ _ _ => pe_op op_add (pe_op op_mul (pv 6) (pv 4)) (pe_op op_mul (pv 7) (pv 5)))) pa_nil))))), ?_⟩
    obtain ⟨sa, z1, z2, rfl, hsa, g1, g2⟩ := fx.t2
    obtain rfl := g1.i
    obtain ⟨ca, cx, rfl, hca, fc⟩ := g2.t
    obtain ⟨ya, yx, rfl, hya, fs⟩ := fy.t
    refine ⟨_, rfl, sa, _, rfl, SqT.of hsa, rfl, _, _, rfl, _, _, rfl, rfl, ?_⟩
    refine ⟨_, rfl, _, rfl, _, rfl, ca, ya, cx, yx, rfl, .inr ⟨SqT.of hca, SqT.of hya, fun D hD => ?_⟩⟩
    have lx : cx.length = st.2.length := by rw [fc.len, List.length_map]
    have ly : yx.length = sn.length := by rw [fs.len, List.length_map]
    refine lc_it (walk_zipT (K := K) (a := ca) (b := ya) (xs := cx) (ys := yx) (n := sn.length) (by omega) (by omega)) (fun i H' => Same H H' ∧ H' D = some (.lst (((List.zipWith (fun c p => p.1 * c.1 + p.2 * c.2) st.2 sn).take i).map V.int))) ⟨same_new hD, upd_same⟩ (fun i H' _ ⟨s1, _⟩ => ⟨SqT.of (s1 _ _ hca), SqT.of (s1 _ _ hya)⟩) ?_ ?_
    · rintro i x H' H'' hi ⟨s1, eD⟩ ⟨T', u, v, rfl, hT, rfl, hu, hv⟩
      obtain ⟨c, hc, f1⟩ := fc.atM hu
      obtain ⟨p, hp, f2⟩ := fs.atM hv
      obtain ⟨b1, u1, u2, rfl, hb1, i1, i2⟩ := f1.t2
      obtain ⟨b2, v1, v2, rfl, hb2, i3, i4⟩ := f2.t2
      obtain rfl := i1.i
      obtain rfl := i2.i
      obtain rfl := i3.i
      obtain rfl := i4.i
      have sT := same_new (o := .tup [.ref b1, .ref b2]) hT
      obtain ⟨q1, q2, q3, q4⟩ := hsm p (List.mem_of_getElem? hp)
      refine ⟨T', _, rfl, SqT.of upd_same, rfl, _, _, rfl, ⟨b1, _, rfl, SqT.of (sT _ _ (s1 _ _ hb1)), rfl, _, _, rfl, _, _, rfl, rfl, _, _, rfl, b2, _, rfl, SqT.of (sT _ _ (s1 _ _ hb2)), rfl, _, _, rfl, _, _, rfl, rfl, rfl, rfl, ?_⟩⟩
      refine ⟨_, rfl, _, rfl, _, _, rfl, rfl, .inl ⟨by omega, by omega⟩, _, rfl, _, rfl, _, _, rfl, rfl, .inl ⟨by omega, by omega⟩, _, _, rfl, rfl, ?_⟩
      refine ⟨_, sT _ _ eD, ?_, same_upd (s1.trans sT) hD, ?_⟩
      · rw [List.length_map, List.length_take]
        exact Nat.lt_of_le_of_lt (Nat.min_le_left _ _) (Nat.lt_of_lt_of_le (show i < 100 by omega) (by decide))
      · rw [upd_same, take_next (x := p.1 * c.1 + p.2 * c.2) (by rw [List.getElem?_zipWith, hc, hp]), List.map_append]
        rfl
    · rintro H' ⟨s1, eD⟩
      rw [List.take_of_length_le (by rw [List.length_zipWith]; omega)] at eD
      exact ⟨D, _, rfl, SqL.of eD, _, _, rfl, rfl, k H' s1⟩
abbrev NT : List Str := ["_law_stocks", "_law_standing_here", "_law_stock_here"]
theorem scLt : FnScope NT ["_law_stocks", "_law_standing_here"] (defScope sLets) := ⟨rfl, rfl, rfl, by decide +kernel, rfl, by decide +kernel, by decide +kernel⟩
theorem ok_lets {f fV : Addr} {fd fdV : FuncData} (F : Fun K "_law_lets" "_law_lets" sLets f fd) (nA : mg "all" = none) (nS : mg "sum" = none) (nZ : mg "zip" = none) (FV : Fun K "_law_level" "_law_level" sLevel fV fdV) (gV : mg "_law_level" = some (.ref fV)) (bV : Binds K fdV ["_law_stock_here", "_law_standing_here"] []) :
    FnOk P w K mg base CX0 2 f fd ["_law_stocks", "_law_standing_here"] (spLets K) := by
  have GV : FnOk P w K mg base CX0 1 fV fdV ["_law_stock_here", "_law_standing_here"] (spLevel K) := ok_level FV nS nZ
  refine F.ok scLt (fun vs H Q E h => ?_) (fun cdv A outer s H vs Q E hr h => ?_)
  · obtain ⟨l, y, sts, sn, rfl, _⟩ := h
    rfl
  · obtain ⟨l, y, sts, sn, rfl, ⟨xs, hl, fx⟩, fy, hst, hl10, hl100, hsm, k⟩ := h
    refine ⟨_, pss_one (ps_ret (pe_callB (cr_all rfl) (by rfl) nA (by decide +kernel) (pa_cons (pe_lc (own := [("_law_stock_here", 2)]) (g := gName 2) (tt := tYes) rfl scLt.nd (pi_list (pv 0)) (blkOk_by (N := NT) (sc := defScope sLets) (by decide +kernel))
      (fun _ _ _ _ _ => pg_name (i := 2) scLt.nd rfl (.inl rfl)) (fun _ _ _ _ _ => pts_nil) (fun _ _ _ _ _ => pe_cmpR op_ge (pe_call GV hr rfl gV FV.kp bV .nil pass0 (pa_cons (pv 2) (pa_cons (pv 1) pa_nil))) pe_int (nomark _))) pa_nil))), ?_⟩
    refine ⟨_, rfl, l, rfl, ⟨_, SqL.of hl⟩, fun D hD => ?_⟩
    refine lc_list (K := K) (a := l) (xs := xs) (fun i H' => Same H H' ∧ H' D = some (.lst (((sts.take i).map fun st => decide (0 ≤ levelS st sn)).map V.bl))) ⟨same_new hD, upd_same⟩ (fun i H' _ ⟨s1, _⟩ => SqL.of (s1 _ _ hl)) ?_ ?_
    · rintro i x H' hx ⟨s1, eD⟩
      obtain ⟨st, hst', fst'⟩ := fx.atM hx
      have hlt : i < sts.length := (List.getElem?_eq_some_iff.mp hst').1
      refine ⟨rfl, _, rfl, _, rfl, x, y, st, sn, rfl, fst'.same s1, fy.same s1, hst st (List.mem_of_getElem? hst'), hl10, hsm, fun H2 s2 => ⟨_, _, rfl, rfl, ?_⟩⟩
      refine ⟨_, s2 _ _ eD, ?_, same_upd (s1.trans s2) hD, ?_⟩
      · rw [List.length_map, List.length_map, List.length_take]
        exact Nat.lt_of_le_of_lt (Nat.min_le_left _ _) (Nat.lt_of_lt_of_le (show i < 101 by omega) (by decide))
      · rw [upd_same, take_next hst', List.map_append, List.map_append]
        rfl
    · rintro H' ⟨s1, eD⟩
      refine ⟨D, _, rfl, SqL.of eD, ?_⟩
      rw [fx.len, List.length_map, List.take_length, List.all_map]
      exact k H' s1
end
end K04
namespace GD
open PySem PySem.Spec PyProof.Rows L2
def MetOk (k : Nat) (most : Int) (sts : List Stk) (m : Stn) : Prop := m.length = k ∧ Bd most m ∧ letsS sts m = true
structure HI (a l1 l2 : Addr) (H H' : Hp) (z : Int) (k : Nat) (most : Int) (sts : List Stk) (n1 n2 : Nat) : Prop where
  pot : PotAt H' a z
  kp : Keep a H H'
  ex : ∃ (fs : List Fact) (ms : List Stn), LstAt H' l1 (fs.map eF) ∧ LstAt H' l2 (ms.map eS) ∧ (∀ f ∈ fs, HeardOk k most sts f) ∧ (∀ f ∈ fs, ∀ s t, f ≠ .as_ s t) ∧ ms ≠ [] ∧ (∀ m ∈ ms, MetOk k most sts m) ∧ fs.length ≤ n1 ∧ ms.length ≤ n2
section
variable {a l1 l2 : Addr} {H H' H'' : Hp} {z z' : Int} {k : Nat} {most : Int} {sts : List Stk} {n1 n2 : Nat}
theorem HI.keep (h : HI a l1 l2 H H' z k most sts n1 n2) (d1 : l1 ≠ a) (d2 : l2 ≠ a) (kp : Keep a H' H'') (p : PotAt H'' a z') : HI a l1 l2 H H'' z' k most sts n1 n2 := by
  obtain ⟨fs, ms, x1, x2, r⟩ := h.ex
  have t := h.pot.tups kp
  exact ⟨p, h.kp.trans kp, fs, ms, x1.keep d1 kp t, x2.keep d2 kp t, r⟩
theorem HI.same (h : HI a l1 l2 H H' z k most sts n1 n2) (kp : Same H' H'') : HI a l1 l2 H H'' z k most sts n1 n2 := by
  obtain ⟨fs, ms, x1, x2, r⟩ := h.ex
  exact ⟨h.pot.same kp, h.kp.trans (sKeep kp), fs, ms, x1.same kp, x2.same kp, r⟩
theorem HI.le (h : HI a l1 l2 H H' z k most sts n1 n2) {y : Int} {m1 m2 : Nat} (hz : z ≤ y) (h1 : n1 ≤ m1) (h2 : n2 ≤ m2) : HI a l1 l2 H H' y k most sts m1 m2 := by
  obtain ⟨fs, ms, x1, x2, x3, x4, x5, x6, x7, x8⟩ := h.ex
  exact ⟨h.pot.le hz, h.kp, fs, ms, x1, x2, x3, x4, x5, x6, Nat.le_trans x7 h1, Nat.le_trans x8 h2⟩
theorem lst_other {l m : Addr} {x : V} {acc : List V} {ds : List PyData} (hm : H' m = some (.lst acc)) (n : l ≠ m) (h : LstAt H' l ds) : LstAt (upd H' m (.lst (acc ++ [x]))) l ds := by
  obtain ⟨xs, e, f⟩ := h
  exact ⟨xs, by rw [upd_ne n]; exact e, f.mv (tups_lst hm)⟩
theorem HI.fact (h : HI a l1 l2 H H' z k most sts n1 n2) (d1 : l1 ≠ a) (i1 : H l1 = none) (d : l1 ≠ l2) {x : V} {f : Fact} (hx : Fz H' x (eF f)) (ok : HeardOk k most sts f) (na : ∀ s t, f ≠ .as_ s t) (hn : n1 ≤ 10000) :
    ∃ acc, H' l1 = some (.lst acc) ∧ acc.length < sizeLine ∧ HI a l1 l2 H (upd H' l1 (.lst (acc ++ [x]))) z k most sts (n1 + 1) n2 := by
  obtain ⟨fs, ms, ⟨acc, e, fz⟩, x2, x3, x4, x5, x6, x7, x8⟩ := h.ex
  refine ⟨acc, e, ?_, h.pot.upd_ne d1, keep_upd h.kp i1, fs ++ [f], ms, ⟨_, upd_same, FzAll.mv (tups_lst e) ?_⟩, lst_other e d.symm x2, fun g hg => ?_, fun g hg => ?_, x5, x6, by rw [List.length_append, List.length_singleton]; omega, x8⟩
  · rw [fz.len, List.length_map]
    exact Nat.lt_of_le_of_lt (Nat.le_trans x7 hn) (by decide)
  · rw [List.map_append]
    exact fz.snoc hx
  · rcases List.mem_append.mp hg with y | y
    · exact x3 g y
    · rw [List.mem_singleton.mp y]
      exact ok
  · rcases List.mem_append.mp hg with y | y
    · exact x4 g y
    · rw [List.mem_singleton.mp y]
      exact na
theorem HI.met (h : HI a l1 l2 H H' z k most sts n1 n2) (d2 : l2 ≠ a) (i2 : H l2 = none) (d : l1 ≠ l2) {x : V} {m : Stn} (hx : Fz H' x (eS m)) (ok : MetOk k most sts m) (hn : n2 ≤ 10000) :
    ∃ acc, H' l2 = some (.lst acc) ∧ acc.length < sizeLine ∧ HI a l1 l2 H (upd H' l2 (.lst (acc ++ [x]))) z k most sts n1 (n2 + 1) := by
  obtain ⟨fs, ms, x1, ⟨acc, e, fz⟩, x3, x4, x5, x6, x7, x8⟩ := h.ex
  refine ⟨acc, e, ?_, h.pot.upd_ne d2, keep_upd h.kp i2, fs, ms ++ [m], lst_other e d x1, ⟨_, upd_same, FzAll.mv (tups_lst e) ?_⟩, x3, x4, by simp, fun g hg => ?_, x7, by rw [List.length_append, List.length_singleton]; omega⟩
  · rw [fz.len, List.length_map]
    exact Nat.lt_of_le_of_lt (Nat.le_trans x8 hn) (by decide)
  · rw [List.map_append]
    exact fz.snoc hx
  · rcases List.mem_append.mp hg with y | y
    · exact x6 g y
    · rw [List.mem_singleton.mp y]
      exact ok
end
end GD
namespace K04
open PySem PySem.Spec PyProof.Rows L2 GD
section
variable {P : Program} {w : World} {K : PySem.W.Frag} {mg : Str → Option Value} {base : Heap}
/-- the drawer's small defs, where they stand -/
structure Small1 (K : PySem.W.Frag) (mg : Str → Option Value) : Prop where
  ta : TxtA mg
  all : mg "all" = none
  tup : mg "tuple" = none
  sum : mg "sum" = none
  zip : mg "zip" = none
structure At (K : PySem.W.Frag) (mg : Str → Option Value) (x : Str) (st : Stmt) (ps : List Str) (f : Addr) (fd : FuncData) : Prop where
  F : Fun K x x st f fd
  g : mg x = some (.ref f)
  b : Binds K fd ps []
abbrev NH : List Str := ["_law_pot_here", "_law_jobs_here", "_law_stocks", "_law_days", "_law_most", "_law_facts", "_law_met", "_law_day", "_law_standing_here", "_law_lap", "_law_behind_here", "_law_is_let"]
theorem scH : FnScope NH ["_law_pot_here", "_law_jobs_here", "_law_stocks", "_law_days", "_law_most"] (defScope sHeardFacts) := ⟨rfl, rfl, rfl, by decide +kernel, rfl, by decide +kernel, by decide +kernel⟩
theorem ok_heard {f fT fO fF fB fC fE fV fL : Addr} {fd fdT fdO fdF fdB fdC fdE fdV fdL : FuncData} (F : Fun K "_law_heard_facts" "_law_heard_facts" sHeardFacts f fd) (S : Small1 K mg)
    (AT : At K mg "_law_take" sTake ["_law_pot_here", "_law_upto"] fT fdT) (AO : At K mg "_law_of" sOf ["_law_pot_here", "_law_some_here"] fO fdO) (AF : At K mg "_law_first" sFirst ["_law_jobs_here"] fF fdF)
    (AB : At K mg "_law_behind" sBehind ["_law_jobs_here", "_law_standing_here", "_law_event"] fB fdB) (AC : At K mg "_law_can_come" sCanCome ["_law_jobs_here", "_law_standing_here", "_law_event"] fC fdC)
    (AE : At K mg "_law_events" sEvents ["_law_jobs_here", "_law_standing_here"] fE fdE) (AV : At K mg "_law_level" sLevel ["_law_stock_here", "_law_standing_here"] fV fdV) (AL : At K mg "_law_lets" sLets ["_law_stocks", "_law_standing_here"] fL fdL) :
    FnOk P w K mg base CX0 4 f fd ["_law_pot_here", "_law_jobs_here", "_law_stocks", "_law_days", "_law_most"] spHeard := by
  have GT : FnOk P w K mg base CX0 1 fT fdT ["_law_pot_here", "_law_upto"] spTake := ok_take AT.F S.ta
  have GO : FnOk P w K mg base CX0 2 fO fdO ["_law_pot_here", "_law_some_here"] (spOf K) := ok_of AO.F S.ta AT.F AT.g AT.b
  have GF : FnOk P w K mg base CX0 1 fF fdF ["_law_jobs_here"] (spFirst K) := ok_first AF.F S.tup
  have GB : FnOk P w K mg base CX0 1 fB fdB ["_law_jobs_here", "_law_standing_here", "_law_event"] (spBehind K) := ok_behind AB.F
  have GE : FnOk P w K mg base CX0 3 fE fdE ["_law_jobs_here", "_law_standing_here"] (spEvents K) := ok_events AE.F S.all AB.F AB.g AB.b AC.F AC.g AC.b
  have GL : FnOk P w K mg base CX0 2 fL fdL ["_law_stocks", "_law_standing_here"] (spLets K) := ok_lets AL.F S.all S.sum S.zip AV.F AV.g AV.b
  refine F.ok scH (fun vs H Q E h => ?_) (fun cdv A outer s H vs Q E hr h => ?_)
  · obtain ⟨a, lj, ls, days, most, js, sts, z, rfl, _⟩ := h
    rfl
  · obtain ⟨a, lj, ls, days, most, js, sts, z, rfl, hp, hz, hja, hsa, hj, hs, hst, hs100, hj1, hj10, hd10, hm1, hm30, k⟩ := h
    have hr1 : Room 1 _ := hr.mono (by decide)
    have hr2 : Room 2 _ := hr.mono (by decide)
    refine ⟨_, pss_cons (ps_par (i := 5) (j := 6) rfl scH.nd rfl rfl (by decide) rfl rfl (pa_cons (pe_lst pa_nil) (pa_cons (pe_lst (pa_cons (pe_call GF hr1 rfl AF.g AF.F.kp AF.b .nil pass0 (pa_cons (pv 1) pa_nil)) pa_nil)) pa_nil)) (by rfl))
      (pss_cons (ps_for PassesOwn.never rfl (pi_range1 (by rfl) S.ta.range (pa_cons (pv 3) pa_nil)) (pg_name (i := 7) scH.nd rfl (.inl rfl))
        (pss_cons (ps_set (i := 8) scH.nd rfl (.inl rfl) (pe_call GF hr1 rfl AF.g AF.F.kp AF.b .nil pass0 (pa_cons (pv 1) pa_nil)))
        (pss_one (ps_for PassesOwn.never rfl (pi_range1 (by rfl) S.ta.range (pa_cons (pe_op op_add pe_int (pe_call GT hr1 rfl AT.g AT.F.kp AT.b .nil pass0 (pa_cons (pv 0) (pa_cons (pv 4) pa_nil)))) pa_nil)) (pg_name (i := 9) scH.nd rfl (.inl rfl))
          (pss_cons (ps_set (i := 10) scH.nd rfl (.inl rfl) (pe_call GB hr1 rfl AB.g AB.F.kp AB.b .nil pass0 (pa_cons (pv 1) (pa_cons (pv 8) (pa_cons (pe_call GO hr2 rfl AO.g AO.F.kp AO.b .nil pass0 (pa_cons (pv 0) (pa_cons (pe_call GE hr rfl AE.g AE.F.kp AE.b .nil pass0 (pa_cons (pv 1) (pa_cons (pv 8) pa_nil))) pa_nil))) pa_nil)))))
          (pss_cons (ps_set (i := 11) scH.nd rfl (.inl rfl) (pe_call GL hr2 rfl AL.g AL.F.kp AL.b .nil pass0 (pa_cons (pv 2) (pa_cons (pv 10) pa_nil))))
          (pss_cons (ps_expr (pe_bm PySem.F.plainAttrs_list PySem.F.slot_list_append PySem.F.type_list_append mt_append (pv 5) (pa_cons (pe_tup (pa_cons (pe_ifExp (pt_val (pv 11)) pe_str pe_str) (pa_cons (pv 10) pa_nil))) pa_nil)))
          (pss_one (ps_if (pt_val (pv 11)) (pss_cons (ps_set (i := 8) scH.nd rfl (.inl rfl) (pv 10)) (pss_one (ps_expr (pe_bm PySem.F.plainAttrs_list PySem.F.slot_list_append PySem.F.type_list_append mt_append (pv 6) (pa_cons (pv 10) pa_nil))))) pss_nil)))))))))
      (pss_one (ps_ret (pe_tup (pa_cons (pv 5) (pa_cons (pv 6) pa_nil)))))), ?_⟩
    obtain ⟨xj, ej, fj⟩ := id hj
    have lxj : xj.length = js.length := by rw [fj.len, List.length_map]
    refine ⟨by decide, fun l1 n1 => ?_⟩
    have s1 := same_new (o := .lst []) n1
    refine ⟨_, rfl, lj, xj, rfl, SqL.of (s1 _ _ ej), by omega, fun v Hf sf ff => ?_⟩
    rw [lxj] at ff
    refine ⟨(by show 1 ≤ sizeLine; decide), fun l2 n2 => ?_⟩
    have s2 := same_new (o := .lst [v]) n2
    have i2 : H l2 = none := s1.free (sf.free n2)
    have d12 : l1 ≠ l2 := ne_of_none (sf _ _ upd_same) n2
    have d1 : l1 ≠ a := hp.ne n1
    have d2 : l2 ≠ a := hp.ne i2
    have h0 : HI a l1 l2 H (upd Hf l2 (.lst [v])) z js.length most sts 0 1 := ⟨hp.same ((s1.trans sf).trans s2), sKeep ((s1.trans sf).trans s2), [], [List.replicate js.length (0, 0)], ⟨[], s2 _ _ (sf _ _ upd_same), .nil⟩, ⟨[v], upd_same, .cons (ff.same s2) .nil⟩,
      fun _ h => (nomatch h), fun _ h => (nomatch h), by simp, fun m hm => by
        rw [List.mem_singleton.mp hm]
        exact ⟨List.length_replicate, bd_first.le (by omega), lets_first fun st h => (hst st h).1⟩, Nat.le_refl _, Nat.le_refl _⟩
    refine ⟨_, _, rfl, _, rfl, days, rfl, by omega, by omega, for_range (lo := 0) (n := days) (fun d σ H' => ∃ x7 x8 x9 x10 x11 : Option V, σ = [some (.ref a), some (.ref lj), some (.ref ls), some (.int days), some (.int most), some (.ref l1), some (.ref l2), x7, x8, x9, x10, x11] ∧
      HI a l1 l2 H H' (z + 31 * (d : Nat)) js.length most sts (d * most) (1 + d * most)) ⟨none, none, none, none, none, rfl, h0.le (by omega) (by omega) (by omega)⟩ ?_ ?_⟩
    · rintro d σ H' hd ⟨x7, x8, x9, x10, x11, rfl, hi⟩
      have ejd := hi.kp _ _ hja ej
      refine ⟨_, rfl, lj, xj, rfl, SqL.of ejd, by omega, fun v2 H2 s3 f2 => ?_⟩
      rw [lxj] at f2
      have hi2 := hi.same s3
      refine ⟨_, rfl, _, rfl, a, most, _, rfl, hi2.pot, by omega, by omega, by omega, fun m H3 m0 m1 p3 k3 => ?_⟩
      have hi3 := hi2.keep d1 d2 k3 p3
      obtain ⟨n, hn⟩ := Int.eq_ofNat_of_zero_le (show 0 ≤ 1 + m by omega)
      have f3 := f2.mv (hi2.pot.tups k3)
      refine ⟨_, _, rfl, rfl, 1 + m, rfl, by omega, by omega, ?_⟩
      rw [hn, Int.toNat_natCast]
      generalize hD : d * most = D at hi3
      have hD2 : (d + 1) * most = D + most := by rw [Nat.succ_mul, hD]
      have hD9 : D ≤ 300 := by
        rw [← hD]
        exact Nat.le_trans (Nat.mul_le_mul (show d ≤ 10 by omega) hm30) (by decide)
      refine for_range (lo := 0) (n := n) (fun i σ H' => ∃ (sv : V) (s : Stn) (y7 y9 y10 y11 : Option V), σ = [some (.ref a), some (.ref lj), some (.ref ls), some (.int days), some (.int most), some (.ref l1), some (.ref l2), y7, some sv, y9, y10, y11] ∧
        HI a l1 l2 H H' (z + 31 * (d : Nat) + 1 + (i : Nat)) js.length most sts (D + i) (1 + D + i) ∧ Fz H' sv (eS s) ∧ s.length = js.length ∧ Bd (i : Nat) s) ⟨v2, _, _, _, _, _, rfl, hi3.le (by omega) (by omega) (by omega), f3, List.length_replicate, bd_first⟩ ?_ ?_
      · rintro i σ H4 hin ⟨sv, sn, y7, y9, y10, y11, rfl, h4, f4, l4, b4⟩
        have t4 := hp.tups h4.kp
        have hj4 := hj.keep hja h4.kp t4
        have hs4 := hs.keep hsa h4.kp t4
        refine ⟨_, rfl, _, rfl, _, rfl, _, rfl, _, rfl, lj, sv, js, sn, rfl, hj4, f4, l4, hj10, fun p He se np le => ?_⟩
        obtain ⟨xe, ee, fe⟩ := le
        have nes := events_some (names := js.map (·.1)) b4 (by omega) (fun z => by have z2 := congrArg List.length z; rw [List.length_map] at z2; have z3 : js.length = 0 := z2; omega) (by rw [l4, List.length_map])
        have lxe : xe.length ≤ 20 := by
          rw [fe.len, List.length_map]
          refine Nat.le_trans (List.length_filter_le _ _) ?_
          rw [evs_len, List.length_map]
          omega
        refine ⟨a, p, xe, _, rfl, h4.pot.same se, by omega, h4.pot.ne np, ee, ?_, by omega, fun ev H5 hv p5 k5 => ?_⟩
        · intro z
          rw [z] at fe
          have z2 := fe.len
          rw [List.length_map] at z2
          exact nes (List.eq_nil_of_length_eq_zero z2.symm)
        obtain ⟨de, hde, fde⟩ := Fz.has fe hv
        obtain ⟨e, hme, rfl⟩ := List.mem_map.mp hde
        obtain ⟨hme1, hcan⟩ := List.mem_filter.mp hme
        have tE := (tups_same se).trans ((h4.pot.same se).tups k5)
        have h5 := (h4.same se).keep d1 d2 k5 p5
        have t5 := hp.tups h5.kp
        have hem := event_job hme1
        have hix : ixOf (js.map (·.1)) e.2 < sn.length := by
          rw [l4, ← List.length_map (f := (·.1))]
          exact ixOf_lt hem
        refine ⟨lj, sv, ev, js, sn, e, rfl, hj.keep hja h5.kp t5, f4.mv tE, fde.mv ((h4.pot.same se).tups k5), l4, hj10, hem, fun bv H6 s6 f6 => ?_⟩
        have h6 := h5.same s6
        have b6 := bd_beh b4 hix hcan
        have l6 : (behS (js.map (·.1)) sn e).length = js.length := by rw [behS_len hix, l4]
        have t6 := hp.tups h6.kp
        generalize behS (js.map (·.1)) sn e = sn' at f6 b6 l6
        refine ⟨_, rfl, _, rfl, ls, bv, sts, sn', rfl, hs.keep hsa h6.kp t6, f6, fun st h => by rw [(hst st h).2, l6], by omega, hs100, b6.small (by omega), fun H7 s7 => ?_⟩
        have h7 := h6.same s7
        have f7 := f6.same s7
        have b7 : Bd most sn' := b6.le (by omega)
        cases hc : letsS sts sn' with
        | true =>
          obtain ⟨acc1, ea1⟩ : ∃ acc, H7 l1 = some (.lst acc) := by
            obtain ⟨fs, ms, ⟨acc, e, _⟩, _⟩ := h7.ex
            exact ⟨acc, e⟩
          refine ⟨_, rfl, .inl ⟨rfl, _, SqL.of ea1⟩, ?_⟩
          refine ⟨_, rfl, true, rfl, ?_⟩
          refine iteT ?_
          refine ⟨_, rfl, (by show 2 ≤ sizeLine; decide), fun t ht => ?_⟩
          have st := same_new (o := .tup [.str "let", bv]) ht
          obtain ⟨acc, ea, la, h8⟩ := (h7.same st).fact d1 n1 d12 (x := .ref t) (f := .let_ sn') (.tup upd_same (.cons (.str _) (.cons (f7.same st) .nil))) ⟨l6, b7, hc⟩ (fun _ _ z => by cases z) (by omega)
          refine ⟨l1, acc, _, rfl, rfl, ea, la, ?_⟩
          have f8 := (f7.same st).mv (tups_lst (o := .lst (acc ++ [.ref t])) ea)
          refine ⟨_, rfl, true, rfl, ?_⟩
          refine iteT ?_
          obtain ⟨acc2, ea2, la2, h9⟩ := h8.met d2 i2 d12 f8 ⟨l6, b7, hc⟩ (by omega)
          refine ⟨_, rfl, _, rfl, .inl ⟨rfl, _, SqL.of ea2⟩, _, rfl, l2, acc2, _, rfl, rfl, ea2, la2, ?_⟩
          exact ⟨_, sn', _, _, _, _, rfl, h9.le (by omega) (by omega) (by omega), f8.mv (tups_lst ea2), l6, b6⟩
        | false =>
          obtain ⟨acc1, ea1⟩ : ∃ acc, H7 l1 = some (.lst acc) := by
            obtain ⟨fs, ms, ⟨acc, e, _⟩, _⟩ := h7.ex
            exact ⟨acc, e⟩
          refine ⟨_, rfl, .inl ⟨rfl, _, SqL.of ea1⟩, ?_⟩
          refine ⟨_, rfl, false, rfl, ?_⟩
          refine iteF ?_
          refine ⟨_, rfl, (by show 2 ≤ sizeLine; decide), fun t ht => ?_⟩
          have st := same_new (o := .tup [.str "not", bv]) ht
          obtain ⟨acc, ea, la, h8⟩ := (h7.same st).fact d1 n1 d12 (x := .ref t) (f := .not_ sn') (.tup upd_same (.cons (.str _) (.cons (f7.same st) .nil))) ⟨l6, b7, hc⟩ (fun _ _ z => by cases z) (by omega)
          refine ⟨l1, acc, _, rfl, rfl, ea, la, ?_⟩
          refine ⟨_, rfl, false, rfl, ?_⟩
          refine iteF ?_
          exact ⟨sv, sn, _, _, _, _, rfl, h8.le (by omega) (by omega) (by omega), (((f4.mv tE).same s6).same s7).mv ((tups_same st).trans (tups_lst ea)), l4, b4.le (by omega)⟩
      · rintro σ H4 ⟨sv, sn, y7, y9, y10, y11, rfl, h4, f4, l4, b4⟩
        exact ⟨_, _, _, _, _, rfl, h4.le (by omega) (by omega) (by omega)⟩
    · rintro σ H' ⟨x7, x8, x9, x10, x11, rfl, hi⟩
      refine ⟨_, rfl, _, rfl, (by show 2 ≤ sizeLine; decide), fun t ht => ?_⟩
      have st := same_new (o := .tup [.ref l1, .ref l2]) ht
      have hF := hi.same st
      obtain ⟨fs, ms, x1, x2, x3, x4, x5, x6, x7, x8⟩ := hF.ex
      exact k t l1 l2 fs ms _ (hF.pot.le (by omega)) hF.kp n1 i2 d12 upd_same x1 x2 x3 x4 x5 x6 x7 x8
end
end K04
namespace GD
open PySem PySem.Spec PyProof.Rows L2
/-! shapes of such data, for == -/
theorem can_all : ∀ {ds : List PyData}, (∀ d ∈ ds, d.canLay0 = true) → PyData.canLayAll0 ds = true
  | [], _ => by simp [PyData.canLayAll0]
  | d :: ds, h => by
    rw [PyData.canLayAll0, h d List.mem_cons_self, can_all fun e he => h e (List.mem_cons_of_mem _ he)]
    rfl
theorem can_eP (p : Int × Int) : (eP p).canLay0 = true := by simp [eP, PyData.canLay0, PyData.canLayAll0]
theorem can_eS (s : Stn) : (eS s).canLay0 = true := by
  rw [eS, PyData.canLay0]
  exact can_all fun d hd => by
    obtain ⟨p, _, e⟩ := List.mem_map.mp hd
    rw [← e]
    exact can_eP p
theorem depth_all : ∀ {ds : List PyData} {n : Nat}, (∀ d ∈ ds, d.depth ≤ n) → PyData.depthAll ds ≤ n
  | [], _, _ => by simp [PyData.depthAll]
  | d :: ds, n, h => by
    rw [PyData.depthAll]
    exact Nat.max_le.mpr ⟨h d List.mem_cons_self, depth_all fun e he => h e (List.mem_cons_of_mem _ he)⟩
theorem depth_eP (p : Int × Int) : (eP p).depth ≤ 1 := by simp [eP, PyData.depth, PyData.depthAll]
theorem depth_eS (s : Stn) : (eS s).depth ≤ 2 := by
  rw [eS, PyData.depth]
  have z := depth_all (n := 1) (ds := s.map eP) fun d hd => by
    obtain ⟨p, _, e⟩ := List.mem_map.mp hd
    rw [← e]
    exact depth_eP p
  omega
theorem shape_of {d : PyData} (h1 : d.canLay0 = true) (h2 : d.depth ≤ 60) : SeqAt.shaped d = true := by
  unfold SeqAt.shaped
  rw [h1, decide_eq_true (show d.depth ≤ 64 by omega)]
  rfl
theorem shape_eS (s : Stn) : SeqAt.shaped (eS s) = true := shape_of (can_eS s) (Nat.le_trans (depth_eS s) (by decide))
theorem can_two (x : Str) (hx : PyData.strOk x = true) {d : PyData} (h : d.canLay0 = true) : (PyData.tuple [.str x, d]).canLay0 = true := by
  rw [PyData.canLay0]
  refine can_all fun e he => ?_
  simp only [List.mem_cons, List.not_mem_nil, or_false] at he
  rcases he with rfl | rfl
  · rw [PyData.canLay0, hx]
  · exact h
theorem can_three (x : Str) (hx : PyData.strOk x = true) {d f : PyData} (h : d.canLay0 = true) (h2 : f.canLay0 = true) : (PyData.tuple [.str x, d, f]).canLay0 = true := by
  rw [PyData.canLay0]
  refine can_all fun e he => ?_
  simp only [List.mem_cons, List.not_mem_nil, or_false] at he
  rcases he with rfl | rfl | rfl
  · rw [PyData.canLay0, hx]
  · exact h
  · exact h2
theorem can_eF (f : Fact) : (eF f).canLay0 = true := by
  cases f with
  | let_ s =>
    rw [eF]
    exact can_two _ (by decide +kernel) (can_eS s)
  | not_ s =>
    rw [eF]
    exact can_two _ (by decide +kernel) (can_eS s)
  | as_ s t =>
    rw [eF]
    exact can_three _ (by decide +kernel) (can_eS s) (can_eS t)
theorem depth_str (x : Str) : (PyData.str x).depth = 0 := by simp [PyData.depth]
theorem depth_eF (f : Fact) : (eF f).depth ≤ 3 := by
  have go : ∀ ds : List PyData, (∀ d ∈ ds, d.depth ≤ 2) → (PyData.tuple ds).depth ≤ 3 := fun ds h => by
    rw [PyData.depth]
    have z := depth_all h
    omega
  cases f with
  | let_ s =>
    rw [eF]
    refine go _ fun d hd => ?_
    simp only [List.mem_cons, List.not_mem_nil, or_false] at hd
    rcases hd with rfl | rfl
    · rw [depth_str]; decide
    · exact depth_eS s
  | not_ s =>
    rw [eF]
    refine go _ fun d hd => ?_
    simp only [List.mem_cons, List.not_mem_nil, or_false] at hd
    rcases hd with rfl | rfl
    · rw [depth_str]; decide
    · exact depth_eS s
  | as_ s t =>
    rw [eF]
    refine go _ fun d hd => ?_
    simp only [List.mem_cons, List.not_mem_nil, or_false] at hd
    rcases hd with rfl | rfl | rfl
    · rw [depth_str]; decide
    · exact depth_eS s
    · exact depth_eS t
theorem shape_eF (f : Fact) : SeqAt.shaped (eF f) = true := shape_of (can_eF f) (Nat.le_trans (depth_eF f) (by decide))
theorem shape_eFs (fs : List Fact) : SeqAt.shaped (.list (fs.map eF)) = true := by
  refine shape_of ?_ ?_
  · rw [PyData.canLay0]
    exact can_all fun d hd => by
      obtain ⟨f, _, e⟩ := List.mem_map.mp hd
      rw [← e]
      exact can_eF f
  · rw [PyData.depth]
    have z := depth_all (n := 3) (ds := fs.map eF) fun d hd => by
      obtain ⟨f, _, e⟩ := List.mem_map.mp hd
      rw [← e]
      exact depth_eF f
    omega
theorem eqv_self {d : PyData} (h : SeqAt.shaped d = true) : PyData.eqv d d = true := SeqAt.eqv_refl d (SeqAt.canLay_of_shaped h)
theorem ne_of_eqv {d e : PyData} (h : SeqAt.shaped d = true) (c : PyData.eqv d e = false) : d ≠ e := fun z => by
  rw [← z, eqv_self h] at c
  cases c
/-! as facts -/
def spAlike : Sp := fun vs H Q _ => ∃ (a ls lm : Addr) (many : Nat) (sts : List Stk) (ms : List Stn) (k : Nat) (n z : Int), vs = [.ref a, .ref ls, .ref lm, .int many] ∧ PotAt H a z ∧ z ≤ 90000 ∧ ls ≠ a ∧ lm ≠ a ∧ LstAt H ls (sts.map eK) ∧ LstAt H lm (ms.map eS) ∧
  (∀ st ∈ sts, st.2.length = k) ∧ k ≤ 10 ∧ n ≤ 1000 ∧ sts.length ≤ 100 ∧ ms ≠ [] ∧ ms.length ≤ 900 ∧ (∀ m ∈ ms, m.length = k ∧ Bd n m) ∧ many ≤ 10 ∧
  ∀ p (fs : List Fact) H', H p = none → PotAt H' a (z + 2 * many) → Keep a H H' → LstAt H' p (fs.map eF) → (∀ f ∈ fs, HeardOk k n sts f) → fs.length ≤ many → Q (.ref p) H'
/-! the few that are kept -/
def kindS : Fact → Str
  | .let_ _ => "let"
  | .not_ _ => "not"
  | .as_ _ _ => "as"
def cnt (x : Str) (fs : List Fact) : Nat := (fs.filter fun f => decide (kindS f = x)).length
def dk3 (a b c : Int) : List (Key × V) := [(.inr "let", .int a), (.inr "not", .int b), (.inr "as", .int c)]
def spFew : Sp := fun vs H Q _ => ∃ (lf : Addr) (x y w : Nat) (fs : List Fact), vs = [.ref lf, .int x, .int y, .int w] ∧ LstAt H lf (fs.map eF) ∧ fs.length ≤ 5000 ∧
  ∀ p (gs : List Fact) H', Same H H' → H p = none → LstAt H' p (gs.map eF) → gs.Nodup → (∀ g ∈ gs, g ∈ fs) → cnt "let" gs ≤ x → cnt "not" gs ≤ y → cnt "as" gs ≤ w → gs.length ≤ fs.length → Q (.ref p) H'
end GD
namespace GD
open PySem PySem.Spec PyProof.Rows L2
theorem eqv_tup (ds es : List PyData) : PyData.eqv (.tuple ds) (.tuple es) = PyData.eqvAll ds es := by rw [PyData.eqv]
end GD
namespace K04
open PySem PySem.Spec PyProof.Rows L2 GD
section
variable {P : Program} {w : World} {K : PySem.W.Frag} {mg : Str → Option Value} {base : Heap}
abbrev NA : List Str := ["_law_pot_here", "_law_stocks", "_law_met", "_law_many", "_law_found", "_law_lap", "_law_one", "_law_other", "_law_is_same", "_law_stock_here"]
theorem scA : FnScope NA ["_law_pot_here", "_law_stocks", "_law_met", "_law_many"] (defScope sAlikeFacts) := ⟨rfl, rfl, rfl, by decide +kernel, rfl, by decide +kernel, by decide +kernel⟩
theorem ok_alike {f fO fV fT : Addr} {fd fdO fdV fdT : FuncData} (F : Fun K "_law_alike_facts" "_law_alike_facts" sAlikeFacts f fd) (S : Small1 K mg)
    (AT : At K mg "_law_take" sTake ["_law_pot_here", "_law_upto"] fT fdT) (AO : At K mg "_law_of" sOf ["_law_pot_here", "_law_some_here"] fO fdO) (AV : At K mg "_law_level" sLevel ["_law_stock_here", "_law_standing_here"] fV fdV) :
    FnOk P w K mg base CX0 3 f fd ["_law_pot_here", "_law_stocks", "_law_met", "_law_many"] spAlike := by
  have GO : FnOk P w K mg base CX0 2 fO fdO ["_law_pot_here", "_law_some_here"] (spOf K) := ok_of AO.F S.ta AT.F AT.g AT.b
  have GV : FnOk P w K mg base CX0 1 fV fdV ["_law_stock_here", "_law_standing_here"] (spLevel K) := ok_level AV.F S.sum S.zip
  refine F.ok scA (fun vs H Q E h => ?_) (fun cdv A outer s H vs Q E hr h => ?_)
  · obtain ⟨a, ls, lm, many, sts, ms, k, n, z, rfl, _⟩ := h
    rfl
  · obtain ⟨a, ls, lm, many, sts, ms, k, n, z, rfl, hp, hz, hsa, hma, hs, hm, hst, hk, hn, hs100, hm0, hm900, hmm, hmy, q⟩ := h
    have hr1 : Room 1 _ := hr.mono (by decide)
    have hr2 : Room 2 _ := hr.mono (by decide)
    refine ⟨_, pss_cons (ps_set (i := 4) scA.nd rfl (.inl rfl) (pe_lst pa_nil))
      (pss_cons (ps_for PassesOwn.never rfl (pi_range1 (by rfl) S.ta.range (pa_cons (pv 3) pa_nil)) (pg_name (i := 5) scA.nd rfl (.inl rfl))
        (pss_cons (ps_asg (pe_tup (pa_cons (pe_call GO hr2 rfl AO.g AO.F.kp AO.b .nil pass0 (pa_cons (pv 0) (pa_cons (pv 2) pa_nil))) (pa_cons (pe_call GO hr2 rfl AO.g AO.F.kp AO.b .nil pass0 (pa_cons (pv 0) (pa_cons (pv 2) pa_nil))) pa_nil)))
            (pg_tup rfl (pgs_cons (pg_name (i := 6) scA.nd rfl (.inr rfl)) (pgs_cons (pg_name (i := 7) scA.nd rfl (.inr rfl)) pgs_nil))))
        (pss_cons (ps_set (i := 8) scA.nd rfl (.inl rfl) (pe_callB (cr_all rfl) (by rfl) S.all (by decide +kernel) (pa_cons (pe_lc (own := [("_law_stock_here", 9)]) (g := gName 9) (tt := tYes) rfl scA.nd (pi_list (pv 1)) (blkOk_by (N := NA) (sc := defScope sAlikeFacts) (by decide +kernel))
            (fun _ _ _ _ _ => pg_name (i := 9) scA.nd rfl (.inl rfl)) (fun _ _ _ _ _ => pts_nil)
            (fun _ _ _ _ _ => pe_cmpR op_eq (pe_call GV hr1 rfl AV.g AV.F.kp AV.b .nil pass0 (pa_cons (pv 9) (pa_cons (pv 6) pa_nil))) (pe_call GV hr1 rfl AV.g AV.F.kp AV.b .nil pass0 (pa_cons (pv 9) (pa_cons (pv 7) pa_nil))) (nomark _))) pa_nil)))
        (pss_one (ps_if (pw_and (pt_cmpR (op_neD hr.units) (pv 6) (pv 7) (nomark _)) (pw_and1 (pt_val (pv 8)))).pt
          (pss_one (ps_expr (pe_bm PySem.F.plainAttrs_list PySem.F.slot_list_append PySem.F.type_list_append mt_append (pv 4) (pa_cons (pe_tup (pa_cons pe_str (pa_cons (pv 6) (pa_cons (pv 7) pa_nil)))) pa_nil)))) pss_nil)))))
      (pss_one (ps_ret (pv 4)))), ?_⟩
    refine ⟨by decide, fun l1 n1 => ?_⟩
    have s1 := same_new (o := .lst []) n1
    have d1 : l1 ≠ a := hp.ne n1
    obtain ⟨xm, em, fm⟩ := id hm
    have lxm : xm.length = ms.length := by rw [fm.len, List.length_map]
    refine ⟨_, rfl, many, rfl, by omega, by omega, for_range (lo := 0) (n := many) (fun d σ H' => ∃ x5 x6 x7 x8 x9 : Option V, σ = [some (.ref a), some (.ref ls), some (.ref lm), some (.int many), some (.ref l1), x5, x6, x7, x8, x9] ∧
      PotAt H' a (z + 2 * (d : Nat)) ∧ Keep a H H' ∧ ∃ fs : List Fact, LstAt H' l1 (fs.map eF) ∧ (∀ f ∈ fs, HeardOk k n sts f) ∧ fs.length ≤ d) ⟨none, none, none, none, none, rfl, (hp.same s1).le (by omega), sKeep s1, [], ⟨[], upd_same, .nil⟩, fun _ h => (nomatch h), Nat.le_refl _⟩ ?_ ?_⟩
    · rintro d σ H' hd ⟨x5, x6, x7, x8, x9, rfl, hp1, k1, fs, ⟨xf, ef, ff⟩, hf, lf⟩
      have emd := k1 _ _ hma em
      have hx0 : xm ≠ [] := fun e => by
        rw [e] at lxm
        exact hm0 (List.eq_nil_of_length_eq_zero lxm.symm)
      refine ⟨_, rfl, _, rfl, a, lm, xm, _, rfl, hp1, by omega, hma, emd, hx0, by omega, fun v1 H1 hv1 p1 k2 => ?_⟩
      have em1 := k2 _ _ hma emd
      refine ⟨_, rfl, _, rfl, a, lm, xm, _, rfl, p1, by omega, hma, em1, hx0, by omega, fun v2 H2 hv2 p2 k3 => ?_⟩
      have t1 : Tups H H2 := (hp.tups k1).trans ((hp1.tups k2).trans (p1.tups k3))
      have k12 : Keep a H H2 := k1.trans (k2.trans k3)
      have ef2 := k3 _ _ d1 (k2 _ _ d1 ef)
      have ff2 := ff.mv ((hp1.tups k2).trans (p1.tups k3))
      obtain ⟨e1, he1, fe1⟩ := Fz.has fm hv1
      obtain ⟨m1, hm1, rfl⟩ := List.mem_map.mp he1
      obtain ⟨e2, he2, fe2⟩ := Fz.has fm hv2
      obtain ⟨m2, hm2, rfl⟩ := List.mem_map.mp he2
      obtain ⟨lm1, bm1⟩ := hmm m1 hm1
      obtain ⟨lm2, bm2⟩ := hmm m2 hm2
      refine ⟨(by show 2 ≤ sizeLine; decide), fun t ht => ?_⟩
      have st := same_new (o := .tup [v1, v2]) ht
      refine ⟨t, _, rfl, SqT.of upd_same, rfl, _, _, rfl, _, _, rfl, rfl, ?_⟩
      have kt : Keep a H (upd H2 t (.tup [v1, v2])) := k12.trans (sKeep st)
      have tt : Tups H (upd H2 t (.tup [v1, v2])) := t1.trans (tups_same st)
      have hst2 := hs.keep hsa kt tt
      have g1 := fe1.mv tt
      have g2 := fe2.mv tt
      have eft := st _ _ ef2
      have fft := ff2.mv (tups_same st)
      have pt := p2.same st
      generalize upd H2 t (.tup [v1, v2]) = H3 at kt tt hst2 g1 g2 eft fft pt
      obtain ⟨xs, es, fs3⟩ := hst2
      refine ⟨_, rfl, ls, rfl, ⟨_, SqL.of es⟩, fun D hD => ?_⟩
      refine lc_list (K := K) (a := ls) (xs := xs) (fun i H' => Same H3 H' ∧ H' D = some (.lst (((sts.take i).map fun st => decide (levelS st m1 = levelS st m2)).map V.bl))) ⟨same_new hD, upd_same⟩ (fun i H' _ ⟨s1, _⟩ => SqL.of (s1 _ _ es)) ?_ ?_
      · rintro i x H' hx ⟨sa, eD⟩
        obtain ⟨st, hst', fst'⟩ := fs3.atM hx
        have hlt : i < sts.length := (List.getElem?_eq_some_iff.mp hst').1
        have lst := hst st (List.mem_of_getElem? hst')
        refine ⟨rfl, _, rfl, _, rfl, x, v1, st, m1, rfl, fst'.same sa, g1.same sa, by omega, by omega, bm1.small hn, fun Ha s2 => ?_⟩
        refine ⟨_, rfl, _, rfl, x, v2, st, m2, rfl, (fst'.same sa).same s2, (g2.same sa).same s2, by omega, by omega, bm2.small hn, fun Hb s3 => ⟨rfl, ?_⟩⟩
        refine ⟨_, s3 _ _ (s2 _ _ eD), ?_, same_upd ((sa.trans s2).trans s3) hD, ?_⟩
        · rw [List.length_map, List.length_map, List.length_take]
          exact Nat.lt_of_le_of_lt (Nat.min_le_left _ _) (Nat.lt_of_lt_of_le (show i < 101 by omega) (by decide))
        · rw [upd_same, take_next hst', List.map_append, List.map_append]
          simp only [List.map_cons, List.map_nil, V.int.injEq]
      · rintro H4 ⟨s4, eD⟩
        refine ⟨D, _, rfl, SqL.of eD, ?_⟩
        rw [fs3.len, List.length_map, List.take_length, List.all_map]
        have pt4 := pt.same s4
        have kt4 := kt.trans (sKeep s4)
        have g14 := g1.same s4
        have g24 := g2.same s4
        have ef4 := s4 _ _ eft
        have ff4 := fft.same s4
        refine ⟨_, rfl, _, rfl, eS m1, eS m2, g14.dp, g24.dp, shape_eS _, shape_eS _, ?_⟩
        cases he : PyData.eqv (eS m1) (eS m2) with
        | true =>
          refine ⟨_, rfl, ?_⟩
          exact ⟨_, _, _, _, _, rfl, pt4.le (by omega), kt4, fs, ⟨xf, ef4, ff4⟩, hf, by omega⟩
        | false =>
          refine ⟨_, rfl, ?_⟩
          refine iteT ?_
          refine ⟨_, rfl, _, rfl, ?_⟩
          cases hb : (sts.all (id ∘ fun st => decide (levelS st m1 = levelS st m2))) with
          | false =>
            refine iteF ?_
            exact ⟨_, _, _, _, _, rfl, pt4.le (by omega), kt4, fs, ⟨xf, ef4, ff4⟩, hf, by omega⟩
          | true =>
            refine iteT ?_
            refine ⟨_, rfl, .inl ⟨rfl, _, SqL.of ef4⟩, ?_⟩
            refine ⟨_, rfl, _, rfl, (by show 3 ≤ sizeLine; decide), fun u hu => ?_⟩
            have su := same_new (o := .tup [.str "as", v1, v2]) hu
            have lxf : xf.length = fs.length := by rw [ff.len, List.length_map]
            refine ⟨l1, xf, _, rfl, rfl, su _ _ ef4, Nat.lt_of_lt_of_le (show xf.length < 100 by omega) (by decide), ?_⟩
            refine ⟨_, _, _, _, _, rfl, ((pt4.same su).upd_ne d1).le (by omega), keep_upd (kt4.trans (sKeep su)) n1, fs ++ [.as_ m1 m2], ⟨_, upd_same, FzAll.mv (tups_lst (su _ _ ef4)) ?_⟩, fun g hg => ?_, by rw [List.length_append, List.length_singleton]; omega⟩
            · rw [List.map_append]
              exact (ff4.same su).snoc (.tup upd_same (.cons (.str _) (.cons (g14.same su) (.cons (g24.same su) .nil))))
            · rcases List.mem_append.mp hg with y | y
              · exact hf g y
              · rw [List.mem_singleton.mp y]
                refine ⟨lm1, bm1, lm2, bm2, fun e => ?_, fun st hst => ?_⟩
                · exact ne_of_eqv (shape_eS m1) he (by rw [e])
                · exact of_decide_eq_true (List.all_eq_true.mp hb st hst)
    · rintro σ H' ⟨x5, x6, x7, x8, x9, rfl, hp1, k1, fs, xf, hf, lf⟩
      exact ⟨_, rfl, q l1 fs H' n1 hp1 k1 xf hf lf⟩
end
end K04
namespace GD
open PySem PySem.Spec PyProof.Rows L2
theorem u65 {k : Nat} {A : Around} (r : Room k A) : A.units + 65 < cLine := by
  have := r.un
  omega
theorem u1 {k : Nat} {A : Around} (r : Room k A) : A.units + 1 < cLine := by
  have := r.un
  omega
def one3 (f : Fact) (x : Str) : Nat := if kindS f = x then 1 else 0
theorem cnt_snoc (x : Str) (gs : List Fact) (f : Fact) : cnt x (gs ++ [f]) = cnt x gs + one3 f x := by
  unfold cnt one3
  rw [List.filter_append, List.length_append]
  by_cases h : kindS f = x
  · rw [if_pos h, List.filter_cons, if_pos (decide_eq_true h)]
    rfl
  · rw [if_neg h, List.filter_cons, if_neg (by simp [h])]
    rfl
def sel3 : Fact → Int → Int → Int → Int
  | .let_ _, a, _, _ => a
  | .not_ _, _, b, _ => b
  | .as_ _ _, _, _, c => c
theorem dk3_get (f : Fact) (a b c : Int) : valV (dk3 a b c) (.inr (kindS f)) = some (.int (sel3 f a b c)) := by
  cases f <;> rfl
theorem dk3_put (f : Fact) (a b c : Int) : putK (dk3 a b c) (.inr (kindS f)) (.int (sel3 f a b c - 1)) = dk3 (a - one3 f "let") (b - one3 f "not") (c - one3 f "as") := by
  have e1 : (kindS (.let_ []) : Str) = "let" := rfl
  cases f with
  | let_ s =>
    rw [show one3 (.let_ s) "let" = 1 from rfl, show one3 (.let_ s) "not" = 0 from rfl, show one3 (.let_ s) "as" = 0 from rfl, Int.natCast_zero, Int.sub_zero, Int.sub_zero]
    rfl
  | not_ s =>
    rw [show one3 (.not_ s) "let" = 0 from rfl, show one3 (.not_ s) "not" = 1 from rfl, show one3 (.not_ s) "as" = 0 from rfl, Int.natCast_zero, Int.sub_zero, Int.sub_zero]
    rfl
  | as_ s t =>
    rw [show one3 (.as_ s t) "let" = 0 from rfl, show one3 (.as_ s t) "not" = 0 from rfl, show one3 (.as_ s t) "as" = 1 from rfl, Int.natCast_zero, Int.sub_zero, Int.sub_zero]
    rfl
theorem Fz.fact {H : Hp} {v : V} {f : Fact} (h : Fz H v (eF f)) : ∃ b r, v = .ref b ∧ H b = some (.tup (.str (kindS f) :: r)) := by
  cases f with
  | let_ s =>
    obtain ⟨b, x, y, rfl, hb, h1, h2⟩ := h.t2
    obtain rfl := h1.s
    exact ⟨b, _, rfl, hb⟩
  | not_ s =>
    obtain ⟨b, x, y, rfl, hb, h1, h2⟩ := h.t2
    obtain rfl := h1.s
    exact ⟨b, _, rfl, hb⟩
  | as_ s t =>
    obtain ⟨b, x, y, z, rfl, hb, h1, h2⟩ := h.t3
    obtain rfl := h1.s
    exact ⟨b, _, rfl, hb⟩
theorem LstAt.dp {K : PySem.W.Frag} {H : Hp} {l : Addr} {ds : List PyData} (h : LstAt H l ds) : Dp K H (.ref l) (.list ds) := by
  obtain ⟨xs, e, f⟩ := h
  exact .lst (SqL.of e) f.dp
theorem new_fact {gs : List Fact} {f : Fact} (h : ((gs.map eF).any fun z => PyData.eqv z (eF f)) = false) : f ∉ gs := fun m => by
  have z := List.any_eq_false.mp h (eF f) (List.mem_map_of_mem m)
  exact z (eqv_self (shape_eF f))
theorem at0 {x : V} {r : List V} : atI (x :: r) 0 = some x := atI_nat (j := 0) rfl
structure FI (l r : Addr) (H H' : Hp) (x y w : Nat) (fs gs : List Fact) (n : Nat) : Prop where
  sm : Same H H'
  ls : LstAt H' l (gs.map eF)
  dk : H' r = some (.dK (dk3 ((x : Int) - cnt "let" gs) ((y : Int) - cnt "not" gs) ((w : Int) - cnt "as" gs)))
  nd : gs.Nodup
  mem : ∀ g ∈ gs, g ∈ fs
  a : cnt "let" gs ≤ x
  b : cnt "not" gs ≤ y
  c : cnt "as" gs ≤ w
  len : gs.length ≤ n
theorem sel_room {f : Fact} {a b c : Int} (h : 0 < sel3 f a b c) (ha : 0 ≤ a) (hb : 0 ≤ b) (hc : 0 ≤ c) : (one3 f "let" : Int) ≤ a ∧ (one3 f "not" : Int) ≤ b ∧ (one3 f "as" : Int) ≤ c := by
  cases f with
  | let_ s =>
    rw [show one3 (.let_ s) "let" = 1 from rfl, show one3 (.let_ s) "not" = 0 from rfl, show one3 (.let_ s) "as" = 0 from rfl]
    exact ⟨h, hb, hc⟩
  | not_ s =>
    rw [show one3 (.not_ s) "let" = 0 from rfl, show one3 (.not_ s) "not" = 1 from rfl, show one3 (.not_ s) "as" = 0 from rfl]
    exact ⟨ha, h, hc⟩
  | as_ s t =>
    rw [show one3 (.as_ s t) "let" = 0 from rfl, show one3 (.as_ s t) "not" = 0 from rfl, show one3 (.as_ s t) "as" = 1 from rfl]
    exact ⟨ha, hb, h⟩
end GD
namespace K04
open PySem PySem.Spec PyProof.Rows L2 GD
section
variable {P : Program} {w : World} {K : PySem.W.Frag} {mg : Str → Option Value} {base : Heap}
abbrev NW : List Str := ["_law_facts", "_law_lets_here", "_law_nots", "_law_ases", "_law_found", "_law_room", "_law_fact"]
theorem scW : FnScope NW ["_law_facts", "_law_lets_here", "_law_nots", "_law_ases"] (defScope sFew) := ⟨rfl, rfl, rfl, by decide +kernel, rfl, by decide +kernel, by decide +kernel⟩
theorem ok_few {f : Addr} {fd : FuncData} (F : Fun K "_law_few" "_law_few" sFew f fd) : FnOk P w K mg base CX0 1 f fd ["_law_facts", "_law_lets_here", "_law_nots", "_law_ases"] spFew := by
  refine F.ok scW (fun vs H Q E h => ?_) (fun cdv A outer s H vs Q E hr h => ?_)
  · obtain ⟨lf, x, y, w, fs, rfl, _⟩ := h
    rfl
  · obtain ⟨lf, x, y, w, fs, rfl, hl, h5, q⟩ := h
    have hu := hr.un
    refine ⟨_, pss_cons (ps_par (i := 4) (j := 5) rfl scW.nd rfl rfl (by decide) rfl rfl (pa_cons (pe_lst pa_nil) (pa_cons (pe_disp (pps_cons pe_str (pv 1) (pps_cons pe_str (pv 2) (pps_cons pe_str (pv 3) pps_nil))) (by rfl) (by rfl) (fun z => by cases z) (by show 3 ≤ 15; decide)) pa_nil)) (by rfl))
      (pss_cons (ps_for PassesOwn.never rfl (pi_list (pv 0)) (pg_name (i := 6) scW.nd rfl (.inl rfl))
        (pss_one (ps_if (pw_and (pt_cmpR (op_notInD (u65 hr)) (pv 6) (pv 4) (by rfl)) (pw_and1 (pt_cmpR op_gt (pe_dget (u1 hr) (pv 5) (pe_ix ix_tup (pv 6) pe_int (fun _ _ => rfl)) (fun _ _ => rfl)) pe_int (nomark _)))).pt
          (pss_cons (ps_expr (pe_bm PySem.F.plainAttrs_list PySem.F.slot_list_append PySem.F.type_list_append mt_append (pv 4) (pa_cons (pv 6) pa_nil)))
          (pss_one (ps_dput (u1 hr) (pv 5) (pe_ix ix_tup (pv 6) pe_int (fun _ _ => rfl)) (pe_op op_sub (pe_dget (u1 hr) (pv 5) (pe_ix ix_tup (pv 6) pe_int (fun _ _ => rfl)) (fun _ _ => rfl)) pe_int) (by rfl)))) pss_nil)))
      (pss_one (ps_ret (pv 4)))), ?_⟩
    obtain ⟨xs, ef, ff⟩ := id hl
    have lxs : xs.length = fs.length := by rw [ff.len, List.length_map]
    refine ⟨by decide, fun l n1 => ?_⟩
    have s1 := same_new (o := .lst []) n1
    intro r n2
    have s2 := same_new (o := .dK []) n2
    have s2' := same_new (o := .dK (dk3 (x : Int) (y : Int) (w : Int))) n2
    refine ⟨_, rfl, _, rfl, _, rfl, upd_same, dk3 x y w, rfl, (by show 3 ≤ 15; decide), ?_⟩
    rw [upd_upd]
    refine ⟨_, _, rfl, ?_⟩
    have h0 : FI l r H (upd (upd H l (.lst [])) r (.dK (dk3 x y w))) x y w fs [] 0 := ⟨s1.trans s2', ⟨[], s2' _ _ upd_same, .nil⟩, by rw [upd_same]; show some (HO.dK (dk3 x y w)) = some (HO.dK (dk3 ((x : Int) - (0 : Nat)) ((y : Int) - (0 : Nat)) ((w : Int) - (0 : Nat)))); rw [Int.natCast_zero, Int.sub_zero, Int.sub_zero, Int.sub_zero], .nil, fun _ h => (nomatch h), Nat.zero_le _, Nat.zero_le _, Nat.zero_le _, Nat.le_refl _⟩
    have i2 : H r = none := s1.free n2
    have dlr : l ≠ r := ne_of_none upd_same n2
    refine ⟨_, rfl, lf, rfl, ⟨_, SqL.of (h0.sm _ _ ef)⟩, for_list (K := K) (a := lf) (xs := xs) (fun i σ H' => ∃ (x6 : Option V) (gs : List Fact), σ = [some (.ref lf), some (.int x), some (.int y), some (.int w), some (.ref l), some (.ref r), x6] ∧ FI l r H H' x y w fs gs i) ⟨none, [], rfl, h0⟩
      (fun i σ H' _ ⟨_, _, _, h⟩ => SqL.of (h.sm _ _ ef)) ?_ ?_⟩
    · rintro i v σ H' hi ⟨x6, gs, rfl, h⟩
      obtain ⟨f0, hf0, fz⟩ := ff.atM hi
      have hin : i < fs.length := (List.getElem?_eq_some_iff.mp hf0).1
      have fz2 := fz.same h.sm
      obtain ⟨b, rest, rfl, hb⟩ := fz2.fact
      have ea := h.a
      have eb := h.b
      have ec := h.c
      refine ⟨_, rfl, _, rfl, eF f0, gs.map eF, fz2.dp, h.ls.dp, shape_eF f0, shape_eFs gs, ?_⟩
      cases hc : ((gs.map eF).any fun z => PyData.eqv z (eF f0)) with
      | true =>
        refine ⟨_, rfl, ?_⟩
        exact ⟨_, gs, rfl, { h with len := Nat.le_succ_of_le h.len }⟩
      | false =>
        refine ⟨_, rfl, ?_⟩
        refine iteT ?_
        have dg := DGet.k (k := .inr (kindS f0)) h.dk
        rw [dk3_get] at dg
        refine ⟨_, rfl, _, rfl, b, _, 0, _, rfl, rfl, SqT.of hb, at0, r, _, rfl, dg, _, _, rfl, rfl, ?_⟩
        refine ⟨_, rfl, ?_⟩
        by_cases hs : 0 < sel3 f0 ((x : Int) - cnt "let" gs) ((y : Int) - cnt "not" gs) ((w : Int) - cnt "as" gs)
        · rw [decide_eq_true hs]
          refine iteT ?_
          obtain ⟨acc, eA, fA⟩ := h.ls
          obtain ⟨qa, qb, qc⟩ := sel_room hs (by omega) (by omega) (by omega)
          have lA : acc.length = gs.length := by rw [fA.len, List.length_map]
          have hlen := h.len
          refine ⟨_, rfl, .inl ⟨rfl, _, SqL.of eA⟩, ?_⟩
          refine ⟨_, rfl, l, acc, _, rfl, rfl, eA, Nat.lt_of_lt_of_le (show acc.length < 5001 by omega) (by decide), ?_⟩
          have e2 : (upd H' l (.lst (acc ++ [.ref b]))) r = H' r := upd_ne dlr.symm
          rw [h.dk] at e2
          have eb2 : (upd H' l (.lst (acc ++ [.ref b]))) b = some (.tup (.str (kindS f0) :: rest)) := tups_lst eA _ _ hb
          have dg2 := DGet.k (k := .inr (kindS f0)) e2
          rw [dk3_get] at dg2
          refine ⟨_, rfl, _, rfl, b, _, 0, _, rfl, rfl, SqT.of eb2, at0, r, _, rfl, dg2, _, _, rfl, rfl, ?_⟩
          refine ⟨_, rfl, _, rfl, b, _, 0, _, rfl, rfl, SqT.of eb2, at0, r, _, rfl, DPut.k (k := .inr (kindS f0)) e2 (by show 3 < sizeLine; decide), ?_⟩
          rw [dk3_put]
          refine ⟨_, gs ++ [f0], rfl, same_upd (same_upd h.sm n1) i2, ?_, ?_, ?_, fun g hg => ?_, ?_, ?_, ?_, ?_⟩
          · refine ⟨acc ++ [.ref b], by rw [upd_ne dlr]; exact upd_same, ?_⟩
            rw [List.map_append]
            exact (fA.snoc fz2).mv ((tups_lst eA).trans (tups_dK e2))
          · rw [upd_same, cnt_snoc, cnt_snoc, cnt_snoc]
            congr 3 <;> omega
          · exact List.nodup_append.mpr ⟨h.nd, List.nodup_cons.mpr ⟨fun h => (nomatch h), .nil⟩, fun u hu v hv e => by rw [List.mem_singleton.mp hv] at e; rw [e] at hu; exact new_fact hc hu⟩
          · rcases List.mem_append.mp hg with y | y
            · exact h.mem g y
            · rw [List.mem_singleton.mp y]
              exact List.mem_of_getElem? hf0
          · rw [cnt_snoc]
            omega
          · rw [cnt_snoc]
            omega
          · rw [cnt_snoc]
            omega
          · rw [List.length_append, List.length_singleton]
            omega
        · rw [decide_eq_false hs]
          refine iteF ?_
          exact ⟨_, gs, rfl, { h with len := Nat.le_succ_of_le h.len }⟩
    · rintro σ H' ⟨x6, gs, rfl, h⟩
      rw [lxs] at h
      exact ⟨_, rfl, q l gs H' h.sm n1 h.ls h.nd h.mem h.a h.b h.c h.len⟩
end
end K04
namespace GD
open PySem PySem.Spec PyProof.Rows L2
/-! a drawn book -/
theorem at1 {x y : V} {r : List V} : atI (x :: y :: r) 1 = some y := atI_nat (j := 1) rfl
theorem at2 {x y a : V} {r : List V} : atI (x :: y :: a :: r) 2 = some a := atI_nat (j := 2) rfl
theorem at3 {x y a b : V} {r : List V} : atI (x :: y :: a :: b :: r) 3 = some b := atI_nat (j := 3) rfl
theorem at4 {x y a b c : V} {r : List V} : atI (x :: y :: a :: b :: c :: r) 4 = some c := atI_nat (j := 4) rfl
theorem at5 {x y a b c d : V} {r : List V} : atI (x :: y :: a :: b :: c :: d :: r) 5 = some d := atI_nat (j := 5) rfl
theorem FzAll.perm {H : Hp} {xs ys : List V} (h : ys.Perm xs) : ∀ {fs : List Fact}, FzAll H xs (fs.map eF) → ∃ gs : List Fact, gs.Perm fs ∧ FzAll H ys (gs.map eF) := by
  induction h with
  | nil =>
    intro fs h
    exact ⟨fs, .refl _, h⟩
  | cons x p ih =>
    intro fs h
    cases fs with
    | nil => cases h
    | cons f r =>
      cases h with
      | cons a t =>
        obtain ⟨gs, q, g⟩ := ih t
        exact ⟨f :: gs, q.cons f, .cons a g⟩
  | swap x y l =>
    intro fs h
    cases fs with
    | nil => cases h
    | cons f r =>
      cases r with
      | nil =>
        cases h with
        | cons a t => cases t
      | cons g r =>
        cases h with
        | cons a t =>
          cases t with
          | cons b t => exact ⟨g :: f :: r, .swap _ _ _, .cons b (.cons a t)⟩
  | trans p q ih1 ih2 =>
    intro fs h
    obtain ⟨gs, a, b⟩ := ih2 h
    obtain ⟨hs, c, d⟩ := ih1 b
    exact ⟨hs, c.trans a, d⟩
def LoreAt (H : Hp) (d lj lf ls : Addr) (js : List (Str × Str)) (fs : List Fact) (sts : List Stk) : Prop := H d = some (.dK [(.inr "jobs", .ref lj), (.inr "facts", .ref lf), (.inr "stocks", .ref ls)]) ∧ LstAt H lj (js.map eE) ∧ LstAt H lf (fs.map eF) ∧ LstAt H ls (sts.map eK)
def LoreOk (most : Nat) (ms : List Str) (x2 x3 x4 x5 : Nat) (js : List (Str × Str)) (fs : List Fact) (sts : List Stk) : Prop := JobsOk most ms js ∧ (∀ st ∈ sts, StockOk js 3 st) ∧ fs.Nodup ∧ (∀ f ∈ fs, HeardOk js.length x2 sts f) ∧ cnt "let" fs ≤ x3 ∧ cnt "not" fs ≤ x4 ∧ cnt "as" fs ≤ x5 ∧ fs.length ≤ 400 ∧ sts.length ≤ 20
def spLore : Sp := fun vs H Q _ => ∃ (a lm sz : Addr) (most : Nat) (ms : List Str) (z : Int) (x0 x1 x2 x3 x4 x5 : Nat), vs = [.ref a, .int most, .ref lm, .ref sz] ∧ PotAt H a z ∧ z ≤ 10000 ∧ 1 ≤ most ∧ most ≤ 4 ∧ lm ≠ a ∧ H lm = some (.lst (ms.map V.str)) ∧ ms ≠ [] ∧ ms.length ≤ 100 ∧
  H sz = some (.tup [.int x0, .int x1, .int x2, .int x3, .int x4, .int x5]) ∧ 1 ≤ x0 ∧ x0 ≤ 20 ∧ 1 ≤ x1 ∧ x1 ≤ 9 ∧ 1 ≤ x2 ∧ x2 ≤ 30 ∧ x5 ≤ 10 ∧
  ∀ (d lj lf ls : Addr) js fs sts H', H d = none → H lj = none → H lf = none → H ls = none → PotAt H' a (z + 2500) → Keep a H H' → LoreAt H' d lj lf ls js fs sts → LoreOk most ms x2 x3 x4 x5 js fs sts → Q (.ref d) H'
end GD
namespace K04
open PySem PySem.Spec PyProof.Rows L2 GD
section
variable {P : Program} {w : World} {K : PySem.W.Frag} {mg : Str → Option Value} {base : Heap}
abbrev NLo : List Str := ["_law_pot_here", "_law_most", "_law_manners", "_law_sizes", "_law_jobs_here", "_law_stocks", "_law_facts", "_law_met", "_law_lap"]
theorem scLo : FnScope NLo ["_law_pot_here", "_law_most", "_law_manners", "_law_sizes"] (defScope sLore) := ⟨rfl, rfl, rfl, by decide +kernel, rfl, by decide +kernel, by decide +kernel⟩
/-- all defs that the drawer of books calls -/
structure Drawer (K : PySem.W.Frag) (mg : Str → Option Value) (fT fO fS fN fJ fF fB fC fE fG fK fV fL fH fA fW : Addr) (fdT fdO fdS fdN fdJ fdF fdB fdC fdE fdG fdK fdV fdL fdH fdA fdW : FuncData) : Prop where
  T : At K mg "_law_take" sTake ["_law_pot_here", "_law_upto"] fT fdT
  O : At K mg "_law_of" sOf ["_law_pot_here", "_law_some_here"] fO fdO
  S : At K mg "_law_some" sSome ["_law_pot_here", "_law_pool", "_law_many"] fS fdS
  N : At K mg "_law_names" sNames ["_law_pot_here", "_law_many"] fN fdN
  J : At K mg "_law_jobs" sJobs ["_law_pot_here", "_law_most", "_law_manners"] fJ fdJ
  F : At K mg "_law_first" sFirst ["_law_jobs_here"] fF fdF
  B : At K mg "_law_behind" sBehind ["_law_jobs_here", "_law_standing_here", "_law_event"] fB fdB
  C : At K mg "_law_can_come" sCanCome ["_law_jobs_here", "_law_standing_here", "_law_event"] fC fdC
  E : At K mg "_law_events" sEvents ["_law_jobs_here", "_law_standing_here"] fE fdE
  G : At K mg "_law_change" sChange ["_law_pot_here", "_law_manner", "_law_size"] fG fdG
  Sk : At K mg "_law_stock" sStock ["_law_pot_here", "_law_jobs_here", "_law_size"] fK fdK
  V : At K mg "_law_level" sLevel ["_law_stock_here", "_law_standing_here"] fV fdV
  L : At K mg "_law_lets" sLets ["_law_stocks", "_law_standing_here"] fL fdL
  H : At K mg "_law_heard_facts" sHeardFacts ["_law_pot_here", "_law_jobs_here", "_law_stocks", "_law_days", "_law_most"] fH fdH
  A : At K mg "_law_alike_facts" sAlikeFacts ["_law_pot_here", "_law_stocks", "_law_met", "_law_many"] fA fdA
  W : At K mg "_law_few" sFew ["_law_facts", "_law_lets_here", "_law_nots", "_law_ases"] fW fdW
theorem ok_lore {f fT fO fS fN fJ fF fB fC fE fG fK fV fL fH fA fW : Addr} {fd fdT fdO fdS fdN fdJ fdF fdB fdC fdE fdG fdK fdV fdL fdH fdA fdW : FuncData} (F : Fun K "_law_lore" "_law_lore" sLore f fd) (S : Small1 K mg)
    (D : Drawer K mg fT fO fS fN fJ fF fB fC fE fG fK fV fL fH fA fW fdT fdO fdS fdN fdJ fdF fdB fdC fdE fdG fdK fdV fdL fdH fdA fdW) : FnOk P w K mg base CX0 5 f fd ["_law_pot_here", "_law_most", "_law_manners", "_law_sizes"] spLore := by
  have GT : FnOk P w K mg base CX0 1 fT fdT ["_law_pot_here", "_law_upto"] spTake := ok_take D.T.F S.ta
  have GJ : FnOk P w K mg base CX0 4 fJ fdJ ["_law_pot_here", "_law_most", "_law_manners"] spJobs := ok_jobs D.J.F S.ta D.T.F D.T.g D.T.b D.S.F D.S.g D.S.b D.N.F D.N.g D.N.b D.O.F D.O.g D.O.b
  have GK : FnOk P w K mg base CX0 3 fK fdK ["_law_pot_here", "_law_jobs_here", "_law_size"] spStock := ok_stock D.Sk.F S.ta S.tup D.T.F D.T.g D.T.b D.G.F D.G.g D.G.b
  have GH : FnOk P w K mg base CX0 4 fH fdH ["_law_pot_here", "_law_jobs_here", "_law_stocks", "_law_days", "_law_most"] spHeard := ok_heard D.H.F S D.T D.O D.F D.B D.C D.E D.V D.L
  have GA : FnOk P w K mg base CX0 3 fA fdA ["_law_pot_here", "_law_stocks", "_law_met", "_law_many"] spAlike := ok_alike D.A.F S D.T D.O D.V
  have GS : FnOk P w K mg base CX0 2 fS fdS ["_law_pot_here", "_law_pool", "_law_many"] (spSome K) := ok_some D.S.F S.ta D.T.F D.T.g D.T.b
  have GW : FnOk P w K mg base CX0 1 fW fdW ["_law_facts", "_law_lets_here", "_law_nots", "_law_ases"] spFew := ok_few D.W.F
  refine F.ok scLo (fun vs H Q E h => ?_) (fun cdv A outer s H vs Q E hr h => ?_)
  · obtain ⟨a, lm, sz, most, ms, z, x0, x1, x2, x3, x4, x5, rfl, _⟩ := h
    rfl
  · obtain ⟨a, lm, sz, most, ms, z, x0, x1, x2, x3, x4, x5, rfl, hp, hz, hm1, hm4, hma, hm, hms, hm100, hsz, h01, h02, h11, h12, h21, h22, h5, q⟩ := h
    have hr1 : Room 1 _ := hr.mono (by decide)
    have hr2 : Room 2 _ := hr.mono (by decide)
    have hr3 : Room 3 _ := hr.mono (by decide)
    refine ⟨_, pss_cons (ps_set (i := 4) scLo.nd rfl (.inr rfl) (pe_call GJ hr rfl D.J.g D.J.F.kp D.J.b .nil pass0 (pa_cons (pv 0) (pa_cons (pv 1) (pa_cons (pv 2) pa_nil)))))
      (pss_cons (ps_setLc (i := 5) (own := [("_law_lap", 8)]) (g := gName 8) (tt := tYes) rfl scLo.nd rfl rfl (sw_true rfl rfl rfl (by decide +kernel))
          (pi_range1 (by rfl) S.ta.range (pa_cons (pe_op op_add pe_int (pe_call GT hr1 rfl D.T.g D.T.F.kp D.T.b .nil pass0 (pa_cons (pv 0) (pa_cons (pe_ix ix_tup (pv 3) pe_int (fun _ _ => rfl)) pa_nil)))) pa_nil))
          (blkOk_by (N := NLo) (sc := defScope sLore) (by decide +kernel)) (fun _ _ _ _ _ => pg_name (i := 8) scLo.nd rfl (.inl rfl)) (fun _ _ _ _ _ => pts_nil)
          (fun _ _ _ _ _ => pe_call GK hr3 rfl D.Sk.g D.Sk.F.kp D.Sk.b .nil pass0 (pa_cons (pv 0) (pa_cons (pv 4) (pa_cons pe_int pa_nil)))))
      (pss_cons (ps_asg (pe_call GH hr rfl D.H.g D.H.F.kp D.H.b .nil pass0 (pa_cons (pv 0) (pa_cons (pv 4) (pa_cons (pv 5) (pa_cons (pe_op op_add pe_int (pe_call GT hr1 rfl D.T.g D.T.F.kp D.T.b .nil pass0 (pa_cons (pv 0) (pa_cons (pe_ix ix_tup (pv 3) pe_int (fun _ _ => rfl)) pa_nil))))
          (pa_cons (pe_ix ix_tup (pv 3) pe_int (fun _ _ => rfl)) pa_nil)))))) (pg_tup rfl (pgs_cons (pg_name (i := 6) scLo.nd rfl (.inl rfl)) (pgs_cons (pg_name (i := 7) scLo.nd rfl (.inl rfl)) pgs_nil))))
      (pss_cons (ps_set (i := 6) scLo.nd rfl (.inl rfl) (pe_op op_cat (pv 6) (pe_call GA hr3 rfl D.A.g D.A.F.kp D.A.b .nil pass0 (pa_cons (pv 0) (pa_cons (pv 5) (pa_cons (pv 7) (pa_cons (pe_ix ix_tup (pv 3) pe_int (fun _ _ => rfl)) pa_nil)))))))
      (pss_cons (ps_set (i := 6) scLo.nd rfl (.inl rfl) (pe_call GW hr1 rfl D.W.g D.W.F.kp D.W.b .nil pass0 (pa_cons (pe_call GS hr2 rfl D.S.g D.S.F.kp D.S.b .nil pass0 (pa_cons (pv 0) (pa_cons (pv 6) (pa_cons (pe_callB call_len_seq (by rfl) S.ta.len PySem.boot_len (pa_cons (pv 6) pa_nil)) pa_nil))))
          (pa_cons (pe_ix ix_tup (pv 3) pe_int (fun _ _ => rfl)) (pa_cons (pe_ix ix_tup (pv 3) pe_int (fun _ _ => rfl)) (pa_cons (pe_ix ix_tup (pv 3) pe_int (fun _ _ => rfl)) pa_nil))))))
      (pss_one (ps_ret (pe_disp (pps_cons pe_str (pv 4) (pps_cons pe_str (pv 6) (pps_cons pe_str (pv 5) pps_nil))) (by rfl) (by rfl) (fun z => by cases z) (by show 3 ≤ 15; decide)))))))), ?_⟩
    have hsa : sz ≠ a := by
      obtain ⟨_, _, _, e, _⟩ := hp
      exact ne_of hsz e (fun z => by cases z)
    refine ⟨_, rfl, _, rfl, _, rfl, a, lm, most, ms, z, rfl, hp, by omega, hm1, hm4, hma, hm, hms, hm100, fun lj js H1 nj p1 k1 hj jo => ?_⟩
    obtain ⟨hj1, hjm, hjn, hjj⟩ := id jo
    have hja : lj ≠ a := hp.ne nj
    refine ⟨_, rfl, _, rfl, sz, _, 0, _, rfl, rfl, SqT.of (k1 _ _ hsa hsz), at0, a, x0, _, rfl, p1, by omega, by omega, by omega, fun m H2 m0 m1 p2 k2 => ?_⟩
    have k12 := k1.trans k2
    have hj2 := hj.keep hja k2 (p1.tups k2)
    obtain ⟨n, hn⟩ := Int.eq_ofNat_of_zero_le (show 0 ≤ 1 + m by omega)
    refine ⟨_, _, rfl, rfl, 1 + m, rfl, by omega, by omega, fun D hD => ?_⟩
    have D0 : H D = none := keep_none p2 k12 hD
    have nDa : D ≠ a := p2.ne hD
    rw [hn, Int.toNat_natCast]
    refine lc_range (lo := 0) (n := n) (fun i H' => PotAt H' a (z + 21 + 50 * (i : Nat)) ∧ Keep a H H' ∧ LstAt H' lj (js.map eE) ∧ ∃ (acc : List V) (sts : List Stk), H' D = some (.lst acc) ∧ FzAll H' acc (sts.map eK) ∧ sts.length = i ∧ ∀ st ∈ sts, StockOk js 3 st)
      ⟨(p2.upd_ne nDa).le (by omega), keep_upd k12 D0, ?_, [], [], upd_same, .nil, rfl, fun _ h => (nomatch h)⟩ ?_ ?_
    · exact hj2.same (same_new hD)
    · rintro i H' hi ⟨pi, ki, hji, acc, sts, eD, fz, ls, ho⟩
      have ljD : lj ≠ D := by
        obtain ⟨_, e, _⟩ := hj2
        exact ne_of_none e hD
      refine ⟨rfl, _, rfl, _, rfl, a, lj, js, 3, _, rfl, pi, by omega, hja, hji, by omega, by decide, by decide, fun v st H3 p3 k3 fk so => ?_⟩
      have eD3 := k3 _ _ nDa eD
      have la : acc.length = i := by rw [fz.len, List.length_map, ls]
      refine ⟨acc, eD3, by rw [la]; exact Nat.lt_of_lt_of_le (show i < 100 by omega) (by decide), (p3.upd_ne nDa).le (by omega), keep_upd (ki.trans k3) D0, lst_other eD3 ljD (hji.keep hja k3 (pi.tups k3)), _, sts ++ [st], upd_same, FzAll.mv (tups_lst eD3) ?_, by rw [List.length_append, ls]; rfl, fun st' hst' => ?_⟩
      · rw [List.map_append]
        exact (fz.mv (pi.tups k3)).snoc fk
      · rcases List.mem_append.mp hst' with y | y
        · exact ho st' y
        · rw [List.mem_singleton.mp y]
          exact so
    · rintro H' ⟨pi, ki, hji, acc, sts, eD, fz, ls, ho⟩
      have hszi := ki _ _ hsa hsz
      have hD' : LstAt H' D (sts.map eK) := ⟨acc, eD, fz⟩
      refine ⟨_, rfl, _, rfl, _, rfl, _, rfl, _, rfl, sz, _, 1, _, rfl, rfl, SqT.of hszi, at1, a, x1, _, rfl, pi, by omega, by omega, by omega, fun m2 H3 m20 m21 p3 k3 => ?_⟩
      have hsz3 := k3 _ _ hsa hszi
      obtain ⟨dn, hdn⟩ := Int.eq_ofNat_of_zero_le (show 0 ≤ 1 + m2 by omega)
      have t3 := pi.tups k3
      have kk3 := ki.trans k3
      refine ⟨_, _, rfl, rfl, _, rfl, sz, _, 2, _, rfl, rfl, SqT.of hsz3, at2, a, lj, D, dn, x2, js, sts, _, by show [V.ref a, V.ref lj, V.ref D, V.int (1 + m2), V.int x2] = _; rw [hdn], p3, by omega, hja, nDa, hji.keep hja k3 t3, hD'.keep nDa k3 t3, fun st hst => ⟨(ho st hst).1, (ho st hst).2.2.1⟩, by omega, hj1, by omega, by omega, h21, h22, fun t l1 l2 fs ms H4 p4 k4 n1 n2 n12 et hl1 hl2 hf hna hm0 hme lf lm' => ?_⟩
      refine ⟨t, _, rfl, SqT.of et, rfl, _, _, rfl, _, _, rfl, rfl, ?_⟩
      have t4 := p3.tups k4
      have kk4 := kk3.trans k4
      have hsz4 := k4 _ _ hsa hsz3
      have d1 : l1 ≠ a := p3.ne n1
      have d2 : l2 ≠ a := p3.ne n2
      have hdm : dn * x2 ≤ 270 := Nat.le_trans (Nat.mul_le_mul (show dn ≤ 9 by omega) h22) (by decide)
      have hD4 := (hD'.keep nDa k3 t3).keep nDa k4 t4
      have hj4 := (hji.keep hja k3 t3).keep hja k4 t4
      refine ⟨_, rfl, _, rfl, _, rfl, _, rfl, _, rfl, sz, _, 5, _, rfl, rfl, SqT.of hsz4, at5, a, D, l2, x5, sts, ms, js.length, x2, _, rfl, p4, by omega, nDa, d2, hD4, hl2, fun st hst => (ho st hst).2.2.1, by omega, by omega, by omega, hm0, by omega, fun m hm' => ⟨(hme m hm').1, (hme m hm').2.1⟩, h5, fun pa fs2 H5 npa p5 k5 hpa hf2 lf2 => ?_⟩
      have t5 := p4.tups k5
      have kk5 := kk4.trans k5
      obtain ⟨xa, ea, fa⟩ := hl1.keep d1 k5 t5
      obtain ⟨xb, eb, fb⟩ := hpa
      have lxa : xa.length = fs.length := by rw [fa.len, List.length_map]
      have lxb : xb.length = fs2.length := by rw [fb.len, List.length_map]
      refine ⟨l1, pa, xa, xb, rfl, rfl, ea, eb, Nat.le_trans (show xa.length + xb.length ≤ 300 by omega) (by decide), fun pc hpc => ?_⟩
      have s6 := same_new (o := .lst (xa ++ xb)) hpc
      have e6 : (upd H5 pc (.lst (xa ++ xb))) pc = some (.lst (xa ++ xb)) := upd_same
      have f6 : FzAll (upd H5 pc (.lst (xa ++ xb))) (xa ++ xb) ((fs ++ fs2).map eF) := by
        rw [List.map_append]
        exact (fa.append fb).same s6
      have p6 := p5.same s6
      have kk6 := kk5.trans (sKeep s6)
      have hD6 := (hD4.keep nDa k5 t5).same s6
      have hj6 := (hj4.keep hja k5 t5).same s6
      have hsz6 := s6 _ _ (k5 _ _ hsa hsz4)
      have dc : pc ≠ a := p5.ne hpc
      generalize upd H5 pc (.lst (xa ++ xb)) = H6 at e6 f6 p6 kk6 hD6 hj6 hsz6
      have l6 : (xa ++ xb).length = fs.length + fs2.length := by rw [List.length_append, lxa, lxb]
      refine ⟨_, rfl, _, rfl, _, rfl, pc, _, rfl, .inl (SqL.of e6), a, pc, _, (xa ++ xb).length, _, rfl, p6, by omega, SqL.of e6, Nat.le_refl _, by omega, fun pp ys H7 npp p7 k7 ey ⟨rest, hperm⟩ ly => ?_⟩
      have hr0 : rest = [] := by
        have z := hperm.length_eq
        rw [List.length_append] at z
        exact List.eq_nil_of_length_eq_zero (by omega)
      rw [hr0, List.append_nil] at hperm
      obtain ⟨gs, hg, fg⟩ := FzAll.perm hperm (f6.mv (p6.tups k7))
      have lg := hg.length_eq
      rw [List.length_append] at lg
      have t7 := p6.tups k7
      have hsz7 := k7 _ _ hsa hsz6
      refine ⟨_, rfl, sz, _, 3, _, rfl, rfl, SqT.of hsz7, at3, _, rfl, sz, _, 4, _, rfl, rfl, SqT.of hsz7, at4, _, rfl, sz, _, 5, _, rfl, rfl, SqT.of hsz7, at5, pp, x3, x4, x5, gs, rfl, ⟨ys, ey, fg⟩, by omega, fun pf hs H8 s8 npf lf8 nd8 mem8 c1 c2 c3 len8 => ?_⟩
      intro d hd
      have s9 := same_new (o := .dK [(.inr "jobs", .ref lj), (.inr "facts", .ref pf), (.inr "stocks", .ref D)]) hd
      refine ⟨_, rfl, _, rfl, _, rfl, upd_same, [(.inr "jobs", .ref lj), (.inr "facts", .ref pf), (.inr "stocks", .ref D)], rfl, (by show 3 ≤ 15; decide), ?_⟩
      rw [upd_upd]
      have kk8 : Keep a H H8 := (kk6.trans k7).trans (sKeep s8)
      have p8 := p7.same s8
      refine q d lj pf D js hs sts _ (keep_none p8 kk8 hd) nj (keep_none p7 (kk6.trans k7) npf) D0 ((p8.same s9).le (by omega)) (kk8.trans (sKeep s9)) ⟨upd_same, ((hj6.keep hja k7 t7).same s8).same s9, lf8.same s9, ((hD6.keep nDa k7 t7).same s8).same s9⟩ ⟨jo, ho, nd8, fun f hf' => ?_, c1, c2, c3, by omega, by omega⟩
      rcases List.mem_append.mp ((hg.mem_iff).mp (mem8 f hf')) with y | y
      · exact hf f y
      · exact hf2 f y
end
end K04
namespace GD
open PySem PySem.Spec PyProof.Rows L2
/-! the texts of drawn books -/
def nT (i : Int) : Str := Str.ofString (toString i)
def pT (p : Int × Int) : Str := nT p.1 ++ " " ++ nT p.2
def sT (s : Stn) : Str := Txt.join " " (s.map pT)
def fT : Fact → Str
  | .let_ s => (("let" : Str) ++ " ") ++ sT s
  | .not_ s => (("not" : Str) ++ " ") ++ sT s
  | .as_ s t => (("as " : Str) ++ sT s ++ " to ") ++ sT t
def jT (js : List (Str × Str)) : Str := ("jobs " : Str) ++ Txt.join " " (js.map (·.1))
def mT (js : List (Str × Str)) : List Str := (js.filter fun j => decide (j.2 ≠ ("plain" : Str))).map fun j => (j.2 ++ " ") ++ j.1
def lT (js : List (Str × Str)) (fs : List Fact) : List Str := jT js :: mT js ++ fs.map fT
def bT (js : List (Str × Str)) (fs : List Fact) : Str := Txt.join "\n" (lT js fs)
theorem len_app (x y : Str) : (x ++ y).length = x.length + y.length := by
  rw [TL.len_tl, TL.tl_append, List.length_append, ← TL.len_tl, ← TL.len_tl]
theorem sum_len {ys : List Str} {k : Nat} (h : ∀ y ∈ ys, y.length ≤ k) : (ys.map (·.length)).sum ≤ k * ys.length := by
  induction ys with
  | nil => exact Nat.le_refl _
  | cons y r ih =>
    rw [List.map_cons, List.sum_cons, List.length_cons, Nat.mul_succ]
    have := ih fun z hz => h z (List.mem_cons_of_mem _ hz)
    have := h y List.mem_cons_self
    omega
theorem len_joinL (S : List Nat) : ∀ ps : List (List Nat), (TL.joinL S ps).length ≤ (ps.map (·.length)).sum + ps.length * S.length
  | [] => Nat.zero_le _
  | [p] => by
    show p.length ≤ _
    simp
  | p :: q :: r => by
    have z := len_joinL S (q :: r)
    show (p ++ (S ++ TL.joinL S (q :: r))).length ≤ _
    rw [List.length_append, List.length_append, List.map_cons, List.sum_cons, List.length_cons (a := p), Nat.succ_mul]
    omega
theorem len_join {y : Str} {ys : List Str} {k : Nat} (h : ∀ x ∈ ys, x.length ≤ k) : (Txt.join y ys).length ≤ (k + y.length) * ys.length := by
  rw [TL.join_eq, TL.len_tl, TL.tl_join]
  refine Nat.le_trans (len_joinL _ _) ?_
  rw [List.map_map, List.length_map, ← TL.len_tl, show ((fun x : List Nat => x.length) ∘ TL.tl) = (fun x : Str => x.length) from funext fun x => (TL.len_tl x).symm, Nat.add_mul, Nat.mul_comm ys.length]
  have := sum_len h
  omega
theorem len_nT {i : Int} (h0 : 0 ≤ i) (h1 : i ≤ 1000) : (nT i).length ≤ 4 := by
  obtain ⟨n, rfl⟩ := Int.eq_ofNat_of_zero_le h0
  rw [nT, TL.len_tl, TL.tl_num]
  exact TL.numL_len (by decide) (by omega)
theorem log_small {i : Int} (h0 : 0 ≤ i) (h1 : i ≤ 1000) : i.natAbs.log2 < 1920 := Nat.lt_of_le_of_lt (Nat.log2_le_self _) (by omega)
theorem small_len {n : Nat} (h : n ≤ 100000) : n ≤ sizeLine := Nat.le_trans h (by decide)
theorem len1 : (" " : Str).length = 1 := rfl
theorem len_pT {n : Int} {s : Stn} {p : Int × Int} (h : Bd n s) (hn : n ≤ 1000) (hp : p ∈ s) : (pT p).length ≤ 9 := by
  have z := h p hp
  rw [pT, len_app, len_app]
  have a := len_nT (i := p.1) (by omega) (by omega)
  have b := len_nT (i := p.2) (by omega) (by omega)
  have c : (" " : Str).length = 1 := rfl
  omega
theorem len_sT {n : Int} {s : Stn} (h : Bd n s) (hn : n ≤ 1000) : (sT s).length ≤ 10 * s.length := by
  have z := len_join (y := " ") (ys := s.map pT) (k := 9) fun x hx => by
    obtain ⟨p, hp, rfl⟩ := List.mem_map.mp hx
    exact len_pT h hn hp
  rw [List.length_map, show (" " : Str).length = 1 from rfl] at z
  exact z
def spStext : Sp := fun vs H Q _ => ∃ (v : V) (s : Stn) (n : Int), vs = [v] ∧ Fz H v (eS s) ∧ Bd n s ∧ n ≤ 1000 ∧ s.length ≤ 100 ∧ ∀ H', Same H H' → Q (.str (sT s)) H'
/-- a fact with bounds -/
def FactB (k : Nat) (n : Int) : Fact → Prop
  | .let_ s => s.length = k ∧ Bd n s
  | .not_ s => s.length = k ∧ Bd n s
  | .as_ s t => s.length = k ∧ Bd n s ∧ t.length = k ∧ Bd n t ∧ s ≠ t
theorem HeardOk.b {k : Nat} {n : Int} {sts : List Stk} {f : Fact} (h : HeardOk k n sts f) : FactB k n f := by
  cases f with
  | let_ s => exact ⟨h.1, h.2.1⟩
  | not_ s => exact ⟨h.1, h.2.1⟩
  | as_ s t => exact ⟨h.1, h.2.1, h.2.2.1, h.2.2.2.1, h.2.2.2.2.1⟩
theorem len_fT {k : Nat} {n : Int} {f : Fact} (h : FactB k n f) (hn : n ≤ 1000) : (fT f).length ≤ 20 * k + 7 := by
  cases f with
  | let_ s =>
    have z := len_sT h.2 hn
    rw [h.1] at z
    rw [fT, len_app, len_app, show ("let" : Str).length = 3 from rfl, show (" " : Str).length = 1 from rfl]
    omega
  | not_ s =>
    have z := len_sT h.2 hn
    rw [h.1] at z
    rw [fT, len_app, len_app, show ("not" : Str).length = 3 from rfl, show (" " : Str).length = 1 from rfl]
    omega
  | as_ s t =>
    have z := len_sT h.2.1 hn
    rw [h.1] at z
    have z2 := len_sT h.2.2.2.1 hn
    rw [h.2.2.1] at z2
    rw [fT, len_app, len_app, len_app, show ("as " : Str).length = 3 from rfl, show (" to " : Str).length = 4 from rfl]
    omega
def spFline : Sp := fun vs H Q _ => ∃ (v : V) (f : Fact) (k : Nat) (n : Int), vs = [v] ∧ Fz H v (eF f) ∧ FactB k n f ∧ n ≤ 1000 ∧ k ≤ 100 ∧ ∀ H', Same H H' → Q (.str (fT f)) H'
end GD
namespace K04
open PySem PySem.Spec PyProof.Rows L2 GD
section
variable {P : Program} {w : World} {K : PySem.W.Frag} {mg : Str → Option Value} {base : Heap}
abbrev NSt : List Str := ["_law_standing_here", "_law_begun", "_law_ended"]
theorem scSx : FnScope NSt ["_law_standing_here"] (defScope sStandingText) := ⟨rfl, rfl, rfl, by decide +kernel, rfl, by decide +kernel, by decide +kernel⟩
theorem ok_stext {f : Addr} {fd : FuncData} (F : Fun K "_law_standing_text" "_law_standing_text" sStandingText f fd) (nS : mg "str" = none) : FnOk P w K mg base CX0 1 f fd ["_law_standing_here"] spStext := by
  refine F.ok scSx (fun vs H Q E h => ?_) (fun cdv A outer s H vs Q E hr h => ?_)
  · obtain ⟨v, sn, n, rfl, _⟩ := h
    rfl
  · obtain ⟨v, sn, n, rfl, fz, hb, hn, hl, q⟩ := h
    refine ⟨_, pss_one (ps_ret (pe_bm PySem.F.plainAttrs_str PySem.F.slot_str_join PySem.F.type_str_join mt_join pe_str (pa_cons (pe_lc (own := [("_law_begun", 1), ("_law_ended", 2)]) (g := gTup K 2 (gCons (gName 1) (gCons (gName 2) gNil))) (tt := tYes) rfl scSx.nd (pi_tup (pv 0))
      (blkOk_by (N := NSt) (sc := defScope sStandingText) (by decide +kernel)) (fun _ _ _ _ _ => pg_tup rfl (pgs_cons (pg_name (i := 1) scSx.nd rfl (.inl rfl)) (pgs_cons (pg_name (i := 2) scSx.nd rfl (.inl rfl)) pgs_nil))) (fun _ _ _ _ _ => pts_nil)
      (fun _ _ _ _ _ => pe_op op_add_str (pe_op op_add_str (pe_callTy call_str_int (by rfl) nS (by decide +kernel) (pa_cons (pv 1) pa_nil)) pe_str) (pe_callTy call_str_int (by rfl) nS (by decide +kernel) (pa_cons (pv 2) pa_nil)))) pa_nil))), ?_⟩
    obtain ⟨a, xs, rfl, ha, fx⟩ := fz.t
    have lx : xs.length = sn.length := by rw [fx.len, List.length_map]
    refine ⟨rfl, _, rfl, a, rfl, ⟨_, SqT.of ha⟩, fun D hD => ?_⟩
    refine lc_tup (K := K) (a := a) (xs := xs) (fun i H' => Same H H' ∧ H' D = some (.lst (((sn.take i).map pT).map V.str))) ⟨same_new hD, upd_same⟩ (fun i H' _ ⟨s2, _⟩ => SqT.of (s2 _ _ ha)) ?_ ?_
    · rintro i x H' hx ⟨s1, eD⟩
      obtain ⟨p, hp, fp⟩ := fx.atM hx
      obtain ⟨b, y1, y2, rfl, hb1, f1, f2⟩ := fp.t2
      obtain rfl := f1.i
      obtain rfl := f2.i
      have hi : i < sn.length := (List.getElem?_eq_some_iff.mp hp).1
      have hpb := hb p (List.mem_of_getElem? hp)
      have l1 := len_nT (i := p.1) (by omega) (by omega)
      have l2 := len_nT (i := p.2) (by omega) (by omega)
      have l3 : (nT p.1 ++ " ").length ≤ 5 := by rw [len_app, len1]; omega
      refine ⟨b, _, rfl, SqT.of (s1 _ _ hb1), rfl, _, _, rfl, _, _, rfl, rfl, rfl, ?_⟩
      refine ⟨_, rfl, p.1, rfl, log_small (by omega) (by omega), nT p.1, " ", rfl, rfl, small_len (by rw [len1]; omega), _, rfl, p.2, rfl, log_small (by omega) (by omega), nT p.1 ++ " ", nT p.2, rfl, rfl, small_len (by omega), ?_⟩
      refine ⟨_, eD, ?_, same_upd s1 hD, ?_⟩
      · rw [List.length_map, List.length_map, List.length_take]
        exact Nat.lt_of_le_of_lt (Nat.min_le_left _ _) (Nat.lt_of_lt_of_le (show i < 101 by omega) (by decide))
      · rw [upd_same, take_next hp, List.map_append, List.map_append]
        rfl
    · rintro H' ⟨s1, eD⟩
      rw [lx, List.take_length] at eD
      refine ⟨_, D, _, rfl, rfl, .inl (SqL.of eD), ?_, q H' s1⟩
      have z := sum_len (ys := sn.map pT) (k := 9) fun x hx => by
        obtain ⟨p, hp, rfl⟩ := List.mem_map.mp hx
        exact len_pT hb hn hp
      rw [List.length_map] at z
      rw [List.length_map, len1]
      omega
end
end K04
namespace K04
open PySem PySem.Spec PyProof.Rows L2 GD
section
variable {P : Program} {w : World} {K : PySem.W.Frag} {mg : Str → Option Value} {base : Heap}
theorem scFl : FnScope ["_law_fact"] ["_law_fact"] (defScope sFactLine) := ⟨rfl, rfl, rfl, by decide +kernel, rfl, by decide +kernel, by decide +kernel⟩
theorem ok_fline {f fX : Addr} {fd fdX : FuncData} (F : Fun K "_law_fact_line" "_law_fact_line" sFactLine f fd) (nS : mg "str" = none) (AX : At K mg "_law_standing_text" sStandingText ["_law_standing_here"] fX fdX) : FnOk P w K mg base CX0 2 f fd ["_law_fact"] spFline := by
  have GX : FnOk P w K mg base CX0 1 fX fdX ["_law_standing_here"] spStext := ok_stext AX.F nS
  refine F.ok scFl (fun vs H Q E h => ?_) (fun cdv A outer s H vs Q E hr h => ?_)
  · obtain ⟨v, f, k, n, rfl, _⟩ := h
    rfl
  · obtain ⟨v, f, k, n, rfl, fz, hb, hn, hk, q⟩ := h
    refine ⟨_, pss_cons (ps_if (pt_cmpR op_eq (pe_ix ix_tup (pv 0) pe_int (fun _ _ => rfl)) pe_str (nomark _))
        (pss_one (ps_ret (pe_op op_add_str (pe_op op_add_str (pe_op op_add_str pe_str (pe_call GX hr rfl AX.g AX.F.kp AX.b .nil pass0 (pa_cons (pe_ix ix_tup (pv 0) pe_int (fun _ _ => rfl)) pa_nil))) pe_str) (pe_call GX hr rfl AX.g AX.F.kp AX.b .nil pass0 (pa_cons (pe_ix ix_tup (pv 0) pe_int (fun _ _ => rfl)) pa_nil))))) pss_nil)
      (pss_one (ps_ret (pe_op op_add_str (pe_op op_add_str (pe_ix ix_tup (pv 0) pe_int (fun _ _ => rfl)) pe_str) (pe_call GX hr rfl AX.g AX.F.kp AX.b .nil pass0 (pa_cons (pe_ix ix_tup (pv 0) pe_int (fun _ _ => rfl)) pa_nil))))), ?_⟩
    cases f with
    | let_ s =>
      obtain ⟨b, x, y, rfl, e, h1, h2⟩ := fz.t2
      obtain rfl := h1.s
      have ls := len_sT hb.2 hn
      rw [hb.1] at ls
      refine ⟨_, rfl, b, _, 0, _, rfl, rfl, SqT.of e, at0, rfl, ?_⟩
      refine ⟨_, rfl, ?_⟩
      refine iteF ?_
      refine ⟨_, rfl, b, _, 0, _, rfl, rfl, SqT.of e, at0, _, _, rfl, rfl, by decide, ?_⟩
      refine ⟨_, rfl, b, _, 1, _, rfl, rfl, SqT.of e, at1, y, s, n, rfl, h2, hb.2, hn, by rw [hb.1]; exact hk, fun H' s' => ?_⟩
      exact ⟨_, _, rfl, rfl, small_len (by rw [len_app, len1, show ("let" : Str).length = 3 from rfl]; omega), q H' s'⟩
    | not_ s =>
      obtain ⟨b, x, y, rfl, e, h1, h2⟩ := fz.t2
      obtain rfl := h1.s
      have ls := len_sT hb.2 hn
      rw [hb.1] at ls
      refine ⟨_, rfl, b, _, 0, _, rfl, rfl, SqT.of e, at0, rfl, ?_⟩
      refine ⟨_, rfl, ?_⟩
      refine iteF ?_
      refine ⟨_, rfl, b, _, 0, _, rfl, rfl, SqT.of e, at0, _, _, rfl, rfl, by decide, ?_⟩
      refine ⟨_, rfl, b, _, 1, _, rfl, rfl, SqT.of e, at1, y, s, n, rfl, h2, hb.2, hn, by rw [hb.1]; exact hk, fun H' s' => ?_⟩
      exact ⟨_, _, rfl, rfl, small_len (by rw [len_app, len1, show ("not" : Str).length = 3 from rfl]; omega), q H' s'⟩
    | as_ s t =>
      obtain ⟨b, x, y, z, rfl, e, h1, h2, h3⟩ := fz.t3
      obtain rfl := h1.s
      obtain ⟨k1, b1, k2, b2, ne⟩ := hb
      have ls := len_sT b1 hn
      rw [k1] at ls
      have lt := len_sT b2 hn
      rw [k2] at lt
      have la : (("as " : Str) ++ sT s).length = 3 + (sT s).length := by rw [len_app, show ("as " : Str).length = 3 from rfl]
      have lb : (("as " : Str) ++ sT s ++ " to ").length = 7 + (sT s).length := by rw [len_app, la, show (" to " : Str).length = 4 from rfl]; omega
      refine ⟨_, rfl, b, _, 0, _, rfl, rfl, SqT.of e, at0, rfl, ?_⟩
      refine ⟨_, rfl, ?_⟩
      refine iteT ?_
      refine ⟨_, rfl, b, _, 1, _, rfl, rfl, SqT.of e, at1, y, s, n, rfl, h2, b1, hn, by rw [k1]; exact hk, fun H1 s1 => ?_⟩
      refine ⟨_, _, rfl, rfl, small_len (by rw [show ("as " : Str).length = 3 from rfl]; omega), _, _, rfl, rfl, small_len (by rw [la, show (" to " : Str).length = 4 from rfl]; omega), ?_⟩
      refine ⟨_, rfl, b, _, 2, _, rfl, rfl, SqT.of (s1 _ _ e), at2, z, t, n, rfl, h3.same s1, b2, hn, by rw [k2]; exact hk, fun H2 s2 => ?_⟩
      exact ⟨_, _, rfl, rfl, small_len (by rw [lb]; omega), q H2 (s1.trans s2)⟩
end
end K04
namespace GD
open PySem PySem.Spec PyProof.Rows L2
/-- a dict with jobs and facts -/
def Lines (H : Hp) (d : Addr) (js : List (Str × Str)) (fs : List Fact) : Prop := ∃ kvs lj lf, H d = some (.dK kvs) ∧ valV kvs (.inr "jobs") = some (.ref lj) ∧ valV kvs (.inr "facts") = some (.ref lf) ∧ LstAt H lj (js.map eE) ∧ LstAt H lf (fs.map eF)
structure LinesOk (k : Nat) (n : Int) (js : List (Str × Str)) (fs : List Fact) : Prop where
  j : ∀ j ∈ js, j.1.length ≤ 100 ∧ j.2.length ≤ 100
  jl : js.length ≤ 10
  f : ∀ f ∈ fs, FactB k n f
  fl : fs.length ≤ 1000
  n : n ≤ 1000
  k : k ≤ 100
theorem Lines.same {H H' : Hp} {d : Addr} {js : List (Str × Str)} {fs : List Fact} (s : Same H H') (h : Lines H d js fs) : Lines H' d js fs := by
  obtain ⟨kvs, lj, lf, e, a, b, x, y⟩ := h
  exact ⟨kvs, lj, lf, s _ _ e, a, b, x.same s, y.same s⟩
def spLines : Sp := fun vs H Q _ => ∃ (d : Addr) (js : List (Str × Str)) (fs : List Fact) (k : Nat) (n : Int), vs = [.ref d] ∧ Lines H d js fs ∧ LinesOk k n js fs ∧ ∀ p H', H p = none → Same H H' → H' p = some (.lst ((lT js fs).map V.str)) → Q (.ref p) H'
def spTextB : Sp := fun vs H Q _ => ∃ (d : Addr) (js : List (Str × Str)) (fs : List Fact) (k : Nat) (n : Int), vs = [.ref d] ∧ Lines H d js fs ∧ LinesOk k n js fs ∧ ∀ H', Same H H' → Q (.str (bT js fs)) H'
theorem mT_take {js : List (Str × Str)} {i : Nat} {j : Str × Str} (h : js[i]? = some j) : mT (js.take (i + 1)) = mT (js.take i) ++ if j.2 = ("plain" : Str) then [] else [(j.2 ++ " ") ++ j.1] := by
  unfold mT
  rw [take_next h, List.filter_append, List.map_append, List.filter_cons]
  by_cases c : j.2 = ("plain" : Str)
  · rw [if_pos c, if_neg (by simp [c])]
    rfl
  · rw [if_neg c, if_pos (by simp [c])]
    rfl
theorem len_mT {js : List (Str × Str)} (h : ∀ j ∈ js, j.1.length ≤ 100 ∧ j.2.length ≤ 100) : ∀ x ∈ mT js, x.length ≤ 201 := fun x hx => by
  obtain ⟨j, hj, rfl⟩ := List.mem_map.mp hx
  have z := h j ((List.mem_filter.mp hj).1)
  rw [len_app, len_app, len1]
  omega
theorem cnt_mT (js : List (Str × Str)) : (mT js).length ≤ js.length := by
  unfold mT
  rw [List.length_map]
  exact List.length_filter_le _ _
theorem len_jT {js : List (Str × Str)} (h : ∀ j ∈ js, j.1.length ≤ 100 ∧ j.2.length ≤ 100) : (jT js).length ≤ 5 + 101 * js.length := by
  have z := len_join (y := " ") (ys := js.map (·.1)) (k := 100) fun x hx => by
    obtain ⟨p, hp, rfl⟩ := List.mem_map.mp hx
    exact (h p hp).1
  rw [List.length_map, len1] at z
  rw [jT, len_app, show ("jobs " : Str).length = 5 from rfl]
  omega
end GD
namespace K04
open PySem PySem.Spec PyProof.Rows L2 GD
section
variable {P : Program} {w : World} {K : PySem.W.Frag} {mg : Str → Option Value} {base : Heap}
abbrev NLi : List Str := ["_law_lore_here", "_law_found", "_law_name", "_law_manner", "_law_fact"]
theorem scLi : FnScope NLi ["_law_lore_here"] (defScope sLines) := ⟨rfl, rfl, rfl, by decide +kernel, rfl, by decide +kernel, by decide +kernel⟩
theorem ok_lines {f fX fY : Addr} {fd fdX fdY : FuncData} (F : Fun K "_law_lines" "_law_lines" sLines f fd) (nS : mg "str" = none) (AX : At K mg "_law_standing_text" sStandingText ["_law_standing_here"] fX fdX) (AY : At K mg "_law_fact_line" sFactLine ["_law_fact"] fY fdY) :
    FnOk P w K mg base CX0 3 f fd ["_law_lore_here"] spLines := by
  have GY : FnOk P w K mg base CX0 2 fY fdY ["_law_fact"] spFline := ok_fline AY.F nS AX
  refine F.ok scLi (fun vs H Q E h => ?_) (fun cdv A outer s H vs Q E hr h => ?_)
  · obtain ⟨d, js, fs, k, n, rfl, _⟩ := h
    rfl
  · obtain ⟨d, js, fs, k, n, rfl, ⟨kvs, lj, lf, ed, vj, vf, hj, hf⟩, ok, q⟩ := h
    refine ⟨_, pss_cons (ps_set (i := 1) scLi.nd rfl (.inl rfl) (pe_lst (pa_cons (pe_op op_add_str pe_str (pe_bm PySem.F.plainAttrs_str PySem.F.slot_str_join PySem.F.type_str_join mt_join pe_str (pa_cons (pe_lc (own := [("_law_name", 2), ("_law_manner", 3)]) (g := gTup K 2 (gCons (gName 2) (gCons (gName 3) gNil))) (tt := tYes) rfl scLi.nd (pi_list (pe_dget (u1 hr) (pv 0) pe_str (fun _ _ => rfl)))
        (blkOk_by (N := NLi) (sc := defScope sLines) (by decide +kernel)) (fun _ _ _ _ _ => pg_tup rfl (pgs_cons (pg_name (i := 2) scLi.nd rfl (.inl rfl)) (pgs_cons (pg_name (i := 3) scLi.nd rfl (.inl rfl)) pgs_nil))) (fun _ _ _ _ _ => pts_nil) (fun _ _ _ _ _ => pv 2)) pa_nil))) pa_nil)))
      (pss_cons (ps_expr (pe_bm PySem.F.plainAttrs_list PySem.F.slot_list_extend PySem.F.type_list_extend mt_extend (pv 1) (pa_cons (pe_lc (own := [("_law_name", 2), ("_law_manner", 3)]) (g := gTup K 2 (gCons (gName 2) (gCons (gName 3) gNil))) rfl scLi.nd (pi_list (pe_dget (u1 hr) (pv 0) pe_str (fun _ _ => rfl)))
        (blkOk_by (N := NLi) (sc := defScope sLines) (by decide +kernel)) (fun _ _ _ _ _ => pg_tup rfl (pgs_cons (pg_name (i := 2) scLi.nd rfl (.inl rfl)) (pgs_cons (pg_name (i := 3) scLi.nd rfl (.inl rfl)) pgs_nil))) (fun _ _ _ _ _ => pts_one (pt_cmpR op_ne (pv 3) pe_str (nomark _))) (fun _ _ _ _ _ => pe_op op_add_str (pe_op op_add_str (pv 3) pe_str) (pv 2))) pa_nil)))
      (pss_one (ps_ret (pe_op op_cat (pv 1) (pe_lc (own := [("_law_fact", 4)]) (g := gName 4) (tt := tYes) rfl scLi.nd (pi_list (pe_dget (u1 hr) (pv 0) pe_str (fun _ _ => rfl)))
        (blkOk_by (N := NLi) (sc := defScope sLines) (by decide +kernel)) (fun _ _ _ _ _ => pg_name (i := 4) scLi.nd rfl (.inl rfl)) (fun _ _ _ _ _ => pts_nil) (fun _ _ _ _ _ => pe_call GY hr rfl AY.g AY.F.kp AY.b .nil pass0 (pa_cons (pv 4) pa_nil))))))), ?_⟩
    obtain ⟨xj, ej, fj⟩ := hj
    obtain ⟨xf, ef, ff⟩ := hf
    have lxj : xj.length = js.length := by rw [fj.len, List.length_map]
    have lxf : xf.length = fs.length := by rw [ff.len, List.length_map]
    have okl := ok.jl
    have okf := ok.fl
    have okk := ok.k
    have okn := ok.n
    have dg1 : ∀ {H' : Hp}, Same H H' → DGet H' d (.str "jobs") (some (.ref lj)) := fun s => by
      have z := DGet.k (k := .inr "jobs") (s _ _ ed)
      rw [vj] at z
      exact z
    have dg2 : ∀ {H' : Hp}, Same H H' → DGet H' d (.str "facts") (some (.ref lf)) := fun s => by
      have z := DGet.k (k := .inr "facts") (s _ _ ed)
      rw [vf] at z
      exact z
    refine ⟨rfl, _, rfl, d, _, rfl, dg1 (Same.refl H), lj, rfl, ⟨_, SqL.of ej⟩, fun D hD => ?_⟩
    refine lc_list (K := K) (a := lj) (xs := xj) (fun i H' => Same H H' ∧ H' D = some (.lst (((js.take i).map (·.1)).map V.str))) ⟨same_new hD, upd_same⟩ (fun i H' _ ⟨s1, _⟩ => SqL.of (s1 _ _ ej)) ?_ ?_
    · rintro i x H' hx ⟨s1, eD⟩
      obtain ⟨j, hj, fj'⟩ := fj.atM hx
      obtain ⟨b, y1, y2, rfl, hb1, f1, f2⟩ := fj'.t2
      obtain rfl := f1.s
      obtain rfl := f2.s
      have hi : i < js.length := (List.getElem?_eq_some_iff.mp hj).1
      refine ⟨b, _, rfl, SqT.of (s1 _ _ hb1), rfl, _, _, rfl, _, _, rfl, rfl, rfl, _, rfl, ?_⟩
      refine ⟨_, eD, ?_, same_upd s1 hD, ?_⟩
      · rw [List.length_map, List.length_map, List.length_take]
        exact Nat.lt_of_le_of_lt (Nat.min_le_left _ _) (Nat.lt_of_lt_of_le (show i < 101 by omega) (by decide))
      · rw [upd_same, take_next hj, List.map_append, List.map_append]
        rfl
    · rintro H' ⟨s1, eD⟩
      rw [lxj, List.take_length] at eD
      have zs := sum_len (ys := js.map (·.1)) (k := 100) fun x hx => by
        obtain ⟨j, hj, rfl⟩ := List.mem_map.mp hx
        exact (ok.j j hj).1
      rw [List.length_map] at zs
      have zj := len_jT ok.j
      rw [jT, len_app, show ("jobs " : Str).length = 5 from rfl] at zj
      refine ⟨_, D, _, rfl, rfl, .inl (SqL.of eD), by rw [List.length_map, len1]; omega, _, _, rfl, rfl, small_len (by rw [show ("jobs " : Str).length = 5 from rfl]; omega), ?_⟩
      refine ⟨(by show 1 ≤ sizeLine; decide), fun l hl => ?_⟩
      have sl := same_new (o := .lst [V.str (jT js)]) hl
      have el : (upd H' l (.lst [V.str (jT js)])) l = some (.lst [V.str (jT js)]) := upd_same
      have s2 : Same H (upd H' l (.lst [V.str (jT js)])) := s1.trans sl
      have l0 : H l = none := s1.free hl
      show tSeq _ _ _ _ (upd H' l (.lst [V.str (jT js)]))
      generalize upd H' l (.lst [V.str (jT js)]) = H2 at el s2
      refine ⟨_, rfl, .inl ⟨rfl, _, SqL.of el⟩, _, rfl, d, _, rfl, dg1 s2, lj, rfl, ⟨_, SqL.of (s2 _ _ ej)⟩, fun D2 hD2 => ?_⟩
      refine lc_list (K := K) (a := lj) (xs := xj) (fun i H' => Same H2 H' ∧ H' D2 = some (.lst ((mT (js.take i)).map V.str))) ⟨same_new hD2, upd_same⟩ (fun i H' _ ⟨s3, _⟩ => SqL.of (s3 _ _ (s2 _ _ ej))) ?_ ?_
      · rintro i x H' hx ⟨s3, eD2⟩
        obtain ⟨j, hj, fj'⟩ := fj.atM hx
        obtain ⟨b, y1, y2, rfl, hb1, f1, f2⟩ := fj'.t2
        obtain rfl := f1.s
        obtain rfl := f2.s
        have hi : i < js.length := (List.getElem?_eq_some_iff.mp hj).1
        have hjl := ok.j j (List.mem_of_getElem? hj)
        refine ⟨b, _, rfl, SqT.of (s3 _ _ (s2 _ _ hb1)), rfl, _, _, rfl, _, _, rfl, rfl, ?_⟩
        refine ⟨rfl, _, rfl, rfl, ?_⟩
        refine ⟨_, rfl, ?_⟩
        rw [mT_take hj]
        by_cases c : j.2 = ("plain" : Str)
        · rw [if_pos c, List.append_nil, show (!decide (V.str j.2 = V.str ("plain" : Str))) = false by rw [c]; simp]
          refine iteF ?_
          exact ⟨s3, eD2⟩
        · rw [if_neg c, show (!decide (V.str j.2 = V.str ("plain" : Str))) = true by simp [c]]
          refine iteT ?_
          refine ⟨_, rfl, _, _, rfl, rfl, small_len (by rw [len1]; omega), _, rfl, _, _, rfl, rfl, small_len (by rw [len_app, len1]; omega), ?_⟩
          refine ⟨_, eD2, ?_, same_upd s3 hD2, ?_⟩
          · rw [List.length_map]
            exact Nat.lt_of_le_of_lt (cnt_mT _) (by rw [List.length_take]; exact Nat.lt_of_le_of_lt (Nat.min_le_left _ _) (Nat.lt_of_lt_of_le (show i < 101 by omega) (by decide)))
          · rw [upd_same, List.map_append]
            rfl
      · rintro H3 ⟨s3, eD2⟩
        rw [lxj, List.take_length] at eD2
        have el3 := s3 _ _ el
        have cm := cnt_mT js
        refine ⟨l, D2, _, _, rfl, rfl, el3, eD2, small_len (by rw [List.length_singleton, List.length_map]; omega), ?_⟩
        have s4 : Same H (upd H3 l (.lst ([V.str (jT js)] ++ (mT js).map V.str))) := same_upd (s2.trans s3) l0
        have e4 : (upd H3 l (.lst ([V.str (jT js)] ++ (mT js).map V.str))) l = _ := upd_same
        generalize upd H3 l (.lst ([V.str (jT js)] ++ (mT js).map V.str)) = H4 at s4 e4
        refine ⟨_, rfl, _, rfl, d, _, rfl, dg2 s4, lf, rfl, ⟨_, SqL.of (s4 _ _ ef)⟩, fun D3 hD3 => ?_⟩
        refine lc_list (K := K) (a := lf) (xs := xf) (fun i H' => Same H4 H' ∧ H' D3 = some (.lst (((fs.take i).map fT).map V.str))) ⟨same_new hD3, upd_same⟩ (fun i H' _ ⟨s5, _⟩ => SqL.of (s5 _ _ (s4 _ _ ef))) ?_ ?_
        · rintro i x H' hx ⟨s5, eD3⟩
          obtain ⟨f0, hf0, fz⟩ := ff.atM hx
          have hi : i < fs.length := (List.getElem?_eq_some_iff.mp hf0).1
          refine ⟨rfl, _, rfl, x, f0, k, n, rfl, fz.same (s4.trans s5), ok.f f0 (List.mem_of_getElem? hf0), okn, okk, fun H6 s6 => ?_⟩
          refine ⟨_, s6 _ _ eD3, ?_, same_upd (s5.trans s6) hD3, ?_⟩
          · rw [List.length_map, List.length_map, List.length_take]
            exact Nat.lt_of_le_of_lt (Nat.min_le_left _ _) (Nat.lt_of_lt_of_le (show i < 1001 by omega) (by decide))
          · rw [upd_same, take_next hf0, List.map_append, List.map_append]
            rfl
        · rintro H5 ⟨s5, eD3⟩
          rw [lxf, List.take_length] at eD3
          refine ⟨l, D3, _, _, rfl, rfl, s5 _ _ e4, eD3, small_len (by rw [List.length_append, List.length_singleton, List.length_map, List.length_map, List.length_map]; omega), fun p hp => ?_⟩
          refine q p _ ((s4.trans s5).free hp) ((s4.trans s5).trans (same_new hp)) ?_
          rw [upd_same, lT, List.map_append, List.map_cons]
          rfl
end
end K04
namespace GD
open PySem PySem.Spec PyProof.Rows L2
theorem len_lT {k : Nat} {n : Int} {js : List (Str × Str)} {fs : List Fact} (ok : LinesOk k n js fs) : ∀ x ∈ lT js fs, x.length ≤ 2007 := fun x hx => by
  have okl := ok.jl
  have okk := ok.k
  rcases List.mem_append.mp hx with h | h
  · rcases List.mem_cons.mp h with h | h
    · rw [h]
      have z := len_jT ok.j
      omega
    · have z := len_mT ok.j x h
      omega
  · obtain ⟨f, hf, rfl⟩ := List.mem_map.mp h
    have z := len_fT (ok.f f hf) ok.n
    omega
theorem cnt_lT {k : Nat} {n : Int} {js : List (Str × Str)} {fs : List Fact} (ok : LinesOk k n js fs) : (lT js fs).length ≤ 1011 := by
  have okl := ok.jl
  have okf := ok.fl
  have z := cnt_mT js
  rw [lT, List.length_append, List.length_cons, List.length_map]
  omega
theorem len_bT {k : Nat} {n : Int} {js : List (Str × Str)} {fs : List Fact} (ok : LinesOk k n js fs) : (bT js fs).length ≤ 2030088 := by
  have z := len_join (y := "\n") (len_lT ok)
  have c := cnt_lT ok
  rw [show ("\n" : Str).length = 1 from rfl] at z
  refine Nat.le_trans z (Nat.le_trans (Nat.mul_le_mul_left _ c) (by decide))
end GD
namespace K04
open PySem PySem.Spec PyProof.Rows L2 GD
section
variable {P : Program} {w : World} {K : PySem.W.Frag} {mg : Str → Option Value} {base : Heap}
theorem scTx : FnScope ["_law_lore_here"] ["_law_lore_here"] (defScope sText) := ⟨rfl, rfl, rfl, by decide +kernel, rfl, by decide +kernel, by decide +kernel⟩
theorem ok_text {f fX fY fZ : Addr} {fd fdX fdY fdZ : FuncData} (F : Fun K "_law_text" "_law_text" sText f fd) (nS : mg "str" = none) (AX : At K mg "_law_standing_text" sStandingText ["_law_standing_here"] fX fdX) (AY : At K mg "_law_fact_line" sFactLine ["_law_fact"] fY fdY)
    (AZ : At K mg "_law_lines" sLines ["_law_lore_here"] fZ fdZ) : FnOk P w K mg base CX0 4 f fd ["_law_lore_here"] spTextB := by
  have GZ : FnOk P w K mg base CX0 3 fZ fdZ ["_law_lore_here"] spLines := ok_lines AZ.F nS AX AY
  refine F.ok scTx (fun vs H Q E h => ?_) (fun cdv A outer s H vs Q E hr h => ?_)
  · obtain ⟨d, js, fs, k, n, rfl, _⟩ := h
    rfl
  · obtain ⟨d, js, fs, k, n, rfl, hL, ok, q⟩ := h
    refine ⟨_, pss_one (ps_ret (pe_bm PySem.F.plainAttrs_str PySem.F.slot_str_join PySem.F.type_str_join mt_join pe_str (pa_cons (pe_call GZ hr rfl AZ.g AZ.F.kp AZ.b .nil pass0 (pa_cons (pv 0) pa_nil)) pa_nil))), ?_⟩
    refine ⟨rfl, _, rfl, d, js, fs, k, n, rfl, hL, ok, fun p H' np s' ep => ?_⟩
    have zs := sum_len (len_lT ok)
    have c := cnt_lT ok
    exact ⟨_, p, _, rfl, rfl, .inl (SqL.of ep), by rw [show ("\n" : Str).length = 1 from rfl]; omega, q H' s'⟩
end
end K04
namespace GD
open PySem PySem.Spec PyProof.Rows L2
/-- a op1 b op2 c op3 d -/
def tChain3 (r r' r'' : R2) (ta tb tc td : TE) : TE := fun σ H Q => ta σ H fun x H1 => tb σ H1 fun y H2 => r x y H2 fun z H3 => ∃ k, z = .bl k ∧
  (if k = true then tc σ H3 fun u H4 => r' y u H4 fun z' H5 => ∃ k', z' = .bl k' ∧ (if k' = true then td σ H5 fun v H6 => r'' u v H6 Q else Q (.bl false) H5) else Q (.bl false) H3)
section
variable {X : Cx} {a b c d : Expr} {ta tb tc td : TE} {pos : Pos}
theorem pe_chain3 {op op' op'' : CmpOp} {r r' r'' : R2} (ho : OpR X (compareOp op) r) (ho' : OpR X (compareOp op') r') (ho'' : OpR X (compareOp op'') r'') (ha : PE X a ta) (hb : PE X b tb) (hc : PE X c tc) (hd : PE X d td)
    (hm : lastMarks [op, op', op''] [b, c, d] = false := by with_unfolding_all rfl) : PE X (.Compare a [op, op', op''] [b, c, d] pos) (tChain3 r r' r'' ta tb tc td) := by
  refine ⟨fun pins s σ H Q I h => ?_⟩
  refine Compare_chain (thn (ha.run pins s σ H _ I h) fun v s1 ⟨x, H1, I1, r1, q1⟩ => chain_link (thn (hb.run pins s1 σ H1 _ I1 q1) fun u s2 ⟨y, H2, I2, r2, q2⟩ =>
    thn (ho pins s2 σ H2 x y v u _ I2 r1 r2 q2) fun e s3 ⟨z, H3, I3, r3, k, ek, q3⟩ => ?_)) hm
  subst ek
  cases r3
  refine wpAny_truthy_bool ?_
  cases k with
  | false => exact ite_ff ⟨.bl false, H3, I3, rfl, q3⟩
  | true =>
    refine ite_tt (chain_link (thn (hc.run pins s3 σ H3 _ I3 q3) fun w' s4 ⟨z', H4, I4, r4, q4⟩ => thn (ho' pins s4 σ H4 y z' u w' _ I4 r2 r4 q4) fun e' s5 ⟨z5, H5, I5, r5, k', ek', q5⟩ => ?_))
    subst ek'
    cases r5
    refine wpAny_truthy_bool ?_
    cases k' with
    | false => exact ite_ff ⟨.bl false, H5, I5, rfl, q5⟩
    | true => exact ite_tt (chain_last (thn (hd.run pins s5 σ H5 _ I5 q5) fun w2 s6 ⟨z6, H6, I6, r6, q6⟩ => ho'' pins s6 σ H6 z' z6 w' w2 Q I6 r4 r6 q6))
end
/-! what the forms tell -/
def okQ (p : Int × Int) : Bool := decide (0 ≤ p.2) && (decide (p.2 ≤ p.1) && decide (p.1 ≤ 40))
def okN (k : Nat) (s : Stn) : Bool := decide (s.length = k) && s.all okQ
def okT (k : Nat) : Fact → Bool
  | .let_ s => okN k s
  | .not_ s => okN k s
  | .as_ s t => okN k s && okN k t && !PyData.eqv (eS s) (eS t)
def spInt : Sp := fun vs H Q _ => ∃ i : Int, vs = [.int i] ∧ Q (.bl true) H
def spNumb : Sp := fun vs H Q _ => ∃ i m : Int, vs = [.int i, .int m] ∧ Q (.bl (decide (0 ≤ i ∧ i < m))) H
def spWord (K : PySem.W.Frag) : Sp := fun vs H Q _ => ∃ (x : Str) (w : Addr) (ws : List Str), vs = [.str x, .ref w] ∧ (SqL K H w (ws.map V.str) ∨ SqT K H w (ws.map V.str)) ∧ Q (.bl (decide (x ∈ ws))) H
def spPair : Sp := fun vs H Q _ => ∃ (v : V) (p : Int × Int), vs = [v] ∧ Fz H v (eP p) ∧ Q (.bl (okQ p)) H
def spStn : Sp := fun vs H Q _ => ∃ (v : V) (s : Stn) (k : Nat), vs = [v, .int k] ∧ Fz H v (eS s) ∧ s.length ≤ 1000 ∧ ∀ H', Same H H' → Q (.bl (okN k s)) H'
def spFact : Sp := fun vs H Q _ => ∃ (v : V) (f : Fact) (k : Nat), vs = [v, .int k] ∧ Fz H v (eF f) ∧ (∀ s t, f = .as_ s t → s.length ≤ 1000 ∧ t.length ≤ 1000) ∧ (∀ s, f = .let_ s ∨ f = .not_ s → s.length ≤ 1000) ∧ ∀ H', Same H H' → Q (.bl (okT k f)) H'
theorem inV_strs {x : Str} {ws : List Str} : inV (.str x) (ws.map V.str) = decide (x ∈ ws) := by
  unfold inV
  rw [List.any_map]
  induction ws with
  | nil => rfl
  | cons w r ih =>
    rw [List.any_cons, ih]
    by_cases h : x = w
    · subst h
      simp [eqV]
    · have h2 : ¬ w = x := fun e => h e.symm
      simp [h, h2, eqV]
end GD
namespace K04
open PySem PySem.Spec PyProof.Rows L2 GD
abbrev pIsInt : Stmt := top 12
abbrev pIsNumb : Stmt := top 13
abbrev pIsWord : Stmt := top 14
abbrev pIsName : Stmt := top 16
abbrev pIsPair : Stmt := top 17
abbrev pIsStn : Stmt := top 18
abbrev pIsFact : Stmt := top 19
section
variable {P : Program} {w : World} {K : PySem.W.Frag} {mg : Str → Option Value} {base : Heap}
structure Forms1 (mg : Str → Option Value) : Prop where
  isi : mg "isinstance" = none
  int : mg "int" = none
  bool : mg "bool" = none
  str : mg "str" = none
  tup : mg "tuple" = none
  len : mg "len" = none
  all : mg "all" = none
  most : ∃ u, mg "MOST_COUNTED" = some u ∧ RelV (.int 40) u
theorem scI1 : FnScope ["value"] ["value"] (defScope pIsInt) := ⟨rfl, rfl, rfl, by decide +kernel, rfl, by decide +kernel, by decide +kernel⟩
theorem ok_isint {f : Addr} {fd : FuncData} (F : Fun K "is_integer" "is_integer" pIsInt f fd) (S : Forms1 mg) : FnOk P w K mg base CX0 1 f fd ["value"] spInt := by
  refine F.ok scI1 (fun vs H Q E h => ?_) (fun cdv A outer s H vs Q E hr h => ?_)
  · obtain ⟨i, rfl, _⟩ := h
    rfl
  · obtain ⟨i, rfl, q⟩ := h
    refine ⟨_, pss_one (ps_ret (pe_and (pe_callB call_isi (by rfl) S.isi (by decide +kernel) (pa_cons (pv 0) (pa_cons (pe_bltn (v := .ty "int") (by rfl) S.int PyProof.Rows.Boot.«int» rfl) pa_nil)))
      (pe_one (pe_not (pe_callB call_isi (by rfl) S.isi (by decide +kernel) (pa_cons (pv 0) (pa_cons (pe_bltn (v := .ty "bool") (by rfl) S.bool PyProof.Rows.Boot.«bool» rfl) pa_nil))))))), ?_⟩
    refine ⟨_, rfl, _, _, _, _, true, rfl, .ty _, .base (.int _), kit_ty (by decide +kernel), _, rfl, iteT ?_⟩
    exact ⟨_, rfl, _, _, _, _, false, rfl, .ty _, .base (.int _), kit_ty (by decide +kernel), _, rfl, q⟩
theorem scI2 : FnScope ["value", "many"] ["value", "many"] (defScope pIsNumb) := ⟨rfl, rfl, rfl, by decide +kernel, rfl, by decide +kernel, by decide +kernel⟩
theorem ok_isnumb {f fI : Addr} {fd fdI : FuncData} (F : Fun K "is_number" "is_number" pIsNumb f fd) (S : Forms1 mg) (AI : At K mg "is_integer" pIsInt ["value"] fI fdI) : FnOk P w K mg base CX0 2 f fd ["value", "many"] spNumb := by
  have GI : FnOk P w K mg base CX0 1 fI fdI ["value"] spInt := ok_isint AI.F S
  refine F.ok scI2 (fun vs H Q E h => ?_) (fun cdv A outer s H vs Q E hr h => ?_)
  · obtain ⟨i, m, rfl, _⟩ := h
    rfl
  · obtain ⟨i, m, rfl, q⟩ := h
    refine ⟨_, pss_one (ps_ret (pe_and (pe_call GI hr rfl AI.g AI.F.kp AI.b .nil pass0 (pa_cons (pv 0) pa_nil)) (pe_one (pe_chain op_le op_lt pe_int (pv 0) (pv 1))))), ?_⟩
    refine ⟨_, rfl, i, rfl, _, rfl, iteT ?_⟩
    refine ⟨_, rfl, _, _, rfl, rfl, _, rfl, ?_⟩
    by_cases h : 0 ≤ i
    · rw [decide_eq_true h]
      refine iteT ⟨_, rfl, _, _, rfl, rfl, ?_⟩
      rw [show decide (0 ≤ i ∧ i < m) = decide (i < m) by simp [h]] at q
      exact q
    · rw [decide_eq_false h]
      refine iteF ?_
      rw [decide_eq_false (show ¬ (0 ≤ i ∧ i < m) from fun z => h z.1)] at q
      exact q
theorem scI3 : FnScope ["value", "words"] ["value", "words"] (defScope pIsWord) := ⟨rfl, rfl, rfl, by decide +kernel, rfl, by decide +kernel, by decide +kernel⟩
theorem ok_isword {f : Addr} {fd : FuncData} (F : Fun K "is_word" "is_word" pIsWord f fd) (S : Forms1 mg) : FnOk P w K mg base CX0 1 f fd ["value", "words"] (spWord K) := by
  refine F.ok scI3 (fun vs H Q E h => ?_) (fun cdv A outer s H vs Q E hr h => ?_)
  · obtain ⟨x, u, ws, rfl, _⟩ := h
    rfl
  · obtain ⟨x, u, ws, rfl, hw, q⟩ := h
    refine ⟨_, pss_one (ps_ret (pe_and (pe_callB call_isi (by rfl) S.isi (by decide +kernel) (pa_cons (pv 0) (pa_cons (pe_bltn (v := .ty "str") (by rfl) S.str PyProof.Rows.Boot.«str» rfl) pa_nil)))
      (pe_one (pe_cmpR op_in_seq (pv 0) (pv 1) (by with_unfolding_all rfl))))), ?_⟩
    refine ⟨_, rfl, _, _, _, _, true, rfl, .ty _, .base (.str _), kit_ty (by decide +kernel), _, rfl, iteT ?_⟩
    refine ⟨_, rfl, _, rfl, u, _, rfl, hw, rfl, ?_, ?_⟩
    · rw [List.all_map]
      exact List.all_eq_true.mpr fun _ _ => rfl
    · rw [inV_strs]
      exact q
theorem scI5 : FnScope ["value", "begun", "ended"] ["value"] (defScope pIsPair) := ⟨rfl, rfl, rfl, by decide +kernel, rfl, by decide +kernel, by decide +kernel⟩
theorem ok_ispair {f fI : Addr} {fd fdI : FuncData} (F : Fun K "is_pair" "is_pair" pIsPair f fd) (S : Forms1 mg) (AI : At K mg "is_integer" pIsInt ["value"] fI fdI) : FnOk P w K mg base CX0 2 f fd ["value"] spPair := by
  have GI : FnOk P w K mg base CX0 1 fI fdI ["value"] spInt := ok_isint AI.F S
  refine F.ok scI5 (fun vs H Q E h => ?_) (fun cdv A outer s H vs Q E hr h => ?_)
  · obtain ⟨v, p, rfl, _⟩ := h
    rfl
  · obtain ⟨v, p, rfl, fz, q⟩ := h
    obtain ⟨um, gm, rm⟩ := S.most
    refine ⟨_, pss_cons (ps_if (pw_or (pt_not (pt_val (pe_callB call_isi (by rfl) S.isi (by decide +kernel) (pa_cons (pv 0) (pa_cons (pe_bltn (v := .ty "tuple") (by rfl) S.tup PyProof.Rows.Boot.«tuple» rfl) pa_nil)))))
          (pw_or1 (pt_cmpR op_ne (pe_callB call_len_seq (by rfl) S.len PySem.boot_len (pa_cons (pv 0) pa_nil)) pe_int (nomark _)))).pt (pss_one (ps_ret (pe_bl))) pss_nil)
      (pss_cons (ps_asg (pv 0) (pg_tup rfl (pgs_cons (pg_name (i := 1) scI5.nd rfl (.inl rfl)) (pgs_cons (pg_name (i := 2) scI5.nd rfl (.inl rfl)) pgs_nil))))
      (pss_one (ps_ret (pe_and (pe_call GI hr rfl AI.g AI.F.kp AI.b .nil pass0 (pa_cons (pv 1) pa_nil)) (pe_and (pe_call GI hr rfl AI.g AI.F.kp AI.b .nil pass0 (pa_cons (pv 2) pa_nil))
        (pe_one (pe_chain3 op_le op_le op_le pe_int (pv 2) (pv 1) (pe_glob (by rfl) gm rm)))))))), ?_⟩
    obtain ⟨b, x, y, rfl, hb, f1, f2⟩ := fz.t2
    obtain rfl := f1.i
    obtain rfl := f2.i
    refine ⟨_, rfl, _, _, _, _, true, rfl, .ty _, .base (.tup hb), kit_ty (by decide +kernel), _, rfl, ?_⟩
    refine ⟨_, rfl, b, _, rfl, .inr (SqT.of hb), rfl, _, rfl, iteF ?_⟩
    refine ⟨_, rfl, b, _, rfl, SqT.of hb, rfl, _, _, rfl, _, _, rfl, rfl, ?_⟩
    refine ⟨_, rfl, p.1, rfl, _, rfl, iteT ?_⟩
    refine ⟨_, rfl, p.2, rfl, _, rfl, iteT ?_⟩
    refine ⟨_, rfl, _, _, rfl, rfl, _, rfl, ?_⟩
    unfold okQ at q
    by_cases h0 : 0 ≤ p.2
    · rw [decide_eq_true h0] at q ⊢
      refine iteT ⟨_, rfl, _, _, rfl, rfl, _, rfl, ?_⟩
      by_cases h1 : p.2 ≤ p.1
      · rw [decide_eq_true h1] at q ⊢
        refine iteT ⟨_, _, rfl, rfl, q⟩
      · rw [decide_eq_false h1] at q ⊢
        exact iteF q
    · rw [decide_eq_false h0] at q ⊢
      exact iteF q
end
end K04
namespace K04
open PySem PySem.Spec PyProof.Rows L2 GD
section
variable {P : Program} {w : World} {K : PySem.W.Frag} {mg : Str → Option Value} {base : Heap}
abbrev NP : List Str := ["value", "many", "pair"]
theorem scI6 : FnScope NP ["value", "many"] (defScope pIsStn) := ⟨rfl, rfl, rfl, by decide +kernel, rfl, by decide +kernel, by decide +kernel⟩
theorem ok_isstn {f fI fP : Addr} {fd fdI fdP : FuncData} (F : Fun K "is_standing" "is_standing" pIsStn f fd) (S : Forms1 mg) (AI : At K mg "is_integer" pIsInt ["value"] fI fdI) (AP : At K mg "is_pair" pIsPair ["value"] fP fdP) : FnOk P w K mg base CX0 3 f fd ["value", "many"] spStn := by
  have GP : FnOk P w K mg base CX0 2 fP fdP ["value"] spPair := ok_ispair AP.F S AI
  refine F.ok scI6 (fun vs H Q E h => ?_) (fun cdv A outer s H vs Q E hr h => ?_)
  · obtain ⟨v, sn, k, rfl, _⟩ := h
    rfl
  · obtain ⟨v, sn, k, rfl, fz, hl, q⟩ := h
    refine ⟨_, pss_one (ps_ret (pe_and (pe_callB call_isi (by rfl) S.isi (by decide +kernel) (pa_cons (pv 0) (pa_cons (pe_bltn (v := .ty "tuple") (by rfl) S.tup PyProof.Rows.Boot.«tuple» rfl) pa_nil)))
      (pe_and (pe_cmpR op_eq (pe_callB call_len_seq (by rfl) S.len PySem.boot_len (pa_cons (pv 0) pa_nil)) (pv 1) (nomark _))
      (pe_one (pe_callB (cr_all rfl) (by rfl) S.all (by decide +kernel) (pa_cons (pe_lc (own := [("pair", 2)]) (g := gName 2) (tt := tYes) rfl scI6.nd (pi_tup (pv 0)) (blkOk_by (N := NP) (sc := defScope pIsStn) (by decide +kernel))
        (fun _ _ _ _ _ => pg_name (i := 2) scI6.nd rfl (.inl rfl)) (fun _ _ _ _ _ => pts_nil) (fun _ _ _ _ _ => pe_call GP hr rfl AP.g AP.F.kp AP.b .nil pass0 (pa_cons (pv 2) pa_nil))) pa_nil)))))), ?_⟩
    obtain ⟨b, xs, rfl, hb, fx⟩ := fz.t
    have lx : xs.length = sn.length := by rw [fx.len, List.length_map]
    refine ⟨_, rfl, _, _, _, _, true, rfl, .ty _, .base (.tup hb), kit_ty (by decide +kernel), _, rfl, iteT ?_⟩
    refine ⟨_, rfl, b, _, rfl, .inr (SqT.of hb), _, rfl, rfl, _, rfl, ?_⟩
    unfold okN at q
    by_cases h : sn.length = k
    · rw [decide_eq_true (show V.int (xs.length : Int) = V.int (k : Int) by rw [lx, h])]
      refine iteT ?_
      refine ⟨_, rfl, b, rfl, ⟨_, SqT.of hb⟩, fun D hD => ?_⟩
      refine lc_tup (K := K) (a := b) (xs := xs) (fun i H' => Same H H' ∧ H' D = some (.lst (((sn.take i).map okQ).map V.bl))) ⟨same_new hD, upd_same⟩ (fun i H' _ ⟨s2, _⟩ => SqT.of (s2 _ _ hb)) ?_ ?_
      · rintro i x H' hx ⟨s1, eD⟩
        obtain ⟨p, hp, fp⟩ := fx.atM hx
        have hi : i < sn.length := (List.getElem?_eq_some_iff.mp hp).1
        refine ⟨rfl, _, rfl, x, p, rfl, fp.same s1, ?_⟩
        refine ⟨_, eD, ?_, same_upd s1 hD, ?_⟩
        · rw [List.length_map, List.length_map, List.length_take]
          exact Nat.lt_of_le_of_lt (Nat.min_le_left _ _) (Nat.lt_of_lt_of_le (show i < 1001 by omega) (by decide))
        · rw [upd_same, take_next hp, List.map_append, List.map_append]
          rfl
      · rintro H' ⟨s1, eD⟩
        rw [lx, List.take_length] at eD
        refine ⟨D, _, rfl, SqL.of eD, ?_⟩
        have z := q H' s1
        rw [decide_eq_true h, Bool.true_and] at z
        rw [List.all_map]
        exact z
    · rw [decide_eq_false (show ¬ V.int (xs.length : Int) = V.int (k : Int) from fun z => h (by rw [← lx]; exact Int.ofNat_inj.mp (V.int.inj z)))]
      refine iteF ?_
      have z := q H (Same.refl H)
      rw [decide_eq_false h, Bool.false_and] at z
      exact z
end
end K04
namespace GD
open PySem PySem.Spec PyProof.Rows L2
theorem Fz.fact_at {H : Hp} {v : V} {f : Fact} (h : Fz H v (eF f)) : (∃ b y s, v = .ref b ∧ H b = some (.tup [.str (kindS f), y]) ∧ Fz H y (eS s) ∧ (f = .let_ s ∨ f = .not_ s)) ∨ ∃ b y z s t, v = .ref b ∧ H b = some (.tup [.str "as", y, z]) ∧ Fz H y (eS s) ∧ Fz H z (eS t) ∧ f = .as_ s t := by
  cases f with
  | let_ s =>
    obtain ⟨b, x, y, rfl, hb, h1, h2⟩ := h.t2
    obtain rfl := h1.s
    exact .inl ⟨b, y, s, rfl, hb, h2, .inl rfl⟩
  | not_ s =>
    obtain ⟨b, x, y, rfl, hb, h1, h2⟩ := h.t2
    obtain rfl := h1.s
    exact .inl ⟨b, y, s, rfl, hb, h2, .inr rfl⟩
  | as_ s t =>
    obtain ⟨b, x, y, z, rfl, hb, h1, h2, h3⟩ := h.t3
    obtain rfl := h1.s
    exact .inr ⟨b, y, z, s, t, rfl, hb, h2, h3, rfl⟩
theorem shapeN (s : Stn) : SeqAt.shaped (eS s) = true := shape_eS s
end GD
namespace K04
open PySem PySem.Spec PyProof.Rows L2 GD
section
variable {P : Program} {w : World} {K : PySem.W.Frag} {mg : Str → Option Value} {base : Heap}
abbrev NF : List Str := ["value", "many", "here", "there", "both"]
theorem scI7 : FnScope NF ["value", "many"] (defScope pIsFact) := ⟨rfl, rfl, rfl, by decide +kernel, rfl, by decide +kernel, by decide +kernel⟩
theorem ok_isfact {f fI fP fN fW : Addr} {fd fdI fdP fdN fdW : FuncData} (F : Fun K "is_fact" "is_fact" pIsFact f fd) (S : Forms1 mg) (AI : At K mg "is_integer" pIsInt ["value"] fI fdI) (AP : At K mg "is_pair" pIsPair ["value"] fP fdP)
    (AN : At K mg "is_standing" pIsStn ["value", "many"] fN fdN) (AW : At K mg "is_word" pIsWord ["value", "words"] fW fdW) : FnOk P w K mg base CX0 4 f fd ["value", "many"] spFact := by
  have GN : FnOk P w K mg base CX0 3 fN fdN ["value", "many"] spStn := ok_isstn AN.F S AI AP
  have GW : FnOk P w K mg base CX0 1 fW fdW ["value", "words"] (spWord K) := ok_isword AW.F S
  refine F.ok scI7 (fun vs H Q E h => ?_) (fun cdv A outer s H vs Q E hr h => ?_)
  · obtain ⟨v, f, k, rfl, _⟩ := h
    rfl
  · obtain ⟨v, f, k, rfl, fz, hl2, hl1, q⟩ := h
    have hr1 : Room 1 _ := hr.mono (by decide)
    refine ⟨_, pss_cons (ps_if (pt_not (pt_val (pe_callB call_isi (by rfl) S.isi (by decide +kernel) (pa_cons (pv 0) (pa_cons (pe_bltn (v := .ty "tuple") (by rfl) S.tup PyProof.Rows.Boot.«tuple» rfl) pa_nil))))) (pss_one (ps_ret pe_bl)) pss_nil)
      (pss_cons (ps_if (pt_cmpR op_eq (pe_callB call_len_seq (by rfl) S.len PySem.boot_len (pa_cons (pv 0) pa_nil)) pe_int (nomark _))
        (pss_one (ps_ret (pe_and (pe_call GW hr1 rfl AW.g AW.F.kp AW.b .nil pass0 (pa_cons (pe_ix ix_tup (pv 0) pe_int (fun _ _ => rfl)) (pa_cons (pe_tup (pa_cons pe_str (pa_cons pe_str pa_nil))) pa_nil)))
          (pe_one (pe_call GN hr rfl AN.g AN.F.kp AN.b .nil pass0 (pa_cons (pe_ix ix_tup (pv 0) pe_int (fun _ _ => rfl)) (pa_cons (pv 1) pa_nil))))))) pss_nil)
      (pss_cons (ps_if (pt_cmpR op_eq (pe_callB call_len_seq (by rfl) S.len PySem.boot_len (pa_cons (pv 0) pa_nil)) pe_int (nomark _))
        (pss_cons (ps_asg (pe_slice sl_tup (pv 0) (po_some pe_int) po_none) (pg_tup rfl (pgs_cons (pg_name (i := 2) scI7.nd rfl (.inl rfl)) (pgs_cons (pg_name (i := 3) scI7.nd rfl (.inl rfl)) pgs_nil))))
        (pss_cons (ps_set (i := 4) scI7.nd rfl (.inl rfl) (pe_and (pe_call GN hr rfl AN.g AN.F.kp AN.b .nil pass0 (pa_cons (pv 2) (pa_cons (pv 1) pa_nil))) (pe_one (pe_call GN hr rfl AN.g AN.F.kp AN.b .nil pass0 (pa_cons (pv 3) (pa_cons (pv 1) pa_nil))))))
        (pss_one (ps_ret (pe_and (pe_call GW hr1 rfl AW.g AW.F.kp AW.b .nil pass0 (pa_cons (pe_ix ix_tup (pv 0) pe_int (fun _ _ => rfl)) (pa_cons (pe_tup (pa_cons pe_str pa_nil)) pa_nil)))
          (pe_and (pv 4) (pe_one (pe_cmpR (op_neD hr.units) (pv 2) (pv 3) (nomark _))))))))) pss_nil)
      (pss_one (ps_ret pe_bl)))), ?_⟩
    rcases fz.fact_at with ⟨b, y, sn, rfl, hb, fy, hf⟩ | ⟨b, y, z, sn, tn, rfl, hb, fy, fzz, rfl⟩
    · have hk : okT k f = okN k sn ∧ (kindS f = ("let" : Str) ∨ kindS f = ("not" : Str)) := by
        rcases hf with rfl | rfl
        · exact ⟨rfl, .inl rfl⟩
        · exact ⟨rfl, .inr rfl⟩
      refine ⟨_, rfl, _, _, _, _, true, rfl, .ty _, .base (.tup hb), kit_ty (by decide +kernel), _, rfl, iteF ?_⟩
      refine ⟨_, rfl, b, _, rfl, .inr (SqT.of hb), rfl, _, rfl, iteT ?_⟩
      refine ⟨_, rfl, b, _, 0, _, rfl, rfl, SqT.of hb, at0, ?_⟩
      refine ⟨(by show 2 ≤ sizeLine; decide), fun t ht => ?_⟩
      have st := same_new (o := .tup [.str "let", .str "not"]) ht
      refine ⟨kindS f, t, ["let", "not"], rfl, .inr (SqT.of upd_same), true, ?_, iteT ?_⟩
      · rcases hk.2 with e | e <;> rw [e] <;> decide
      refine ⟨_, rfl, b, _, 1, _, rfl, rfl, SqT.of (st _ _ hb), at1, _, rfl, y, sn, k, rfl, fy.same st, hl1 sn hf, fun H' s' => ?_⟩
      have z := q H' (st.trans s')
      rw [hk.1] at z
      exact z
    · obtain ⟨h1, h2⟩ := hl2 sn tn rfl
      refine ⟨_, rfl, _, _, _, _, true, rfl, .ty _, .base (.tup hb), kit_ty (by decide +kernel), _, rfl, iteF ?_⟩
      refine ⟨_, rfl, b, _, rfl, .inr (SqT.of hb), rfl, _, rfl, iteF ?_⟩
      refine ⟨_, rfl, b, _, rfl, .inr (SqT.of hb), rfl, _, rfl, iteT ?_⟩
      refine ⟨_, rfl, ?_⟩
      dsimp only [tNoPart]
      refine ⟨_, rfl, b, _, rfl, SqT.of hb, (show ¬ (HT.sIx 3 0 (some 1) = 0 ∧ HT.sIx 3 3 none = 3) by decide), fun p hp => ?_⟩
      have sp := same_new (o := .tup (cutV [V.str "as", y, z] (some 1) none)) hp
      have ep : (upd H p (.tup (cutV [V.str "as", y, z] (some 1) none))) p = some (.tup [y, z]) := upd_same
      generalize upd H p (.tup (cutV [V.str "as", y, z] (some 1) none)) = H1 at sp ep ⊢
      refine ⟨p, _, rfl, SqT.of ep, rfl, _, _, rfl, _, _, rfl, rfl, ?_⟩
      refine ⟨_, rfl, _, rfl, y, sn, k, rfl, fy.same sp, h1, fun H2 s2 => ?_⟩
      have fin : ∀ (both : Bool) (H3 : Hp), Same H H3 → both = (okN k sn && okN k tn) → tRet
            (tAndV
              (tCall (spWord K) [] E0
                (tCons (tOp (rIxT K) (tVar 0) (tC (V.int 0)))
                  (tCons (tTup (tCons (tC (V.str (Str.ofString "as"))) tNil)) tNil)))
              (tAndV (tVar 4) (tOp (rNeD K) (tVar 2) (tVar 3)))) { nx := tRet (tC (V.bl false)) { nx := fun x H' => Q V.non H', rt := Q }, rt := Q } [some (.ref b), some (.int k), some y, some z, some (.bl both)] H3 := by
        intro both H3 s3 eb
        refine ⟨_, rfl, b, _, 0, _, rfl, rfl, SqT.of (s3 _ _ hb), at0, ?_⟩
        refine ⟨(by show 1 ≤ sizeLine; decide), fun t ht => ?_⟩
        have st := same_new (o := .tup [.str "as"]) ht
        refine ⟨"as", t, ["as"], rfl, .inr (SqT.of upd_same), true, by decide, iteT ?_⟩
        have s4 := s3.trans st
        have fin2 := q _ s4
        rw [okT, ← eb] at fin2
        cases both with
        | false => exact ⟨_, rfl, _, rfl, iteF fin2⟩
        | true => exact ⟨_, rfl, _, rfl, iteT ⟨_, rfl, _, rfl, eS sn, eS tn, (fy.same s4).dp, (fzz.same s4).dp, shapeN sn, shapeN tn, fin2⟩⟩
      have s02 := sp.trans s2
      cases e1 : okN k sn with
      | false =>
        refine ⟨_, rfl, iteF ?_⟩
        exact fin false _ s02 (by rw [e1]; rfl)
      | true =>
        refine ⟨_, rfl, iteT ?_⟩
        refine ⟨_, rfl, _, rfl, z, tn, k, rfl, fzz.same s02, h2, fun H3 s3 => ?_⟩
        exact fin _ _ (s02.trans s3) (by rw [e1]; rfl)
end
end K04
namespace GD
open PySem PySem.Spec PyProof.Rows L2
/-! the reading of a book's text -/
theorem digit128 : ∀ c : Nat, c < 128 → Unicode.isDigit c = (decide (48 ≤ c) && decide (c ≤ 57)) := by decide +kernel
def isNum (x : Str) : Bool := Txt.isascii x && Txt.isdigit x
theorem isNum_digits {x : Str} (h : isNum x = true) : NumText.AllDigits (TL.tl x) ∧ TL.tl x ≠ [] := by
  unfold isNum Txt.isascii Txt.isdigit at h
  rw [Bool.and_eq_true, Bool.and_eq_true, decide_eq_true_iff] at h
  obtain ⟨h1, h2, h3⟩ := h
  have h4 := Array.all_eq_true'.mp h1
  have h5 := Array.all_eq_true'.mp h3
  refine ⟨fun c hc => ?_, fun e => ?_⟩
  · have m : c ∈ x.cps := Array.mem_toList_iff.mp hc
    have a := of_decide_eq_true (h4 c m)
    have b := h5 c m
    rw [digit128 c a, Bool.and_eq_true, decide_eq_true_iff, decide_eq_true_iff] at b
    exact b
  · rw [TL.len_tl, e] at h2
    exact absurd h2 (by decide)
theorem digits_isNum {x : Str} (h : NumText.AllDigits (TL.tl x)) (h0 : TL.tl x ≠ []) : isNum x = true := by
  unfold isNum Txt.isascii Txt.isdigit
  rw [Bool.and_eq_true, Bool.and_eq_true, decide_eq_true_iff]
  have r : ∀ c ∈ x.cps, 48 ≤ c ∧ c ≤ 57 := fun c hc => h c (Array.mem_toList_iff.mpr hc)
  refine ⟨Array.all_eq_true'.mpr fun c hc => decide_eq_true (by have := r c hc; omega), ?_, Array.all_eq_true'.mpr fun c hc => ?_⟩
  · rw [TL.len_tl]
    exact List.length_pos_iff.mpr h0
  · have := r c hc
    rw [digit128 c (by omega), decide_eq_true (by omega), decide_eq_true (by omega)]
    rfl
/-- what read_count tells -/
def rdC (x : Str) : Int := if isNum x = true ∧ x.length ≤ 2 then (if x.length = 2 ∧ (TL.tl x).head? = some 48 then -1 else (NumText.digitsVal (TL.tl x) : Int)) else -1
theorem rdC_num {n : Nat} (h : n < 100) : rdC (nT n) = n := by
  have ht : TL.tl (nT n) = TL.numL n := TL.tl_num n
  have hl : (nT n).length ≤ 2 := by
    rw [TL.len_tl, ht]
    exact TL.numL_len (by decide) (by omega)
  unfold rdC
  rw [if_pos ⟨digits_isNum (by rw [ht]; exact TL.numL_digits n) (by rw [ht]; exact TL.numL_ne n), hl⟩, ht, TL.numL_val]
  refine if_neg fun z => ?_
  obtain ⟨z1, z2⟩ := z
  by_cases h10 : n < 10
  · rw [TL.len_tl, ht, TL.numL_lt h10] at z1
    exact absurd (show 1 = 2 from z1) (by decide)
  · rw [TL.numL_step (by omega), TL.numL_lt (by omega)] at z2
    have z3 : 48 + n / 10 = 48 := Option.some.inj z2
    omega
def isNumeral (x : Str) : Bool := isNum x && (decide (x = "0") || !decide ((TL.tl x).head? = some 48))
theorem numeral_num {x : Str} (h : isNumeral x = true) : isNum x = true := by
  unfold isNumeral at h
  rw [Bool.and_eq_true] at h
  exact h.1
theorem rdC_no {x : Str} (h : isNumeral x = false) : rdC x = -1 := by
  unfold rdC
  by_cases c : isNum x = true ∧ x.length ≤ 2
  · rw [if_pos c]
    unfold isNumeral at h
    rw [c.1, Bool.true_and, Bool.or_eq_false_iff, decide_eq_false_iff_not, Bool.not_eq_false', decide_eq_true_iff] at h
    refine if_pos ⟨?_, h.2⟩
    obtain ⟨h1, h2⟩ := h
    have hl : x.length ≠ 1 := fun z => h1 (TL.ext_tl (by
      rw [TL.len_tl] at z
      match e : TL.tl x, z, h2 with
      | [a], _, h2 => 
        obtain rfl := Option.some.inj h2
        rfl))
    have hz : x.length ≠ 0 := fun z => by
      rw [TL.len_tl] at z
      rw [List.eq_nil_of_length_eq_zero z] at h2
      cases h2
    omega
  · exact if_neg c
theorem rdC_yes {x : Str} (h : isNumeral x = true) (hl : x.length ≤ 2) : rdC x = (NumText.digitsVal (TL.tl x) : Int) := by
  unfold rdC
  rw [if_pos ⟨numeral_num h, hl⟩]
  refine if_neg fun z => ?_
  unfold isNumeral at h
  rw [numeral_num h, Bool.true_and, Bool.or_eq_true, decide_eq_true_iff] at h
  rcases h with rfl | h
  · exact absurd z.1 (by decide)
  · rw [decide_eq_true z.2] at h
    cases h
def spNumeral : Sp := fun vs H Q _ => ∃ x : Str, vs = [.str x] ∧ x.length ≤ sizeLine ∧ Q (.bl (isNumeral x)) H
def spCount : Sp := fun vs H Q _ => ∃ x : Str, vs = [.str x] ∧ x.length ≤ sizeLine ∧ Q (.int (rdC x)) H
end GD
namespace K04
open PySem PySem.Spec PyProof.Rows L2 GD
abbrev pGrown : Stmt := top 25
abbrev pRemade : Stmt := top 26
abbrev pIsFull : Stmt := top 27
abbrev pFactLine : Stmt := top 28
abbrev pCountsText : Stmt := top 29
abbrev pReadJobs : Stmt := top 30
abbrev pReadManners : Stmt := top 31
abbrev pReadFacts : Stmt := top 32
abbrev pReadFact : Stmt := top 33
abbrev pReadStn : Stmt := top 34
abbrev pReadCount : Stmt := top 35
abbrev pIsNumeral : Stmt := top 15
section
variable {P : Program} {w : World} {K : PySem.W.Frag} {mg : Str → Option Value} {base : Heap}
structure Reads1 (mg : Str → Option Value) : Prop where
  f : Forms1 mg
  no : ∃ u, mg "NO_COUNT" = some u ∧ RelV (.int (-1)) u
  rng : mg "range" = none
theorem scRn : FnScope ["text"] ["text"] (defScope pIsNumeral) := ⟨rfl, rfl, rfl, by decide +kernel, rfl, by decide +kernel, by decide +kernel⟩
theorem ok_isnumeral {f : Addr} {fd : FuncData} (F : Fun K "is_numeral" "is_numeral" pIsNumeral f fd) : FnOk P w K mg base CX0 1 f fd ["text"] spNumeral := by
  refine F.ok scRn (fun vs H Q E h => ?_) (fun cdv A outer s H vs Q E hr h => ?_)
  · obtain ⟨x, rfl, _⟩ := h
    rfl
  · obtain ⟨x, rfl, hx, q⟩ := h
    refine ⟨_, pss_one (ps_ret (pe_and (pe_bm0 PySem.F.plainAttrs_str PySem.F.slot_str_isascii PySem.F.type_str_isascii mt_isascii (pv 0))
      (pe_and (pe_bm0 PySem.F.plainAttrs_str PySem.F.slot_str_isdigit PySem.F.type_str_isdigit mt_isdigit (pv 0))
        (pe_one (pe_or (pe_cmpR op_eq (pv 0) pe_str (nomark _)) (pe_one (pe_cmpR op_ne (pe_ix ix_str (pv 0) pe_int (fun _ _ => rfl)) pe_str (nomark _)))))))), ?_⟩
    refine ⟨_, rfl, rfl, x, rfl, rfl, True.intro, _, rfl, ?_⟩
    unfold isNumeral isNum at q
    cases ha : Txt.isascii x with
    | false =>
      refine iteF ?_
      rw [ha] at q
      exact q
    | true =>
      refine iteT ⟨_, rfl, rfl, x, rfl, rfl, True.intro, _, rfl, ?_⟩
      cases hd : Txt.isdigit x with
      | false =>
        refine iteF ?_
        rw [ha, hd] at q
        exact q
      | true =>
        rw [ha, hd] at q
        have hn : isNum x = true := by rw [isNum, ha, hd]; rfl
        obtain ⟨dg, ne⟩ := isNum_digits hn
        refine iteT ⟨_, rfl, rfl, _, rfl, ?_⟩
        by_cases h0 : V.str x = V.str "0"
        · rw [decide_eq_true h0]
          refine iteT ?_
          rw [decide_eq_true (V.str.inj h0)] at q
          exact q
        · rw [decide_eq_false h0]
          refine iteF ?_
          rw [decide_eq_false (fun z => h0 (congrArg V.str z))] at q
          have hc : ∃ c r, TL.tl x = c :: r := by
            cases e : TL.tl x with
            | nil => exact absurd e ne
            | cons c r => exact ⟨c, r, rfl⟩
          obtain ⟨c, r, ec⟩ := hc
          refine ⟨_, rfl, x, 0, c, rfl, rfl, hx, ?_, rfl, ?_⟩
          · show atI (TL.tl x) 0 = some c
            rw [ec]
            exact atI_nat (j := 0) rfl
          rw [ec] at q
          have e2 : (!decide (V.str ⟨#[c]⟩ = V.str "0")) = !decide ((c :: r).head? = some 48) := by
            by_cases hc : c = 48
            · rw [hc]
              rfl
            · rw [decide_eq_false (show ¬ V.str ⟨#[c]⟩ = V.str "0" from fun z => hc (by
                have z2 := congrArg TL.tl (V.str.inj z)
                exact (List.cons.inj z2).1)), decide_eq_false (show ¬ (c :: r).head? = some 48 from fun z => hc (Option.some.inj z))]
          show Q (.bl _) H
          rw [e2]
          exact q
/-- read_count, and is_numeral that it calls -/
structure AtC (K : PySem.W.Frag) (mg : Str → Option Value) (f : Addr) (fd : FuncData) : Prop extends At K mg "read_count" pReadCount ["word"] f fd where
  num : ∃ fU fdU, At K mg "is_numeral" pIsNumeral ["text"] fU fdU
theorem scR0 : FnScope ["word"] ["word"] (defScope pReadCount) := ⟨rfl, rfl, rfl, by decide +kernel, rfl, by decide +kernel, by decide +kernel⟩
theorem ok_rdcount {f : Addr} {fd : FuncData} (AC : AtC K mg f fd) (S : Reads1 mg) : FnOk P w K mg base CX0 2 f fd ["word"] spCount := by
  obtain ⟨fU, fdU, AU⟩ := AC.num
  have GU : FnOk P w K mg base CX0 1 fU fdU ["text"] spNumeral := ok_isnumeral AU.F
  refine AC.F.ok scR0 (fun vs H Q E h => ?_) (fun cdv A outer s H vs Q E hr h => ?_)
  · obtain ⟨x, rfl, _⟩ := h
    rfl
  · obtain ⟨x, rfl, hx, q⟩ := h
    obtain ⟨um, gm, rm⟩ := S.no
    refine ⟨_, pss_cons (ps_if (pw_or (pt_not (pt_val (pe_call GU hr (by rfl) AU.g AU.F.kp AU.b .nil pass0 (pa_cons (pv 0) pa_nil))))
          (pw_or1 (pt_cmpR op_gt (pe_callB call_len_str (by rfl) S.f.len PySem.boot_len (pa_cons (pv 0) pa_nil)) pe_int (nomark _)))).pt (pss_one (ps_ret (pe_glob (by rfl) gm rm))) pss_nil)
      (pss_one (ps_ret (pe_callTy call_int_str (by rfl) S.f.int (by decide +kernel) (pa_cons (pv 0) pa_nil)))), ?_⟩
    refine ⟨_, rfl, x, rfl, hx, _, rfl, ?_⟩
    cases hn : isNumeral x with
    | false =>
      refine iteT ?_
      rw [rdC_no hn] at q
      exact q
    | true =>
      obtain ⟨dg, ne⟩ := isNum_digits (numeral_num hn)
      refine iteF ⟨_, rfl, x, rfl, hx, _, _, rfl, rfl, _, rfl, ?_⟩
      by_cases hl : (2 : Int) < (x.length : Int)
      · rw [decide_eq_true hl]
        refine iteT ?_
        rw [rdC, if_neg (fun z => by omega)] at q
        exact q
      · rw [decide_eq_false hl]
        refine iteF ?_
        refine ⟨_, rfl, x, _, rfl, intText_digits dg ne (by omega), by omega, ?_⟩
        rw [rdC_yes hn (by omega)] at q
        exact q
end
end K04
namespace GD
open PySem PySem.Spec PyProof.Rows L2
/-- two by two -/
def prs : List Int → Stn
  | a :: b :: r => (a, b) :: prs r
  | _ => []
theorem prs_len : ∀ l : List Int, (prs l).length = l.length / 2
  | [] => rfl
  | [_] => by simp [prs]
  | a :: b :: r => by
    rw [prs, List.length_cons, prs_len r, List.length_cons, List.length_cons]
    omega
theorem prs_get : ∀ (l : List Int) (i : Nat) (x y : Int), l[2 * i]? = some x → l[2 * i + 1]? = some y → (prs l)[i]? = some (x, y)
  | [], i, x, y, h, _ => by simp at h
  | [a], i, x, y, _, h => by simp at h
  | a :: b :: r, 0, x, y, h1, h2 => by
    simp at h1 h2
    subst h1
    subst h2
    rfl
  | a :: b :: r, i + 1, x, y, h1, h2 => by
    rw [prs, List.getElem?_cons_succ]
    refine prs_get r i x y ?_ ?_
    · rw [← h1, show 2 * (i + 1) = 2 * i + 1 + 1 by omega, List.getElem?_cons_succ, List.getElem?_cons_succ]
    · rw [← h2, show 2 * (i + 1) + 1 = 2 * i + 1 + 1 + 1 by omega, List.getElem?_cons_succ, List.getElem?_cons_succ]
theorem rng_two {L : Nat} (h : L ≤ 100000) : RgC 0 ((L : Int) - 1) 2 (L / 2) := by
  have e : Builtin.Range.rangeSize 0 ((L : Int) - 1) 2 = ((L / 2 : Nat) : Int) := by
    unfold Builtin.Range.rangeSize
    rw [if_pos (by decide)]
    split <;> omega
  refine ⟨by decide, by decide, ?_, e⟩
  unfold Builtin.Range.small
  rw [e]
  simp only [Builtin.Range.rangeFitsLong, Bool.and_eq_true, Bool.or_eq_true, decide_eq_true_eq, beq_iff_eq]
  refine ⟨by omega, .inr ?_⟩
  rw [if_pos (by decide), Bool.and_eq_true, decide_eq_true_iff, decide_eq_true_iff]
  omega
def spRdStn : Sp := fun vs H Q _ => ∃ (l : Addr) (ws : List Str), vs = [.ref l] ∧ H l = some (.lst (ws.map V.str)) ∧ ws.length ≤ 1000 ∧ (∀ x ∈ ws, x.length ≤ sizeLine) ∧ ∀ v H', Same H H' → Fz H' v (eS (prs (ws.map rdC))) → Q v H'
end GD

namespace K04
open PySem PySem.Spec PyProof.Rows L2 GD
section
variable {P : Program} {w : World} {K : PySem.W.Frag} {mg : Str → Option Value} {base : Heap}
abbrev NRs : List Str := ["words", "counts", "word", "at"]
theorem scR1 : FnScope NRs ["words"] (defScope pReadStn) := ⟨rfl, rfl, rfl, by decide +kernel, rfl, by decide +kernel, by decide +kernel⟩
theorem ok_rdstn {f fC : Addr} {fd fdC : FuncData} (F : Fun K "read_standing" "read_standing" pReadStn f fd) (S : Reads1 mg) (AC : AtC K mg fC fdC) : FnOk P w K mg base CX0 3 f fd ["words"] spRdStn := by
  have GC : FnOk P w K mg base CX0 2 fC fdC ["word"] spCount := ok_rdcount AC S
  refine F.ok scR1 (fun vs H Q E h => ?_) (fun cdv A outer s H vs Q E hr h => ?_)
  · obtain ⟨l, ws, rfl, _⟩ := h
    rfl
  · obtain ⟨l, ws, rfl, hl, hw, hwl, q⟩ := h
    refine ⟨_, pss_cons (ps_set (i := 1) scR1.nd rfl (.inr rfl) (pe_lc (own := [("word", 2)]) (g := gName 2) (tt := tYes) rfl scR1.nd (pi_list (pv 0)) (blkOk_by (N := NRs) (sc := defScope pReadStn) (by decide +kernel))
        (fun _ _ _ _ _ => pg_name (i := 2) scR1.nd rfl (.inl rfl)) (fun _ _ _ _ _ => pts_nil) (fun _ _ _ _ _ => pe_call GC hr rfl AC.g AC.F.kp AC.b .nil pass0 (pa_cons (pv 2) pa_nil))))
      (pss_one (ps_ret (pe_callTy call_tuple_of (by rfl) S.f.tup (by decide +kernel) (pa_cons (pe_lc (own := [("at", 3)]) (g := gName 3) (tt := tYes) rfl scR1.nd
        (pi_range3 (by rfl) S.rng (pa_cons pe_int (pa_cons (pe_op op_sub (pe_callB call_len_seq (by rfl) S.f.len PySem.boot_len (pa_cons (pv 1) pa_nil)) pe_int) (pa_cons pe_int pa_nil)))) (blkOk_by (N := NRs) (sc := defScope pReadStn) (by decide +kernel))
        (fun _ _ _ _ _ => pg_name (i := 3) scR1.nd rfl (.inl rfl)) (fun _ _ _ _ _ => pts_nil) (fun _ _ _ _ _ => pe_tup (pa_cons (pe_ix (r := rIxL K) ix_list (pv 1) (pv 3) (fun _ _ => rfl)) (pa_cons (pe_ix (r := rIxL K) ix_list (pv 1) (pe_op op_add (pv 3) pe_int) (fun _ _ => rfl)) pa_nil)))) pa_nil)))), ?_⟩
    refine ⟨_, rfl, l, rfl, ⟨_, SqL.of hl⟩, fun D hD => ?_⟩
    refine lc_list (K := K) (a := l) (xs := ws.map V.str) (fun i H' => Same H H' ∧ H' D = some (.lst (((ws.take i).map rdC).map V.int))) ⟨same_new hD, upd_same⟩ (fun i H' _ ⟨s1, _⟩ => SqL.of (s1 _ _ hl)) ?_ ?_
    · rintro i x H' hx ⟨s1, eD⟩
      rw [List.getElem?_map] at hx
      cases c : ws[i]? with
      | none =>
        rw [c] at hx
        cases hx
      | some y =>
        rw [c] at hx
        obtain rfl : V.str y = x := Option.some.inj hx
        have hi : i < ws.length := (List.getElem?_eq_some_iff.mp c).1
        refine ⟨rfl, _, rfl, y, rfl, hwl y (List.mem_of_getElem? c), ?_⟩
        refine ⟨_, eD, ?_, same_upd s1 hD, ?_⟩
        · rw [List.length_map, List.length_map, List.length_take]
          exact Nat.lt_of_le_of_lt (Nat.min_le_left _ _) (Nat.lt_of_lt_of_le (show i < 1001 by omega) (by decide))
        · rw [upd_same, take_next c, List.map_append, List.map_append]
          rfl
    · rintro H1 ⟨s1, eD⟩
      rw [List.length_map, List.take_length] at eD
      have lc : ((ws.map rdC).map V.int).length = ws.length := by rw [List.length_map, List.length_map]
      refine ⟨_, rfl, D, _, rfl, .inl (SqL.of eD), _, _, rfl, rfl, ?_⟩
      rw [lc]
      refine ⟨_, _, _, ws.length / 2, rfl, rng_two (by omega), fun D2 hD2 => ?_⟩
      refine lc_it (walk_rangeC (lo := 0) (c := 2) (n := ws.length / 2)) (fun i H' => Same H1 H' ∧ ∃ acc, H' D2 = some (.lst acc) ∧ FzAll H' acc (((prs (ws.map rdC)).take i).map eP)) ⟨same_new hD2, [], upd_same, .nil⟩ (fun _ _ _ _ => True.intro) ?_ ?_
      · rintro i x Hx H' hi ⟨s2, acc, eA, fA⟩ ⟨rfl, rfl⟩
        have b1 : 2 * i < ws.length := by omega
        have b2 : 2 * i + 1 < ws.length := by omega
        have g1 : (ws.map rdC)[2 * i]? = some (rdC ws[2 * i]) := by rw [List.getElem?_map, List.getElem?_eq_getElem b1]; rfl
        have g2 : (ws.map rdC)[2 * i + 1]? = some (rdC ws[2 * i + 1]) := by rw [List.getElem?_map, List.getElem?_eq_getElem b2]; rfl
        have a1 : atI ((ws.map rdC).map V.int) (0 + ((i : Nat) : Int) * 2) = some (.int (rdC ws[2 * i])) := by
          rw [show (0 + ((i : Nat) : Int) * 2) = ((2 * i : Nat) : Int) by omega]
          exact atI_nat (by rw [List.getElem?_map, g1]; rfl)
        have a2 : atI ((ws.map rdC).map V.int) (0 + ((i : Nat) : Int) * 2 + 1) = some (.int (rdC ws[2 * i + 1])) := by
          rw [show (0 + ((i : Nat) : Int) * 2 + 1) = ((2 * i + 1 : Nat) : Int) by omega]
          exact atI_nat (by rw [List.getElem?_map, g2]; rfl)
        refine ⟨rfl, _, rfl, _, rfl, D, _, _, _, rfl, rfl, SqL.of (s2 _ _ eD), a1, _, rfl, _, rfl, _, _, rfl, rfl, D, _, _, _, rfl, rfl, SqL.of (s2 _ _ eD), a2, ?_⟩
        refine ⟨(by show 2 ≤ sizeLine; decide), fun t ht => ?_⟩
        have st := same_new (o := .tup [.int (rdC ws[2 * i]), .int (rdC ws[2 * i + 1])]) ht
        have la : acc.length ≤ 1000 := by
          rw [fA.len, List.length_map, List.length_take]
          exact Nat.le_trans (Nat.min_le_left _ _) (by omega)
        refine ⟨acc, st _ _ eA, Nat.lt_of_lt_of_le (show acc.length < 1001 by omega) (by decide), same_upd (s2.trans st) hD2, acc ++ [.ref t], upd_same, FzAll.mv (tups_lst (st _ _ eA)) ?_⟩
        rw [take_next (prs_get _ _ _ _ g1 g2), List.map_append]
        exact (fA.same st).snoc (.tup upd_same (.cons (.int _) (.cons (.int _) .nil)))
      · rintro H' ⟨s2, acc, eA, fA⟩
        rw [List.take_of_length_le (by rw [prs_len, List.length_map]; exact Nat.le_refl _)] at fA
        refine ⟨D2, _, rfl, .inl ⟨SqL.of eA, fun t ht => ?_⟩⟩
        have st := same_new (o := .tup acc) ht
        exact q _ _ ((s1.trans s2).trans st) (.tup upd_same (fA.same st))
end
end K04
namespace GD
open PySem PySem.Spec PyProof.Rows L2
theorem drop_min {α : Type} (l : List α) (a : Nat) : l.drop (min a l.length) = l.drop a := by
  by_cases h : a ≤ l.length
  · rw [Nat.min_eq_left h]
  · rw [Nat.min_eq_right (by omega), List.drop_length, List.drop_eq_nil_of_le (by omega)]
theorem cut_strs (ws : List Str) (a b : Nat) : cutV (ws.map V.str) (some (a : Int)) (some (b : Int)) = (((ws.drop a).take (b - a)).map V.str) := by
  unfold cutV
  rw [HT.sIx_nat, HT.sIx_nat, drop_min, List.map_take, List.map_drop, List.length_map]
  by_cases h : a ≤ ws.length
  · rw [Nat.min_eq_left h]
    by_cases hb : b ≤ ws.length
    · rw [Nat.min_eq_left hb]
    · rw [Nat.min_eq_right (by omega), List.take_of_length_le (by rw [List.length_drop, List.length_map]; exact Nat.le_refl _), List.take_of_length_le (by rw [List.length_drop, List.length_map]; omega)]
  · rw [List.drop_eq_nil_of_le (show (ws.map V.str).length ≤ a by rw [List.length_map]; omega), List.take_nil, List.take_nil]
theorem cut_strs_end (ws : List Str) (a : Nat) : cutV (ws.map V.str) (some (a : Int)) none = ((ws.drop a).map V.str) := by
  unfold cutV
  rw [HT.sIx_nat, HT.sIx_none, drop_min, List.map_drop, List.take_of_length_le]
  rw [List.length_drop]
  by_cases h : a ≤ (ws.map V.str).length
  · rw [Nat.min_eq_left h]
    exact Nat.le_refl _
  · omega
theorem at_str {ws : List Str} {j : Nat} {x : Str} (h : ws[j]? = some x) : atI (ws.map V.str) (j : Int) = some (.str x) := atI_nat (by rw [List.getElem?_map, h]; rfl)
/-- what read_fact tells -/
def rdF (k : Nat) (ws : List Str) : PyData :=
  if ws.length = 1 + 2 * k then .tuple [.str (ws.headD ""), eS (prs (((ws.drop 1).take (2 * k)).map rdC))]
  else if ws.length = 2 * (1 + 2 * k) ∧ ws[1 + 2 * k]? = some ("to" : Str) then .tuple [.str (ws.headD ""), eS (prs (((ws.drop 1).take (2 * k)).map rdC)), eS (prs ((ws.drop (1 + 2 * k + 1)).map rdC))]
  else .none
def spRdF : Sp := fun vs H Q _ => ∃ (l : Addr) (ws : List Str) (k : Nat), vs = [.ref l, .int k] ∧ H l = some (.lst (ws.map V.str)) ∧ ws.length ≤ 1000 ∧ k ≤ 100 ∧ (∀ x ∈ ws, x.length ≤ sizeLine) ∧ ∀ v H', Same H H' → Fz H' v (rdF k ws) → Q v H'
end GD
namespace K04
open PySem PySem.Spec PyProof.Rows L2 GD
section
variable {P : Program} {w : World} {K : PySem.W.Frag} {mg : Str → Option Value} {base : Heap}
abbrev NRf : List Str := ["words", "many", "middle", "here"]
theorem scR2 : FnScope NRf ["words", "many"] (defScope pReadFact) := ⟨rfl, rfl, rfl, by decide +kernel, rfl, by decide +kernel, by decide +kernel⟩
theorem ok_rdfact {f fC fN : Addr} {fd fdC fdN : FuncData} (F : Fun K "read_fact" "read_fact" pReadFact f fd) (S : Reads1 mg) (AC : AtC K mg fC fdC) (AN : At K mg "read_standing" pReadStn ["words"] fN fdN) : FnOk P w K mg base CX0 4 f fd ["words", "many"] spRdF := by
  have GN : FnOk P w K mg base CX0 3 fN fdN ["words"] spRdStn := ok_rdstn AN.F S AC
  refine F.ok scR2 (fun vs H Q E h => ?_) (fun cdv A outer s H vs Q E hr h => ?_)
  · obtain ⟨l, ws, k, rfl, _⟩ := h
    rfl
  · obtain ⟨l, ws, k, rfl, hl, hw, hk, hwl, q⟩ := h
    refine ⟨_, pss_cons (ps_set (i := 2) scR2.nd rfl (.inl rfl) (pe_op op_add pe_int (pe_op op_mul pe_int (pv 1))))
      (pss_cons (ps_set (i := 3) scR2.nd rfl (.inl rfl) (pe_call GN hr rfl AN.g AN.F.kp AN.b .nil pass0 (pa_cons (pe_slice sl_list (pv 0) (po_some pe_int) (po_some (pv 2))) pa_nil)))
      (pss_cons (ps_if (pt_cmpR op_eq (pe_callB call_len_seq (by rfl) S.f.len PySem.boot_len (pa_cons (pv 0) pa_nil)) (pv 2) (nomark _)) (pss_one (ps_ret (pe_tup (pa_cons (pe_ix ix_list (pv 0) pe_int (fun _ _ => rfl)) (pa_cons (pv 3) pa_nil))))) pss_nil)
      (pss_cons (ps_if (pw_and (pt_cmpR op_eq (pe_callB call_len_seq (by rfl) S.f.len PySem.boot_len (pa_cons (pv 0) pa_nil)) (pe_op op_mul pe_int (pv 2)) (nomark _)) (pw_and1 (pt_cmpR op_eq (pe_ix ix_list (pv 0) (pv 2) (fun _ _ => rfl)) pe_str (nomark _)))).pt
        (pss_one (ps_ret (pe_tup (pa_cons (pe_ix ix_list (pv 0) pe_int (fun _ _ => rfl)) (pa_cons (pv 3) (pa_cons (pe_call GN hr rfl AN.g AN.F.kp AN.b .nil pass0 (pa_cons (pe_slice sl_list (pv 0) (po_some (pe_op op_add (pv 2) pe_int)) po_none) pa_nil)) pa_nil)))))) pss_nil)
      (pss_one (ps_ret pe_non))))), ?_⟩
    refine ⟨_, rfl, _, _, rfl, rfl, .inl ⟨by decide, by decide⟩, _, _, rfl, rfl, ?_⟩
    have em : (1 + 2 * (k : Int)) = ((1 + 2 * k : Nat) : Int) := by omega
    show tSeq _ _ _ ([some (.ref l), some (.int k), some (.int (1 + 2 * (k : Int))), none] : L2.St) _
    rw [em]
    generalize hm : 1 + 2 * k = m
    refine ⟨_, rfl, _, rfl, _, rfl, _, rfl, l, _, rfl, SqL.of hl, fun p hp => ?_⟩
    have sp := same_new (o := .lst (cutV (ws.map V.str) (some 1) (some (m : Int)))) hp
    have ep : (upd H p (.lst (cutV (ws.map V.str) (some 1) (some (m : Int))))) p = some (.lst (((ws.drop 1).take (2 * k)).map V.str)) := by
      rw [upd_same, show (some (1 : Int)) = some ((1 : Nat) : Int) from rfl, cut_strs, ← hm, Nat.add_sub_cancel_left]
    generalize upd H p (.lst (cutV (ws.map V.str) (some 1) (some (m : Int)))) = H1 at sp ep ⊢
    refine ⟨p, _, rfl, ep, ?_, ?_, fun v1 H2 s2 f1 => ?_⟩
    · rw [List.length_take]
      exact Nat.le_trans (Nat.min_le_left _ _) (by omega)
    · exact fun x hx => hwl x (List.mem_of_mem_drop (List.mem_of_mem_take hx))
    have s02 := sp.trans s2
    have el := s02 _ _ hl
    have lw : (ws.map V.str).length = ws.length := List.length_map ..
    refine ⟨_, rfl, l, _, rfl, .inl (SqL.of el), _, rfl, rfl, _, rfl, ?_⟩
    by_cases h1 : ws.length = m
    · rw [decide_eq_true (show V.int ((ws.map V.str).length : Int) = V.int (m : Int) by rw [lw, h1])]
      refine iteT ?_
      cases ws with
      | nil => exact absurd h1 (by show ¬ 0 = m; omega)
      | cons w0 r =>
        refine ⟨_, rfl, l, _, 0, _, rfl, rfl, SqL.of el, at0, _, rfl, (by show 2 ≤ sizeLine; decide), fun t ht => ?_⟩
        have st := same_new (o := .tup [.str w0, v1]) ht
        refine q _ _ (s02.trans st) ?_
        rw [rdF, if_pos (by omega)]
        exact .tup upd_same (.cons (.str _) (.cons (f1.same st) .nil))
    · rw [decide_eq_false (show ¬ V.int ((ws.map V.str).length : Int) = V.int (m : Int) from fun z => h1 (by rw [← lw]; exact Int.ofNat_inj.mp (V.int.inj z)))]
      refine iteF ?_
      have none_ : ¬ (ws.length = 2 * m ∧ ws[m]? = some ("to" : Str)) → Q .non H2 := fun z => q _ _ s02 (by
        rw [rdF, if_neg (by omega), hm, if_neg z]
        exact .non)
      refine ⟨_, rfl, l, _, rfl, .inl (SqL.of el), _, rfl, _, _, rfl, rfl, .inl ⟨by decide, by decide⟩, rfl, _, rfl, ?_⟩
      by_cases h2 : ws.length = 2 * m
      · rw [decide_eq_true (show V.int ((ws.map V.str).length : Int) = V.int (2 * (m : Int)) by rw [lw, h2]; congr 1)]
        refine iteT ?_
        have hlt : m < ws.length := by omega
        have ga : ws[m]? = some ws[m] := List.getElem?_eq_getElem hlt
        refine ⟨_, rfl, _, rfl, l, _, _, _, rfl, rfl, SqL.of el, at_str ga, rfl, _, rfl, ?_⟩
        by_cases h3 : ws[m] = ("to" : Str)
        · rw [decide_eq_true (show V.str ws[m] = V.str "to" by rw [h3])]
          refine iteT ?_
          have hfin : ∀ v2 H3, Same H2 H3 → Fz H3 v2 (eS (prs ((ws.drop (m + 1)).map rdC))) → ∀ w0 r, ws = w0 :: r → ∀ t, H3 t = none → Q (.ref t) (upd H3 t (.tup [.str w0, v1, v2])) := fun v2 H3 s3 f2 w0 r ew t ht => by
            have st := same_new (o := .tup [.str w0, v1, v2]) ht
            refine q _ _ ((s02.trans s3).trans st) ?_
            rw [rdF, if_neg (by omega), hm, if_pos ⟨h2, by rw [ga, h3]⟩]
            refine .tup upd_same (.cons ?_ (.cons ((f1.same s3).same st) (.cons (f2.same st) .nil)))
            rw [ew]
            exact .str _
          have hw0 : ∃ w0 r, ws = w0 :: r := by
            cases e : ws with
            | nil =>
              rw [e] at hlt
              exact absurd hlt (by show ¬ m < 0; omega)
            | cons w0 r => exact ⟨w0, r, rfl⟩
          obtain ⟨w0, r, ew⟩ := hw0
          have a0 : atI (ws.map V.str) 0 = some (.str w0) := by
            rw [ew]
            exact at0
          refine ⟨_, rfl, l, _, 0, _, rfl, rfl, SqL.of el, a0, _, rfl, _, rfl, _, rfl, _, _, rfl, rfl, _, rfl, ?_⟩
          dsimp only [tNoPart]
          refine ⟨l, _, rfl, SqL.of el, fun p2 hp2 => ?_⟩
          have em1 : ((m : Int) + 1) = ((m + 1 : Nat) : Int) := by omega
          rw [em1, cut_strs_end]
          have sp2 := same_new (o := .lst ((ws.drop (m + 1)).map V.str)) hp2
          refine ⟨p2, _, rfl, upd_same, ?_, fun x hx => hwl x (List.mem_of_mem_drop hx), fun v2 H3 s3 f2 => ?_⟩
          · rw [List.length_drop]
            omega
          · exact ⟨(by show 3 ≤ sizeLine; decide), fun t ht => hfin v2 H3 (sp2.trans s3) f2 w0 r ew t ht⟩
        · rw [decide_eq_false (show ¬ V.str ws[m] = V.str "to" from fun z => h3 (V.str.inj z))]
          refine iteF ?_
          exact none_ fun z => h3 (by rw [ga] at z; exact Option.some.inj z.2)
      · rw [decide_eq_false (show ¬ V.int ((ws.map V.str).length : Int) = V.int (2 * (m : Int)) from fun z => h2 (by rw [lw] at z; have := V.int.inj z; omega))]
        refine iteF (iteF ?_)
        exact none_ fun z => h2 z.1
end
end K04
namespace GD
open PySem PySem.Spec PyProof.Rows L2
/-- a list or a tuple, walked -/
def iSeq (K : PySem.W.Frag) (t : TE) : TI := fun σ H R => iList K t σ H R ∨ iTup K t σ H R
theorem pi_seq {X : Cx} {tg l : Expr} {t : TE} (h : PE X l t) : PI X tg l (iSeq X.K t) := ⟨fun pins s σ H R I q => q.elim (fun q => (pi_list h).run pins s σ H R I q) fun q => (pi_tup h).run pins s σ H R I q⟩
/-- a list or a tuple of frozen data -/
def SqAt (H : Hp) (l : Addr) (ds : List PyData) : Prop := ∃ xs, (H l = some (.lst xs) ∨ H l = some (.tup xs)) ∧ FzAll H xs ds
def lim (x : Str) : Nat := if x = ("let" : Str) then 24 else if x = ("not" : Str) then 6 else 4
def IsKind (x : Str) : Prop := x = ("let" : Str) ∨ x = ("not" : Str) ∨ x = ("as" : Str)
theorem kindS_is (f : Fact) : IsKind (kindS f) := by
  cases f
  · exact .inl rfl
  · exact .inr (.inl rfl)
  · exact .inr (.inr rfl)
def spFull : Sp := fun vs H Q _ => ∃ (l : Addr) (x : Str) (fs : List Fact), vs = [.ref l, .str x] ∧ SqAt H l (fs.map eF) ∧ fs.length ≤ 1000 ∧ IsKind x ∧ ∀ H', Same H H' → Q (.bl (decide (lim x ≤ cnt x fs))) H'
theorem cnt_take {x : Str} {fs : List Fact} {i : Nat} {f : Fact} (h : fs[i]? = some f) : cnt x (fs.take (i + 1)) = cnt x (fs.take i) + one3 f x := by rw [take_next h, cnt_snoc]
end GD
namespace K04
open PySem PySem.Spec PyProof.Rows L2 GD
section
variable {P : Program} {w : World} {K : PySem.W.Frag} {mg : Str → Option Value} {base : Heap}
/-- the table of bounds -/
def Told (K : PySem.W.Frag) (w : World) (mg : Str → Option Value) : Prop := ∃ p, mg "MOST_TOLD" = some (.ref p) ∧ ∀ x, IsKind x → KDct K w p x (.int (lim x))
abbrev NFu : List Str := ["facts", "kind", "fact"]
theorem scFu : FnScope NFu ["facts", "kind"] (defScope pIsFull) := ⟨rfl, rfl, rfl, by decide +kernel, rfl, by decide +kernel, by decide +kernel⟩
theorem ok_isfull {f : Addr} {fd : FuncData} (F : Fun K "is_full" "is_full" pIsFull f fd) (S : Forms1 mg) (T : Told K w mg) : FnOk P w K mg base CX0 1 f fd ["facts", "kind"] spFull := by
  refine F.ok scFu (fun vs H Q E h => ?_) (fun cdv A outer s H vs Q E hr h => ?_)
  · obtain ⟨l, x, fs, rfl, _⟩ := h
    rfl
  · obtain ⟨l, x, fs, rfl, ⟨xs, hl, fx⟩, h10, hk, q⟩ := h
    obtain ⟨tp, gt, dt⟩ := T
    refine ⟨_, pss_one (ps_ret (pe_cmpR op_ge (pe_callB call_len_seq (by rfl) S.len PySem.boot_len (pa_cons (pe_lc (own := [("fact", 2)]) (g := gName 2) rfl scFu.nd (pi_seq (pv 0)) (blkOk_by (N := NFu) (sc := defScope pIsFull) (by decide +kernel))
        (fun _ _ _ _ _ => pg_name (i := 2) scFu.nd rfl (.inl rfl)) (fun _ _ _ _ _ => pts_one (pt_cmpR op_eq (pe_ix (r := rIxT K) ix_tup (pv 2) pe_int (fun _ _ => rfl)) (pv 1) (nomark _))) (fun _ _ _ _ _ => pv 2)) pa_nil))
      (pe_ix (r := rIxD K w) ix_kdict (pe_glob (v := .ref tp) (by rfl) gt rfl) (pv 1) (fun _ _ => rfl)) (nomark _))), ?_⟩
    have lx : xs.length = fs.length := by rw [fx.len, List.length_map]
    have tu : ∀ {H' : Hp}, Same H H' → FzAll H' xs (fs.map eF) := fun s => fx.same s
    have body : ∀ (D : Addr), H D = none → ∀ (i : Nat) (v : V) (H' : Hp), xs[i]? = some v → (Same H H' ∧ ∃ acc, H' D = some (.lst acc) ∧ acc.length = cnt x (fs.take i)) →
        ∃ b r f, fs[i]? = some f ∧ v = .ref b ∧ H' b = some (.tup (.str (kindS f) :: r)) ∧ ∃ acc, H' D = some (.lst acc) ∧ acc.length < sizeLine ∧ (kindS f = x → Same H (upd H' D (.lst (acc ++ [v]))) ∧ (acc ++ [v]).length = cnt x (fs.take (i + 1))) ∧ (kindS f ≠ x → acc.length = cnt x (fs.take (i + 1))) := by
      rintro D D0 i v H' hv ⟨s1, acc, eA, la⟩
      obtain ⟨f0, hf0, fz⟩ := (tu s1).atM hv
      obtain ⟨b, r, rfl, hb⟩ := fz.fact
      have hi : i < fs.length := (List.getElem?_eq_some_iff.mp hf0).1
      have ct : cnt x (fs.take i) ≤ i := by
        unfold GD.cnt
        exact Nat.le_trans (List.length_filter_le _ _) (by rw [List.length_take]; exact Nat.min_le_left _ _)
      refine ⟨b, r, f0, hf0, rfl, hb, acc, eA, Nat.lt_of_lt_of_le (show acc.length < 1001 by omega) (by decide), fun e => ⟨same_upd s1 D0, ?_⟩, fun e => ?_⟩
      · rw [cnt_take hf0, List.length_append, la, one3, if_pos e]
        rfl
      · rw [cnt_take hf0, la, one3, if_neg e]
        rfl
    rcases hl with hl | hl
    · refine .inl ⟨_, rfl, l, rfl, ⟨_, SqL.of hl⟩, fun D hD => ?_⟩
      refine lc_it (walk_list (K := K) (a := l) (xs := xs)) (fun i H' => Same H H' ∧ ∃ acc, H' D = some (.lst acc) ∧ acc.length = GD.cnt x (fs.take i)) ⟨same_new hD, [], upd_same, rfl⟩ (fun i H' _ ⟨s1, _⟩ => SqL.of (s1 _ _ hl)) ?_ ?_
      · rintro i v Hx H' hi hP ⟨rfl, hv⟩
        obtain ⟨b, r, f0, hf0, rfl, hb, acc, eA, la, h1, h2⟩ := body D hD i v _ hv hP
        refine ⟨rfl, _, rfl, b, _, 0, _, rfl, rfl, SqT.of hb, at0, _, rfl, rfl, _, rfl, ?_⟩
        by_cases e : kindS f0 = x
        · rw [decide_eq_true (show V.str (kindS f0) = V.str x by rw [e])]
          refine iteT ⟨_, rfl, acc, eA, la, (h1 e).1, _, upd_same, (h1 e).2⟩
        · rw [decide_eq_false (show ¬ V.str (kindS f0) = V.str x from fun z => e (V.str.inj z))]
          exact iteF ⟨hP.1, acc, eA, h2 e⟩
      · rintro H' ⟨s1, acc, eA, la⟩
        rw [lx, List.take_length] at la
        refine ⟨D, acc, rfl, .inl (SqL.of eA), _, rfl, tp, x, _, rfl, rfl, dt x hk, _, _, rfl, rfl, ?_⟩
        have z := q H' s1
        rw [← la, show decide (lim x ≤ acc.length) = (decide (((lim x : Nat) : Int) ≤ (acc.length : Int))) from decide_eq_decide.mpr (by omega)] at z
        exact z
    · refine .inr ⟨_, rfl, l, rfl, ⟨_, SqT.of hl⟩, fun D hD => ?_⟩
      refine lc_it (walk_tup (K := K) (a := l) (xs := xs)) (fun i H' => Same H H' ∧ ∃ acc, H' D = some (.lst acc) ∧ acc.length = GD.cnt x (fs.take i)) ⟨same_new hD, [], upd_same, rfl⟩ (fun i H' _ ⟨s1, _⟩ => SqT.of (s1 _ _ hl)) ?_ ?_
      · rintro i v Hx H' hi hP ⟨rfl, hv⟩
        obtain ⟨b, r, f0, hf0, rfl, hb, acc, eA, la, h1, h2⟩ := body D hD i v _ hv hP
        refine ⟨rfl, _, rfl, b, _, 0, _, rfl, rfl, SqT.of hb, at0, _, rfl, rfl, _, rfl, ?_⟩
        by_cases e : kindS f0 = x
        · rw [decide_eq_true (show V.str (kindS f0) = V.str x by rw [e])]
          refine iteT ⟨_, rfl, acc, eA, la, (h1 e).1, _, upd_same, (h1 e).2⟩
        · rw [decide_eq_false (show ¬ V.str (kindS f0) = V.str x from fun z => e (V.str.inj z))]
          exact iteF ⟨hP.1, acc, eA, h2 e⟩
      · rintro H' ⟨s1, acc, eA, la⟩
        rw [lx, List.take_length] at la
        refine ⟨D, acc, rfl, .inl (SqL.of eA), _, rfl, tp, x, _, rfl, rfl, dt x hk, _, _, rfl, rfl, ?_⟩
        have z := q H' s1
        rw [← la, show decide (lim x ≤ acc.length) = (decide (((lim x : Nat) : Int) ≤ (acc.length : Int))) from decide_eq_decide.mpr (by omega)] at z
        exact z
end
end K04
namespace GD
open PySem PySem.Spec PyProof.Rows L2
/-! a line's words -/
theorem app_assoc (x y z : Str) : (x ++ y) ++ z = x ++ (y ++ z) := TL.ext_tl (by rw [TL.tl_append, TL.tl_append, TL.tl_append, TL.tl_append, List.append_assoc])
theorem join_cons {y x : Str} {zs : List Str} (h : zs ≠ []) : Txt.join y (x :: zs) = x ++ y ++ Txt.join y zs := by
  rw [TL.join_eq, TL.join_eq]
  cases zs with
  | nil => exact absurd rfl h
  | cons z r => rfl
theorem join_one {y x : Str} : Txt.join y [x] = x := by
  rw [TL.join_eq]
  rfl
theorem join_app {y : Str} : ∀ {as bs : List Str}, as ≠ [] → bs ≠ [] → Txt.join y (as ++ bs) = Txt.join y as ++ y ++ Txt.join y bs
  | [], _, h, _ => absurd rfl h
  | [a], bs, _, h => by rw [List.singleton_append, join_cons h, join_one]
  | a :: b :: r, bs, _, h => by
    rw [List.cons_append, join_cons (by simp), join_app (as := b :: r) (by simp) h, join_cons (zs := b :: r) (by simp)]
    simp only [app_assoc]
def wS (s : Stn) : List Str := s.flatMap fun p => [nT p.1, nT p.2]
theorem wS_cons (p : Int × Int) (s : Stn) : wS (p :: s) = nT p.1 :: nT p.2 :: wS s := rfl
theorem wS_len : ∀ s : Stn, (wS s).length = 2 * s.length
  | [] => rfl
  | p :: s => by
    rw [wS_cons, List.length_cons, List.length_cons, wS_len s, List.length_cons]
    omega
theorem wS_ne {s : Stn} (h : s ≠ []) : wS s ≠ [] := by
  cases s with
  | nil => exact absurd rfl h
  | cons p s => rw [wS_cons]; simp
theorem sT_words : ∀ {s : Stn}, s ≠ [] → sT s = Txt.join " " (wS s)
  | [], h => absurd rfl h
  | [p], _ => by
    rw [sT, List.map_singleton, join_one, wS_cons, join_cons (by simp)]
    show pT p = nT p.1 ++ " " ++ Txt.join " " [nT p.2]
    rw [join_one]
    rfl
  | p :: q :: s, _ => by
    have ih := sT_words (s := q :: s) (by simp)
    rw [sT] at ih
    have ne : nT p.2 :: wS (q :: s) ≠ [] := fun z => by cases z
    rw [sT, List.map_cons, join_cons (by simp), ih, wS_cons p (q :: s), join_cons ne, join_cons (wS_ne (fun z => by cases z)), pT]
    simp only [app_assoc]
theorem prs_wS {n : Int} : ∀ {s : Stn}, Bd n s → n < 100 → prs ((wS s).map rdC) = s
  | [], _, _ => rfl
  | p :: s, h, hn => by
    have z := h p List.mem_cons_self
    obtain ⟨a, ha⟩ := Int.eq_ofNat_of_zero_le (show 0 ≤ p.1 by omega)
    obtain ⟨b, hb⟩ := Int.eq_ofNat_of_zero_le (show 0 ≤ p.2 by omega)
    rw [wS_cons, List.map_cons, List.map_cons, prs, prs_wS (fun q hq => h q (List.mem_cons_of_mem _ hq)) hn]
    rw [show rdC (nT p.1) = p.1 by rw [ha]; exact rdC_num (by omega), show rdC (nT p.2) = p.2 by rw [hb]; exact rdC_num (by omega)]
def wF : Fact → List Str
  | .let_ s => ("let" : Str) :: wS s
  | .not_ s => ("not" : Str) :: wS s
  | .as_ s t => (("as" : Str) :: wS s) ++ (("to" : Str) :: wS t)
theorem fT_words {k : Nat} {n : Int} {f : Fact} (h : FactB k n f) (hk : 1 ≤ k) : fT f = Txt.join " " (wF f) := by
  have ne : ∀ s : Stn, s.length = k → s ≠ [] := fun s e z => by
    rw [z] at e
    have z2 : 0 = k := e
    omega
  cases f with
  | let_ s =>
    rw [fT, wF, join_cons (wS_ne (ne s h.1)), sT_words (ne s h.1)]
  | not_ s =>
    rw [fT, wF, join_cons (wS_ne (ne s h.1)), sT_words (ne s h.1)]
  | as_ s t =>
    rw [fT, wF, join_app (fun z => by cases z) (fun z => by cases z), join_cons (wS_ne (ne s h.1)), join_cons (wS_ne (ne t h.2.2.1)), sT_words (ne s h.1), sT_words (ne t h.2.2.1)]
    rw [show ("as " : Str) = "as" ++ " " from rfl, show (" to " : Str) = " " ++ ("to" ++ " ") from rfl]
    simp only [app_assoc]
/-- a sign that no number has -/
def Free (c : Nat) (x : Str) : Prop := c ∉ TL.tl x
theorem free_nT {c : Nat} {i : Int} (h0 : 0 ≤ i) (hc : c < 48 ∨ 57 < c) : Free c (nT i) := by
  obtain ⟨n, rfl⟩ := Int.eq_ofNat_of_zero_le h0
  unfold Free
  rw [nT, TL.tl_num]
  exact TL.numL_free hc
theorem free_wS {c : Nat} {n : Int} {s : Stn} (h : Bd n s) (hc : c < 48 ∨ 57 < c) : ∀ x ∈ wS s, Free c x := fun x hx => by
  obtain ⟨p, hp, hm⟩ := List.mem_flatMap.mp hx
  have z := h p hp
  rcases List.mem_cons.mp hm with e | e
  · rw [e]
    exact free_nT (by omega) hc
  · rw [List.mem_singleton.mp e]
    exact free_nT (by omega) hc
theorem free_wF {c : Nat} {k : Nat} {n : Int} {f : Fact} (h : FactB k n f) (hc : c < 48) : ∀ x ∈ wF f, Free c x := fun x hx => by
  have lets : ∀ w : Str, w = ("let" : Str) ∨ w = ("not" : Str) ∨ w = ("as" : Str) ∨ w = ("to" : Str) → Free c w := fun w hw => by
    have all : ∀ d ∈ TL.tl w, 97 ≤ d := by rcases hw with e | e | e | e <;> rw [e] <;> decide
    intro m
    have := all c m
    omega
  cases f with
  | let_ s =>
    rcases List.mem_cons.mp hx with e | e
    · exact lets x (.inl e)
    · exact free_wS h.2 (.inl hc) x e
  | not_ s =>
    rcases List.mem_cons.mp hx with e | e
    · exact lets x (.inr (.inl e))
    · exact free_wS h.2 (.inl hc) x e
  | as_ s t =>
    rcases List.mem_append.mp hx with e | e
    · rcases List.mem_cons.mp e with e | e
      · exact lets x (.inr (.inr (.inl e)))
      · exact free_wS h.2.1 (.inl hc) x e
    · rcases List.mem_cons.mp e with e | e
      · exact lets x (.inr (.inr (.inr e)))
      · exact free_wS h.2.2.2.1 (.inl hc) x e
theorem split_sp {ws : List Str} (h0 : ws ≠ []) (h : ∀ x ∈ ws, Free 32 x) : Txt.split (Txt.join " " ws) " " = ws := TL.split_join (s := 32) (S := []) rfl (by decide +kernel) h0 h
theorem split_nl {ws : List Str} (h0 : ws ≠ []) (h : ∀ x ∈ ws, Free 10 x) : Txt.split (Txt.join "\n" ws) "\n" = ws := TL.split_join (s := 10) (S := []) rfl (by decide +kernel) h0 h
theorem wF_ne (f : Fact) : wF f ≠ [] := by cases f <;> exact fun z => by cases z
theorem split_fT {k : Nat} {n : Int} {f : Fact} (h : FactB k n f) (hk : 1 ≤ k) : Txt.split (fT f) " " = wF f := by
  rw [fT_words h hk]
  exact split_sp (wF_ne f) (free_wF h (by decide))
theorem rdF_wF {k : Nat} {n : Int} {f : Fact} (h : FactB k n f) (hn : n < 100) : rdF k (wF f) = eF f := by
  cases f with
  | let_ s =>
    have l := wS_len s
    rw [h.1] at l
    rw [wF, rdF, if_pos (by rw [List.length_cons, l]; omega), List.drop_one, List.tail_cons, List.take_of_length_le (by omega), prs_wS h.2 hn]
    rfl
  | not_ s =>
    have l := wS_len s
    rw [h.1] at l
    rw [wF, rdF, if_pos (by rw [List.length_cons, l]; omega), List.drop_one, List.tail_cons, List.take_of_length_le (by omega), prs_wS h.2 hn]
    rfl
  | as_ s t =>
    have l := wS_len s
    rw [h.1] at l
    have l2 := wS_len t
    rw [h.2.2.1] at l2
    have hl : (("as" : Str) :: wS s).length = 1 + 2 * k := by rw [List.length_cons, l]; omega
    have hl2 : (("as" : Str) :: wS s ++ ("to" : Str) :: wS t).length = 2 * (1 + 2 * k) := by rw [List.length_append, hl, List.length_cons, l2]; omega
    have d1 : (((("as" : Str) :: wS s) ++ (("to" : Str) :: wS t)).drop 1).take (2 * k) = wS s := by
      rw [List.cons_append, List.drop_one, List.tail_cons, ← l, List.take_left]
    have d2 : ((("as" : Str) :: wS s) ++ (("to" : Str) :: wS t)).drop (1 + 2 * k + 1) = wS t := by
      rw [show (1 + 2 * k + 1) = (("as" : Str) :: wS s).length + 1 by rw [hl], List.drop_append]
      simp
    have d3 : (((("as" : Str) :: wS s) ++ (("to" : Str) :: wS t)))[1 + 2 * k]? = some ("to" : Str) := by
      rw [← hl, List.getElem?_append_right (Nat.le_refl _), Nat.sub_self]
      rfl
    rw [wF, rdF, if_neg (by rw [hl2]; omega), if_pos ⟨hl2, d3⟩, d1, d2, prs_wS h.2.1 hn, prs_wS h.2.2.2.1 hn]
    rfl
end GD
namespace GD
open PySem PySem.Spec PyProof.Rows L2
theorem eqv_eP {p q : Int × Int} (h : PyData.eqv (eP p) (eP q) = true) : p = q := by
  rw [eP, eP, PyData.eqv, PyData.eqvAll, PyData.eqvAll, PyData.eqvAll, PyData.eqv, PyData.eqv, Bool.and_true, Bool.and_eq_true, beq_iff_eq, beq_iff_eq] at h
  exact Prod.ext h.1 h.2
theorem eqv_allP : ∀ {s t : Stn}, PyData.eqvAll (s.map eP) (t.map eP) = true → s = t
  | [], [], _ => rfl
  | [], q :: t, h => by
    rw [List.map_nil, List.map_cons, PyData.eqvAll] at h
    cases h
  | p :: s, [], h => by
    rw [List.map_nil, List.map_cons, PyData.eqvAll] at h
    cases h
  | p :: s, q :: t, h => by
    rw [List.map_cons, List.map_cons, PyData.eqvAll, Bool.and_eq_true] at h
    rw [eqv_eP h.1, eqv_allP h.2]
theorem eqv_eS {s t : Stn} (h : PyData.eqv (eS s) (eS t) = true) : s = t := by
  rw [eS, eS, PyData.eqv] at h
  exact eqv_allP h
theorem eqv_two {x y : Str} {d e : PyData} (h : PyData.eqv (.tuple [.str x, d]) (.tuple [.str y, e]) = true) : x = y ∧ PyData.eqv d e = true := by
  simp only [PyData.eqv, PyData.eqvAll, Bool.and_true, Bool.and_eq_true, beq_iff_eq] at h
  exact h
theorem eqv_three {x y : Str} {d e d' e' : PyData} (h : PyData.eqv (.tuple [.str x, d, d']) (.tuple [.str y, e, e']) = true) : PyData.eqv d e = true ∧ PyData.eqv d' e' = true := by
  simp only [PyData.eqv, PyData.eqvAll, Bool.and_true, Bool.and_eq_true, beq_iff_eq] at h
  exact h.2
theorem eqv_23 {d1 d2 e1 e2 e3 : PyData} (h : PyData.eqv (.tuple [d1, d2]) (.tuple [e1, e2, e3]) = true) : False := by simp [PyData.eqv, PyData.eqvAll] at h
theorem eqv_32 {d1 d2 e1 e2 e3 : PyData} (h : PyData.eqv (.tuple [e1, e2, e3]) (.tuple [d1, d2]) = true) : False := by simp [PyData.eqv, PyData.eqvAll] at h
theorem eqv_eF : ∀ {f g : Fact}, PyData.eqv (eF f) (eF g) = true → f = g
  | .let_ s, .let_ t, h => by rw [eqv_eS (eqv_two h).2]
  | .let_ s, .not_ t, h => absurd (eqv_two h).1 (by decide)
  | .not_ s, .let_ t, h => absurd (eqv_two h).1 (by decide)
  | .not_ s, .not_ t, h => by rw [eqv_eS (eqv_two h).2]
  | .let_ s, .as_ t u, h => (eqv_23 h).elim
  | .not_ s, .as_ t u, h => (eqv_23 h).elim
  | .as_ s t, .let_ u, h => (eqv_32 h).elim
  | .as_ s t, .not_ u, h => (eqv_32 h).elim
  | .as_ s t, .as_ u v, h => by rw [eqv_eS (eqv_three h).1, eqv_eS (eqv_three h).2]
theorem not_eqv {f g : Fact} (h : f ≠ g) : PyData.eqv (eF f) (eF g) = false := by
  cases c : PyData.eqv (eF f) (eF g) with
  | false => rfl
  | true => exact absurd (eqv_eF c) h
theorem okN_of {k : Nat} {s : Stn} (h : s.length = k) (b : Bd 40 s) : okN k s = true := by
  rw [okN, decide_eq_true h, Bool.true_and]
  refine List.all_eq_true.mpr fun p hp => ?_
  have z := b p hp
  rw [okQ, decide_eq_true (by omega), decide_eq_true (by omega), decide_eq_true (by omega)]
  rfl
theorem okT_of {k : Nat} {f : Fact} (h : FactB k 40 f) : okT k f = true := by
  cases f with
  | let_ s => exact okN_of h.1 h.2
  | not_ s => exact okN_of h.1 h.2
  | as_ s t =>
    obtain ⟨k1, b1, k2, b2, ne⟩ := h
    have e : PyData.eqv (eS s) (eS t) = false := by
      cases c : PyData.eqv (eS s) (eS t) with
      | false => rfl
      | true => exact absurd (eqv_eS c) ne
    rw [okT, okN_of k1 b1, okN_of k2 b2, e]
    rfl
theorem FactB.le {k : Nat} {n m : Int} {f : Fact} (h : FactB k n f) (l : n ≤ m) : FactB k m f := by
  cases f with
  | let_ s => exact ⟨h.1, h.2.le l⟩
  | not_ s => exact ⟨h.1, h.2.le l⟩
  | as_ s t => exact ⟨h.1, h.2.1.le l, h.2.2.1, h.2.2.2.1.le l, h.2.2.2.2⟩
theorem FactB.l1 {k : Nat} {n : Int} {f : Fact} (h : FactB k n f) {s : Stn} (e : f = .let_ s ∨ f = .not_ s) : s.length = k := by
  rcases e with rfl | rfl
  · exact h.1
  · exact h.1
theorem FactB.l2 {k : Nat} {n : Int} {f : Fact} (h : FactB k n f) {s t : Stn} (e : f = .as_ s t) : s.length = k ∧ t.length = k := by
  subst e
  exact ⟨h.1, h.2.2.1⟩
/-- a statement that is never come to -/
theorem ps_no {X : Cx} {st : Stmt} : PS X st (fun _ _ _ => False) := ⟨fun _ _ _ _ _ _ h => h.elim⟩
/-- the facts of a good book -/
structure FactsOk (k : Nat) (fs : List Fact) : Prop where
  b : ∀ f ∈ fs, FactB k 40 f
  nd : fs.Nodup
  lm : ∀ x, IsKind x → GD.cnt x fs ≤ lim x
theorem cnt_pre (x : Str) (fs : List Fact) (i : Nat) : GD.cnt x (fs.take i) ≤ GD.cnt x fs := by
  unfold GD.cnt
  exact ((List.take_sublist i fs).filter _).length_le
theorem cnt_all (fs : List Fact) : fs.length = GD.cnt "let" fs + GD.cnt "not" fs + GD.cnt "as" fs := by
  induction fs with
  | nil => rfl
  | cons f r ih =>
    have e : ∀ x, GD.cnt x (f :: r) = one3 f x + GD.cnt x r := fun x => by
      unfold GD.cnt one3
      rw [List.filter_cons]
      by_cases h : kindS f = x
      · rw [if_pos (decide_eq_true h), if_pos h, List.length_cons]
        omega
      · rw [if_neg (by simp [h]), if_neg h]
        omega
    rw [List.length_cons, ih, e, e, e]
    have z : one3 f "let" + one3 f "not" + one3 f "as" = 1 := by cases f <;> rfl
    omega
theorem FactsOk.len {k : Nat} {fs : List Fact} (h : FactsOk k fs) : fs.length ≤ 34 := by
  have a := h.lm "let" (.inl rfl)
  have b := h.lm "not" (.inr (.inl rfl))
  have c := h.lm "as" (.inr (.inr rfl))
  have e := cnt_all fs
  have l1 : lim "let" = 24 := rfl
  have l2 : lim "not" = 6 := rfl
  have l3 : lim "as" = 4 := rfl
  omega
theorem FactsOk.room {k : Nat} {fs : List Fact} (h : FactsOk k fs) {i : Nat} {f : Fact} (e : fs[i]? = some f) : GD.cnt (kindS f) (fs.take i) < lim (kindS f) := by
  have a := h.lm (kindS f) (kindS_is f)
  have b := cnt_pre (kindS f) fs (i + 1)
  rw [cnt_take e, one3, if_pos rfl] at b
  omega
theorem FactsOk.new {k : Nat} {fs : List Fact} (h : FactsOk k fs) {i : Nat} {f : Fact} (e : fs[i]? = some f) : (((fs.take i).map eF).any fun z => PyData.eqv z (eF f)) = false := by
  refine List.any_eq_false.mpr fun d hd => ?_
  obtain ⟨g, hg, rfl⟩ := List.mem_map.mp hd
  rw [not_eqv]
  · exact fun z => by cases z
  · rintro rfl
    obtain ⟨j, hj, ej⟩ := List.getElem_of_mem hg
    have hij : j < i := by
      rw [List.length_take] at hj
      omega
    obtain ⟨hi, ei⟩ := List.getElem?_eq_some_iff.mp e
    rw [List.getElem_take] at ej
    exact List.pairwise_iff_getElem.mp h.nd j i (by omega) hi hij (by rw [ej, ei])
end GD
namespace GD
open PySem PySem.Spec PyProof.Rows L2
def spRdFs : Sp := fun vs H Q _ => ∃ (l : Addr) (ls : List Str) (st k : Nat) (fs : List Fact), vs = [.ref l, .int st, .int k] ∧ H l = some (.lst (ls.map V.str)) ∧ st ≤ ls.length ∧ ls.drop st = fs.map fT ∧ 1 ≤ k ∧ k ≤ 4 ∧ FactsOk k fs ∧ st ≤ 1000 ∧ ∀ v H', Same H H' → Fz H' v (.tuple (fs.map eF)) → Q v H'
theorem len_wF {k : Nat} {n : Int} {f : Fact} (h : FactB k n f) : (wF f).length ≤ 2 + 4 * k := by
  cases f with
  | let_ s =>
    have l := wS_len s
    rw [h.1] at l
    rw [wF, List.length_cons, l]
    omega
  | not_ s =>
    have l := wS_len s
    rw [h.1] at l
    rw [wF, List.length_cons, l]
    omega
  | as_ s t =>
    have l := wS_len s
    rw [h.1] at l
    have l2 := wS_len t
    rw [h.2.2.1] at l2
    rw [wF, List.length_append, List.length_cons, List.length_cons, l, l2]
    omega
theorem len_joined {y : Str} : ∀ {ys : List Str} {x : Str}, x ∈ ys → x.length ≤ (Txt.join y ys).length
  | [z], x, h => by
    rw [List.mem_singleton.mp h, join_one]
    exact Nat.le_refl _
  | a :: b :: r, x, h => by
    rw [join_cons (by simp), len_app, len_app]
    rcases List.mem_cons.mp h with e | e
    · rw [e]
      omega
    · have := len_joined (y := y) e
      omega
theorem len_word {k : Nat} {n : Int} {f : Fact} (h : FactB k n f) (hk : 1 ≤ k) (hk4 : k ≤ 4) (hn : n ≤ 1000) : ∀ x ∈ wF f, x.length ≤ sizeLine := fun x hx => by
  have a := len_joined (y := " ") hx
  rw [← fT_words h hk] at a
  have b := len_fT h hn
  exact small_len (by omega)
end GD
namespace K04
open PySem PySem.Spec PyProof.Rows L2 GD
section
variable {P : Program} {w : World} {K : PySem.W.Frag} {mg : Str → Option Value} {base : Heap}
/-- the forms' and the reader's defs, where they stand -/
structure Reader (K : PySem.W.Frag) (mg : Str → Option Value) (fI fB fW fP fN fF fL fR fS fC : Addr) (fdI fdB fdW fdP fdN fdF fdL fdR fdS fdC : FuncData) : Prop where
  I : At K mg "is_integer" pIsInt ["value"] fI fdI
  B : At K mg "is_number" pIsNumb ["value", "many"] fB fdB
  W : At K mg "is_word" pIsWord ["value", "words"] fW fdW
  P : At K mg "is_pair" pIsPair ["value"] fP fdP
  N : At K mg "is_standing" pIsStn ["value", "many"] fN fdN
  F : At K mg "is_fact" pIsFact ["value", "many"] fF fdF
  L : At K mg "is_full" pIsFull ["facts", "kind"] fL fdL
  R : At K mg "read_fact" pReadFact ["words", "many"] fR fdR
  S : At K mg "read_standing" pReadStn ["words"] fS fdS
  C : AtC K mg fC fdC
abbrev NFs : List Str := ["lines", "start", "many", "facts", "at", "fact"]
theorem scFs : FnScope NFs ["lines", "start", "many"] (defScope pReadFacts) := ⟨rfl, rfl, rfl, by decide +kernel, rfl, by decide +kernel, by decide +kernel⟩
theorem ok_rdfacts {f fI fB fW fP fN fF fL fR fS fC : Addr} {fd fdI fdB fdW fdP fdN fdF fdL fdR fdS fdC : FuncData} (F : Fun K "read_facts" "read_facts" pReadFacts f fd) (S : Reads1 mg) (T : Told K w mg)
    (D : Reader K mg fI fB fW fP fN fF fL fR fS fC fdI fdB fdW fdP fdN fdF fdL fdR fdS fdC) : FnOk P w K mg base CX0 5 f fd ["lines", "start", "many"] spRdFs := by
  have GR : FnOk P w K mg base CX0 4 fR fdR ["words", "many"] spRdF := ok_rdfact D.R.F S D.C D.S
  have GF : FnOk P w K mg base CX0 4 fF fdF ["value", "many"] spFact := ok_isfact D.F.F S.f D.I D.P D.N D.W
  have GL : FnOk P w K mg base CX0 1 fL fdL ["facts", "kind"] spFull := ok_isfull D.L.F S.f T
  refine F.ok scFs (fun vs H Q E h => ?_) (fun cdv A outer s H vs Q E hr h => ?_)
  · obtain ⟨l, ls, st, k, fs, rfl, _⟩ := h
    rfl
  · obtain ⟨l, ls, st, k, fs, rfl, hl, hst, hd, hk1, hk4, ok, hs, q⟩ := h
    have hr1 : Room 1 _ := hr.mono (by decide)
    have hr3 : Room 4 _ := hr.mono (by decide)
    refine ⟨_, pss_cons (ps_set (i := 3) scFs.nd rfl (.inl rfl) (pe_lst pa_nil))
      (pss_cons (ps_for PassesOwn.never rfl (pi_range2 (by rfl) S.rng (pa_cons (pv 1) (pa_cons (pe_callB call_len_seq (by rfl) S.f.len PySem.boot_len (pa_cons (pv 0) pa_nil)) pa_nil))) (pg_name (i := 4) scFs.nd rfl (.inl rfl))
        (pss_cons (ps_set (i := 5) scFs.nd rfl (.inl rfl) (pe_call GR hr3 (by rfl) D.R.g D.R.F.kp D.R.b .nil pass0 (pa_cons (pe_bm PySem.F.plainAttrs_str PySem.F.slot_str_split PySem.F.type_str_split mt_split (pe_ix ix_list (pv 0) (pv 4) (fun _ _ => rfl)) (pa_cons pe_str pa_nil)) (pa_cons (pv 2) pa_nil))))
        (pss_cons (ps_if (pw_or (pt_not (pt_val (pe_call GF hr (by rfl) D.F.g D.F.F.kp D.F.b .nil pass0 (pa_cons (pv 5) (pa_cons (pv 2) pa_nil))))) (pw_or (pt_cmpR (op_inD (u65 hr)) (pv 5) (pv 3) (by rfl))
            (pw_or1 (pt_val (pe_call GL hr1 (by rfl) D.L.g D.L.F.kp D.L.b .nil pass0 (pa_cons (pv 3) (pa_cons (pe_ix ix_tup (pv 5) pe_int (fun _ _ => rfl)) pa_nil))))))).pt (pss_one ps_no) pss_nil)
        (pss_one (ps_expr (pe_bm PySem.F.plainAttrs_list PySem.F.slot_list_append PySem.F.type_list_append mt_append (pv 3) (pa_cons (pv 5) pa_nil)))))))
      (pss_one (ps_ret (pe_callTy call_tuple_of (by rfl) S.f.tup (by decide +kernel) (pa_cons (pv 3) pa_nil))))), ?_⟩
    have lfs := ok.len
    have lls : ls.length = st + fs.length := by
      have z := congrArg List.length hd
      rw [List.length_drop, List.length_map] at z
      omega
    have llv : (ls.map V.str).length = ls.length := List.length_map ..
    refine ⟨by decide, fun p np => ?_⟩
    have s1 := same_new (o := .lst []) np
    refine ⟨_, rfl, _, rfl, l, _, rfl, .inl (SqL.of (s1 _ _ hl)), _, _, rfl, (by omega), ?_⟩
    rw [show (((ls.map V.str).length : Nat) : Int) - (st : Int) = ((fs.length : Nat) : Int) by omega, Int.toNat_natCast]
    refine for_range (lo := st) (n := fs.length) (fun i σ H' => ∃ x4 x5 : Option V, σ = [some (.ref l), some (.int st), some (.int k), some (.ref p), x4, x5] ∧ Same H H' ∧ LstAt H' p ((fs.take i).map eF)) ⟨none, none, rfl, s1, [], upd_same, .nil⟩ ?_ ?_
    · rintro i σ H1 hi ⟨x4, x5, rfl, s2, xs, ep, fx⟩
      have hf0 : fs[i]? = some fs[i] := List.getElem?_eq_getElem hi
      generalize fs[i] = f0 at hf0
      have hb0 := ok.b f0 (List.mem_of_getElem? hf0)
      have hline : ls[st + i]? = some (fT f0) := by
        rw [← List.getElem?_drop, hd, List.getElem?_map, hf0]
        rfl
      have lenl := len_fT hb0 (by decide)
      refine ⟨_, rfl, _, rfl, l, _, _, V.str (fT f0), rfl, rfl, SqL.of (s2 _ _ hl), (by rw [show (st : Int) + (i : Nat) = ((st + i : Nat) : Int) by omega]; exact at_str hline), rfl, ?_⟩
      refine ⟨_, _, rfl, rfl, rfl, small_len (by omega), fun pw npw => ?_⟩
      have sw := same_new (o := .lst ((Txt.split (fT f0) " ").map V.str)) npw
      have ew : (upd H1 pw (.lst ((Txt.split (fT f0) " ").map V.str))) pw = some (.lst ((wF f0).map V.str)) := by rw [upd_same, split_fT hb0 hk1]
      generalize upd H1 pw (.lst ((Txt.split (fT f0) " ").map V.str)) = H2 at sw ew ⊢
      have lw := len_wF hb0
      refine ⟨_, rfl, pw, wF f0, k, rfl, ew, by omega, by omega, len_word hb0 hk1 hk4 (by decide), fun v H3 s3 fz => ?_⟩
      rw [rdF_wF hb0 (by decide)] at fz
      have s13 := sw.trans s3
      have lst3 : LstAt H3 p ((fs.take i).map eF) := ⟨xs, s13 _ _ ep, fx.same s13⟩
      refine ⟨_, rfl, _, rfl, v, f0, k, rfl, fz, fun s t e => ?_, fun s e => ?_, fun H4 s4 => ?_⟩
      · have z := hb0.l2 e
        omega
      · have z := hb0.l1 e
        omega
      rw [okT_of hb0]
      refine ⟨_, rfl, iteF ?_⟩
      have lst4 := lst3.same s4
      have fz4 := fz.same s4
      refine ⟨_, rfl, _, rfl, eF f0, (fs.take i).map eF, fz4.dp, lst4.dp, shape_eF f0, shape_eFs _, ?_⟩
      rw [ok.new hf0]
      refine ⟨_, rfl, iteF ?_⟩
      obtain ⟨b, r, rfl, eb⟩ := fz4.fact
      obtain ⟨ys, ey, fy⟩ := lst4
      refine ⟨_, rfl, _, rfl, b, _, 0, _, rfl, rfl, SqT.of eb, at0, p, kindS f0, fs.take i, rfl, ⟨ys, .inl ey, fy⟩, by rw [List.length_take]; omega, kindS_is f0, fun H5 s5 => ?_⟩
      rw [decide_eq_false (show ¬ lim (kindS f0) ≤ GD.cnt (kindS f0) (fs.take i) by have := ok.room hf0; omega)]
      refine ⟨_, rfl, iteF ?_⟩
      have e5 := s5 _ _ ey
      refine ⟨_, rfl, .inl ⟨rfl, _, SqL.of e5⟩, ?_⟩
      have ly : ys.length ≤ 34 := by
        rw [fy.len, List.length_map, List.length_take]
        omega
      refine ⟨_, rfl, p, ys, _, rfl, rfl, e5, Nat.lt_of_lt_of_le (show ys.length < 35 by omega) (by decide), ?_⟩
      refine ⟨_, _, rfl, same_upd ((s2.trans s13).trans (s4.trans s5)) np, ys ++ [.ref b], upd_same, FzAll.mv (tups_lst e5) ?_⟩
      rw [take_next hf0, List.map_append]
      exact (fy.same s5).snoc (fz4.same s5)
    · rintro σ H1 ⟨x4, x5, rfl, s2, xs, ep, fx⟩
      rw [List.take_length] at fx
      refine ⟨_, rfl, p, xs, rfl, .inl ⟨SqL.of ep, fun t ht => ?_⟩⟩
      have st := same_new (o := .tup xs) ht
      exact q _ _ (s2.trans st) (.tup upd_same (fx.same st))
end
end K04
namespace GD
open PySem PySem.Spec PyProof.Rows L2
def letB (c : Nat) : Bool := decide (97 ≤ c) && decide (c ≤ 122)
def nameB (x : Str) : Bool := decide (1 ≤ x.length ∧ x.length ≤ 8) && (TL.tl x).all letB
def spName1 : Sp := fun vs H Q _ => ∃ x : Str, vs = [.str x] ∧ x.length ≤ 100000 ∧ ∀ H', Same H H' → Q (.bl (nameB x)) H'
theorem lt_sign (a b : Nat) : decide ((⟨#[a]⟩ : Str).cps.toList < (⟨#[b]⟩ : Str).cps.toList) = decide (a < b) := by
  refine decide_eq_decide.mpr ?_
  show [a] < [b] ↔ a < b
  constructor
  · intro h
    cases h with
    | rel h => exact h
    | cons h => cases h
  · intro h
    exact .rel h
end GD
namespace K04
open PySem PySem.Spec PyProof.Rows L2 GD
section
variable {P : Program} {w : World} {K : PySem.W.Frag} {mg : Str → Option Value} {base : Heap}
abbrev NNa : List Str := ["text", "letter"]
theorem scNa : FnScope NNa ["text"] (defScope pIsName) := ⟨rfl, rfl, rfl, by decide +kernel, rfl, by decide +kernel, by decide +kernel⟩
theorem ok_isname {f : Addr} {fd : FuncData} (F : Fun K "is_name" "is_name" pIsName f fd) (S : Forms1 mg) (gl : ∃ u, mg "LONGEST_NAME" = some u ∧ RelV (.int 8) u) : FnOk P w K mg base CX0 1 f fd ["text"] spName1 := by
  refine F.ok scNa (fun vs H Q E h => ?_) (fun cdv A outer s H vs Q E hr h => ?_)
  · obtain ⟨x, rfl, _⟩ := h
    rfl
  · obtain ⟨x, rfl, hx, q⟩ := h
    obtain ⟨um, gm, rm⟩ := gl
    have xl : x.length ≤ sizeLine := small_len hx
    refine ⟨_, pss_one (ps_ret (pe_and (pe_chain op_le op_le pe_int (pe_callB call_len_str (by rfl) S.len PySem.boot_len (pa_cons (pv 0) pa_nil)) (pe_glob (by rfl) gm rm))
      (pe_one (pe_callB (cr_all rfl) (by rfl) S.all (by decide +kernel) (pa_cons (pe_lc (own := [("letter", 1)]) (g := gName 1) (tt := tYes) rfl scNa.nd (pi_str (pv 0)) (blkOk_by (N := NNa) (sc := defScope pIsName) (by decide +kernel))
        (fun _ _ _ _ _ => pg_name (i := 1) scNa.nd rfl (.inl rfl)) (fun _ _ _ _ _ => pts_nil) (fun _ _ _ _ _ => pe_chain op_le_str op_le_str pe_str (pv 1) pe_str)) pa_nil))))), ?_⟩
    refine ⟨_, rfl, x, rfl, xl, _, _, rfl, rfl, _, rfl, ?_⟩
    have bad : ¬ (1 ≤ x.length ∧ x.length ≤ 8) → Q (.bl false) H := fun e => by
      have z := q H (Same.refl H)
      rw [nameB, decide_eq_false e, Bool.false_and] at z
      exact z
    by_cases h1 : (1 : Int) ≤ (x.length : Int)
    · rw [decide_eq_true h1]
      refine iteT ⟨_, _, rfl, rfl, _, rfl, ?_⟩
      by_cases h2 : (x.length : Int) ≤ 8
      · rw [decide_eq_true h2]
        refine iteT ?_
        refine ⟨_, rfl, x, rfl, fun D hD => ?_⟩
        refine lc_it (walk_str (z := x)) (fun i H' => Same H H' ∧ H' D = some (.lst ((((TL.tl x).take i).map letB).map V.bl))) ⟨same_new hD, upd_same⟩ (fun _ _ _ _ => True.intro) ?_ ?_
        · rintro i v Hx H' hi ⟨s1, eD⟩ ⟨rfl, c, hc, rfl⟩
          have hc2 : (TL.tl x)[i]? = some c := by
            rw [← hc]
            exact Array.getElem?_toList
          have fin : ∀ b : Bool, b = letB c → ∃ acc, H' D = some (.lst acc) ∧ acc.length < sizeLine ∧ Same H (upd H' D (.lst (acc ++ [.bl b]))) ∧ (upd H' D (.lst (acc ++ [.bl b]))) D = some (.lst ((((TL.tl x).take (i + 1)).map letB).map V.bl)) := by
            rintro b rfl
            refine ⟨_, eD, ?_, same_upd s1 hD, ?_⟩
            · rw [List.length_map, List.length_map, List.length_take]
              exact Nat.lt_of_le_of_lt (Nat.min_le_right _ _) (by rw [← TL.len_tl]; exact Nat.lt_of_lt_of_le (show x.length < 9 by omega) (by decide))
            · rw [upd_same, take_next hc2, List.map_append, List.map_append]
              rfl
          refine ⟨rfl, _, rfl, _, _, rfl, rfl, _, rfl, ?_⟩
          rw [show (("a" : Str)) = ⟨#[97]⟩ from rfl, lt_sign]
          by_cases a1 : c < 97
          · rw [decide_eq_true a1]
            refine iteF (fin false ?_)
            rw [letB, decide_eq_false (by omega)]
            rfl
          · rw [decide_eq_false a1]
            refine iteT ⟨_, _, rfl, rfl, fin _ ?_⟩
            rw [show (("z" : Str)) = ⟨#[122]⟩ from rfl, lt_sign, letB, decide_eq_true (show 97 ≤ c by omega), Bool.true_and]
            by_cases a2 : 122 < c
            · rw [decide_eq_true a2, decide_eq_false (by omega)]
              rfl
            · rw [decide_eq_false a2, decide_eq_true (by omega)]
              rfl
        · rintro H' ⟨s1, eD⟩
          rw [List.take_of_length_le (by rw [← TL.len_tl]; exact Nat.le_refl _)] at eD
          refine ⟨D, _, rfl, SqL.of eD, ?_⟩
          rw [List.all_map]
          have z := q H' s1
          rw [nameB, decide_eq_true (show 1 ≤ x.length ∧ x.length ≤ 8 by omega), Bool.true_and] at z
          exact z
      · rw [decide_eq_false h2]
        refine iteF ?_
        exact bad fun z => h2 (by omega)
    · rw [decide_eq_false h1]
      refine iteF ⟨_, rfl, iteF ?_⟩
      exact bad fun z => h1 (by omega)
end
end K04
namespace GD
open PySem PySem.Spec PyProof.Rows L2
def lined3 : List Str := ["clean", "spent", "free"]
def mLine (p : Str × Str) : Str := (p.2 ++ " ") ++ p.1
def mKv (ml : List (Str × Str)) : List (Key × V) := ml.map fun q => (.inr q.1, .str q.2)
structure MansOk (names : List Str) (ml : List (Str × Str)) (rest : List Str) : Prop where
  nm : ∀ p ∈ ml, p.1 ∈ names ∧ Free 32 p.1 ∧ p.1.length ≤ 100
  mn : ∀ p ∈ ml, p.2 ∈ lined3
  nd : (ml.map (·.1)).Nodup
  r : ∀ x, rest.head? = some x → (Txt.split x " ").length ≠ 2 ∧ x.length ≤ 90000
  l : ml.length ≤ 10
  rl : rest.length ≤ 1000
def spRdMan : Sp := fun vs H Q _ => ∃ (l j : Addr) (l0 : Str) (names : List Str) (ml : List (Str × Str)) (rest : List Str), vs = [.ref l, .ref j] ∧ H l = some (.lst ((l0 :: (ml.map mLine ++ rest)).map V.str)) ∧ H j = some (.tup (names.map V.str)) ∧ MansOk names ml rest ∧
  ∀ p H', H p = none → Same H H' → H' p = some (.dK (mKv ml)) → Q (.ref p) H'
theorem free_lined {x : Str} (h : x ∈ lined3) : Free 32 x ∧ x.length ≤ 5 := by
  unfold lined3 at h
  simp only [List.mem_cons, List.not_mem_nil, or_false] at h
  rcases h with rfl | rfl | rfl
  · exact ⟨by unfold Free; decide +kernel, by decide +kernel⟩
  · exact ⟨by unfold Free; decide +kernel, by decide +kernel⟩
  · exact ⟨by unfold Free; decide +kernel, by decide +kernel⟩
theorem split_mLine {p : Str × Str} (h1 : Free 32 p.1) (h2 : Free 32 p.2) : Txt.split (mLine p) " " = [p.2, p.1] := by
  have e : mLine p = Txt.join " " [p.2, p.1] := by
    rw [join_cons (by simp), join_one]
    rfl
  rw [e]
  refine split_sp (by simp) fun x hx => ?_
  rcases List.mem_cons.mp hx with e | e
  · rw [e]
    exact h2
  · rw [List.mem_singleton.mp e]
    exact h1
theorem mKv_none {ml : List (Str × Str)} {x : Str} (h : x ∉ ml.map (·.1)) : valV (mKv ml) (.inr x) = none := by
  unfold valV mKv
  rw [List.find?_eq_none.mpr]
  · rfl
  · intro kv hkv
    obtain ⟨q, hq, rfl⟩ := List.mem_map.mp hkv
    simp only [decide_eq_true_eq]
    intro e
    exact h (List.mem_map.mpr ⟨q, hq, Sum.inr.inj e⟩)
end GD
namespace K04
open PySem PySem.Spec PyProof.Rows L2 GD
section
variable {P : Program} {w : World} {K : PySem.W.Frag} {mg : Str → Option Value} {base : Heap}
def Lined (K : PySem.W.Frag) (mg : Str → Option Value) : Prop := ∃ p, mg "LINED_MANNERS" = some (.ref p) ∧ ∀ H, SqT K H p (lined3.map V.str)
abbrev NMn : List Str := ["lines", "jobs", "manners", "line", "words"]
theorem scMn : FnScope NMn ["lines", "jobs"] (defScope pReadManners) := ⟨rfl, rfl, rfl, by decide +kernel, rfl, by decide +kernel, by decide +kernel⟩
theorem ok_rdman {f : Addr} {fd : FuncData} (F : Fun K "read_manners" "read_manners" pReadManners f fd) (S : Reads1 mg) (L : Lined K mg) : FnOk P w K mg base CX0 1 f fd ["lines", "jobs"] spRdMan := by
  refine F.ok scMn (fun vs H Q E h => ?_) (fun cdv A outer s H vs Q E hr h => ?_)
  · obtain ⟨l, j, l0, names, ml, rest, rfl, _⟩ := h
    rfl
  · obtain ⟨l, j, l0, names, ml, rest, rfl, hl, hj, ok, q⟩ := h
    obtain ⟨pL, gL, sL⟩ := L
    refine ⟨_, pss_cons (ps_set (i := 2) scMn.nd rfl (.inl rfl) pe_dnewK)
      (pss_cons (ps_for PassesOwn.never rfl (pi_list (pe_slice sl_list (pv 0) (po_some pe_int) po_none)) (pg_name (i := 3) scMn.nd rfl (.inl rfl))
        (pss_cons (ps_set (i := 4) scMn.nd rfl (.inl rfl) (pe_bm PySem.F.plainAttrs_str PySem.F.slot_str_split PySem.F.type_str_split mt_split (pv 3) (pa_cons pe_str pa_nil)))
        (pss_cons (ps_if (pw_or (pt_cmpR op_ne (pe_callB call_len_seq (by rfl) S.f.len PySem.boot_len (pa_cons (pv 4) pa_nil)) pe_int (nomark _)) (pw_or1 (pt_cmpR op_notIn_seq (pe_ix ix_list (pv 4) pe_int (fun _ _ => rfl)) (pe_glob (v := .ref pL) (by rfl) gL rfl) (by rfl)))).pt
            (pss_one (ps_ret (pv 2))) pss_nil)
        (pss_cons (ps_if (pw_or (pt_cmpR op_notIn_seq (pe_ix ix_list (pv 4) pe_int (fun _ _ => rfl)) (pv 1) (by rfl)) (pw_or1 (pt_cmp (pc_din (u1 hr) (pe_ix ix_list (pv 4) pe_int (fun _ _ => rfl)) (pv 2))))).pt
            (pss_one (ps_ret (pv 2))) pss_nil)
        (pss_one (ps_dput (u1 hr) (pv 2) (pe_ix ix_list (pv 4) pe_int (fun _ _ => rfl)) (pe_ix ix_list (pv 4) pe_int (fun _ _ => rfl)) (by rfl)))))))
      (pss_one (ps_ret (pv 2)))), ?_⟩
    intro d hd
    have s1 := same_new (o := .dK []) hd
    refine ⟨_, rfl, _, rfl, ?_⟩
    refine ⟨l, _, rfl, SqL.of (s1 _ _ hl), fun p hp => ?_⟩
    have e1 := cut_strs_end (l0 :: (ml.map mLine ++ rest)) 1
    rw [List.drop_one, List.tail_cons] at e1
    rw [show (some (1 : Int)) = some ((1 : Nat) : Int) from rfl, e1]
    have s2 := same_new (o := .lst ((ml.map mLine ++ rest).map V.str)) hp
    have ep : (upd (upd H d (.dK [])) p (.lst ((ml.map mLine ++ rest).map V.str))) p = some (.lst ((ml.map mLine ++ rest).map V.str)) := upd_same
    have ed : (upd (upd H d (.dK [])) p (.lst ((ml.map mLine ++ rest).map V.str))) d = some (.dK []) := s2 _ _ upd_same
    have s12 := s1.trans s2
    generalize upd (upd H d (.dK [])) p (.lst ((ml.map mLine ++ rest).map V.str)) = H1 at ep ed s12 ⊢
    have dpd : p ≠ d := fun z => by
      rw [z, ed] at ep
      cases ep
    have lml : (ml.map mLine).length = ml.length := List.length_map ..
    refine ⟨p, rfl, ⟨_, SqL.of ep⟩, for_list (K := K) (a := p) (xs := (ml.map mLine ++ rest).map V.str) (fun i σ H' => ∃ x3 x4 : Option V, σ = [some (.ref l), some (.ref j), some (.ref d), x3, x4] ∧ Same H H' ∧ H' p = some (.lst ((ml.map mLine ++ rest).map V.str)) ∧ H' d = some (.dK (mKv (ml.take i))) ∧ i ≤ ml.length)
      ⟨none, none, rfl, s12, ep, ed, Nat.zero_le _⟩ (fun i σ H' _ ⟨_, _, _, _, e, _⟩ => SqL.of e) ?_ ?_⟩
    · rintro i v σ H' hx ⟨x3, x4, rfl, s3, ep3, ed3, hi⟩
      rw [List.getElem?_map] at hx
      have okl := ok.l
      by_cases hlt : i < ml.length
      · have hm : ml[i]? = some ml[i] := List.getElem?_eq_getElem hlt
        generalize ml[i] = m0 at hm
        have hmem := List.mem_of_getElem? hm
        obtain ⟨hn, hfr, hlen⟩ := ok.nm m0 hmem
        obtain ⟨hf2, hlen2⟩ := free_lined (ok.mn m0 hmem)
        rw [List.getElem?_append_left (by omega), List.getElem?_map, hm] at hx
        obtain rfl : V.str (mLine m0) = v := Option.some.inj hx
        have lln : (mLine m0).length ≤ 106 := by
          rw [mLine, len_app, len_app, len1]
          omega
        refine ⟨_, rfl, rfl, _, _, rfl, rfl, rfl, small_len (by omega), fun w npw => ?_⟩
        have sw := same_new (o := .lst ((Txt.split (mLine m0) " ").map V.str)) npw
        have ew : (upd H' w (.lst ((Txt.split (mLine m0) " ").map V.str))) w = some (.lst ([m0.2, m0.1].map V.str)) := by rw [upd_same, split_mLine hfr hf2]
        generalize upd H' w (.lst ((Txt.split (mLine m0) " ").map V.str)) = H2 at sw ew ⊢
        have ed4 := sw _ _ ed3
        have s13 := s3.trans sw
        refine ⟨_, rfl, w, _, rfl, .inl (SqL.of ew), rfl, _, rfl, iteF ?_⟩
        refine ⟨_, rfl, w, _, 0, _, rfl, rfl, SqL.of ew, at0, pL, _, rfl, .inr (sL _), rfl, by decide +kernel, _, rfl, ?_⟩
        rw [if_pos rfl, inV_strs, decide_eq_true (ok.mn m0 hmem)]
        refine iteF ?_
        refine ⟨_, rfl, w, _, 1, _, rfl, rfl, SqL.of ew, at1, _, rfl, j, _, rfl, .inr (SqT.of (s13 _ _ hj)), rfl, ?_, _, rfl, ?_⟩
        · rw [List.all_map]
          exact List.all_eq_true.mpr fun _ _ => rfl
        rw [if_pos rfl, inV_strs, decide_eq_true hn]
        refine iteF ?_
        have hnew : m0.1 ∉ (ml.take i).map (·.1) := fun hc => by
          obtain ⟨q0, hq0, eq0⟩ := List.mem_map.mp hc
          obtain ⟨jx, hjx, ej⟩ := List.getElem_of_mem hq0
          rw [List.length_take] at hjx
          rw [List.getElem_take] at ej
          have z := List.pairwise_iff_getElem.mp ok.nd jx i (by rw [List.length_map]; omega) (by rw [List.length_map]; omega) (by omega)
          rw [List.getElem_map, List.getElem_map, ej, (List.getElem?_eq_some_iff.mp hm).2] at z
          exact z eq0
        have dg := DGet.k (k := .inr m0.1) ed4
        rw [mKv_none hnew] at dg
        refine ⟨_, rfl, w, _, 1, _, rfl, rfl, SqL.of ew, at1, _, rfl, d, none, rfl, dg, _, rfl, iteF ?_⟩
        refine ⟨_, rfl, w, _, 0, _, rfl, rfl, SqL.of ew, at0, _, rfl, _, rfl, w, _, 1, _, rfl, rfl, SqL.of ew, at1, d, _, rfl, DPut.k (k := .inr m0.1) ed4 ?_, ?_⟩
        · unfold mKv
          rw [List.length_map, List.length_take]
          exact Nat.lt_of_le_of_lt (Nat.min_le_left _ _) (Nat.lt_of_lt_of_le (show i < 11 by omega) (by decide))
        rw [putK_new _ (mKv_none hnew)]
        refine ⟨_, _, rfl, same_upd s13 hd, by rw [upd_ne dpd]; exact sw _ _ ep3, ?_, by omega⟩
        rw [upd_same, take_next hm, mKv, mKv, List.map_append]
        rfl
      · have ei : i = ml.length := by omega
        rw [List.getElem?_append_right (by omega), lml, ei, Nat.sub_self] at hx
        cases er : rest with
        | nil =>
          rw [er] at hx
          cases hx
        | cons r0 rr =>
          rw [er] at hx
          obtain rfl : V.str r0 = v := Option.some.inj hx
          obtain ⟨h2, hll⟩ := ok.r r0 (by rw [er]; rfl)
          refine ⟨_, rfl, rfl, _, _, rfl, rfl, rfl, small_len (by omega), fun w npw => ?_⟩
          have sw := same_new (o := .lst ((Txt.split r0 " ").map V.str)) npw
          have ew : (upd H' w (.lst ((Txt.split r0 " ").map V.str))) w = some (.lst ((Txt.split r0 " ").map V.str)) := upd_same
          generalize upd H' w (.lst ((Txt.split r0 " ").map V.str)) = H2 at sw ew ⊢
          refine ⟨_, rfl, w, _, rfl, .inl (SqL.of ew), rfl, _, rfl, ?_⟩
          rw [show (!decide (V.int (((Txt.split r0 " ").map V.str).length : Int) = V.int 2)) = true by
            rw [decide_eq_false fun z => h2 (by have := V.int.inj z; rw [List.length_map] at this; omega)]
            rfl]
          refine iteT (iteT ?_)
          have ed4 := sw _ _ ed3
          rw [ei, List.take_length] at ed4
          exact ⟨_, rfl, q d H2 hd (s3.trans sw) ed4⟩
    · rintro σ H' ⟨x3, x4, rfl, s3, ep3, ed3, hi⟩
      rw [List.length_map, List.length_append, lml] at ed3 hi
      rw [List.take_of_length_le (by omega)] at ed3
      exact ⟨_, rfl, q d H' hd s3 ed3⟩
end
end K04
/-! set(a list of keys of one kind), any number of them: the keys met, how many differ -/
namespace GD
open PySem PySem.Spec PyProof.Rows
section
variable {prog : Program} {w : World} {Kt : Type} [DecidableEq Kt] [BEq Kt] [LawfulBEq Kt]
/-- met among the first i -/
def metB (val : Nat → Kt) (i : Nat) (k : Kt) : Bool := (List.range i).any fun j => val j == k
/-- how many differ among the first i -/
def metN (val : Nat → Kt) : Nat → Nat
  | 0 => 0
  | i + 1 => if metB val i (val i) = true then metN val i else metN val i + 1
omit [DecidableEq Kt] [LawfulBEq Kt] in
theorem metN_le (val : Nat → Kt) : ∀ i, metN val i ≤ i
  | 0 => Nat.le_refl _
  | i + 1 => by
    have := metN_le val i
    unfold metN
    split <;> omega
theorem metB_succ (val : Nat → Kt) (i : Nat) (k : Kt) : metB val (i + 1) k = (metB val i k || decide (k = val i)) := by
  unfold metB
  rw [List.range_succ, List.any_append, List.any_cons, List.any_nil, Bool.or_false]
  congr 1
  rw [Bool.eq_iff_iff, beq_iff_eq, decide_eq_true_iff]
  exact eq_comm
variable {knd : KeyKind prog w Kt} {A : Around} {R : Result → Shared → Prop} {I : Addr} {fp wr : List Addr} {G : Array GenState → Array GenState → Prop} {n : Nat} {Pv : Nat → Value → Prop} {St : Nat → Shared → Prop}
theorem update_keys (W : WalksS prog w A.in1 I fp wr G n Pv St) (S : Addr) (hSf : S ∉ fp) (val : Nat → Kt) (hval : ∀ i v, Pv i v → knd.is (val i) v = true ∧ v.scannable = true) (hb : n + 1 < scanBound) :
    ∀ (m i : Nat) (s : Shared), n - i = m → i ≤ n → St i s → s.heap.SetOf knd S (metB val i) (metN val i) →
      (∀ s', Moved (S :: wr) G s s' → s'.heap.SetOf knd S (metB val n) (metN val n) → R (.ok (.ret .none)) s') → codeAny (model prog w) A (.builtin "set.update.loop" ⟨[.ref S, .ref I], []⟩) R s := by
  have out : S ∉ wr := fun h => hSf (W.sub _ h)
  have keep : ∀ {i : Nat} {s s' : Shared}, Moved wr G s s' → s.heap.SetOf knd S (metB val i) (metN val i) → s'.heap.SetOf knd S (metB val i) (metN val i) := fun hm ⟨o, es, ep, t, ho, r⟩ => ⟨o, es, ep, t, hm.heap S _ out ho, r⟩
  have wide : ∀ b ∈ wr, b ∈ S :: wr := fun b h => List.mem_cons_of_mem _ h
  intro m
  induction m with
  | zero =>
    intro i s hm hi hst hS hR
    obtain rfl : i = n := by omega
    refine codeAny_builtin F.entry_set_update_loop ?_
    rw [Around.under_plainId F.plain_set_update_loop _]
    exact wpAny_bind (W.done s _ _ hst fun s' mv => wpAny_pure (hR s' (mv.mono wide) (keep mv hS)))
  | succ m ih =>
    intro i s hm hi hst hS hR
    have hlt : i < n := by omega
    refine codeAny_builtin F.entry_set_update_loop ?_
    rw [Around.under_plainId F.plain_set_update_loop _]
    refine wpAny_bind (W.item i s _ _ hlt hst fun v s' hv hst' mv => ?_)
    obtain ⟨hk, hsc⟩ := hval i v hv
    refine wpAny_bind (wpAny_holding ?_)
    unfold setAdd
    have room := metN_le val i
    have hS' := keep mv hS
    refine wpAny_holding (wpAny_bind (knd.pyHash hk (wpAny_setAddHashed_of (s := { s' with toks := s'.toks + 1 }) hk hsc hS' (by omega) fun h' same hS2 => ?_)))
    refine wpAny_pure ⟨plainId_quiet F.plain_set_update_loop _, ih (i + 1) _ (by omega) hlt (W.frame _ s' _ _ hst' (Nat.le_succ _) fun b hb o e => (same.2 b fun z => hSf (z ▸ hb)).trans e) ?_ fun s2 mv2 hS3 => ?_⟩
    · exact SetOf_congr hS2 (fun k => (metB_succ val i k).symm) rfl
    · exact hR s2 (Moved.trans W.gtrans ((mv.mono wide).then_heap (Nat.le_succ _) fun b o hb e => (same.2 b fun z => hb (z ▸ List.mem_cons_self)).trans e) mv2) hS3
end
section
variable {prog : Program} {w : World} {A : Around} {E : Value → Shared → Prop} {s : Shared} {Kt : Type} [DecidableEq Kt] [BEq Kt] [LawfulBEq Kt] {knd : KeyKind prog w Kt}
theorem call_set_keys {l : Addr} {items : Array Value} {Q : Value → Shared → Prop} (hh : A.handled = none) (hl : s.heap.IsList l items) (val : Nat → Kt) (hval : ∀ i v, items[i]? = some v → knd.is (val i) v = true ∧ v.scannable = true) (hb : items.size + 1 < scanBound)
    (h : ∀ (h' : Heap) (tk : Nat), h'.SetOf knd s.heap.objs.size (metB val items.size) (metN val items.size) → (∀ b o, b < s.heap.objs.size → s.heap.get? b = some o → h'.get? b = some o) → Q (.ref s.heap.objs.size) { s with heap := h', toks := tk }) :
    wpAny (model prog w) A (call (.type "set") [.ref l]) Q E s := by
  obtain ⟨c, tl, hmro⟩ := PySem.F.called_set.mro
  have made := PySem.F.called_set.made
  have sub := PySem.F.called_set.sub
  refine wpAny_call (codeAny_of_tree ?_)
  show wpAny _ _ (callAny (.type "set") _) _ _ _
  refine wpAny_pure ⟨Code.quiet_builtin _ (by decide +kernel), codeAny_builtin PySem.F.entry_type_call ?_⟩
  rw [Around.under_plain (weight_type_call_type "set" [.ref l] []) rfl]
  have a1 := PySem.F.called_set.notType
  have a2 := PySem.F.called_set.canCreate
  have a3 := PySem.F.typeCall_set_1 (.ref l)
  repeat (any_goals (first | assumption | wp_step))
  refine codeAny_mono (code_set_new_1 (.ref l) (E := E) (Q₁ := fun v s1 => ∃ led : Bool, v = .ref s.heap.objs.size ∧ s1 = { s with heap := s.heap.push { cls := .type "set", dict := none, data := .set #[] 0 (.fresh 0 0 led) } }) fun led => ⟨led, rfl, rfl⟩) fun r s1 hr => ?_
  rcases r with e | fl
  · exact hr
  cases fl with
  | ret v =>
    obtain ⟨led, rfl, rfl⟩ := hr
    have hnew : (s.heap.push { cls := .type "set", dict := none, data := .set #[] 0 (.fresh 0 0 led) }).get? s.heap.objs.size = some { cls := .type "set", dict := none, data := .set #[] 0 (.fresh 0 0 led) } := Heap.get?_push_size _ rfl
    have hty : Shared.TypeIs { s with heap := s.heap.push { cls := .type "set", dict := none, data := .set #[] 0 (.fresh 0 0 led) } } (.ref s.heap.objs.size) "set" := ⟨_, hnew, rfl⟩
    have i1 := PySem.F.called_set.init.lookup
    have i2 := PySem.F.called_set.init.bind (.ref s.heap.objs.size)
    repeat (any_goals (first | assumption | wp_step))
    let good : Value → Shared → Prop := fun r s2 => r = .none ∧ ∃ h' tk, s2 = { s with heap := h', toks := tk } ∧ h'.SetOf knd s.heap.objs.size (metB val items.size) (metN val items.size) ∧ ∀ b o, b < s.heap.objs.size → s.heap.get? b = some o → h'.get? b = some o
    refine codeAny_mono (codeAny_call_builtin (R := wants good E) PySem.F.called_set.init.plain PySem.F.entry_set_init (check_set_init_1 hty ?_)) fun r2 s2 hr2 => ?_
    · obtain ⟨ol, hol, hcl, nl, hdl⟩ := hl
      obtain ⟨oc, od, odt, osl⟩ := ol
      obtain rfl : oc = .type "list" := hcl
      obtain rfl : odt = .seq items nl := hdl
      have hol' : (s.heap.push { cls := .type "set", dict := none, data := .set #[] 0 (.fresh 0 0 led) }).get? l = some { cls := .type "list", dict := od, data := .seq items nl, slots := osl } := Heap.get?_push_of_some _ hol
      have hil : (s.heap.push { cls := .type "set", dict := none, data := .set #[] 0 (.fresh 0 0 led) }).IsList l items := ⟨_, hol', rfl, nl, rfl⟩
      have b1 := PySem.F.sub_list_set
      have b2 := PySem.F.sub_list_frozenset
      have b3 : (Value.type "list" == Value.type "dict") = false := by decide
      unfold Builtin.«set.__init__» noKeywords Builtin.Frozenset.updateFrom
      generalize hPI : pyIter = PI
      wp_walk
      subst hPI
      refine wpAny_pyIter_list hil (wpAny_bind (wpAny_runValue ?_))
      have ll : l < s.heap.objs.size := Heap.lt_size hol
      have hd3 : A.in1.in1.in1.handled = none := by simp [hh]
      have sz : (s.heap.push { cls := .type "set", dict := none, data := .set #[] 0 (.fresh 0 0 led) }).objs.size = s.heap.objs.size + 1 := Heap.size_push ..
      have neI : l ≠ (s.heap.push { cls := .type "set", dict := none, data := .set #[] 0 (.fresh 0 0 led) }).objs.size := by
        rw [sz]
        exact Nat.ne_of_lt (Nat.lt_succ_of_lt ll)
      have far : s.heap.objs.size ∉ [(s.heap.push { cls := .type "set", dict := none, data := .set #[] 0 (.fresh 0 0 led) }).objs.size, l] := fun m => by
        rcases List.mem_cons.mp m with z | z
        · rw [sz] at z
          exact Nat.ne_of_lt (Nat.lt_succ_self _) z
        · exact Nat.ne_of_gt ll (List.mem_singleton.mp z)
      refine update_keys (knd := knd) ((Walks.list hd3 _ l neI items).toS) s.heap.objs.size far val hval hb (items.size - 0) 0 _ (by omega) (Nat.zero_le _) ⟨⟨_, Heap.get?_push_size _ rfl, rfl, rfl⟩, (hil.push _)⟩ ?_ ?_
      · exact SetOf_congr ((setObjOf_fresh (knd := knd) led).setOf (Heap.get?_push_of_some _ hnew) (by unfold scanBound; omega)) (fun _ => rfl) rfl
      · intro s' mv hS
        have e1 := mv.gens
        have e2 := mv.drawn
        have e3 := mv.os
        obtain ⟨h', g', d', tk', os'⟩ := s'
        simp only at e1 e2 e3
        subst e1 e2 e3
        refine wpAny_pure ?_
        show wpAny _ _ (ret Value.none) _ _ _
        refine wpAny_pure ⟨rfl, h', tk', rfl, hS, fun b o hb e => mv.heap b o (fun m => ?_) (Heap.get?_push_of_some _ (Heap.get?_push_of_some _ e))⟩
        rcases List.mem_cons.mp m with z | z
        · exact Nat.ne_of_lt hb z
        · have z2 := List.mem_singleton.mp z
          rw [sz] at z2
          exact Nat.ne_of_lt (Nat.lt_succ_of_lt hb) z2
    · rcases r2 with e | fl2
      · exact hr2
      cases fl2 with
      | ret r =>
        obtain ⟨rfl, h', tk, rfl, hS, hk⟩ := hr2
        repeat (any_goals (first | assumption | wp_step))
        exact h _ _ hS hk
      | _ => exact hr2.elim
  | _ => exact hr.elim
end
end GD
namespace GD
open PySem PySem.Spec PyProof.Rows L2
/-- how many texts differ -/
def difN (xs : List Str) : Nat := metN (fun i => xs.getD i Str.empty) xs.length
theorem metB_get {xs : List Str} {i : Nat} (hi : i ≤ xs.length) (k : Str) : metB (fun i => xs.getD i Str.empty) i k = true ↔ k ∈ xs.take i := by
  unfold metB
  rw [List.any_eq_true]
  constructor
  · rintro ⟨j, hj, e⟩
    have hj' := List.mem_range.mp hj
    rw [beq_iff_eq] at e
    rw [← e]
    show xs.getD j Str.empty ∈ _
    rw [List.getD_eq_getElem?_getD, List.getElem?_eq_getElem (by omega)]
    exact List.mem_take_iff_getElem.mpr ⟨j, by omega, rfl⟩
  · intro h
    obtain ⟨j, hj, e⟩ := List.mem_take_iff_getElem.mp h
    refine ⟨j, List.mem_range.mpr (by omega), ?_⟩
    rw [beq_iff_eq]
    show xs.getD j Str.empty = k
    rw [List.getD_eq_getElem?_getD, List.getElem?_eq_getElem (by omega)]
    exact e
theorem difN_nodup {xs : List Str} (h : xs.Nodup) : difN xs = xs.length := by
  unfold difN
  have go : ∀ i, i ≤ xs.length → metN (fun i => xs.getD i Str.empty) i = i := by
    intro i
    induction i with
    | zero => exact fun _ => rfl
    | succ i ih =>
      intro hi
      rw [metN, ih (by omega), if_neg]
      intro z
      rw [metB_get (by omega)] at z
      obtain ⟨j, hj, e⟩ := List.mem_take_iff_getElem.mp z
      rw [List.getD_eq_getElem?_getD, List.getElem?_eq_getElem (show i < xs.length by omega)] at e
      exact List.pairwise_iff_getElem.mp h j i (by omega) (by omega) (by omega) e
  exact go _ (Nat.le_refl _)
/-- len(set(xs)), xs a list of texts -/
def tLenSetT (ta : TE) : TE := fun σ H Q => ta σ H fun x H1 => ∃ (l : Addr) (xs : List Str), x = .ref l ∧ H1 l = some (.lst (xs.map V.str)) ∧ xs.length ≤ 1000 ∧ Q (.int (difN xs : Nat)) H1
section
variable {X : Cx}
theorem pe_lenSetT {a : Expr} {ta : TE} {p p2 q pos : Pos} (hc : X.calm = true) (hg : Gl X "len") (hm : X.mg "len" = none) (hg2 : Gl X "set") (hm2 : X.mg "set" = none) (ha : PE X a ta)
    (na : starEach [a] X.env = (false, eval a X.env) :: starEach [] X.env := by rfl) : PE X (.Call (.Name "len" p) [.Call (.Name "set" p2) [a] [] q] [] pos) (tLenSetT ta) := by
  refine ⟨fun pins s σ H Q I h => ?_⟩
  refine Call_ (ld_blt I hg hm boot_len (PyProof.Rows.callWith_builtin1 (PyProof.Rows.args_cons (Call_ (ld_blt I hg2 hm2 boot_set
    (PyProof.Rows.callWith_type1 (PyProof.Rows.args_cons (thn (ha.run pins s σ H _ I h) fun v s1 ⟨x, H1, I1, r1, q1⟩ => PyProof.Rows.args_nil ?_) na) na rfl))) rfl) rfl rfl))
  obtain ⟨l, xs, rfl, hx, hl, q1⟩ := q1
  cases r1
  obtain ⟨its, r, pl, hz⟩ := I1.list (SqL.of hx)
  have sa := SS.strs_at (strsAre_of r)
  have sz : its.toArray.size = xs.length := by rw [List.size_toArray, ← r.length, List.length_map]
  refine call_set_keys (knd := PySem.strKind X.prog X.w) (I1.ok.hd hc) pl.isList (fun i => xs.getD i Str.empty) (fun i v hv => ?_) (by rw [sz]; unfold scanBound; omega) fun h' tk hS hk => ?_
  · obtain ⟨t, rfl⟩ := sa i v (by simpa using hv)
    exact ⟨strKind_is _ _ _ _, rfl⟩
  · refine PyProof.Rows.args_nil ?_
    rw [sz] at hS
    obtain ⟨o, es, ep, t, ho, hex, hd, _, _, _, hf, hn⟩ := hS
    have I2 : Inv X pins σ H1 { s1 with heap := h', toks := tk } := I1.kept fun b o e => hk b o (Heap.lt_size e) e
    have le := metN_le (fun i => xs.getD i Str.empty) xs.length
    exact call_len_set ho hex hd hf (by rw [hn]; omega) ⟨.int (difN xs : Nat), H1, I2.tok _, ⟨_, by rw [hn]; rfl⟩, q1⟩
end
end GD
namespace GD
open PySem PySem.Spec PyProof.Rows L2
structure NamesOk (names : List Str) : Prop where
  l1 : 1 ≤ names.length
  l4 : names.length ≤ 4
  nd : names.Nodup
  nm : ∀ x ∈ names, nameB x = true
def spRdJobs : Sp := fun vs H Q _ => ∃ (x : Str) (names : List Str), vs = [.str x] ∧ x.length ≤ 90000 ∧ Txt.split x " " = ("jobs" : Str) :: names ∧ NamesOk names ∧ ∀ p H', H p = none → Same H H' → H' p = some (.tup (names.map V.str)) → Q (.ref p) H'
theorem nameB_len {x : Str} (h : nameB x = true) : x.length ≤ 8 := by
  unfold nameB at h
  rw [Bool.and_eq_true, decide_eq_true_iff] at h
  exact h.1.2
theorem nameB_free {x : Str} {c : Nat} (h : nameB x = true) (hc : c < 97) : Free c x := fun m => by
  unfold nameB at h
  rw [Bool.and_eq_true] at h
  have z := List.all_eq_true.mp h.2 c m
  unfold letB at z
  rw [Bool.and_eq_true, decide_eq_true_iff] at z
  omega
end GD
namespace K04
open PySem PySem.Spec PyProof.Rows L2 GD
section
variable {P : Program} {w : World} {K : PySem.W.Frag} {mg : Str → Option Value} {base : Heap}
abbrev NJo : List Str := ["line", "words", "names", "name"]
theorem scJo : FnScope NJo ["line"] (defScope pReadJobs) := ⟨rfl, rfl, rfl, by decide +kernel, rfl, by decide +kernel, by decide +kernel⟩
theorem ok_rdjobs {f fN : Addr} {fd fdN : FuncData} (F : Fun K "read_jobs" "read_jobs" pReadJobs f fd) (S : Reads1 mg) (AN : At K mg "is_name" pIsName ["text"] fN fdN) (gl : ∃ u, mg "LONGEST_NAME" = some u ∧ RelV (.int 8) u) (gj : ∃ u, mg "MOST_JOBS" = some u ∧ RelV (.int 4) u) (gs : mg "set" = none) :
    FnOk P w K mg base CX0 2 f fd ["line"] spRdJobs := by
  have GN : FnOk P w K mg base CX0 1 fN fdN ["text"] spName1 := ok_isname AN.F S.f gl
  refine F.ok scJo (fun vs H Q E h => ?_) (fun cdv A outer s H vs Q E hr h => ?_)
  · obtain ⟨x, names, rfl, _⟩ := h
    rfl
  · obtain ⟨x, names, rfl, hx, hs, ok, q⟩ := h
    obtain ⟨um, gm, rm⟩ := gj
    refine ⟨_, pss_cons (ps_set (i := 1) scJo.nd rfl (.inl rfl) (pe_bm PySem.F.plainAttrs_str PySem.F.slot_str_split PySem.F.type_str_split mt_split (pv 0) (pa_cons pe_str pa_nil)))
      (pss_cons (ps_set (i := 2) scJo.nd rfl (.inl rfl) (pe_slice sl_list (pv 1) (po_some pe_int) po_none))
      (pss_cons (ps_if (pw_or (pt_cmpR op_ne (pe_ix ix_list (pv 1) pe_int (fun _ _ => rfl)) pe_str (nomark _)) (pw_or1 (pt_not (pt_chain op_le op_le pe_int (pe_callB call_len_seq (by rfl) S.f.len PySem.boot_len (pa_cons (pv 2) pa_nil)) (pe_glob (by rfl) gm rm))))).pt (pss_one ps_no) pss_nil)
      (pss_cons (ps_if (pw_or (pt_cmpR op_lt (pe_lenSetT rfl (by rfl) S.f.len (by rfl) gs (pv 2)) (pe_callB call_len_seq (by rfl) S.f.len PySem.boot_len (pa_cons (pv 2) pa_nil)) (nomark _))
          (pw_or1 (pt_not (pt_val (pe_callB (cr_all rfl) (by rfl) S.f.all (by decide +kernel) (pa_cons (pe_lc (own := [("name", 3)]) (g := gName 3) (tt := tYes) rfl scJo.nd (pi_list (pv 2)) (blkOk_by (N := NJo) (sc := defScope pReadJobs) (by decide +kernel))
            (fun _ _ _ _ _ => pg_name (i := 3) scJo.nd rfl (.inl rfl)) (fun _ _ _ _ _ => pts_nil) (fun _ _ _ _ _ => pe_call GN hr (by rfl) AN.g AN.F.kp AN.b .nil pass0 (pa_cons (pv 3) pa_nil))) pa_nil)))))).pt (pss_one ps_no) pss_nil)
      (pss_one (ps_ret (pe_callTy call_tuple_of (by rfl) S.f.tup (by decide +kernel) (pa_cons (pv 2) pa_nil))))))), ?_⟩
    have nl1 := ok.l1
    have nl4 := ok.l4
    refine ⟨_, rfl, rfl, _, _, rfl, rfl, rfl, small_len (by omega), fun pw npw => ?_⟩
    have sw := same_new (o := .lst ((Txt.split x " ").map V.str)) npw
    have ew : (upd H pw (.lst ((Txt.split x " ").map V.str))) pw = some (.lst ((("jobs" : Str) :: names).map V.str)) := by rw [upd_same, hs]
    generalize upd H pw (.lst ((Txt.split x " ").map V.str)) = H1 at sw ew ⊢
    refine ⟨_, rfl, _, rfl, pw, _, rfl, SqL.of ew, fun pn npn => ?_⟩
    have e1 := cut_strs_end (("jobs" : Str) :: names) 1
    rw [List.drop_one, List.tail_cons] at e1
    rw [show (some (1 : Int)) = some ((1 : Nat) : Int) from rfl, e1]
    have sn := same_new (o := .lst (names.map V.str)) npn
    have en : (upd H1 pn (.lst (names.map V.str))) pn = some (.lst (names.map V.str)) := upd_same
    have ew2 := sn _ _ ew
    have s2 := sw.trans sn
    generalize upd H1 pn (.lst (names.map V.str)) = H2 at sn en ew2 s2 ⊢
    have ln : (names.map V.str).length = names.length := List.length_map ..
    refine ⟨_, rfl, pw, _, 0, _, rfl, rfl, SqL.of ew2, at0, rfl, _, rfl, iteF ?_⟩
    refine ⟨_, rfl, pn, _, rfl, .inl (SqL.of en), _, _, rfl, rfl, _, rfl, ?_⟩
    rw [ln, decide_eq_true (show (1 : Int) ≤ ((names.length : Nat) : Int) by omega)]
    refine iteT ⟨_, _, rfl, rfl, _, rfl, ?_⟩
    rw [decide_eq_true (show ((names.length : Nat) : Int) ≤ 4 by omega)]
    refine iteF ?_
    refine ⟨_, rfl, pn, names, rfl, en, by omega, _, rfl, pn, _, rfl, .inl (SqL.of en), _, _, rfl, rfl, _, rfl, ?_⟩
    rw [difN_nodup ok.nd, ln, decide_eq_false (show ¬ ((names.length : Nat) : Int) < ((names.length : Nat) : Int) by omega)]
    refine iteF ?_
    refine ⟨_, rfl, pn, rfl, ⟨_, SqL.of en⟩, fun D hD => ?_⟩
    refine lc_list (K := K) (a := pn) (xs := names.map V.str) (fun i H' => Same H2 H' ∧ H' D = some (.lst (((names.take i).map fun _ => true).map V.bl))) ⟨same_new hD, upd_same⟩ (fun i H' _ ⟨s1, _⟩ => SqL.of (s1 _ _ en)) ?_ ?_
    · rintro i v H' hx ⟨s1, eD⟩
      rw [List.getElem?_map] at hx
      cases c : names[i]? with
      | none =>
        rw [c] at hx
        cases hx
      | some y =>
        rw [c] at hx
        obtain rfl : V.str y = v := Option.some.inj hx
        have hi : i < names.length := (List.getElem?_eq_some_iff.mp c).1
        have hy := ok.nm y (List.mem_of_getElem? c)
        have hyl := nameB_len hy
        refine ⟨rfl, _, rfl, y, rfl, by omega, fun H3 s3 => ?_⟩
        rw [hy]
        refine ⟨_, s3 _ _ eD, ?_, same_upd (s1.trans s3) hD, ?_⟩
        · rw [List.length_map, List.length_map, List.length_take]
          exact Nat.lt_of_le_of_lt (Nat.min_le_left _ _) (Nat.lt_of_lt_of_le (show i < 5 by omega) (by decide))
        · rw [upd_same, take_next c, List.map_append, List.map_append]
          rfl
    · rintro H3 ⟨s3, eD⟩
      refine ⟨D, _, rfl, SqL.of eD, ?_⟩
      rw [show ((names.take (names.map V.str).length).map fun _ => true).all id = true by rw [List.all_map]; exact List.all_eq_true.mpr fun _ _ => rfl]
      refine ⟨_, rfl, iteF ?_⟩
      refine ⟨_, rfl, pn, _, rfl, .inl ⟨SqL.of (s3 _ _ en), fun t ht => ?_⟩⟩
      exact q t _ ((s2.trans s3).free ht) ((s2.trans s3).trans (same_new ht)) upd_same
end
end K04
namespace GD
open PySem PySem.Spec PyProof.Rows L2
theorem tuple_mul1 (l : Addr) (items : Array Value) (n : Nat) (dd : Option Addr) (sl : Array (Option Value)) (u : Tok) :
    Meets (Builtin.«tuple.__mul__» ⟨[.ref l, .int 1 u], []⟩) (fun _ R s => s.heap.get? l = some { cls := .type "tuple", dict := dd, data := .seq items n, slots := sl } ∧ R (.ok (.ret (Value.ref l))) s) :=
  .of_wp fun prog w A R s h => by
    obtain ⟨hp, g, d, tk, os⟩ := s
    obtain ⟨hl, h⟩ := h
    have f1 := AutoSeq1.idx_int
    have c1 : (items.isEmpty || (1 : Int) == 1) = true := by rw [show ((1 : Int) == 1) = true from rfl, Bool.or_true]
    wp_walk using wpAny_loadPart' hl
    exact ⟨_, rfl, h⟩
/-- t * 1 is t itself -/
def rRep1 (K : PySem.W.Frag) : R2 := fun x y H Q => ∃ l xs, x = .ref l ∧ y = .int 1 ∧ SqT K H l xs ∧ Q (.ref l) H
section
variable {X : Cx}
theorem op_rep1 : OpR X (binaryOp .Mult) (rRep1 X.K) := by
  intro pins s σ H x y v u Q I rx ry h
  obtain ⟨l, xs, rfl, rfl, hT, q⟩ := h
  cases rx
  obtain ⟨t, rfl⟩ := ry
  obtain ⟨its, r, ⟨⟨cls, dd, data, sl⟩, ho, hc, n, hd⟩, hs⟩ := I.tuple hT
  obtain rfl : cls = .type "tuple" := hc
  obtain rfl : data = .seq its.toArray n := hd
  exact wpAny_binaryOp_repeat_ref (T := "tuple") (U := "int") (by decide) ⟨_, ho, rfl⟩ (fun s' => typeIs_int s' 1 t) noFill_tuple_mul F.fills_int_mul F.slot_int_rmul repeat_tuple F.slot_int_index.lookup
    (call_meets F.slot_int_rmul (typeIs_int s 1 t) F.entry_int_rmul (F.args_int_rmul_2 _ _) (int_rmul_tuple 1 t l its.toArray n dd sl)
      ⟨ho, rfl, ⟨_, ho, rfl⟩, call_meets F.slot_tuple_mul ⟨_, ho, rfl⟩ F.entry_tuple_mul (F.args_tuple_mul_2 _ _) (tuple_mul1 l its.toArray n dd sl t) ⟨ho, ⟨.ref l, H, I, rfl, q⟩⟩⟩)
def rRepA (K : PySem.W.Frag) : R2 := fun x y H Q => rRepT K x y H Q ∨ rRep1 K x y H Q
theorem op_repA : OpR X (binaryOp .Mult) (rRepA X.K) := fun pins s σ H x y v u Q I rx ry h => h.elim (fun h => op_repT pins s σ H x y v u Q I rx ry h) fun h => op_rep1 pins s σ H x y v u Q I rx ry h
end
end GD
namespace GD
open PySem PySem.Spec PyProof.Rows L2
/-- t * k, a tuple that is tracked -/
def rRepU : R2 := fun x y H Q => ∃ (l : Addr) (k : Nat) (xs : List V), x = .ref l ∧ y = .int k ∧ H l = some (.tup xs) ∧ xs ≠ [] ∧ 1 ≤ k ∧ k ≤ 1000 ∧ xs.length ≤ 1000 ∧ ∀ p H', Same H H' → H' p = some (.tup (List.replicate k xs).flatten) → Q (.ref p) H'
theorem op_repU {X : Cx} : OpR X (binaryOp .Mult) rRepU := fun pins s σ H x y v u Q I rx ry ⟨l, k, xs, ex, ey, hl, ne, h1, h2, h3, q⟩ => by
  refine op_repA pins s σ H x y v u Q I rx ry ?_
  by_cases h : k = 1
  · refine .inr ⟨l, xs, ex, by rw [ey, h]; rfl, SqT.of hl, q l H (Same.refl H) ?_⟩
    rw [hl, h]
    simp
  · refine .inl ⟨l, k, xs, ex, ey, SqT.of hl, ne, by omega, by omega, h3, fun p hp => q p _ (same_new hp) ?_⟩
    rw [upd_same, Int.toNat_natCast]
theorem Keep.tupsI {b C dx : Addr} {fl : List (Str × V)} {H H' : Hp} (hb : H b = some (.ins C dx fl)) (k : Keep b H H') : Tups H H' := fun c xs e => k c _ (ne_of e hb (fun z => by cases z)) e
theorem keep_at {b : Addr} {H : Hp} {o : HO} : Keep b H (upd H b o) := fun c o' n e => by
  rw [upd_ne n]
  exact e
/-! a book -/
def jN (names : List Str) : Str := ("jobs " : Str) ++ Txt.join " " names
def hN (names : List Str) (ml : List (Str × Str)) : Str := Txt.join "\n" (jN names :: ml.map mLine)
def b1 (t : Str) : List (Str × V) := putF "text" (.str t) []
def b2 (t : Str) (j : Addr) : List (Str × V) := putF "jobs" (.ref j) (b1 t)
def bh (h t : Str) (j : Addr) : List (Str × V) := putF "head" (.str h) (b2 t j)
def b3 (h t : Str) (j m : Addr) : List (Str × V) := putF "manners" (.ref m) (bh h t j)
def b4 (h t : Str) (j m f : Addr) : List (Str × V) := putF "first" (.ref f) (b3 h t j m)
def b5 (h t : Str) (j m f a : Addr) : List (Str × V) := putF "facts" (.ref a) (b4 h t j m f)
theorem b2_jobs (t : Str) (j : Addr) : (b2 t j).lookup ("jobs" : Str) = some (.ref j) := by rw [b2, lookup_putF, if_pos rfl]
theorem bh_jobs {h : Str} (t : Str) (j : Addr) : (bh h t j).lookup ("jobs" : Str) = some (.ref j) := by rw [bh, lookup_putF, if_neg (by decide +kernel), b2_jobs]
theorem b3_jobs {h : Str} (t : Str) (j m : Addr) : (b3 h t j m).lookup ("jobs" : Str) = some (.ref j) := by rw [b3, lookup_putF, if_neg (by decide +kernel), bh_jobs]
theorem b4_jobs {h : Str} (t : Str) (j m f : Addr) : (b4 h t j m f).lookup ("jobs" : Str) = some (.ref j) := by rw [b4, lookup_putF, if_neg (by decide +kernel), b3_jobs]
theorem b5_jobs {h : Str} (t : Str) (j m f a : Addr) : (b5 h t j m f a).lookup ("jobs" : Str) = some (.ref j) := by rw [b5, lookup_putF, if_neg (by decide +kernel), b4_jobs]
theorem b5_facts {h : Str} (t : Str) (j m f a : Addr) : (b5 h t j m f a).lookup ("facts" : Str) = some (.ref a) := by rw [b5, lookup_putF, if_pos rfl]
theorem b5_head {h : Str} (t : Str) (j m f a : Addr) : (b5 h t j m f a).lookup ("head" : Str) = some (.str h) := by
  rw [b5, lookup_putF, if_neg (by decide +kernel), b4, lookup_putF, if_neg (by decide +kernel), b3, lookup_putF, if_neg (by decide +kernel), bh, lookup_putF, if_pos rfl]
theorem b5_text {h : Str} (t : Str) (j m f a : Addr) : (b5 h t j m f a).lookup ("text" : Str) = some (.str t) := by
  rw [b5, lookup_putF, if_neg (by decide +kernel), b4, lookup_putF, if_neg (by decide +kernel), b3, lookup_putF, if_neg (by decide +kernel), bh, lookup_putF, if_neg (by decide +kernel), b2, lookup_putF, if_neg (by decide +kernel), b1, lookup_putF, if_pos rfl]
theorem b5_manners {h : Str} (t : Str) (j m f a : Addr) : (b5 h t j m f a).lookup ("manners" : Str) = some (.ref m) := by
  rw [b5, lookup_putF, if_neg (by decide +kernel), b4, lookup_putF, if_neg (by decide +kernel), b3, lookup_putF, if_pos rfl]
theorem b5_first {h : Str} (t : Str) (j m f a : Addr) : (b5 h t j m f a).lookup ("first" : Str) = some (.ref f) := by
  rw [b5, lookup_putF, if_neg (by decide +kernel), b4, lookup_putF, if_pos rfl]
theorem b5_no {h t : Str} {j m f a : Addr} {x : Str} (h1 : ¬ x = ("text" : Str)) (h2 : ¬ x = ("jobs" : Str)) (h3 : ¬ x = ("manners" : Str)) (h4 : ¬ x = ("first" : Str)) (h5 : ¬ x = ("facts" : Str)) (h6 : ¬ x = ("head" : Str) := by decide +kernel) : (b5 h t j m f a).lookup x = none := by
  rw [b5, lookup_putF, if_neg h5, b4, lookup_putF, if_neg h4, b3, lookup_putF, if_neg h3, bh, lookup_putF, if_neg h6, b2, lookup_putF, if_neg h2, b1, lookup_putF, if_neg h1]
  rfl
theorem putF_same (f : Str) (v w : V) : ∀ (fs : List (Str × V)), putF f v (putF f w fs) = putF f v fs
  | [] => by
    show (if f = f then _ else _) = _
    rw [if_pos rfl]
    rfl
  | (k, x) :: r => by
    rw [show putF f w ((k, x) :: r) = (if k = f then (k, w) :: r else (k, x) :: putF f w r) from rfl, show putF f v ((k, x) :: r) = (if k = f then (k, v) :: r else (k, x) :: putF f v r) from rfl]
    by_cases h : k = f
    · rw [if_pos h, if_pos h, show putF f v ((k, w) :: r) = (if k = f then (k, v) :: r else (k, w) :: putF f v r) from rfl, if_pos h]
    · rw [if_neg h, if_neg h, show putF f v ((k, x) :: putF f w r) = (if k = f then (k, v) :: putF f w r else (k, x) :: putF f v (putF f w r)) from rfl, if_neg h, putF_same f v w r]
theorem putF_cons (f k : Str) (v x : V) (r : List (Str × V)) : putF f v ((k, x) :: r) = if k = f then (k, v) :: r else (k, x) :: putF f v r := rfl
theorem b5_list {h t : Str} {j m f a : Addr} : b5 h t j m f a = [(("text" : Str), V.str t), (("jobs" : Str), V.ref j), (("head" : Str), V.str h), (("manners" : Str), V.ref m), (("first" : Str), V.ref f), (("facts" : Str), V.ref a)] := by
  have e1 : b1 t = [(("text" : Str), V.str t)] := rfl
  have e2 : b2 t j = [(("text" : Str), V.str t), (("jobs" : Str), V.ref j)] := by rw [b2, e1, putF_cons, if_neg (by decide +kernel)]; rfl
  have e3 : bh h t j = [(("text" : Str), V.str t), (("jobs" : Str), V.ref j), (("head" : Str), V.str h)] := by rw [bh, e2, putF_cons, if_neg (by decide +kernel), putF_cons, if_neg (by decide +kernel)]; rfl
  have e4 : b3 h t j m = [(("text" : Str), V.str t), (("jobs" : Str), V.ref j), (("head" : Str), V.str h), (("manners" : Str), V.ref m)] := by rw [b3, e3, putF_cons, if_neg (by decide +kernel), putF_cons, if_neg (by decide +kernel), putF_cons, if_neg (by decide +kernel)]; rfl
  have e5 : b4 h t j m f = [(("text" : Str), V.str t), (("jobs" : Str), V.ref j), (("head" : Str), V.str h), (("manners" : Str), V.ref m), (("first" : Str), V.ref f)] := by rw [b4, e4, putF_cons, if_neg (by decide +kernel), putF_cons, if_neg (by decide +kernel), putF_cons, if_neg (by decide +kernel), putF_cons, if_neg (by decide +kernel)]; rfl
  rw [b5, e5, putF_cons, if_neg (by decide +kernel), putF_cons, if_neg (by decide +kernel), putF_cons, if_neg (by decide +kernel), putF_cons, if_neg (by decide +kernel), putF_cons, if_neg (by decide +kernel)]
  rfl
theorem b5_putA {h t : Str} {j m f a a' : Addr} : putF "facts" (.ref a') (b5 h t j m f a) = b5 h t j m f a' := by rw [b5, putF_same]; rfl
theorem b5_putT {h t t' : Str} {j m f a : Addr} : putF "text" (.str t') (b5 h t j m f a) = b5 h t' j m f a := by rw [b5_list, b5_list, putF_cons, if_pos rfl]
theorem putF_len (f : Str) (v : V) : ∀ fs : List (Str × V), (putF f v fs).length ≤ fs.length + 1
  | [] => Nat.le_refl _
  | (k, x) :: r => by
    rw [show putF f v ((k, x) :: r) = (if k = f then (k, v) :: r else (k, x) :: putF f v r) from rfl]
    split
    · exact Nat.le_succ _
    · have := putF_len f v r
      rw [List.length_cons, List.length_cons]
      omega
theorem b_len (h t : Str) (j m f a : Addr) : (b1 t).length < 1000 ∧ (b2 t j).length < 1000 ∧ (bh h t j).length < 1000 ∧ (b3 h t j m).length < 1000 ∧ (b4 h t j m f).length < 1000 ∧ (b5 h t j m f a).length < 1000 := by
  have h1 := putF_len "text" (.str t) []
  have h2 := putF_len "jobs" (.ref j) (b1 t)
  have h6 := putF_len "head" (.str h) (b2 t j)
  have h3 := putF_len "manners" (.ref m) (bh h t j)
  have h4 := putF_len "first" (.ref f) (b3 h t j m)
  have h5 := putF_len "facts" (.ref a) (b4 h t j m f)
  rw [List.length_nil] at h1
  unfold b5
  unfold b4 at h5 ⊢
  unfold b3 at h4 h5 ⊢
  unfold bh at h3 h4 h5 ⊢
  unfold b2 at h6 h3 h4 h5 ⊢
  unfold b1 at h2 h6 h3 h4 h5 ⊢
  omega
/-- the manner that lines tell of a job -/
def manOf (ml : List (Str × Str)) (x : Str) : Str := ((ml.find? fun q => decide (q.1 = x)).map (·.2)).getD "plain"
theorem valV_mKv (ml : List (Str × Str)) (x : Str) : (valV (mKv ml) (.inr x)).getD (.str "plain") = .str (manOf ml x) := by
  unfold valV mKv manOf
  induction ml with
  | nil => rfl
  | cons q r ih =>
    rw [List.map_cons, List.find?_cons, List.find?_cons]
    by_cases h : q.1 = x
    · rw [show decide ((Sum.inr q.1 : Key) = .inr x) = true from decide_eq_true (by rw [h]), decide_eq_true h]
      rfl
    · rw [show decide ((Sum.inr q.1 : Key) = .inr x) = false from decide_eq_false (fun z => h (Sum.inr.inj z)), decide_eq_false h]
      exact ih
theorem cut_strs_to (ws : List Str) (b : Nat) : cutV (ws.map V.str) none (some (b : Int)) = ((ws.take b).map V.str) := by
  unfold cutV
  rw [HT.sIx_nat, HT.sIx_none, List.drop_zero, Nat.sub_zero, List.length_map, List.map_take]
  by_cases h : b ≤ ws.length
  · rw [Nat.min_eq_left h]
  · rw [Nat.min_eq_right (by omega), List.take_of_length_le (by rw [List.length_map]; exact Nat.le_refl _), List.take_of_length_le (by rw [List.length_map]; omega)]
/-- the text of a good book, by lines -/
structure TextOk (x : Str) (names : List Str) (ml : List (Str × Str)) (fs : List Fact) : Prop where
  len : x.length ≤ 90000
  ln : Txt.split x "\n" = jN names :: (ml.map mLine ++ fs.map fT) ∧ Txt.split (jN names) " " = ("jobs" : Str) :: names ∧ (jN names).length ≤ 41 ∧ ∀ p ∈ ml, (mLine p).length ≤ 100
  nm : NamesOk names
  mn : MansOk names ml (fs.map fT)
  f : FactsOk names.length fs
def BookAt (C : Addr) (H : Hp) (b : Addr) (x : Str) (names : List Str) (ml : List (Str × Str)) (fs : List Fact) : Prop :=
  ∃ dx j m f a, H b = some (.ins C dx (b5 (hN names ml) x j m f a)) ∧ H j = some (.tup (names.map V.str)) ∧ H m = some (.tup ((names.map (manOf ml)).map V.str)) ∧ Fz H (.ref f) (eS (List.replicate names.length (0, 0))) ∧ Fz H (.ref a) (.tuple (fs.map eF))
def spInitB (C : Addr) : Sp := fun vs H Q _ => ∃ (b dx : Addr) (x : Str) (names : List Str) (ml : List (Str × Str)) (fs : List Fact), vs = [.ref b, .str x] ∧ H b = some (.ins C dx []) ∧ TextOk x names ml fs ∧
  ∀ H', Keep b H H' → BookAt C H' b x names ml fs → Q .non H'
end GD
namespace K04
open PySem PySem.Spec PyProof.Rows L2 GD
abbrev cBook : Stmt := top 24
abbrev pInit : Stmt := inClass cBook 0
section
variable {P : Program} {w : World} {K : PySem.W.Frag} {mg : Str → Option Value} {base : Heap}
structure BookC (K : PySem.W.Frag) (mg : Str → Option Value) (C : Addr) : Prop where
  cl : Cls K C
  nT : NoAttr K C "text"
  nJ : NoAttr K C "jobs"
  nM : NoAttr K C "manners"
  nF : NoAttr K C "first"
  nH : NoAttr K C "head"
  nA : NoAttr K C "facts"
  mgC : mg "Book" = some (.ref C)
abbrev NIn : List Str := ["self", "text", "lines", "lined", "job"]
theorem scIn : FnScope NIn ["self", "text"] (defScope pInit) := ⟨rfl, rfl, rfl, by decide +kernel, rfl, by decide +kernel, by decide +kernel⟩
theorem ok_init {f C fJ fM fA : Addr} {fd fdJ fdM fdA : FuncData} (F : Fun K "__init__" "Book.__init__" pInit f fd) (B : BookC K mg C) (S : Reads1 mg)
    (gJ : mg "read_jobs" = some (.ref fJ)) (bJ : Binds K fdJ ["line"] []) (kJ : PySem.W.keepIn K (.ref fJ) = true) (GJ : FnOk P w K mg base CX0 2 fJ fdJ ["line"] spRdJobs)
    (gM : mg "read_manners" = some (.ref fM)) (bM : Binds K fdM ["lines", "jobs"] []) (kM : PySem.W.keepIn K (.ref fM) = true) (GM : FnOk P w K mg base CX0 1 fM fdM ["lines", "jobs"] spRdMan)
    (gA : mg "read_facts" = some (.ref fA)) (bA : Binds K fdA ["lines", "start", "many"] []) (kA : PySem.W.keepIn K (.ref fA) = true) (GA : FnOk P w K mg base CX0 5 fA fdA ["lines", "start", "many"] spRdFs) :
    FnOk P w K mg base CX0 6 f fd ["self", "text"] (spInitB C) := by
  refine F.ok scIn (fun vs H Q E h => ?_) (fun cdv A outer s H vs Q E hr h => ?_)
  · obtain ⟨b, dx, x, names, ml, fs, rfl, _⟩ := h
    rfl
  · obtain ⟨b, dx, x, names, ml, fs, rfl, hb, ok, q⟩ := h
    have hr1 : Room 1 _ := hr.mono (by decide)
    have hr2 : Room 2 _ := hr.mono (by decide)
    refine ⟨_, pss_cons (ps_if (pt_not (pt_val (pe_callB call_isi (by rfl) S.f.isi (by decide +kernel) (pa_cons (pv 1) (pa_cons (pe_bltn (v := .ty "str") (by rfl) S.f.str PyProof.Rows.Boot.«str» rfl) pa_nil))))) (pss_one ps_no) pss_nil)
      (pss_cons (ps_set (i := 2) scIn.nd rfl (.inl rfl) (pe_bm PySem.F.plainAttrs_str PySem.F.slot_str_split PySem.F.type_str_split mt_split (pv 1) (pa_cons pe_str pa_nil)))
      (pss_cons (ps_fld (pv 0) (pv 1) rfl)
      (pss_cons (ps_fld (pv 0) (pe_call GJ hr2 (by rfl) gJ kJ bJ .nil pass0 (pa_cons (pe_ix ix_list (pv 2) pe_int (fun _ _ => rfl)) pa_nil)) rfl)
      (pss_cons (ps_set (i := 3) scIn.nd rfl (.inr rfl) (pe_call GM hr1 (by rfl) gM kM bM .nil pass0 (pa_cons (pv 2) (pa_cons (pe_fld (pv 0) rfl) pa_nil))))
      (pss_cons (ps_fld (pv 0) (pe_bm PySem.F.plainAttrs_str PySem.F.slot_str_join PySem.F.type_str_join mt_join pe_str (pa_cons (pe_slice sl_list (pv 2) po_none (po_some (pe_op op_add pe_int (pe_callB call_lenD (by rfl) S.f.len PySem.boot_len (pa_cons (pv 3) pa_nil))))) pa_nil)) rfl)
      (pss_cons (ps_fld (pv 0) (pe_callTy call_tuple_of (by rfl) S.f.tup (by decide +kernel) (pa_cons (pe_lc (own := [("job", 4)]) (g := gName 4) (tt := tYes) rfl scIn.nd (pi_tup (pe_fld (pv 0) rfl)) (blkOk_by (N := NIn) (sc := defScope pInit) (by decide +kernel))
          (fun _ _ _ _ _ => pg_name (i := 4) scIn.nd rfl (.inl rfl)) (fun _ _ _ _ _ => pts_nil) (fun _ _ _ _ _ => pe_dget2 (u1 hr) (pv 3) (pv 4) pe_str ⟨rfl, rfl, rfl, rfl⟩)) pa_nil)) rfl)
      (pss_cons (ps_fld (pv 0) (pe_op op_repU (pe_tup (pa_cons (pe_tup (pa_cons pe_int (pa_cons pe_int pa_nil))) pa_nil)) (pe_callB call_len_seq (by rfl) S.f.len PySem.boot_len (pa_cons (pe_fld (pv 0) rfl) pa_nil))) rfl)
      (pss_one (ps_fld (pv 0) (pe_call GA hr (by rfl) gA kA bA .nil pass0 (pa_cons (pv 2) (pa_cons (pe_op op_add pe_int (pe_callB call_lenD (by rfl) S.f.len PySem.boot_len (pa_cons (pv 3) pa_nil))) (pa_cons (pe_callB call_len_seq (by rfl) S.f.len PySem.boot_len (pa_cons (pe_fld (pv 0) rfl) pa_nil)) pa_nil)))) rfl))))))))), ?_⟩
    obtain ⟨hs0, hs1, hl0, hml⟩ := ok.ln
    have olen := ok.len
    have bl := b_len (hN names ml) x
    have okm := ok.mn.l
    refine ⟨_, rfl, _, _, _, _, true, rfl, .ty _, .base (.str _), kit_ty (by decide +kernel), _, rfl, iteF ?_⟩
    refine ⟨_, rfl, rfl, _, _, rfl, rfl, rfl, small_len (by omega), fun l nl => ?_⟩
    have s1 := same_new (o := .lst ((Txt.split x "\n").map V.str)) nl
    have el : (upd H l (.lst ((Txt.split x "\n").map V.str))) l = some (.lst ((jN names :: (ml.map mLine ++ fs.map fT)).map V.str)) := by rw [upd_same, hs0]
    generalize upd H l (.lst ((Txt.split x "\n").map V.str)) = H1 at s1 el ⊢
    have hb1 := s1 _ _ hb
    have nlb : l ≠ b := ne_of el hb1 (fun z => by cases z)
    refine ⟨_, rfl, _, rfl, b, C, dx, [], rfl, hb1, B.cl, B.nT, (by show 0 < 1000; decide), ?_⟩
    have k2 : Keep b H (upd H1 b (.ins C dx (b1 x))) := (sKeep s1).trans keep_at
    have el2 := keep_at (o := .ins C dx (b1 x)) _ _ nlb el
    have hb2 : (upd H1 b (.ins C dx (b1 x))) b = some (.ins C dx (b1 x)) := upd_same
    show tSeq _ _ _ _ (upd H1 b (.ins C dx (b1 x)))
    generalize upd H1 b (.ins C dx (b1 x)) = H2 at k2 el2 hb2 ⊢
    refine ⟨_, rfl, l, _, 0, _, rfl, rfl, SqL.of el2, at0, jN names, names, rfl, Nat.le_trans hl0 (by decide), hs1, ok.nm, fun j H3 nj s3 ej => ?_⟩
    have hb3 := s3 _ _ hb2
    have njb : j ≠ b := ne_of ej hb3 (fun z => by cases z)
    refine ⟨_, rfl, b, C, dx, _, rfl, hb3, B.cl, B.nJ, (bl j j j j).1, ?_⟩
    have k4 : Keep b H2 (upd H3 b (.ins C dx (b2 x j))) := (sKeep s3).trans keep_at
    have ej4 := keep_at (o := .ins C dx (b2 x j)) _ _ njb ej
    have hb4 : (upd H3 b (.ins C dx (b2 x j))) b = some (.ins C dx (b2 x j)) := upd_same
    show tSeq _ _ _ _ (upd H3 b (.ins C dx (b2 x j)))
    generalize upd H3 b (.ins C dx (b2 x j)) = H4 at k4 ej4 hb4 ⊢
    have el4 := k4 _ _ nlb el2
    refine ⟨_, rfl, _, rfl, b, C, dx, _, _, rfl, hb4, B.cl, B.nJ, b2_jobs _ _, l, j, jN names, names, ml, fs.map fT, rfl, el4, ej4, ok.mn, fun d H5 nd s5 ed => ?_⟩
    have hb5 := s5 _ _ hb4
    have ej5 := s5 _ _ ej4
    have ndb : d ≠ b := ne_of ed hb5 (fun z => by cases z)
    have lkv0 : (mKv ml).length = ml.length := List.length_map ..
    refine ⟨rfl, _, rfl, _, rfl, d, _, rfl, ed, _, _, rfl, rfl, _, rfl, l, _, rfl, SqL.of (s5 _ _ el4), fun ph nph => ?_⟩
    have ecut : cutV ((jN names :: (ml.map mLine ++ fs.map fT)).map V.str) none (some (1 + ((mKv ml).length : Int))) = ((jN names :: ml.map mLine).map V.str) := by
      rw [lkv0, show (1 + (ml.length : Int)) = ((1 + ml.length : Nat) : Int) by omega, cut_strs_to, Nat.add_comm, List.take_succ_cons, show ml.length = (ml.map mLine).length from (List.length_map ..).symm, List.take_left]
    rw [ecut]
    have sh := same_new (o := .lst ((jN names :: ml.map mLine).map V.str)) nph
    have eh : (upd H5 ph (.lst ((jN names :: ml.map mLine).map V.str))) ph = some (.lst ((jN names :: ml.map mLine).map V.str)) := upd_same
    generalize upd H5 ph (.lst ((jN names :: ml.map mLine).map V.str)) = H5a at sh eh ⊢
    refine ⟨_, ph, _, rfl, rfl, .inl (SqL.of eh), ?_, ?_⟩
    · have z := sum_len (ys := jN names :: ml.map mLine) (k := 100) fun y hy => by
        rcases List.mem_cons.mp hy with e | e
        · rw [e]
          omega
        · obtain ⟨p, hp, rfl⟩ := List.mem_map.mp e
          exact hml p hp
      rw [List.length_cons, List.length_map] at z
      rw [List.length_cons, List.length_map, show ("\n" : Str).length = 1 from rfl]
      omega
    have hb5a := sh _ _ hb5
    refine ⟨_, rfl, b, C, dx, _, rfl, hb5a, B.cl, B.nH, (bl j j j j).2.1, ?_⟩
    have k4b : Keep b H4 (upd H5a b (.ins C dx (bh (hN names ml) x j))) := ((sKeep s5).trans (sKeep sh)).trans keep_at
    have ej5b := keep_at (o := .ins C dx (bh (hN names ml) x j)) _ _ njb (sh _ _ ej5)
    have ed5b := keep_at (o := .ins C dx (bh (hN names ml) x j)) _ _ ndb (sh _ _ ed)
    have hb5b : (upd H5a b (.ins C dx (bh (hN names ml) x j))) b = some (.ins C dx (bh (hN names ml) x j)) := upd_same
    show tSeq _ _ _ _ (upd H5a b (.ins C dx (bh (hN names ml) x j)))
    clear ed hb5 ej5
    generalize upd H5a b (.ins C dx (bh (hN names ml) x j)) = H5b at k4b ej5b ed5b hb5b ⊢
    have hb5 := hb5b
    have ej5 := ej5b
    have ed := ed5b
    refine ⟨_, rfl, b, C, dx, _, _, rfl, hb5, B.cl, B.nJ, bh_jobs _ _, j, rfl, ⟨_, SqT.of ej5⟩, fun D hD => ?_⟩
    have nl4 := ok.nm.l4
    have nl1 := ok.nm.l1
    refine lc_tup (K := K) (a := j) (xs := names.map V.str) (fun i H' => Same H5b H' ∧ H' D = some (.lst (((names.take i).map (manOf ml)).map V.str))) ⟨same_new hD, upd_same⟩ (fun i H' _ ⟨s6, _⟩ => SqT.of (s6 _ _ ej5)) ?_ ?_
    · rintro i v H' hx ⟨s6, eD⟩
      rw [List.getElem?_map] at hx
      cases c : names[i]? with
      | none =>
        rw [c] at hx
        cases hx
      | some y =>
        rw [c] at hx
        obtain rfl : V.str y = v := Option.some.inj hx
        have hi : i < names.length := (List.getElem?_eq_some_iff.mp c).1
        have ed6 := s6 _ _ ed
        refine ⟨rfl, _, rfl, d, rfl, .inl ⟨_, .inl ed6⟩, _, rfl, _, DGet.k (k := .inr y) ed6, ?_⟩
        rw [valV_mKv]
        refine ⟨_, eD, ?_, same_upd s6 hD, ?_⟩
        · rw [List.length_map, List.length_map, List.length_take]
          exact Nat.lt_of_le_of_lt (Nat.min_le_left _ _) (Nat.lt_of_lt_of_le (show i < 5 by omega) (by decide))
        · rw [upd_same, take_next c, List.map_append, List.map_append]
          rfl
    · rintro H6 ⟨s6, eD⟩
      rw [List.length_map, List.take_length] at eD
      refine ⟨D, _, rfl, .inl ⟨SqL.of eD, fun m hm => ?_⟩⟩
      have s7 := same_new (o := .tup ((names.map (manOf ml)).map V.str)) hm
      have em : (upd H6 m (.tup ((names.map (manOf ml)).map V.str))) m = some (.tup ((names.map (manOf ml)).map V.str)) := upd_same
      generalize upd H6 m (.tup ((names.map (manOf ml)).map V.str)) = H7 at s7 em ⊢
      have s57 := s6.trans s7
      have hb7 := s57 _ _ hb5
      have nmb : m ≠ b := ne_of em hb7 (fun z => by cases z)
      refine ⟨_, rfl, b, C, dx, _, rfl, hb7, B.cl, B.nM, (bl j j j j).2.2.1, ?_⟩
      have k8 : Keep b H4 (upd H7 b (.ins C dx (b3 (hN names ml) x j m))) := (k4b.trans (sKeep s57)).trans keep_at
      have em8 := keep_at (o := .ins C dx (b3 (hN names ml) x j m)) _ _ nmb em
      have ed8 := keep_at (o := .ins C dx (b3 (hN names ml) x j m)) _ _ ndb (s57 _ _ ed)
      have hb8 : (upd H7 b (.ins C dx (b3 (hN names ml) x j m))) b = some (.ins C dx (b3 (hN names ml) x j m)) := upd_same
      show tSeq _ _ _ _ (upd H7 b (.ins C dx (b3 (hN names ml) x j m)))
      generalize upd H7 b (.ins C dx (b3 (hN names ml) x j m)) = H8 at k8 em8 ed8 hb8 ⊢
      have ej8 := k8 _ _ njb ej4
      have el8 := k8 _ _ nlb el4
      refine ⟨(by show 2 ≤ sizeLine; decide), fun t0 ht0 => ⟨(by show 1 ≤ sizeLine; decide), fun t1 ht1 => ?_⟩⟩
      have sa := same_new (o := .tup [.int 0, .int 0]) ht0
      have ea : (upd H8 t0 (.tup [.int 0, .int 0])) t0 = some (.tup [.int 0, .int 0]) := upd_same
      generalize upd H8 t0 (.tup [.int 0, .int 0]) = H9 at sa ea ht1 ⊢
      have sb := same_new (o := .tup [.ref t0]) ht1
      have eb : (upd H9 t1 (.tup [.ref t0])) t1 = some (.tup [.ref t0]) := upd_same
      have ea2 := sb _ _ ea
      generalize upd H9 t1 (.tup [.ref t0]) = H10 at sb eb ea2 ⊢
      have sab := sa.trans sb
      have hb10 := sab _ _ hb8
      refine ⟨_, rfl, b, C, dx, _, _, rfl, hb10, B.cl, B.nJ, b3_jobs _ _ _, j, _, rfl, .inr (SqT.of (sab _ _ ej8)), ?_⟩
      refine ⟨t1, names.length, [.ref t0], rfl, by rw [List.length_map], eb, (fun z => by cases z), nl1, by omega, (by show 1 ≤ 1000; decide), fun f H11 s11 ef => ?_⟩
      have hb11 := s11 _ _ hb10
      have s811 := sab.trans s11
      have nfb : f ≠ b := ne_of ef hb11 (fun z => by cases z)
      have ff : Fz H11 (.ref f) (eS (List.replicate names.length (0, 0))) := by
        refine .tup ef ?_
        have e0 : Fz H11 (.ref t0) (eP (0, 0)) := .tup (s11 _ _ ea2) (.cons (.int 0) (.cons (.int 0) .nil))
        generalize names.length = nn
        induction nn with
        | zero => exact .nil
        | succ nn ih => exact .cons e0 ih
      refine ⟨_, rfl, b, C, dx, _, rfl, hb11, B.cl, B.nF, (bl j m j j).2.2.2.1, ?_⟩
      have k12 : Keep b H8 (upd H11 b (.ins C dx (b4 (hN names ml) x j m f))) := (sKeep s811).trans keep_at
      have ff12 := ff.mv (Keep.tupsI hb11 (keep_at (o := .ins C dx (b4 (hN names ml) x j m f))))
      have hb12 : (upd H11 b (.ins C dx (b4 (hN names ml) x j m f))) b = some (.ins C dx (b4 (hN names ml) x j m f)) := upd_same
      show Ends.nx _ _ (upd H11 b (.ins C dx (b4 (hN names ml) x j m f)))
      generalize upd H11 b (.ins C dx (b4 (hN names ml) x j m f)) = H12 at k12 ff12 hb12 ⊢
      have ej12 := k12 _ _ njb ej8
      have el12 := k12 _ _ nlb el8
      have ed12 := k12 _ _ ndb ed8
      have em12 := k12 _ _ nmb em8
      have lkv : (mKv ml).length = ml.length := List.length_map ..
      have okl := ok.mn.l
      refine ⟨_, rfl, _, rfl, d, _, rfl, ed12, _, _, rfl, rfl, _, rfl, b, C, dx, _, _, rfl, hb12, B.cl, B.nJ, b4_jobs _ _ _ _, j, _, rfl, .inr (SqT.of ej12), ?_⟩
      refine ⟨l, jN names :: (ml.map mLine ++ fs.map fT), 1 + ml.length, names.length, fs, ?_, el12, ?_, ?_, nl1, nl4, ok.f, by omega, fun v H13 s13 fz => ?_⟩
      · rw [lkv, List.length_map]
        show [V.ref l, V.int (1 + (ml.length : Int)), V.int (names.length : Int)] = _
        rw [show (1 + (ml.length : Int)) = ((1 + ml.length : Nat) : Int) by omega]
      · rw [List.length_cons, List.length_append, List.length_map]
        omega
      · rw [Nat.add_comm, List.drop_succ_cons, show ml.length = (ml.map mLine).length from (List.length_map ..).symm, List.drop_left]
      obtain ⟨a, xs, rfl, ha, fa⟩ := fz.t
      have hb13 := s13 _ _ hb12
      refine ⟨_, rfl, b, C, dx, _, rfl, hb13, B.cl, B.nA, (bl j m f j).2.2.2.2.1, ?_⟩
      have tF := Keep.tupsI hb13 (keep_at (o := .ins C dx (b5 (hN names ml) x j m f a)))
      have kF : Keep b H12 (upd H13 b (.ins C dx (b5 (hN names ml) x j m f a))) := (sKeep s13).trans keep_at
      refine q _ ((((k2.trans k4).trans k8).trans k12).trans kF) ⟨dx, j, m, f, a, upd_same, kF _ _ njb ej12, kF _ _ nmb em12, (ff12.mv (tups_same s13)).mv tF, fz.mv tF⟩
end
end K04
namespace GD
open PySem PySem.Spec PyProof.Rows L2
/-- f'..', named -/
def tJn (ts : List TE) : TE := fun σ H Q => tJs ts Str.empty σ H fun out H1 => Q (.str out) H1
theorem pe_jn {X : Cx} {v1 v2 : Expr} {rest : List Expr} {ts : List TE} {pos : Pos} (h : PJ X (v1 :: v2 :: rest) ts) : PE X (.JoinedStr (v1 :: v2 :: rest) pos) (tJn ts) := pe_joined h
theorem emp (x : Str) : Str.empty ++ x = x := TL.ext_tl (by rw [TL.tl_append]; rfl)
end GD
namespace K04
open PySem PySem.Spec PyProof.Rows L2 GD
section
variable {P : Program} {w : World} {K : PySem.W.Frag} {mg : Str → Option Value} {base : Heap}
abbrev NCt : List Str := ["standing", "begun", "ended"]
theorem scCt : FnScope NCt ["standing"] (defScope pCountsText) := ⟨rfl, rfl, rfl, by decide +kernel, rfl, by decide +kernel, by decide +kernel⟩
theorem ok_ctext {f : Addr} {fd : FuncData} (F : Fun K "counts_text" "counts_text" pCountsText f fd) : FnOk P w K mg base CX0 1 f fd ["standing"] spStext := by
  refine F.ok scCt (fun vs H Q E h => ?_) (fun cdv A outer s H vs Q E hr h => ?_)
  · obtain ⟨v, sn, n, rfl, _⟩ := h
    rfl
  · obtain ⟨v, sn, n, rfl, fz, hb, hn, hl, q⟩ := h
    refine ⟨_, pss_one (ps_ret (pe_bm PySem.F.plainAttrs_str PySem.F.slot_str_join PySem.F.type_str_join mt_join pe_str (pa_cons (pe_lc (own := [("begun", 1), ("ended", 2)]) (g := gTup K 2 (gCons (gName 1) (gCons (gName 2) gNil))) (tt := tYes) rfl scCt.nd (pi_tup (pv 0))
      (blkOk_by (N := NCt) (sc := defScope pCountsText) (by decide +kernel)) (fun _ _ _ _ _ => pg_tup rfl (pgs_cons (pg_name (i := 1) scCt.nd rfl (.inl rfl)) (pgs_cons (pg_name (i := 2) scCt.nd rfl (.inl rfl)) pgs_nil))) (fun _ _ _ _ _ => pts_nil)
      (fun _ _ _ _ _ => pe_jn (.cons (pe_fmt (pv 1)) (.cons pe_str (.cons (pe_fmt (pv 2)) .nil))))) pa_nil))), ?_⟩
    obtain ⟨a, xs, rfl, ha, fx⟩ := fz.t
    have lx : xs.length = sn.length := by rw [fx.len, List.length_map]
    refine ⟨rfl, _, rfl, a, rfl, ⟨_, SqT.of ha⟩, fun D hD => ?_⟩
    refine lc_tup (K := K) (a := a) (xs := xs) (fun i H' => Same H H' ∧ H' D = some (.lst (((sn.take i).map pT).map V.str))) ⟨same_new hD, upd_same⟩ (fun i H' _ ⟨s2, _⟩ => SqT.of (s2 _ _ ha)) ?_ ?_
    · rintro i x H' hx ⟨s1, eD⟩
      obtain ⟨p, hp, fp⟩ := fx.atM hx
      obtain ⟨b, y1, y2, rfl, hb1, f1, f2⟩ := fp.t2
      obtain rfl := f1.i
      obtain rfl := f2.i
      have hi : i < sn.length := (List.getElem?_eq_some_iff.mp hp).1
      have hpb := hb p (List.mem_of_getElem? hp)
      have l1 := len_nT (i := p.1) (by omega) (by omega)
      have l2 := len_nT (i := p.2) (by omega) (by omega)
      refine ⟨b, _, rfl, SqT.of (s1 _ _ hb1), rfl, _, _, rfl, _, _, rfl, rfl, rfl, ?_⟩
      refine ⟨_, rfl, .inr ⟨p.1, rfl, log_small (by omega) (by omega), nT p.1, rfl, ?_, " ", rfl, ?_, _, rfl, .inr ⟨p.2, rfl, log_small (by omega) (by omega), nT p.2, rfl, ?_, ?_⟩⟩⟩
      · rw [emp]
        exact small_len (by omega)
      · rw [emp, len_app, len1]
        exact small_len (by omega)
      · rw [emp, len_app, len_app, len1]
        exact small_len (by omega)
      refine ⟨_, eD, ?_, same_upd s1 hD, ?_⟩
      · rw [List.length_map, List.length_map, List.length_take]
        exact Nat.lt_of_le_of_lt (Nat.min_le_left _ _) (Nat.lt_of_lt_of_le (show i < 101 by omega) (by decide))
      · rw [emp, upd_same, take_next hp, List.map_append, List.map_append]
        rfl
    · rintro H' ⟨s1, eD⟩
      rw [lx, List.take_length] at eD
      refine ⟨_, D, _, rfl, rfl, .inl (SqL.of eD), ?_, q H' s1⟩
      have z := sum_len (ys := sn.map pT) (k := 9) fun x hx => by
        obtain ⟨p, hp, rfl⟩ := List.mem_map.mp hx
        exact len_pT hb hn hp
      rw [List.length_map] at z
      rw [List.length_map, len1]
      omega
theorem scFL : FnScope ["fact"] ["fact"] (defScope pFactLine) := ⟨rfl, rfl, rfl, by decide +kernel, rfl, by decide +kernel, by decide +kernel⟩
theorem ok_factline {f fX : Addr} {fd fdX : FuncData} (F : Fun K "fact_line" "fact_line" pFactLine f fd) (AX : At K mg "counts_text" pCountsText ["standing"] fX fdX) : FnOk P w K mg base CX0 2 f fd ["fact"] spFline := by
  have GX : FnOk P w K mg base CX0 1 fX fdX ["standing"] spStext := ok_ctext AX.F
  refine F.ok scFL (fun vs H Q E h => ?_) (fun cdv A outer s H vs Q E hr h => ?_)
  · obtain ⟨v, f, k, n, rfl, _⟩ := h
    rfl
  · obtain ⟨v, f, k, n, rfl, fz, hb, hn, hk, q⟩ := h
    refine ⟨_, pss_cons (ps_if (pt_cmpR op_eq (pe_ix ix_tup (pv 0) pe_int (fun _ _ => rfl)) pe_str (nomark _))
        (pss_one (ps_ret (pe_jn (.cons pe_str (.cons (pe_fmt (pe_call GX hr (by rfl) AX.g AX.F.kp AX.b .nil pass0 (pa_cons (pe_ix ix_tup (pv 0) pe_int (fun _ _ => rfl)) pa_nil))) (.cons pe_str (.cons (pe_fmt (pe_call GX hr (by rfl) AX.g AX.F.kp AX.b .nil pass0 (pa_cons (pe_ix ix_tup (pv 0) pe_int (fun _ _ => rfl)) pa_nil))) .nil))))))) pss_nil)
      (pss_one (ps_ret (pe_jn (.cons (pe_fmt (pe_ix ix_tup (pv 0) pe_int (fun _ _ => rfl))) (.cons pe_str (.cons (pe_fmt (pe_call GX hr (by rfl) AX.g AX.F.kp AX.b .nil pass0 (pa_cons (pe_ix ix_tup (pv 0) pe_int (fun _ _ => rfl)) pa_nil))) .nil)))))), ?_⟩
    have e3 : ("let" : Str).length = 3 := rfl
    have e4 : ("not" : Str).length = 3 := rfl
    have e5 : ("as " : Str).length = 3 := rfl
    have e6 : (" to " : Str).length = 4 := rfl
    cases f with
    | let_ s =>
      obtain ⟨b, x, y, rfl, e, h1, h2⟩ := fz.t2
      obtain rfl := h1.s
      have ls := len_sT hb.2 hn
      rw [hb.1] at ls
      refine ⟨_, rfl, b, _, 0, _, rfl, rfl, SqT.of e, at0, rfl, _, rfl, iteF ?_⟩
      refine ⟨_, rfl, b, _, 0, _, rfl, rfl, SqT.of e, at0, .inl ⟨"let", rfl, by decide, "let", rfl, by decide, " ", rfl, by decide, ?_⟩⟩
      refine ⟨_, rfl, b, _, 1, _, rfl, rfl, SqT.of e, at1, y, s, n, rfl, h2, hb.2, hn, by rw [hb.1]; exact hk, fun H' s' => .inl ⟨sT s, rfl, small_len (by omega), sT s, rfl, ?_, ?_⟩⟩
      · rw [emp, len_app, len_app, e3, len1]
        exact small_len (by omega)
      · rw [emp]
        exact q H' s'
    | not_ s =>
      obtain ⟨b, x, y, rfl, e, h1, h2⟩ := fz.t2
      obtain rfl := h1.s
      have ls := len_sT hb.2 hn
      rw [hb.1] at ls
      refine ⟨_, rfl, b, _, 0, _, rfl, rfl, SqT.of e, at0, rfl, _, rfl, iteF ?_⟩
      refine ⟨_, rfl, b, _, 0, _, rfl, rfl, SqT.of e, at0, .inl ⟨"not", rfl, by decide, "not", rfl, by decide, " ", rfl, by decide, ?_⟩⟩
      refine ⟨_, rfl, b, _, 1, _, rfl, rfl, SqT.of e, at1, y, s, n, rfl, h2, hb.2, hn, by rw [hb.1]; exact hk, fun H' s' => .inl ⟨sT s, rfl, small_len (by omega), sT s, rfl, ?_, ?_⟩⟩
      · rw [emp, len_app, len_app, e4, len1]
        exact small_len (by omega)
      · rw [emp]
        exact q H' s'
    | as_ s t =>
      obtain ⟨b, x, y, z, rfl, e, h1, h2, h3⟩ := fz.t3
      obtain rfl := h1.s
      obtain ⟨k1, b1, k2, b2, ne⟩ := hb
      have ls := len_sT b1 hn
      rw [k1] at ls
      have lt := len_sT b2 hn
      rw [k2] at lt
      refine ⟨_, rfl, b, _, 0, _, rfl, rfl, SqT.of e, at0, rfl, _, rfl, iteT ?_⟩
      refine ⟨"as ", rfl, by decide, ?_⟩
      refine ⟨_, rfl, b, _, 1, _, rfl, rfl, SqT.of e, at1, y, s, n, rfl, h2, b1, hn, by rw [k1]; exact hk, fun H1 s1 => .inl ⟨sT s, rfl, small_len (by omega), sT s, rfl, ?_, " to ", rfl, ?_, ?_⟩⟩
      · rw [emp, len_app, e5]
        exact small_len (by omega)
      · rw [emp, len_app, len_app, e5, e6]
        exact small_len (by omega)
      refine ⟨_, rfl, b, _, 2, _, rfl, rfl, SqT.of (s1 _ _ e), at2, z, t, n, rfl, h3.same s1, b2, hn, by rw [k2]; exact hk, fun H2 s2 => .inl ⟨sT t, rfl, small_len (by omega), sT t, rfl, ?_, ?_⟩⟩
      · rw [emp, len_app, len_app, len_app, e5, e6]
        exact small_len (by omega)
      · rw [emp]
        exact q H2 (s1.trans s2)
end
end K04
namespace GD
open PySem PySem.Spec PyProof.Rows L2
/-! the text of a book by its lines, and that it is read back -/
def lN (names : List Str) (ml : List (Str × Str)) (fs : List Fact) : List Str := jN names :: (ml.map mLine ++ fs.map fT)
def bN (names : List Str) (ml : List (Str × Str)) (fs : List Fact) : Str := Txt.join "\n" (lN names ml fs)
structure GoodB (names : List Str) (ml : List (Str × Str)) (fs : List Fact) : Prop where
  nm : NamesOk names
  m1 : ∀ p ∈ ml, p.1 ∈ names
  m2 : ∀ p ∈ ml, p.2 ∈ lined3
  nd : (ml.map (·.1)).Nodup
  f : FactsOk names.length fs
theorem nodup_sub_len {α : Type} [DecidableEq α] : ∀ {l m : List α}, l.Nodup → (∀ x ∈ l, x ∈ m) → l.length ≤ m.length
  | [], m, _, _ => Nat.zero_le _
  | a :: l, m, h, hs => by
    have h1 := List.nodup_cons.mp h
    have ham := hs a List.mem_cons_self
    have hp := List.perm_cons_erase ham
    have z : l.length ≤ (m.erase a).length := nodup_sub_len h1.2 fun x hx => by
      have hxa : x ≠ a := fun e => h1.1 (e ▸ hx)
      exact (List.mem_erase_of_ne hxa).mpr (hs x (List.mem_cons_of_mem _ hx))
    have l2 := hp.length_eq
    rw [List.length_cons] at l2 ⊢
    omega
theorem GoodB.mlen {names : List Str} {ml : List (Str × Str)} {fs : List Fact} (h : GoodB names ml fs) : ml.length ≤ 4 := by
  have z := nodup_sub_len h.nd fun x hx => by
    obtain ⟨p, hp, rfl⟩ := List.mem_map.mp hx
    exact h.m1 p hp
  rw [List.length_map] at z
  have := h.nm.l4
  omega
theorem free_jobs : Free 32 ("jobs" : Str) := by
  unfold Free
  decide +kernel
theorem jN_words {names : List Str} (h : names ≠ []) : jN names = Txt.join " " (("jobs" : Str) :: names) := by
  rw [jN, join_cons h, show ("jobs " : Str) = "jobs" ++ " " from rfl]
theorem split_jN {names : List Str} (h : NamesOk names) : Txt.split (jN names) " " = ("jobs" : Str) :: names := by
  have ne : names ≠ [] := fun e => by
    have := h.l1
    rw [e] at this
    exact absurd this (by decide)
  rw [jN_words ne]
  refine split_sp (fun z => by cases z) fun x hx => ?_
  rcases List.mem_cons.mp hx with e | e
  · rw [e]
    exact free_jobs
  · exact nameB_free (h.nm x e) (by decide)
theorem free_app {c : Nat} {x y : Str} (h1 : Free c x) (h2 : Free c y) : Free c (x ++ y) := by
  unfold Free at *
  rw [TL.tl_append]
  exact fun m => (List.mem_append.mp m).elim h1 h2
theorem free_join {c : Nat} {y : Str} (hy : Free c y) : ∀ {xs : List Str}, (∀ x ∈ xs, Free c x) → Free c (Txt.join y xs)
  | [], _ => by
    unfold Free
    rw [TL.join_eq]
    exact fun m => (nomatch m)
  | [x], h => by
    rw [join_one]
    exact h x List.mem_cons_self
  | a :: b :: r, h => by
    rw [join_cons (by simp)]
    exact free_app (free_app (h a List.mem_cons_self) hy) (free_join hy fun x hx => h x (List.mem_cons_of_mem _ hx))
theorem free_sp10 : Free 10 (" " : Str) := by
  unfold Free
  decide +kernel
theorem free_jb10 : Free 10 ("jobs " : Str) := by
  unfold Free
  decide +kernel
theorem free_lined10 {x : Str} (h : x ∈ lined3) : Free 10 x := by
  unfold lined3 at h
  simp only [List.mem_cons, List.not_mem_nil, or_false] at h
  rcases h with rfl | rfl | rfl <;> (unfold Free; decide +kernel)
theorem free_lN {names : List Str} {ml : List (Str × Str)} {fs : List Fact} (h : GoodB names ml fs) : ∀ x ∈ lN names ml fs, Free 10 x := fun x hx => by
  rcases List.mem_cons.mp hx with e | e
  · rw [e]
    exact free_app free_jb10 (free_join free_sp10 fun y hy => nameB_free (h.nm.nm y hy) (by decide))
  · rcases List.mem_append.mp e with e | e
    · obtain ⟨p, hp, rfl⟩ := List.mem_map.mp e
      exact free_app (free_app (free_lined10 (h.m2 p hp)) free_sp10) (nameB_free (h.nm.nm _ (h.m1 p hp)) (by decide))
    · obtain ⟨f, hf, rfl⟩ := List.mem_map.mp e
      rw [fT_words (h.f.b f hf) h.nm.l1]
      exact free_join free_sp10 (free_wF (h.f.b f hf) (by decide))
theorem split_bN {names : List Str} {ml : List (Str × Str)} {fs : List Fact} (h : GoodB names ml fs) : Txt.split (bN names ml fs) "\n" = lN names ml fs := split_nl (fun z => by cases z) (free_lN h)
theorem len_jN {names : List Str} (h : NamesOk names) : (jN names).length ≤ 41 := by
  have z := len_join (y := " ") (ys := names) (k := 8) fun x hx => nameB_len (h.nm x hx)
  have := h.l4
  rw [len1] at z
  rw [jN, len_app, show ("jobs " : Str).length = 5 from rfl]
  omega
theorem good_text {names : List Str} {ml : List (Str × Str)} {fs : List Fact} (h : GoodB names ml fs) : TextOk (bN names ml fs) names ml fs := by
  have l4 := h.nm.l4
  have l1 := h.nm.l1
  have lm := h.mlen
  have lf := h.f.len
  refine ⟨?_, ⟨split_bN h, split_jN h.nm, len_jN h.nm, fun p hp => by have a := nameB_len (h.nm.nm _ (h.m1 p hp)); have b := (free_lined (h.m2 p hp)).2; rw [mLine, len_app, len_app, len1]; omega⟩, h.nm, ⟨fun p hp => ?_, h.m2, h.nd, fun x hx => ?_, by omega, by rw [List.length_map]; omega⟩, h.f⟩
  · have z := len_join (y := "\n") (ys := lN names ml fs) (k := 100) fun x hx => by
      rcases List.mem_cons.mp hx with e | e
      · rw [e]
        exact Nat.le_trans (len_jN h.nm) (by decide)
      · rcases List.mem_append.mp e with e | e
        · obtain ⟨p, hp, rfl⟩ := List.mem_map.mp e
          have a := nameB_len (h.nm.nm _ (h.m1 p hp))
          have b := (free_lined (h.m2 p hp)).2
          rw [mLine, len_app, len_app, len1]
          omega
        · obtain ⟨f, hf, rfl⟩ := List.mem_map.mp e
          have a := len_fT (h.f.b f hf) (by decide)
          omega
    rw [show ("\n" : Str).length = 1 from rfl] at z
    refine Nat.le_trans z ?_
    rw [lN, List.length_cons, List.length_append, List.length_map, List.length_map]
    omega
  · have hn := h.m1 p hp
    exact ⟨hn, nameB_free (h.nm.nm _ hn) (by decide), Nat.le_trans (nameB_len (h.nm.nm _ hn)) (by decide)⟩
  · obtain ⟨f, hf, rfl⟩ : ∃ f ∈ fs, fT f = x := by
      cases fs with
      | nil => cases hx
      | cons f r => exact ⟨f, List.mem_cons_self, Option.some.inj hx⟩
    have hb := h.f.b f hf
    refine ⟨?_, Nat.le_trans (len_fT hb (by decide)) (by omega)⟩
    rw [split_fT hb l1]
    cases f with
    | let_ s =>
      have l := wS_len s
      rw [hb.1] at l
      rw [wF, List.length_cons, l]
      omega
    | not_ s =>
      have l := wS_len s
      rw [hb.1] at l
      rw [wF, List.length_cons, l]
      omega
    | as_ s t =>
      have l := wS_len s
      rw [hb.1] at l
      rw [wF, List.length_append, List.length_cons, List.length_cons, l]
      omega
theorem bN_snoc {names : List Str} {ml : List (Str × Str)} {fs : List Fact} {f : Fact} : bN names ml (fs ++ [f]) = bN names ml fs ++ "\n" ++ fT f := by
  rw [bN, lN, List.map_append, ← List.append_assoc, ← List.cons_append, join_app (fun z => by cases z) (fun z => by cases z)]
  show _ ++ _ ++ Txt.join "\n" [fT f] = _
  rw [join_one]
  rfl
theorem hN_bN (names : List Str) (ml : List (Str × Str)) : hN names ml = bN names ml [] := by
  rw [bN, lN, List.map_nil, List.append_nil]
  rfl
theorem GoodB.head {names : List Str} {ml : List (Str × Str)} {fs : List Fact} (h : GoodB names ml fs) : GoodB names ml [] := { h with f := ⟨fun f hf => (nomatch hf), .nil, fun x hx => Nat.zero_le _⟩ }
/-- the text that the law's own lines make -/
theorem bT_bN (js : List (Str × Str)) (fs : List Fact) : bT js fs = bN (js.map (·.1)) (js.filter fun j => decide (j.2 ≠ ("plain" : Str))) fs := rfl
/-- texts are equal just if their lines are -/
theorem bN_inj {n1 n2 : List Str} {m1 m2 : List (Str × Str)} {f1 f2 : List Fact} (h1 : GoodB n1 m1 f1) (h2 : GoodB n2 m2 f2) (e : bN n1 m1 f1 = bN n2 m2 f2) : lN n1 m1 f1 = lN n2 m2 f2 := by
  rw [← split_bN h1, ← split_bN h2, e]
end GD
/-! == and != of an instance whose class has its own __eq__, and no __ne__; the other any value -/
namespace GD
open PySem PySem.Spec PyProof.Rows L2
section
variable {M : Model} {prog : Program} {w : World} {A : Around} {E : Value → Shared → Prop} {s : Shared} {K : PySem.W.Frag} {x C f : Addr} {ox : Obj} {od : Option Obj} {b tb : Value}
/-- the own == tells a bool -/
abbrev SaysB (prog : Program) (w : World) (A : Around) (E : Value → Shared → Prop) (f x : Addr) (b : Value) (Q : Bool → Shared → Prop) (s : Shared) : Prop := wpAny (model prog w) A (call (.ref f) [.ref x, b]) (fun v s' => ∃ k, v = .bool k ∧ Q k s') E s
theorem ne_entry {Q : Fin → Shared → Prop} (hu : A.units < cLine) (X : K.In s.heap) (I : PySem.W.InstAt s.heap x ox C od) (hs : PySem.W.findIn K (.ref C) "__eq__" = some (some (.ref f))) (hf : PySem.W.isFn K (.ref f) = true)
    (h : SaysB prog w A E f x b (fun k s' => Q (.done (.ret (.bool (!k)))) s') s) : wpAny (model prog w) A (Builtin.«object.__ne__» ⟨[.ref x, b], []⟩) Q E s := by
  unfold Builtin.«object.__ne__»
  have key : wpAny (model prog w) A (callSpecialIfBound? (.ref x) "__eq__" [b]) (fun r s' => ∃ k, r = some (.bool k) ∧ Q (.done (.ret (.bool (!k)))) s') E s :=
    PySem.W.ifBound_K X I hs hf (wpAny_mono h (fun v s' ⟨k, e, q⟩ => ⟨k, by rw [e], q⟩) fun _ _ e => e)
  repeat (first | with_reducible refine wpAny_cRoomFor hu ?_ | with_reducible refine wpAny_bind (wpAny_mono key ?_ fun _ _ e => e) | wp_step)
  rintro r s' ⟨k, rfl, q⟩
  exact wpAny_bind (wpAny_truthy_bool (wpAny_pure q))
theorem call_objNe {Q : Value → Shared → Prop} (hu : A.units + 1 < cLine) (X : K.In s.heap) (I : PySem.W.InstAt s.heap x ox C od) (hm : PySem.W.mroIn K C (.type "object") = some true) (hs : PySem.W.findIn K (.ref C) "__eq__" = some (some (.ref f))) (hf : PySem.W.isFn K (.ref f) = true)
    (h : SaysB prog w A.in1 E f x b (fun k s' => Q (.bool (!k)) s') s) : wpAny (model prog w) A (call (.builtin "object.__ne__") [.ref x, b]) Q E s := by
  refine wpAny_call (codeAny_call_builtin F.cmp_object.ne.plain F.cmpEntry_ne (PySem.W.check_slot F.cmpKind_ne F.cmpSplit_ne (I.type.andThen (PySem.W.looks_mroIn X hm)) (F.cmpArgs_ne _ _) ?_))
  exact ne_entry (by show A.units + 1 < cLine; exact hu) X I hs hf h
theorem ifBound_objNe {args : List Value} {Q : Option Value → Shared → Prop} (X : K.In s.heap) (I : PySem.W.InstAt s.heap x ox C od) (hn : PySem.W.findIn K (.ref C) "__ne__" = some (some (.builtin "object.__ne__")))
    (h : wpAny M A (call (.builtin "object.__ne__") (.ref x :: args)) (fun v => Q (some v)) E s) : wpAny M A (callSpecialIfBound? (.ref x) "__ne__" args) Q E s := by
  simp only [callSpecialIfBound?, bindSpecialIfBound?]
  refine wpAny_holding (wpAny_bind (wpAny_bind (wpAny_bind (I.type.here ((PySem.W.looks_findIn X hn).here (wpAny_bind (wpAny_askSetting (wpAny_ite ?_))))))))
  have fin : wpAny M A (call (.builtin "object.__ne__") ([.ref x] ++ args) >>= fun v => pure (some v)) Q E s := wpAny_bind (wpAny_mono h (fun v s' q => wpAny_pure q) fun _ _ q => q)
  split
  · exact wpAny_bind (wpAny_of_eq (F.cmp_object.ne.bind _) (wpAny_pure (by exact fin)))
  · exact wpAny_tryCatch (wpAny_bind (wpAny_of_eq (F.cmp_object.ne.bind _) (wpAny_pure (by exact fin))))
/-- x != b -/
theorem rc_ne {Q : Value → Shared → Prop} (hu : A.units + 1 < cLine) (X : K.In s.heap) (I : PySem.W.InstAt s.heap x ox C od) (hb : PySem.W.Looks (model prog w) s.heap (typeOf b) tb) (hf1 : PySem.W.notFirst K C tb = true) (hm : PySem.W.mroIn K C (.type "object") = some true)
    (hn : PySem.W.findIn K (.ref C) "__ne__" = some (some (.builtin "object.__ne__"))) (hs : PySem.W.findIn K (.ref C) "__eq__" = some (some (.ref f))) (hf : PySem.W.isFn K (.ref f) = true)
    (h : SaysB prog w A.in1 E f x b (fun k s' => Q (.bool (!k)) s') s) : wpAny (model prog w) A (richCompare .NotEq (.ref x) b) Q E s := by
  have one : wpAny (model prog w) A (tryCompare (.ref x) "__ne__" b) (fun r s' => ∃ v, r = some v ∧ Q v s') E s := by
    unfold tryCompare
    refine wpAny_bind (ifBound_objNe X I hn (call_objNe hu X I hm hs hf (wpAny_mono h (fun v s' q => ?_) fun _ _ q => q)))
    obtain ⟨k, rfl, q⟩ := q
    exact ⟨k, rfl, wpAny_pure ⟨_, rfl, q⟩⟩
  unfold richCompare
  simp only [oneThing_ref]
  refine wpAny_holding (wpAny_bind (wpAny_cRoomFor (by omega) (wpAny_bind (I.type.here (wpAny_bind (hb.here ?_))))))
  split
  · rename_i q
    have e : PySem.W.subIn K tb (.ref C) = some false := by
      rcases Bool.or_eq_true_iff.mp hf1 with e | e
      · rw [beq_iff_eq.mp e] at q; simp at q
      · exact beq_iff_eq.mp e
    refine wpAny_bind ((PySem.W.looks_subIn X e).here ?_)
    simp only [Bool.false_eq_true, if_false]
    refine wpAny_bind (wpAny_mono one (fun r s' z => ?_) fun _ _ e => e)
    obtain ⟨v, rfl, hq⟩ := z
    exact wpAny_pure hq
  · refine wpAny_bind (wpAny_pure ?_)
    simp only [Bool.false_eq_true, if_false]
    refine wpAny_bind (wpAny_mono one (fun r s' z => ?_) fun _ _ e => e)
    obtain ⟨v, rfl, hq⟩ := z
    exact wpAny_pure hq
end
end GD
namespace GD
open PySem PySem.Spec PyProof.Rows L2
/-- the own == of the class at C -/
structure OwnEq1 (K : PySem.W.Frag) (C f : Addr) : Prop where
  eq : PySem.W.findIn K (.ref C) "__eq__" = some (some (.ref f))
  fn : PySem.W.isFn K (.ref f) = true
  ne : PySem.W.findIn K (.ref C) "__ne__" = some (some (.builtin "object.__ne__"))
  ob : PySem.W.mroIn K C (.type "object") = some true
/-- x == y (or !=), x an instance of the class at C, y of a type that goes not first -/
def rOwnC (K : PySem.W.Frag) (C : Addr) (sp : Sp) (E : XK) (neg : Bool) : R2 := fun x y H Q => ∃ a dx fs t, x = .ref a ∧ H a = some (.ins C dx fs) ∧ TyX K H y t ∧ PySem.W.notFirst K C t = true ∧ sp [x, y] H (fun v H' => ∃ k : Bool, v = .bl k ∧ Q (.bl (if neg then !k else k)) H') E
section
variable {X : Cx} {CX : CXT} {k : Nat} {f C : Addr} {fd : FuncData} {ps : List Str} {sp : Sp} {E : XK}
theorem op_eqC (F : FnOk X.prog X.w X.K X.mg X.base CX k f fd ps sp) (hr : Room k X.A) (hb : Binds X.K fd ps []) (hx : Passes CX X E) (O : OwnEq1 X.K C f) : OpR X (compareOp .Eq) (rOwnC X.K C sp E false) := by
  intro pins s σ H x y v u Q I rx ry h
  obtain ⟨a, dx, fs, t, rfl, ha, ty, nf, q⟩ := h
  cases (show v = Value.ref a from rx)
  obtain ⟨mA, J, _⟩ := ins_get I.hok ha
  obtain ⟨od, J, _⟩ := J.look
  obtain ⟨P, Z, p, _⟩ := kit_of I ry ty
  obtain ⟨m, hF⟩ := I.fr
  refine PySem.W.cmp_K (op := .Eq) (tb := t) hr.units0 hF I.ok.mod.kin J (Z.ty _ _ I.kIn p) nf O.eq O.fn ?_
  refine wpAny_mono (run_fn (us := [.ref a, u]) (vs := [.ref a, y]) F hr hb .nil hx I (.cons rfl (.cons ry .nil)) q) (fun w s' z => ?_) fun _ _ x => x
  obtain ⟨z', H', I', rz, b, rfl, qz⟩ := z
  cases rz
  exact ⟨.bl b, H', I', rfl, qz⟩
theorem op_neC (F : FnOk X.prog X.w X.K X.mg X.base CX k f fd ps sp) (hr : Room (k + 1) X.A) (hb : Binds X.K fd ps []) (hx : Passes CX X E) (O : OwnEq1 X.K C f) : OpR X (compareOp .NotEq) (rOwnC X.K C sp E true) := by
  intro pins s σ H x y v u Q I rx ry h
  obtain ⟨a, dx, fs, t, rfl, ha, ty, nf, q⟩ := h
  cases (show v = Value.ref a from rx)
  obtain ⟨mA, J, _⟩ := ins_get I.hok ha
  obtain ⟨od, J, _⟩ := J.look
  obtain ⟨P, Z, p, _⟩ := kit_of I ry ty
  have hl := F.len _ _ _ _ q
  refine rc_ne (tb := t) (by have := hr.un; omega) I.kIn J (Z.ty _ _ I.kIn p) nf O.ob O.ne O.eq O.fn ?_
  refine wpAny_call (codeAny_mono (F.run X.A.in1 X.stack s H ⟨[.ref a, u], []⟩ [.ref a, u] [.ref a, y] _ E hr.in1 I.env0.in1 (by
    have := hb s [.ref a, u] I.kIn (by simpa using hl)
    simpa using this) (.cons rfl (.cons ry .nil)) q) fun r s' hq => ?_)
  cases r with
  | error e => exact hx pins σ H s e s' I hq
  | ok fl =>
    cases fl with
    | ret w =>
      obtain ⟨z', H', I', rz, b, rfl, qz⟩ := I.after hq
      cases rz
      exact ⟨b, rfl, .bl (!b), H', I', rfl, qz⟩
    | next => exact False.elim hq
    | brk => exact False.elim hq
    | cont => exact False.elim hq
end
end GD
namespace GD
open PySem PySem.Spec PyProof.Rows L2
/-- an instance's text -/
def TextAt (C : Addr) (H : Hp) (b : Addr) (x : Str) : Prop := ∃ dx fl, H b = some (.ins C dx fl) ∧ fl.lookup ("text" : Str) = some (.str x)
theorem BookAt.text {C : Addr} {H : Hp} {b : Addr} {x : Str} {names : List Str} {ml : List (Str × Str)} {fs : List Fact} (h : BookAt C H b x names ml fs) : TextAt C H b x := by
  obtain ⟨dx, j, m, f, a, hb, _⟩ := h
  exact ⟨dx, _, hb, b5_text _ _ _ _ _⟩
def spEqB (K : PySem.W.Frag) (C : Addr) : Sp := fun vs H Q _ => ∃ (b : Addr) (x : Str) (y : V), vs = [.ref b, y] ∧ TextAt C H b x ∧ ((∃ b' x', y = .ref b' ∧ TextAt C H b' x' ∧ Q (.bl (decide (x = x'))) H) ∨ ∃ t, TyX K H y t ∧ PySem.W.kitOne K t (.ref C) = some false ∧ Q (.bl false) H)
structure BookT (K : PySem.W.Frag) (C : Addr) : Prop where
  ty : ∀ {H : Hp} {a dx : Addr} {fl : List (Str × V)}, H a = some (.ins C dx fl) → TyX K H (.ref a) (.ref C)
  me : PySem.W.kitOne K (.ref C) (.ref C) = some true
end GD
namespace K04
open PySem PySem.Spec PyProof.Rows L2 GD
abbrev pEq : Stmt := inClass cBook 7
abbrev pTold : Stmt := inClass cBook 2
abbrev pUntold : Stmt := inClass cBook 3
section
variable {P : Program} {w : World} {K : PySem.W.Frag} {mg : Str → Option Value} {base : Heap}
theorem scEq : FnScope ["self", "other"] ["self", "other"] (defScope pEq) := ⟨rfl, rfl, rfl, by decide +kernel, rfl, by decide +kernel, by decide +kernel⟩
theorem ok_eq {f C : Addr} {fd : FuncData} (F : Fun K "__eq__" "Book.__eq__" pEq f fd) (B : BookC K mg C) (BT : BookT K C) (isi : mg "isinstance" = none) : FnOk P w K mg base CX0 1 f fd ["self", "other"] (spEqB K C) := by
  refine F.ok scEq (fun vs H Q E h => ?_) (fun cdv A outer s H vs Q E hr h => ?_)
  · obtain ⟨b, x, y, rfl, _⟩ := h
    rfl
  · obtain ⟨b, x, y, rfl, ⟨dx, fl, hb, tx⟩, h⟩ := h
    refine ⟨_, pss_one (ps_ret (pe_and (pe_callB call_isi (by rfl) isi (by decide +kernel) (pa_cons (pv 1) (pa_cons (pe_glob (v := .ref C) (by rfl) B.mgC rfl) pa_nil)))
      (pe_one (pe_cmpR op_eq (pe_fld (pv 0) rfl) (pe_fld (pv 1) rfl) (nomark _))))), ?_⟩
    rcases h with ⟨b', x', rfl, ⟨dx', fl', hb', tx'⟩, q⟩ | ⟨t, ty, ki, q⟩
    · refine ⟨_, rfl, _, _, _, _, true, rfl, .own C, BT.ty hb', BT.me, _, rfl, iteT ?_⟩
      refine ⟨_, rfl, b, C, dx, _, _, rfl, hb, B.cl, B.nT, tx, _, rfl, b', C, dx', _, _, rfl, hb', B.cl, B.nT, tx', rfl, ?_⟩
      rw [show decide (V.str x = V.str x') = decide (x = x') from decide_eq_decide.mpr ⟨fun e => V.str.inj e, fun e => by rw [e]⟩]
      exact q
    · exact ⟨_, rfl, _, _, _, _, false, rfl, .own C, ty, ki, _, rfl, iteF q⟩
end
end K04
namespace GD
open PySem PySem.Spec PyProof.Rows L2
def rInT (K : PySem.W.Frag) : R2 := fun x y H Q => ∃ d ds, Dp K H x d ∧ Dp K H y (.tuple ds) ∧ SeqAt.shaped d = true ∧ SeqAt.shaped (.tuple ds) = true ∧ Q (.bl (ds.any fun z => PyData.eqv z d)) H
theorem op_inT {X : Cx} (hu : X.A.units + 65 < cLine) : OpR X (compareOp .In) (rInT X.K) := by
  intro pins s σ H x y v u Q I rx ry h
  obtain ⟨d, ds, hd, he, sd, se, q⟩ := h
  obtain ⟨as, r1⟩ := Dp.reads I d x v hd rx
  obtain ⟨bs, r2⟩ := Dp.reads I (.tuple ds) y u he ry
  exact SeqAt.in_tuple_reads r2 r1 (SeqAt.canLay_of_shaped se) (SeqAt.canLay_of_shaped sd) (room_in_shaped sd hu) ⟨.bl _, H, I, rfl, q⟩
theorem shape_eFt (fs : List Fact) : SeqAt.shaped (.tuple (fs.map eF)) = true := by
  refine shape_of ?_ ?_
  · rw [PyData.canLay0]
    exact can_all fun d hd => by
      obtain ⟨f, _, e⟩ := List.mem_map.mp hd
      rw [← e]
      exact can_eF f
  · rw [PyData.depth]
    have z := depth_all (n := 3) (ds := fs.map eF) fun d hd => by
      obtain ⟨f, _, e⟩ := List.mem_map.mp hd
      rw [← e]
      exact depth_eF f
    omega
theorem any_in {fs : List Fact} {f : Fact} : ((fs.map eF).any fun z => PyData.eqv z (eF f)) = true ↔ f ∈ fs := by
  rw [List.any_eq_true]
  constructor
  · rintro ⟨d, hd, e⟩
    obtain ⟨g, hg, rfl⟩ := List.mem_map.mp hd
    rw [← eqv_eF e]
    exact hg
  · exact fun h => ⟨eF f, List.mem_map_of_mem h, eqv_self (shape_eF f)⟩
theorem FactsOk.snoc {k : Nat} {fs : List Fact} {f : Fact} (h : FactsOk k fs) (hb : FactB k 40 f) (hn : f ∉ fs) (hc : GD.cnt (kindS f) fs < lim (kindS f)) : FactsOk k (fs ++ [f]) := by
  refine ⟨fun g hg => ?_, List.nodup_append.mpr ⟨h.nd, List.nodup_cons.mpr ⟨fun h => (nomatch h), .nil⟩, fun u hu v hv e => ?_⟩, fun x hx => ?_⟩
  · rcases List.mem_append.mp hg with y | y
    · exact h.b g y
    · rw [List.mem_singleton.mp y]
      exact hb
  · rw [List.mem_singleton.mp hv] at e
    exact hn (e ▸ hu)
  · rw [cnt_snoc, one3]
    by_cases e : kindS f = x
    · rw [if_pos e, ← e]
      omega
    · rw [if_neg e]
      exact h.lm x hx
theorem GoodB.snoc {names : List Str} {ml : List (Str × Str)} {fs : List Fact} {f : Fact} (h : GoodB names ml fs) (hb : FactB names.length 40 f) (hn : f ∉ fs) (hc : GD.cnt (kindS f) fs < lim (kindS f)) : GoodB names ml (fs ++ [f]) :=
  { h with f := h.f.snoc hb hn hc }
theorem FactsOk.sub {k : Nat} {fs gs : List Fact} (h : FactsOk k fs) (s : List.Sublist gs fs) : FactsOk k gs :=
  ⟨fun g hg => h.b g (s.subset hg), s.nodup h.nd, fun x hx => Nat.le_trans (s.filter _).length_le (h.lm x hx)⟩
theorem GoodB.sub {names : List Str} {ml : List (Str × Str)} {fs gs : List Fact} (h : GoodB names ml fs) (s : List.Sublist gs fs) : GoodB names ml gs := { h with f := h.f.sub s }
theorem lN_len (names : List Str) (ml : List (Str × Str)) (fs : List Fact) : (lN names ml fs).length = 1 + ml.length + fs.length := by
  rw [lN, List.length_cons, List.length_append, List.length_map, List.length_map]
  omega
theorem lN_erase (names : List Str) (ml : List (Str × Str)) (fs : List Fact) (i : Nat) : (lN names ml fs).take (1 + ml.length + i) ++ (lN names ml fs).drop (1 + ml.length + i + 1) = lN names ml (fs.eraseIdx i) := by
  have e : ∀ fs : List Fact, lN names ml fs = (jN names :: ml.map mLine) ++ fs.map fT := fun fs => rfl
  have l : (jN names :: ml.map mLine).length = 1 + ml.length := by rw [List.length_cons, List.length_map]; omega
  rw [e, e, List.eraseIdx_eq_take_drop_succ, List.map_append, List.map_take, List.map_drop, ← l, List.take_append, List.drop_append]
  rw [List.take_of_length_le (by omega), List.drop_eq_nil_of_le (by omega), List.nil_append, List.append_assoc]
  congr 2
  · congr 1
    omega
  · congr 1
    omega
open Classical in
/-- facts told one by one -/
noncomputable def addF (fs : List Fact) (f : Fact) : List Fact := if f ∈ fs then fs else fs ++ [f]
noncomputable def growF (fs gs : List Fact) : List Fact := gs.foldl addF fs
theorem growF_take {fs gs : List Fact} {i : Nat} {f : Fact} (h : gs[i]? = some f) : growF fs (gs.take (i + 1)) = addF (growF fs (gs.take i)) f := by
  rw [take_next h, growF, List.foldl_append]
  rfl
def NoFull (fs gs : List Fact) : Prop := ∀ (i : Nat) (f : Fact), gs[i]? = some f → f ∉ growF fs (gs.take i) → GD.cnt (kindS f) (growF fs (gs.take i)) < lim (kindS f)
def spGrown (C : Addr) : Sp := fun vs H Q _ => ∃ (b l : Addr) (names : List Str) (ml : List (Str × Str)) (fs gs : List Fact), vs = [.ref b, .ref l] ∧ BookAt C H b (bN names ml fs) names ml fs ∧ GoodB names ml fs ∧ LstAt H l (gs.map eF) ∧ (∀ g ∈ gs, FactB names.length 40 g) ∧ NoFull fs gs ∧ gs.length ≤ 200 ∧
  (growF fs gs = fs → ∀ H', Same H H' → Q (.ref b) H') ∧ (growF fs gs ≠ fs → ∀ b' H', Same H H' → H b' = none → BookAt C H' b' (bN names ml (growF fs gs)) names ml (growF fs gs) → GoodB names ml (growF fs gs) → Q (.ref b') H')
def spRemade (C : Addr) : Sp := fun vs H Q _ => ∃ (b l a : Addr) (x : Str) (names : List Str) (ml : List (Str × Str)) (fs gs : List Fact) (ls : List Str), vs = [.ref b, .ref l, .ref a] ∧ BookAt C H b x names ml fs ∧ GoodB names ml gs ∧ H l = some (.lst (ls.map V.str)) ∧ Txt.join "\n" ls = bN names ml gs ∧ ls.length ≤ 300 ∧ Fz H (.ref a) (.tuple (gs.map eF)) ∧
  ∀ b' H', Same H H' → H b' = none → BookAt C H' b' (bN names ml gs) names ml gs → Q (.ref b') H'
theorem bN_more {names : List Str} {ml : List (Str × Str)} {fs : List Fact} : ∀ {gs : List Fact}, Txt.join "\n" (bN names ml fs :: gs.map fT) = bN names ml (fs ++ gs)
  | [] => by rw [List.map_nil, join_one, List.append_nil]
  | g :: gs => by
    have ih := bN_more (names := names) (ml := ml) (fs := fs ++ [g]) (gs := gs)
    rw [List.append_assoc, List.singleton_append] at ih
    rw [← ih, List.map_cons, join_cons (by simp)]
    cases gs with
    | nil => rw [List.map_nil, join_one, join_one, bN_snoc]
    | cons g2 r =>
      rw [List.map_cons, join_cons (x := fT g) (by simp), join_cons (x := bN names ml (fs ++ [g])) (by simp), bN_snoc]
      simp only [app_assoc]
def spTold (C : Addr) : Sp := fun vs H Q _ => ∃ (b : Addr) (v : V) (names : List Str) (ml : List (Str × Str)) (fs : List Fact) (f : Fact), vs = [.ref b, v] ∧ BookAt C H b (bN names ml fs) names ml fs ∧ GoodB names ml fs ∧ Fz H v (eF f) ∧ FactB names.length 40 f ∧
  (f ∈ fs → ∀ H', Same H H' → Q (.ref b) H') ∧ (f ∉ fs → GD.cnt (kindS f) fs < lim (kindS f) ∧ ∀ b' H', Same H H' → H b' = none → BookAt C H' b' (bN names ml (fs ++ [f])) names ml (fs ++ [f]) → Q (.ref b') H')
def spUntold (C : Addr) : Sp := fun vs H Q _ => ∃ (b : Addr) (i : Nat) (names : List Str) (ml : List (Str × Str)) (fs : List Fact), vs = [.ref b, .int i] ∧ BookAt C H b (bN names ml fs) names ml fs ∧ GoodB names ml fs ∧ i < fs.length ∧
  ∀ b' H', Same H H' → H b' = none → BookAt C H' b' (bN names ml (fs.eraseIdx i)) names ml (fs.eraseIdx i) → Q (.ref b') H'
theorem BookAt.same {C : Addr} {H H' : Hp} {b : Addr} {x : Str} {names : List Str} {ml : List (Str × Str)} {fs : List Fact} (s : Same H H') (h : BookAt C H b x names ml fs) : BookAt C H' b x names ml fs := by
  obtain ⟨dx, j, m, f, a, h1, h2, h3, h4, h5⟩ := h
  exact ⟨dx, j, m, f, a, s _ _ h1, s _ _ h2, s _ _ h3, h4.same s, h5.same s⟩
theorem made_same {C x dx : Addr} {H H' : Hp} (nx : H x = none) (ndx : H dx = none) (k : Keep x (upd (upd H dx (.own x)) x (.ins C dx [])) H') : Same H H' := fun b o e => k b o (ne_of_none e nx) (by rw [upd_ne (ne_of_none e nx), upd_ne (ne_of_none e ndx)]; exact e)
end GD
namespace K04
open PySem PySem.Spec PyProof.Rows L2 GD
section
variable {P : Program} {w : World} {K : PySem.W.Frag} {mg : Str → Option Value} {base : Heap}
/-- a book is made -/
structure Maker (P : Program) (w : World) (K : PySem.W.Frag) (mg : Str → Option Value) (base : Heap) (C fI : Addr) (fdI : FuncData) : Prop where
  B : BookC K mg C
  M : Mk K C fI
  b : Binds K fdI ["self", "text"] []
  G : FnOk P w K mg base CX0 6 fI fdI ["self", "text"] (spInitB C)
theorem made_book {C : Addr} {names : List Str} {ml : List (Str × Str)} {fs : List Fact} {H : Hp} {Q : VK} (g : GoodB names ml fs) (q : ∀ b H', Same H H' → H b = none → BookAt C H' b (bN names ml fs) names ml fs → Q (.ref b) H') (x dx : Addr) (nx : H x = none) (ndx : H dx = none) (ne : dx ≠ x) :
    spInitB C (V.ref x :: ([.str (bN names ml fs)] ++ [])) (upd (upd H dx (.own x)) x (.ins C dx [])) (fun v H2 => v = .non ∧ Q (.ref x) H2) E0 :=
  ⟨x, dx, _, names, ml, fs, rfl, upd_same, good_text g, fun H' k b => ⟨rfl, q x H' (made_same nx ndx k) nx b⟩⟩
theorem sum_join : ∀ ys : List Str, (ys.map (·.length)).sum + ys.length ≤ (Txt.join "\n" ys).length + 1
  | [] => Nat.zero_le _
  | [y] => by
    rw [GD.join_one]
    simp
  | y :: z :: r => by
    have ih := sum_join (z :: r)
    rw [join_cons (by simp), len_app, len_app, show ("\n" : Str).length = 1 from rfl, List.map_cons, List.sum_cons, List.length_cons]
    omega
theorem scRm : FnScope ["book", "lines", "facts", "made"] ["book", "lines", "facts"] (defScope pRemade) := ⟨rfl, rfl, rfl, by decide +kernel, rfl, by decide +kernel, by decide +kernel⟩
theorem ok_remade {f C fI : Addr} {fd fdI : FuncData} (F : Fun K "remade" "remade" pRemade f fd) (MK : Maker P w K mg base C fI fdI) : FnOk P w K mg base CX0 8 f fd ["book", "lines", "facts"] (spRemade C) := by
  refine F.ok scRm (fun vs H Q E h => ?_) (fun cdv A outer s H vs Q E hr h => ?_)
  · obtain ⟨b, l, a, x, names, ml, fs, gs, ls, rfl, _⟩ := h
    rfl
  · obtain ⟨b, l, a, x, names, ml, fs, gs, ls, rfl, hb, good, hl, hj, hls, fz, q⟩ := h
    have B := MK.B
    refine ⟨_, pss_cons (ps_set (i := 3) scRm.nd rfl (.inl rfl) (pe_make MK.M MK.G hr (by rfl) B.mgC MK.b .nil pass0 (pa_cons (pe_fld (pv 0) rfl) pa_nil)))
      (pss_cons (ps_fld (pv 3) (pe_bm PySem.F.plainAttrs_str PySem.F.slot_str_join PySem.F.type_str_join mt_join pe_str (pa_cons (pv 1) pa_nil)) rfl)
      (pss_cons (ps_fld (pv 3) (pv 2) rfl)
      (pss_one (ps_ret (pv 3))))), ?_⟩
    obtain ⟨dx, j, m, fi, a0, eb, ej, em, ff, fa⟩ := id hb
    refine ⟨_, rfl, b, C, dx, _, _, rfl, eb, B.cl, B.nH, b5_head _ _ _ _ _, ?_⟩
    intro y dy ny ndy ne
    rw [hN_bN]
    refine ⟨y, dy, _, names, ml, [], rfl, upd_same, good_text good.head, fun H1 k1 hb1 => ⟨rfl, ?_⟩⟩
    have s1 := made_same ny ndy k1
    obtain ⟨dx1, j1, m1, f1, a1, eb1, ej1, em1, ff1, fa1⟩ := hb1
    have nly : l ≠ y := fun e => by
      rw [e, ny] at hl
      cases hl
    have bl := b_len (hN names ml)
    refine ⟨rfl, _, rfl, _, l, ls, rfl, rfl, .inl (SqL.of (s1 _ _ hl)), ?_, ?_⟩
    · have lx := (good_text good).len
      have z := sum_join ls
      rw [hj] at z
      rw [show ("\n" : Str).length = 1 from rfl]
      exact Nat.le_trans (show _ ≤ 90001 by omega) (by decide)
    rw [hj]
    refine ⟨_, rfl, y, C, dx1, _, rfl, eb1, B.cl, B.nT, (bl _ j1 m1 f1 a1).2.2.2.2.2, ?_⟩
    rw [b5_putT]
    have k2 : Keep y H1 (upd H1 y (.ins C dx1 (b5 (hN names ml) (bN names ml gs) j1 m1 f1 a1))) := keep_at
    have t2 := Keep.tupsI eb1 k2
    have eb2 : (upd H1 y (.ins C dx1 (b5 (hN names ml) (bN names ml gs) j1 m1 f1 a1))) y = some (.ins C dx1 (b5 (hN names ml) (bN names ml gs) j1 m1 f1 a1)) := upd_same
    generalize upd H1 y (.ins C dx1 (b5 (hN names ml) (bN names ml gs) j1 m1 f1 a1)) = H2 at k2 t2 eb2 ⊢
    refine ⟨_, rfl, _, rfl, y, C, dx1, _, rfl, eb2, B.cl, B.nA, (bl _ j1 m1 f1 a1).2.2.2.2.2, ?_⟩
    rw [b5_putA]
    have k3 : Keep y H2 (upd H2 y (.ins C dx1 (b5 (hN names ml) (bN names ml gs) j1 m1 f1 a))) := keep_at
    have t3 := Keep.tupsI eb2 k3
    have k13 := k2.trans k3
    have t13 : Tups H1 _ := fun c xs e => t3 c xs (t2 c xs e)
    have njy : j1 ≠ y := ne_of ej1 eb1 (fun z => by cases z)
    have nmy : m1 ≠ y := ne_of em1 eb1 (fun z => by cases z)
    have s3 : Same H (upd H2 y (.ins C dx1 (b5 (hN names ml) (bN names ml gs) j1 m1 f1 a))) := fun c o e => k13 c o (ne_of_none e ny) (s1 _ _ e)
    exact ⟨_, rfl, q y _ s3 ny ⟨dx1, j1, m1, f1, a, upd_same, k13 _ _ njy ej1, k13 _ _ nmy em1, ff1.mv t13, fz.same s3⟩⟩
abbrev NGr : List Str := ["book", "facts", "known", "lines", "fact"]
theorem scGr : FnScope NGr ["book", "facts"] (defScope pGrown) := ⟨rfl, rfl, rfl, by decide +kernel, rfl, by decide +kernel, by decide +kernel⟩
theorem grow_inv {names : List Str} {ml : List (Str × Str)} {fs gs : List Fact} (good : GoodB names ml fs) (hg : ∀ g ∈ gs, FactB names.length 40 g) (nf : NoFull fs gs) : ∀ i, i ≤ gs.length → ∃ new, growF fs (gs.take i) = fs ++ new ∧ GoodB names ml (fs ++ new) ∧ new.length ≤ i
  | 0, _ => ⟨[], by rw [List.take_zero, List.append_nil]; rfl, by rw [List.append_nil]; exact good, Nat.le_refl _⟩
  | i + 1, hi => by
    obtain ⟨new, e, g, l⟩ := grow_inv good hg nf i (by omega)
    have h : gs[i]? = some gs[i] := List.getElem?_eq_getElem (by omega)
    have hm := List.mem_of_getElem? h
    have z := nf i _ h
    rw [growF_take h]
    rw [e] at z ⊢
    generalize gs[i] = f at h hm z ⊢
    unfold addF
    by_cases c : f ∈ fs ++ new
    · rw [if_pos c]
      exact ⟨new, rfl, g, by omega⟩
    · rw [if_neg c]
      refine ⟨new ++ [f], by rw [List.append_assoc], ?_, by rw [List.length_append, List.length_singleton]; omega⟩
      rw [← List.append_assoc]
      exact g.snoc (hg f hm) c (z c)
theorem ok_grown {f C fI : Addr} {fd fdI : FuncData} (F : Fun K "grown" "grown" pGrown f fd) (MK : Maker P w K mg base C fI fdI) (S : Forms1 mg) (nl : mg "list" = none)
    {fL fX fR : Addr} {fdL fdX fdR : FuncData}
    (gL : mg "is_full" = some (.ref fL)) (bL : Binds K fdL ["facts", "kind"] []) (kL : PySem.W.keepIn K (.ref fL) = true) (GL : FnOk P w K mg base CX0 1 fL fdL ["facts", "kind"] spFull)
    (gX : mg "fact_line" = some (.ref fX)) (bX : Binds K fdX ["fact"] []) (kX : PySem.W.keepIn K (.ref fX) = true) (GX : FnOk P w K mg base CX0 2 fX fdX ["fact"] spFline)
    (gR : mg "remade" = some (.ref fR)) (bR : Binds K fdR ["book", "lines", "facts"] []) (kR : PySem.W.keepIn K (.ref fR) = true) (GR : FnOk P w K mg base CX0 8 fR fdR ["book", "lines", "facts"] (spRemade C)) : FnOk P w K mg base CX0 9 f fd ["book", "facts"] (spGrown C) := by
  refine F.ok scGr (fun vs H Q E h => ?_) (fun cdv A outer s H vs Q E hr h => ?_)
  · obtain ⟨b, l, names, ml, fs, gs, rfl, _⟩ := h
    rfl
  · obtain ⟨b, l, names, ml, fs, gs, rfl, hb, good, ⟨gx, eg, fg⟩, hg, nf, hlen, q1, q2⟩ := h
    have B := MK.B
    have hr1 : Room 1 _ := hr.mono (by decide)
    have hr2 : Room 2 _ := hr.mono (by decide)
    have hr8 : Room 8 _ := hr.mono (by decide)
    have lgx : gx.length = gs.length := by rw [fg.len, List.length_map]
    refine ⟨_, pss_cons (ps_set (i := 2) scGr.nd rfl (.inl rfl) (pe_callTy call_list_of (by rfl) nl (by decide +kernel) (pa_cons (pe_fld (pv 0) rfl) pa_nil)))
      (pss_cons (ps_set (i := 3) scGr.nd rfl (.inl rfl) (pe_lst (pa_cons (pe_fld (pv 0) rfl) pa_nil)))
      (pss_cons (ps_for PassesOwn.never rfl (pi_list (pv 1)) (pg_name (i := 4) scGr.nd rfl (.inl rfl))
        (pss_one (ps_if (pt_cmpR (op_notInD (u65 hr)) (pv 4) (pv 2) (by rfl))
          (pss_cons (ps_if (pt_val (pe_call GL hr1 (by rfl) gL kL bL .nil pass0 (pa_cons (pv 2) (pa_cons (pe_ix ix_tup (pv 4) pe_int (fun _ _ => rfl)) pa_nil)))) (pss_one ps_no) pss_nil)
          (pss_cons (ps_expr (pe_bm PySem.F.plainAttrs_list PySem.F.slot_list_append PySem.F.type_list_append mt_append (pv 2) (pa_cons (pv 4) pa_nil)))
          (pss_one (ps_expr (pe_bm PySem.F.plainAttrs_list PySem.F.slot_list_append PySem.F.type_list_append mt_append (pv 3) (pa_cons (pe_call GX hr2 (by rfl) gX kX bX .nil pass0 (pa_cons (pv 4) pa_nil)) pa_nil)))))) pss_nil)))
      (pss_cons (ps_if (pt_cmpR op_eq (pe_callB call_len_seq (by rfl) S.len PySem.boot_len (pa_cons (pv 3) pa_nil)) pe_int (nomark _)) (pss_one (ps_ret (pv 0))) pss_nil)
      (pss_one (ps_ret (pe_call GR hr8 (by rfl) gR kR bR .nil pass0 (pa_cons (pv 0) (pa_cons (pv 3) (pa_cons (pe_callTy call_tuple_of (by rfl) S.tup (by decide +kernel) (pa_cons (pv 2) pa_nil)) pa_nil))))))))), ?_⟩
    obtain ⟨dx, j, m, fi, a, eb, ej, em, ff, fa⟩ := id hb
    obtain ⟨a', ax, ea', ha, fax⟩ := fa.t
    obtain rfl := V.ref.inj ea'
    have l1 := good.nm.l1
    have l4 := good.nm.l4
    have lfs := good.f.len
    refine ⟨_, rfl, b, C, dx, _, _, rfl, eb, B.cl, B.nA, b5_facts _ _ _ _ _, a, ax, rfl, .inr (SqT.of ha), fun kn nkn => ?_⟩
    have s1 := same_new (o := .lst ax) nkn
    have ekn : (upd H kn (.lst ax)) kn = some (.lst ax) := upd_same
    generalize upd H kn (.lst ax) = H1 at s1 ekn ⊢
    refine ⟨_, rfl, b, C, dx, _, _, rfl, s1 _ _ eb, B.cl, B.nT, b5_text _ _ _ _ _, (by show 1 ≤ sizeLine; decide), fun ln nln => ?_⟩
    have s2 := same_new (o := .lst [V.str (bN names ml fs)]) nln
    have eln : (upd H1 ln (.lst [V.str (bN names ml fs)])) ln = some (.lst [V.str (bN names ml fs)]) := upd_same
    have nkl : kn ≠ ln := ne_of_none ekn nln
    have ekn2 := s2 _ _ ekn
    have hln : H ln = none := s1.free nln
    generalize upd H1 ln (.lst [V.str (bN names ml fs)]) = H2 at s2 eln ekn2 ⊢
    have s12 := s1.trans s2
    refine ⟨_, rfl, l, rfl, ⟨_, SqL.of (s12 _ _ eg)⟩, for_list (K := K) (a := l) (xs := gx) (fun i σ H' => ∃ (x4 : Option V) (new : List Fact), σ = [some (.ref b), some (.ref l), some (.ref kn), some (.ref ln), x4] ∧ Same H H' ∧ growF fs (gs.take i) = fs ++ new ∧ LstAt H' kn ((fs ++ new).map eF) ∧ H' ln = some (.lst ((bN names ml fs :: new.map fT).map V.str)))
      ⟨none, [], rfl, s12, by rw [List.take_zero, List.append_nil]; rfl, by rw [List.append_nil]; exact ⟨ax, ekn2, fax.same s12⟩, eln⟩ (fun i σ H' _ ⟨_, _, _, s, _⟩ => SqL.of (s _ _ eg)) ?_ ?_⟩
    · rintro i v σ H3 hi ⟨x4, new, rfl, s3, egr, lk, el⟩
      obtain ⟨f0, hf0, fz0⟩ := fg.atM hi
      have hin : i < gs.length := (List.getElem?_eq_some_iff.mp hf0).1
      have hm0 := List.mem_of_getElem? hf0
      have hb0 := hg f0 hm0
      have fz := fz0.same s3
      have gt := growF_take (fs := fs) hf0
      rw [egr] at gt
      obtain ⟨new', e', g', ln'⟩ := grow_inv good hg nf i (by omega)
      rw [egr] at e'
      obtain rfl := List.append_cancel_left e'
      have lg' := g'.f.len
      have lnew : new.length ≤ 34 := by rw [List.length_append] at lg'; omega
      have stay : f0 ∈ fs ++ new → growF fs (gs.take (i + 1)) = fs ++ new := fun c => by rw [gt, addF, if_pos c]
      refine ⟨_, rfl, _, rfl, eF f0, (fs ++ new).map eF, fz.dp, lk.dp, shape_eF f0, shape_eFs _, ?_⟩
      by_cases c : f0 ∈ fs ++ new
      · rw [any_in.mpr c]
        refine ⟨_, rfl, iteF ?_⟩
        exact ⟨_, new, rfl, s3, stay c, lk, el⟩
      · rw [Bool.eq_false_iff.mpr (fun z => c (any_in.mp z))]
        refine ⟨_, rfl, iteT ?_⟩
        have room := nf i f0 hf0 (by rw [egr]; exact c)
        rw [egr] at room
        obtain ⟨fb, fr, rfl, efb⟩ := fz.fact
        obtain ⟨kx, ek, fk⟩ := lk
        refine ⟨_, rfl, _, rfl, fb, _, 0, _, rfl, rfl, SqT.of efb, at0, kn, kindS f0, fs ++ new, rfl, ⟨kx, .inl ek, fk⟩, by omega, kindS_is f0, fun H4 s4 => ?_⟩
        rw [decide_eq_false (show ¬ lim (kindS f0) ≤ GD.cnt (kindS f0) (fs ++ new) by omega)]
        refine ⟨_, rfl, iteF ?_⟩
        have ek4 := s4 _ _ ek
        have el4 := s4 _ _ el
        refine ⟨_, rfl, .inl ⟨rfl, _, SqL.of ek4⟩, ?_⟩
        have lkx : kx.length ≤ 34 := by
          rw [fk.len, List.length_map]
          omega
        refine ⟨_, rfl, kn, kx, _, rfl, rfl, ek4, Nat.lt_of_lt_of_le (show kx.length < 35 by omega) (by decide), ?_⟩
        have el5 : (upd H4 kn (.lst (kx ++ [.ref fb]))) ln = some (.lst ((bN names ml fs :: new.map fT).map V.str)) := (upd_ne nkl.symm).trans el4
        have ek5 : (upd H4 kn (.lst (kx ++ [.ref fb]))) kn = some (.lst (kx ++ [.ref fb])) := upd_same
        have t5 := tups_lst (o := .lst (kx ++ [V.ref fb])) ek4
        have s05 : Same H (upd H4 kn (.lst (kx ++ [.ref fb]))) := same_upd (s3.trans s4) nkn
        have fz5 := (fz.same s4).mv t5
        have fk5 := (fk.same s4).mv t5
        generalize upd H4 kn (.lst (kx ++ [.ref fb])) = H5 at el5 ek5 s05 fz5 fk5 ⊢
        refine ⟨_, rfl, .inl ⟨rfl, _, SqL.of el5⟩, ?_⟩
        refine ⟨_, rfl, .ref fb, f0, names.length, 40, rfl, fz5, hb0, by decide, by omega, fun H6 s6 => ?_⟩
        have el6 := s6 _ _ el5
        refine ⟨ln, _, _, rfl, rfl, el6, ?_, ?_⟩
        · rw [List.length_map, List.length_cons, List.length_map]
          exact Nat.lt_of_lt_of_le (show new.length + 1 < 36 by omega) (by decide)
        have t7 := tups_lst (o := .lst ((bN names ml fs :: new.map fT).map V.str ++ [V.str (fT f0)])) el6
        refine ⟨_, new ++ [f0], rfl, same_upd (s05.trans s6) hln, by rw [gt, addF, if_neg c, List.append_assoc], ⟨kx ++ [.ref fb], by rw [upd_ne nkl]; exact s6 _ _ ek5, ?_⟩, ?_⟩
        · rw [← List.append_assoc, List.map_append]
          exact ((fk5.same s6).snoc (fz5.same s6)).mv t7
        · rw [upd_same, List.map_append, ← List.cons_append, List.map_append]
          rfl
    · rintro σ H3 ⟨x4, new, rfl, s3, egr, ⟨kx, ek, fk⟩, el⟩
      rw [lgx, List.take_length] at egr
      obtain ⟨new', e', g', ln'⟩ := grow_inv good hg nf gs.length (Nat.le_refl _)
      rw [List.take_length, egr] at e'
      obtain rfl := List.append_cancel_left e'
      have lg' := g'.f.len
      refine ⟨_, rfl, ln, _, rfl, .inl (SqL.of el), rfl, _, rfl, ?_⟩
      by_cases c : new = []
      · rw [c]
        exact iteT ⟨_, rfl, q1 (by rw [egr, c, List.append_nil]) H3 s3⟩
      · have lp : 0 < new.length := List.length_pos_iff.mpr c
        rw [show decide ((V.int ((((bN names ml fs :: new.map fT).map V.str).length : Nat) : Int)) = V.int 1) = false from decide_eq_false (fun z => by have z2 := V.int.inj z; rw [List.length_map, List.length_cons, List.length_map] at z2; omega)]
        refine iteF ?_
        refine ⟨_, rfl, _, rfl, _, rfl, kn, kx, rfl, .inl ⟨SqL.of ek, fun t ht => ?_⟩⟩
        have s4 := same_new (o := .tup kx) ht
        have et : (upd H3 t (.tup kx)) t = some (.tup kx) := upd_same
        generalize upd H3 t (.tup kx) = H4 at s4 et ⊢
        have s34 := s3.trans s4
        refine ⟨b, ln, t, _, names, ml, fs, fs ++ new, bN names ml fs :: new.map fT, rfl, hb.same s34, g', s4 _ _ el, bN_more, ?_, .tup et (fk.same s4), fun b' H5 s5 nb hb5 => ?_⟩
        · rw [List.length_append] at lg'
          rw [List.length_cons, List.length_map]
          omega
        · have ne : growF fs gs ≠ fs := fun z => by
            rw [egr] at z
            have z2 := congrArg List.length z
            rw [List.length_append] at z2
            omega
          have q3 := q2 ne b' H5 (s34.trans s5) (s34.free nb)
          rw [egr] at q3
          exact q3 hb5 g'
theorem scTo : FnScope ["self", "fact"] ["self", "fact"] (defScope pTold) := ⟨rfl, rfl, rfl, by decide +kernel, rfl, by decide +kernel, by decide +kernel⟩
theorem ok_told {f C fI : Addr} {fd fdI : FuncData} (F : Fun K "told" "Book.told" pTold f fd) (MK : Maker P w K mg base C fI fdI) (S : Forms1 mg)
    {fF fG : Addr} {fdF fdG : FuncData} (gF : mg "is_fact" = some (.ref fF)) (bF : Binds K fdF ["value", "many"] []) (kF : PySem.W.keepIn K (.ref fF) = true) (GF : FnOk P w K mg base CX0 4 fF fdF ["value", "many"] spFact)
    (gG : mg "grown" = some (.ref fG)) (bG : Binds K fdG ["book", "facts"] []) (kG : PySem.W.keepIn K (.ref fG) = true) (GG : FnOk P w K mg base CX0 9 fG fdG ["book", "facts"] (spGrown C)) : FnOk P w K mg base CX0 10 f fd ["self", "fact"] (spTold C) := by
  refine F.ok scTo (fun vs H Q E h => ?_) (fun cdv A outer s H vs Q E hr h => ?_)
  · obtain ⟨b, v, names, ml, fs, f, rfl, _⟩ := h
    rfl
  · obtain ⟨b, v, names, ml, fs, f, rfl, hb, good, fz, hf, q1, q2⟩ := h
    have B := MK.B
    have hr4 : Room 4 _ := hr.mono (by decide)
    have hr9 : Room 9 _ := hr.mono (by decide)
    refine ⟨_, pss_cons (ps_if (pt_not (pt_val (pe_call GF hr4 (by rfl) gF kF bF .nil pass0 (pa_cons (pv 1) (pa_cons (pe_callB call_len_seq (by rfl) S.len PySem.boot_len (pa_cons (pe_fld (pv 0) rfl) pa_nil)) pa_nil))))) (pss_one ps_no) pss_nil)
      (pss_one (ps_ret (pe_call GG hr9 (by rfl) gG kG bG .nil pass0 (pa_cons (pv 0) (pa_cons (pe_lst (pa_cons (pv 1) pa_nil)) pa_nil))))), ?_⟩
    obtain ⟨dx, j, m, fi, a, eb, ej, em, ff, fa⟩ := id hb
    have lnj : (names.map V.str).length = names.length := List.length_map ..
    refine ⟨_, rfl, _, rfl, b, C, dx, _, _, rfl, eb, B.cl, B.nJ, b5_jobs _ _ _ _ _, j, _, rfl, .inr (SqT.of ej), v, f, names.length, by rw [lnj]; rfl, fz, fun s t e => ?_, fun s e => ?_, fun H1 s1 => ?_⟩
    · have z := hf.l2 e
      have l4 := good.nm.l4
      omega
    · have z := hf.l1 e
      have l4 := good.nm.l4
      omega
    rw [okT_of hf]
    refine ⟨_, rfl, iteF ?_⟩
    refine ⟨_, rfl, _, rfl, (by show 1 ≤ sizeLine; decide), fun l nl => ?_⟩
    have s2 := same_new (o := .lst [v]) nl
    have el : (upd H1 l (.lst [v])) l = some (.lst [v]) := upd_same
    generalize upd H1 l (.lst [v]) = H2 at s2 el ⊢
    have s12 := s1.trans s2
    have gr : growF fs [f] = addF fs f := rfl
    refine ⟨b, l, names, ml, fs, [f], rfl, hb.same s12, good, ⟨[v], el, .cons (fz.same s12) .nil⟩, fun g hg => by rw [List.mem_singleton.mp hg]; exact hf, fun i g hg hn => ?_, (by show 1 ≤ 200; decide), fun e H3 s3 => ?_, fun e b' H3 s3 nb hb3 _ => ?_⟩
    · cases i with
      | zero =>
        obtain rfl : f = g := Option.some.inj hg
        exact (q2 hn).1
      | succ i =>
        rw [List.getElem?_cons_succ] at hg
        cases hg
    · by_cases c : f ∈ fs
      · exact q1 c H3 (s12.trans s3)
      · rw [gr, addF, if_neg c] at e
        have z := congrArg List.length e
        rw [List.length_append, List.length_singleton] at z
        omega
    · by_cases c : f ∈ fs
      · exact absurd (by rw [gr, addF, if_pos c]) e
      · rw [gr, addF, if_neg c] at hb3
        exact (q2 c).2 b' H3 (s12.trans s3) (s12.free nb) hb3
theorem scUn : FnScope ["self", "number", "lines", "at"] ["self", "number"] (defScope pUntold) := ⟨rfl, rfl, rfl, by decide +kernel, rfl, by decide +kernel, by decide +kernel⟩
theorem ok_untold {f C fI : Addr} {fd fdI : FuncData} (F : Fun K "untold" "Book.untold" pUntold f fd) (MK : Maker P w K mg base C fI fdI) (S : Forms1 mg)
    {fR : Addr} {fdR : FuncData} (gR : mg "remade" = some (.ref fR)) (bR : Binds K fdR ["book", "lines", "facts"] []) (kR : PySem.W.keepIn K (.ref fR) = true) (GR : FnOk P w K mg base CX0 8 fR fdR ["book", "lines", "facts"] (spRemade C))
    {fB : Addr} {fdB : FuncData} (gB : mg "is_number" = some (.ref fB)) (bB : Binds K fdB ["value", "many"] []) (kB : PySem.W.keepIn K (.ref fB) = true) (GB : FnOk P w K mg base CX0 2 fB fdB ["value", "many"] spNumb) : FnOk P w K mg base CX0 9 f fd ["self", "number"] (spUntold C) := by
  refine F.ok scUn (fun vs H Q E h => ?_) (fun cdv A outer s H vs Q E hr h => ?_)
  · obtain ⟨b, i, names, ml, fs, rfl, _⟩ := h
    rfl
  · obtain ⟨b, i, names, ml, fs, rfl, hb, good, hi, q⟩ := h
    have B := MK.B
    have hr2 : Room 2 _ := hr.mono (by decide)
    have hr8 : Room 8 _ := hr.mono (by decide)
    refine ⟨_, pss_cons (ps_if (pt_not (pt_val (pe_call GB hr2 (by rfl) gB kB bB .nil pass0 (pa_cons (pv 1) (pa_cons (pe_callB call_len_seq (by rfl) S.len PySem.boot_len (pa_cons (pe_fld (pv 0) rfl) pa_nil)) pa_nil))))) (pss_one ps_no) pss_nil)
      (pss_cons (ps_set (i := 2) scUn.nd rfl (.inl rfl) (pe_bm PySem.F.plainAttrs_str PySem.F.slot_str_split PySem.F.type_str_split mt_split (pe_fld (pv 0) rfl) (pa_cons pe_str pa_nil)))
      (pss_cons (ps_set (i := 3) scUn.nd rfl (.inl rfl) (pe_op op_add (pe_op op_sub (pe_callB call_len_seq (by rfl) S.len PySem.boot_len (pa_cons (pv 2) pa_nil)) (pe_callB call_len_seq (by rfl) S.len PySem.boot_len (pa_cons (pe_fld (pv 0) rfl) pa_nil))) (pv 1)))
      (pss_one (ps_ret (pe_call GR hr8 (by rfl) gR kR bR .nil pass0 (pa_cons (pv 0) (pa_cons (pe_op op_cat (pe_slice sl_list (pv 2) po_none (po_some (pv 3))) (pe_slice sl_list (pv 2) (po_some (pe_op op_add (pv 3) pe_int)) po_none))
        (pa_cons (pe_op op_catA (pe_slice sl_tupA (pe_fld (pv 0) rfl) po_none (po_some (pv 1))) (pe_slice sl_tupA (pe_fld (pv 0) rfl) (po_some (pe_op op_add (pv 1) pe_int)) po_none)) pa_nil)))))))), ?_⟩
    obtain ⟨dx, j, m, fi, a, eb, ej, em, ff, fa⟩ := id hb
    obtain ⟨a', ax, ea', ha, fax⟩ := fa.t
    obtain rfl := V.ref.inj ea'
    have lax : ax.length = fs.length := by rw [fax.len, List.length_map]
    have lx := (good_text good).len
    have lN1 := lN_len names ml fs
    have lml := good.mlen
    have lfs := good.f.len
    refine ⟨_, rfl, _, rfl, b, C, dx, _, _, rfl, eb, B.cl, B.nA, b5_facts _ _ _ _ _, a, _, rfl, .inr (SqT.of ha), (i : Int), (ax.length : Int), rfl, ?_⟩
    rw [decide_eq_true (show 0 ≤ (i : Int) ∧ (i : Int) < (ax.length : Int) by omega)]
    refine ⟨_, rfl, iteF ?_⟩
    refine ⟨_, rfl, b, C, dx, _, _, rfl, eb, B.cl, B.nT, b5_text _ _ _ _ _, rfl, _, _, rfl, rfl, rfl, small_len (by omega), fun l nl => ?_⟩
    have s1 := same_new (o := .lst ((Txt.split (bN names ml fs) "\n").map V.str)) nl
    have el : (upd H l (.lst ((Txt.split (bN names ml fs) "\n").map V.str))) l = some (.lst ((lN names ml fs).map V.str)) := by rw [upd_same, split_bN good]
    generalize upd H l (.lst ((Txt.split (bN names ml fs) "\n").map V.str)) = H1 at s1 el ⊢
    have lmv : ((lN names ml fs).map V.str).length = (lN names ml fs).length := List.length_map ..
    refine ⟨_, rfl, l, _, rfl, .inl (SqL.of el), _, rfl, b, C, dx, _, _, rfl, s1 _ _ eb, B.cl, B.nA, b5_facts _ _ _ _ _, a, _, rfl, .inr (SqT.of (s1 _ _ ha)), _, _, rfl, rfl, _, rfl, _, _, rfl, rfl, ?_⟩
    have eat : ((((lN names ml fs).map V.str).length : Nat) : Int) - (ax.length : Int) + (i : Int) = ((1 + ml.length + i : Nat) : Int) := by rw [lmv]; omega
    show Ends.nx _ ([some (.ref b), some (.int i), some (.ref l), some (.int (((((lN names ml fs).map V.str).length : Nat) : Int) - (ax.length : Int) + (i : Int)))] : L2.St) H1
    rw [eat]
    refine ⟨_, rfl, _, rfl, _, rfl, _, rfl, l, _, rfl, SqL.of el, fun p1 np1 => ?_⟩
    rw [cut_strs_to]
    have s2 := same_new (o := .lst (((lN names ml fs).take (1 + ml.length + i)).map V.str)) np1
    have e1 : (upd H1 p1 (.lst (((lN names ml fs).take (1 + ml.length + i)).map V.str))) p1 = some (.lst (((lN names ml fs).take (1 + ml.length + i)).map V.str)) := upd_same
    generalize upd H1 p1 (.lst (((lN names ml fs).take (1 + ml.length + i)).map V.str)) = H2 at s2 e1 ⊢
    refine ⟨_, rfl, _, rfl, _, _, rfl, rfl, _, rfl, l, _, rfl, SqL.of (s2 _ _ el), fun p2 np2 => ?_⟩
    have e2' : (((1 + ml.length + i : Nat) : Int) + 1) = ((1 + ml.length + i + 1 : Nat) : Int) := by omega
    rw [e2', cut_strs_end]
    have s3 := same_new (o := .lst (((lN names ml fs).drop (1 + ml.length + i + 1)).map V.str)) np2
    have e2 : (upd H2 p2 (.lst (((lN names ml fs).drop (1 + ml.length + i + 1)).map V.str))) p2 = some (.lst (((lN names ml fs).drop (1 + ml.length + i + 1)).map V.str)) := upd_same
    have e13 := s3 _ _ e1
    generalize upd H2 p2 (.lst (((lN names ml fs).drop (1 + ml.length + i + 1)).map V.str)) = H3 at s3 e2 e13 ⊢
    refine ⟨p1, p2, _, _, rfl, rfl, e13, e2, small_len (by rw [List.length_map, List.length_map, List.length_take, List.length_drop]; omega), fun p3 np3 => ?_⟩
    have s4 := same_new (o := .lst ((((lN names ml fs).take (1 + ml.length + i)).map V.str) ++ (((lN names ml fs).drop (1 + ml.length + i + 1)).map V.str))) np3
    have e3 : (upd H3 p3 (.lst ((((lN names ml fs).take (1 + ml.length + i)).map V.str) ++ (((lN names ml fs).drop (1 + ml.length + i + 1)).map V.str)))) p3 = some (.lst ((lN names ml (fs.eraseIdx i)).map V.str)) := by rw [upd_same, ← List.map_append, lN_erase]
    generalize upd H3 p3 (.lst ((((lN names ml fs).take (1 + ml.length + i)).map V.str) ++ (((lN names ml fs).drop (1 + ml.length + i + 1)).map V.str))) = H4 at s4 e3 ⊢
    have good2 := good.sub (List.eraseIdx_sublist fs i)
    have s14 := ((s1.trans s2).trans s3).trans s4
    have lN2 := lN_len names ml (fs.eraseIdx i)
    have lfs2 := good2.f.len
    refine ⟨_, rfl, b, C, dx, _, _, rfl, s14 _ _ eb, B.cl, B.nA, b5_facts _ _ _ _ _, _, rfl, (i : Int), rfl, ?_⟩
    dsimp only [tNoPart]
    refine slice_fz (fa.same s14) fun v1 H5 s5 f1 => ?_
    rw [cut_to (by rw [List.length_map]; omega)] at f1
    have s15 := s14.trans s5
    refine ⟨_, rfl, b, C, dx, _, _, rfl, s15 _ _ eb, B.cl, B.nA, b5_facts _ _ _ _ _, _, rfl, _, _, rfl, rfl, (i : Int) + 1, rfl, ?_⟩
    dsimp only [tNoPart]
    refine slice_fz (fa.same s15) fun v2 H6 s6 f2 => ?_
    rw [show ((i : Int) + 1) = ((i + 1 : Nat) : Int) by omega, cut_from (by rw [List.length_map]; omega)] at f2
    refine cat_fz (f1.same s6) f2 ?_ fun v3 H7 s7 f3 => ?_
    · rw [List.length_take, List.length_drop, List.length_map]
      omega
    rw [← List.map_take, ← List.map_drop, ← List.map_append, ← List.eraseIdx_eq_take_drop_succ] at f3
    obtain ⟨a3, x3, rfl, ha3, fx3⟩ := id f3.t
    have s17 := s15.trans (s6.trans s7)
    exact ⟨b, p3, a3, _, names, ml, fs, fs.eraseIdx i, lN names ml (fs.eraseIdx i), rfl, hb.same s17, good2, (s5.trans (s6.trans s7)) _ _ e3, rfl, by omega, f3, fun b' H8 s8 nb hb8 => q b' H8 (s17.trans s8) (s17.free nb) hb8⟩
end
end K04
namespace GD
open PySem PySem.Spec PyProof.Rows L2
def man4 : List Str := ["plain", "clean", "spent", "free"]
structure JsOk (js : List (Str × Str)) (fs : List Fact) : Prop where
  nm : NamesOk (js.map (·.1))
  mn : ∀ j ∈ js, j.2 ∈ man4
  f : FactsOk js.length fs
abbrev mlOf (js : List (Str × Str)) : List (Str × Str) := js.filter fun j => decide (j.2 ≠ ("plain" : Str))
theorem JsOk.good {js : List (Str × Str)} {fs : List Fact} (h : JsOk js fs) : GoodB (js.map (·.1)) (mlOf js) fs := by
  refine ⟨h.nm, fun p hp => List.mem_map_of_mem (List.mem_filter.mp hp).1, fun p hp => ?_, ?_, by rw [List.length_map]; exact h.f⟩
  · obtain ⟨h1, h2⟩ := List.mem_filter.mp hp
    have z := h.mn p h1
    have n := of_decide_eq_true h2
    unfold man4 at z
    rcases List.mem_cons.mp z with e | e
    · exact absurd e n
    · exact e
  · exact (List.filter_sublist.map _).nodup h.nm.nd
theorem lt_le {j : Str × Str} (h : j.2 ∈ man4) : j.2.length ≤ 5 := by
  unfold man4 at h
  simp only [List.mem_cons, List.not_mem_nil, or_false] at h
  rcases h with e | e | e | e <;> rw [e] <;> decide +kernel
theorem JsOk.lines {js : List (Str × Str)} {fs : List Fact} (h : JsOk js fs) : LinesOk js.length 40 js fs := by
  have l4 := h.nm.l4
  rw [List.length_map] at l4
  have lf := h.f.len
  refine ⟨fun j hj => ⟨?_, Nat.le_trans (lt_le (h.mn j hj)) (by decide)⟩, by omega, h.f.b, by omega, by decide, by omega⟩
  exact Nat.le_trans (nameB_len (h.nm.nm j.1 (List.mem_map_of_mem hj))) (by decide)
theorem pool_names : ∀ x ∈ pool21, nameB x = true := by decide +kernel
theorem q_new : ("q" : Str) ∉ pool21 := by decide +kernel
theorem q_name : nameB "q" = true := by decide +kernel
theorem man6_4 : ∀ x ∈ man6, x ∈ man4 := by decide +kernel
theorem JobsOk.names {js : List (Str × Str)} {ms : List Str} (h : JobsOk 4 ms js) : NamesOk (js.map (·.1)) := by
  obtain ⟨h1, h2, h3, h4⟩ := h
  refine ⟨by rw [List.length_map]; exact h1, by rw [List.length_map]; exact h2, h3, fun x hx => ?_⟩
  obtain ⟨j, hj, rfl⟩ := List.mem_map.mp hx
  exact pool_names _ (h4 j hj).1
theorem LoreOk.js {x2 x3 x4 x5 : Nat} {js : List (Str × Str)} {fs : List Fact} {sts : List Stk} (h : LoreOk 4 man6 x2 x3 x4 x5 js fs sts) (h2 : x2 ≤ 40) (h3 : x3 ≤ 24) (h4 : x4 ≤ 6) (h5 : x5 ≤ 4) : JsOk js fs := by
  obtain ⟨jo, _, nd, hf, c1, c2, c3, _, _⟩ := h
  refine ⟨jo.names, fun j hj => man6_4 _ (jo.2.2.2 j hj).2, fun f hf' => (hf f hf').b.le (by omega), nd, fun x hx => ?_⟩
  rcases hx with rfl | rfl | rfl
  · exact Nat.le_trans c1 (by rw [show lim "let" = 24 from rfl]; exact h3)
  · exact Nat.le_trans c2 (by rw [show lim "not" = 6 from rfl]; exact h4)
  · exact Nat.le_trans c3 (by rw [show lim "as" = 4 from rfl]; exact h5)
/-- a text of a good book -/
def GoodT (x : Str) : Prop := ∃ names ml fs, x = bN names ml fs ∧ GoodB names ml fs
theorem GoodB.t {names : List Str} {ml : List (Str × Str)} {fs : List Fact} (h : GoodB names ml fs) : GoodT (bN names ml fs) := ⟨_, _, _, rfl, h⟩
theorem JsOk.t {js : List (Str × Str)} {fs : List Fact} (h : JsOk js fs) : GoodT (bT js fs) := h.good.t
theorem GoodB.perm {names : List Str} {ml ml' : List (Str × Str)} {fs fs' : List Fact} (h : GoodB names ml fs) (p : ml'.Perm ml) (q : fs'.Perm fs) : GoodB names ml' fs' := by
  refine ⟨h.nm, fun x hx => h.m1 x (p.mem_iff.mp hx), fun x hx => h.m2 x (p.mem_iff.mp hx), (p.map _).nodup_iff.mpr h.nd, fun f hf => h.f.b f (q.mem_iff.mp hf), q.nodup_iff.mpr h.f.nd, fun x hx => ?_⟩
  have e : GD.cnt x fs' = GD.cnt x fs := by
    unfold GD.cnt
    exact (q.filter _).length_eq
  rw [e]
  exact h.f.lm x hx
theorem perm_map {α β : Type} {g : α → β} : ∀ {ys zs : List β}, ys.Perm zs → ∀ {xs : List α}, zs = xs.map g → ∃ xs' : List α, ys = xs'.map g ∧ xs'.Perm xs := by
  intro ys zs h
  induction h with
  | nil => exact fun {xs} e => ⟨xs, e, .refl _⟩
  | cons x p ih =>
    intro xs e
    cases xs with
    | nil => cases e
    | cons a r =>
      obtain ⟨e1, e2⟩ := List.cons.inj e
      obtain ⟨xs', h1, h2⟩ := ih e2
      exact ⟨a :: xs', by rw [List.map_cons, ← h1, e1], h2.cons a⟩
  | swap x y l =>
    intro xs e
    cases xs with
    | nil => cases e
    | cons a r =>
      cases r with
      | nil => cases (List.cons.inj e).2
      | cons b r =>
        obtain ⟨e1, e2⟩ := List.cons.inj e
        obtain ⟨e2, e3⟩ := List.cons.inj e2
        exact ⟨b :: a :: r, by rw [List.map_cons, List.map_cons, e1, e2, e3], .swap _ _ _⟩
  | trans p q ih1 ih2 =>
    intro xs e
    obtain ⟨xs1, h1, h2⟩ := ih2 e
    obtain ⟨xs2, h3, h4⟩ := ih1 h1
    exact ⟨xs2, h3, h4.trans h2⟩
theorem JsOk.sub {js : List (Str × Str)} {fs gs : List Fact} (h : JsOk js fs) (s : List.Sublist gs fs) : JsOk js gs := { h with f := h.f.sub s }
/-- the first job has another name -/
def fresh : List (Str × Str) → List (Str × Str)
  | [] => []
  | j :: r => (("q" : Str), j.2) :: r
theorem fresh_get {js : List (Str × Str)} {i : Nat} {j : Str × Str} (h : js[i]? = some j) : (fresh js)[i]? = some (if i = 0 then ("q" : Str) else j.1, j.2) := by
  cases js with
  | nil => cases h
  | cons a r =>
    cases i with
    | zero =>
      rw [List.getElem?_cons_zero] at h
      rw [fresh, List.getElem?_cons_zero, Option.some.inj h]
      rfl
    | succ i =>
      rw [List.getElem?_cons_succ] at h
      rw [fresh, List.getElem?_cons_succ, h]
      rfl
theorem fresh_len (js : List (Str × Str)) : (fresh js).length = js.length := by cases js <;> rfl
theorem JsOk.fresh {js : List (Str × Str)} {fs : List Fact} (h : JsOk js fs) (hq : ∀ j ∈ js, j.1 ∈ pool21) : JsOk (GD.fresh js) fs := by
  cases js with
  | nil => exact h
  | cons a r =>
    have nd := List.nodup_cons.mp h.nm.nd
    refine ⟨⟨?_, ?_, ?_, fun x hx => ?_⟩, fun j hj => ?_, h.f⟩
    · exact h.nm.l1
    · exact h.nm.l4
    · refine List.nodup_cons.mpr ⟨fun m => ?_, nd.2⟩
      obtain ⟨j, hj, e⟩ := List.mem_map.mp m
      have z := hq j (List.mem_cons_of_mem _ hj)
      rw [show j.1 = ("q" : Str) from e] at z
      exact q_new z
    · rcases List.mem_cons.mp hx with e | e
      · rw [e]
        exact q_name
      · exact h.nm.nm x (List.mem_cons_of_mem _ e)
    · rcases List.mem_cons.mp hj with e | e
      · rw [e]
        exact h.mn a List.mem_cons_self
      · exact h.mn j (List.mem_cons_of_mem _ e)
/-- each manner exchanged -/
def exch (m : Str) : Str := if m = ("plain" : Str) then "free" else if m = ("free" : Str) then "plain" else if m = ("clean" : Str) then "spent" else "clean"
theorem exch_4 : ∀ x ∈ man4, exch x ∈ man4 := by decide +kernel
theorem JsOk.exch {js : List (Str × Str)} {fs : List Fact} (h : JsOk js fs) : JsOk (js.map fun j => (j.1, GD.exch j.2)) fs := by
  refine ⟨?_, fun j hj => ?_, by rw [List.length_map]; exact h.f⟩
  · rw [List.map_map]
    exact h.nm
  · obtain ⟨i, hi, rfl⟩ := List.mem_map.mp hj
    exact exch_4 _ (h.mn i hi)
end GD
namespace GD
open PySem PySem.Spec PyProof.Rows L2
section
variable {K : PySem.W.Frag} {H : Hp} {Q : VK} {l a b : Addr} {ws us : List Str}
theorem sl_to {n : Nat} (hl : H l = some (.lst (ws.map V.str))) (k : ∀ p H', Same H H' → H p = none → H' p = some (.lst ((ws.take n).map V.str)) → Q (.ref p) H') : rSlL K (.ref l) none (some (n : Int)) H Q :=
  ⟨l, _, rfl, SqL.of hl, fun p np => k p _ (same_new np) np (by rw [upd_same, cut_strs_to])⟩
theorem sl_mid {m n : Nat} (hl : H l = some (.lst (ws.map V.str))) (k : ∀ p H', Same H H' → H p = none → H' p = some (.lst (((ws.drop m).take (n - m)).map V.str)) → Q (.ref p) H') : rSlL K (.ref l) (some (m : Int)) (some (n : Int)) H Q :=
  ⟨l, _, rfl, SqL.of hl, fun p np => k p _ (same_new np) np (by rw [upd_same, cut_strs])⟩
theorem sl_from {m : Nat} (hl : H l = some (.lst (ws.map V.str))) (k : ∀ p H', Same H H' → H p = none → H' p = some (.lst ((ws.drop m).map V.str)) → Q (.ref p) H') : rSlL K (.ref l) (some (m : Int)) none H Q :=
  ⟨l, _, rfl, SqL.of hl, fun p np => k p _ (same_new np) np (by rw [upd_same, cut_strs_end])⟩
theorem sl_fromN {σ : L2.St} {m : Nat} (hl : H l = some (.lst (ws.map V.str))) (k : ∀ p H', Same H H' → H p = none → H' p = some (.lst ((ws.drop m).map V.str)) → Q (.ref p) H') : tNoPart σ H (fun u H3 => rSlL K (.ref l) (some (m : Int)) u H3 Q) := sl_from hl k
theorem cat_strs (ha : H a = some (.lst (ws.map V.str))) (hb : H b = some (.lst (us.map V.str))) (h1 : ws.length ≤ 1000) (h2 : us.length ≤ 1000) (k : ∀ p H', Same H H' → H p = none → H' p = some (.lst ((ws ++ us).map V.str)) → Q (.ref p) H') : rCat (.ref a) (.ref b) H Q :=
  ⟨a, b, _, _, rfl, rfl, ha, hb, small_len (by rw [List.length_map, List.length_map]; omega), fun p np => k p _ (same_new np) np (by rw [upd_same, List.map_append])⟩
end
theorem fit_lines {k : Nat} {n : Int} {js : List (Str × Str)} {fs : List Fact} (ok : LinesOk k n js fs) {ys : List Str} (h : ∀ x ∈ ys, x ∈ lT js fs) (hl : ys.length ≤ 1100) : (ys.map (·.length)).sum + ys.length * ("\n" : Str).length ≤ 16777216 := by
  have z := sum_len (ys := ys) (k := 2007) fun x hx => len_lT ok x (h x hx)
  have z2 : 2007 * ys.length ≤ 2007 * 1100 := Nat.mul_le_mul_left _ hl
  rw [show ("\n" : Str).length = 1 from rfl]
  omega
theorem lT_take (js : List (Str × Str)) (fs : List Fact) : (lT js fs).take (1 + (mlOf js).length) = jT js :: mT js := by
  have l : (jT js :: mT js).length = 1 + (mlOf js).length := by rw [List.length_cons, mT, List.length_map]; exact Nat.add_comm _ _
  rw [lT, ← l, List.take_left]
theorem lT_drop (js : List (Str × Str)) (fs : List Fact) : (lT js fs).drop (1 + (mlOf js).length) = fs.map fT := by
  have l : (jT js :: mT js).length = 1 + (mlOf js).length := by rw [List.length_cons, mT, List.length_map]; exact Nat.add_comm _ _
  rw [lT, ← l, List.drop_left]
theorem lT_mid (js : List (Str × Str)) (fs : List Fact) : ((lT js fs).drop 1).take (1 + (mlOf js).length - 1) = mT js := by
  have l : (mT js).length = 1 + (mlOf js).length - 1 := by rw [mT, List.length_map]; exact (Nat.add_sub_cancel_left ..).symm
  rw [show (lT js fs).drop 1 = mT js ++ fs.map fT from rfl, ← l, List.take_left]
theorem lT_len (js : List (Str × Str)) (fs : List Fact) : (lT js fs).length = 1 + (mlOf js).length + fs.length := lN_len _ _ _
theorem cut_one (xs : List V) : cutV xs (some 1) none = xs.drop 1 := by
  unfold cutV
  rw [show (some (1 : Int)) = some ((1 : Nat) : Int) from rfl, HT.sIx_nat, HT.sIx_none, drop_min, List.take_of_length_le]
  rw [List.length_drop]
  by_cases h : 1 ≤ xs.length
  · rw [Nat.min_eq_left h]
    exact Nat.le_refl _
  · omega
theorem eqv_list_nil (fs : List Fact) : PyData.eqv (.list (fs.map eF)) (.list []) = fs.isEmpty := by
  cases fs with
  | nil => rw [List.map_nil, PyData.eqv, PyData.eqvAll]; rfl
  | cons f r => rw [List.map_cons, PyData.eqv, PyData.eqvAll]; rfl
theorem shape_nil : SeqAt.shaped (.list []) = true := shape_eFs []
structure OI (a L R : Addr) (H0 H : Hp) (z : Int) (ls ts : List Str) : Prop where
  kp : Keep a H0 H
  pot : PotAt H a z
  l : H L = some (.lst (ls.map V.str))
  r : H R = some (.lst (ts.map V.str))
  g : ∀ t ∈ ts, GoodT t
theorem OI.same {a L R : Addr} {H0 H H' : Hp} {z : Int} {ls ts : List Str} (s : Same H H') (h : OI a L R H0 H z ls ts) : OI a L R H0 H' z ls ts := ⟨h.kp.trans (sKeep s), h.pot.same s, s _ _ h.l, s _ _ h.r, h.g⟩
theorem OI.put {a L R : Addr} {H0 H : Hp} {z : Int} {ls ts : List Str} {t : Str} (h : OI a L R H0 H z ls ts) (hL : L ≠ R) (n : H0 R = none) (dR : R ≠ a) (g : GoodT t) : OI a L R H0 (upd H R (.lst (ts.map V.str ++ [.str t]))) z ls (ts ++ [t]) :=
  ⟨keep_upd h.kp n, h.pot.upd_ne dR, by rw [upd_ne hL]; exact h.l, by rw [upd_same, List.map_append]; rfl, fun u hu => (List.mem_append.mp hu).elim (h.g u) fun e => by rw [List.mem_singleton.mp e]; exact g⟩
def spOthers : Sp := fun vs H Q _ => ∃ (a d lj lf : Addr) (kvs : List (Key × V)) (js : List (Str × Str)) (fs : List Fact) (z : Int), vs = [.ref a, .ref d] ∧ PotAt H a z ∧ z ≤ 20000 ∧ H d = some (.dK kvs) ∧ valV kvs (.inr "jobs") = some (.ref lj) ∧ valV kvs (.inr "facts") = some (.ref lf) ∧
  LstAt H lj (js.map eE) ∧ LstAt H lf (fs.map eF) ∧ lj ≠ a ∧ lf ≠ a ∧ JsOk js fs ∧ (∀ j ∈ js, j.1 ∈ pool21) ∧
  ∀ p (ts : List Str) H', H p = none → PotAt H' a (z + 40) → Keep a H H' → H' p = some (.lst (ts.map V.str)) → (∀ t ∈ ts, GoodT t) → ts.length ≤ 8 → Q (.ref p) H'
end GD
namespace K04
open PySem PySem.Spec PyProof.Rows L2 GD
section
variable {P : Program} {w : World} {K : PySem.W.Frag} {mg : Str → Option Value} {base : Heap}
abbrev NOt : List Str := ["_law_pot_here", "_law_lore_here", "_law_lines_here", "_law_jobs_here", "_law_facts", "_law_many", "_law_found", "_law_fresh", "_law_at", "_law_name", "_law_manner", "_law_exchanged", "_law_turned"]
theorem scOt : FnScope NOt ["_law_pot_here", "_law_lore_here"] (defScope sOthers) := ⟨rfl, rfl, rfl, by decide +kernel, rfl, by decide +kernel, by decide +kernel⟩
theorem ok_others {f gT fS fX fY fZ fU : Addr} {fd fdT fdS fdX fdY fdZ fdU : FuncData} (F : Fun K "_law_others" "_law_others" sOthers f fd) (S : Small1 K mg) (nS : mg "str" = none) (nE : mg "enumerate" = none)
    (AT : At K mg "_law_take" sTake ["_law_pot_here", "_law_upto"] gT fdT) (AS : At K mg "_law_some" sSome ["_law_pot_here", "_law_pool", "_law_many"] fS fdS)
    (AX : At K mg "_law_standing_text" sStandingText ["_law_standing_here"] fX fdX) (AY : At K mg "_law_fact_line" sFactLine ["_law_fact"] fY fdY) (AZ : At K mg "_law_lines" sLines ["_law_lore_here"] fZ fdZ) (AU : At K mg "_law_text" sText ["_law_lore_here"] fU fdU) :
    FnOk P w K mg base CX0 5 f fd ["_law_pot_here", "_law_lore_here"] spOthers := by
  have GS : FnOk P w K mg base CX0 2 fS fdS ["_law_pot_here", "_law_pool", "_law_many"] (spSome K) := ok_some AS.F S.ta AT.F AT.g AT.b
  have GZ : FnOk P w K mg base CX0 3 fZ fdZ ["_law_lore_here"] spLines := ok_lines AZ.F nS AX AY
  have GU : FnOk P w K mg base CX0 4 fU fdU ["_law_lore_here"] spTextB := ok_text AU.F nS AX AY AZ
  refine F.ok scOt (fun vs H Q E h => ?_) (fun cdv A outer s H vs Q E hr h => ?_)
  · obtain ⟨a, d, lj, lf, kvs, js, fs, z, rfl, _⟩ := h
    rfl
  · obtain ⟨a, d, lj, lf, kvs, js, fs, z, rfl, hp, hz, hd, vj, vf, hj, hf, dj, df, ok, hpool, q⟩ := h
    have hr2 : Room 2 _ := hr.mono (by decide)
    have hr3 : Room 3 _ := hr.mono (by decide)
    refine ⟨_, pss_cons (ps_par3 (i := 2) (j := 3) (l := 4) rfl scOt.nd rfl rfl rfl (by decide) (by decide) (by decide) rfl rfl rfl (pa_cons (pe_call GZ hr3 (by rfl) AZ.g AZ.F.kp AZ.b .nil pass0 (pa_cons (pv 1) pa_nil)) (pa_cons (pe_dget (u1 hr) (pv 1) pe_str (fun _ _ => rfl)) (pa_cons (pe_dget (u1 hr) (pv 1) pe_str (fun _ _ => rfl)) pa_nil))) (by rfl))
      (pss_cons (ps_set (i := 5) scOt.nd rfl (.inl rfl) (pe_op op_sub (pe_callB call_len_seq (by rfl) S.ta.len PySem.boot_len (pa_cons (pv 2) pa_nil)) (pe_callB call_len_seq (by rfl) S.ta.len PySem.boot_len (pa_cons (pv 4) pa_nil))))
      (pss_cons (ps_set (i := 6) scOt.nd rfl (.inl rfl) (pe_lst (pa_cons (pe_bm PySem.F.plainAttrs_str PySem.F.slot_str_join PySem.F.type_str_join mt_join pe_str (pa_cons (pv 2) pa_nil))
          (pa_cons (pe_bm PySem.F.plainAttrs_str PySem.F.slot_str_join PySem.F.type_str_join mt_join pe_str (pa_cons (pe_slice sl_list (pv 2) po_none (po_some (pv 5))) pa_nil))
          (pa_cons (pe_bm PySem.F.plainAttrs_str PySem.F.slot_str_join PySem.F.type_str_join mt_join pe_str (pa_cons (pe_op op_cat (pe_op op_cat (pe_slice sl_list (pv 2) po_none (po_some pe_int)) (pe_revL (pe_slice sl_list (pv 2) (po_some pe_int) (po_some (pv 5))))) (pe_slice sl_list (pv 2) (po_some (pv 5)) po_none)) pa_nil)) pa_nil)))))
      (pss_cons (ps_expr (pe_bm PySem.F.plainAttrs_list PySem.F.slot_list_append PySem.F.type_list_append mt_append (pv 6) (pa_cons (pe_bm PySem.F.plainAttrs_str PySem.F.slot_str_join PySem.F.type_str_join mt_join pe_str (pa_cons (pe_op op_cat (pe_slice sl_list (pv 2) po_none (po_some (pv 5)))
          (pe_call GS hr2 (by rfl) AS.g AS.F.kp AS.b .nil pass0 (pa_cons (pv 0) (pa_cons (pe_slice sl_list (pv 2) (po_some (pv 5)) po_none) (pa_cons (pe_callB call_len_seq (by rfl) S.ta.len PySem.boot_len (pa_cons (pv 4) pa_nil)) pa_nil))))) pa_nil)) pa_nil)))
      (pss_cons (ps_expr (pe_bm PySem.F.plainAttrs_list PySem.F.slot_list_append PySem.F.type_list_append mt_append (pv 6) (pa_cons (pe_bm PySem.F.plainAttrs_str PySem.F.slot_str_join PySem.F.type_str_join mt_join pe_str (pa_cons (pe_op op_cat (pe_slice sl_list (pv 2) po_none (po_some (pv 5)))
          (pe_revL (pe_slice sl_list (pv 2) (po_some (pv 5)) po_none))) pa_nil)) pa_nil)))
      (pss_cons (ps_setLc (i := 7) (own := [("_law_at", 8), ("_law_name", 9), ("_law_manner", 10)]) (g := gTup K 2 (gCons (gName 8) (gCons (gTup K 2 (gCons (gName 9) (gCons (gName 10) gNil))) gNil))) (tt := tYes) rfl scOt.nd rfl rfl (sw_true rfl rfl rfl (by decide +kernel)) (pi_enum (by rfl) nE (pa_cons (pv 3) pa_nil))
          (blkOk_by (N := NOt) (sc := defScope sOthers) (by decide +kernel)) (fun _ _ _ _ _ => pg_tup rfl (pgs_cons (pg_name (i := 8) scOt.nd rfl (.inl rfl)) (pgs_cons (pg_tup rfl (pgs_cons (pg_name (i := 9) scOt.nd rfl (.inl rfl)) (pgs_cons (pg_name (i := 10) scOt.nd rfl (.inl rfl)) pgs_nil))) pgs_nil)))
          (fun _ _ _ _ _ => pts_nil) (fun _ _ _ _ _ => pe_tup (pa_cons (pe_ifExp (pt_cmpR op_eq (pv 8) pe_int (nomark _)) pe_str (pv 9)) (pa_cons (pv 10) pa_nil))))
      (pss_cons (ps_expr (pe_bm PySem.F.plainAttrs_list PySem.F.slot_list_append PySem.F.type_list_append mt_append (pv 6) (pa_cons (pe_call GU hr (by rfl) AU.g AU.F.kp AU.b .nil pass0 (pa_cons (pe_disp (pps_cons pe_str (pv 7) (pps_cons pe_str (pv 4) pps_nil)) (by rfl) (by rfl) (fun z => by cases z) (by show 2 ≤ 15; decide)) pa_nil)) pa_nil)))
      (pss_cons (ps_set (i := 11) scOt.nd rfl (.inr rfl) (pe_disp (pps_cons pe_str pe_str (pps_cons pe_str pe_str (pps_cons pe_str pe_str (pps_cons pe_str pe_str pps_nil)))) (by rfl) (by rfl) (fun z => by cases z) (by show 4 ≤ 15; decide)))
      (pss_cons (ps_setLc (i := 12) (own := [("_law_name", 9), ("_law_manner", 10)]) (g := gTup K 2 (gCons (gName 9) (gCons (gName 10) gNil))) (tt := tYes) rfl scOt.nd rfl rfl (sw_true rfl rfl rfl (by decide +kernel)) (pi_list (pv 3))
          (blkOk_by (N := NOt) (sc := defScope sOthers) (by decide +kernel)) (fun _ _ _ _ _ => pg_tup rfl (pgs_cons (pg_name (i := 9) scOt.nd rfl (.inl rfl)) (pgs_cons (pg_name (i := 10) scOt.nd rfl (.inl rfl)) pgs_nil)))
          (fun _ _ _ _ _ => pts_nil) (fun _ _ _ _ _ => pe_tup (pa_cons (pv 9) (pa_cons (pe_dget (u1 hr) (pv 11) (pv 10) (fun _ _ => rfl)) pa_nil))))
      (pss_cons (ps_expr (pe_bm PySem.F.plainAttrs_list PySem.F.slot_list_append PySem.F.type_list_append mt_append (pv 6) (pa_cons (pe_call GU hr (by rfl) AU.g AU.F.kp AU.b .nil pass0 (pa_cons (pe_disp (pps_cons pe_str (pv 12) (pps_cons pe_str (pv 4) pps_nil)) (by rfl) (by rfl) (fun z => by cases z) (by show 2 ≤ 15; decide)) pa_nil)) pa_nil)))
      (pss_one (ps_ret (pe_op op_cat (pv 6) (pe_ifExp (pt_cmpR (op_neD hr.units) (pv 4) (pe_lst pa_nil) (nomark _)) (pe_lst (pa_cons (pe_call GU hr (by rfl) AU.g AU.F.kp AU.b .nil pass0 (pa_cons (pe_disp (pps_cons pe_str (pv 3) (pps_cons pe_str (pe_slice sl_list (pv 4) (po_some pe_int) po_none) pps_nil)) (by rfl) (by rfl) (fun z => by cases z) (by show 2 ≤ 15; decide)) pa_nil)) pa_nil)) (pe_lst pa_nil)))))))))))))), ?_⟩
    have okL := ok.lines
    have good := ok.good
    obtain ⟨xj, ej, fj⟩ := id hj
    obtain ⟨xf, ef, ff⟩ := id hf
    have lxj : xj.length = js.length := by rw [fj.len, List.length_map]
    have lxf : xf.length = fs.length := by rw [ff.len, List.length_map]
    have lfs := ok.f.len
    have ljs := okL.jl
    have cmt := cnt_mT js
    have lmm : (mT js).length = (mlOf js).length := by rw [mT, List.length_map]
    have lT0 := lT_len js fs
    have dg1 : ∀ {H' : Hp}, Same H H' → DGet H' d (.str "jobs") (some (.ref lj)) := fun s => by
      have z := DGet.k (k := .inr "jobs") (s _ _ hd)
      rw [vj] at z
      exact z
    have dg2 : ∀ {H' : Hp}, Same H H' → DGet H' d (.str "facts") (some (.ref lf)) := fun s => by
      have z := DGet.k (k := .inr "facts") (s _ _ hd)
      rw [vf] at z
      exact z
    refine ⟨_, rfl, d, js, fs, js.length, 40, rfl, ⟨kvs, lj, lf, hd, vj, vf, hj, hf⟩, okL, fun L H1 nL s1 eL => ?_⟩
    refine ⟨_, rfl, d, _, rfl, dg1 s1, _, rfl, d, _, rfl, dg2 s1, _, _, _, rfl, ?_⟩
    refine ⟨_, rfl, L, _, rfl, .inl (SqL.of eL), _, rfl, lf, _, rfl, .inl (SqL.of (s1 _ _ ef)), _, _, rfl, rfl, ?_⟩
    have em : (((((lT js fs).map V.str).length : Nat) : Int) - (xf.length : Int)) = ((1 + (mlOf js).length : Nat) : Int) := by rw [List.length_map]; omega
    dsimp only
    rw [em]
    have hT := lT_take js fs
    have hD := lT_drop js fs
    have hM := lT_mid js fs
    generalize hm : 1 + (mlOf js).length = m at hT hD hM em lT0 ⊢
    have one : (1 : Int) = ((1 : Nat) : Int) := rfl
    -- the first three
    refine ⟨rfl, _, rfl, _, L, lT js fs, rfl, rfl, .inl (SqL.of eL), fit_lines okL (fun x hx => hx) (by omega), ?_⟩
    refine ⟨rfl, _, rfl, _, rfl, _, rfl, sl_to eL fun p1 H2 s2 np1 e1 => ?_⟩
    refine ⟨_, p1, _, rfl, rfl, .inl (SqL.of e1), fit_lines okL (fun x hx => List.mem_of_mem_take hx) (by rw [List.length_take]; omega), ?_⟩
    have eL2 := s2 _ _ eL
    refine ⟨rfl, _, rfl, _, rfl, sl_to (n := 1) eL2 fun p2 H3 s3 np2 e2 => ?_⟩
    have eL3 := s3 _ _ eL2
    refine ⟨_, rfl, _, rfl, _, rfl, _, rfl, sl_mid (m := 1) eL3 fun p3 H4 s4 np3 e3 => ?_⟩
    refine ⟨p3, _, rfl, SqL.of e3, fun p4 np4 => ?_⟩
    have s5 := same_new (o := .lst ((((lT js fs).drop 1).take (m - 1)).map V.str).reverse) np4
    have e4 : (upd H4 p4 (.lst ((((lT js fs).drop 1).take (m - 1)).map V.str).reverse)) p4 = some (.lst ((mT js).reverse.map V.str)) := by rw [upd_same, hM, List.map_reverse]
    generalize upd H4 p4 (.lst ((((lT js fs).drop 1).take (m - 1)).map V.str).reverse) = H5 at s5 e4 ⊢
    have s25 := s4.trans s5
    refine cat_strs (s25 _ _ e2) e4 (by rw [List.length_take]; omega) (by rw [List.length_reverse]; omega) fun p5 H6 s6 np5 e5 => ?_
    have eL6 := s6 _ _ (s25 _ _ eL3)
    refine ⟨_, rfl, _, rfl, _, rfl, sl_fromN eL6 fun p6 H7 s7 np6 e6 => ?_⟩
    refine cat_strs (s7 _ _ e5) e6 (by rw [List.length_append, List.length_take, List.length_reverse]; omega) (by rw [List.length_drop]; omega) fun p7 H8 s8 np7 e7 => ?_
    have eL8 := s8 _ _ (s7 _ _ eL6)
    rw [hD, show (lT js fs).take 1 = [jT js] from rfl] at e7
    refine ⟨_, p7, _, rfl, rfl, .inl (SqL.of e7), fit_lines okL (fun x hx => ?_) ?_, ?_⟩
    · rcases List.mem_append.mp hx with h | h
      · rcases List.mem_append.mp h with h | h
        · exact List.mem_append_left _ (List.mem_cons.mpr (.inl (List.mem_singleton.mp h)))
        · exact List.mem_append_left _ (List.mem_cons_of_mem _ (List.mem_reverse.mp h))
      · exact List.mem_append_right _ h
    · rw [List.length_append, List.length_append, List.length_reverse, List.length_map, List.length_singleton]
      omega
    refine ⟨(by show 3 ≤ sizeLine; decide), fun R nR => ?_⟩
    have sR := same_new (o := .lst [V.str (Txt.join "\n" (lT js fs)), V.str (Txt.join "\n" ((lT js fs).take m)), V.str (Txt.join "\n" ([jT js] ++ (mT js).reverse ++ fs.map fT))]) nR
    have eR : (upd H8 R (.lst [V.str (Txt.join "\n" (lT js fs)), V.str (Txt.join "\n" ((lT js fs).take m)), V.str (Txt.join "\n" ([jT js] ++ (mT js).reverse ++ fs.map fT))])) R = some (.lst ([Txt.join "\n" (lT js fs), Txt.join "\n" ((lT js fs).take m), Txt.join "\n" ([jT js] ++ (mT js).reverse ++ fs.map fT)].map V.str)) := upd_same
    have g1 : GoodT (Txt.join "\n" (lT js fs)) := ok.t
    have g2 : GoodT (Txt.join "\n" ((lT js fs).take m)) := by
      rw [hT, ← List.append_nil (jT js :: mT js)]
      exact (good.sub (List.nil_sublist fs)).t
    have g3 : GoodT (Txt.join "\n" ([jT js] ++ (mT js).reverse ++ fs.map fT)) := by
      have e : [jT js] ++ (mT js).reverse ++ fs.map fT = lN (js.map (·.1)) (mlOf js).reverse fs := by
        show jT js :: ((mT js).reverse ++ fs.map fT) = _
        rw [mT, ← List.map_reverse]
        rfl
      rw [e]
      exact (good.perm (List.reverse_perm _) (.refl _)).t
    have s18 : Same H (upd H8 R _) := ((((((s1.trans s2).trans s3).trans s25).trans s6).trans s7).trans s8).trans sR
    have nR0 : H R = none := (((((((s1.trans s2).trans s3).trans s25).trans s6).trans s7).trans s8)).free nR
    have eL9 := sR _ _ eL8
    generalize upd H8 R (.lst [V.str (Txt.join "\n" (lT js fs)), V.str (Txt.join "\n" ((lT js fs).take m)), V.str (Txt.join "\n" ([jT js] ++ (mT js).reverse ++ fs.map fT))]) = H9 at eR s18 eL9 ⊢
    have p9 := hp.same s18
    have dL : L ≠ a := hp.ne nL
    have dR : R ≠ a := hp.ne nR0
    refine ⟨_, rfl, .inl ⟨rfl, _, SqL.of eR⟩, rfl, _, rfl, _, rfl, _, rfl, sl_to eL9 fun q1 H10 s10 nq1 e10 => ?_⟩
    refine ⟨_, rfl, _, rfl, _, rfl, _, rfl, sl_fromN (s10 _ _ eL9) fun q2 H11 s11 nq2 e11 => ?_⟩
    have s911 := s10.trans s11
    have p11 := p9.same s911
    have ef11 := (s18.trans s911) _ _ ef
    rw [hD] at e11
    refine ⟨_, rfl, lf, _, rfl, .inl (SqL.of ef11), a, q2, _, xf.length, z, rfl, p11, by omega, SqL.of e11, by rw [List.length_map, List.length_map]; omega, by rw [List.length_map, List.length_map]; omega, fun q3 ys H12 nq3 p12 k12 e12 ⟨rest, hperm⟩ ly => ?_⟩
    have hr0 : rest = [] := by
      have zz := hperm.length_eq
      rw [List.length_append, List.length_map, List.length_map] at zz
      exact List.eq_nil_of_length_eq_zero (by omega)
    rw [hr0, List.append_nil, List.map_map] at hperm
    obtain ⟨gs, rfl, pg⟩ := perm_map hperm rfl
    have kk : Keep a H H12 := (sKeep (s18.trans s911)).trans k12
    have dq1 : q1 ≠ a := p9.ne nq1
    have e10' := k12 _ _ dq1 (s11 _ _ e10)
    have eR12 := k12 _ _ dR (s911 _ _ eR)
    have eL12 := k12 _ _ dL (s911 _ _ eL9)
    rw [← List.map_map] at e12
    have lgs := pg.length_eq
    have g0 : ∀ t ∈ [Txt.join "\n" (lT js fs), Txt.join "\n" ((lT js fs).take m), Txt.join "\n" ([jT js] ++ (mT js).reverse ++ fs.map fT)], GoodT t := fun t ht => by
      rcases List.mem_cons.mp ht with e | ht
      · rw [e]
        exact g1
      · rcases List.mem_cons.mp ht with e | ht
        · rw [e]
          exact g2
        · rw [List.mem_singleton.mp ht]
          exact g3
    have oi : OI a L R H H12 (z + xf.length) (lT js fs) [Txt.join "\n" (lT js fs), Txt.join "\n" ((lT js fs).take m), Txt.join "\n" ([jT js] ++ (mT js).reverse ++ fs.map fT)] := ⟨kk, p12, eL12, eR12, g0⟩
    have hLR : L ≠ R := ne_of_none ((((((s2.trans s3).trans s25).trans s6).trans s7).trans s8) _ _ eL) nR
    generalize hts : [Txt.join "\n" (lT js fs), Txt.join "\n" ((lT js fs).take m), Txt.join "\n" ([jT js] ++ (mT js).reverse ++ fs.map fT)] = ts at oi
    have lts : ts.length = 3 := by rw [← hts]; rfl
    clear g0 eR12 eL12
    refine cat_strs e10' e12 (by rw [List.length_take]; omega) (by rw [List.length_map]; omega) fun q4 H13 s13 nq4 e13 => ?_
    have g4 : GoodT (Txt.join "\n" ((lT js fs).take m ++ gs.map fT)) := by
      rw [hT]
      exact (good.perm (.refl _) pg).t
    have hin : ∀ x ∈ (lT js fs).take m ++ gs.map fT, x ∈ lT js fs := fun x hx => by
      rcases List.mem_append.mp hx with h | h
      · exact List.mem_of_mem_take h
      · obtain ⟨y, hy, rfl⟩ := List.mem_map.mp h
        exact List.mem_append_right _ (List.mem_map_of_mem (pg.mem_iff.mp hy))
    refine ⟨_, q4, _, rfl, rfl, .inl (SqL.of e13), fit_lines okL hin (by rw [List.length_append, List.length_take, List.length_map]; omega), ?_⟩
    have o13 := oi.same s13
    refine ⟨R, _, _, rfl, rfl, o13.r, Nat.lt_of_lt_of_le (show (ts.map V.str).length < 10 by rw [List.length_map]; omega) (by decide), ?_⟩
    have o14 := o13.put hLR nR0 dR g4
    generalize upd H13 R (.lst (ts.map V.str ++ [.str (Txt.join "\n" ((lT js fs).take m ++ gs.map fT))])) = H14 at o14 ⊢
    generalize hts2 : ts ++ [Txt.join "\n" ((lT js fs).take m ++ gs.map fT)] = ts2 at o14
    have lts2 : ts2.length = 4 := by rw [← hts2, List.length_append, lts]; rfl
    -- the fifth
    refine ⟨_, rfl, .inl ⟨rfl, _, SqL.of o14.r⟩, rfl, _, rfl, _, rfl, _, rfl, sl_to o14.l fun u1 H15 s15 nu1 e15 => ?_⟩
    refine ⟨_, rfl, _, rfl, _, rfl, sl_fromN (s15 _ _ o14.l) fun u2 H16 s16 nu2 e16 => ?_⟩
    rw [hD] at e16
    refine ⟨u2, _, rfl, SqL.of e16, fun u3 nu3 => ?_⟩
    have s17 := same_new (o := .lst (((fs.map fT).map V.str).reverse)) nu3
    have e17 : (upd H16 u3 (.lst (((fs.map fT).map V.str).reverse))) u3 = some (.lst ((fs.reverse.map fT).map V.str)) := by rw [upd_same, List.map_reverse, List.map_reverse]
    generalize upd H16 u3 (.lst (((fs.map fT).map V.str).reverse)) = H17 at s17 e17 ⊢
    refine cat_strs ((s16.trans s17) _ _ e15) e17 (by rw [List.length_take]; omega) (by rw [List.length_map, List.length_reverse]; omega) fun u4 H18 s18' nu4 e18 => ?_
    have g5 : GoodT (Txt.join "\n" ((lT js fs).take m ++ fs.reverse.map fT)) := by
      rw [hT]
      exact (good.perm (.refl _) (List.reverse_perm fs)).t
    have hin5 : ∀ x ∈ (lT js fs).take m ++ fs.reverse.map fT, x ∈ lT js fs := fun x hx => by
      rcases List.mem_append.mp hx with h | h
      · exact List.mem_of_mem_take h
      · obtain ⟨y, hy, rfl⟩ := List.mem_map.mp h
        exact List.mem_append_right _ (List.mem_map_of_mem (List.mem_reverse.mp hy))
    refine ⟨_, u4, _, rfl, rfl, .inl (SqL.of e18), fit_lines okL hin5 (by rw [List.length_append, List.length_take, List.length_map, List.length_reverse]; omega), ?_⟩
    have o18 := o14.same (((s15.trans s16).trans s17).trans s18')
    refine ⟨R, _, _, rfl, rfl, o18.r, Nat.lt_of_lt_of_le (show (ts2.map V.str).length < 10 by rw [List.length_map]; omega) (by decide), ?_⟩
    have o19 := o18.put hLR nR0 dR g5
    generalize upd H18 R (.lst (ts2.map V.str ++ [.str (Txt.join "\n" ((lT js fs).take m ++ fs.reverse.map fT))])) = H19 at o19 ⊢
    generalize hts3 : ts2 ++ [Txt.join "\n" ((lT js fs).take m ++ fs.reverse.map fT)] = ts3 at o19
    have lts3 : ts3.length = 5 := by rw [← hts3, List.length_append, lts2]; rfl
    -- another name
    have tu19 : Tups H H19 := hp.tups o19.kp
    have ej19 := o19.kp _ _ dj ej
    have fj19 := fj.mv tu19
    refine ⟨_, rfl, lj, xj, rfl, SqL.of ej19, fun D hD => ?_⟩
    have D0 : H D = none := keep_none o19.pot o19.kp hD
    have lfr := fresh_len js
    refine lc_it (walk_enum (K := K) (a := lj) (xs := xj)) (fun i H' => Same H19 H' ∧ LstAt H' D (((GD.fresh js).take i).map eE)) ⟨same_new hD, [], upd_same, .nil⟩ (fun i H' _ ⟨s, _⟩ => SqL.of (s _ _ ej19)) ?_ ?_
    · rintro i x Hx H' hi ⟨sx, acc, eD, fz⟩ ⟨T, u, v, rfl, hTn, rfl, hu, hv⟩
      obtain rfl : V.int (i : Nat) = u := Option.some.inj hu
      obtain ⟨j, hj', fjv⟩ := (fj19.same sx).atM hv
      obtain ⟨b, y1, y2, rfl, hb1, f1, f2⟩ := fjv.t2
      obtain rfl := f1.s
      obtain rfl := f2.s
      have sT := same_new (o := .tup [.int (i : Nat), .ref b]) hTn
      have hil : i < js.length := (List.getElem?_eq_some_iff.mp hj').1
      have la : acc.length ≤ 10 := by
        rw [fz.len, List.length_map, List.length_take]
        omega
      refine ⟨T, _, rfl, SqT.of upd_same, rfl, _, _, rfl, _, _, rfl, b, _, rfl, SqT.of (sT _ _ hb1), rfl, _, _, rfl, _, _, rfl, rfl, rfl, rfl, ?_⟩
      have fin : ∀ (nm : Str), (GD.fresh js)[i]? = some (nm, j.2) → ∀ t, (upd Hx T (.tup [.int (i : Nat), .ref b])) t = none → ∃ acc', (upd (upd Hx T (.tup [.int (i : Nat), .ref b])) t (.tup [.str nm, .str j.2])) D = some (.lst acc') ∧ acc'.length < sizeLine ∧ Same H19 (upd (upd (upd Hx T (.tup [.int (i : Nat), .ref b])) t (.tup [.str nm, .str j.2])) D (.lst (acc' ++ [.ref t]))) ∧ LstAt (upd (upd (upd Hx T (.tup [.int (i : Nat), .ref b])) t (.tup [.str nm, .str j.2])) D (.lst (acc' ++ [.ref t]))) D (((GD.fresh js).take (i + 1)).map eE) := fun nm e t ht => by
        have st := sT.trans (same_new (o := .tup [.str nm, .str j.2]) ht)
        refine ⟨acc, st _ _ eD, Nat.lt_of_lt_of_le (show acc.length < 11 by omega) (by decide), same_upd (sx.trans st) hD, acc ++ [.ref t], upd_same, FzAll.mv (tups_lst (st _ _ eD)) ?_⟩
        rw [take_next e, List.map_append]
        exact (fz.same st).snoc (.tup upd_same (.cons (.str _) (.cons (.str _) .nil)))
      have ge := fresh_get hj'
      refine ⟨_, rfl, rfl, _, rfl, ?_⟩
      by_cases h0 : i = 0
      · rw [if_pos h0] at ge
        rw [decide_eq_true (show V.int ((i : Nat) : Int) = V.int 0 by rw [h0]; rfl)]
        exact iteT ⟨_, rfl, (by show 2 ≤ sizeLine; decide), fun t ht => fin _ ge t ht⟩
      · rw [if_neg h0] at ge
        rw [decide_eq_false (show ¬ V.int ((i : Nat) : Int) = V.int 0 from fun z => h0 (by have := V.int.inj z; omega))]
        exact iteF ⟨_, rfl, _, rfl, (by show 2 ≤ sizeLine; decide), fun t ht => fin _ ge t ht⟩
    · rintro H20 ⟨s20, hD20⟩
      rw [lxj, ← lfr, List.take_length] at hD20
      have o20 := o19.same s20
      have okq := ok.fresh hpool
      refine ⟨_, rfl, .inl ⟨rfl, _, SqL.of o20.r⟩, ?_⟩
      intro c1 hc1
      have hf20 := hf.keep df o20.kp (hp.tups o20.kp)
      have sc := same_new (o := .dK [(.inr "jobs", .ref D), (.inr "facts", .ref lf)]) hc1
      refine ⟨_, rfl, _, rfl, upd_same, [(.inr "jobs", .ref D), (.inr "facts", .ref lf)], rfl, (by show 2 ≤ 15; decide), ?_⟩
      rw [upd_upd]
      refine ⟨c1, GD.fresh js, fs, (GD.fresh js).length, 40, rfl, ⟨[(.inr "jobs", .ref D), (.inr "facts", .ref lf)], D, lf, upd_same, rfl, rfl, hD20.same sc, hf20.same sc⟩, okq.lines, fun H21 s21 => ?_⟩
      have o21 := o20.same (sc.trans s21)
      refine ⟨R, _, _, rfl, rfl, o21.r, Nat.lt_of_lt_of_le (show (ts3.map V.str).length < 10 by rw [List.length_map]; omega) (by decide), ?_⟩
      have o22 := o21.put hLR nR0 dR okq.t
      generalize upd H21 R (.lst (ts3.map V.str ++ [.str (bT (GD.fresh js) fs)])) = H22 at o22 ⊢
      generalize hts4 : ts3 ++ [bT (GD.fresh js) fs] = ts4 at o22
      have lts4 : ts4.length = 6 := by rw [← hts4, List.length_append, lts3]; rfl
      -- manners exchanged
      intro xd hxd
      have sx := same_new (o := .dK [(.inr "plain", .str "free"), (.inr "free", .str "plain"), (.inr "clean", .str "spent"), (.inr "spent", .str "clean")]) hxd
      refine ⟨upd_same, [(.inr "plain", .str "free"), (.inr "free", .str "plain"), (.inr "clean", .str "spent"), (.inr "spent", .str "clean")], rfl, (by show 4 ≤ 15; decide), ?_⟩
      rw [upd_upd]
      have exd : (upd H22 xd (.dK [(.inr "plain", .str "free"), (.inr "free", .str "plain"), (.inr "clean", .str "spent"), (.inr "spent", .str "clean")])) xd = some (.dK [(.inr "plain", .str "free"), (.inr "free", .str "plain"), (.inr "clean", .str "spent"), (.inr "spent", .str "clean")]) := upd_same
      have o23 := o22.same sx
      show Ends.nx _ _ (upd H22 xd (.dK [(.inr "plain", .str "free"), (.inr "free", .str "plain"), (.inr "clean", .str "spent"), (.inr "spent", .str "clean")]))
      generalize upd H22 xd (.dK [(.inr "plain", .str "free"), (.inr "free", .str "plain"), (.inr "clean", .str "spent"), (.inr "spent", .str "clean")]) = H23 at exd o23 ⊢
      have ej23 := o23.kp _ _ dj ej
      have fj23 := fj.mv (hp.tups o23.kp)
      refine ⟨_, rfl, lj, rfl, ⟨_, SqL.of ej23⟩, fun D2 hD2 => ?_⟩
      refine lc_list (K := K) (a := lj) (xs := xj) (fun i H' => Same H23 H' ∧ LstAt H' D2 (((js.map fun j => (j.1, GD.exch j.2)).take i).map eE)) ⟨same_new hD2, [], upd_same, .nil⟩ (fun i H' _ ⟨s, _⟩ => SqL.of (s _ _ ej23)) ?_ ?_
      · rintro i x H' hx ⟨sy, acc, eD, fz⟩
        obtain ⟨j, hj', fjv⟩ := (fj23.same sy).atM hx
        obtain ⟨b, y1, y2, rfl, hb1, f1, f2⟩ := fjv.t2
        obtain rfl := f1.s
        obtain rfl := f2.s
        have hil : i < js.length := (List.getElem?_eq_some_iff.mp hj').1
        have la : acc.length ≤ 10 := by
          rw [fz.len, List.length_map, List.length_take, List.length_map]
          omega
        have dgx : ∀ m ∈ man4, DGet H' xd (.str m) (some (.str (GD.exch m))) := fun m hm => by
          have z := DGet.k (k := .inr m) (sy _ _ exd)
          unfold man4 at hm
          simp only [List.mem_cons, List.not_mem_nil, or_false] at hm
          rcases hm with rfl | rfl | rfl | rfl <;> exact z
        refine ⟨b, _, rfl, SqT.of hb1, rfl, _, _, rfl, _, _, rfl, rfl, rfl, _, rfl, _, rfl, _, rfl, xd, _, rfl, dgx _ (ok.mn j (List.mem_of_getElem? hj')), (by show 2 ≤ sizeLine; decide), fun t ht => ?_⟩
        have st := same_new (o := .tup [.str j.1, .str (GD.exch j.2)]) ht
        refine ⟨acc, st _ _ eD, Nat.lt_of_lt_of_le (show acc.length < 11 by omega) (by decide), same_upd (sy.trans st) hD2, acc ++ [.ref t], upd_same, FzAll.mv (tups_lst (st _ _ eD)) ?_⟩
        rw [take_next (x := (j.1, GD.exch j.2)) (by rw [List.getElem?_map, hj']; rfl), List.map_append]
        exact (fz.same st).snoc (.tup upd_same (.cons (.str _) (.cons (.str _) .nil)))
      · rintro H24 ⟨s24, hD24⟩
        rw [lxj, List.take_of_length_le (by rw [List.length_map]; exact Nat.le_refl _)] at hD24
        have o24 := o23.same s24
        have okx := ok.exch
        have hf24 := hf.keep df o24.kp (hp.tups o24.kp)
        refine ⟨_, rfl, .inl ⟨rfl, _, SqL.of o24.r⟩, ?_⟩
        intro c2 hc2
        have sc2 := same_new (o := .dK [(.inr "jobs", .ref D2), (.inr "facts", .ref lf)]) hc2
        refine ⟨_, rfl, _, rfl, upd_same, [(.inr "jobs", .ref D2), (.inr "facts", .ref lf)], rfl, (by show 2 ≤ 15; decide), ?_⟩
        rw [upd_upd]
        refine ⟨c2, js.map fun j => (j.1, GD.exch j.2), fs, (js.map fun j => (j.1, GD.exch j.2)).length, 40, rfl, ⟨[(.inr "jobs", .ref D2), (.inr "facts", .ref lf)], D2, lf, upd_same, rfl, rfl, hD24.same sc2, hf24.same sc2⟩, okx.lines, fun H25 s25' => ?_⟩
        have o25 := o24.same (sc2.trans s25')
        refine ⟨R, _, _, rfl, rfl, o25.r, Nat.lt_of_lt_of_le (show (ts4.map V.str).length < 10 by rw [List.length_map]; omega) (by decide), ?_⟩
        have o26 := o25.put hLR nR0 dR okx.t
        generalize upd H25 R (.lst (ts4.map V.str ++ [.str (bT (js.map fun j => (j.1, GD.exch j.2)) fs)])) = H26 at o26 ⊢
        generalize hts5 : ts4 ++ [bT (js.map fun j => (j.1, GD.exch j.2)) fs] = ts5 at o26
        have lts5 : ts5.length = 7 := by rw [← hts5, List.length_append, lts4]; rfl
        have hf26 := hf.keep df o26.kp (hp.tups o26.kp)
        have hj26 := hj.keep dj o26.kp (hp.tups o26.kp)
        refine ⟨_, rfl, _, rfl, by decide, fun e1' ne1 => ?_⟩
        have se1 := same_new (o := .lst []) ne1
        refine ⟨.list (fs.map eF), .list [], (hf26.same se1).dp, .lst (SqL.of upd_same) .nil, shape_eFs fs, shape_nil, ?_⟩
        rw [eqv_list_nil]
        have o27 := o26.same se1
        have hf27 := hf26.same se1
        have hj27 := hj26.same se1
        generalize upd H26 e1' (.lst []) = H27 at o27 hf27 hj27 ⊢
        cases hfs : fs.isEmpty with
        | true =>
          refine ⟨_, rfl, iteF ⟨by decide, fun e2' ne2 => ?_⟩⟩
          have o28 := o27.same (same_new (o := .lst []) ne2)
          refine ⟨R, e2', _, _, rfl, rfl, o28.r, upd_same, small_len (by rw [List.length_map, List.length_nil]; omega), fun pF npF => ?_⟩
          have o29 := o28.same (same_new (o := .lst (ts5.map V.str ++ [])) npF)
          exact q pF ts5 _ (keep_none o28.pot o28.kp npF) (o29.pot.le (by omega)) o29.kp (by rw [upd_same, List.append_nil]) o29.g (by omega)
        | false =>
          refine ⟨_, rfl, iteT ?_⟩
          intro c3 hc3
          obtain ⟨xg, eg, fg⟩ := id hf27
          have sc3 := same_new (o := .dK []) hc3
          refine ⟨_, rfl, _, rfl, _, rfl, ?_⟩
          refine (show tNoPart _ _ _ from ⟨lf, _, rfl, SqL.of (sc3 _ _ eg), fun pg npg => ?_⟩)
          rw [cut_one]
          have sg := same_new (o := .lst (xg.drop 1)) npg
          have hsub : LstAt (upd (upd H27 c3 (.dK [])) pg (.lst (xg.drop 1))) pg ((fs.drop 1).map eF) := ⟨_, upd_same, by rw [List.map_drop]; exact ((fg.drop 1).same sc3).same sg⟩
          have ec3 := sg _ _ (upd_same (H := H27) (a := c3) (o := .dK []))
          have s27 : Same H27 (upd (upd H27 c3 (.dK [])) pg (.lst (xg.drop 1))) := sc3.trans sg
          generalize upd (upd H27 c3 (.dK [])) pg (.lst (xg.drop 1)) = H28 at hsub ec3 s27 ⊢
          refine ⟨ec3, [(.inr "jobs", .ref lj), (.inr "facts", .ref pg)], rfl, (by show 2 ≤ 15; decide), ?_⟩
          have s28 : Same H27 (upd H28 c3 (.dK (mergeK [] [(.inr "jobs", .ref lj), (.inr "facts", .ref pg)]))) := same_upd s27 hc3
          have npc : pg ≠ c3 := fun z => by
            obtain ⟨_, e, _⟩ := hsub
            rw [z, ec3] at e
            cases e
          have lj28 := hj27.same s28
          have lp28 : LstAt (upd H28 c3 (.dK (mergeK [] [(.inr "jobs", .ref lj), (.inr "facts", .ref pg)]))) pg ((fs.drop 1).map eF) := by
            obtain ⟨y, e, f⟩ := hsub
            exact ⟨y, by rw [upd_ne npc]; exact e, f.mv (tups_dK ec3)⟩
          have okd := ok.sub (List.drop_sublist 1 fs)
          refine ⟨c3, js, fs.drop 1, js.length, 40, rfl, ⟨_, lj, pg, upd_same, rfl, rfl, lj28, lp28⟩, okd.lines, fun H29 s29 => ?_⟩
          have o29 := o27.same (s28.trans s29)
          refine ⟨(by show 1 ≤ sizeLine; decide), fun r1 nr1 => ?_⟩
          have sr := same_new (o := .lst [V.str (bT js (fs.drop 1))]) nr1
          have o30 := o29.same sr
          refine ⟨R, r1, _, _, rfl, rfl, o30.r, upd_same, small_len (by rw [List.length_map, List.length_singleton]; omega), fun pF npF => ?_⟩
          have o31 := o30.same (same_new (o := .lst (ts5.map V.str ++ [V.str (bT js (fs.drop 1))])) npF)
          refine q pF (ts5 ++ [bT js (fs.drop 1)]) _ (keep_none o30.pot o30.kp npF) (o31.pot.le (by omega)) o31.kp (by rw [upd_same, List.map_append]; rfl) (fun u hu => (List.mem_append.mp hu).elim (o27.g u) fun e => by rw [List.mem_singleton.mp e]; exact okd.t) (by rw [List.length_append, List.length_singleton]; omega)
end
end K04
namespace GD
open PySem PySem.Spec PyProof.Rows L2
def spLawBook (C : Addr) : Sp := fun vs H Q _ => ∃ (d : Addr) (js : List (Str × Str)) (fs : List Fact), vs = [.ref d] ∧ Lines H d js fs ∧ JsOk js fs ∧ ∀ b H', Same H H' → H b = none → BookAt C H' b (bT js fs) (js.map (·.1)) (mlOf js) fs → Q (.ref b) H'
def spRight : Sp := fun vs H Q _ => ∃ (a : Addr) (z : Int), vs = [.ref a] ∧ PotAt H a z ∧ z ≤ 3000 ∧ ∀ H', PotAt H' a (z + 2600) → Keep a H H' → Q (.bl true) H'
theorem BookAt.keep {a C : Addr} {H H' : Hp} {b : Addr} {x : Str} {names : List Str} {ml : List (Str × Str)} {fs : List Fact} {z : Int} (hp : PotAt H a z) (k : Keep a H H') (h : BookAt C H b x names ml fs) : BookAt C H' b x names ml fs := by
  obtain ⟨_, _, _, e, _⟩ := hp
  obtain ⟨dx, j, m, f, p, h1, h2, h3, h4, h5⟩ := h
  exact ⟨dx, j, m, f, p, k _ _ (ne_of h1 e (fun z => by cases z)) h1, k _ _ (ne_of h2 e (fun z => by cases z)) h2, k _ _ (ne_of h3 e (fun z => by cases z)) h3, h4.mv (k.tups e), h5.mv (k.tups e)⟩
def kinds7 : List String := ["str", "tuple", "list", "int", "bool", "NoneType", "dict"]
structure BookN (K : PySem.W.Frag) (C : Addr) : Prop where
  no : ∀ T ∈ kinds7, PySem.W.kitOne K (.type T) (.ref C) = some false ∧ PySem.W.notFirst K C (.type T) = true
def VT (K : PySem.W.Frag) (H : Hp) (v : V) : Prop := ∃ T ∈ kinds7, TyX K H v (.type T)
theorem vt_sh {K : PySem.W.Frag} {M H : Hp} {v : V} {d : PyData} (h : Sh M v d) (s : ∀ b o, M b = some o → H b = some o) : VT K H v := by
  cases h with
  | non => exact ⟨"NoneType", by decide, .base .non⟩
  | bl b => exact ⟨"bool", by decide, .base (.bl b)⟩
  | int i => exact ⟨"int", by decide, .base (.int i)⟩
  | str x => exact ⟨"str", by decide, .base (.str x)⟩
  | lst e _ _ => exact ⟨"list", by decide, .base (.lst (s _ _ e))⟩
  | tup e _ => exact ⟨"tuple", by decide, .base (.tup (s _ _ e))⟩
  | dct e _ _ => exact ⟨"dict", by decide, .base (.dK (s _ _ e))⟩
theorem vt_tup {K : PySem.W.Frag} {H : Hp} {a : Addr} {xs : List V} (e : H a = some (.tup xs)) : VT K H (.ref a) := ⟨"tuple", by decide, .base (.tup e)⟩
theorem FzAll.last {H : Hp} : ∀ {xs : List V} {ds : List PyData} {d : PyData}, FzAll H xs (ds ++ [d]) → ∃ ys v, xs = ys ++ [v] ∧ Fz H v d
  | _, [], _, h => by
    cases h with
    | cons a t =>
      cases t
      exact ⟨[], _, rfl, a⟩
  | _, _ :: _, _, h => by
    cases h with
    | cons a t =>
      obtain ⟨ys, v, e, f⟩ := FzAll.last t
      exact ⟨_ :: ys, v, by rw [e]; rfl, f⟩
theorem bN_longer {names : List Str} {ml : List (Str × Str)} {fs : List Fact} {f : Fact} (h : GoodB names ml fs) (h2 : GoodB names ml (fs ++ [f])) : ¬ bN names ml (fs ++ [f]) = bN names ml fs := fun e => by
  have z := congrArg List.length (bN_inj h2 h e)
  rw [lN_len, lN_len, List.length_append, List.length_singleton] at z
  omega
theorem erase_last (fs : List Fact) (f : Fact) : (fs ++ [f]).eraseIdx fs.length = fs := by
  rw [List.eraseIdx_append_of_length_le (Nat.le_refl _), Nat.sub_self]
  exact List.append_nil fs
end GD
namespace K04
open PySem PySem.Spec PyProof.Rows L2 GD
section
variable {P : Program} {w : World} {K : PySem.W.Frag} {mg : Str → Option Value} {base : Heap}
theorem made_book2 {C : Addr} {names : List Str} {ml : List (Str × Str)} {fs : List Fact} {H : Hp} {R : Addr → Hp → Prop} (g : GoodB names ml fs) (q : ∀ b H', Same H H' → H b = none → BookAt C H' b (bN names ml fs) names ml fs → R b H') (x dx : Addr) (nx : H x = none) (ndx : H dx = none) (ne : dx ≠ x) :
    spInitB C (V.ref x :: ([.str (bN names ml fs)] ++ [])) (upd (upd H dx (.own x)) x (.ins C dx [])) (fun v H2 => v = .non ∧ R x H2) E0 :=
  ⟨x, dx, _, names, ml, fs, rfl, upd_same, good_text g, fun H' k b => ⟨rfl, q x H' (made_same nx ndx k) nx b⟩⟩
theorem scLB : FnScope ["_law_lore_here"] ["_law_lore_here"] (defScope sBook) := ⟨rfl, rfl, rfl, by decide +kernel, rfl, by decide +kernel, by decide +kernel⟩
theorem ok_lawbook {f C fI fU : Addr} {fd fdI fdU : FuncData} (F : Fun K "_law_book" "_law_book" sBook f fd) (MK : Maker P w K mg base C fI fdI) (gU : mg "_law_text" = some (.ref fU)) (bU : Binds K fdU ["_law_lore_here"] []) (kU : PySem.W.keepIn K (.ref fU) = true)
    (GU : FnOk P w K mg base CX0 4 fU fdU ["_law_lore_here"] spTextB) : FnOk P w K mg base CX0 8 f fd ["_law_lore_here"] (spLawBook C) := by
  refine F.ok scLB (fun vs H Q E h => ?_) (fun cdv A outer s H vs Q E hr h => ?_)
  · obtain ⟨d, js, fs, rfl, _⟩ := h
    rfl
  · obtain ⟨d, js, fs, rfl, hL, ok, q⟩ := h
    have hr4 : Room 4 _ := hr.mono (by decide)
    refine ⟨_, pss_one (ps_ret (pe_make MK.M MK.G hr (by rfl) MK.B.mgC MK.b .nil pass0 (pa_cons (pe_call GU hr4 (by rfl) gU kU bU .nil pass0 (pa_cons (pv 0) pa_nil)) pa_nil))), ?_⟩
    refine ⟨_, rfl, d, js, fs, js.length, 40, rfl, hL, ok.lines, fun H1 s1 => ?_⟩
    intro x dx nx ndx ne
    exact made_book ok.good (fun b H' s' n' hb => q b H' (s1.trans s') (s1.free n') hb) x dx nx ndx ne
abbrev NRi : List Str := ["_law_pot_here", "_law_lore_here", "_law_book_here", "_law_text_here", "_law_other", "_law_value", "_law_fresh", "_law_later"]
theorem scRi : FnScope NRi ["_law_pot_here"] (defScope sRight) := ⟨rfl, rfl, rfl, by decide +kernel, rfl, by decide +kernel, by decide +kernel⟩
theorem ok_right {f C fI fE fTo fUn fLo fAn fLB fU fOt fOd fSt : Addr} {fd fdI fdE fdTo fdUn fdLo fdAn fdLB fdU fdOt fdOd fdSt : FuncData} (F : Fun K "_law_right" "_law_right" sRight f fd) (MK : Maker P w K mg base C fI fdI) (BT : BookT K C) (BN : BookN K C) (O : OwnEq1 K C fE) (nL : mg "len" = none)
    (bE : Binds K fdE ["self", "other"] []) (GE : FnOk P w K mg base CX0 1 fE fdE ["self", "other"] (spEqB K C))
    (mT : Meth K C "told" fTo) (bTo : Binds K fdTo ["self", "fact"] []) (GT : FnOk P w K mg base CX0 10 fTo fdTo ["self", "fact"] (spTold C))
    (mU : Meth K C "untold" fUn) (bUn : Binds K fdUn ["self", "number"] []) (GU' : FnOk P w K mg base CX0 9 fUn fdUn ["self", "number"] (spUntold C))
    (ALo : mg "_law_lore" = some (.ref fLo)) (bLo : Binds K fdLo ["_law_pot_here", "_law_most", "_law_manners", "_law_sizes"] []) (kLo : PySem.W.keepIn K (.ref fLo) = true) (GLo : FnOk P w K mg base CX0 5 fLo fdLo ["_law_pot_here", "_law_most", "_law_manners", "_law_sizes"] spLore)
    (AAn : mg "_law_any_manners" = some (.ref fAn)) (bAn : Binds K fdAn [] []) (kAn : PySem.W.keepIn K (.ref fAn) = true) (GAn : FnOk P w K mg base CX0 1 fAn fdAn [] spAny)
    (ALB : mg "_law_book" = some (.ref fLB)) (bLB : Binds K fdLB ["_law_lore_here"] []) (kLB : PySem.W.keepIn K (.ref fLB) = true) (GLB : FnOk P w K mg base CX0 8 fLB fdLB ["_law_lore_here"] (spLawBook C))
    (AU : mg "_law_text" = some (.ref fU)) (bU : Binds K fdU ["_law_lore_here"] []) (kU : PySem.W.keepIn K (.ref fU) = true) (GU : FnOk P w K mg base CX0 4 fU fdU ["_law_lore_here"] spTextB)
    (AOt : mg "_law_others" = some (.ref fOt)) (bOt : Binds K fdOt ["_law_pot_here", "_law_lore_here"] []) (kOt : PySem.W.keepIn K (.ref fOt) = true) (GOt : FnOk P w K mg base CX0 5 fOt fdOt ["_law_pot_here", "_law_lore_here"] spOthers)
    (AOd : mg "_law_odd" = some (.ref fOd)) (bOd : Binds K fdOd ["_law_pot_here"] []) (kOd : PySem.W.keepIn K (.ref fOd) = true) (GOd : FnOk P w K mg base CX0 3 fOd fdOd ["_law_pot_here"] spOdd)
    (ASt : mg "_law_standing" = some (.ref fSt)) (bSt : Binds K fdSt ["_law_pot_here", "_law_jobs_here", "_law_far"] []) (kSt : PySem.W.keepIn K (.ref fSt) = true) (GSt : FnOk P w K mg base CX0 2 fSt fdSt ["_law_pot_here", "_law_jobs_here", "_law_far"] spStanding) :
    FnOk P w K mg base CX0 11 f fd ["_law_pot_here"] spRight := by
  refine F.ok scRi (fun vs H Q E h => ?_) (fun cdv A outer s H vs Q E hr h => ?_)
  · obtain ⟨a, z, rfl, _⟩ := h
    rfl
  · obtain ⟨a, z, rfl, hp, hz, q⟩ := h
    have hr1 : Room 1 _ := hr.mono (by decide)
    have hr2 : Room 2 _ := hr.mono (by decide)
    have hr3 : Room 3 _ := hr.mono (by decide)
    have hr4 : Room 4 _ := hr.mono (by decide)
    have hr5 : Room 5 _ := hr.mono (by decide)
    have hr7 : Room 7 _ := hr.mono (by decide)
    have hr8 : Room 8 _ := hr.mono (by decide)
    have hr9 : Room 9 _ := hr.mono (by decide)
    refine ⟨_, pss_cons (ps_set (i := 1) scRi.nd rfl (.inl rfl) (pe_call GLo hr5 (by rfl) ALo kLo bLo .nil pass0 (pa_cons (pv 0) (pa_cons pe_int (pa_cons (pe_call0 GAn hr1 (by rfl) AAn kAn bAn .nil pass0) (pa_cons (pe_tup (pa_cons pe_int (pa_cons pe_int (pa_cons pe_int (pa_cons pe_int (pa_cons pe_int (pa_cons pe_int pa_nil))))))) pa_nil))))))
      (pss_cons (ps_par (i := 2) (j := 3) rfl scRi.nd rfl rfl (by decide) rfl rfl (pa_cons (pe_call GLB hr8 (by rfl) ALB kLB bLB .nil pass0 (pa_cons (pv 1) pa_nil)) (pa_cons (pe_call GU hr4 (by rfl) AU kU bU .nil pass0 (pa_cons (pv 1) pa_nil)) pa_nil)) (by rfl))
      (pss_cons (ps_for PassesOwn.never rfl (pi_list (pe_call GOt hr5 (by rfl) AOt kOt bOt .nil pass0 (pa_cons (pv 0) (pa_cons (pv 1) pa_nil)))) (pg_name (i := 4) scRi.nd rfl (.inl rfl))
        (pss_one (ps_if (pw_or (pt_cmpR op_ne (pe_cmpR (op_eqC GE hr1 bE pass0 O) (pv 2) (pe_make MK.M MK.G hr7 (by rfl) MK.B.mgC MK.b .nil pass0 (pa_cons (pv 4) pa_nil)) (nomark _)) (pe_cmpR op_eq (pv 3) (pv 4) (nomark _)) (nomark _))
            (pw_or1 (pt_cmpR op_ne (pe_cmpR (op_neC GE hr2 bE pass0 O) (pe_make MK.M MK.G hr7 (by rfl) MK.B.mgC MK.b .nil pass0 (pa_cons (pv 4) pa_nil)) (pv 2) (nomark _)) (pe_cmpR op_ne (pv 3) (pv 4) (nomark _)) (nomark _)))).pt (pss_one (ps_ret pe_bl)) pss_nil)))
      (pss_cons (ps_for PassesOwn.never rfl (pi_tup (pe_tup (pa_cons (pv 3) (pa_cons (pe_fld (pv 2) rfl) (pa_cons (pe_fld (pv 2) rfl) (pa_cons pe_non (pa_cons pe_int (pa_cons (pe_call GOd hr3 (by rfl) AOd kOd bOd .nil pass0 (pa_cons (pv 0) pa_nil)) pa_nil)))))))) (pg_name (i := 5) scRi.nd rfl (.inl rfl))
        (pss_one (ps_if (pw_or (pt_cmpR (op_eqC GE hr1 bE pass0 O) (pv 2) (pv 5) (nomark _)) (pw_or1 (pt_not (pt_cmpR (op_neC GE hr2 bE pass0 O) (pv 2) (pv 5) (nomark _))))).pt (pss_one (ps_ret pe_bl)) pss_nil)))
      (pss_cons (ps_set (i := 6) scRi.nd rfl (.inl rfl) (pe_tup (pa_cons pe_str (pa_cons (pe_call GSt hr2 (by rfl) ASt kSt bSt .nil pass0 (pa_cons (pv 0) (pa_cons (pe_dget (u1 hr) (pv 1) pe_str (fun _ _ => rfl)) (pa_cons pe_int pa_nil)))) pa_nil))))
      (pss_cons (ps_set (i := 7) scRi.nd rfl (.inl rfl) (pe_meth (pv 2) MK.B.cl mT GT hr bTo .nil pass0 (pa_cons (pv 6) pa_nil)))
      (pss_cons (ps_if (pt_cmpR (op_inD (u65 hr)) (pv 6) (pe_dget (u1 hr) (pv 1) pe_str (fun _ _ => rfl)) (by rfl)) (pss_one (ps_ret (pe_cmpR (op_eqC GE hr1 bE pass0 O) (pv 7) (pv 2) (nomark _)))) pss_nil)
      (pss_cons (ps_if (pw_or (pt_cmpR (op_eqC GE hr1 bE pass0 O) (pv 7) (pv 2) (nomark _)) (pw_or (pt_cmpR (op_neC GE hr2 bE pass0 O) (pv 7) (pe_make MK.M MK.G hr7 (by rfl) MK.B.mgC MK.b .nil pass0 (pa_cons (pe_fld (pv 7) rfl) pa_nil)) (nomark _))
            (pw_or1 (pt_cmpR (op_neC GE hr2 bE pass0 O) (pe_meth (pv 7) MK.B.cl mU GU' hr9 bUn .nil pass0 (pa_cons (pe_callB call_len_seq (by rfl) nL PySem.boot_len (pa_cons (pe_dget (u1 hr) (pv 1) pe_str (fun _ _ => rfl)) pa_nil)) pa_nil)) (pv 2) (nomark _))))).pt (pss_one (ps_ret pe_bl)) pss_nil)
      (pss_one (ps_ret (pe_and (pe_cmpR (op_eqC GE hr1 bE pass0 O) (pe_make MK.M MK.G hr7 (by rfl) MK.B.mgC MK.b .nil pass0 (pa_cons (pv 3) pa_nil)) (pv 2) (nomark _))
          (pe_one (pe_cmpR (op_eqD hr.units) (pe_ix ix_tup (pe_fld (pe_make MK.M MK.G hr7 (by rfl) MK.B.mgC MK.b .nil pass0 (pa_cons (pe_fld (pv 7) rfl) pa_nil)) rfl) (pe_un un_neg pe_int) (fun _ _ => rfl)) (pv 6) (nomark _))))))))))))), ?_⟩
    have nf : PySem.W.notFirst K C (.ref C) = true := by simp [PySem.W.notFirst]
    refine ⟨_, rfl, rfl, fun lm nlm => ?_⟩
    have sm := same_new (o := .lst (man6.map V.str)) nlm
    have em : (upd H lm (.lst (man6.map V.str))) lm = some (.lst (man6.map V.str)) := upd_same
    generalize upd H lm (.lst (man6.map V.str)) = H1 at sm em ⊢
    refine ⟨(by show 6 ≤ sizeLine; decide), fun sz nsz => ?_⟩
    have ss := same_new (o := .tup [.int ((2 : Nat) : Int), .int ((2 : Nat) : Int), .int ((6 : Nat) : Int), .int ((20 : Nat) : Int), .int ((5 : Nat) : Int), .int ((3 : Nat) : Int)]) nsz
    have s01 := sm.trans ss
    refine ⟨a, lm, sz, 4, man6, z, 2, 2, 6, 20, 5, 3, rfl, hp.same s01, by omega, by decide, by decide, hp.ne nlm, ss _ _ em, (fun z => by cases z), by decide, upd_same, by decide, by decide, by decide, by decide, by decide, by decide, by decide, fun d lj lf ls js fs sts H2 nd nlj nlf nls p2 k2 lore lok => ?_⟩
    have pk := hp.same s01
    have K2 : Keep a H H2 := (sKeep s01).trans k2
    have dj : lj ≠ a := pk.ne nlj
    have df : lf ≠ a := pk.ne nlf
    have ok := lok.js (by decide) (by decide) (by decide) (by decide)
    have hpool : ∀ j ∈ js, j.1 ∈ pool21 := fun j hj => (lok.1.2.2.2 j hj).1
    obtain ⟨ed, hj, hf, hst⟩ := lore
    have hLines : Lines H2 d js fs := ⟨_, lj, lf, ed, rfl, rfl, hj, hf⟩
    refine ⟨_, rfl, d, js, fs, rfl, hLines, ok, fun b H3 s3 nb hb => ?_⟩
    refine ⟨_, rfl, d, js, fs, js.length, 40, rfl, hLines.same s3, ok.lines, fun H4 s4 => ?_⟩
    refine ⟨_, _, rfl, ?_⟩
    have hb4 := hb.same s4
    have s34 := s3.trans s4
    refine ⟨_, rfl, _, rfl, a, d, lj, lf, _, js, fs, z + 2500, rfl, p2.same s34, by omega, s34 _ _ ed, rfl, rfl, hj.same s34, hf.same s34, dj, df, ok, hpool, fun p ts H5 np p5 k5 ep gt lt => ?_⟩
    have k05 : Keep a H2 H5 := (sKeep s34).trans k5
    have hb5 := hb4.keep (p2.same s34) k5
    have K5 : Keep a H H5 := K2.trans k05
    refine ⟨p, rfl, ⟨_, SqL.of ep⟩, for_list (K := K) (a := p) (xs := ts.map V.str) (fun i σ H' => ∃ x4 : Option V, σ = [some (.ref a), some (.ref d), some (.ref b), some (.str (bT js fs)), x4, none, none, none] ∧ Same H5 H') ⟨none, rfl, Same.refl _⟩ (fun i σ H' _ ⟨_, _, s⟩ => SqL.of (s _ _ ep)) ?_ ?_⟩
    · rintro i v σ H6 hx ⟨x4, rfl, s6⟩
      rw [List.getElem?_map] at hx
      cases c : ts[i]? with
      | none =>
        rw [c] at hx
        cases hx
      | some t =>
        rw [c] at hx
        obtain rfl : V.str t = v := Option.some.inj hx
        obtain ⟨n', m', f', rfl, g'⟩ := gt t (List.mem_of_getElem? c)
        have hb6 := hb5.same s6
        have e1 : ∀ x y : Str, decide (V.str x = V.str y) = decide (x = y) := fun x y => decide_eq_decide.mpr ⟨fun e => V.str.inj e, fun e => by rw [e]⟩
        refine ⟨_, rfl, _, rfl, ?_⟩
        intro x dx nx ndx ne
        refine ⟨x, dx, _, n', m', f', rfl, upd_same, good_text g', fun H7 k7 hb' => ⟨rfl, ?_⟩⟩
        have s7 := made_same nx ndx k7
        generalize x = b' at *
        have hb7 := hb6.same s7
        obtain ⟨dxb, _, _, _, _, eb, _⟩ := id hb7
        obtain ⟨dxb', _, _, _, _, eb', _⟩ := id hb'
        refine ⟨b, dxb, _, _, rfl, eb, BT.ty eb', nf, b, _, .ref b', rfl, hb7.text, .inl ⟨b', _, rfl, hb'.text, _, rfl, ?_⟩⟩
        refine ⟨_, rfl, _, rfl, rfl, rfl, _, rfl, ?_⟩
        rw [e1, if_neg Bool.false_ne_true, show (!decide (V.bl (decide (bT js fs = bN n' m' f')) = V.bl (decide (bT js fs = bN n' m' f')))) = false by simp]
        refine iteF ?_
        refine ⟨_, rfl, ?_⟩
        intro x dx nx ndx ne
        refine ⟨x, dx, _, n', m', f', rfl, upd_same, good_text g', fun H8 k8 hb2 => ⟨rfl, ?_⟩⟩
        have s8 := made_same nx ndx k8
        generalize x = b2 at *
        have hb8 := hb7.same s8
        obtain ⟨dx8, _, _, _, _, eb8, _⟩ := id hb8
        obtain ⟨dx2, _, _, _, _, eb2, _⟩ := id hb2
        refine ⟨_, rfl, b2, dx2, _, _, rfl, eb2, BT.ty eb8, nf, b2, _, .ref b, rfl, hb2.text, .inl ⟨b, _, rfl, hb8.text, _, rfl, ?_⟩⟩
        refine ⟨_, rfl, _, rfl, rfl, rfl, _, rfl, ?_⟩
        rw [e1, if_pos rfl, show decide (bN n' m' f' = bT js fs) = decide (bT js fs = bN n' m' f') from decide_eq_decide.mpr ⟨fun e => e.symm, fun e => e.symm⟩, show (!decide (V.bl (!decide (bT js fs = bN n' m' f')) = V.bl (!decide (bT js fs = bN n' m' f')))) = false by simp]
        refine iteF ?_
        exact ⟨_, rfl, (s6.trans s7).trans s8⟩
    · rintro σ H6 ⟨x4, rfl, s6⟩
      have hb6 := hb5.same s6
      have p6 := p5.same s6
      obtain ⟨dxb, jb, mb, fb, ab, eb, ejb, emb, ffb, fab⟩ := id hb6
      obtain ⟨ab', axb, eab, hab, faxb⟩ := fab.t
      obtain rfl := V.ref.inj eab
      refine ⟨_, rfl, _, rfl, b, C, dxb, _, _, rfl, eb, MK.B.cl, MK.B.nA, b5_facts _ _ _ _ _, _, rfl, b, C, dxb, _, _, rfl, eb, MK.B.cl, MK.B.nJ, b5_jobs _ _ _ _ _, _, rfl, a, z + 2500 + 40, rfl, (p6.le (by omega)), by omega, fun ov od H7 hod p7 k7 sh => ?_⟩
      refine ⟨(by show 6 ≤ sizeLine; decide), fun tp ntp => ?_⟩
      have st := same_new (o := .tup [.str (bT js fs), .ref ab, .ref jb, .non, .int 0, ov]) ntp
      have etp : (upd H7 tp (.tup [.str (bT js fs), .ref ab, .ref jb, .non, .int 0, ov])) tp = some (.tup [.str (bT js fs), .ref ab, .ref jb, .non, .int 0, ov]) := upd_same
      have t6 := p6.tups k7
      have hV : ∀ v ∈ [V.str (bT js fs), .ref ab, .ref jb, .non, .int 0, ov], ∀ H', Same (upd H7 tp (.tup [.str (bT js fs), .ref ab, .ref jb, .non, .int 0, ov])) H' → VT K H' v := fun v hv H' s' => by
        have s7 := st.trans s'
        simp only [List.mem_cons, List.not_mem_nil, or_false] at hv
        rcases hv with rfl | rfl | rfl | rfl | rfl | rfl
        · exact ⟨"str", by decide, .base (.str _)⟩
        · exact vt_tup (s7 _ _ (t6 _ _ hab))
        · exact vt_tup (s7 _ _ (t6 _ _ ejb))
        · exact ⟨"NoneType", by decide, .base .non⟩
        · exact ⟨"int", by decide, .base (.int _)⟩
        · exact vt_sh sh fun b' o' e' => s7 _ _ (minus_some.mp e').2
      have hb7 := (hb6.keep p6 k7).same st
      have p8 := p7.same st
      have k8 : Keep a H5 (upd H7 tp (.tup [.str (bT js fs), .ref ab, .ref jb, .non, .int 0, ov])) := ((sKeep s6).trans k7).trans (sKeep st)
      generalize upd H7 tp (.tup [.str (bT js fs), .ref ab, .ref jb, .non, .int 0, ov]) = H8 at etp hV hb7 p8 k8 ⊢
      refine ⟨tp, rfl, ⟨_, SqT.of etp⟩, for_tup (K := K) (a := tp) (xs := [.str (bT js fs), .ref ab, .ref jb, .non, .int 0, ov]) (fun i σ H' => ∃ x4 x5 : Option V, σ = [some (.ref a), some (.ref d), some (.ref b), some (.str (bT js fs)), x4, x5, none, none] ∧ Same H8 H') ⟨_, none, rfl, Same.refl _⟩ (fun i σ H' _ ⟨_, _, _, s⟩ => SqT.of (s _ _ etp)) ?_ ?_⟩
      · rintro i v σ H9 hx ⟨x4', x5, rfl, s9⟩
        obtain ⟨T, hT, ty⟩ := hV v (List.mem_of_getElem? hx) H9 s9
        obtain ⟨n1, n2⟩ := BN.no T hT
        have hb9 := hb7.same s9
        obtain ⟨dx9, _, _, _, _, eb9, _⟩ := id hb9
        refine ⟨_, rfl, _, rfl, b, dx9, _, _, rfl, eb9, ty, n2, b, _, v, rfl, hb9.text, .inr ⟨_, ty, n1, _, rfl, _, rfl, ?_⟩⟩
        refine iteF ?_
        refine ⟨_, rfl, _, rfl, b, dx9, _, _, rfl, eb9, ty, n2, b, _, v, rfl, hb9.text, .inr ⟨_, ty, n1, _, rfl, _, rfl, ?_⟩⟩
        refine iteF ?_
        exact ⟨_, _, rfl, s9⟩
      · rintro σ H9 ⟨x4', x5, rfl, s9⟩
        have hb9 := hb7.same s9
        have p9 := p8.same s9
        have K29 : Keep a H2 H9 := k05.trans (k8.trans (sKeep s9))
        have t29 := p2.tups K29
        have dd : d ≠ a := pk.ne nd
        have ed9 := K29 _ _ dd ed
        have dgj : ∀ {H' : Hp}, H' d = some (.dK [(.inr "jobs", .ref lj), (.inr "facts", .ref lf), (.inr "stocks", .ref ls)]) → DGet H' d (.str "jobs") (some (.ref lj)) := fun e => DGet.k (k := .inr "jobs") e
        have dgf : ∀ {H' : Hp}, H' d = some (.dK [(.inr "jobs", .ref lj), (.inr "facts", .ref lf), (.inr "stocks", .ref ls)]) → DGet H' d (.str "facts") (some (.ref lf)) := fun e => DGet.k (k := .inr "facts") e
        refine ⟨_, rfl, _, rfl, d, _, rfl, dgj ed9, a, lj, 40, js, z + 2541, rfl, p9.le (by omega), by omega, dj, hj.keep dj K29 t29, by have := ok.lines.jl; omega, by decide, fun sv sn H10 p10 k10 fsv lsn bsn => ?_⟩
        refine ⟨(by show 2 ≤ sizeLine; decide), fun tf ntf => ?_⟩
        have sf := same_new (o := .tup [.str "let", sv]) ntf
        have ff : Fz (upd H10 tf (.tup [.str "let", sv])) (.ref tf) (eF (.let_ sn)) := .tup upd_same (.cons (.str _) (.cons (fsv.same sf) .nil))
        have hb10 := (hb9.keep p9 k10).same sf
        have ed10 := sf _ _ (k10 _ _ dd ed9)
        have p11 := p10.same sf
        have K10 : Keep a H2 (upd H10 tf (.tup [.str "let", sv])) := K29.trans (k10.trans (sKeep sf))
        generalize upd H10 tf (.tup [.str "let", sv]) = H11 at ff hb10 ed10 p11 K10 ⊢
        have hf11 := hf.keep df K10 (p2.tups K10)
        have KF : ∀ {H' : Hp}, Same H11 H' → PotAt H' a (z + 2600) ∧ Keep a H H' := fun s => ⟨(p11.same s).le (by omega), (K2.trans K10).trans (sKeep s)⟩
        obtain ⟨dxb0, _, _, _, _, eb0, _⟩ := id hb10
        have hfb : FactB (js.map (·.1)).length 40 (.let_ sn) := ⟨by rw [List.length_map]; exact lsn, fun p hp' => by have := bsn p hp'; omega⟩
        have good := ok.good
        refine ⟨_, rfl, b, dxb0, _, rfl, eb0, b5_no (by decide +kernel) (by decide +kernel) (by decide +kernel) (by decide +kernel) (by decide +kernel), _, rfl, b, _, js.map (fun j : Str × Str => j.1), mlOf js, fs, .let_ sn, rfl, hb10, good, ff, hfb, fun hin H12 s12 => ?_, fun hni => ⟨?_, fun b' H12 s12 nb' hb' => ?_⟩⟩
        · have hb12 := hb10.same s12
          obtain ⟨dx12, _, _, _, _, eb12, _⟩ := id hb12
          refine ⟨_, rfl, _, rfl, d, _, rfl, dgf (s12 _ _ ed10), eF (.let_ sn), fs.map eF, (ff.same s12).dp, (hf11.same s12).dp, shape_eF _, shape_eFs fs, _, rfl, ?_⟩
          rw [any_in.mpr hin]
          refine iteT ?_
          refine ⟨_, rfl, _, rfl, b, dx12, _, _, rfl, eb12, BT.ty eb12, nf, b, _, .ref b, rfl, hb12.text, .inl ⟨b, _, rfl, hb12.text, _, rfl, ?_⟩⟩
          rw [if_neg Bool.false_ne_true, decide_eq_true rfl]
          exact q H12 (KF s12).1 (KF s12).2
        · have c1 := lok.2.2.2.2.1
          show GD.cnt "let" fs < lim "let"
          rw [show lim "let" = 24 from rfl]
          omega
        · have hb12 := hb10.same s12
          obtain ⟨dx12, _, _, _, _, eb12, _⟩ := id hb12
          obtain ⟨dxl, _, _, _, _, ebl, _⟩ := id hb'
          have g2 : GoodB (js.map (·.1)) (mlOf js) (fs ++ [.let_ sn]) := good.snoc hfb hni (by have c1 := lok.2.2.2.2.1; show GD.cnt "let" fs < lim "let"; rw [show lim "let" = 24 from rfl]; omega)
          refine ⟨_, rfl, _, rfl, d, _, rfl, dgf (s12 _ _ ed10), eF (.let_ sn), fs.map eF, (ff.same s12).dp, (hf11.same s12).dp, shape_eF _, shape_eFs fs, _, rfl, ?_⟩
          rw [Bool.eq_false_iff.mpr (fun z => hni (any_in.mp z))]
          refine iteF ?_
          refine ⟨_, rfl, _, rfl, b', dxl, _, _, rfl, ebl, BT.ty eb12, nf, b', _, .ref b, rfl, hb'.text, .inl ⟨b, _, rfl, hb12.text, _, rfl, _, rfl, ?_⟩⟩
          rw [if_neg Bool.false_ne_true, show decide (bN (js.map fun j : Str × Str => j.1) (mlOf js) (fs ++ [.let_ sn]) = bT js fs) = false from decide_eq_false (bN_longer good g2)]
          refine iteF ?_
          refine ⟨_, rfl, _, rfl, b', C, dxl, _, _, rfl, ebl, MK.B.cl, MK.B.nT, b5_text _ _ _ _ _, ?_⟩
          intro x dx nx ndx ne
          refine ⟨x, dx, _, _, _, _, rfl, upd_same, good_text g2, fun H13 k13 hb3 => ⟨rfl, ?_⟩⟩
          have s13 := made_same nx ndx k13
          generalize x = b3 at *
          have hl13 := hb'.same s13
          have hb13 := hb12.same s13
          obtain ⟨dx3, _, _, _, _, eb3, _⟩ := id hb3
          obtain ⟨dxl3, _, _, _, _, ebl3, _⟩ := id hl13
          refine ⟨b', dxl3, _, _, rfl, ebl3, BT.ty eb3, nf, b', _, .ref b3, rfl, hl13.text, .inl ⟨b3, _, rfl, hb3.text, _, rfl, _, rfl, ?_⟩⟩
          rw [if_pos rfl, decide_eq_true rfl]
          refine iteF ?_
          have s1113 := s12.trans s13
          obtain ⟨xf, ef, ffz⟩ := hf11.same s1113
          have lxf : xf.length = fs.length := by rw [ffz.len, List.length_map]
          refine ⟨_, rfl, b', dxl3, _, rfl, ebl3, b5_no (by decide +kernel) (by decide +kernel) (by decide +kernel) (by decide +kernel) (by decide +kernel), _, rfl, d, _, rfl, dgf (s1113 _ _ ed10), lf, _, rfl, .inl (SqL.of ef), b', xf.length, _, _, _, rfl, hl13, g2, by rw [lxf, List.length_append, List.length_singleton]; omega, fun b4 H14 s14 n14 hb4 => ?_⟩
          rw [lxf, erase_last] at hb4
          have hb14 := hb13.same s14
          obtain ⟨dx4, _, _, _, _, eb4, _⟩ := id hb4
          obtain ⟨dx14, _, _, _, _, eb14, _⟩ := id hb14
          refine ⟨_, rfl, b4, dx4, _, _, rfl, eb4, BT.ty eb14, nf, b4, _, .ref b, rfl, hb4.text, .inl ⟨b, _, rfl, hb14.text, _, rfl, _, rfl, ?_⟩⟩
          rw [if_pos rfl, show decide (bN (js.map fun j : Str × Str => j.1) (mlOf js) fs = bT js fs) = true from decide_eq_true rfl]
          refine iteF ?_
          refine ⟨_, rfl, ?_⟩
          intro x dx nx ndx ne
          refine ⟨x, dx, _, _, _, _, rfl, upd_same, good_text good, fun H15 k15 hb5' => ⟨rfl, ?_⟩⟩
          have s15 := made_same nx ndx k15
          generalize x = b5' at *
          have hb15 := hb14.same s15
          obtain ⟨dx5, _, _, _, _, eb5, _⟩ := id hb5'
          obtain ⟨dx15, _, _, _, _, eb15, _⟩ := id hb15
          refine ⟨_, rfl, b5', dx5, _, _, rfl, eb5, BT.ty eb15, nf, b5', _, .ref b, rfl, hb5'.text, .inl ⟨b, _, rfl, hb15.text, _, rfl, _, rfl, ?_⟩⟩
          rw [if_neg Bool.false_ne_true, show decide (bT js fs = bT js fs) = true from decide_eq_true rfl]
          refine iteT ?_
          have hl15 := hl13.same (s14.trans s15)
          obtain ⟨dxl5, _, _, _, _, ebl5, _⟩ := id hl15
          refine ⟨_, rfl, b', C, dxl5, _, _, rfl, ebl5, MK.B.cl, MK.B.nT, b5_text _ _ _ _ _, ?_⟩
          intro x dx nx ndx ne
          refine ⟨x, dx, _, _, _, _, rfl, upd_same, good_text g2, fun H16 k16 hb6' => ⟨rfl, ?_⟩⟩
          have s16 := made_same nx ndx k16
          generalize x = b6' at *
          obtain ⟨dx6, j6, m6, f6, a6, eb6, _, _, _, fa6⟩ := id hb6'
          obtain ⟨a6', ax6, ea6, ha6, fax6⟩ := fa6.t
          obtain rfl := V.ref.inj ea6
          rw [List.map_append] at fax6
          obtain ⟨ys6, v6, rfl, fv6⟩ := FzAll.last fax6
          have s1116 := ((s1113.trans s14).trans s15).trans s16
          refine ⟨b6', C, dx6, _, _, rfl, eb6, MK.B.cl, MK.B.nA, b5_facts _ _ _ _ _, _, rfl, a6, _, _, v6, rfl, rfl, SqT.of ha6, atI_last _ _, _, rfl, eF (.let_ sn), eF (.let_ sn), fv6.dp, (ff.same s1116).dp, shape_eF _, shape_eF _, ?_⟩
          rw [eqv_self (shape_eF _)]
          exact q H16 (KF s1116).1 (KF s1116).2
end
end K04
namespace K04
open PySem PySem.Spec PyProof.Rows L2 GD
def spLaw (K : PySem.W.Frag) : Sp := fun vs H Q _ => ∃ (s : Addr) (ns : List Int), vs = [.ref s] ∧ SqL K H s (ns.map V.int) ∧ ∀ H', Q (.bl true) H'
section
variable {P : Program} {w : World} {K : PySem.W.Frag} {mg : Str → Option Value} {base : Heap}
abbrev NLw : List Str := ["_law_script", "_law_place", "_law_pot_here", "_law_lap"]
theorem scLw : FnScope NLw ["_law_script"] (defScope sLaw) := ⟨rfl, rfl, rfl, by decide +kernel, rfl, by decide +kernel, by decide +kernel⟩
theorem ok_law {f fR fP fC : Addr} {fd fdR fdP fdC : FuncData} (F : Fun K "law" "law" sLaw f fd) (S : Small1 K mg)
    (gR : mg "_law_right" = some (.ref fR)) (bR : Binds K fdR ["_law_pot_here"] []) (kR : PySem.W.keepIn K (.ref fR) = true) (GR : FnOk P w K mg base CX0 11 fR fdR ["_law_pot_here"] spRight)
    (AP : At K mg "_law_pot" sPot ["_law_script", "_law_place"] fP fdP) (AC : At K mg "_law_cells" sCells ["_law_script", "_law_most"] fC fdC) : FnOk P w K mg base CX0 12 f fd ["_law_script"] (spLaw K) := by
  have GP : FnOk P w K mg base CX0 1 fP fdP ["_law_script", "_law_place"] (spPot K) := ok_pot AP.F S.ta
  have GC : FnOk P w K mg base CX0 1 fC fdC ["_law_script", "_law_most"] (spCells K) := ok_cells AC.F S.ta
  refine F.ok scLw (fun vs H Q E h => ?_) (fun cdv A outer s H vs Q E hr h => ?_)
  · obtain ⟨a, ns, rfl, _⟩ := h
    rfl
  · obtain ⟨a, ns, rfl, hs, k⟩ := h
    have hr1 : Room 1 _ := hr.mono (by decide)
    refine ⟨_, pss_cons (ps_for PassesOwn.never rfl (pi_list (pe_call GC hr1 (by rfl) AC.g AC.F.kp AC.b .nil pass0 (pa_cons (pv 0) (pa_cons pe_int pa_nil)))) (pg_name (i := 1) scLw.nd rfl (.inl rfl))
        (pss_cons (ps_set (i := 2) scLw.nd rfl (.inr rfl) (pe_call GP hr1 (by rfl) AP.g AP.F.kp AP.b .nil pass0 (pa_cons (pv 0) (pa_cons (pv 1) pa_nil))))
        (pss_one (ps_if (pt_not (pt_val (pe_callB (cr_all rfl) (by rfl) S.all (by decide +kernel) (pa_cons (pe_lc (own := [("_law_lap", 3)]) (g := gName 3) (tt := tYes) rfl scLw.nd (pi_range1 (by rfl) S.ta.range (pa_cons pe_int pa_nil)) (blkOk_by (N := NLw) (sc := defScope sLaw) (by decide +kernel))
          (fun _ _ _ _ _ => pg_name (i := 3) scLw.nd rfl (.inl rfl)) (fun _ _ _ _ _ => pts_nil) (fun _ _ _ _ _ => pe_call GR hr (by rfl) gR kR bR .nil pass0 (pa_cons (pv 2) pa_nil))) pa_nil)))) (pss_one (ps_ret pe_bl)) pss_nil))))
      (pss_one (ps_ret pe_bl)), ?_⟩
    refine ⟨_, rfl, a, ns, 4, rfl, hs, by decide, by decide, fun p n hp h0 h4 => ?_⟩
    have sp := same_new (o := .lst (rgV 0 n)) hp
    have ep : (upd H p (.lst (rgV 0 n))) p = some (.lst (rgV 0 n)) := upd_same
    generalize upd H p (.lst (rgV 0 n)) = H1 at sp ep ⊢
    refine ⟨p, rfl, ⟨_, SqL.of ep⟩, for_list (K := K) (a := p) (xs := rgV 0 n) (fun i σ H' => ∃ x1 x2 : Option V, σ = [some (.ref a), x1, x2, none] ∧ Same H1 H') ⟨none, none, rfl, Same.refl _⟩ (fun i σ H' _ ⟨_, _, _, s⟩ => SqL.of (s _ _ ep)) ?_ ?_⟩
    · rintro i v σ H2 hi ⟨x1, x2, rfl, s2⟩
      have hlt := (List.getElem?_eq_some_iff.mp hi).1
      obtain ⟨pl, rfl, p0, p1⟩ : ∃ pl : Int, v = .int pl ∧ 0 ≤ pl ∧ pl ≤ 1000 := by
        have zl := rgV_length 0 n
        unfold rgV at hi
        rw [zl] at hlt
        rw [List.getElem?_map, List.getElem?_range (by omega)] at hi
        exact ⟨0 + (i : Nat), (Option.some.inj hi).symm, by omega, by omega⟩
      refine ⟨_, rfl, _, rfl, a, ns, pl, rfl, s2.seq (sp.seq hs), p0, p1, fun q H3 nq pq s3 => ?_⟩
      have nq2 : H2 q = none := nq
      refine ⟨2, rfl, by decide, by decide, fun D hD => ?_⟩
      have dDq : D ≠ q := pq.ne hD
      refine lc_range (lo := 0) (n := 2) (fun j H' => PotAt H' q (0 + 2600 * (j : Nat)) ∧ Same H2 H' ∧ H' D = some (.lst ((List.replicate j true).map V.bl))) ⟨(pq.upd_ne dDq).le (by omega), same_upd s3 (s3.free hD), upd_same⟩ ?_ ?_
      · rintro j H4 hj ⟨p4, s4, eD⟩
        refine ⟨rfl, _, rfl, q, _, rfl, p4, by omega, fun H5 p5 k5 => ?_⟩
        have eD5 := k5 _ _ dDq eD
        have D0 : H2 D = none := s3.free hD
        refine ⟨_, eD5, ?_, (p5.upd_ne dDq).le (by omega), fun c o e => ?_, ?_⟩
        · rw [List.length_map, List.length_replicate]
          exact Nat.lt_of_lt_of_le (show j < 10 by omega) (by decide)
        · have nc : c ≠ D := fun z => by
            rw [z, D0] at e
            cases e
          have ncq : c ≠ q := fun z => by
            rw [z, nq2] at e
            cases e
          rw [upd_ne nc]
          exact k5 _ _ ncq (s4 _ _ e)
        · rw [upd_same, List.replicate_succ', List.map_append]
          rfl
      · rintro H4 ⟨p4, s4, eD⟩
        refine ⟨D, _, rfl, SqL.of eD, ?_⟩
        refine ⟨_, rfl, iteF ?_⟩
        exact ⟨_, _, rfl, s2.trans s4⟩
    · rintro σ H2 ⟨x1, x2, rfl, s2⟩
      exact k H2
end
end K04
namespace K04
open PySem PySem.Spec PyProof.Rows L2 GD
def Df (K : PySem.W.Frag) (x : Str) (st : Stmt) : Prop := ∃ f oc od an osl kV doc pm cdv ct, PySem.W.nsIn K mainGlobals x = some (some (.ref f)) ∧
  K.lookup f = some ⟨oc, od, .func (PySem.W.fnOf x x (defArgs st) (defBody st) (defScope st) .none kV doc pm an cdv ct), osl⟩ ∧ PySem.W.codeIn K cdv x = true ∧ PySem.W.keepIn K (.ref f) = true
def Dm (K : PySem.W.Frag) (C : Addr) (x y : Str) (st : Stmt) : Prop := ∃ f oc od an osl kV doc pm cdv ct, PySem.W.findIn K (.ref C) x = some (some (.ref f)) ∧ PySem.W.isFn K (.ref f) = true ∧
  K.lookup f = some ⟨oc, od, .func (PySem.W.fnOf x y (defArgs st) (defBody st) (defScope st) .none kV doc pm an cdv ct), osl⟩ ∧ PySem.W.codeIn K cdv y = true ∧ PySem.W.keepIn K (.ref f) = true
theorem told_of {K : PySem.W.Frag} {w : World} {mg : Str → Option Value} {p : Addr} (g : mg "MOST_TOLD" = some (.ref p)) (h1 : KDct K w p "let" (.int 24)) (h2 : KDct K w p "not" (.int 6)) (h3 : KDct K w p "as" (.int 4)) : Told K w mg := ⟨p, g, fun x hx => by
  rcases hx with rfl | rfl | rfl
  · exact h1
  · exact h2
  · exact h3⟩
theorem fin_mk {P : Program} {w : World} {K : PySem.W.Frag} {h : Heap} {mg : Str → Option Value} {fa C : Addr} (X : K.In h) (G : h.Ns mainGlobals mg) (hfa : mg "law" = some (.ref fa)) (aC : PySem.W.nsIn K mainGlobals "Book" = some (some (.ref C)))
    (dT_pot : Df K "_law_pot" sPot)
    (dT_take : Df K "_law_take" sTake)
    (dT_of : Df K "_law_of" sOf)
    (dT_some : Df K "_law_some" sSome)
    (dT_cells : Df K "_law_cells" sCells)
    (dT_odd : Df K "_law_odd" sOdd)
    (dT_names : Df K "_law_names" sNames)
    (dT_jobs : Df K "_law_jobs" sJobs)
    (dT_any : Df K "_law_any_manners" sAnyManners)
    (dT_first : Df K "_law_first" sFirst)
    (dT_behind : Df K "_law_behind" sBehind)
    (dT_can : Df K "_law_can_come" sCanCome)
    (dT_events : Df K "_law_events" sEvents)
    (dT_standing : Df K "_law_standing" sStanding)
    (dT_change : Df K "_law_change" sChange)
    (dT_stock : Df K "_law_stock" sStock)
    (dT_level : Df K "_law_level" sLevel)
    (dT_lets : Df K "_law_lets" sLets)
    (dT_heard : Df K "_law_heard_facts" sHeardFacts)
    (dT_alike : Df K "_law_alike_facts" sAlikeFacts)
    (dT_few : Df K "_law_few" sFew)
    (dT_lore : Df K "_law_lore" sLore)
    (dT_stext : Df K "_law_standing_text" sStandingText)
    (dT_fline : Df K "_law_fact_line" sFactLine)
    (dT_lines : Df K "_law_lines" sLines)
    (dT_text : Df K "_law_text" sText)
    (dT_book : Df K "_law_book" sBook)
    (dT_others : Df K "_law_others" sOthers)
    (dT_right : Df K "_law_right" sRight)
    (dT_law : Df K "law" sLaw)
    (dP_isint : Df K "is_integer" pIsInt)
    (dP_isnumb : Df K "is_number" pIsNumb)
    (dP_isword : Df K "is_word" pIsWord)
    (dP_isname : Df K "is_name" pIsName)
    (dP_ispair : Df K "is_pair" pIsPair)
    (dP_isstn : Df K "is_standing" pIsStn)
    (dP_isfact : Df K "is_fact" pIsFact)
    (dP_isfull : Df K "is_full" pIsFull)
    (dP_grown : Df K "grown" pGrown)
    (dP_remade : Df K "remade" pRemade)
    (dP_fline : Df K "fact_line" pFactLine)
    (dP_ctext : Df K "counts_text" pCountsText)
    (dP_rdjobs : Df K "read_jobs" pReadJobs)
    (dP_rdman : Df K "read_manners" pReadManners)
    (dP_rdfacts : Df K "read_facts" pReadFacts)
    (dP_rdfact : Df K "read_fact" pReadFact)
    (dP_rdstn : Df K "read_standing" pReadStn)
    (dP_rdcount : Df K "read_count" pReadCount)
    (dP_isnumeral : Df K "is_numeral" pIsNumeral)
    (dM_init : Dm K C "__init__" "Book.__init__" pInit)
    (dM_told : Dm K C "told" "Book.told" pTold)
    (dM_untold : Dm K C "untold" "Book.untold" pUntold)
    (dM_eq : Dm K C "__eq__" "Book.__eq__" pEq)
    (n_len : PySem.W.nsIn K mainGlobals "len" = some none)
    (n_abs : PySem.W.nsIn K mainGlobals "abs" = some none)
    (n_int : PySem.W.nsIn K mainGlobals "int" = some none)
    (n_max : PySem.W.nsIn K mainGlobals "max" = some none)
    (n_min : PySem.W.nsIn K mainGlobals "min" = some none)
    (n_list : PySem.W.nsIn K mainGlobals "list" = some none)
    (n_range : PySem.W.nsIn K mainGlobals "range" = some none)
    (n_all : PySem.W.nsIn K mainGlobals "all" = some none)
    (n_tuple : PySem.W.nsIn K mainGlobals "tuple" = some none)
    (n_sum : PySem.W.nsIn K mainGlobals "sum" = some none)
    (n_zip : PySem.W.nsIn K mainGlobals "zip" = some none)
    (n_isinstance : PySem.W.nsIn K mainGlobals "isinstance" = some none)
    (n_bool : PySem.W.nsIn K mainGlobals "bool" = some none)
    (n_str : PySem.W.nsIn K mainGlobals "str" = some none)
    (n_set : PySem.W.nsIn K mainGlobals "set" = some none)
    (n_enumerate : PySem.W.nsIn K mainGlobals "enumerate" = some none)
    (c40 : ∃ u, PySem.W.nsIn K mainGlobals "MOST_COUNTED" = some (some u) ∧ RelV (.int 40) u)
    (c8 : ∃ u, PySem.W.nsIn K mainGlobals "LONGEST_NAME" = some (some u) ∧ RelV (.int 8) u)
    (c4 : ∃ u, PySem.W.nsIn K mainGlobals "MOST_JOBS" = some (some u) ∧ RelV (.int 4) u)
    (cm : ∃ u, PySem.W.nsIn K mainGlobals "NO_COUNT" = some (some u) ∧ RelV (.int (-1)) u)
    (cT : ∃ p, PySem.W.nsIn K mainGlobals "MOST_TOLD" = some (some (.ref p)) ∧ KDct K w p "let" (.int 24) ∧ KDct K w p "not" (.int 6) ∧ KDct K w p "as" (.int 4))
    (cL : ∃ p, PySem.W.nsIn K mainGlobals "LINED_MANNERS" = some (some (.ref p)) ∧ ∀ H, SqT K H p (lined3.map V.str))
    (cl : Cls K C) (nT : NoAttr K C "text") (nJ : NoAttr K C "jobs") (nM : NoAttr K C "manners") (nF : NoAttr K C "first") (nH : NoAttr K C "head") (nA : NoAttr K C "facts") (mk : PySem.W.makesIn K C = true) (kc : PySem.W.keepIn K (.ref C) = true)
    (bn : BookN K C) (bme : PySem.W.kitOne K (.ref C) (.ref C) = some true) (ha : PySem.W.findIn K (.ref C) "__class__" = some (some (.builtin "object.__class__"))) (hn : PySem.W.specialIn K (.builtin "object.__class__") "__get__" = some (some (.builtin "getset_descriptor.__get__")))
    (htk : PySem.W.takesIn K (.builtin "object.__class__") = some true) (hm : PySem.W.mroIn K C (.type "object") = some true) (ne : PySem.W.findIn K (.ref C) "__ne__" = some (some (.builtin "object.__ne__"))) :
    ∃ fd : FuncData, (∀ (s : Shared) (u : Value), BindsTo s fd ⟨[u], []⟩ [("_law_script", u)]) ∧ ∀ base : Heap, K.In base → base.Ns mainGlobals mg → FnOk P w K mg base CX0 12 fa fd ["_law_script"] (spLaw K) := by
  have Z : ∀ {x : Str}, PySem.W.nsIn K mainGlobals x = some none → mg x = none := fun e => PySem.W.mg_none_of X G e
  have O : ∀ {x : Str} {u : Value}, PySem.W.nsIn K mainGlobals x = some (some u) → mg x = some u := fun e => PySem.W.mg_of X G e
  obtain ⟨fT_pot, _, _, _, _, _, _, _, _, _, gT_pot, lT_pot, cT_pot, kT_pot⟩ := dT_pot
  have FT_pot := fun_mk (st := sPot) lT_pot cT_pot kT_pot
  have bT_pot := FT_pot.binds (ps := ["_law_script", "_law_place"]) fun _ _ _ _ _ _ us hl => match us, hl with | [_, _], _ => rfl
  have AT_pot : At K mg "_law_pot" sPot ["_law_script", "_law_place"] fT_pot _ := ⟨FT_pot, O gT_pot, bT_pot⟩
  obtain ⟨fT_take, _, _, _, _, _, _, _, _, _, gT_take, lT_take, cT_take, kT_take⟩ := dT_take
  have FT_take := fun_mk (st := sTake) lT_take cT_take kT_take
  have bT_take := FT_take.binds (ps := ["_law_pot_here", "_law_upto"]) fun _ _ _ _ _ _ us hl => match us, hl with | [_, _], _ => rfl
  have AT_take : At K mg "_law_take" sTake ["_law_pot_here", "_law_upto"] fT_take _ := ⟨FT_take, O gT_take, bT_take⟩
  obtain ⟨fT_of, _, _, _, _, _, _, _, _, _, gT_of, lT_of, cT_of, kT_of⟩ := dT_of
  have FT_of := fun_mk (st := sOf) lT_of cT_of kT_of
  have bT_of := FT_of.binds (ps := ["_law_pot_here", "_law_some_here"]) fun _ _ _ _ _ _ us hl => match us, hl with | [_, _], _ => rfl
  have AT_of : At K mg "_law_of" sOf ["_law_pot_here", "_law_some_here"] fT_of _ := ⟨FT_of, O gT_of, bT_of⟩
  obtain ⟨fT_some, _, _, _, _, _, _, _, _, _, gT_some, lT_some, cT_some, kT_some⟩ := dT_some
  have FT_some := fun_mk (st := sSome) lT_some cT_some kT_some
  have bT_some := FT_some.binds (ps := ["_law_pot_here", "_law_pool", "_law_many"]) fun _ _ _ _ _ _ us hl => match us, hl with | [_, _, _], _ => rfl
  have AT_some : At K mg "_law_some" sSome ["_law_pot_here", "_law_pool", "_law_many"] fT_some _ := ⟨FT_some, O gT_some, bT_some⟩
  obtain ⟨fT_cells, _, _, _, _, _, _, _, _, _, gT_cells, lT_cells, cT_cells, kT_cells⟩ := dT_cells
  have FT_cells := fun_mk (st := sCells) lT_cells cT_cells kT_cells
  have bT_cells := FT_cells.binds (ps := ["_law_script", "_law_most"]) fun _ _ _ _ _ _ us hl => match us, hl with | [_, _], _ => rfl
  have AT_cells : At K mg "_law_cells" sCells ["_law_script", "_law_most"] fT_cells _ := ⟨FT_cells, O gT_cells, bT_cells⟩
  obtain ⟨fT_odd, _, _, _, _, _, _, _, _, _, gT_odd, lT_odd, cT_odd, kT_odd⟩ := dT_odd
  have FT_odd := fun_mk (st := sOdd) lT_odd cT_odd kT_odd
  have bT_odd := FT_odd.binds (ps := ["_law_pot_here"]) fun _ _ _ _ _ _ us hl => match us, hl with | [_], _ => rfl
  have AT_odd : At K mg "_law_odd" sOdd ["_law_pot_here"] fT_odd _ := ⟨FT_odd, O gT_odd, bT_odd⟩
  obtain ⟨fT_names, _, _, _, _, _, _, _, _, _, gT_names, lT_names, cT_names, kT_names⟩ := dT_names
  have FT_names := fun_mk (st := sNames) lT_names cT_names kT_names
  have bT_names := FT_names.binds (ps := ["_law_pot_here", "_law_many"]) fun _ _ _ _ _ _ us hl => match us, hl with | [_, _], _ => rfl
  have AT_names : At K mg "_law_names" sNames ["_law_pot_here", "_law_many"] fT_names _ := ⟨FT_names, O gT_names, bT_names⟩
  obtain ⟨fT_jobs, _, _, _, _, _, _, _, _, _, gT_jobs, lT_jobs, cT_jobs, kT_jobs⟩ := dT_jobs
  have FT_jobs := fun_mk (st := sJobs) lT_jobs cT_jobs kT_jobs
  have bT_jobs := FT_jobs.binds (ps := ["_law_pot_here", "_law_most", "_law_manners"]) fun _ _ _ _ _ _ us hl => match us, hl with | [_, _, _], _ => rfl
  have AT_jobs : At K mg "_law_jobs" sJobs ["_law_pot_here", "_law_most", "_law_manners"] fT_jobs _ := ⟨FT_jobs, O gT_jobs, bT_jobs⟩
  obtain ⟨fT_any, _, _, _, _, _, _, _, _, _, gT_any, lT_any, cT_any, kT_any⟩ := dT_any
  have FT_any := fun_mk (st := sAnyManners) lT_any cT_any kT_any
  have bT_any := FT_any.binds (ps := []) fun _ _ _ _ _ _ us hl => match us, hl with | [], _ => rfl
  have AT_any : At K mg "_law_any_manners" sAnyManners [] fT_any _ := ⟨FT_any, O gT_any, bT_any⟩
  obtain ⟨fT_first, _, _, _, _, _, _, _, _, _, gT_first, lT_first, cT_first, kT_first⟩ := dT_first
  have FT_first := fun_mk (st := sFirst) lT_first cT_first kT_first
  have bT_first := FT_first.binds (ps := ["_law_jobs_here"]) fun _ _ _ _ _ _ us hl => match us, hl with | [_], _ => rfl
  have AT_first : At K mg "_law_first" sFirst ["_law_jobs_here"] fT_first _ := ⟨FT_first, O gT_first, bT_first⟩
  obtain ⟨fT_behind, _, _, _, _, _, _, _, _, _, gT_behind, lT_behind, cT_behind, kT_behind⟩ := dT_behind
  have FT_behind := fun_mk (st := sBehind) lT_behind cT_behind kT_behind
  have bT_behind := FT_behind.binds (ps := ["_law_jobs_here", "_law_standing_here", "_law_event"]) fun _ _ _ _ _ _ us hl => match us, hl with | [_, _, _], _ => rfl
  have AT_behind : At K mg "_law_behind" sBehind ["_law_jobs_here", "_law_standing_here", "_law_event"] fT_behind _ := ⟨FT_behind, O gT_behind, bT_behind⟩
  obtain ⟨fT_can, _, _, _, _, _, _, _, _, _, gT_can, lT_can, cT_can, kT_can⟩ := dT_can
  have FT_can := fun_mk (st := sCanCome) lT_can cT_can kT_can
  have bT_can := FT_can.binds (ps := ["_law_jobs_here", "_law_standing_here", "_law_event"]) fun _ _ _ _ _ _ us hl => match us, hl with | [_, _, _], _ => rfl
  have AT_can : At K mg "_law_can_come" sCanCome ["_law_jobs_here", "_law_standing_here", "_law_event"] fT_can _ := ⟨FT_can, O gT_can, bT_can⟩
  obtain ⟨fT_events, _, _, _, _, _, _, _, _, _, gT_events, lT_events, cT_events, kT_events⟩ := dT_events
  have FT_events := fun_mk (st := sEvents) lT_events cT_events kT_events
  have bT_events := FT_events.binds (ps := ["_law_jobs_here", "_law_standing_here"]) fun _ _ _ _ _ _ us hl => match us, hl with | [_, _], _ => rfl
  have AT_events : At K mg "_law_events" sEvents ["_law_jobs_here", "_law_standing_here"] fT_events _ := ⟨FT_events, O gT_events, bT_events⟩
  obtain ⟨fT_standing, _, _, _, _, _, _, _, _, _, gT_standing, lT_standing, cT_standing, kT_standing⟩ := dT_standing
  have FT_standing := fun_mk (st := sStanding) lT_standing cT_standing kT_standing
  have bT_standing := FT_standing.binds (ps := ["_law_pot_here", "_law_jobs_here", "_law_far"]) fun _ _ _ _ _ _ us hl => match us, hl with | [_, _, _], _ => rfl
  have AT_standing : At K mg "_law_standing" sStanding ["_law_pot_here", "_law_jobs_here", "_law_far"] fT_standing _ := ⟨FT_standing, O gT_standing, bT_standing⟩
  obtain ⟨fT_change, _, _, _, _, _, _, _, _, _, gT_change, lT_change, cT_change, kT_change⟩ := dT_change
  have FT_change := fun_mk (st := sChange) lT_change cT_change kT_change
  have bT_change := FT_change.binds (ps := ["_law_pot_here", "_law_manner", "_law_size"]) fun _ _ _ _ _ _ us hl => match us, hl with | [_, _, _], _ => rfl
  have AT_change : At K mg "_law_change" sChange ["_law_pot_here", "_law_manner", "_law_size"] fT_change _ := ⟨FT_change, O gT_change, bT_change⟩
  obtain ⟨fT_stock, _, _, _, _, _, _, _, _, _, gT_stock, lT_stock, cT_stock, kT_stock⟩ := dT_stock
  have FT_stock := fun_mk (st := sStock) lT_stock cT_stock kT_stock
  have bT_stock := FT_stock.binds (ps := ["_law_pot_here", "_law_jobs_here", "_law_size"]) fun _ _ _ _ _ _ us hl => match us, hl with | [_, _, _], _ => rfl
  have AT_stock : At K mg "_law_stock" sStock ["_law_pot_here", "_law_jobs_here", "_law_size"] fT_stock _ := ⟨FT_stock, O gT_stock, bT_stock⟩
  obtain ⟨fT_level, _, _, _, _, _, _, _, _, _, gT_level, lT_level, cT_level, kT_level⟩ := dT_level
  have FT_level := fun_mk (st := sLevel) lT_level cT_level kT_level
  have bT_level := FT_level.binds (ps := ["_law_stock_here", "_law_standing_here"]) fun _ _ _ _ _ _ us hl => match us, hl with | [_, _], _ => rfl
  have AT_level : At K mg "_law_level" sLevel ["_law_stock_here", "_law_standing_here"] fT_level _ := ⟨FT_level, O gT_level, bT_level⟩
  obtain ⟨fT_lets, _, _, _, _, _, _, _, _, _, gT_lets, lT_lets, cT_lets, kT_lets⟩ := dT_lets
  have FT_lets := fun_mk (st := sLets) lT_lets cT_lets kT_lets
  have bT_lets := FT_lets.binds (ps := ["_law_stocks", "_law_standing_here"]) fun _ _ _ _ _ _ us hl => match us, hl with | [_, _], _ => rfl
  have AT_lets : At K mg "_law_lets" sLets ["_law_stocks", "_law_standing_here"] fT_lets _ := ⟨FT_lets, O gT_lets, bT_lets⟩
  obtain ⟨fT_heard, _, _, _, _, _, _, _, _, _, gT_heard, lT_heard, cT_heard, kT_heard⟩ := dT_heard
  have FT_heard := fun_mk (st := sHeardFacts) lT_heard cT_heard kT_heard
  have bT_heard := FT_heard.binds (ps := ["_law_pot_here", "_law_jobs_here", "_law_stocks", "_law_days", "_law_most"]) fun _ _ _ _ _ _ us hl => match us, hl with | [_, _, _, _, _], _ => rfl
  have AT_heard : At K mg "_law_heard_facts" sHeardFacts ["_law_pot_here", "_law_jobs_here", "_law_stocks", "_law_days", "_law_most"] fT_heard _ := ⟨FT_heard, O gT_heard, bT_heard⟩
  obtain ⟨fT_alike, _, _, _, _, _, _, _, _, _, gT_alike, lT_alike, cT_alike, kT_alike⟩ := dT_alike
  have FT_alike := fun_mk (st := sAlikeFacts) lT_alike cT_alike kT_alike
  have bT_alike := FT_alike.binds (ps := ["_law_pot_here", "_law_stocks", "_law_met", "_law_many"]) fun _ _ _ _ _ _ us hl => match us, hl with | [_, _, _, _], _ => rfl
  have AT_alike : At K mg "_law_alike_facts" sAlikeFacts ["_law_pot_here", "_law_stocks", "_law_met", "_law_many"] fT_alike _ := ⟨FT_alike, O gT_alike, bT_alike⟩
  obtain ⟨fT_few, _, _, _, _, _, _, _, _, _, gT_few, lT_few, cT_few, kT_few⟩ := dT_few
  have FT_few := fun_mk (st := sFew) lT_few cT_few kT_few
  have bT_few := FT_few.binds (ps := ["_law_facts", "_law_lets_here", "_law_nots", "_law_ases"]) fun _ _ _ _ _ _ us hl => match us, hl with | [_, _, _, _], _ => rfl
  have AT_few : At K mg "_law_few" sFew ["_law_facts", "_law_lets_here", "_law_nots", "_law_ases"] fT_few _ := ⟨FT_few, O gT_few, bT_few⟩
  obtain ⟨fT_lore, _, _, _, _, _, _, _, _, _, gT_lore, lT_lore, cT_lore, kT_lore⟩ := dT_lore
  have FT_lore := fun_mk (st := sLore) lT_lore cT_lore kT_lore
  have bT_lore := FT_lore.binds (ps := ["_law_pot_here", "_law_most", "_law_manners", "_law_sizes"]) fun _ _ _ _ _ _ us hl => match us, hl with | [_, _, _, _], _ => rfl
  have AT_lore : At K mg "_law_lore" sLore ["_law_pot_here", "_law_most", "_law_manners", "_law_sizes"] fT_lore _ := ⟨FT_lore, O gT_lore, bT_lore⟩
  obtain ⟨fT_stext, _, _, _, _, _, _, _, _, _, gT_stext, lT_stext, cT_stext, kT_stext⟩ := dT_stext
  have FT_stext := fun_mk (st := sStandingText) lT_stext cT_stext kT_stext
  have bT_stext := FT_stext.binds (ps := ["_law_standing_here"]) fun _ _ _ _ _ _ us hl => match us, hl with | [_], _ => rfl
  have AT_stext : At K mg "_law_standing_text" sStandingText ["_law_standing_here"] fT_stext _ := ⟨FT_stext, O gT_stext, bT_stext⟩
  obtain ⟨fT_fline, _, _, _, _, _, _, _, _, _, gT_fline, lT_fline, cT_fline, kT_fline⟩ := dT_fline
  have FT_fline := fun_mk (st := sFactLine) lT_fline cT_fline kT_fline
  have bT_fline := FT_fline.binds (ps := ["_law_fact"]) fun _ _ _ _ _ _ us hl => match us, hl with | [_], _ => rfl
  have AT_fline : At K mg "_law_fact_line" sFactLine ["_law_fact"] fT_fline _ := ⟨FT_fline, O gT_fline, bT_fline⟩
  obtain ⟨fT_lines, _, _, _, _, _, _, _, _, _, gT_lines, lT_lines, cT_lines, kT_lines⟩ := dT_lines
  have FT_lines := fun_mk (st := sLines) lT_lines cT_lines kT_lines
  have bT_lines := FT_lines.binds (ps := ["_law_lore_here"]) fun _ _ _ _ _ _ us hl => match us, hl with | [_], _ => rfl
  have AT_lines : At K mg "_law_lines" sLines ["_law_lore_here"] fT_lines _ := ⟨FT_lines, O gT_lines, bT_lines⟩
  obtain ⟨fT_text, _, _, _, _, _, _, _, _, _, gT_text, lT_text, cT_text, kT_text⟩ := dT_text
  have FT_text := fun_mk (st := sText) lT_text cT_text kT_text
  have bT_text := FT_text.binds (ps := ["_law_lore_here"]) fun _ _ _ _ _ _ us hl => match us, hl with | [_], _ => rfl
  have AT_text : At K mg "_law_text" sText ["_law_lore_here"] fT_text _ := ⟨FT_text, O gT_text, bT_text⟩
  obtain ⟨fT_book, _, _, _, _, _, _, _, _, _, gT_book, lT_book, cT_book, kT_book⟩ := dT_book
  have FT_book := fun_mk (st := sBook) lT_book cT_book kT_book
  have bT_book := FT_book.binds (ps := ["_law_lore_here"]) fun _ _ _ _ _ _ us hl => match us, hl with | [_], _ => rfl
  have AT_book : At K mg "_law_book" sBook ["_law_lore_here"] fT_book _ := ⟨FT_book, O gT_book, bT_book⟩
  obtain ⟨fT_others, _, _, _, _, _, _, _, _, _, gT_others, lT_others, cT_others, kT_others⟩ := dT_others
  have FT_others := fun_mk (st := sOthers) lT_others cT_others kT_others
  have bT_others := FT_others.binds (ps := ["_law_pot_here", "_law_lore_here"]) fun _ _ _ _ _ _ us hl => match us, hl with | [_, _], _ => rfl
  have AT_others : At K mg "_law_others" sOthers ["_law_pot_here", "_law_lore_here"] fT_others _ := ⟨FT_others, O gT_others, bT_others⟩
  obtain ⟨fT_right, _, _, _, _, _, _, _, _, _, gT_right, lT_right, cT_right, kT_right⟩ := dT_right
  have FT_right := fun_mk (st := sRight) lT_right cT_right kT_right
  have bT_right := FT_right.binds (ps := ["_law_pot_here"]) fun _ _ _ _ _ _ us hl => match us, hl with | [_], _ => rfl
  have AT_right : At K mg "_law_right" sRight ["_law_pot_here"] fT_right _ := ⟨FT_right, O gT_right, bT_right⟩
  obtain ⟨fT_law, oc0, od0, an0, osl0, kV0, doc0, pm0, cdv0, ct0, gT_law, lT_law, cT_law, kT_law⟩ := dT_law
  have e := hfa.symm.trans (O gT_law)
  cases e
  have FT_law := fun_mk (st := sLaw) lT_law cT_law kT_law
  have bT_law := FT_law.binds (ps := ["_law_script"]) fun _ _ _ _ _ _ us hl => match us, hl with | [_], _ => rfl
  obtain ⟨fP_isint, _, _, _, _, _, _, _, _, _, gP_isint, lP_isint, cP_isint, kP_isint⟩ := dP_isint
  have FP_isint := fun_mk (st := pIsInt) lP_isint cP_isint kP_isint
  have bP_isint := FP_isint.binds (ps := ["value"]) fun _ _ _ _ _ _ us hl => match us, hl with | [_], _ => rfl
  have AP_isint : At K mg "is_integer" pIsInt ["value"] fP_isint _ := ⟨FP_isint, O gP_isint, bP_isint⟩
  obtain ⟨fP_isnumb, _, _, _, _, _, _, _, _, _, gP_isnumb, lP_isnumb, cP_isnumb, kP_isnumb⟩ := dP_isnumb
  have FP_isnumb := fun_mk (st := pIsNumb) lP_isnumb cP_isnumb kP_isnumb
  have bP_isnumb := FP_isnumb.binds (ps := ["value", "many"]) fun _ _ _ _ _ _ us hl => match us, hl with | [_, _], _ => rfl
  have AP_isnumb : At K mg "is_number" pIsNumb ["value", "many"] fP_isnumb _ := ⟨FP_isnumb, O gP_isnumb, bP_isnumb⟩
  obtain ⟨fP_isword, _, _, _, _, _, _, _, _, _, gP_isword, lP_isword, cP_isword, kP_isword⟩ := dP_isword
  have FP_isword := fun_mk (st := pIsWord) lP_isword cP_isword kP_isword
  have bP_isword := FP_isword.binds (ps := ["value", "words"]) fun _ _ _ _ _ _ us hl => match us, hl with | [_, _], _ => rfl
  have AP_isword : At K mg "is_word" pIsWord ["value", "words"] fP_isword _ := ⟨FP_isword, O gP_isword, bP_isword⟩
  obtain ⟨fP_isname, _, _, _, _, _, _, _, _, _, gP_isname, lP_isname, cP_isname, kP_isname⟩ := dP_isname
  have FP_isname := fun_mk (st := pIsName) lP_isname cP_isname kP_isname
  have bP_isname := FP_isname.binds (ps := ["text"]) fun _ _ _ _ _ _ us hl => match us, hl with | [_], _ => rfl
  have AP_isname : At K mg "is_name" pIsName ["text"] fP_isname _ := ⟨FP_isname, O gP_isname, bP_isname⟩
  obtain ⟨fP_ispair, _, _, _, _, _, _, _, _, _, gP_ispair, lP_ispair, cP_ispair, kP_ispair⟩ := dP_ispair
  have FP_ispair := fun_mk (st := pIsPair) lP_ispair cP_ispair kP_ispair
  have bP_ispair := FP_ispair.binds (ps := ["value"]) fun _ _ _ _ _ _ us hl => match us, hl with | [_], _ => rfl
  have AP_ispair : At K mg "is_pair" pIsPair ["value"] fP_ispair _ := ⟨FP_ispair, O gP_ispair, bP_ispair⟩
  obtain ⟨fP_isstn, _, _, _, _, _, _, _, _, _, gP_isstn, lP_isstn, cP_isstn, kP_isstn⟩ := dP_isstn
  have FP_isstn := fun_mk (st := pIsStn) lP_isstn cP_isstn kP_isstn
  have bP_isstn := FP_isstn.binds (ps := ["value", "many"]) fun _ _ _ _ _ _ us hl => match us, hl with | [_, _], _ => rfl
  have AP_isstn : At K mg "is_standing" pIsStn ["value", "many"] fP_isstn _ := ⟨FP_isstn, O gP_isstn, bP_isstn⟩
  obtain ⟨fP_isfact, _, _, _, _, _, _, _, _, _, gP_isfact, lP_isfact, cP_isfact, kP_isfact⟩ := dP_isfact
  have FP_isfact := fun_mk (st := pIsFact) lP_isfact cP_isfact kP_isfact
  have bP_isfact := FP_isfact.binds (ps := ["value", "many"]) fun _ _ _ _ _ _ us hl => match us, hl with | [_, _], _ => rfl
  have AP_isfact : At K mg "is_fact" pIsFact ["value", "many"] fP_isfact _ := ⟨FP_isfact, O gP_isfact, bP_isfact⟩
  obtain ⟨fP_isfull, _, _, _, _, _, _, _, _, _, gP_isfull, lP_isfull, cP_isfull, kP_isfull⟩ := dP_isfull
  have FP_isfull := fun_mk (st := pIsFull) lP_isfull cP_isfull kP_isfull
  have bP_isfull := FP_isfull.binds (ps := ["facts", "kind"]) fun _ _ _ _ _ _ us hl => match us, hl with | [_, _], _ => rfl
  have AP_isfull : At K mg "is_full" pIsFull ["facts", "kind"] fP_isfull _ := ⟨FP_isfull, O gP_isfull, bP_isfull⟩
  obtain ⟨fP_grown, _, _, _, _, _, _, _, _, _, gP_grown, lP_grown, cP_grown, kP_grown⟩ := dP_grown
  have FP_grown := fun_mk (st := pGrown) lP_grown cP_grown kP_grown
  have bP_grown := FP_grown.binds (ps := ["book", "facts"]) fun _ _ _ _ _ _ us hl => match us, hl with | [_, _], _ => rfl
  have AP_grown : At K mg "grown" pGrown ["book", "facts"] fP_grown _ := ⟨FP_grown, O gP_grown, bP_grown⟩
  obtain ⟨fP_remade, _, _, _, _, _, _, _, _, _, gP_remade, lP_remade, cP_remade, kP_remade⟩ := dP_remade
  have FP_remade := fun_mk (st := pRemade) lP_remade cP_remade kP_remade
  have bP_remade := FP_remade.binds (ps := ["book", "lines", "facts"]) fun _ _ _ _ _ _ us hl => match us, hl with | [_, _, _], _ => rfl
  have AP_remade : At K mg "remade" pRemade ["book", "lines", "facts"] fP_remade _ := ⟨FP_remade, O gP_remade, bP_remade⟩
  obtain ⟨fP_fline, _, _, _, _, _, _, _, _, _, gP_fline, lP_fline, cP_fline, kP_fline⟩ := dP_fline
  have FP_fline := fun_mk (st := pFactLine) lP_fline cP_fline kP_fline
  have bP_fline := FP_fline.binds (ps := ["fact"]) fun _ _ _ _ _ _ us hl => match us, hl with | [_], _ => rfl
  have AP_fline : At K mg "fact_line" pFactLine ["fact"] fP_fline _ := ⟨FP_fline, O gP_fline, bP_fline⟩
  obtain ⟨fP_ctext, _, _, _, _, _, _, _, _, _, gP_ctext, lP_ctext, cP_ctext, kP_ctext⟩ := dP_ctext
  have FP_ctext := fun_mk (st := pCountsText) lP_ctext cP_ctext kP_ctext
  have bP_ctext := FP_ctext.binds (ps := ["standing"]) fun _ _ _ _ _ _ us hl => match us, hl with | [_], _ => rfl
  have AP_ctext : At K mg "counts_text" pCountsText ["standing"] fP_ctext _ := ⟨FP_ctext, O gP_ctext, bP_ctext⟩
  obtain ⟨fP_rdjobs, _, _, _, _, _, _, _, _, _, gP_rdjobs, lP_rdjobs, cP_rdjobs, kP_rdjobs⟩ := dP_rdjobs
  have FP_rdjobs := fun_mk (st := pReadJobs) lP_rdjobs cP_rdjobs kP_rdjobs
  have bP_rdjobs := FP_rdjobs.binds (ps := ["line"]) fun _ _ _ _ _ _ us hl => match us, hl with | [_], _ => rfl
  have AP_rdjobs : At K mg "read_jobs" pReadJobs ["line"] fP_rdjobs _ := ⟨FP_rdjobs, O gP_rdjobs, bP_rdjobs⟩
  obtain ⟨fP_rdman, _, _, _, _, _, _, _, _, _, gP_rdman, lP_rdman, cP_rdman, kP_rdman⟩ := dP_rdman
  have FP_rdman := fun_mk (st := pReadManners) lP_rdman cP_rdman kP_rdman
  have bP_rdman := FP_rdman.binds (ps := ["lines", "jobs"]) fun _ _ _ _ _ _ us hl => match us, hl with | [_, _], _ => rfl
  have AP_rdman : At K mg "read_manners" pReadManners ["lines", "jobs"] fP_rdman _ := ⟨FP_rdman, O gP_rdman, bP_rdman⟩
  obtain ⟨fP_rdfacts, _, _, _, _, _, _, _, _, _, gP_rdfacts, lP_rdfacts, cP_rdfacts, kP_rdfacts⟩ := dP_rdfacts
  have FP_rdfacts := fun_mk (st := pReadFacts) lP_rdfacts cP_rdfacts kP_rdfacts
  have bP_rdfacts := FP_rdfacts.binds (ps := ["lines", "start", "many"]) fun _ _ _ _ _ _ us hl => match us, hl with | [_, _, _], _ => rfl
  have AP_rdfacts : At K mg "read_facts" pReadFacts ["lines", "start", "many"] fP_rdfacts _ := ⟨FP_rdfacts, O gP_rdfacts, bP_rdfacts⟩
  obtain ⟨fP_rdfact, _, _, _, _, _, _, _, _, _, gP_rdfact, lP_rdfact, cP_rdfact, kP_rdfact⟩ := dP_rdfact
  have FP_rdfact := fun_mk (st := pReadFact) lP_rdfact cP_rdfact kP_rdfact
  have bP_rdfact := FP_rdfact.binds (ps := ["words", "many"]) fun _ _ _ _ _ _ us hl => match us, hl with | [_, _], _ => rfl
  have AP_rdfact : At K mg "read_fact" pReadFact ["words", "many"] fP_rdfact _ := ⟨FP_rdfact, O gP_rdfact, bP_rdfact⟩
  obtain ⟨fP_rdstn, _, _, _, _, _, _, _, _, _, gP_rdstn, lP_rdstn, cP_rdstn, kP_rdstn⟩ := dP_rdstn
  have FP_rdstn := fun_mk (st := pReadStn) lP_rdstn cP_rdstn kP_rdstn
  have bP_rdstn := FP_rdstn.binds (ps := ["words"]) fun _ _ _ _ _ _ us hl => match us, hl with | [_], _ => rfl
  have AP_rdstn : At K mg "read_standing" pReadStn ["words"] fP_rdstn _ := ⟨FP_rdstn, O gP_rdstn, bP_rdstn⟩
  obtain ⟨fP_rdcount, _, _, _, _, _, _, _, _, _, gP_rdcount, lP_rdcount, cP_rdcount, kP_rdcount⟩ := dP_rdcount
  have FP_rdcount := fun_mk (st := pReadCount) lP_rdcount cP_rdcount kP_rdcount
  have bP_rdcount := FP_rdcount.binds (ps := ["word"]) fun _ _ _ _ _ _ us hl => match us, hl with | [_], _ => rfl
  have AP_rdcount : At K mg "read_count" pReadCount ["word"] fP_rdcount _ := ⟨FP_rdcount, O gP_rdcount, bP_rdcount⟩
  obtain ⟨fP_isnumeral, _, _, _, _, _, _, _, _, _, gP_isnumeral, lP_isnumeral, cP_isnumeral, kP_isnumeral⟩ := dP_isnumeral
  have FP_isnumeral := fun_mk (st := pIsNumeral) lP_isnumeral cP_isnumeral kP_isnumeral
  have bP_isnumeral := FP_isnumeral.binds (ps := ["text"]) fun _ _ _ _ _ _ us hl => match us, hl with | [_], _ => rfl
  have AP_isnumeral : At K mg "is_numeral" pIsNumeral ["text"] fP_isnumeral _ := ⟨FP_isnumeral, O gP_isnumeral, bP_isnumeral⟩
  obtain ⟨fM_init, _, _, _, _, _, _, _, _, _, gM_init, iM_init, lM_init, cM_init, kM_init⟩ := dM_init
  have FM_init := fun_mk (st := pInit) lM_init cM_init kM_init
  have bM_init := FM_init.binds (ps := ["self", "text"]) fun _ _ _ _ _ _ us hl => match us, hl with | [_, _], _ => rfl
  obtain ⟨fM_told, _, _, _, _, _, _, _, _, _, gM_told, iM_told, lM_told, cM_told, kM_told⟩ := dM_told
  have FM_told := fun_mk (st := pTold) lM_told cM_told kM_told
  have bM_told := FM_told.binds (ps := ["self", "fact"]) fun _ _ _ _ _ _ us hl => match us, hl with | [_, _], _ => rfl
  obtain ⟨fM_untold, _, _, _, _, _, _, _, _, _, gM_untold, iM_untold, lM_untold, cM_untold, kM_untold⟩ := dM_untold
  have FM_untold := fun_mk (st := pUntold) lM_untold cM_untold kM_untold
  have bM_untold := FM_untold.binds (ps := ["self", "number"]) fun _ _ _ _ _ _ us hl => match us, hl with | [_, _], _ => rfl
  obtain ⟨fM_eq, _, _, _, _, _, _, _, _, _, gM_eq, iM_eq, lM_eq, cM_eq, kM_eq⟩ := dM_eq
  have FM_eq := fun_mk (st := pEq) lM_eq cM_eq kM_eq
  have bM_eq := FM_eq.binds (ps := ["self", "other"]) fun _ _ _ _ _ _ us hl => match us, hl with | [_, _], _ => rfl
  obtain ⟨u40, e40, r40⟩ := c40
  obtain ⟨u8, e8, r8⟩ := c8
  obtain ⟨u4, e4, r4⟩ := c4
  obtain ⟨um, em, rm⟩ := cm
  obtain ⟨pT, eT, t1, t2, t3⟩ := cT
  obtain ⟨pL, eL, tL⟩ := cL
  have TA : TxtA mg := ⟨Z n_len, Z n_abs, Z n_int, Z n_max, Z n_min, Z n_list, Z n_range⟩
  have S : Small1 K mg := ⟨TA, Z n_all, Z n_tuple, Z n_sum, Z n_zip⟩
  have FS : Forms1 mg := ⟨Z n_isinstance, Z n_int, Z n_bool, Z n_str, Z n_tuple, Z n_len, Z n_all, ⟨u40, O e40, r40⟩⟩
  have RS : Reads1 mg := ⟨FS, ⟨um, O em, rm⟩, Z n_range⟩
  have TT : Told K w mg := told_of (O eT) t1 t2 t3
  have LL : Lined K mg := ⟨pL, O eL, tL⟩
  have BC : BookC K mg C := ⟨cl, nT, nJ, nM, nF, nH, nA, O aC⟩
  have BT : BookT K C := ⟨fun e => .base (.ins e cl ha hn htk hm), bme⟩
  have OE : OwnEq1 K C fM_eq := ⟨gM_eq, iM_eq, ne, hm⟩
  refine ⟨PySem.W.fnOf "law" "law" (defArgs sLaw) (defBody sLaw) (defScope sLaw) .none kV0 doc0 pm0 an0 cdv0 ct0, fun s v => .of_eq rfl, fun base _ _ => ?_⟩
  have DR : Drawer K mg _ _ _ _ _ _ _ _ _ _ _ _ _ _ _ _ _ _ _ _ _ _ _ _ _ _ _ _ _ _ _ _ := ⟨AT_take, AT_of, AT_some, AT_names, AT_jobs, AT_first, AT_behind, AT_can, AT_events, AT_change, AT_stock, AT_level, AT_lets, AT_heard, AT_alike, AT_few⟩
  have RD : Reader K mg _ _ _ _ _ _ _ _ _ _ _ _ _ _ _ _ _ _ _ _ := ⟨AP_isint, AP_isnumb, AP_isword, AP_ispair, AP_isstn, AP_isfact, AP_isfull, AP_rdfact, AP_rdstn, ⟨AP_rdcount, ⟨_, _, AP_isnumeral⟩⟩⟩
  have GI := ok_init (P := P) (w := w) (base := base) FM_init BC RS (O gP_rdjobs) bP_rdjobs kP_rdjobs (ok_rdjobs FP_rdjobs RS AP_isname ⟨u8, O e8, r8⟩ ⟨u4, O e4, r4⟩ (Z n_set)) (O gP_rdman) bP_rdman kP_rdman (ok_rdman FP_rdman RS LL) (O gP_rdfacts) bP_rdfacts kP_rdfacts (ok_rdfacts FP_rdfacts RS TT RD)
  have MK : Maker P w K mg base C fM_init _ := ⟨BC, ⟨mk, gM_init, iM_init, kc⟩, bM_init, GI⟩
  have GU := ok_text (P := P) (w := w) (base := base) FT_text (Z n_str) AT_stext AT_fline AT_lines
  have GM := ok_remade (P := P) (w := w) (base := base) FP_remade MK
  have GG := ok_grown (P := P) (w := w) (base := base) FP_grown MK FS (Z n_list) (O gP_isfull) bP_isfull kP_isfull (ok_isfull FP_isfull FS TT) (O gP_fline) bP_fline kP_fline (ok_factline FP_fline AP_ctext) (O gP_remade) bP_remade kP_remade GM
  exact ok_law FT_law S (O gT_right) bT_right kT_right
    (ok_right FT_right MK BT bn OE (Z n_len) bM_eq (ok_eq FM_eq BC BT (Z n_isinstance)) ⟨gM_told, iM_told, kM_told⟩ bM_told (ok_told FM_told MK FS (O gP_isfact) bP_isfact kP_isfact (ok_isfact FP_isfact FS AP_isint AP_ispair AP_isstn AP_isword) (O gP_grown) bP_grown kP_grown GG)
      ⟨gM_untold, iM_untold, kM_untold⟩ bM_untold (ok_untold FM_untold MK FS (O gP_remade) bP_remade kP_remade GM (O gP_isnumb) bP_isnumb kP_isnumb (ok_isnumb FP_isnumb FS AP_isint))
      (O gT_lore) bT_lore kT_lore (ok_lore FT_lore S DR) (O gT_any) bT_any kT_any (ok_any FT_any) (O gT_book) bT_book kT_book (ok_lawbook FT_book MK (O gT_text) bT_text kT_text GU) (O gT_text) bT_text kT_text GU
      (O gT_others) bT_others kT_others (ok_others FT_others S (Z n_str) (Z n_enumerate) AT_take AT_some AT_stext AT_fline AT_lines AT_text) (O gT_odd) bT_odd kT_odd (ok_odd FT_odd TA FT_of (O gT_of) bT_of FT_take (O gT_take) bT_take)
      (O gT_standing) bT_standing kT_standing (ok_standing FT_standing TA (Z n_tuple) FT_take (O gT_take) bT_take))
    AT_pot AT_cells
end K04
open PySem PySem.W PyProof.Rows in
set_option maxRecDepth 100000 in
set_option maxHeartbeats 0 in
open_top hd for PySem.Challenge.rw_unseenstocks_k04_equal_books
namespace GD
open PySem PySem.Spec PyProof.Rows L2
theorem kit_me {K : PySem.W.Frag} {C : Addr} : PySem.W.kitOne K (.ref C) (.ref C) = some true := by
  unfold PySem.W.kitOne
  rw [if_pos (beq_self_eq_true _)]
theorem kit_tyC {K : PySem.W.Frag} {C : Addr} {T : String} (hd : PySem.W.hasDictIn K C = true) (ht : PySem.W.typeIn K (.ref C) = some (.type "type")) (hs : PySem.W.subIn K (.type T) (.ref C) = some false) : PySem.W.kitOne K (.type T) (.ref C) = some false := by
  unfold PySem.W.kitOne
  rw [if_neg (by rw [show (Value.type T == Value.ref C) = false from rfl]; decide)]
  obtain ⟨cd, hc, _⟩ := PySem.W.any_some hd
  show (if ((PySem.W.clsIn K C).isSome && PySem.W.typeIn K (.ref C) == some (.type "type")) = true then PySem.W.subIn K (.type T) (.ref C) else none) = _
  rw [if_pos (by rw [hc, ht]; rfl)]
  exact hs
end GD
open PySem PySem.W PyProof.Rows in
set_option maxRecDepth 100000 in
set_option maxHeartbeats 0 in
theorem PySem.Challenge.cw_unseenstocks_k04_equal_books_holds : PySem.Challenge.rw_unseenstocks_k04_equal_books.Holds := by
  refine hd ?_
  k_fill
  refine L2.walk_of (l := PySem.Challenge.rw_unseenstocks_k04_equal_books) (n := 63) (k := 12) (x := "_law_script") (CX := fun _ => L2.CX0) (sp := fun w => K04.spLaw _) rfl (by decide) rfl ⟨rfl, by decide, by decide⟩ (fun w h Y => PySem.W.kIn_of Y) ?F (fun _ _ a ns _ _ hS => ⟨a, ns, rfl, hS, fun _ => rfl⟩) fun _ _ _ _ _ z => z
  case F =>
    intro w mg fa h KX G hmg
    refine' K04.fin_mk KX G hmg ?aC ?dT_pot ?dT_take ?dT_of ?dT_some ?dT_cells ?dT_odd ?dT_names ?dT_jobs ?dT_any ?dT_first ?dT_behind ?dT_can ?dT_events ?dT_standing ?dT_change ?dT_stock ?dT_level ?dT_lets ?dT_heard ?dT_alike ?dT_few ?dT_lore ?dT_stext ?dT_fline ?dT_lines ?dT_text ?dT_book ?dT_others ?dT_right ?dT_law ?dP_isint ?dP_isnumb ?dP_isword ?dP_isname ?dP_ispair ?dP_isstn ?dP_isfact ?dP_isfull ?dP_grown ?dP_remade ?dP_fline ?dP_ctext ?dP_rdjobs ?dP_rdman ?dP_rdfacts ?dP_rdfact ?dP_rdstn ?dP_rdcount ?dP_isnumeral ?dM_init ?dM_told ?dM_untold ?dM_eq ?n_len ?n_abs ?n_int ?n_max ?n_min ?n_list ?n_range ?n_all ?n_tuple ?n_sum ?n_zip ?n_isinstance ?n_bool ?n_str ?n_set ?n_enumerate ?c40 ?c8 ?c4 ?cm ?cT ?cL ?cl ?nT ?nJ ?nM ?nF ?nH ?nA ?mk ?kc ?bn ?bme ?ha ?hn ?htk ?hm ?ne
    (case aC => k_is)
    (case dT_pot => exact ⟨_, _, _, _, _, _, _, _, _, _, by k_is, by k_is, by k_is, by k_is⟩)
    (case dT_take => exact ⟨_, _, _, _, _, _, _, _, _, _, by k_is, by k_is, by k_is, by k_is⟩)
    (case dT_of => exact ⟨_, _, _, _, _, _, _, _, _, _, by k_is, by k_is, by k_is, by k_is⟩)
    (case dT_some => exact ⟨_, _, _, _, _, _, _, _, _, _, by k_is, by k_is, by k_is, by k_is⟩)
    (case dT_cells => exact ⟨_, _, _, _, _, _, _, _, _, _, by k_is, by k_is, by k_is, by k_is⟩)
    (case dT_odd => exact ⟨_, _, _, _, _, _, _, _, _, _, by k_is, by k_is, by k_is, by k_is⟩)
    (case dT_names => exact ⟨_, _, _, _, _, _, _, _, _, _, by k_is, by k_is, by k_is, by k_is⟩)
    (case dT_jobs => exact ⟨_, _, _, _, _, _, _, _, _, _, by k_is, by k_is, by k_is, by k_is⟩)
    (case dT_any => exact ⟨_, _, _, _, _, _, _, _, _, _, by k_is, by k_is, by k_is, by k_is⟩)
    (case dT_first => exact ⟨_, _, _, _, _, _, _, _, _, _, by k_is, by k_is, by k_is, by k_is⟩)
    (case dT_behind => exact ⟨_, _, _, _, _, _, _, _, _, _, by k_is, by k_is, by k_is, by k_is⟩)
    (case dT_can => exact ⟨_, _, _, _, _, _, _, _, _, _, by k_is, by k_is, by k_is, by k_is⟩)
    (case dT_events => exact ⟨_, _, _, _, _, _, _, _, _, _, by k_is, by k_is, by k_is, by k_is⟩)
    (case dT_standing => exact ⟨_, _, _, _, _, _, _, _, _, _, by k_is, by k_is, by k_is, by k_is⟩)
    (case dT_change => exact ⟨_, _, _, _, _, _, _, _, _, _, by k_is, by k_is, by k_is, by k_is⟩)
    (case dT_stock => exact ⟨_, _, _, _, _, _, _, _, _, _, by k_is, by k_is, by k_is, by k_is⟩)
    (case dT_level => exact ⟨_, _, _, _, _, _, _, _, _, _, by k_is, by k_is, by k_is, by k_is⟩)
    (case dT_lets => exact ⟨_, _, _, _, _, _, _, _, _, _, by k_is, by k_is, by k_is, by k_is⟩)
    (case dT_heard => exact ⟨_, _, _, _, _, _, _, _, _, _, by k_is, by k_is, by k_is, by k_is⟩)
    (case dT_alike => exact ⟨_, _, _, _, _, _, _, _, _, _, by k_is, by k_is, by k_is, by k_is⟩)
    (case dT_few => exact ⟨_, _, _, _, _, _, _, _, _, _, by k_is, by k_is, by k_is, by k_is⟩)
    (case dT_lore => exact ⟨_, _, _, _, _, _, _, _, _, _, by k_is, by k_is, by k_is, by k_is⟩)
    (case dT_stext => exact ⟨_, _, _, _, _, _, _, _, _, _, by k_is, by k_is, by k_is, by k_is⟩)
    (case dT_fline => exact ⟨_, _, _, _, _, _, _, _, _, _, by k_is, by k_is, by k_is, by k_is⟩)
    (case dT_lines => exact ⟨_, _, _, _, _, _, _, _, _, _, by k_is, by k_is, by k_is, by k_is⟩)
    (case dT_text => exact ⟨_, _, _, _, _, _, _, _, _, _, by k_is, by k_is, by k_is, by k_is⟩)
    (case dT_book => exact ⟨_, _, _, _, _, _, _, _, _, _, by k_is, by k_is, by k_is, by k_is⟩)
    (case dT_others => exact ⟨_, _, _, _, _, _, _, _, _, _, by k_is, by k_is, by k_is, by k_is⟩)
    (case dT_right => exact ⟨_, _, _, _, _, _, _, _, _, _, by k_is, by k_is, by k_is, by k_is⟩)
    (case dT_law => exact ⟨_, _, _, _, _, _, _, _, _, _, by k_is, by k_is, by k_is, by k_is⟩)
    (case dP_isint => exact ⟨_, _, _, _, _, _, _, _, _, _, by k_is, by k_is, by k_is, by k_is⟩)
    (case dP_isnumb => exact ⟨_, _, _, _, _, _, _, _, _, _, by k_is, by k_is, by k_is, by k_is⟩)
    (case dP_isword => exact ⟨_, _, _, _, _, _, _, _, _, _, by k_is, by k_is, by k_is, by k_is⟩)
    (case dP_isname => exact ⟨_, _, _, _, _, _, _, _, _, _, by k_is, by k_is, by k_is, by k_is⟩)
    (case dP_ispair => exact ⟨_, _, _, _, _, _, _, _, _, _, by k_is, by k_is, by k_is, by k_is⟩)
    (case dP_isstn => exact ⟨_, _, _, _, _, _, _, _, _, _, by k_is, by k_is, by k_is, by k_is⟩)
    (case dP_isfact => exact ⟨_, _, _, _, _, _, _, _, _, _, by k_is, by k_is, by k_is, by k_is⟩)
    (case dP_isfull => exact ⟨_, _, _, _, _, _, _, _, _, _, by k_is, by k_is, by k_is, by k_is⟩)
    (case dP_grown => exact ⟨_, _, _, _, _, _, _, _, _, _, by k_is, by k_is, by k_is, by k_is⟩)
    (case dP_remade => exact ⟨_, _, _, _, _, _, _, _, _, _, by k_is, by k_is, by k_is, by k_is⟩)
    (case dP_fline => exact ⟨_, _, _, _, _, _, _, _, _, _, by k_is, by k_is, by k_is, by k_is⟩)
    (case dP_ctext => exact ⟨_, _, _, _, _, _, _, _, _, _, by k_is, by k_is, by k_is, by k_is⟩)
    (case dP_rdjobs => exact ⟨_, _, _, _, _, _, _, _, _, _, by k_is, by k_is, by k_is, by k_is⟩)
    (case dP_rdman => exact ⟨_, _, _, _, _, _, _, _, _, _, by k_is, by k_is, by k_is, by k_is⟩)
    (case dP_rdfacts => exact ⟨_, _, _, _, _, _, _, _, _, _, by k_is, by k_is, by k_is, by k_is⟩)
    (case dP_rdfact => exact ⟨_, _, _, _, _, _, _, _, _, _, by k_is, by k_is, by k_is, by k_is⟩)
    (case dP_rdstn => exact ⟨_, _, _, _, _, _, _, _, _, _, by k_is, by k_is, by k_is, by k_is⟩)
    (case dP_rdcount => exact ⟨_, _, _, _, _, _, _, _, _, _, by k_is, by k_is, by k_is, by k_is⟩)
    (case dP_isnumeral => exact ⟨_, _, _, _, _, _, _, _, _, _, by k_is, by k_is, by k_is, by k_is⟩)
    (case dM_init => exact ⟨_, _, _, _, _, _, _, _, _, _, by k_is, by k_is, by k_is, by k_is, by k_is⟩)
    (case dM_told => exact ⟨_, _, _, _, _, _, _, _, _, _, by k_is, by k_is, by k_is, by k_is, by k_is⟩)
    (case dM_untold => exact ⟨_, _, _, _, _, _, _, _, _, _, by k_is, by k_is, by k_is, by k_is, by k_is⟩)
    (case dM_eq => exact ⟨_, _, _, _, _, _, _, _, _, _, by k_is, by k_is, by k_is, by k_is, by k_is⟩)
    (case n_len => k_is)
    (case n_abs => k_is)
    (case n_int => k_is)
    (case n_max => k_is)
    (case n_min => k_is)
    (case n_list => k_is)
    (case n_range => k_is)
    (case n_all => k_is)
    (case n_tuple => k_is)
    (case n_sum => k_is)
    (case n_zip => k_is)
    (case n_isinstance => k_is)
    (case n_bool => k_is)
    (case n_str => k_is)
    (case n_set => k_is)
    (case n_enumerate => k_is)
    (case c40 => exact ⟨_, by k_is, ⟨_, rfl⟩⟩)
    (case c8 => exact ⟨_, by k_is, ⟨_, rfl⟩⟩)
    (case c4 => exact ⟨_, by k_is, ⟨_, rfl⟩⟩)
    (case cm => exact ⟨_, by k_is, ⟨_, rfl⟩⟩)
    (case cT => exact ⟨_, by k_is, ⟨_, _, _, by k_is, by exact ⟨⟨_, _, rfl, rfl⟩, ⟨_, _, rfl, rfl⟩, ⟨_, _, rfl, rfl⟩, trivial⟩, by k_is, ⟨_, rfl⟩⟩, ⟨_, _, _, by k_is, by exact ⟨⟨_, _, rfl, rfl⟩, ⟨_, _, rfl, rfl⟩, ⟨_, _, rfl, rfl⟩, trivial⟩, by k_is, ⟨_, rfl⟩⟩, ⟨_, _, _, by k_is, by exact ⟨⟨_, _, rfl, rfl⟩, ⟨_, _, rfl, rfl⟩, ⟨_, _, rfl, rfl⟩, trivial⟩, by k_is, ⟨_, rfl⟩⟩⟩)
    (case cL => exact ⟨_, by k_is, fun H => .inr ⟨_, _, _, by k_is, rfl, rfl, by decide, .cons ⟨_, rfl⟩ (.cons ⟨_, rfl⟩ (.cons ⟨_, rfl⟩ .nil))⟩⟩)
    (case cl => exact ⟨by k_is, by k_is, by k_is, by k_is⟩)
    (case nT => unfold L2.NoAttr; k_is)
    (case nJ => unfold L2.NoAttr; k_is)
    (case nM => unfold L2.NoAttr; k_is)
    (case nF => unfold L2.NoAttr; k_is)
    (case nH => unfold L2.NoAttr; k_is)
    (case nA => unfold L2.NoAttr; k_is)
    (case mk => k_is)
    (case kc => k_is)
    (case bn => exact ⟨fun T hT => by simp only [GD.kinds7, List.mem_cons, List.not_mem_nil, or_false] at hT; rcases hT with rfl | rfl | rfl | rfl | rfl | rfl | rfl <;> exact ⟨GD.kit_tyC (by k_is) (by k_is) (by k_is), by k_is⟩⟩)
    (case bme => exact GD.kit_me)
    (case ha => k_is)
    (case hn => k_is)
    (case htk => k_is)
    (case hm => k_is)
    (case ne => k_is)
