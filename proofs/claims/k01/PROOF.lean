import PyProof.Rows.All
import Wide.All
import OpenK.AllK
import Wide.FinOn
import HandS.ForMost
import HandS.Conv
import HandS.Wide
import HandS.Exc
import HandS.ExcInit
import HandS.IsInst
import HandS.ExcIs
import HandS.Deep
import HandS.TupAny
import HandS.Zip
import HandS.Walk
import HandS.StrMore
import HandS.More
import HandS.TupLe
import HandS.Text
import HandS.Style
import KE.KRevSl
import HandS.EndTab
import HandS.Lambda
import HandS.Iter
import KE.GoesEnum
import HandS.Words
import KE.KIndexOf
import HandS.Strs
import HandS.Set
import HandS.TupMul
import HandS.WordsDict
import HandS.FStr
import HandS.SlotsOwn
import HandS.WordsExc
import OpenK.KMeth
import OpenK.KOps
import PyProof.Rows.StrSplitAre
import PyProof.Rows.StrItems
import KE.KNestM
import PyProof.Rows.StrSplitCount
import PyProof.Rows.StrSplitJoin
import PyProof.StrOps2
import PySem.Challenge.RW_unseenstocks_k01_whole_texts_of_no_book
set_option Elab.async false
set_option linter.all false
set_option maxRecDepth 100000
set_option maxHeartbeats 4000000
namespace GD
open PySem PySem.Spec PyProof.Rows L2
/-! a def that is called where no repr goes on -/
structure FnG (P : Program) (w : World) (K : PySem.W.Frag) (mg : Str → Option Value) (base : Heap) (k : Nat) (f : Addr) (fd : FuncData) (ps : List Str) (sp : Sp) : Prop where
  len : ∀ vs H Q E, sp vs H Q E → vs.length = ps.length
  run : ∀ (A : Around) (outer : List Env) (s : Shared) (H : Hp) (us : List Value) (vs : List V) (Q : VK), A.guards = some [] → Room k A → Env0 P w K mg base A outer s H → BindsTo s fd ⟨us, []⟩ (ps.zip us) → Vals vs us → sp vs H Q E0 →
    codeAny (model P w) A (.call (.ref f) ⟨us, []⟩) (CR CX0 outer P w H s Q E0) s
section
variable {P : Program} {w : World} {K : PySem.W.Frag} {mg : Str → Option Value} {base : Heap}
theorem fnG_of {x qual : Str} {st : Stmt} {f : Addr} {fd : FuncData} {N ps : List Str} {k : Nat} {sp : Sp} (F : Fun K x qual st f fd) (S : FnScope N ps (defScope st)) (len : ∀ vs H Q E, sp vs H Q E → vs.length = ps.length)
    (hbody : ∀ (cdv : Value) (A : Around) (outer : List Env) (s : Shared) (H : Hp) (vs : List V) (Q : VK), A.guards = some [] → Room k (A.deeper (envOfC qual (defScope st) s.heap.objs.size f cdv)) → sp vs H Q E0 →
      ∃ t, PSs (cxOf CX0 P w K mg base N qual (defScope st) f cdv A outer s H E0).nox (defBody st) t ∧ t { nx := fun _ H' => Q .non H', rt := Q } (start N vs) H) : FnG P w K mg base (k + 1) f fd ps sp := by
  obtain ⟨oc, od, kV, doc, pm, an, cdv, ct, osl, rfl, lk, hcd⟩ := F.ex
  refine ⟨len, fun A outer s H us vs Q hgu hr e0 hb r hsp => ?_⟩
  have KX : K.In s.heap := e0.mod.kin.keeps fun b o e => (e0.bs b o e).1
  have lim : s.heap.NoLimit := e0.mod.nolimit.keeps fun b o e => (e0.bs b o e).1
  have look : ∀ y ∈ ps.zip us, (defScope st).names.lookup y.1 = some .local ∨ ((defScope st).names.lookup y.1 = some .cell ∧ ((cellsFrom (s.heap.objs.size + 1) (defScope st).names []).lookup y.1).isSome = true) := by
    rintro ⟨n, v⟩ hy
    rcases S.par n (List.of_mem_zip hy).1 with q | q
    · exact .inl q
    · exact .inr ⟨q, PySem.W.cellsFrom_some _ _ _ (.inl q)⟩
  refine codeAny_call_function hr.depth (KX _ _ lk) rfl S.co S.gen rfl (PySem.W.codeRec_of KX hcd) (hb _ _ _ _ ?_)
  refine wpAny_newFunctionEnv_cells S.kind look fun env he s1 x => ?_
  subst he
  refine ⟨lim.keeps x.toInCall.keep, codeAny_func ?_⟩
  obtain ⟨t, h0, hq⟩ := hbody cdv A outer s H vs Q hgu (hr.deeper _) hsp
  have I := inv_start (CX := CX0) (E := E0) (P := P) (w := w) (N := N) (cd := cdv) S hr.hd e0 (len _ _ _ _ hsp) r x
  refine wpAny_mono (h0.nox.run [] s1 (start N vs) H _ I hq) (fun fl s' hs => ?_) fun e s' hs => hs
  cases fl with
  | ret u =>
    obtain ⟨v, σ', H', J, rv, q⟩ := hs
    exact ⟨v, H', J.os, J.bare, J.base, J.hok, rv, q⟩
  | next =>
    obtain ⟨σ', H', J, q⟩ := hs
    exact ⟨V.non, H', J.os, J.bare, J.base, J.hok, rfl, q⟩
  | brk =>
    obtain ⟨_, _, _, q⟩ := hs
    exact q.elim
  | cont =>
    obtain ⟨_, _, _, q⟩ := hs
    exact q.elim
end
section
variable {X : Cx} {k : Nat} {f : Addr} {fd : FuncData} {ps : List Str} {sp : Sp} {x : Str} {p pos : Pos} {e : Expr} {es : List Expr} {t : TA}
theorem pe_callG (F : FnG X.prog X.w X.K X.mg X.base k f fd ps sp) (hgu : X.A.guards = some []) (hr : Room k X.A) (hg : Gl X x) (hm : X.mg x = some (.ref f)) (hk : PySem.W.keepIn X.K (.ref f) = true) (hb : Binds X.K fd ps [])
    (ha : PA X (e :: es) t) (hdb : (x == ("__debug__" : Str)) = false := by decide) (he : starEach (e :: es) X.env = (false, eval e X.env) :: starEach es X.env := by rfl) (hpl : (backTo pos (starEach es X.env)).any (·.1) = false := by rfl) :
    PE X (.Call (.Name x p) (e :: es) [] pos) (tCall sp [] E0 t) := by
  refine ⟨fun pins s σ H Q I h => wpAny_Call_Name_kw (ld_glob I hg hm ?_ hdb)⟩
  refine PySem.W.callWith_K (h₀ := X.base) I.ok.mod.kin hk (thn (ha.run pos pins s σ H _ I h) fun us s1 ⟨vs, H1, I1, r, q⟩ => ⟨I1.kIn, ?_⟩) he hpl
  have q' : sp vs H1 Q E0 := by
    have z : sp (vs ++ []) H1 Q E0 := q
    rw [List.append_nil] at z
    exact z
  have hl : us.length = ps.length := by
    rw [← r.length]
    exact F.len _ _ _ _ q'
  have hbb : BindsTo s1 fd ⟨us, []⟩ (ps.zip us) := by
    have z := hb s1 us I1.kIn (by rw [List.append_nil]; exact hl)
    rw [List.append_nil] at z
    exact z
  refine wpAny_call (codeAny_mono (F.run X.A X.stack s1 H1 us vs Q hgu hr I1.env0 hbb r q') fun res s' hq => ?_)
  cases res with
  | error er => exact False.elim hq
  | ok fl =>
    cases fl with
    | ret u => exact I1.after hq
    | next => exact False.elim hq
    | brk => exact False.elim hq
    | cont => exact False.elim hq
end
/-! the end of a law whose def is called where no repr goes on -/
section
open PySem.W PySem.W.OpenLaw in
theorem walkG {l : PySem.W.OpenLaw} {n k : Nat} {q : Program} {loose : List Str} {XP : (Str → Option Value) → Heap → Prop} {YP : World → Heap → Prop} {d : DefRec} {K : Params → PySem.W.Frag} {sp : PySem.W.Frag → Sp} {x : Str}
    (hn : l.most = some n) (hn2 : n ≤ sizeLine) (hdf : d.params.defaults = []) (hr : Room k callerA)
    (hY : ∀ (w : World) (h : Heap), YP w h → (K w.params).In h)
    (F : ∀ (w : World) (mg : Str → Option Value) (fa : Addr) (h : Heap), (K w.params).In h → h.Ns mainGlobals mg → mg d.name = some (.ref fa) →
      ∃ fd : FuncData, (∀ (s : Shared) (u : Value), BindsTo s fd ⟨[u], []⟩ [(x, u)]) ∧ ∀ base : Heap, (K w.params).In base → base.Ns mainGlobals mg → FnG l.prog w (K w.params) mg base k fa fd [x] (sp (K w.params)))
    (hsp : ∀ (K : PySem.W.Frag) (H : Hp) (a : Addr) (ns : List Int), ns.length ≤ n → SqL K H a (ns.map V.int) → sp K [.ref a] H (fun v _ => v = .bl true) E0) :
    PySem.W.WalkO q loose XP YP l.row.toRowW d [] (fun f vs => PySem.call f vs) := by
  refine Att.attach_call hn hdf fun w s₀ s₁ mg mb fa o pm cd doc a vs ns G Y ho hd hcd hmg ha hi hlen hg => ?_
  have KX := hY w _ Y
  obtain ⟨fd, hb, hF⟩ := F w mg fa _ KX G.T.g hmg
  have rv := vals_ints hi
  have hl : (ns.map V.int).length ≤ sizeLine := by
    rw [List.length_map]
    exact Nat.le_trans hlen hn2
  let ob : Obj := { cls := .type "list", data := .seq vs.toArray }
  let H : Hp := fun b => if b = a ∧ (K w.params).lookup a = none then some (.frz ob (.lst (ns.map V.int))) else none
  have hH : ∀ b u, H b = some u → (b = a ∧ (K w.params).lookup a = none) ∧ u = .frz ob (.lst (ns.map V.int)) := fun b u e => by
    by_cases c : b = a ∧ (K w.params).lookup a = none
    · have z : some (HO.frz ob (.lst (ns.map V.int))) = some u := (if_pos c).symm.trans e
      exact ⟨c, (Option.some.inj z).symm⟩
    · have z : (none : Option HO) = some u := (if_neg c).symm.trans e
      cases z
  have hok : HOk l.prog w H s₁.heap := fun b u e => by
    obtain ⟨⟨rfl, _⟩, rfl⟩ := hH b u e
    exact ⟨ha, hl, vs, _, rv, ha⟩
  have hS : SqL (K w.params) H a (ns.map V.int) := by
    cases c : (K w.params).lookup a with
    | none => exact .inl (.inr ⟨ob, if_pos ⟨rfl, c⟩⟩)
    | some o2 =>
      have e := KX a o2 c
      rw [ha] at e
      cases e
      exact .inr ⟨_, vs.toArray, _, c, rfl, rfl, rfl, by rw [List.size_toArray, ← rv.length]; exact hl, rv⟩
  have dictFree : ∀ {b : Addr} {o : Obj} {es : Array DictEntry} {ep : Nat}, s₁.heap.get? b = some o → o.data = .dict es ep → H b = none := fun {b o es ep} e d => by
    cases c : H b with
    | none => rfl
    | some u =>
      obtain ⟨⟨rfl, _⟩, _⟩ := hH b u c
      rw [ha] at e
      cases e
      cases (show Data.seq vs.toArray _ = Data.dict es ep from d)
  have nsB : ∀ {b : Addr} {m : Str → Option Value}, s₁.heap.Ns b m → (hidT s₁.heap H).Ns b m := fun {b m} z => by
    obtain ⟨o, es, ep, e, d, r⟩ := z
    exact ⟨o, es, ep, hidT_get e (dictFree e d), d, r⟩
  have KB : (K w.params).In (hidT s₁.heap H) := fun b o e => hidT_get (KX b o e) (by
    cases c : H b with
    | none => rfl
    | some u =>
      obtain ⟨⟨rfl, z⟩, _⟩ := hH b u c
      rw [z] at e
      cases e)
  obtain ⟨mc, lim1, lim2⟩ := G.T.nolimit
  have e0 : Env0 l.prog w (K w.params) mg (hidT s₁.heap H) callerA [] s₁ H :=
    ⟨rfl, ⟨KB, nsB G.T.g, ⟨mb, nsB G.T.b, G.T.builtins⟩, ⟨mc, nsB lim1, lim2⟩⟩, fun b o e => of_hidT e, Nat.le_of_eq (hidT_size _ _), trivial, fun b hb => (nomatch hb), hok, .of_eq hg⟩
  refine codeAny_mono ((hF _ KB (nsB G.T.g)).run callerA [] s₁ H [.ref a] [.ref a] (fun v _ => v = .bl true) rfl hr e0 (hb s₁ (.ref a)) (.cons rfl .nil) (hsp _ H a ns hlen hS)) fun r s' h => ?_
  cases r with
  | error e => exact False.elim h
  | ok fl =>
    cases fl with
    | next => exact False.elim h
    | brk => exact False.elim h
    | cont => exact False.elim h
    | ret u =>
      obtain ⟨v, H', os, bare, un, hok', r', rfl⟩ := h
      obtain rfl : u = Value.bool true := r'
      refine ⟨rfl, OldK.of_keep fun b o e => ?_, os, bare⟩
      cases c : H b with
      | none => exact un.keep b o e c (fun z => nomatch z) (fun z => nomatch z)
      | some u =>
        obtain ⟨⟨rfl, _⟩, rfl⟩ := hH b u c
        obtain ⟨e2, _⟩ := hok' b _ (un.frzs b _ _ c)
        rw [ha] at e
        cases e
        exact e2
end
end GD
namespace GD
open PySem PySem.Spec PyProof.Rows L2
/-! a value of the tracked heap that is data throughout -/
mutual
inductive Sh (H : Hp) : V → PyData → Prop
  | non : Sh H .non .none
  | bl (b : Bool) : Sh H (.bl b) (.bool b)
  | int (i : Int) : Sh H (.int i) (.int i)
  | str (x : Str) : Sh H (.str x) (.str x)
  | lst {a : Addr} {xs : List V} {ds : List PyData} : H a = some (.lst xs) → a ≠ sysModules → ShAll H xs ds → Sh H (.ref a) (.list ds)
  | tup {a : Addr} {xs : List V} {ds : List PyData} : H a = some (.tup xs) → ShAll H xs ds → Sh H (.ref a) (.tuple ds)
  | dct {a : Addr} {kvs : List (Key × V)} {ds : List (PyData × PyData)} : H a = some (.dK kvs) → ShAll H (kvs.map fun p => kV p.1) (ds.map (·.1)) → ShAll H (kvs.map (·.2)) (ds.map (·.2)) → Sh H (.ref a) (.dict ds)
inductive ShAll (H : Hp) : List V → List PyData → Prop
  | nil : ShAll H [] []
  | cons {x : V} {d : PyData} {xs : List V} {ds : List PyData} : Sh H x d → ShAll H xs ds → ShAll H (x :: xs) (d :: ds)
end
mutual
theorem Sh.same {H H' : Hp} (k : Same H H') : ∀ {v : V} {d : PyData}, Sh H v d → Sh H' v d
  | _, _, .non => .non
  | _, _, .bl b => .bl b
  | _, _, .int i => .int i
  | _, _, .str x => .str x
  | _, _, .lst h n t => .lst (k _ _ h) n (ShAll.same k t)
  | _, _, .tup h t => .tup (k _ _ h) (ShAll.same k t)
  | _, _, .dct h t u => .dct (k _ _ h) (ShAll.same k t) (ShAll.same k u)
theorem ShAll.same {H H' : Hp} (k : Same H H') : ∀ {v : List V} {d : List PyData}, ShAll H v d → ShAll H' v d
  | _, _, .nil => .nil
  | _, _, .cons a b => .cons (Sh.same k a) (ShAll.same k b)
end
section
variable {P : Program} {w : World} {H : Hp} {h : Heap}
theorem keys_rel : ∀ {kvs : List (Key × V)} {vs : List (Key × Value)} {es : List DictEntry}, KV kvs vs → Pairs (mixKind P w) es vs → Vals (kvs.map fun p => kV p.1) (es.map (·.key)) ∧ Vals (kvs.map (·.2)) (es.map (·.val))
  | _, _, _, .nil, .nil => ⟨.nil, .nil⟩
  | _, _, _, .cons r t, .cons i e p => by
    obtain ⟨h1, h2⟩ := keys_rel t p
    obtain ⟨r1, r2⟩ := r
    refine ⟨.cons ?_ h1, .cons ?_ h2⟩
    · dsimp only
      rw [r1]
      rcases keyIs_shape i with ⟨j, t, e1, e2⟩ | ⟨x, t, e1, e2⟩
      · rw [e1, e2]
        exact ⟨t, rfl⟩
      · rw [e1, e2]
        exact ⟨t, rfl⟩
    · dsimp only
      rw [e]
      exact r2
mutual
theorem reads_of (ok : HOk P w H h) : ∀ {v : V} {d : PyData} {u : Value}, Sh H v d → RelV v u → ∃ as, Reads h u d as ∧ sysModules ∉ as
  | _, _, _, .non, r => by
    cases r
    exact ⟨_, .none, fun z => nomatch z⟩
  | _, _, _, .bl b, r => by
    cases r
    exact ⟨_, .bool b, fun z => nomatch z⟩
  | _, _, _, .int i, r => by
    obtain ⟨t, rfl⟩ := r
    exact ⟨_, .int i t, fun z => nomatch z⟩
  | _, _, _, .str x, r => by
    obtain ⟨t, rfl⟩ := r
    exact ⟨_, .str x t, fun z => nomatch z⟩
  | _, _, _, .lst (a := a) (xs := xs) e n t, r => by
    cases r
    obtain ⟨_, its, m, rv, ho⟩ := (show ObjOk P w H h a (.lst xs) from ok a _ e)
    obtain ⟨as, h1, h2⟩ := readsAll_of ok t rv
    exact ⟨_, .list ho rfl rfl h1, fun z => (List.mem_cons.mp z).elim (fun q => n q.symm) h2⟩
  | _, _, _, .tup (a := a) (xs := xs) e t, r => by
    cases r
    obtain ⟨_, its, rv, o, ho, hc, m, hd⟩ := (show ObjOk P w H h a (.tup xs) from ok a _ e)
    obtain ⟨as, h1, h2⟩ := readsAll_of ok t rv
    exact ⟨_, .tuple ho hc hd h1, h2⟩
  | _, _, _, .dct (a := a) (kvs := kvs) e t1 t2, r => by
    cases r
    obtain ⟨_, hs, vs, rel, o, es, ep, ho, hx, hd, _, hp, _⟩ := (show ObjOk P w H h a (.dK kvs) from ok a _ e)
    obtain ⟨v1, v2⟩ := keys_rel rel hp
    obtain ⟨as, h1, h2⟩ := readsAll_of ok t1 v1
    obtain ⟨bs, h3, h4⟩ := readsAll_of ok t2 v2
    refine ⟨_, .dict ho hx.1 hd h1 h3, fun z => ?_⟩
    rcases List.mem_append.mp z with z | z
    · rcases List.mem_cons.mp z with z | z
      · rw [← z] at hs
        exact absurd hs (by decide)
      · exact h2 z
    · exact h4 z
theorem readsAll_of (ok : HOk P w H h) : ∀ {vs : List V} {ds : List PyData} {us : List Value}, ShAll H vs ds → Vals vs us → ∃ as, ReadsAll h us ds as ∧ sysModules ∉ as
  | _, _, _, .nil, r => by
    cases r
    exact ⟨_, .nil, fun z => nomatch z⟩
  | _, _, _, .cons a b, r => by
    cases r with
    | cons r1 r2 =>
      obtain ⟨as, h1, h2⟩ := reads_of ok a r1
      obtain ⟨bs, h3, h4⟩ := readsAll_of ok b r2
      exact ⟨_, .cons h1 h3, fun z => (List.mem_append.mp z).elim h2 h4⟩
end
end
/-- data that repr shows within the bounds -/
def NiceD (d : PyData) : Prop := d.showable = true ∧ d.depth ≤ 20 ∧ d.shown.length ≤ sizeLine
theorem call_reprS {X : Cx} (hgu : X.A.guards = some []) (hu : X.A.units + 64 < cLine) : CallR X (.builtin "repr") (fun xs H Q => ∃ v d, xs = [v] ∧ Sh H v d ∧ NiceD d ∧ Q (.str d.shown) H) := by
  intro pins s σ H xs us Q I r h
  obtain ⟨v, d, rfl, sh, ⟨hs, hd, hz⟩, q⟩ := h
  obtain ⟨u, rfl, ru⟩ := vals1 r
  have big : ∀ a : Addr, u = .ref a → wpAny (model X.prog X.w) X.A (call (.builtin "repr") [u]) (EP X pins σ Q) X.xe s := by
    rintro a rfl
    obtain ⟨as, rd, nm⟩ := reads_of I.hok sh ru
    exact repr_of_reads' rd hs (fun _ => nm) hgu (by omega) (fun _ _ e => e) (fun h' t tk k => ⟨.str d.shown, H, I.kept (t' := tk) k, ⟨_, rfl⟩, q⟩) hz
  cases sh with
  | non =>
    cases ru
    exact PySem.P.repr_of_none ⟨.str _, H, I.tok _, ⟨_, rfl⟩, q⟩
  | bl b =>
    cases ru
    exact PySem.P.repr_of_bool ⟨.str _, H, I.tok _, ⟨_, rfl⟩, q⟩
  | int i =>
    obtain ⟨t, rfl⟩ := ru
    exact PySem.P.repr_of_int (of_decide_eq_true hs) ⟨.str _, H, I.tok _, ⟨_, rfl⟩, q⟩
  | str x =>
    obtain ⟨t, rfl⟩ := ru
    exact PySem.P.repr_of_str ⟨.str _, H, I.tok _, ⟨_, rfl⟩, q⟩ hz
  | lst e n t => exact big _ ru
  | tup e t => exact big _ ru
  | dct e t u => exact big _ ru
end GD
namespace PySem.W
open PySem PySem.Spec PySem.Calls PyProof.Rows
section
variable {prog : Program} {w : World} {A : Around} {E : Value → Shared → Prop} {s : Shared} {K : Frag} {x D : Addr} {ox : Obj} {od : Option Obj}
theorem gd_findObj {C : Addr} {name : Str} {a g : Value} (hc : (clsIn K C).isSome = true) (ha : findIn K (.ref C) name = some (some a)) (hg : specialIn K a "__get__" = some (some g)) (ht : takesIn K a = some true) : findObj K C od name = some (.bind g a) := by
  obtain ⟨cd, hc⟩ := Option.isSome_iff_exists.mp hc
  unfold findObj
  rw [hc, Option.bind_some, ha, Option.bind_some]
  simp [hg, ht]
theorem gd_class {Q : Option Value → Shared → Prop} (hga : findIn K (.ref D) "__getattribute__" = some (some (.builtin "BaseException.__getattribute__"))) (hgt : findIn K (.ref D) "__getattr__" = some none) (hsub : subIn K (.ref D) (.type "BaseException") = some true)
    (hdct : hasDictIn K D = true) (ha : findIn K (.ref D) "__class__" = some (some (.builtin "object.__class__")))
    (hn : specialIn K (.builtin "object.__class__") "__get__" = some (some (.builtin "getset_descriptor.__get__"))) (htk : takesIn K (.builtin "object.__class__") = some true) (hm : mroIn K D (.type "object") = some true)
    (X : K.In s.heap) (I : InstAt s.heap x ox D od) (h : Q (some (.ref D)) { s with toks := s.toks + 1 }) : wpAny (model prog w) A (getAttr? (.ref x) "__class__") Q E s := by
  have hf : findObj K D od "__class__" = some (.bind (.builtin "getset_descriptor.__get__") (.builtin "object.__class__")) := gd_findObj (by obtain ⟨cd, hc, _⟩ := any_some hdct; rw [hc]; rfl) ha hn htk
  obtain ⟨hp, g, d, t, os⟩ := s
  have T0 := I.type (M := model prog w)
  have T1 := looks_findIn (M := model prog w) X hga
  have T2 := looks_findIn (M := model prog w) X hgt
  have T3 := looks_find (M := model prog w) X I hf
  have sub : Looks (model prog w) hp (isInstance (.ref x) (.type "BaseException")) true := T0.andThen (looks_subIn X hsub)
  have n2 : (Value.builtin "BaseException.__getattribute__" == Value.builtin "object.__getattribute__") = false := by decide +kernel
  have n1 : (onTheHeap (Value.ref D) && Value.builtin "BaseException.__getattribute__" == Value.builtin "object.__getattribute__") = false := by rw [n2]; rfl
  unfold getAttr? getAttrBy? getAttrBy
  refine wpAny_bind (wpAny_mkText (wpAny_bind (wpAny_attempt (wpAny_holding (wpAny_bind (T0.at (wpAny_bind (T1.at ?_))))))))
  show wpAny _ _ (if (onTheHeap (Value.ref D) && Value.builtin "BaseException.__getattribute__" == Value.builtin "object.__getattribute__") = true then _ else _) _ _ _
  rw [n1, if_neg Bool.false_ne_true]
  unfold getAttrByItsOwn hookBefore
  refine wpAny_bind ?_
  rw [if_pos (show onTheHeap (Value.ref D) = true from rfl)]
  refine T2.at ?_
  refine wpAny_bind (wpAny_attempt (wpAny_holding ?_))
  unfold callGetattribute
  rw [show (false && onTheHeap (Value.builtin "BaseException.__getattribute__")) = false from rfl, if_neg Bool.false_ne_true]
  unfold boundAndCalled
  rw [PySem.F.excAttr_ValueError.ga.bind (.ref x)]
  refine wpAny_bind (wpAny_pure ?_)
  show wpAny _ _ (call (.builtin "BaseException.__getattribute__") [.ref x, .str "__class__" t]) _ _ _
  refine wpAny_call (codeAny_call_builtin PySem.F.excAttr_ValueError.ga.plain PySem.F.entry_bexc_ga ?_)
  refine @check_slot (model prog w) _ _ ⟨hp, g, d, t + 1, os⟩ "BaseException.__getattribute__" "BaseException" "__getattribute__" (.ref x) [.str "__class__" t] [] _ (by decide +kernel) (by decide +kernel) sub (PySem.F.args_bexc_ga (.ref x) (.str "__class__" t)) ?_
  unfold Builtin.«object.__getattribute__»
  refine wpAny_bind (wpAny_of_eq (a := ((Value.ref x : Value), [Value.str "__class__" t])) (by first | rfl | (simp only [slotArgs]; rfl)) ?_)
  refine wpAny_bind (wpAny_pure (wpAny_bind (T0.at (wpAny_bind (T3.at ?_)))))
  show wpAny _ _ (holding [Value.builtin "object.__class__"] (call (.builtin "getset_descriptor.__get__") [.builtin "object.__class__", .ref x, .ref D]) >>= ret) _ _ _
  refine wpAny_bind (wpAny_holding (wpAny_call (class_get (s := ⟨hp, g, d, t + 1, os⟩) (ox := ox) (od := od) X I hm ?_)))
  refine wpAny_pure ?_
  show wpAny _ _ (handedOut (.ref D)) _ _ _
  rw [handedOut_of (v := .ref D) rfl]
  first
    | exact wpAny_pure (wpAny_pure h)
    | exact wpAny_pure h
    | exact wpAny_pure (wpAny_bind (wpAny_pure (wpAny_pure h)))
theorem gd_kit (hga : findIn K (.ref D) "__getattribute__" = some (some (.builtin "BaseException.__getattribute__"))) (hgt : findIn K (.ref D) "__getattr__" = some none) (hsub : subIn K (.ref D) (.type "BaseException") = some true) (hdct : hasDictIn K D = true) (ha : findIn K (.ref D) "__class__" = some (some (.builtin "object.__class__")))
    (hn : specialIn K (.builtin "object.__class__") "__get__" = some (some (.builtin "getset_descriptor.__get__"))) (htk : takesIn K (.builtin "object.__class__") = some true) (hm : mroIn K D (.type "object") = some true) :
    KitX K (.ref x) (.ref D) (fun h => InstAt h x ox D od) where
  ty := fun _ _ _ I => I.type
  it := fun _ _ X _ => by
    obtain ⟨cd, hc, _⟩ := any_some hdct
    unfold clsIn at hc
    split at hc
    · rename_i c' d' cd' sl' ho
      intro A' Q' E' s' k q
      unfold isType loadHead
      exact wpAny_bind (wpAny_loadPart (k _ _ (X _ _ ho)) (wpAny_pure q))
    · cases hc
  ne := fun h tp dd its n sl X htp => by
    obtain ⟨cd, hc, _⟩ := any_some hdct
    refine Bool.eq_false_iff.mpr fun q => ?_
    have e : D = tp := Value.ref.inj (beq_iff_eq.mp q)
    subst e
    unfold clsIn at hc
    split at hc
    · rename_i c' d' cd' sl' ho
      have z := (X _ _ ho).symm.trans htp
      cases z
    · cases hc
  ca := fun X I k => gd_class hga hgt hsub hdct ha hn htk hm X I k
end
end PySem.W
namespace GD
open PySem PySem.Spec PyProof.Rows L2
/-! errors that keep their value -/
/-- what the written part says of such a class; fI: its __init__ -/
structure EC (K : PySem.W.Frag) (C fI : Addr) : Prop where
  ox : OexC K C
  ini : PySem.W.findIn K (.ref C) "__init__" = some (some (.ref fI))
  nv : PySem.W.findIn K (.ref C) "value" = some none
  ga : PySem.W.findIn K (.ref C) "__getattribute__" = some (some (.builtin "BaseException.__getattribute__"))
  gt : PySem.W.findIn K (.ref C) "__getattr__" = some none
  hd : PySem.W.hasDictIn K C = true
  cl : PySem.W.findIn K (.ref C) "__class__" = some (some (.builtin "object.__class__"))
  cg : PySem.W.specialIn K (.builtin "object.__class__") "__get__" = some (some (.builtin "getset_descriptor.__get__"))
  ct : PySem.W.takesIn K (.builtin "object.__class__") = some true
  ob : PySem.W.mroIn K C (.type "object") = some true
/-- an error of the class C at e, that keeps v -/
def ErrAt (H : Hp) (e C : Addr) (v : V) : Prop := ∃ d, H e = some (exo e C (some d)) ∧ H d = some (exd d [(("value" : Str), v)])
theorem ErrAt.same {H H' : Hp} {e C : Addr} {v : V} (k : Same H H') (h : ErrAt H e C v) : ErrAt H' e C v := by
  obtain ⟨d, h1, h2⟩ := h
  exact ⟨d, k _ _ h1, k _ _ h2⟩
def spInit (K : PySem.W.Frag) : Sp := fun vs H Q _ => ∃ (e C : Addr) (v : V), vs = [.ref e, v] ∧ OexC K C ∧ PySem.W.findIn K (.ref C) "value" = some none ∧ H e = some (exo e C none) ∧
  ∀ d : Addr, H d = none → d ≠ e → Q .non (upd (upd H d (exd d [(("value" : Str), v)])) e (exo e C (some d)))
section
variable {X : Cx} {C fI : Addr} {x : Str} {p pos : Pos} {e : Expr} {es : List Expr} {ta : TA} {te : TE} {k : Nat} {fd : FuncData}
/-- C(e) -/
def tErr (C : Addr) (ta : TA) : TE := fun σ H Q => ta σ H fun vs H1 => ∃ v, vs = [v] ∧ ∀ a H2, H1 a = none → Same H1 H2 → ErrAt H2 a C v → Q (.ref a) H2
theorem pe_mkErr (T : EC X.K C fI) (tI : PySem.W.typeIn X.K (.ref fI) = some (.type "function")) (F : FnOk X.prog X.w X.K X.mg X.base CX0 k fI fd ["self", "value"] (spInit X.K)) (hr : Room (k + 1) X.A) (hb : Binds X.K fd ["self", "value"] [])
    (hg : Gl X x) (hm : X.mg x = some (.ref C)) (ha : PA X (e :: es) ta) (hdb : (x == ("__debug__" : Str)) = false := by decide) (he : starEach (e :: es) X.env = (false, eval e X.env) :: starEach es X.env := by rfl)
    (hpl : (backTo pos (starEach es X.env)).any (·.1) = false := by rfl) : PE X (.Call (.Name x p) (e :: es) [] pos) (tErr C ta) := by
  refine ⟨fun pins s σ H Q I h => ?_⟩
  obtain ⟨nm, q, N, bs, bm, sn, sub, ab, col, dd, k0, k1, k2, k3, k5, hC, hbm⟩ := T.ox.cls
  refine wpAny_Call_Name_kw (ld_glob I hg hm ?_ hdb)
  refine PySem.W.callWith_K (h₀ := X.base) I.ok.mod.kin T.ox.kC (thn (ha.run pos pins s σ H _ I h) fun us s1 ⟨vs, H1, I1, r1, v, ev, q1⟩ => ⟨I1.kIn, ?_⟩) he hpl
  subst ev
  show wpAny _ _ (call (.ref C) us) _ _ _
  obtain ⟨hp, g, dr, tk, os⟩ := s1
  have hsz : hp.objs.size ≤ hp.objs.size + 1 := Nat.le_succ _
  have hn : H1 (hp.objs.size + 1) = none := I1.hok.fresh hsz
  have old : ∀ b o, hp.get? b = some o → ((hp.push (PySem.W.kdv_tup us)).push (PySem.HandSPX.excO C hp.objs.size)).get? b = some o := fun b o e => Heap.get?_push_of_some _ (Heap.get?_push_of_some _ e)
  have new : ((hp.push (PySem.W.kdv_tup us)).push (PySem.HandSPX.excO C hp.objs.size)).get? (hp.objs.size + 1) = some (PySem.HandSPX.excO C hp.objs.size) := by heap_get
  have I2 : Inv X pins σ (upd H1 (hp.objs.size + 1) (exo (hp.objs.size + 1) C none)) ⟨(hp.push (PySem.W.kdv_tup us)).push (PySem.HandSPX.excO C hp.objs.size), g, dr, tk, os⟩ := I1.laid (t' := tk) (a := hp.objs.size + 1) (o := exo (hp.objs.size + 1) C none) (h' := (hp.push (PySem.W.kdv_tup us)).push (PySem.HandSPX.excO C hp.objs.size)) old hsz (exo_ok new)
  have r2 : Vals [V.ref (hp.objs.size + 1), v] (Value.ref (hp.objs.size + 1) :: us) := .cons rfl r1
  have hl : us.length = 1 := r1.length.symm
  have hq : spInit X.K [V.ref (hp.objs.size + 1), v] (upd H1 (hp.objs.size + 1) (exo (hp.objs.size + 1) C none)) (fun u H2 => u = .non ∧ Q (.ref (hp.objs.size + 1)) H2) E0 := by
    refine ⟨_, C, v, rfl, T.ox, T.nv, upd_same, fun d hd hde => ⟨rfl, q1 _ _ hn (fun b o e => ?_) ⟨d, upd_same, ?_⟩⟩⟩
    · have n1 : b ≠ hp.objs.size + 1 := ne_of_none e hn
      have n2 : b ≠ d := fun z => by
        rw [z] at e
        rw [upd_ne hde, e] at hd
        cases hd
      rw [upd_ne n1, upd_ne n2, upd_ne n1]
      exact e
    · rw [upd_ne hde, upd_same]
  have hbb : BindsTo (⟨(hp.push (PySem.W.kdv_tup us)).push (PySem.HandSPX.excO C hp.objs.size), g, dr, tk, os⟩ : Shared) fd ⟨Value.ref (hp.objs.size + 1) :: us, []⟩ ((["self", "value"] : List Str).zip (Value.ref (hp.objs.size + 1) :: us)) := by
    have z := hb _ (Value.ref (hp.objs.size + 1) :: us) I2.kIn (by rw [List.append_nil, List.length_cons, hl]; rfl)
    rw [List.append_nil] at z
    exact z
  refine wpAny_call (PySem.HandSPX.call_own PySem.F.excBase_ValueError (fun Y => PySem.HandSPX.refsVE_contains Y bm hbm) (I1.kIn _ _ hC) (PySem.W.looks_findIn I1.kIn T.ini) (fun self => PySem.W.bind_fn I1.kIn self tI) (by rw [hl, sizeLine_eq]; omega)
    (codeAny_mono (F.run _ X.stack _ _ ⟨Value.ref (hp.objs.size + 1) :: us, []⟩ _ _ _ E0 (hr.make C us []) (I2.env0.make C us []) hbb r2 hq) fun r s' hq' => ?_))
  cases r with
  | error er => exact False.elim hq'
  | ok fl =>
    cases fl with
    | ret u =>
      obtain ⟨y, H3, I3, ry, ey, q3⟩ := I2.after hq'
      subst ey
      exact ⟨ry, ⟨V.ref (hp.objs.size + 1), H3, I3, rfl, q3⟩⟩
    | next => exact False.elim hq'
    | brk => exact False.elim hq'
    | cont => exact False.elim hq'
theorem err_inst {pins : List (Addr × Obj)} {σ : L2.St} {H : Hp} {s : Shared} {a : Addr} {v : V} (I : Inv X pins σ H s) (h : ErrAt H a C v) : ∃ oe od u, PySem.W.InstAt s.heap a oe C (some od) ∧ PySem.W.lookIn "value" od = some (some u) ∧ RelV v u := by
  obtain ⟨d, h1, h2⟩ := h
  obtain ⟨t1, ho⟩ := exo_at I.hok h1
  obtain ⟨mA, hns, rel⟩ := exd_at I.hok h2
  obtain ⟨od, hod, hl⟩ := lookIn_ns hns
  have l : List.lookup ("value" : Str) [(("value" : Str), v)] = some v := by simp [List.lookup]
  obtain ⟨u, hu, ru⟩ := RelO.some_of (v := v) (o := mA "value") (by rw [← l]; exact rel "value")
  exact ⟨_, od, u, ⟨ho, rfl, rfl, hod⟩, by rw [hl, hu], ru⟩
/-- e.value -/
def tVal (K : PySem.W.Frag) (te : TE) : TE := fun σ H Q => te σ H fun x H1 => ∃ a C fI v, x = .ref a ∧ EC K C fI ∧ ErrAt H1 a C v ∧ Q v H1
theorem pe_val (he : PE X e te) (hb : attributeBase e "value" X.env (eval e X.env) = eval e X.env := by rfl) : PE X (.Attribute e "value" pos) (tVal X.K te) := by
  refine ⟨fun pins s σ H Q I h => ?_⟩
  refine attr_of hb (thn (he.run pins s σ H _ I h) fun u s1 hh => ?_)
  obtain ⟨x, H1, I1, rx, a, C, fI, v, ex, T, ea, q⟩ := hh
  subst ex
  obtain rfl : u = Value.ref a := rx
  obtain ⟨oe, od, u, J, hl, ru⟩ := err_inst I1 ea
  exact HandSPX.exc_get I1.kIn J T.ga T.gt T.ox.exC (PySem.W.findObj_own T.hd T.nv rfl hl) (handed_of ru) ⟨v, H1, I1.tok _, ru, q⟩
/-- isinstance(e, c), e such an error -/
def rIsErr (K : PySem.W.Frag) : List V → Hp → VK → Prop := fun xs H Q => ∃ (a C fI : Addr) (v c : V) (u : Value) (b : Bool), xs = [.ref a, c] ∧ EC K C fI ∧ ErrAt H a C v ∧ ClsV c u ∧ PySem.W.kitOne K (.ref C) u = some b ∧ Q (.bl b) H
theorem call_isErr : CallR X (.builtin "isinstance") (rIsErr X.K) := by
  intro pins s σ H xs us Q I r h
  obtain ⟨a, C, fI, v, c, u, b, rfl, T, ea, k, e, q⟩ := h
  obtain ⟨u1, u2, rfl, r1, r2⟩ := vals2 r
  have e2 := k.eq r2
  subst e2
  obtain rfl : u1 = Value.ref a := r1
  obtain ⟨oe, od, u, J, _, _⟩ := err_inst I ea
  exact PySem.W.kia_one (PySem.W.gd_kit T.ga T.gt T.ox.exC T.hd T.cl T.cg T.ct T.ob) I.kIn J e (fun z => nomatch z) fun tk => ⟨.bl b, H, I.tok tk, rfl, q⟩
/-- a list display, its place not the modules' dict -/
def tLstN (t : TA) : TE := fun σ H Q => t σ H fun xs H1 => xs.length ≤ sizeLine ∧ ∀ p, H1 p = none → p ≠ sysModules → Q (.ref p) (upd H1 p (.lst xs))
theorem pe_lstN (h : PA X es ta) : PE X (.List es pos) (tLstN ta) := by
  refine ⟨fun pins s σ H Q I hq => wpAny_List_spliced (thn (h.run pos pins s σ H _ I hq) fun us s1 ⟨xs, H1, I1, r, z, q⟩ => ⟨by rw [← r.length]; exact z, ?_⟩)⟩
  have hf : H1 s1.heap.objs.size = none := I1.hok.fresh (Nat.le_refl _)
  have J := I1.laid (t' := s1.toks) (a := s1.heap.objs.size) (o := .lst xs) (h' := s1.heap.push { cls := .type "list", data := .seq us.toArray }) (fun b u e => Heap.get?_push_of_some _ e) (Nat.le_refl _) ⟨z, us, 0, r, Heap.get?_push_size _ rfl⟩
  exact ⟨.ref s1.heap.objs.size, _, J, rfl, q _ hf (Nat.ne_of_gt I1.big)⟩
end
end GD
namespace GD
open PySem PySem.Spec PyProof.Rows L2
/-! written data: what a display of constants gives -/
/-- what stands in H' and did not in H -/
def minus (H H' : Hp) : Hp := fun b => if (H b).isSome = true then none else H' b
theorem minus_some {H H' : Hp} {b : Addr} {o : HO} : minus H H' b = some o ↔ H b = none ∧ H' b = some o := by
  unfold minus
  cases c : H b with
  | none => simp
  | some u => simp
theorem minus_of {H H' : Hp} {b : Addr} {o : HO} (h : H b = none) (h' : H' b = some o) : minus H H' b = some o := minus_some.mpr ⟨h, h'⟩
theorem same_new {H : Hp} {p : Addr} {o : HO} (h : H p = none) : Same H (upd H p o) := fun b u e => by
  rw [upd_ne (ne_of_none e h)]
  exact e
theorem minus_right {H H1 H2 : Hp} (k : Same H1 H2) : Same (minus H H1) (minus H H2) := fun b o e => by
  obtain ⟨h1, h2⟩ := minus_some.mp e
  exact minus_of h1 (k _ _ h2)
theorem minus_left {H H1 H2 : Hp} (k : Same H H1) : Same (minus H1 H2) (minus H H2) := fun b o e => by
  obtain ⟨h1, h2⟩ := minus_some.mp e
  exact minus_of (k.free h1) h2
/-- e gives the data d, new -/
def tD (d : PyData) : TE := fun _ H Q => ∀ v H', Same H H' → Sh (minus H H') v d → Q v H'
def tDs (ds : List PyData) : TA := fun _ H Q => ∀ vs H', Same H H' → ShAll (minus H H') vs ds → Q vs H'
theorem ShAll.length {H : Hp} : ∀ {vs : List V} {ds : List PyData}, ShAll H vs ds → vs.length = ds.length
  | _, _, .nil => rfl
  | _, _, .cons _ t => by rw [List.length_cons, List.length_cons, ShAll.length t]
theorem ShAll.mem {H : Hp} : ∀ {vs : List V} {ds : List PyData}, ShAll H vs ds → ∀ v ∈ vs, ∃ d ∈ ds, Sh H v d
  | _, _, .nil, _, h => nomatch h
  | _, _, .cons a t, v, h => by
    rcases List.mem_cons.mp h with z | z
    · rw [z]
      exact ⟨_, List.mem_cons_self, a⟩
    · obtain ⟨d, m, s⟩ := ShAll.mem t v z
      exact ⟨d, List.mem_cons_of_mem _ m, s⟩
section
variable {X : Cx} {e : Expr} {es : List Expr} {te te' : TE} {t t' : TA} {d : PyData} {ds : List PyData} {pos : Pos}
theorem pe_imp (h : PE X e te) (i : ∀ σ H Q, te' σ H Q → te σ H Q) : PE X e te' := ⟨fun pins s σ H Q I q => h.run pins s σ H Q I (i σ H Q q)⟩
theorem pa_imp (h : PA X es t) (i : ∀ σ H Q, t' σ H Q → t σ H Q) : PA X es t' := ⟨fun pos pins s σ H Q I q => h.run pos pins s σ H Q I (i σ H Q q)⟩
theorem pd_c {v : V} (h : PE X e (tC v)) (s : ∀ M, Sh M v d) : PE X e (tD d) := pe_imp h fun σ H Q q => q v H (Same.refl H) (s _)
theorem pds_nil : PA X [] (tDs []) := pa_imp pa_nil fun σ H Q q => q [] H (Same.refl H) .nil
theorem pds_cons (h : PE X e (tD d)) (ht : PA X es (tDs ds)) (hs : starEach (e :: es) X.env = (false, eval e X.env) :: starEach es X.env := by rfl) : PA X (e :: es) (tDs (d :: ds)) := pa_imp (pa_cons h ht hs) fun σ H Q q => by
  intro v H1 s1 h1 vs H2 s2 h2
  exact q (v :: vs) H2 (s1.trans s2) (.cons (h1.same (minus_right s2)) (h2.same (minus_left s1)))
theorem pd_tup {x1 : Nat} (h : PA X es (tDs ds)) (hz : ds.length ≤ 1000) : PE X (.Tuple es x1 pos) (tD (.tuple ds)) := pe_imp (pe_tup h) fun σ H Q q => by
  intro vs H1 s1 h1
  refine ⟨by rw [h1.length]; exact Nat.le_of_lt (small1000 hz), fun p hp => q _ _ (s1.trans (same_new hp)) (.tup (minus_of (s1.free hp) upd_same) (h1.same (minus_right (same_new hp))))⟩
theorem pd_lst (h : PA X es (tDs ds)) (hz : ds.length ≤ 1000) : PE X (.List es pos) (tD (.list ds)) := pe_imp (pe_lstN h) fun σ H Q q => by
  intro vs H1 s1 h1
  refine ⟨by rw [h1.length]; exact Nat.le_of_lt (small1000 hz), fun p hp np => q _ _ (s1.trans (same_new hp)) (.lst (minus_of (s1.free hp) upd_same) np (h1.same (minus_right (same_new hp))))⟩
theorem pd_dict0 : PE X (.Dict [] [] pos) (tD (.dict [])) := pe_imp pe_dnewK fun σ H Q q => by
  intro p hp
  exact q _ _ (same_new hp) (.dct (kvs := []) (minus_of hp upd_same) .nil .nil)
theorem pd_dict1 {z : Str} {k : Expr} (hk : PE X k (tC (.str z))) (h : PE X e (tD d)) : PE X (.Dict [some k] [e] pos) (tD (.dict [(.str z, d)])) := pe_imp (pe_disp (pps_cons hk h pps_nil) (by rfl) (by rfl) (fun z => by cases z) (by show 1 ≤ 15; decide)) fun σ H Q q => by
  intro p hp v H1 s1 h1
  have e1 := s1 _ _ (upd_same (H := H) (a := p) (o := .dK []))
  refine ⟨e1, [(.inr z, v)], rfl, (by show 1 ≤ 15; decide), q _ _ (fun b o e => ?_) ?_⟩
  · have nb := ne_of_none e hp
    rw [upd_ne nb]
    exact s1 _ _ (by rw [upd_ne nb]; exact e)
  · refine .dct (kvs := [(.inr z, v)]) (minus_of hp upd_same) (.cons (.str z) .nil) (.cons (h1.same fun b o e => ?_) .nil)
    obtain ⟨h3, h4⟩ := minus_some.mp e
    have nb : b ≠ p := fun z => by
      rw [z, upd_same] at h3
      cases h3
    rw [upd_ne nb] at h3
    exact minus_of h3 (by rw [upd_ne nb]; exact h4)
end
end GD
namespace GD
open PySem PySem.Spec PyProof.Rows L2
/-- a pot at a: what is left of the own number, the small one, how many were taken (at most z) -/
def PotAt (H : Hp) (a : Addr) (z : Int) : Prop := ∃ x y c : Int, H a = some (.lst [.int x, .int y, .int c]) ∧ 0 ≤ x ∧ 0 ≤ y ∧ y < 2305843009213693921 ∧ 0 ≤ c ∧ c ≤ z
/-- all but a is as it was -/
def Keep (a : Addr) (H H' : Hp) : Prop := ∀ b o, b ≠ a → H b = some o → H' b = some o

def spPot (K : PySem.W.Frag) : Sp := fun vs H Q _ => ∃ (s : Addr) (ns : List Int) (pl : Int), vs = [.ref s, .int pl] ∧ SqL K H s (ns.map V.int) ∧ 0 ≤ pl ∧ pl ≤ 1000 ∧
  ∀ (p : Addr) H', H p = none → PotAt H' p 0 → Same H H' → Q (.ref p) H'
def spTake : Sp := fun vs H Q _ => ∃ (a : Addr) (u z : Int), vs = [.ref a, .int u] ∧ PotAt H a z ∧ z ≤ 100000 ∧ 0 < u ∧ u ≤ 10000000000000 ∧
  ∀ (k : Int) H', 0 ≤ k → k < u → PotAt H' a (z + 1) → Keep a H H' → Q (.int k) H'
def spOf (K : PySem.W.Frag) : Sp := fun vs H Q _ => ∃ (a l : Addr) (xs : List V) (z : Int), vs = [.ref a, .ref l] ∧ PotAt H a z ∧ z ≤ 100000 ∧ l ≠ a ∧ H l = some (.lst xs) ∧ xs ≠ [] ∧ xs.length ≤ 1000 ∧
  ∀ v H', v ∈ xs → PotAt H' a (z + 1) → Keep a H H' → Q v H'
def spCells (K : PySem.W.Frag) : Sp := fun vs H Q _ => ∃ (s : Addr) (ns : List Int) (m : Int), vs = [.ref s, .int m] ∧ SqL K H s (ns.map V.int) ∧ 1 ≤ m ∧ m ≤ 1000 ∧
  ∀ (p : Addr) (n : Int), H p = none → 0 ≤ n → n ≤ m → Q (.ref p) (upd H p (.lst (rgV 0 n)))

structure TxtA (mg : Str → Option Value) : Prop where
  len : mg "len" = none
  abs : mg "abs" = none
  int : mg "int" = none
  max : mg "max" = none
  min : mg "min" = none
  list : mg "list" = none
  range : mg "range" = none

theorem five (c : Int) : ∃ pr : Int, atI [V.int 2147483647, V.int 2147483629, V.int 2147483587, V.int 2147483579, V.int 2147483563] (c % 5) = some (.int pr) ∧ 0 < pr ∧ pr ≤ 2147483647 := by
  have h0 := Int.emod_nonneg c (show (5 : Int) ≠ 0 by decide)
  have h1 := Int.emod_lt_of_pos c (show (0 : Int) < 5 by decide)
  generalize c % 5 = r at h0 h1
  have hr : r = 0 ∨ r = 1 ∨ r = 2 ∨ r = 3 ∨ r = 4 := by omega
  rcases hr with rfl | rfl | rfl | rfl | rfl
  all_goals exact ⟨_, rfl, by decide, by decide⟩
theorem sq_small {k c : Int} (k0 : 0 ≤ k) (k1 : k ≤ 110000) (h0 : 0 ≤ c) (h1 : c ≤ 100001) : 0 ≤ k * c * c ∧ k * c * c ≤ 1152921504606846976 := by
  have a : 0 ≤ k * c := Int.mul_nonneg k0 h0
  have b : k * c ≤ 110000 * 100001 := Int.mul_le_mul k1 h1 h0 (by decide)
  exact ⟨Int.mul_nonneg a h0, Int.le_trans (Int.mul_le_mul b h1 h0 (by decide)) (by decide)⟩
theorem at_ints {ns : List Int} {i : Int} (h0 : 0 ≤ i) (h1 : i < ((ns.map V.int).length : Nat)) : ∃ n : Int, atI (ns.map V.int) i = some (.int n) := by
  obtain ⟨j, rfl⟩ := Int.eq_ofNat_of_zero_le h0
  have hj : j < ns.length := by
    rw [List.length_map] at h1
    omega
  exact ⟨ns[j], atI_nat (by rw [List.getElem?_map, List.getElem?_eq_getElem hj]; rfl)⟩
theorem at_mem {xs : List V} {i : Int} (h0 : 0 ≤ i) (h1 : i < (xs.length : Nat)) : ∃ v, atI xs i = some v ∧ v ∈ xs := by
  obtain ⟨j, rfl⟩ := Int.eq_ofNat_of_zero_le h0
  have hj : j < xs.length := by omega
  exact ⟨xs[j], atI_nat (List.getElem?_eq_getElem hj), List.getElem_mem hj⟩
theorem ite_gen {c : Prop} [Decidable c] {ta tb : TE} {σ : L2.St} {H : Hp} {Q : VK} (key : ∀ n : Int, Q (.int n) H) (h : (∀ n : Int, Q (.int n) H) → if c then ta σ H Q else tb σ H Q) : if c then ta σ H Q else tb σ H Q := h key
theorem b01 (b : Bool) : (-(2 ^ 64) < (if b = true then (1 : Int) else 0)) ∧ ((if b = true then (1 : Int) else 0) < 2 ^ 64) ∧ 0 ≤ (if b = true then (1 : Int) else 0) := by cases b <;> decide
theorem mm (m : Int) (l : Nat) (h : 1 ≤ m) : 0 ≤ (if (if (l : Int) < m then (l : Int) else m) > 1 then (if (l : Int) < m then (l : Int) else m) else 1) ∧ (if (if (l : Int) < m then (l : Int) else m) > 1 then (if (l : Int) < m then (l : Int) else m) else 1) ≤ m := by
  split <;> split <;> omega
def CPowB (i j : Int) : Prop := 0 ≤ j ∧ (Builtin.Int.intBits i : Int) * j ≤ 2 ^ 27
theorem op_powB {X : Cx} : OpR X (binaryOp .Pow) (rI CPowB fun i j => .int (i ^ j.toNat)) := opI fun _ _ _ _ _ _ _ hc q => pow_int hc.1 hc.2 q
/-! a value beside a pot at a -/
def Bes (a : Addr) (H : Hp) (v : V) (d : PyData) : Prop := Sh (del H a) v d
theorem del_some {H : Hp} {a b : Addr} {o : HO} : del H a b = some o ↔ b ≠ a ∧ H b = some o := by
  unfold del
  by_cases h : b = a
  · rw [if_pos h]
    exact ⟨fun z => (nomatch z), fun z => absurd h z.1⟩
  · rw [if_neg h]
    exact ⟨fun z => ⟨h, z⟩, fun z => z.2⟩
theorem Bes.keep {a : Addr} {H H' : Hp} {v : V} {d : PyData} (k : Keep a H H') (h : Bes a H v d) : Bes a H' v d := h.same fun b o e => by
  obtain ⟨h1, h2⟩ := del_some.mp e
  exact del_some.mpr ⟨h1, k b o h1 h2⟩
theorem Bes.all {a : Addr} {H : Hp} {v : V} {d : PyData} (h : Bes a H v d) : Sh H v d := h.same fun b o e => (del_some.mp e).2
theorem bes_of {a : Addr} {H H' : Hp} {v : V} {d : PyData} {o : HO} (ha : H a = some o) (h : Sh (minus H H') v d) : Bes a H' v d := h.same fun b u e => by
  obtain ⟨h1, h2⟩ := minus_some.mp e
  refine del_some.mpr ⟨fun z => ?_, h2⟩
  rw [z, ha] at h1
  cases h1
theorem minus_keep {a : Addr} {H H1 H2 : Hp} {o : HO} (ha : H a = some o) (k : Keep a H1 H2) : Same (minus H H1) (minus H H2) := fun b u e => by
  obtain ⟨h1, h2⟩ := minus_some.mp e
  refine minus_of h1 (k b u (fun z => ?_) h2)
  rw [z, ha] at h1
  cases h1
theorem keep_new {a p : Addr} {H : Hp} {o : HO} (h : H p = none) : Keep a H (upd H p o) := fun b u _ e => same_new h b u e
theorem Keep.trans {a : Addr} {H H1 H2 : Hp} (x : Keep a H H1) (y : Keep a H1 H2) : Keep a H H2 := fun b o n e => y b o n (x b o n e)
theorem sKeep {a : Addr} {H H1 : Hp} (x : Same H H1) : Keep a H H1 := fun b o _ e => x b o e
theorem PotAt.there {H : Hp} {a : Addr} {z : Int} (h : PotAt H a z) : ∃ o, H a = some o := by
  obtain ⟨x, y, c, e, _⟩ := h
  exact ⟨_, e⟩
theorem PotAt.same {H H' : Hp} {a : Addr} {z : Int} (k : Same H H') (h : PotAt H a z) : PotAt H' a z := by
  obtain ⟨x, y, c, e, r⟩ := h
  exact ⟨x, y, c, k _ _ e, r⟩
theorem PotAt.le {H : Hp} {a : Addr} {z y : Int} (h : PotAt H a z) (l : z ≤ y) : PotAt H a y := by
  obtain ⟨x, y, c, e, r1, r2, r3, r4, r5⟩ := h
  exact ⟨x, y, c, e, r1, r2, r3, r4, by omega⟩
theorem PotAt.upd_ne {H : Hp} {a b : Addr} {z : Int} {o : HO} (n : b ≠ a) (h : PotAt H a z) : PotAt (upd H b o) a z := by
  obtain ⟨x, y, c, e, r⟩ := h
  exact ⟨x, y, c, (L2.upd_ne n.symm).trans e, r⟩
/-! the menu -/
abbrev dI (i : Int) : PyData := .int i
abbrev dS (x : Str) : PyData := .str x
def some18 : List PyData := [.none, .bool true, .bool false, dI 0, dI 1, dI (-1), dI 41, dI (10 ^ 8), dS "", dS "a", dS "begin", dS "let", .tuple [], .list [], .dict [], .tuple [dI 0], .tuple [.tuple []], .list [dI 0]]
def more7 : List PyData := [.tuple [.tuple [dI 0, dI 0]], .tuple [.tuple [dS "begin", dS "a"]], .tuple [dS "let", .tuple [.tuple [dI 0, dI 0]]], .tuple [dI 1, .tuple [], .tuple []], .tuple [dS "never"], dS "always", .tuple [dS "a"]]
def oddD : List PyData := some18 ++ (more7 ++ [.dict [(dS "a", dI 1)]])
def niceB (d : PyData) : Bool := d.showable && (decide (d.depth ≤ 20) && decide (d.shown.length ≤ sizeLine))
theorem nice_of {d : PyData} (h : niceB d = true) : NiceD d := by
  unfold niceB at h
  rw [Bool.and_eq_true, Bool.and_eq_true] at h
  exact ⟨h.1, of_decide_eq_true h.2.1, of_decide_eq_true h.2.2⟩
def wraps (d : PyData) : List PyData := [d, .tuple [d, dI 3], .list [d], .dict [(dS "a", d)]]
theorem odd_nice : (oddD.all fun d => (wraps d).all niceB) = true := by decide +kernel
theorem nice_wrap {d w : PyData} (h : d ∈ oddD) (hw : w ∈ wraps d) : NiceD w := nice_of (List.all_eq_true.mp (List.all_eq_true.mp odd_nice d h) w hw)

def spOdd : Sp := fun vs H Q _ => ∃ (a : Addr) (z : Int), vs = [.ref a] ∧ PotAt H a z ∧ z ≤ 10000 ∧
  ∀ v d H', d ∈ oddD → PotAt H' a (z + 1) → Keep a H H' → Sh (minus H H') v d → Q v H'
end GD
namespace GD
open PySem PySem.Spec PyProof.Rows L2
/-! frozen data: tuples of tuples, ints, texts: no step of any def changes them -/
mutual
inductive Fz (H : Hp) : V → PyData → Prop
  | non : Fz H .non .none
  | bl (b : Bool) : Fz H (.bl b) (.bool b)
  | int (i : Int) : Fz H (.int i) (.int i)
  | str (x : Str) : Fz H (.str x) (.str x)
  | tup {a : Addr} {xs : List V} {ds : List PyData} : H a = some (.tup xs) → FzAll H xs ds → Fz H (.ref a) (.tuple ds)
inductive FzAll (H : Hp) : List V → List PyData → Prop
  | nil : FzAll H [] []
  | cons {x : V} {d : PyData} {xs : List V} {ds : List PyData} : Fz H x d → FzAll H xs ds → FzAll H (x :: xs) (d :: ds)
end
def Tups (H H' : Hp) : Prop := ∀ b xs, H b = some (.tup xs) → H' b = some (.tup xs)
theorem Tups.refl (H : Hp) : Tups H H := fun _ _ e => e
theorem Tups.trans {H H1 H2 : Hp} (x : Tups H H1) (y : Tups H1 H2) : Tups H H2 := fun b xs e => y b xs (x b xs e)
theorem tups_same {H H' : Hp} (k : Same H H') : Tups H H' := fun b xs e => k b _ e
theorem tups_new {H : Hp} {p : Addr} {o : HO} (h : H p = none) : Tups H (upd H p o) := tups_same (same_new h)
theorem tups_lst {H : Hp} {p : Addr} {o : HO} {xs : List V} (h : H p = some (.lst xs)) : Tups H (upd H p o) := fun b ys e => by
  rw [upd_ne (ne_of e h (fun z => by cases z))]
  exact e
theorem tups_dK {H : Hp} {p : Addr} {o : HO} {kvs : List (Key × V)} (h : H p = some (.dK kvs)) : Tups H (upd H p o) := fun b ys e => by
  rw [upd_ne (ne_of e h (fun z => by cases z))]
  exact e
theorem Keep.tups {a : Addr} {H H' : Hp} {xs : List V} (ha : H a = some (.lst xs)) (k : Keep a H H') : Tups H H' := fun b ys e => k b _ (ne_of e ha (fun z => by cases z)) e
theorem PotAt.tups {a : Addr} {H H' : Hp} {z : Int} (p : PotAt H a z) (k : Keep a H H') : Tups H H' := by
  obtain ⟨x, y, c, e, _⟩ := p
  exact k.tups e
mutual
theorem Fz.mv {H H' : Hp} (k : Tups H H') : ∀ {v : V} {d : PyData}, Fz H v d → Fz H' v d
  | _, _, .non => .non
  | _, _, .bl b => .bl b
  | _, _, .int i => .int i
  | _, _, .str x => .str x
  | _, _, .tup h t => .tup (k _ _ h) (FzAll.mv k t)
theorem FzAll.mv {H H' : Hp} (k : Tups H H') : ∀ {v : List V} {d : List PyData}, FzAll H v d → FzAll H' v d
  | _, _, .nil => .nil
  | _, _, .cons a b => .cons (Fz.mv k a) (FzAll.mv k b)
end
mutual
theorem Fz.dp {K : PySem.W.Frag} {H : Hp} : ∀ {v : V} {d : PyData}, Fz H v d → Dp K H v d
  | _, _, .non => .non
  | _, _, .bl b => .bl b
  | _, _, .int i => .int i
  | _, _, .str x => .str x
  | _, _, .tup h t => .tup (SqT.of h) (FzAll.dp t)
theorem FzAll.dp {K : PySem.W.Frag} {H : Hp} : ∀ {v : List V} {d : List PyData}, FzAll H v d → DpAll K H v d
  | _, _, .nil => .nil
  | _, _, .cons a b => .cons (Fz.dp a) (FzAll.dp b)
end
mutual
theorem Fz.sh {H : Hp} : ∀ {v : V} {d : PyData}, Fz H v d → Sh H v d
  | _, _, .non => .non
  | _, _, .bl b => .bl b
  | _, _, .int i => .int i
  | _, _, .str x => .str x
  | _, _, .tup h t => .tup h (FzAll.sh t)
theorem FzAll.sh {H : Hp} : ∀ {v : List V} {d : List PyData}, FzAll H v d → ShAll H v d
  | _, _, .nil => .nil
  | _, _, .cons a b => .cons (Fz.sh a) (FzAll.sh b)
end
section
variable {H : Hp}
theorem Fz.i {v : V} {i : Int} (h : Fz H v (.int i)) : v = .int i := by cases h; rfl
theorem Fz.s {v : V} {x : Str} (h : Fz H v (.str x)) : v = .str x := by cases h; rfl
theorem Fz.t {v : V} {ds : List PyData} (h : Fz H v (.tuple ds)) : ∃ a xs, v = .ref a ∧ H a = some (.tup xs) ∧ FzAll H xs ds := by
  cases h with
  | tup e t => exact ⟨_, _, rfl, e, t⟩
theorem Fz.t2 {v : V} {d e : PyData} (h : Fz H v (.tuple [d, e])) : ∃ a x y, v = .ref a ∧ H a = some (.tup [x, y]) ∧ Fz H x d ∧ Fz H y e := by
  obtain ⟨a, xs, rfl, ha, t⟩ := h.t
  cases t with
  | cons p t =>
    cases t with
    | cons q t =>
      cases t
      exact ⟨a, _, _, rfl, ha, p, q⟩
theorem Fz.t3 {v : V} {d e f : PyData} (h : Fz H v (.tuple [d, e, f])) : ∃ a x y z, v = .ref a ∧ H a = some (.tup [x, y, z]) ∧ Fz H x d ∧ Fz H y e ∧ Fz H z f := by
  obtain ⟨a, xs, rfl, ha, t⟩ := h.t
  cases t with
  | cons p t =>
    cases t with
    | cons q t =>
      cases t with
      | cons r t =>
        cases t
        exact ⟨a, _, _, _, rfl, ha, p, q, r⟩
theorem FzAll.len : ∀ {xs : List V} {ds : List PyData}, FzAll H xs ds → xs.length = ds.length
  | _, _, .nil => rfl
  | _, _, .cons _ t => by rw [List.length_cons, List.length_cons, FzAll.len t]
theorem FzAll.get : ∀ {xs : List V} {ds : List PyData} {i : Nat} {d : PyData}, FzAll H xs ds → ds[i]? = some d → ∃ x, xs[i]? = some x ∧ Fz H x d
  | _, _, _, _, .nil, h => by simp at h
  | _, _, 0, _, .cons a t, h => by
    simp at h
    subst h
    exact ⟨_, rfl, a⟩
  | _, _, i + 1, _, .cons a t, h => by
    obtain ⟨x, h1, h2⟩ := FzAll.get (i := i) t (by simpa using h)
    exact ⟨x, by simpa using h1, h2⟩
theorem FzAll.at : ∀ {xs : List V} {ds : List PyData} {i : Nat} {x : V}, FzAll H xs ds → xs[i]? = some x → ∃ d, ds[i]? = some d ∧ Fz H x d
  | _, _, _, _, .nil, h => by simp at h
  | _, _, 0, _, .cons a t, h => by
    simp at h
    subst h
    exact ⟨_, rfl, a⟩
  | _, _, i + 1, _, .cons a t, h => by
    obtain ⟨x, h1, h2⟩ := FzAll.at (i := i) t (by simpa using h)
    exact ⟨x, by simpa using h1, h2⟩
theorem FzAll.append : ∀ {xs ys : List V} {ds es : List PyData}, FzAll H xs ds → FzAll H ys es → FzAll H (xs ++ ys) (ds ++ es)
  | _, _, _, _, .nil, b => b
  | _, _, _, _, .cons a t, b => .cons a (FzAll.append t b)
theorem FzAll.snoc {xs : List V} {x : V} {ds : List PyData} {d : PyData} (a : FzAll H xs ds) (b : Fz H x d) : FzAll H (xs ++ [x]) (ds ++ [d]) := a.append (.cons b .nil)
theorem FzAll.take : ∀ {xs : List V} {ds : List PyData} (n : Nat), FzAll H xs ds → FzAll H (xs.take n) (ds.take n)
  | _, _, 0, _ => .nil
  | _, _, _ + 1, .nil => .nil
  | _, _, n + 1, .cons a t => .cons a (FzAll.take n t)
theorem FzAll.drop : ∀ {xs : List V} {ds : List PyData} (n : Nat), FzAll H xs ds → FzAll H (xs.drop n) (ds.drop n)
  | _, _, 0, r => r
  | _, _, _ + 1, .nil => .nil
  | _, _, n + 1, .cons _ t => FzAll.drop n t
theorem FzAll.erase : ∀ {xs : List V} {ds : List PyData} (n : Nat), FzAll H xs ds → FzAll H (xs.eraseIdx n) (ds.eraseIdx n)
  | _, _, _, .nil => .nil
  | _, _, 0, .cons _ t => t
  | _, _, n + 1, .cons a t => .cons a (FzAll.erase n t)
theorem fz_strs : ∀ ys : List Str, FzAll H (ys.map V.str) (ys.map PyData.str)
  | [] => .nil
  | y :: ys => .cons (.str y) (fz_strs ys)
theorem FzAll.strs : ∀ {xs : List V} {ys : List Str}, FzAll H xs (ys.map PyData.str) → xs = ys.map V.str
  | _, [], h => by cases h; rfl
  | _, y :: ys, h => by
    cases h with
    | cons a t => rw [a.s, FzAll.strs t]; rfl
theorem Fz.has {x : V} {xs : List V} {ds : List PyData} (a : FzAll H xs ds) (m : x ∈ xs) : ∃ d ∈ ds, Fz H x d := by
  obtain ⟨i, hi, e⟩ := List.getElem_of_mem m
  obtain ⟨d, h1, h2⟩ := a.at (i := i) (x := x) (by rw [List.getElem?_eq_getElem hi, e])
  exact ⟨d, List.mem_of_getElem? h1, h2⟩
end
/-- a list of frozen data -/
def LstAt (H : Hp) (l : Addr) (ds : List PyData) : Prop := ∃ xs, H l = some (.lst xs) ∧ FzAll H xs ds
theorem LstAt.keep {a l : Addr} {H H' : Hp} {ds : List PyData} (n : l ≠ a) (k : Keep a H H') (t : Tups H H') (h : LstAt H l ds) : LstAt H' l ds := by
  obtain ⟨xs, e, f⟩ := h
  exact ⟨xs, k _ _ n e, f.mv t⟩
theorem LstAt.same {l : Addr} {H H' : Hp} {ds : List PyData} (k : Same H H') (h : LstAt H l ds) : LstAt H' l ds := by
  obtain ⟨xs, e, f⟩ := h
  exact ⟨xs, k _ _ e, f.mv (tups_same k)⟩
/-! how such data are read -/
abbrev Stn := List (Int × Int)
def eP (p : Int × Int) : PyData := .tuple [.int p.1, .int p.2]
def eS (s : Stn) : PyData := .tuple (s.map eP)
def eE (e : Str × Str) : PyData := .tuple [.str e.1, .str e.2]
inductive Fact where
  | let_ (s : Stn)
  | not_ (s : Stn)
  | as_ (s t : Stn)
def eF : Fact → PyData
  | .let_ s => .tuple [.str "let", eS s]
  | .not_ s => .tuple [.str "not", eS s]
  | .as_ s t => .tuple [.str "as", eS s, eS t]
/-! what a pot's taker leaves: the pot a little emptier, all else as it was, and a new object perhaps -/
def OutAt (H : Hp) (a : Addr) (z : Int) (H' : Hp) : Prop := PotAt H' a z ∧ Keep a H H'
end GD
namespace K01
open PySem PySem.Spec PyProof.Rows L2 GD
def top (i : Nat) : Stmt := PySem.Challenge.pw_unseenstocks_k01_whole_texts_of_no_book.main.body.getD i (.Pass ⟨0, 0, 0, 0⟩)
abbrev sPot : Stmt := top 37
abbrev sTake : Stmt := top 38
abbrev sOf : Stmt := top 39
abbrev sSome : Stmt := top 40
abbrev sCells : Stmt := top 41
-- abbrev sOdd : Stmt := top 62
abbrev sNames : Stmt := top 43
abbrev sJobs : Stmt := top 44
abbrev sAnyManners : Stmt := top 45
abbrev sFirst : Stmt := top 46
abbrev sBehind : Stmt := top 47
abbrev sCanCome : Stmt := top 48
abbrev sEvents : Stmt := top 49
-- abbrev sStanding : Stmt := top 75
abbrev sChange : Stmt := top 50
abbrev sStock : Stmt := top 51
abbrev sLevel : Stmt := top 52
abbrev sLets : Stmt := top 53
abbrev sHeardFacts : Stmt := top 54
abbrev sAlikeFacts : Stmt := top 55
abbrev sFew : Stmt := top 56
abbrev sLore : Stmt := top 57
abbrev sStandingText : Stmt := top 58
abbrev sFactLine : Stmt := top 59
abbrev sLines : Stmt := top 60
-- abbrev sText : Stmt := top 84
-- abbrev sBook : Stmt := top 85
-- abbrev sOthers : Stmt := top 64
abbrev sRight : Stmt := top 69
abbrev sLaw : Stmt := top 70
section
variable {P : Program} {w : World} {K : PySem.W.Frag} {mg : Str → Option Value} {base : Heap}
theorem scT : FnScope ["_law_pot_here", "_law_upto", "_law_digit", "_law_prime", "_law_mixed"] ["_law_pot_here", "_law_upto"] (defScope sTake) := ⟨rfl, rfl, rfl, by decide +kernel, rfl, by decide +kernel, by decide +kernel⟩
theorem ok_take {f : Addr} {fd : FuncData} (F : Fun K "_law_take" "_law_take" sTake f fd) (T : TxtA mg) : FnOk P w K mg base CX0 1 f fd ["_law_pot_here", "_law_upto"] spTake := by
  refine F.ok scT (fun vs H Q E h => ?_) (fun cdv A outer s H vs Q E hr h => ?_)
  · obtain ⟨a, u, z, rfl, _⟩ := h
    rfl
  · obtain ⟨a, u, z, rfl, ⟨x, y, c, hp, hx, hy, hy2, hc, hc2⟩, hz, hu, hu2, k⟩ := h
    have hw64 : u.natAbs < 2 ^ 64 := by
      have : (2 : Nat) ^ 64 = 18446744073709551616 := by decide
      omega
    refine ⟨_, pss_cons (ps_if (pt_cmpR op_gt (pe_ix ix_list (pv 0) pe_int (fun _ _ => rfl)) pe_int (nomark _))
        (pss_cons (ps_set (i := 2) scT.nd rfl (.inl rfl) (pe_op op_mod (pe_callTy call_int1 (by rfl) T.int (by decide +kernel) (pa_cons (pe_ix ix_list (pv 0) pe_int (fun _ _ => rfl)) pa_nil)) (pv 1)))
          (pss_cons (ps_asg (pe_op op_fdivW (pe_ix ix_list (pv 0) pe_int (fun _ _ => rfl)) (pv 1)) (pg_sub (pv 0) pe_int set_list))
            (pss_one (ps_ret (pv 2))))) pss_nil)
      (pss_cons (ps_asg (pe_op op_add (pe_ix ix_list (pv 0) pe_int (fun _ _ => rfl)) pe_int) (pg_sub (pv 0) pe_int set_list))
      (pss_cons (ps_set (i := 3) scT.nd rfl (.inl rfl) (pe_ix ix_list (pe_lst (pa_cons pe_int (pa_cons pe_int (pa_cons pe_int (pa_cons pe_int (pa_cons pe_int pa_nil))))))
          (pe_op op_mod (pe_callTy call_int1 (by rfl) T.int (by decide +kernel) (pa_cons (pe_ix ix_list (pv 0) pe_int (fun _ _ => rfl)) pa_nil)) pe_int) (fun _ _ => rfl)))
      (pss_cons (ps_set (i := 4) scT.nd rfl (.inl rfl) (pe_op op_mod (pe_callTy call_int1 (by rfl) T.int (by decide +kernel) (pa_cons
          (pe_op op_pow (pe_callTy call_int1 (by rfl) T.int (by decide +kernel) (pa_cons (pe_op op_add (pe_op op_add (pe_ix ix_list (pv 0) pe_int (fun _ _ => rfl))
            (pe_op op_mul (pe_op op_mul pe_int (pe_ix ix_list (pv 0) pe_int (fun _ _ => rfl))) (pe_ix ix_list (pv 0) pe_int (fun _ _ => rfl)))) pe_int) pa_nil)) pe_int) pa_nil)) (pv 3)))
      (pss_cons (ps_set (i := 4) scT.nd rfl (.inl rfl) (pe_op op_mod (pe_callTy call_int1 (by rfl) T.int (by decide +kernel) (pa_cons
          (pe_op op_mul (pv 4) (pe_op op_add (pe_op op_mod (pe_callTy call_int1 (by rfl) T.int (by decide +kernel) (pa_cons (pv 4) pa_nil)) pe_int)
            (pe_op op_mul pe_int (pe_ix ix_list (pv 0) pe_int (fun _ _ => rfl))))) pa_nil)) pe_int))
      (pss_one (ps_ret (pe_op op_mod (pe_callTy call_int1 (by rfl) T.int (by decide +kernel) (pa_cons (pe_op op_fdiv (pv 4) pe_int) pa_nil)) (pv 1)))))))), ?_⟩
    refine ⟨_, rfl, a, _, 0, _, rfl, rfl, SqL.of hp, rfl, _, _, rfl, rfl, _, rfl, ?_⟩
    refine ite2 (fun _ => ?_) (fun _ => ?_)
    · refine ⟨_, rfl, a, _, 0, _, rfl, rfl, SqL.of hp, rfl, .inl ⟨_, rfl, ?_⟩⟩
      refine ⟨_, rfl, _, _, rfl, rfl, hu, ?_⟩
      refine ⟨_, rfl, a, _, 0, _, rfl, rfl, SqL.of hp, rfl, _, rfl, _, _, rfl, rfl, wide_div (b := 64) hu hw64 (by decide) (by decide), _, rfl, a, _, 0, 0, rfl, rfl, hp, rfl, _, rfl, ?_⟩
      refine k _ _ (Int.emod_nonneg _ (by omega)) (Int.emod_lt_of_pos _ hu) ⟨_, y, c, upd_same, ?_, hy, hy2, hc, by omega⟩ fun b o hb e => ?_
      · exact Int.ediv_nonneg hx (by omega)
      · rw [upd_ne hb]
        exact e
    · refine ⟨_, rfl, a, _, 2, _, rfl, rfl, SqL.of hp, rfl, _, _, rfl, rfl, _, rfl, a, _, 2, 2, rfl, rfl, hp, rfl, ?_⟩
      obtain ⟨pr, hpr, hp0, hp1⟩ := five (c + 1)
      have hq := sq_small (k := 100853) (c := c + 1) (by decide) (by decide) (by omega) (by omega)
      refine ⟨(by show 5 ≤ sizeLine; decide), fun p np => ?_⟩
      have npa : p ≠ a := fun e => by
        rw [e, upd_same] at np
        cases np
      have h2 : ∀ o, upd (upd H a (.lst [.int x, .int y, .int (c + 1)])) p o a = some (.lst [.int x, .int y, .int (c + 1)]) := fun o => (upd_ne npa.symm).trans upd_same
      refine ⟨_, rfl, a, _, 2, _, rfl, rfl, SqL.of (h2 _), rfl, .inl ⟨_, rfl, _, _, rfl, rfl, (by show (0 : Int) < 5; decide), p, _, _, _, rfl, rfl, SqL.of upd_same, hpr, ?_⟩⟩
      refine ⟨_, rfl, a, _, 1, _, rfl, rfl, SqL.of (h2 _), rfl, _, rfl, a, _, 2, _, rfl, rfl, SqL.of (h2 _), rfl, _, _, rfl, rfl, .inl ⟨by decide, by decide⟩, _, rfl, a, _, 2, _, rfl, rfl, SqL.of (h2 _), rfl, _, _, rfl, rfl, .inr ⟨by omega, by omega⟩, _, _, rfl, rfl, _, _, rfl, rfl, .inl ⟨_, rfl, ?_⟩⟩
      refine ⟨_, _, rfl, rfl, ⟨by decide, by decide, by omega⟩, .inl ⟨_, rfl, _, rfl, _, _, rfl, rfl, hp0, ?_⟩⟩
      have m0 := Int.emod_nonneg ((y + 100853 * (c + 1) * (c + 1) + 68) ^ (3 : Int).toNat) (show pr ≠ 0 by omega)
      have m1 := Int.emod_lt_of_pos ((y + 100853 * (c + 1) * (c + 1) + 68) ^ (3 : Int).toNat) hp0
      refine ⟨_, rfl, _, rfl, .inl ⟨_, rfl, _, _, rfl, rfl, (by show (0 : Int) < 10105; decide), _, rfl, a, _, 2, _, rfl, rfl, SqL.of (h2 _), rfl, _, _, rfl, rfl, .inl ⟨by decide, by decide⟩, _, _, rfl, rfl, _, _, rfl, rfl, .inl ⟨by omega, by omega⟩, .inl ⟨_, rfl, _, _, rfl, rfl, (by show (0 : Int) < 2305843009213693907; decide), ?_⟩⟩⟩
      refine ⟨_, rfl, _, _, rfl, rfl, ⟨by decide, by decide⟩, .inl ⟨_, rfl, _, rfl, _, _, rfl, rfl, hu, ?_⟩⟩
      refine k _ _ (Int.emod_nonneg _ (by omega)) (Int.emod_lt_of_pos _ hu) ⟨x, y, c + 1, h2 _, hx, hy, hy2, by omega, by omega⟩ fun b o hb e => ?_
      have hbp : b ≠ p := fun z => by
        rw [z] at e
        rw [upd_ne npa] at np
        rw [np] at e
        cases e
      rw [upd_ne hbp, upd_ne hb]
      exact e
theorem scP : FnScope ["_law_script", "_law_place", "_law_cell", "_law_own", "_law_small"] ["_law_script", "_law_place"] (defScope sPot) := ⟨rfl, rfl, rfl, by decide +kernel, rfl, by decide +kernel, by decide +kernel⟩
theorem ok_pot {f : Addr} {fd : FuncData} (F : Fun K "_law_pot" "_law_pot" sPot f fd) (T : TxtA mg) : FnOk P w K mg base CX0 1 f fd ["_law_script", "_law_place"] (spPot K) := by
  refine F.ok scP (fun vs H Q E h => ?_) (fun cdv A outer s H vs Q E hr h => ?_)
  · obtain ⟨a, u, z, rfl, _⟩ := h
    rfl
  · obtain ⟨a, ns, pl, rfl, hs, hp0, hp1, k⟩ := h
    refine ⟨_, pss_cons (ps_set (i := 2) scP.nd rfl (.inl rfl) (pe_ifExp (pt_cmpR op_lt (pv 1) (pe_callB call_len_seq (by rfl) T.len PySem.boot_len (pa_cons (pv 0) pa_nil)) (nomark _)) (pe_ix ix_list (pv 0) (pv 1) (fun _ _ => rfl)) (pe_op op_add (pe_op op_mul pe_int (pv 1)) pe_int)))
      (pss_cons (ps_set (i := 3) scP.nd rfl (.inl rfl) (pe_op op_mul (pe_op op_mod (pe_callTy call_int1 (by rfl) T.int (by decide +kernel) (pa_cons (pe_callB call_abs (by rfl) T.abs (by decide +kernel) (pa_cons (pv 2) pa_nil)) pa_nil)) (pe_op op_powB (pe_op op_pow pe_int pe_int) pe_int))
          (pe_callTy call_int1 (by rfl) T.int (by decide +kernel) (pa_cons (pe_cmpR op_ge (pe_callB call_abs (by rfl) T.abs (by decide +kernel) (pa_cons (pv 2) pa_nil)) (pe_op op_pow pe_int pe_int) (nomark _)) pa_nil))))
      (pss_cons (ps_set (i := 4) scP.nd rfl (.inl rfl) (pe_op op_mod (pe_callTy call_int1 (by rfl) T.int (by decide +kernel) (pa_cons (pv 2) pa_nil)) pe_int))
      (pss_one (ps_ret (pe_lst (pa_cons (pv 3) (pa_cons (pe_op op_mod (pe_callTy call_int1 (by rfl) T.int (by decide +kernel) (pa_cons
        (pe_op op_add (pe_op op_add (pe_op op_mul (pv 4) pe_int) (pe_op op_mul (pe_op op_mul pe_int (pv 1)) (pv 1))) pe_int) pa_nil)) pe_int) (pa_cons pe_int pa_nil)))))))), ?_⟩
    refine ⟨_, rfl, _, rfl, a, _, rfl, .inl hs, _, _, rfl, rfl, _, rfl, ?_⟩
    refine ite_gen (fun n => ?_) (fun key => ?_)
    · refine ⟨_, rfl, _, rfl, .inl ⟨_, rfl, ?_⟩⟩
      refine ⟨_, _, rfl, rfl, ⟨by decide, by decide, by decide⟩, _, _, rfl, rfl, ⟨by decide, by decide +kernel⟩, _, _, rfl, rfl, (by show (0 : Int) < _; decide +kernel), ?_⟩
      refine ⟨_, rfl, _, rfl, _, _, rfl, rfl, ⟨by decide, by decide, by decide⟩, _, _, rfl, rfl, .inr ⟨_, rfl, _, _, rfl, rfl, .inr ⟨(b01 _).1, (b01 _).2.1⟩, ?_⟩⟩
      refine ⟨_, rfl, .inl ⟨_, rfl, _, _, rfl, rfl, (by show (0 : Int) < _; decide), ?_⟩⟩
      have s0 := Int.emod_nonneg n (show (2305843009213693951 : Int) ≠ 0 by decide)
      have s1 := Int.emod_lt_of_pos n (show (0 : Int) < 2305843009213693951 by decide)
      refine ⟨_, rfl, _, rfl, _, _, rfl, rfl, .inr ⟨by decide, by decide⟩, _, rfl, _, _, rfl, rfl, .inl ⟨by decide, by decide⟩, _, rfl, _, _, rfl, rfl, .inr ⟨by omega, by omega⟩, _, _, rfl, rfl, _, _, rfl, rfl, .inl ⟨_, rfl, _, _, rfl, rfl, (by show (0 : Int) < _; decide), ?_⟩⟩
      refine ⟨(by show 3 ≤ sizeLine; decide), fun p np => k p _ np ⟨_, _, _, upd_same, ?_, Int.emod_nonneg _ (by decide), Int.emod_lt_of_pos _ (by decide), by decide, by decide⟩ fun b o e => ?_⟩
      · refine Int.mul_nonneg (Int.emod_nonneg _ (by decide +kernel)) (b01 _).2.2
      · rw [upd_ne (ne_of_none e np)]
        exact e
    · refine ite2 (fun c => ?_) (fun c => ?_)
      · obtain ⟨n, hn⟩ := at_ints hp0 (of_decide_eq_true c)
        exact ⟨_, rfl, _, rfl, a, _, _, _, rfl, rfl, hs, hn, key n⟩
      · exact ⟨_, rfl, _, _, rfl, rfl, .inl ⟨by decide, by decide⟩, _, _, rfl, rfl, key _⟩
theorem scO : FnScope ["_law_pot_here", "_law_some_here"] ["_law_pot_here", "_law_some_here"] (defScope sOf) := ⟨rfl, rfl, rfl, by decide +kernel, rfl, by decide +kernel, by decide +kernel⟩
theorem ok_of {f fT : Addr} {fd fdT : FuncData} (F : Fun K "_law_of" "_law_of" sOf f fd) (T : TxtA mg) (FT : Fun K "_law_take" "_law_take" sTake fT fdT) (gT : mg "_law_take" = some (.ref fT)) (bT : Binds K fdT ["_law_pot_here", "_law_upto"] []) :
    FnOk P w K mg base CX0 2 f fd ["_law_pot_here", "_law_some_here"] (spOf K) := by
  have GT : FnOk P w K mg base CX0 1 fT fdT ["_law_pot_here", "_law_upto"] spTake := ok_take FT T
  refine F.ok scO (fun vs H Q E h => ?_) (fun cdv A outer s H vs Q E hr h => ?_)
  · obtain ⟨a, l, xs, z, rfl, _⟩ := h
    rfl
  · obtain ⟨a, l, xs, z, rfl, hp, hz, hla, hl, hne, hlen, k⟩ := h
    refine ⟨_, pss_one (ps_ret (pe_ix ix_list (pv 1) (pe_call GT hr rfl gT FT.kp bT .nil pass0 (pa_cons (pv 0) (pa_cons (pe_callB call_len_seq (by rfl) T.len PySem.boot_len (pa_cons (pv 1) pa_nil)) pa_nil))) (fun _ _ => rfl))), ?_⟩
    have hpos : 0 < xs.length := List.length_pos_iff.mpr hne
    refine ⟨_, rfl, _, rfl, _, rfl, l, xs, rfl, .inl (SqL.of hl), a, xs.length, z, rfl, hp, hz, by omega, by omega, fun j H' h0 h1 hp' kp => ?_⟩
    obtain ⟨v, hv, hm⟩ := at_mem h0 h1
    exact ⟨l, xs, j, v, rfl, rfl, SqL.of (kp l _ hla hl), hv, k v H' hm hp' kp⟩
theorem scC : FnScope ["_law_script", "_law_most"] ["_law_script", "_law_most"] (defScope sCells) := ⟨rfl, rfl, rfl, by decide +kernel, rfl, by decide +kernel, by decide +kernel⟩
theorem ok_cells {f : Addr} {fd : FuncData} (F : Fun K "_law_cells" "_law_cells" sCells f fd) (T : TxtA mg) : FnOk P w K mg base CX0 1 f fd ["_law_script", "_law_most"] (spCells K) := by
  refine F.ok scC (fun vs H Q E h => ?_) (fun cdv A outer s H vs Q E hr h => ?_)
  · obtain ⟨a, ns, m, rfl, _⟩ := h
    rfl
  · obtain ⟨a, ns, m, rfl, hs, h1, h2, k⟩ := h
    refine ⟨_, pss_one (ps_ret (pe_listRg rfl (by rfl) T.list (prg_1 (by rfl) T.range (pe_callB (call_max2 rfl) (by rfl) T.max (by decide +kernel) (pa_cons pe_int (pa_cons
      (pe_callB (call_min2 rfl) (by rfl) T.min (by decide +kernel) (pa_cons (pv 1) (pa_cons (pe_callB call_len_seq (by rfl) T.len PySem.boot_len (pa_cons (pv 0) pa_nil)) pa_nil))) pa_nil)))))), ?_⟩
    refine ⟨_, rfl, _, rfl, a, _, rfl, .inl hs, _, _, rfl, _, _, rfl, _, rfl, ?_, fun q hq => k q _ hq ?_ ?_⟩
    · have q := (mm m (ns.map V.int).length h1)
      exact RgOk.of_le (by decide) (by omega) (by decide) (by omega)
    · have q := (mm m (ns.map V.int).length h1)
      omega
    · exact (mm m (ns.map V.int).length h1).2
end
section
variable {P : Program} {w : World} {K : PySem.W.Frag} {mg : Str → Option Value} {base : Heap}
end
end K01
namespace GD
open PySem PySem.Spec PyProof.Rows L2
theorem seq_nat {k : Int} {n : Nat} (h0 : 0 ≤ k) (h1 : k < (n : Nat)) : seqIndex? k n = some k.toNat := by
  have e : ixN n k = some k.toNat := by
    unfold ixN
    rw [if_pos h0, if_pos h1]
  exact (ixN_seq e).1
theorem keep_upd {a l : Addr} {H H1 : Hp} {o : HO} (k : Keep a H H1) (hl : H l = none) : Keep a H (upd H1 l o) := fun b u n e => by
  rw [upd_ne (ne_of_none e hl)]
  exact k b u n e
theorem same_upd {H H1 : Hp} {l : Addr} {o : HO} (k : Same H H1) (hl : H l = none) : Same H (upd H1 l o) := fun b u e => by
  rw [upd_ne (ne_of_none e hl)]
  exact k b u e
theorem PotAt.ne {a l : Addr} {H : Hp} {z : Int} (p : PotAt H a z) (hl : H l = none) : l ≠ a := fun e => by
  obtain ⟨x, y, c, h, _⟩ := p
  rw [e, h] at hl
  cases hl
theorem erase_perm {α : Type} : ∀ {l : List α} {k : Nat} {y : α}, l[k]? = some y → (y :: l.eraseIdx k).Perm l
  | [], k, y, h => by simp at h
  | x :: l, 0, y, h => by
    simp at h
    subst h
    exact List.Perm.refl _
  | x :: l, k + 1, y, h => by
    have ih := erase_perm (l := l) (k := k) (y := y) (by simpa using h)
    exact (List.Perm.swap x y (l.eraseIdx k)).trans (ih.cons x)
def spSome (K : PySem.W.Frag) : Sp := fun vs H Q _ => ∃ (a l : Addr) (xs : List V) (m : Nat) (z : Int), vs = [.ref a, .ref l, .int m] ∧ PotAt H a z ∧ z ≤ 50000 ∧ SqL K H l xs ∧ m ≤ xs.length ∧ xs.length ≤ 500 ∧
  ∀ p ys H', H p = none → PotAt H' a (z + m) → Keep a H H' → H' p = some (.lst ys) → (∃ rest, (ys ++ rest).Perm xs) → ys.length = m → Q (.ref p) H'
end GD
namespace K01
open PySem PySem.Spec PyProof.Rows L2 GD
section
variable {P : Program} {w : World} {K : PySem.W.Frag} {mg : Str → Option Value} {base : Heap}
theorem scS : FnScope ["_law_pot_here", "_law_pool", "_law_many", "_law_left", "_law_found", "_law_lap"] ["_law_pot_here", "_law_pool", "_law_many"] (defScope sSome) := ⟨rfl, rfl, rfl, by decide +kernel, rfl, by decide +kernel, by decide +kernel⟩
theorem ok_some {f fT : Addr} {fd fdT : FuncData} (F : Fun K "_law_some" "_law_some" sSome f fd) (T : TxtA mg) (FT : Fun K "_law_take" "_law_take" sTake fT fdT) (gT : mg "_law_take" = some (.ref fT)) (bT : Binds K fdT ["_law_pot_here", "_law_upto"] []) :
    FnOk P w K mg base CX0 2 f fd ["_law_pot_here", "_law_pool", "_law_many"] (spSome K) := by
  have GT : FnOk P w K mg base CX0 1 fT fdT ["_law_pot_here", "_law_upto"] spTake := ok_take FT T
  refine F.ok scS (fun vs H Q E h => ?_) (fun cdv A outer s H vs Q E hr h => ?_)
  · obtain ⟨a, l, xs, m, z, rfl, _⟩ := h
    rfl
  · obtain ⟨a, l, xs, m, z, rfl, hp, hz, hl, hm, hlen, k⟩ := h
    refine ⟨_, pss_cons (ps_par (i := 3) (j := 4) rfl scS.nd rfl rfl (by decide) rfl rfl (pa_cons (pe_callTy call_list_of (by rfl) T.list (by decide +kernel) (pa_cons (pv 1) pa_nil)) (pa_cons (pe_lst pa_nil) pa_nil)) (by rfl))
      (pss_cons (ps_for PassesOwn.never rfl (pi_range1 (by rfl) T.range (pa_cons (pv 2) pa_nil)) (pg_name (i := 5) scS.nd rfl (.inl rfl))
        (pss_one (ps_expr (pe_bm PySem.F.plainAttrs_list PySem.F.slot_list_append PySem.F.type_list_append mt_append (pv 4) (pa_cons
          (pe_bm PySem.F.plainAttrs_list PySem.F.slot_list_pop PySem.F.type_list_pop mt_popAt (pv 3) (pa_cons (pe_call GT hr rfl gT FT.kp bT .nil pass0 (pa_cons (pv 0) (pa_cons (pe_callB call_len_seq (by rfl) T.len PySem.boot_len (pa_cons (pv 3) pa_nil)) pa_nil))) pa_nil)) pa_nil)))))
      (pss_one (ps_ret (pv 4)))), ?_⟩
    refine ⟨_, rfl, l, xs, rfl, .inl hl, fun l1 n1 => ?_⟩
    have s1 := same_new (o := .lst xs) n1
    refine ⟨by decide, fun p np => ?_⟩
    have s2 := same_new (o := .lst []) np
    have p0 : H p = none := s1.free np
    have n1p : l1 ≠ p := ne_of_none upd_same np
    refine ⟨_, _, rfl, _, rfl, m, rfl, by omega, by omega, for_range (lo := 0) (n := m) (fun i σ H' => ∃ (left ys : List V) (x5 : Option V), σ = [some (.ref a), some (.ref l), some (.int m), some (.ref l1), some (.ref p), x5] ∧
      PotAt H' a (z + (i : Nat)) ∧ Keep a H H' ∧ H' l1 = some (.lst left) ∧ H' p = some (.lst ys) ∧ (ys ++ left).Perm xs ∧ ys.length = i) ⟨xs, [], none, rfl, (hp.same (s1.trans s2)).le (by omega), sKeep (s1.trans s2), s2 _ _ upd_same, upd_same, List.Perm.refl _, rfl⟩ ?_ ?_⟩
    · rintro i σ H' hi ⟨left, ys, x5, rfl, pa, ka, eL, eP, pm, ly⟩
      have zl : ys.length + left.length = xs.length := by rw [← List.length_append]; exact pm.length_eq
      have nl1 : l1 ≠ a := hp.ne n1
      have npa : p ≠ a := hp.ne p0
      refine ⟨_, rfl, .inl ⟨rfl, _, SqL.of eP⟩, _, rfl, .inl ⟨rfl, _, SqL.of eL⟩, _, rfl, _, rfl, l1, left, rfl, .inl (SqL.of eL), a, left.length, z + (i : Nat), rfl, pa, by omega, by omega, by omega, fun j H2 j0 j1 p2 k2 => ?_⟩
      have hj : j.toNat < left.length := by omega
      refine ⟨l1, left, j, j.toNat, left[j.toNat], rfl, rfl, k2 _ _ nl1 eL, by omega, by omega, seq_nat j0 j1, List.getElem?_eq_getElem hj, ?_⟩
      refine ⟨p, ys, _, rfl, rfl, by rw [upd_ne n1p.symm]; exact k2 _ _ npa eP, Nat.lt_of_le_of_lt (show ys.length ≤ 500 by omega) (by decide), ?_⟩
      refine ⟨_, _, _, rfl, ((p2.upd_ne nl1).upd_ne npa).le (by omega), keep_upd (keep_upd (ka.trans k2) n1) p0, by rw [upd_ne n1p, upd_same], upd_same, ?_, by rw [List.length_append, ly]; rfl⟩
      refine List.Perm.trans ?_ pm
      rw [List.append_assoc]
      exact List.Perm.append_left ys (erase_perm (List.getElem?_eq_getElem hj))
    · rintro σ H' ⟨left, ys, x5, rfl, pa, ka, eL, eP, pm, ly⟩
      exact ⟨_, rfl, k p ys H' p0 pa ka eP ⟨left, pm⟩ ly⟩
end
end K01
namespace GD
open PySem PySem.Spec PyProof.Rows L2
theorem ShAll.strs {H : Hp} : ∀ {xs : List V} {ys : List Str}, ShAll H xs (ys.map PyData.str) → xs = ys.map V.str
  | _, [], h => by cases h; rfl
  | _, y :: ys, h => by
    cases h with
    | cons a t =>
      cases a
      rw [ShAll.strs t]
      rfl
def pool14 : List Str := ["a", "b", "c", "ann", "bob", "jobs", "let", "not", "as", "to", "begin", "end", "clean", "zzzzzzzz"]
def pool7 : List Str := ["no", "spent", "free", "seen", "same", "plain", "undo"]
def pool21 : List Str := pool14 ++ pool7
theorem pool_nodup : pool21.Nodup := by decide +kernel
theorem strs_of : ∀ {ys : List V} {ps : List Str}, (∀ y ∈ ys, y ∈ ps.map V.str) → ∃ ns : List Str, ys = ns.map V.str ∧ ∀ n ∈ ns, n ∈ ps
  | [], _, _ => ⟨[], rfl, fun _ h => nomatch h⟩
  | y :: ys, ps, h => by
    obtain ⟨ns, e, m⟩ := strs_of (ys := ys) (ps := ps) fun z hz => h z (List.mem_cons_of_mem _ hz)
    obtain ⟨n, hn, en⟩ := List.mem_map.mp (h y List.mem_cons_self)
    refine ⟨n :: ns, by rw [List.map_cons, en, e], fun x hx => ?_⟩
    rcases List.mem_cons.mp hx with z | z
    · rw [z]
      exact hn
    · exact m x z
theorem picked {ys rest : List V} {ps : List Str} (hp : (ys ++ rest).Perm (ps.map V.str)) (nd : ps.Nodup) : ∃ ns : List Str, ys = ns.map V.str ∧ ns.Nodup ∧ ∀ n ∈ ns, n ∈ ps := by
  obtain ⟨ns, e, m⟩ := strs_of (ys := ys) (ps := ps) fun y hy => hp.mem_iff.mp (List.mem_append_left _ hy)
  have n1 : (ps.map V.str).Nodup := by
    rw [List.nodup_iff_pairwise_ne, List.pairwise_map]
    exact (List.nodup_iff_pairwise_ne.mp nd).imp fun h z => h (V.str.inj z)
  have n2 : (ys ++ rest).Nodup := hp.nodup_iff.mpr n1
  have n3 : ys.Nodup := (List.nodup_append.mp n2).1
  rw [e, List.nodup_iff_pairwise_ne, List.pairwise_map] at n3
  exact ⟨ns, e, List.nodup_iff_pairwise_ne.mpr (n3.imp fun h z => h (by rw [z])), m⟩
def spNames : Sp := fun vs H Q _ => ∃ (a : Addr) (m : Nat) (z : Int), vs = [.ref a, .int m] ∧ PotAt H a z ∧ z ≤ 50000 ∧ m ≤ 21 ∧
  ∀ p (ns : List Str) H', H p = none → PotAt H' a (z + m) → Keep a H H' → H' p = some (.lst (ns.map V.str)) → ns.length = m → ns.Nodup → (∀ n ∈ ns, n ∈ pool21) → Q (.ref p) H'
def JobsOk (most : Nat) (ms : List Str) (js : List (Str × Str)) : Prop := 1 ≤ js.length ∧ js.length ≤ most ∧ (js.map (·.1)).Nodup ∧ ∀ j ∈ js, j.1 ∈ pool21 ∧ j.2 ∈ ms
def spJobs : Sp := fun vs H Q _ => ∃ (a l : Addr) (most : Nat) (ms : List Str) (z : Int), vs = [.ref a, .int most, .ref l] ∧ PotAt H a z ∧ z ≤ 40000 ∧ 1 ≤ most ∧ most ≤ 4 ∧ l ≠ a ∧ H l = some (.lst (ms.map V.str)) ∧ ms ≠ [] ∧ ms.length ≤ 100 ∧
  ∀ p js H', H p = none → PotAt H' a (z + 20) → Keep a H H' → LstAt H' p (js.map eE) → JobsOk most ms js → Q (.ref p) H'
def spFirst (K : PySem.W.Frag) : Sp := fun vs H Q _ => ∃ (l : Addr) (xs : List V), vs = [.ref l] ∧ SqL K H l xs ∧ xs.length ≤ 100 ∧ ∀ v H', Same H H' → Fz H' v (eS (List.replicate xs.length (0, 0))) → Q v H'
def man6 : List Str := ["plain", "plain", "clean", "clean", "spent", "free"]
def spAny : Sp := fun vs H Q _ => vs = [] ∧ ∀ p, H p = none → Q (.ref p) (upd H p (.lst (man6.map V.str)))
end GD
namespace K01
open PySem PySem.Spec PyProof.Rows L2 GD
section
variable {P : Program} {w : World} {K : PySem.W.Frag} {mg : Str → Option Value} {base : Heap}
theorem scN : FnScope ["_law_pot_here", "_law_many", "_law_pool"] ["_law_pot_here", "_law_many"] (defScope sNames) := ⟨rfl, rfl, rfl, by decide +kernel, rfl, by decide +kernel, by decide +kernel⟩
theorem ok_names {f fS fT : Addr} {fd fdS fdT : FuncData} (F : Fun K "_law_names" "_law_names" sNames f fd) (T : TxtA mg) (FT : Fun K "_law_take" "_law_take" sTake fT fdT) (gT : mg "_law_take" = some (.ref fT)) (bT : Binds K fdT ["_law_pot_here", "_law_upto"] [])
    (FS : Fun K "_law_some" "_law_some" sSome fS fdS) (gS : mg "_law_some" = some (.ref fS)) (bS : Binds K fdS ["_law_pot_here", "_law_pool", "_law_many"] []) : FnOk P w K mg base CX0 3 f fd ["_law_pot_here", "_law_many"] spNames := by
  have GS : FnOk P w K mg base CX0 2 fS fdS ["_law_pot_here", "_law_pool", "_law_many"] (spSome K) := ok_some FS T FT gT bT
  refine F.ok scN (fun vs H Q E h => ?_) (fun cdv A outer s H vs Q E hr h => ?_)
  · obtain ⟨a, m, z, rfl, _⟩ := h
    rfl
  · obtain ⟨a, m, z, rfl, hp, hz, hm, k⟩ := h
    have x0 : ∀ {X : Cx} {x : Str} {j0 : Nat} {c0 : Pos}, PE X (.Constant (.str x) j0 c0) (tD (dS x)) := pd_c pe_str fun M => .str _
    refine ⟨_, pss_cons (ps_set (i := 2) scN.nd rfl (.inl rfl) (pe_lst (t := tDs (pool14.map PyData.str)) ?d1)) (pss_one (ps_ret (pe_call GS hr rfl gS FS.kp bS .nil pass0 (pa_cons (pv 0) (pa_cons (pe_op op_cat (pv 2) (pe_lst (t := tDs (pool7.map PyData.str)) ?d2)) (pa_cons (pv 1) pa_nil)))))), ?rd⟩
    case d1 =>
      iterate 14 refine pds_cons x0 ?_
      exact pds_nil
    case d2 =>
      iterate 7 refine pds_cons x0 ?_
      exact pds_nil
    case rd =>
      refine fun v1 H1 s1 h1 => ?_
      rw [h1.strs]
      refine ⟨by decide, fun l hl => ?_⟩
      have s2 := same_new (o := .lst (pool14.map V.str)) hl
      refine ⟨_, rfl, _, rfl, fun v2 H2 s3 h2 => ?_⟩
      rw [h2.strs]
      refine ⟨by decide, fun b hb => ?_⟩
      have s4 := same_new (o := .lst (pool7.map V.str)) hb
      refine ⟨l, b, _, _, rfl, rfl, s4 _ _ (s3 _ _ upd_same), upd_same, by decide, fun p hp' => ?_⟩
      have s5 := same_new (o := .lst (pool14.map V.str ++ pool7.map V.str)) hp'
      have sF := (((s1.trans s2).trans s3).trans s4).trans s5
      refine ⟨_, rfl, a, p, _, m, z, rfl, hp.same sF, hz, SqL.of upd_same, by simpa [pool14, pool7] using hm, by decide, fun q ys H' nq pq kq eq ⟨rest, pm⟩ ly => ?_⟩
      have pm' : (ys ++ rest).Perm (pool21.map V.str) := by
        rw [pool21, List.map_append]
        exact pm
      obtain ⟨ns, e, nd, mem⟩ := picked pm' pool_nodup
      subst e
      exact k q ns H' (sF.free nq) pq (Keep.trans (sKeep sF) kq) eq (by rw [← ly, List.length_map]) nd mem
theorem scY : FnScope [] [] (defScope sAnyManners) := ⟨rfl, rfl, rfl, by decide +kernel, rfl, by decide +kernel, by decide +kernel⟩
theorem ok_any {f : Addr} {fd : FuncData} (F : Fun K "_law_any_manners" "_law_any_manners" sAnyManners f fd) : FnOk P w K mg base CX0 1 f fd [] spAny := by
  refine F.ok scY (fun vs H Q E h => ?_) (fun cdv A outer s H vs Q E hr h => ?_)
  · obtain ⟨rfl, _⟩ := h
    rfl
  · obtain ⟨rfl, k⟩ := h
    exact ⟨_, pss_one (ps_ret (pe_lst (pa_cons pe_str (pa_cons pe_str (pa_cons pe_str (pa_cons pe_str (pa_cons pe_str (pa_cons pe_str pa_nil)))))))), (by show 6 ≤ sizeLine; decide), fun p np => k p np⟩
theorem scF : FnScope ["_law_jobs_here", "_law_job"] ["_law_jobs_here"] (defScope sFirst) := ⟨rfl, rfl, rfl, by decide +kernel, rfl, by decide +kernel, by decide +kernel⟩
theorem ok_first {f : Addr} {fd : FuncData} (F : Fun K "_law_first" "_law_first" sFirst f fd) (nT : mg "tuple" = none) : FnOk P w K mg base CX0 1 f fd ["_law_jobs_here"] (spFirst K) := by
  refine F.ok scF (fun vs H Q E h => ?_) (fun cdv A outer s H vs Q E hr h => ?_)
  · obtain ⟨l, xs, rfl, _⟩ := h
    rfl
  · obtain ⟨l, xs, rfl, hl, hz, k⟩ := h
    refine ⟨_, pss_one (ps_ret (pe_callTy call_tuple_of (by rfl) nT (by decide +kernel) (pa_cons (pe_lc (own := [("_law_job", 1)]) (g := gName 1) (tt := tYes) rfl scF.nd (pi_list (pv 0)) (blkOk_by (N := ["_law_jobs_here", "_law_job"]) (sc := defScope sFirst) (by decide +kernel))
      (fun _ _ _ _ _ => pg_name (i := 1) scF.nd rfl (.inl rfl)) (fun _ _ _ _ _ => pts_nil) (fun _ _ _ _ _ => pe_tup (pa_cons pe_int (pa_cons pe_int pa_nil)))) pa_nil))), ?_⟩
    refine ⟨_, rfl, l, rfl, ⟨_, hl⟩, fun D hD => ?_⟩
    refine lc_list (K := K) (a := l) (xs := xs) (fun i H' => Same H H' ∧ ∃ acc, H' D = some (.lst acc) ∧ FzAll H' acc ((List.replicate i ((0 : Int), (0 : Int))).map eP)) ⟨same_new hD, [], upd_same, .nil⟩ (fun i H' _ ⟨s1, _⟩ => s1.seq hl) ?_ ?_
    · rintro i x H' hi ⟨s1, acc, eD, fz⟩
      have hlt := (List.getElem?_eq_some_iff.mp hi).1
      refine ⟨rfl, (by show 2 ≤ sizeLine; decide), fun t ht => ?_⟩
      have st := same_new (o := .tup [.int 0, .int 0]) ht
      have zl : acc.length = i := by rw [fz.len, List.length_map, List.length_replicate]
      refine ⟨acc, st _ _ eD, by rw [zl]; exact Nat.lt_of_lt_of_le hlt (Nat.le_trans hz (by decide)), same_upd (s1.trans st) hD, _, upd_same, ?_⟩
      have f2 : FzAll (upd H' t (.tup [.int 0, .int 0])) (acc ++ [.ref t]) ((List.replicate (i + 1) ((0 : Int), (0 : Int))).map eP) := by
        rw [List.replicate_succ', List.map_append]
        exact (fz.mv (tups_same st)).snoc (.tup upd_same (.cons (.int 0) (.cons (.int 0) .nil)))
      exact f2.mv (tups_lst (st _ _ eD))
    · rintro H' ⟨s1, acc, eD, fz⟩
      refine ⟨D, acc, rfl, .inl ⟨SqL.of eD, fun t ht => k _ _ (s1.trans (same_new ht)) (.tup upd_same (fz.mv (tups_new ht)))⟩⟩
end
end K01
namespace K01
open PySem PySem.Spec PyProof.Rows L2 GD
section
variable {P : Program} {w : World} {K : PySem.W.Frag} {mg : Str → Option Value} {base : Heap}
theorem scJ : FnScope ["_law_pot_here", "_law_most", "_law_manners", "_law_name"] ["_law_pot_here", "_law_most", "_law_manners"] (defScope sJobs) := ⟨rfl, rfl, rfl, by decide +kernel, rfl, by decide +kernel, by decide +kernel⟩
theorem ok_jobs {f fN fO fS fT : Addr} {fd fdN fdO fdS fdT : FuncData} (F : Fun K "_law_jobs" "_law_jobs" sJobs f fd) (T : TxtA mg) (FT : Fun K "_law_take" "_law_take" sTake fT fdT) (gT : mg "_law_take" = some (.ref fT)) (bT : Binds K fdT ["_law_pot_here", "_law_upto"] [])
    (FS : Fun K "_law_some" "_law_some" sSome fS fdS) (gS : mg "_law_some" = some (.ref fS)) (bS : Binds K fdS ["_law_pot_here", "_law_pool", "_law_many"] [])
    (FN : Fun K "_law_names" "_law_names" sNames fN fdN) (gN : mg "_law_names" = some (.ref fN)) (bN : Binds K fdN ["_law_pot_here", "_law_many"] [])
    (FO : Fun K "_law_of" "_law_of" sOf fO fdO) (gO : mg "_law_of" = some (.ref fO)) (bO : Binds K fdO ["_law_pot_here", "_law_some_here"] []) : FnOk P w K mg base CX0 4 f fd ["_law_pot_here", "_law_most", "_law_manners"] spJobs := by
  have GT : FnOk P w K mg base CX0 1 fT fdT ["_law_pot_here", "_law_upto"] spTake := ok_take FT T
  have GN : FnOk P w K mg base CX0 3 fN fdN ["_law_pot_here", "_law_many"] spNames := ok_names FN T FT gT bT FS gS bS
  have GO : FnOk P w K mg base CX0 2 fO fdO ["_law_pot_here", "_law_some_here"] (spOf K) := ok_of FO T FT gT bT
  refine F.ok scJ (fun vs H Q E h => ?_) (fun cdv A outer s H vs Q E hr h => ?_)
  · obtain ⟨a, l, most, ms, z, rfl, _⟩ := h
    rfl
  · obtain ⟨a, l, most, ms, z, rfl, hp, hz, hm1, hm4, hla, hl, hne, hms, k⟩ := h
    have hr1 : Room 1 _ := hr.mono (by decide)
    have hr2 : Room 2 _ := hr.mono (by decide)
    refine ⟨_, pss_one (ps_ret (pe_lc (own := [("_law_name", 3)]) (g := gName 3) (tt := tYes) rfl scJ.nd
      (pi_list (pe_call GN hr rfl gN FN.kp bN .nil pass0 (pa_cons (pv 0) (pa_cons (pe_op op_add pe_int (pe_call GT hr1 rfl gT FT.kp bT .nil pass0 (pa_cons (pv 0) (pa_cons (pv 1) pa_nil)))) pa_nil))))
      (blkOk_by (N := ["_law_pot_here", "_law_most", "_law_manners", "_law_name"]) (sc := defScope sJobs) (by decide +kernel)) (fun _ _ _ _ _ => pg_name (i := 3) scJ.nd rfl (.inl rfl)) (fun _ _ _ _ _ => pts_nil)
      (fun _ _ _ _ _ => pe_tup (pa_cons (pv 3) (pa_cons (pe_call GO hr2 rfl gO FO.kp bO .nil pass0 (pa_cons (pv 0) (pa_cons (pv 2) pa_nil))) pa_nil))))), ?_⟩
    refine ⟨_, rfl, _, rfl, _, rfl, a, most, z, rfl, hp, by omega, by omega, by omega, fun j H1 j0 j1 p1 k1 => ?_⟩
    obtain ⟨m, hm⟩ := Int.eq_ofNat_of_zero_le (show 0 ≤ 1 + j by omega)
    refine ⟨_, _, rfl, rfl, a, m, z + 1, by show [V.ref a, V.int (1 + j)] = _; rw [hm], p1, by omega, by omega, fun q ns H2 nq p2 k2 eq ln nd mem => ?_⟩
    refine ⟨q, rfl, ⟨_, SqL.of eq⟩, fun D hD => ?_⟩
    have k12 : Keep a H H2 := Keep.trans k1 k2
    have q0 : H q = none := by
      cases z : H q with
      | none => rfl
      | some o =>
        rw [k1 q o (p1.ne nq) z] at nq
        cases nq
    have nqa : q ≠ a := p1.ne nq
    have D0 : H D = none := by
      cases z : H D with
      | none => rfl
      | some o =>
        rw [k12 D o (p2.ne hD) z] at hD
        cases hD
    have nDq : D ≠ q := (ne_of_none eq hD).symm
    have nDa : D ≠ a := p2.ne hD
    refine lc_list (K := K) (a := q) (xs := ns.map V.str) (fun i H' => PotAt H' a (z + 1 + m + (i : Nat)) ∧ Keep a H H' ∧ H' q = some (.lst (ns.map V.str)) ∧ ∃ (acc : List V) (js : List (Str × Str)), H' D = some (.lst acc) ∧ FzAll H' acc (js.map eE) ∧ js.map (·.1) = ns.take i ∧ ∀ j ∈ js, j.2 ∈ ms)
      ⟨(p2.upd_ne nDa).le (by omega), keep_upd k12 D0, by rw [upd_ne nDq.symm]; exact eq, [], [], upd_same, .nil, rfl, fun _ h => nomatch h⟩ (fun i H' _ ⟨_, _, e, _⟩ => SqL.of e) ?_ ?_
    · rintro i x H' hi ⟨pi, ki, ei, acc, js, eD, fz, hj, hjm⟩
      obtain ⟨n, hn, rfl⟩ : ∃ n, ns[i]? = some n ∧ x = V.str n := by
        rw [List.getElem?_map] at hi
        cases c : ns[i]? with
        | none =>
          rw [c] at hi
          cases hi
        | some n =>
          rw [c] at hi
          exact ⟨n, rfl, (Option.some.inj hi).symm⟩
      have hin : i < ns.length := (List.getElem?_eq_some_iff.mp hn).1
      have zl : acc.length = i := by
        rw [fz.len, List.length_map, ← List.length_map (f := (·.1)), hj, List.length_take]
        omega
      refine ⟨rfl, _, rfl, _, rfl, _, rfl, a, l, _, z + 1 + m + (i : Nat), rfl, pi, by omega, hla, ki _ _ hla hl, by simpa using hne, by rw [List.length_map]; omega, fun v H3 hv p3 k3 => ?_⟩
      obtain ⟨mn, hmn, rfl⟩ := List.mem_map.mp hv
      refine ⟨(by show 2 ≤ sizeLine; decide), fun t ht => ?_⟩
      have st := same_new (o := .tup [.str n, .str mn]) ht
      have t3 := pi.tups k3
      have eD3 := k3 _ _ nDa eD
      have eq3 := k3 _ _ nqa ei
      refine ⟨acc, st _ _ eD3, by rw [zl]; exact Nat.lt_trans (show i < 100 by omega) (by decide), ((p3.same st).upd_ne nDa).le (by omega), keep_upd ((Keep.trans ki k3).trans (sKeep st)) D0, by rw [upd_ne nDq.symm]; exact st _ _ eq3, _, js ++ [(n, mn)], upd_same, ?_, ?_, fun j hj' => ?_⟩
      · refine FzAll.mv (tups_lst (st _ _ eD3)) ?_
        rw [List.map_append]
        exact ((fz.mv t3).mv (tups_same st)).snoc (.tup upd_same (.cons (.str n) (.cons (.str mn) .nil)))
      · rw [List.map_append, hj, List.take_succ, hn]
        rfl
      · rcases List.mem_append.mp hj' with y | y
        · exact hjm j y
        · rw [List.mem_singleton.mp y]
          exact hmn
    · rintro H' ⟨pi, ki, ei, acc, js, eD, fz, hj, hjm⟩
      rw [List.length_map, List.take_length] at hj
      rw [List.length_map] at pi
      have lj : js.length = ns.length := by rw [← hj, List.length_map]
      refine k D js H' D0 (pi.le (by omega)) ki ⟨acc, eD, fz⟩ ⟨by omega, by omega, by rw [hj]; exact nd, fun j hj' => ⟨mem _ (by rw [← hj]; exact List.mem_map_of_mem hj'), hjm j hj'⟩⟩
end
end K01
namespace GD
open PySem PySem.Spec PyProof.Rows L2
/-! tuples of frozen data, cut and joined -/
def cutD (ds : List PyData) (lo hi : Option Int) : List PyData := (ds.drop (HT.sIx ds.length 0 lo)).take (HT.sIx ds.length ds.length hi - HT.sIx ds.length 0 lo)
theorem slice_fz {K : PySem.W.Frag} {H : Hp} {x : V} {ds : List PyData} {lo hi : Option Int} {Q : VK} (hx : Fz H x (.tuple ds)) (k : ∀ v H', Same H H' → Fz H' v (.tuple (cutD ds lo hi)) → Q v H') : rSlA K x lo hi H Q := by
  obtain ⟨a, xs, rfl, ha, t⟩ := hx.t
  have e := t.len
  refine ⟨a, xs, rfl, SqT.of ha, fun w => k _ _ (Same.refl H) (.tup ha ?_), fun _ p hp => k _ _ (same_new hp) (.tup upd_same ?_)⟩
  · obtain ⟨w1, w2⟩ := w
    unfold cutD
    rw [← e, w1, w2, List.drop_zero, Nat.sub_zero, e, List.take_length]
    exact t
  · unfold cutD cutV
    rw [← e]
    exact ((t.drop _).take _).mv (tups_new hp)
theorem cut_to {ds : List PyData} {i : Nat} (h : i ≤ ds.length) : cutD ds none (some (i : Int)) = ds.take i := by
  unfold cutD
  rw [HT.sIx_none, HT.sIx_nat, List.drop_zero, Nat.sub_zero, Nat.min_eq_left h]
theorem cut_from {ds : List PyData} {i : Nat} (h : i ≤ ds.length) : cutD ds (some (i : Int)) none = ds.drop i := by
  unfold cutD
  rw [HT.sIx_none, HT.sIx_nat, Nat.min_eq_left h, List.take_of_length_le (by rw [List.length_drop]; exact Nat.le_refl _)]
theorem cat_fz {K : PySem.W.Frag} {H : Hp} {x y : V} {ds es : List PyData} {Q : VK} (hx : Fz H x (.tuple ds)) (hy : Fz H y (.tuple es)) (hl : ds.length + es.length ≤ 1000) (k : ∀ v H', Same H H' → Fz H' v (.tuple (ds ++ es)) → Q v H') : rCatA K x y H Q := by
  obtain ⟨a, xs, rfl, ha, t⟩ := hx.t
  obtain ⟨b, ys, rfl, hb, u⟩ := hy.t
  refine ⟨a, b, xs, ys, rfl, rfl, SqT.of ha, SqT.of hb, by rw [t.len, u.len]; exact Nat.le_of_lt (small1000 hl), fun e => ?_, fun _ e => ?_, fun _ _ p hp => ?_⟩
  · subst e
    cases t
    exact k _ _ (Same.refl H) (.tup hb u)
  · subst e
    cases u
    refine k _ _ (Same.refl H) (.tup ha ?_)
    rw [List.append_nil]
    exact t
  · exact k _ _ (same_new hp) (.tup upd_same ((t.append u).mv (tups_new hp)))
theorem Fz.same {H H' : Hp} (k : Same H H') {v : V} {d : PyData} (h : Fz H v d) : Fz H' v d := h.mv (tups_same k)
theorem FzAll.same {H H' : Hp} (k : Same H H') {v : List V} {d : List PyData} (h : FzAll H v d) : FzAll H' v d := h.mv (tups_same k)
/-! what the drawer's small defs reckon -/
def bumpP (k : Str) (p : Int × Int) : Int × Int := if k = "begin" then (p.1 + 1, p.2) else (p.1, p.2 + 1)
def ixOf (names : List Str) (n : Str) : Nat := names.idxOf n
def behS (names : List Str) (s : Stn) (e : Str × Str) : Stn := s.take (ixOf names e.2) ++ [bumpP e.1 (s.getD (ixOf names e.2) (0, 0))] ++ s.drop (ixOf names e.2 + 1)
def okP (p : Int × Int) : Bool := decide (p.2 ≤ p.1) && decide (p.1 ≤ 40)
def canS (names : List Str) (s : Stn) (e : Str × Str) : Bool := (behS names s e).all okP
def evs (names : List Str) : List (Str × Str) := names.flatMap fun n => [("begin", n), ("end", n)]
theorem behS_len {names : List Str} {s : Stn} {e : Str × Str} (h : ixOf names e.2 < s.length) : (behS names s e).length = s.length := by
  unfold behS
  rw [List.length_append, List.length_append, List.length_take, List.length_drop, List.length_singleton]
  omega
theorem ixOf_lt {names : List Str} {n : Str} (h : n ∈ names) : ixOf names n < names.length := List.idxOf_lt_length_iff.mpr h
theorem eqV_str (x y : Str) : eqV (.str x) (.str y) = (x == y) := rfl
theorem all_flat : ∀ ns : List Str, (ns.map V.str).all flatV = true
  | [] => rfl
  | _ :: ns => all_flat ns
theorem ix_at {names : List Str} {n : Str} (h : n ∈ names) : names[ixOf names n]? = some n := by
  have h1 := ixOf_lt h
  rw [List.getElem?_eq_getElem h1]
  exact congrArg some (List.getElem_idxOf h1)
theorem ix_before {names : List Str} {n m : Str} {j : Nat} (hj : j < ixOf names n) (hm : names[j]? = some m) : (m == n) = false := by
  obtain ⟨h1, e⟩ := List.getElem?_eq_some_iff.mp hm
  have z := List.not_of_lt_findIdx (p := (· == n)) (xs := names) hj
  simp only [e] at z
  exact z
theorem index_str {K : PySem.W.Frag} {H : Hp} {l : Addr} {names : List Str} {n : Str} {Q : VK} (hl : SqL K H l (names.map V.str)) (h : n ∈ names) (k : Q (.int (ixOf names n : Nat)) H) : rIndex K (.ref l) [.str n] H Q := by
  refine ⟨l, _, .str n, ixOf names n, .str n, rfl, rfl, hl, rfl, all_flat _, by rw [List.getElem?_map, ix_at h]; rfl, by rw [eqV_str]; simp, fun m z hm hz => ?_, k⟩
  rw [List.getElem?_map] at hz
  cases c : names[m]? with
  | none =>
    rw [c] at hz
    cases hz
  | some y =>
    rw [c] at hz
    have e : V.str y = z := Option.some.inj hz
    rw [← e, eqV_str]
    exact ix_before hm c
theorem FzAll.atM {α : Type} {f : α → PyData} {H : Hp} {xs : List V} {L : List α} {i : Nat} {x : V} (h : FzAll H xs (L.map f)) (e : xs[i]? = some x) : ∃ j, L[i]? = some j ∧ Fz H x (f j) := by
  obtain ⟨d, h1, h2⟩ := h.at e
  rw [List.getElem?_map] at h1
  cases c : L[i]? with
  | none =>
    rw [c] at h1
    cases h1
  | some j =>
    rw [c] at h1
    have z : f j = d := Option.some.inj h1
    exact ⟨j, rfl, by rw [z]; exact h2⟩
theorem FzAll.getM {α : Type} {f : α → PyData} {H : Hp} {xs : List V} {L : List α} {i : Nat} {j : α} (h : FzAll H xs (L.map f)) (e : L[i]? = some j) : ∃ x, xs[i]? = some x ∧ Fz H x (f j) := h.get (by rw [List.getElem?_map, e]; rfl)
theorem ite_kv {c : Prop} [Decidable c] {ta tb : TE} {σ : L2.St} {H : Hp} {Q : VK} (R : V → Hp → Prop) (key : ∀ v H', R v H' → Q v H') (h : (∀ v H', R v H' → Q v H') → if c then ta σ H Q else tb σ H Q) : if c then ta σ H Q else tb σ H Q := h key
def spBehind (K : PySem.W.Frag) : Sp := fun vs H Q _ => ∃ (l : Addr) (sv ev : V) (js : List (Str × Str)) (s : Stn) (e : Str × Str), vs = [.ref l, sv, ev] ∧ LstAt H l (js.map eE) ∧ Fz H sv (eS s) ∧ Fz H ev (eE e) ∧ s.length = js.length ∧ js.length ≤ 10 ∧ e.2 ∈ js.map (·.1) ∧
  ∀ v H', Same H H' → Fz H' v (eS (behS (js.map (·.1)) s e)) → Q v H'
def spCan (K : PySem.W.Frag) : Sp := fun vs H Q _ => ∃ (l : Addr) (sv ev : V) (js : List (Str × Str)) (s : Stn) (e : Str × Str), vs = [.ref l, sv, ev] ∧ LstAt H l (js.map eE) ∧ Fz H sv (eS s) ∧ Fz H ev (eE e) ∧ s.length = js.length ∧ js.length ≤ 10 ∧ e.2 ∈ js.map (·.1) ∧
  ∀ H', Same H H' → Q (.bl (canS (js.map (·.1)) s e)) H'
def spEvents (K : PySem.W.Frag) : Sp := fun vs H Q _ => ∃ (l : Addr) (sv : V) (js : List (Str × Str)) (s : Stn), vs = [.ref l, sv] ∧ LstAt H l (js.map eE) ∧ Fz H sv (eS s) ∧ s.length = js.length ∧ js.length ≤ 10 ∧
  ∀ p H', Same H H' → H p = none → LstAt H' p (((evs (js.map (·.1))).filter (canS (js.map (·.1)) s)).map eE) → Q (.ref p) H'
end GD
namespace K01
open PySem PySem.Spec PyProof.Rows L2 GD
section
variable {P : Program} {w : World} {K : PySem.W.Frag} {mg : Str → Option Value} {base : Heap}
theorem scB : FnScope ["_law_jobs_here", "_law_standing", "_law_event", "_law_at", "_law_begun", "_law_ended", "_law_fresh", "_law_name", "_law_manner"] ["_law_jobs_here", "_law_standing", "_law_event"] (defScope sBehind) := ⟨rfl, rfl, rfl, by decide +kernel, rfl, by decide +kernel, by decide +kernel⟩
theorem ok_behind {f : Addr} {fd : FuncData} (F : Fun K "_law_behind" "_law_behind" sBehind f fd) : FnOk P w K mg base CX0 1 f fd ["_law_jobs_here", "_law_standing", "_law_event"] (spBehind K) := by
  refine F.ok scB (fun vs H Q E h => ?_) (fun cdv A outer s H vs Q E hr h => ?_)
  · obtain ⟨l, sv, ev, js, s, e, rfl, _⟩ := h
    rfl
  · obtain ⟨l, sv, ev, js, s, e, rfl, ⟨xs, hl, fx⟩, fs, fe, hsl, hjl, hm, k⟩ := h
    refine ⟨_, pss_cons (ps_set (i := 3) scB.nd rfl (.inl rfl) (pe_bm PySem.F.plainAttrs_list PySem.F.slot_list_index PySem.F.type_list_index mt_index
        (pe_lc (own := [("_law_name", 7), ("_law_manner", 8)]) (g := gTup K 2 (gCons (gName 7) (gCons (gName 8) gNil))) (tt := tYes) rfl scB.nd (pi_list (pv 0)) (blkOk_by (N := ["_law_jobs_here", "_law_standing", "_law_event", "_law_at", "_law_begun", "_law_ended", "_law_fresh", "_law_name", "_law_manner"]) (sc := defScope sBehind) (by decide +kernel))
          (fun _ _ _ _ _ => pg_tup rfl (pgs_cons (pg_name (i := 7) scB.nd rfl (.inl rfl)) (pgs_cons (pg_name (i := 8) scB.nd rfl (.inl rfl)) pgs_nil))) (fun _ _ _ _ _ => pts_nil) (fun _ _ _ _ _ => pv 7))
        (pa_cons (pe_ix ix_tup (pv 2) pe_int (fun _ _ => rfl)) pa_nil)))
      (pss_cons (ps_asg (pe_ix ix_tup (pv 1) (pv 3) (fun _ _ => rfl)) (pg_tup rfl (pgs_cons (pg_name (i := 4) scB.nd rfl (.inl rfl)) (pgs_cons (pg_name (i := 5) scB.nd rfl (.inl rfl)) pgs_nil))))
      (pss_cons (ps_set (i := 6) scB.nd rfl (.inl rfl) (pe_ifExp (pt_cmpR op_eq (pe_ix ix_tup (pv 2) pe_int (fun _ _ => rfl)) pe_str (nomark _)) (pe_tup (pa_cons (pe_op op_add (pv 4) pe_int) (pa_cons (pv 5) pa_nil))) (pe_tup (pa_cons (pv 4) (pa_cons (pe_op op_add (pv 5) pe_int) pa_nil)))))
      (pss_one (ps_ret (pe_op op_catA (pe_op op_catA (pe_slice sl_tupA (pv 1) po_none (po_some (pv 3))) (pe_tup (pa_cons (pv 6) pa_nil))) (pe_slice sl_tupA (pv 1) (po_some (pe_op op_add (pv 3) pe_int)) po_none)))))), ?_⟩
    obtain ⟨sa, ys, rfl, hsa, fy⟩ := fs.t
    obtain ⟨ea, e1, e2, rfl, hea, fe1, fe2⟩ := fe.t2
    obtain rfl := fe1.s
    obtain rfl := fe2.s
    have hi : ixOf (js.map (·.1)) e.2 < s.length := by
      rw [hsl, ← List.length_map (f := (·.1))]
      exact ixOf_lt hm
    refine ⟨_, rfl, l, rfl, ⟨_, SqL.of hl⟩, fun D hD => ?_⟩
    refine lc_list (K := K) (a := l) (xs := xs) (fun i H' => Same H H' ∧ H' D = some (.lst (((js.map (·.1)).take i).map V.str))) ⟨same_new hD, upd_same⟩ (fun i H' _ ⟨s1, _⟩ => SqL.of (s1 _ _ hl)) ?_ ?_
    · rintro i x H' hx ⟨s1, eD⟩
      obtain ⟨j, hj, fj⟩ := fx.atM hx
      obtain ⟨b, x1, x2, rfl, hb, f1, f2⟩ := fj.t2
      obtain rfl := f1.s
      have hlt : i < js.length := (List.getElem?_eq_some_iff.mp hj).1
      refine ⟨b, _, rfl, SqT.of (s1 _ _ hb), rfl, _, _, rfl, _, _, rfl, rfl, rfl, _, rfl, _, eD, ?_, same_upd s1 hD, ?_⟩
      · rw [List.length_map, List.length_take]
        exact Nat.lt_of_le_of_lt (Nat.min_le_left _ _) (Nat.lt_of_lt_of_le hlt (Nat.le_trans hjl (by decide)))
      · rw [upd_same, List.take_succ, List.getElem?_map, hj, List.map_append]
        rfl
    · rintro H1 ⟨s1, eD⟩
      rw [fx.len, List.length_map, List.take_of_length_le (by rw [List.length_map]; exact Nat.le_refl _)] at eD
      refine ⟨.inl ⟨rfl, _, SqL.of eD⟩, _, rfl, ea, _, 1, _, rfl, rfl, SqT.of (s1 _ _ hea), rfl, ?_⟩
      dsimp only [tNil]
      refine index_str (SqL.of eD) hm ?_
      generalize hix : ixOf (js.map (·.1)) e.2 = n at hi
      obtain ⟨p, hp⟩ : ∃ p, s[n]? = some p := ⟨s[n], List.getElem?_eq_getElem hi⟩
      obtain ⟨y, hy, fp⟩ := fy.getM hp
      obtain ⟨pa, p1, p2, rfl, hpa, fp1, fp2⟩ := fp.t2
      obtain rfl := fp1.i
      obtain rfl := fp2.i
      refine ⟨_, rfl, _, rfl, sa, ys, n, _, rfl, rfl, SqT.of (s1 _ _ hsa), atI_nat hy, pa, _, rfl, SqT.of (s1 _ _ hpa), rfl, _, _, rfl, _, _, rfl, rfl, ?_⟩
      refine ⟨_, rfl, ea, _, 0, _, rfl, rfl, SqT.of (s1 _ _ hea), rfl, rfl, _, rfl, ?_⟩
      refine ite_kv (fun v H' => Same H1 H' ∧ Fz H' v (eP (bumpP e.1 p))) (fun v H2 ⟨s2, f2⟩ => ?_) (fun key => ?_)
      · have fs2 : Fz H2 (.ref sa) (eS s) := ((Fz.tup hsa fy).same s1).same s2
        refine ⟨_, rfl, _, rfl, n, rfl, ?_⟩
        dsimp only [tNoPart]
        refine slice_fz fs2 fun v1 H3 s3 f3 => ?_
        rw [cut_to (by rw [List.length_map]; omega)] at f3
        refine ⟨_, rfl, (by show 1 ≤ sizeLine; decide), fun t ht => ?_⟩
        have s4 := same_new (o := .tup [v]) ht
        refine cat_fz (f3.same s4) (.tup upd_same (.cons ((f2.same s3).same s4) .nil)) ?_ fun v2 H5 s5 f5 => ?_
        · rw [List.length_take, List.length_map, List.length_singleton]
          omega
        refine ⟨_, rfl, _, rfl, _, _, rfl, rfl, (n : Int) + 1, rfl, ?_⟩
        dsimp only [tNoPart]
        refine slice_fz (((fs2.same s3).same s4).same s5) fun v3 H6 s6 f6 => ?_
        rw [show ((n : Int) + 1) = ((n + 1 : Nat) : Int) by omega, cut_from (by rw [List.length_map]; omega)] at f6
        refine cat_fz (f5.same s6) f6 ?_ fun v4 H7 s7 f7 => k v4 H7 ((((((s1.trans s2).trans s3).trans s4).trans s5).trans s6).trans s7) ?_
        · rw [List.length_append, List.length_take, List.length_drop, List.length_map, List.length_singleton]
          omega
        · have z : eS (behS (js.map (·.1)) s e) = .tuple ((s.map eP).take n ++ [eP (bumpP e.1 p)] ++ (s.map eP).drop (n + 1)) := by
            unfold eS behS
            rw [hix, List.getD_eq_getElem?_getD, hp, List.map_append, List.map_append, List.map_take, List.map_drop]
            rfl
          rw [z]
          exact f7
      · refine ite2 (fun c => ?_) (fun c => ?_)
        · have c' : e.1 = "begin" := V.str.inj (of_decide_eq_true c)
          refine ⟨_, rfl, _, _, rfl, rfl, _, rfl, (by show 2 ≤ sizeLine; decide), fun t ht => key _ _ ⟨same_new ht, ?_⟩⟩
          rw [bumpP, if_pos c']
          exact .tup upd_same (.cons (.int _) (.cons (.int _) .nil))
        · have c' : ¬ e.1 = "begin" := fun z => c (decide_eq_true (congrArg V.str z))
          refine ⟨_, rfl, _, rfl, _, _, rfl, rfl, (by show 2 ≤ sizeLine; decide), fun t ht => key _ _ ⟨same_new ht, ?_⟩⟩
          rw [bumpP, if_neg c']
          exact .tup upd_same (.cons (.int _) (.cons (.int _) .nil))
end
end K01
namespace GD
open PySem PySem.Spec PyProof.Rows L2
def spStanding : Sp := fun vs H Q _ => ∃ (a l : Addr) (far : Nat) (js : List (Str × Str)) (z : Int), vs = [.ref a, .ref l, .int far] ∧ PotAt H a z ∧ z ≤ 90000 ∧ l ≠ a ∧ LstAt H l (js.map eE) ∧ js.length ≤ 10 ∧ far ≤ 1000 ∧
  ∀ v (s : Stn) H', PotAt H' a (z + 20) → Keep a H H' → Fz H' v (eS s) → s.length = js.length → (∀ p ∈ s, 0 ≤ p.2 ∧ p.2 ≤ p.1 ∧ p.1 ≤ far) → Q v H'
theorem take_next {α : Type} {L : List α} {i : Nat} {x : α} (h : L[i]? = some x) : L.take (i + 1) = L.take i ++ [x] := by
  rw [List.take_succ, h]
  rfl
end GD
namespace K01
open PySem PySem.Spec PyProof.Rows L2 GD
section
variable {P : Program} {w : World} {K : PySem.W.Frag} {mg : Str → Option Value} {base : Heap}
abbrev NC : List Str := ["_law_jobs_here", "_law_standing", "_law_event", "_law_behind_here", "_law_begun", "_law_ended"]
theorem scCan : FnScope NC ["_law_jobs_here", "_law_standing", "_law_event"] (defScope sCanCome) := ⟨rfl, rfl, rfl, by decide +kernel, rfl, by decide +kernel, by decide +kernel⟩
theorem ok_can {f fB : Addr} {fd fdB : FuncData} (F : Fun K "_law_can_come" "_law_can_come" sCanCome f fd) (nA : mg "all" = none) (FB : Fun K "_law_behind" "_law_behind" sBehind fB fdB) (gB : mg "_law_behind" = some (.ref fB)) (bB : Binds K fdB ["_law_jobs_here", "_law_standing", "_law_event"] []) :
    FnOk P w K mg base CX0 2 f fd ["_law_jobs_here", "_law_standing", "_law_event"] (spCan K) := by
  have GB : FnOk P w K mg base CX0 1 fB fdB ["_law_jobs_here", "_law_standing", "_law_event"] (spBehind K) := ok_behind FB
  refine F.ok scCan (fun vs H Q E h => ?_) (fun cdv A outer s H vs Q E hr h => ?_)
  · obtain ⟨l, sv, ev, js, s, e, rfl, _⟩ := h
    rfl
  · obtain ⟨l, sv, ev, js, s, e, rfl, hl, fs, fe, hsl, hjl, hm, k⟩ := h
    refine ⟨_, pss_cons (ps_set (i := 3) scCan.nd rfl (.inl rfl) (pe_call GB hr rfl gB FB.kp bB .nil pass0 (pa_cons (pv 0) (pa_cons (pv 1) (pa_cons (pv 2) pa_nil)))))
      (pss_one (ps_ret (pe_callB (cr_all rfl) (by rfl) nA (by decide +kernel) (pa_cons (pe_lc (own := [("_law_begun", 4), ("_law_ended", 5)]) (g := gTup K 2 (gCons (gName 4) (gCons (gName 5) gNil))) (tt := tYes) rfl scCan.nd (pi_tup (pv 3)) (blkOk_by (N := NC) (sc := defScope sCanCome) (by decide +kernel))
        (fun _ _ _ _ _ => pg_tup rfl (pgs_cons (pg_name (i := 4) scCan.nd rfl (.inl rfl)) (pgs_cons (pg_name (i := 5) scCan.nd rfl (.inl rfl)) pgs_nil))) (fun _ _ _ _ _ => pts_nil) (fun _ _ _ _ _ => pe_chain op_le op_le (pv 5) (pv 4) pe_int)) pa_nil)))), ?_⟩
    refine ⟨_, rfl, _, rfl, _, rfl, l, sv, ev, js, s, e, rfl, hl, fs, fe, hsl, hjl, hm, fun v H1 s1 f1 => ?_⟩
    obtain ⟨t, ys, rfl, ht, fy⟩ := f1.t
    have hi : ixOf (js.map (·.1)) e.2 < s.length := by
      rw [hsl, ← List.length_map (f := (·.1))]
      exact ixOf_lt hm
    have hbl : (behS (js.map (·.1)) s e).length = js.length := by rw [behS_len hi, hsl]
    have yl : ys.length = js.length := by rw [fy.len, List.length_map, hbl]
    refine ⟨_, rfl, t, rfl, ⟨_, SqT.of ht⟩, fun D hD => ?_⟩
    refine lc_tup (K := K) (a := t) (xs := ys) (fun i H' => Same H1 H' ∧ H' D = some (.lst ((((behS (js.map (·.1)) s e).take i).map okP).map V.bl))) ⟨same_new hD, upd_same⟩ (fun i H' _ ⟨s2, _⟩ => SqT.of (s2 _ _ ht)) ?_ ?_
    · rintro i x H' hx ⟨s2, eD⟩
      obtain ⟨p, hp, fp⟩ := fy.atM hx
      obtain ⟨b, x1, x2, rfl, hb, f1, f2⟩ := fp.t2
      obtain rfl := f1.i
      obtain rfl := f2.i
      have hlt : i < ys.length := (List.getElem?_eq_some_iff.mp hx).1
      refine ⟨b, _, rfl, SqT.of (s2 _ _ hb), rfl, _, _, rfl, _, _, rfl, rfl, rfl, _, rfl, _, rfl, _, _, rfl, rfl, _, rfl, ?_⟩
      have fin : ∀ k : Bool, k = okP p → ∃ acc, H' D = some (.lst acc) ∧ acc.length < sizeLine ∧ Same H1 (upd H' D (.lst (acc ++ [.bl k]))) ∧ upd H' D (.lst (acc ++ [.bl k])) D = some (.lst ((((behS (js.map (·.1)) s e).take (i + 1)).map okP).map V.bl)) := by
        rintro k rfl
        refine ⟨_, eD, ?_, same_upd s2 hD, ?_⟩
        · rw [List.length_map, List.length_map, List.length_take]
          exact Nat.lt_of_le_of_lt (Nat.min_le_left _ _) (Nat.lt_of_lt_of_le hlt (Nat.le_trans (by omega) (show 10 ≤ sizeLine by decide)))
        · rw [upd_same, take_next hp, List.map_append, List.map_append]
          rfl
      refine ite2 (fun c => ⟨_, _, rfl, rfl, fin _ ?_⟩) (fun c => fin _ ?_)
      · unfold okP
        rw [c, Bool.true_and]
      · unfold okP
        rw [Bool.eq_false_iff.mpr c, Bool.false_and]
    · rintro H' ⟨s2, eD⟩
      refine ⟨D, _, rfl, SqL.of eD, ?_⟩
      rw [yl, ← hbl, List.take_length, List.all_map]
      exact k H' (s1.trans s2)
abbrev NE : List Str := ["_law_jobs_here", "_law_standing", "_law_some_here", "_law_name", "_law_manner", "_law_event"]
theorem scEv : FnScope NE ["_law_jobs_here", "_law_standing"] (defScope sEvents) := ⟨rfl, rfl, rfl, by decide +kernel, rfl, by decide +kernel, by decide +kernel⟩
theorem evs_next (L : List Str) (n : Str) : evs (L ++ [n]) = evs L ++ ([("begin", n), ("end", n)] : List (Str × Str)) := by
  unfold evs
  rw [List.flatMap_append]
  rfl
theorem ok_events {f fB fC : Addr} {fd fdB fdC : FuncData} (F : Fun K "_law_events" "_law_events" sEvents f fd) (nA : mg "all" = none) (FB : Fun K "_law_behind" "_law_behind" sBehind fB fdB) (gB : mg "_law_behind" = some (.ref fB)) (bB : Binds K fdB ["_law_jobs_here", "_law_standing", "_law_event"] [])
    (FC : Fun K "_law_can_come" "_law_can_come" sCanCome fC fdC) (gC : mg "_law_can_come" = some (.ref fC)) (bC : Binds K fdC ["_law_jobs_here", "_law_standing", "_law_event"] []) :
    FnOk P w K mg base CX0 3 f fd ["_law_jobs_here", "_law_standing"] (spEvents K) := by
  have GC : FnOk P w K mg base CX0 2 fC fdC ["_law_jobs_here", "_law_standing", "_law_event"] (spCan K) := ok_can FC nA FB gB bB
  refine F.ok scEv (fun vs H Q E h => ?_) (fun cdv A outer s H vs Q E hr h => ?_)
  · obtain ⟨l, sv, js, s, rfl, _⟩ := h
    rfl
  · obtain ⟨l, sv, js, s, rfl, ⟨xs, hl, fx⟩, fs, hsl, hjl, k⟩ := h
    refine ⟨_, pss_cons (ps_set (i := 2) scEv.nd rfl (.inl rfl) (pe_lst pa_nil))
      (pss_cons (ps_for PassesOwn.never rfl (pi_list (pv 0)) (pg_tup rfl (pgs_cons (pg_name (i := 3) scEv.nd rfl (.inl rfl)) (pgs_cons (pg_name (i := 4) scEv.nd rfl (.inl rfl)) pgs_nil)))
        (pss_one (ps_expr (pe_bm PySem.F.plainAttrs_list PySem.F.slot_list_extend PySem.F.type_list_extend mt_extend (pv 2) (pa_cons (pe_lst (pa_cons (pe_tup (pa_cons pe_str (pa_cons (pv 3) pa_nil))) (pa_cons (pe_tup (pa_cons pe_str (pa_cons (pv 3) pa_nil))) pa_nil))) pa_nil)))))
      (pss_one (ps_ret (pe_lc (own := [("_law_event", 5)]) (g := gName 5) rfl scEv.nd (pi_list (pv 2)) (blkOk_by (N := NE) (sc := defScope sEvents) (by decide +kernel)) (fun _ _ _ _ _ => pg_name (i := 5) scEv.nd rfl (.inl rfl))
        (fun _ _ _ _ _ => pts_one (pt_val (pe_call GC hr rfl gC FC.kp bC .nil pass0 (pa_cons (pv 0) (pa_cons (pv 1) (pa_cons (pv 5) pa_nil)))))) (fun _ _ _ _ _ => pv 5))))), ?_⟩
    refine ⟨by decide, fun p np => ?_⟩
    have sp := same_new (o := .lst []) np
    refine ⟨_, rfl, l, rfl, ⟨_, SqL.of (sp _ _ hl)⟩, for_list (K := K) (a := l) (xs := xs) (fun i σ H' => ∃ (x3 x4 : Option V) (acc : List V), σ = [some (.ref l), some sv, some (.ref p), x3, x4, none] ∧ Same H H' ∧ H' p = some (.lst acc) ∧ FzAll H' acc ((evs ((js.map (·.1)).take i)).map eE))
      ⟨none, none, [], rfl, sp, upd_same, .nil⟩ (fun i σ H' _ ⟨_, _, _, _, s1, _⟩ => SqL.of (s1 _ _ hl)) ?_ ?_⟩
    · rintro i x σ H' hx ⟨x3, x4, acc, rfl, s1, eP, fz⟩
      obtain ⟨j, hj, fj⟩ := fx.atM hx
      obtain ⟨b, y1, y2, rfl, hb, f1, f2⟩ := fj.t2
      obtain rfl := f1.s
      have hlt : i < js.length := (List.getElem?_eq_some_iff.mp hj).1
      have la : acc.length = 2 * i := by
        rw [fz.len, List.length_map]
        unfold evs
        rw [List.length_flatMap]
        have z : (List.take i (List.map (fun x => x.1) js)).map (fun n => [(("begin" : Str), n), (("end" : Str), n)].length) = List.replicate i 2 := by
          rw [List.eq_replicate_iff]
          refine ⟨by rw [List.length_map, List.length_take, List.length_map]; omega, fun y hy => ?_⟩
          obtain ⟨_, _, e⟩ := List.mem_map.mp hy
          exact e.symm
        rw [z, List.sum_replicate_nat]
        omega
      refine ⟨b, _, rfl, SqT.of (s1 _ _ hb), rfl, _, _, rfl, _, _, rfl, rfl, ?_⟩
      refine ⟨_, rfl, .inl ⟨rfl, _, SqL.of eP⟩, _, rfl, (by show 2 ≤ sizeLine; decide), fun t ht => ?_⟩
      have st := same_new (o := .tup [.str "begin", .str j.1]) ht
      refine ⟨_, rfl, (by show 2 ≤ sizeLine; decide), fun u hu => ?_⟩
      have su := same_new (o := .tup [.str "end", .str j.1]) hu
      refine ⟨(by show 2 ≤ sizeLine; decide), fun v hv => ?_⟩
      have sv' := same_new (o := .lst [.ref t, .ref u]) hv
      have sF := (st.trans su).trans sv'
      refine ⟨p, v, _, _, rfl, rfl, sF _ _ eP, upd_same, by rw [la]; show 2 * i + 2 ≤ sizeLine; exact Nat.le_trans (show 2 * i + 2 ≤ 100 by omega) (by decide), ?_⟩
      refine ⟨_, _, _, rfl, same_upd (s1.trans sF) np, upd_same, FzAll.mv (tups_lst (sF _ _ eP)) ?_⟩
      rw [take_next (x := j.1) (by rw [List.getElem?_map, hj]; rfl), evs_next, List.map_append]
      exact (fz.same sF).append (.cons (.tup (sv' _ _ (su _ _ upd_same)) (.cons (.str _) (.cons (.str _) .nil))) (.cons (.tup (sv' _ _ upd_same) (.cons (.str _) (.cons (.str _) .nil))) .nil))
    · rintro σ H' ⟨x3, x4, acc, rfl, s1, eP, fz⟩
      rw [fx.len, List.length_map, List.take_of_length_le (by rw [List.length_map]; exact Nat.le_refl _)] at fz
      refine ⟨_, rfl, p, rfl, ⟨_, SqL.of eP⟩, fun D hD => ?_⟩
      have D0 : H D = none := s1.free hD
      have la : acc.length ≤ 20 := by
        rw [fz.len, List.length_map]
        unfold evs
        rw [List.length_flatMap]
        have z : (List.map (fun x => x.1) js).map (fun n => [(("begin" : Str), n), (("end" : Str), n)].length) = List.replicate js.length 2 := by
          rw [List.eq_replicate_iff]
          refine ⟨by rw [List.length_map, List.length_map], fun y hy => ?_⟩
          obtain ⟨_, _, e⟩ := List.mem_map.mp hy
          exact e.symm
        rw [z, List.sum_replicate_nat]
        omega
      refine lc_list (K := K) (a := p) (xs := acc) (fun i H2 => Same H' H2 ∧ ∃ acc2, H2 D = some (.lst acc2) ∧ acc2.length ≤ i ∧ FzAll H2 acc2 ((((evs (js.map (·.1))).take i).filter (canS (js.map (·.1)) s)).map eE)) ⟨same_new hD, [], upd_same, Nat.le_refl _, .nil⟩ (fun i H2 _ ⟨s2, _⟩ => SqL.of (s2 _ _ eP)) ?_ ?_
      · rintro i x H2 hx ⟨s2, acc2, eD, l2, fz2⟩
        obtain ⟨e, he, fe⟩ := fz.atM hx
        have hlt : i < acc.length := (List.getElem?_eq_some_iff.mp hx).1
        have hem : e.2 ∈ js.map (·.1) := by
          have m := List.mem_of_getElem? he
          unfold evs at m
          obtain ⟨n, hn, hm⟩ := List.mem_flatMap.mp m
          rcases List.mem_cons.mp hm with z | z
          · rw [z]
            exact hn
          · rw [List.mem_singleton.mp z]
            exact hn
        have sH2 := s1.trans s2
        have fe2 := fe.same s2
        refine ⟨rfl, _, rfl, _, rfl, _, rfl, l, sv, x, js, s, e, rfl, ⟨xs, sH2 _ _ hl, fx.same sH2⟩, fs.same sH2, fe2, hsl, hjl, hem, fun H3 s3 => ⟨_, rfl, ?_⟩⟩
        have nD : ∀ o, Same H' (upd H3 D o) := fun o => same_upd (s2.trans s3) hD
        refine ite2 (fun c => ?_) (fun c => ?_)
        · refine ⟨_, rfl, acc2, s3 _ _ eD, Nat.lt_of_le_of_lt l2 (Nat.lt_of_lt_of_le (show i < 100 by omega) (by decide)), nD _, _, upd_same, by rw [List.length_append, List.length_singleton]; omega, FzAll.mv (tups_lst (s3 _ _ eD)) ?_⟩
          rw [take_next he, List.filter_append, List.map_append]
          rw [show List.filter (canS (js.map (·.1)) s) [e] = [e] by simp [c]]
          exact (fz2.same s3).snoc (fe2.same s3)
        · refine ⟨s2.trans s3, acc2, s3 _ _ eD, Nat.le_succ_of_le l2, ?_⟩
          rw [take_next he, List.filter_append, List.map_append]
          rw [show List.filter (canS (js.map (·.1)) s) [e] = [] by simp [c]]
          rw [List.map_nil, List.append_nil]
          exact fz2.same s3
      · rintro H2 ⟨s2, acc2, eD, _, fz2⟩
        rw [fz.len, List.length_map, List.take_length] at fz2
        exact k D H2 (s1.trans s2) D0 ⟨acc2, eD, fz2⟩
end
end K01
namespace GD
open PySem PySem.Spec PyProof.Rows L2
def MannerOk (m : Str) (size : Nat) (c : Int × Int) : Prop := (m = "clean" → c.1 ≤ 0 ∧ c.2 = -c.1) ∧ (m = "spent" → c.1 ≤ 0 ∧ c.2 = 0) ∧ (m = "plain" → c.1 ≤ 0 ∧ 0 ≤ c.2) ∧ -(size : Int) ≤ c.1 ∧ c.1 ≤ size ∧ -(size : Int) ≤ c.2 ∧ c.2 ≤ size
def spChange : Sp := fun vs H Q _ => ∃ (a : Addr) (m : Str) (size : Nat) (z : Int), vs = [.ref a, .str m, .int size] ∧ PotAt H a z ∧ z ≤ 90000 ∧ 1 ≤ size ∧ size ≤ 1000000000000 ∧
  ∀ v (c : Int × Int) H', PotAt H' a (z + 4) → Keep a H H' → Fz H' v (eP c) → MannerOk m size c → Q v H'
abbrev Stk := Int × List (Int × Int)
def eK (st : Stk) : PyData := .tuple [.int st.1, .tuple (st.2.map eP)]
def StockOk (js : List (Str × Str)) (size : Nat) (st : Stk) : Prop := 0 ≤ st.1 ∧ st.1 ≤ 2 * size ∧ st.2.length = js.length ∧ ∀ (i : Nat) (j : Str × Str) (c : Int × Int), js[i]? = some j → st.2[i]? = some c → MannerOk j.2 size c
def spStock : Sp := fun vs H Q _ => ∃ (a l : Addr) (js : List (Str × Str)) (size : Nat) (z : Int), vs = [.ref a, .ref l, .int size] ∧ PotAt H a z ∧ z ≤ 80000 ∧ l ≠ a ∧ LstAt H l (js.map eE) ∧ js.length ≤ 10 ∧ 1 ≤ size ∧ size ≤ 1000000000000 ∧
  ∀ v st H', PotAt H' a (z + 50) → Keep a H H' → Fz H' v (eK st) → StockOk js size st → Q v H'
def levelS (st : Stk) (s : Stn) : Int := st.1 + (List.zipWith (fun c p => p.1 * c.1 + p.2 * c.2) st.2 s).sum
def letsS (sts : List Stk) (s : Stn) : Bool := sts.all fun st => decide (0 ≤ levelS st s)
def Small (s : Stn) : Prop := ∀ p ∈ s, -1000 ≤ p.1 ∧ p.1 ≤ 1000 ∧ -1000 ≤ p.2 ∧ p.2 ≤ 1000
def spLevel (K : PySem.W.Frag) : Sp := fun vs H Q _ => ∃ (x y : V) (st : Stk) (s : Stn), vs = [x, y] ∧ Fz H x (eK st) ∧ Fz H y (eS s) ∧ st.2.length = s.length ∧ s.length ≤ 10 ∧ Small s ∧ ∀ H', Same H H' → Q (.int (levelS st s)) H'
def spLets (K : PySem.W.Frag) : Sp := fun vs H Q _ => ∃ (l : Addr) (y : V) (sts : List Stk) (s : Stn), vs = [.ref l, y] ∧ LstAt H l (sts.map eK) ∧ Fz H y (eS s) ∧ (∀ st ∈ sts, st.2.length = s.length) ∧ s.length ≤ 10 ∧ sts.length ≤ 100 ∧ Small s ∧ ∀ H', Same H H' → Q (.bl (letsS sts s)) H'
theorem keep_none {a p : Addr} {H H' : Hp} {z : Int} (hp : PotAt H' a z) (k : Keep a H H') (h : H' p = none) : H p = none := by
  cases c : H p with
  | none => rfl
  | some o =>
    rw [k p o (hp.ne h) c] at h
    cases h
end GD
namespace K01
open PySem PySem.Spec PyProof.Rows L2 GD
section
variable {P : Program} {w : World} {K : PySem.W.Frag} {mg : Str → Option Value} {base : Heap}
theorem scCh : FnScope ["_law_pot_here", "_law_manner", "_law_size", "_law_taken"] ["_law_pot_here", "_law_manner", "_law_size"] (defScope sChange) := ⟨rfl, rfl, rfl, by decide +kernel, rfl, by decide +kernel, by decide +kernel⟩
theorem ok_change {f fT : Addr} {fd fdT : FuncData} (F : Fun K "_law_change" "_law_change" sChange f fd) (T : TxtA mg) (FT : Fun K "_law_take" "_law_take" sTake fT fdT) (gT : mg "_law_take" = some (.ref fT)) (bT : Binds K fdT ["_law_pot_here", "_law_upto"] []) :
    FnOk P w K mg base CX0 2 f fd ["_law_pot_here", "_law_manner", "_law_size"] spChange := by
  have GT : FnOk P w K mg base CX0 1 fT fdT ["_law_pot_here", "_law_upto"] spTake := ok_take FT T
  refine F.ok scCh (fun vs H Q E h => ?_) (fun cdv A outer s H vs Q E hr h => ?_)
  · obtain ⟨a, m, size, z, rfl, _⟩ := h
    rfl
  · obtain ⟨a, m, size, z, rfl, hp, hz, h1, h2, k⟩ := h
    refine ⟨_, pss_cons (ps_set (i := 3) scCh.nd rfl (.inl rfl) (pe_call GT hr rfl gT FT.kp bT .nil pass0 (pa_cons (pv 0) (pa_cons (pv 2) pa_nil))))
      (pss_cons (ps_if (pt_cmpR op_eq (pv 1) pe_str (nomark _)) (pss_one (ps_ret (pe_tup (pa_cons (pe_un un_neg (pv 3)) (pa_cons (pv 3) pa_nil))))) pss_nil)
      (pss_cons (ps_if (pt_cmpR op_eq (pv 1) pe_str (nomark _)) (pss_one (ps_ret (pe_tup (pa_cons (pe_un un_neg (pv 3)) (pa_cons pe_int pa_nil))))) pss_nil)
      (pss_cons (ps_if (pt_cmpR op_eq (pv 1) pe_str (nomark _)) (pss_one (ps_ret (pe_tup (pa_cons (pe_un un_neg (pv 3)) (pa_cons (pe_call GT hr rfl gT FT.kp bT .nil pass0 (pa_cons (pv 0) (pa_cons (pv 2) pa_nil))) pa_nil))))) pss_nil)
      (pss_one (ps_ret (pe_tup (pa_cons (pe_op op_add (pe_op op_sub (pe_call GT hr rfl gT FT.kp bT .nil pass0 (pa_cons (pv 0) (pa_cons (pe_op op_sub (pe_op op_mul pe_int (pv 2)) pe_int) pa_nil))) (pv 2)) pe_int)
        (pa_cons (pe_op op_add (pe_op op_sub (pe_call GT hr rfl gT FT.kp bT .nil pass0 (pa_cons (pv 0) (pa_cons (pe_op op_sub (pe_op op_mul pe_int (pv 2)) pe_int) pa_nil))) (pv 2)) pe_int) pa_nil)))))))), ?_⟩
    have small : CMul 2 (size : Int) := .inl ⟨by decide, by decide⟩
    refine ⟨_, rfl, _, rfl, a, size, z, rfl, hp, by omega, by omega, by omega, fun n H1 n0 n1 p1 k1 => ?_⟩
    refine ⟨_, rfl, rfl, _, rfl, ite2 (fun c => ?_) (fun c1 => ?_)⟩
    · have c' : m = "clean" := V.str.inj (of_decide_eq_true c)
      refine ⟨_, rfl, _, rfl, _, rfl, (by show 2 ≤ sizeLine; decide), fun t ht => k _ (-n, n) _ ((p1.same (same_new ht)).le (by omega)) (k1.trans (sKeep (same_new ht))) (.tup upd_same (.cons (.int _) (.cons (.int _) .nil))) ?_⟩
      subst c'
      exact ⟨fun _ => ⟨by show -n ≤ 0; omega, by show n = - -n; omega⟩, fun z => by exact absurd z (by decide), fun z => by exact absurd z (by decide), by show -(size : Int) ≤ -n; omega, by show -n ≤ size; omega, by show -(size : Int) ≤ n; omega, by show n ≤ size; omega⟩
    have c1' : ¬ m = "clean" := fun z => c1 (decide_eq_true (congrArg V.str z))
    refine ⟨_, rfl, rfl, _, rfl, ite2 (fun c => ?_) (fun c2 => ?_)⟩
    · have c' : m = "spent" := V.str.inj (of_decide_eq_true c)
      refine ⟨_, rfl, _, rfl, (by show 2 ≤ sizeLine; decide), fun t ht => k _ (-n, 0) _ ((p1.same (same_new ht)).le (by omega)) (k1.trans (sKeep (same_new ht))) (.tup upd_same (.cons (.int _) (.cons (.int _) .nil))) ?_⟩
      subst c'
      exact ⟨fun z => by exact absurd z (by decide), fun _ => ⟨by show -n ≤ 0; omega, rfl⟩, fun z => by exact absurd z (by decide), by show -(size : Int) ≤ -n; omega, by show -n ≤ size; omega, by show -(size : Int) ≤ 0; omega, by show (0 : Int) ≤ size; omega⟩
    have c2' : ¬ m = "spent" := fun z => c2 (decide_eq_true (congrArg V.str z))
    refine ⟨_, rfl, rfl, _, rfl, ite2 (fun c => ?_) (fun c3 => ?_)⟩
    · have c' : m = "plain" := V.str.inj (of_decide_eq_true c)
      refine ⟨_, rfl, _, rfl, _, rfl, _, rfl, a, size, _, rfl, p1, by omega, by omega, by omega, fun n2 H2 m0 m1 p2 k2 => ?_⟩
      refine ⟨(by show 2 ≤ sizeLine; decide), fun t ht => k _ (-n, n2) _ ((p2.same (same_new ht)).le (by omega)) ((k1.trans k2).trans (sKeep (same_new ht))) (.tup upd_same (.cons (.int _) (.cons (.int _) .nil))) ?_⟩
      exact ⟨fun z => absurd z c1', fun z => absurd z c2', fun _ => ⟨by show -n ≤ 0; omega, m0⟩, by show -(size : Int) ≤ -n; omega, by show -n ≤ size; omega, by show -(size : Int) ≤ n2; omega, by show n2 ≤ size; omega⟩
    have c3' : ¬ m = "plain" := fun z => c3 (decide_eq_true (congrArg V.str z))
    refine ⟨_, rfl, _, rfl, _, _, rfl, rfl, small, _, _, rfl, rfl, a, 2 * (size : Int) - 1, _, rfl, p1, by omega, by omega, by omega, fun u H2 u0 u1 p2 k2 => ?_⟩
    refine ⟨_, rfl, _, _, rfl, rfl, _, _, rfl, rfl, _, rfl, _, rfl, _, _, rfl, rfl, small, _, _, rfl, rfl, a, 2 * (size : Int) - 1, _, rfl, p2, by omega, by omega, by omega, fun v H3 v0 v1 p3 k3 => ?_⟩
    refine ⟨_, rfl, _, _, rfl, rfl, _, _, rfl, rfl, (by show 2 ≤ sizeLine; decide), fun t ht => k _ (u - size + 1, v - size + 1) _ ((p3.same (same_new ht)).le (by omega)) (((k1.trans k2).trans k3).trans (sKeep (same_new ht))) (.tup upd_same (.cons (.int _) (.cons (.int _) .nil))) ?_⟩
    exact ⟨fun z => absurd z c1', fun z => absurd z c2', fun z => absurd z c3', by show -(size : Int) ≤ u - size + 1; omega, by show u - size + 1 ≤ (size : Int); omega, by show -(size : Int) ≤ v - size + 1; omega, by show v - size + 1 ≤ (size : Int); omega⟩
end
end K01
namespace GD
open PySem PySem.Spec PyProof.Rows L2
/-! what the drawn facts are -/
def Bd (n : Int) (s : Stn) : Prop := ∀ p ∈ s, 0 ≤ p.2 ∧ p.2 ≤ p.1 ∧ p.1 ≤ n
theorem Bd.le {n m : Int} {s : Stn} (h : Bd n s) (l : n ≤ m) : Bd m s := fun p hp => by
  have z := h p hp
  omega
theorem Bd.small {n : Int} {s : Stn} (h : Bd n s) (l : n ≤ 1000) : Small s := fun p hp => by
  have z := h p hp
  omega
theorem bd_first {k : Nat} : Bd 0 (List.replicate k (0, 0)) := fun p hp => by
  rw [(List.mem_replicate.mp hp).2]
  decide
theorem okP_iff {p : Int × Int} : okP p = true ↔ p.2 ≤ p.1 ∧ p.1 ≤ 40 := by
  unfold okP
  rw [Bool.and_eq_true, decide_eq_true_iff, decide_eq_true_iff]
theorem mem_beh {names : List Str} {s : Stn} {e : Str × Str} {q : Int × Int} (h : q ∈ behS names s e) : q ∈ s ∨ q = bumpP e.1 (s.getD (ixOf names e.2) (0, 0)) := by
  unfold behS at h
  rcases List.mem_append.mp h with h | h
  · rcases List.mem_append.mp h with h | h
    · exact .inl (List.mem_of_mem_take h)
    · exact .inr (List.mem_singleton.mp h)
  · exact .inl (List.mem_of_mem_drop h)
theorem bump_mem {names : List Str} {s : Stn} {e : Str × Str} : bumpP e.1 (s.getD (ixOf names e.2) (0, 0)) ∈ behS names s e := by
  unfold behS
  exact List.mem_append_left _ (List.mem_append_right _ (List.mem_singleton.mpr rfl))
theorem getD_mem {s : Stn} {i : Nat} (h : i < s.length) : s.getD i (0, 0) ∈ s := by
  rw [List.getD_eq_getElem?_getD, List.getElem?_eq_getElem h]
  exact List.getElem_mem h
theorem bd_beh {n : Int} {names : List Str} {s : Stn} {e : Str × Str} (h : Bd n s) (hi : ixOf names e.2 < s.length) (c : canS names s e = true) : Bd (n + 1) (behS names s e) := fun q hq => by
  have ok := okP_iff.mp (List.all_eq_true.mp c q hq)
  rcases mem_beh hq with m | m
  · have z := h q m
    omega
  · have z := h _ (getD_mem hi)
    have z2 : 0 ≤ q.2 ∧ q.1 ≤ n + 1 := by
      rw [m]
      unfold bumpP
      split
      · constructor
        · exact z.1
        · show (s.getD (ixOf names e.2) (0, 0)).1 + 1 ≤ n + 1
          omega
      · constructor
        · show 0 ≤ (s.getD (ixOf names e.2) (0, 0)).2 + 1
          omega
        · show (s.getD (ixOf names e.2) (0, 0)).1 ≤ n + 1
          omega
    omega
theorem can_begin {n : Int} {names : List Str} {s : Stn} {x : Str} (h : Bd n s) (hn : n ≤ 39) (hx : x ∈ names) (hl : s.length = names.length) : canS names s ("begin", x) = true := by
  refine List.all_eq_true.mpr fun q hq => okP_iff.mpr ?_
  have hi : ixOf names x < s.length := by
    rw [hl]
    exact ixOf_lt hx
  rcases mem_beh hq with m | m
  · have z := h q m
    omega
  · have z := h _ (getD_mem hi)
    rw [m]
    show (s.getD (ixOf names x) (0, 0)).2 ≤ (s.getD (ixOf names x) (0, 0)).1 + 1 ∧ (s.getD (ixOf names x) (0, 0)).1 + 1 ≤ 40
    omega
theorem events_some {n : Int} {names : List Str} {s : Stn} (h : Bd n s) (hn : n ≤ 39) (h1 : names ≠ []) (hl : s.length = names.length) : (evs names).filter (canS names s) ≠ [] := by
  cases names with
  | nil => exact absurd rfl h1
  | cons x r =>
    have m : (("begin" : Str), x) ∈ evs (x :: r) := by
      unfold evs
      exact List.mem_flatMap.mpr ⟨x, List.mem_cons_self, List.mem_cons_self⟩
    exact List.ne_nil_of_mem (List.mem_filter.mpr ⟨m, can_begin h hn List.mem_cons_self hl⟩)
theorem event_job {names : List Str} {e : Str × Str} (h : e ∈ evs names) : e.2 ∈ names := by
  unfold evs at h
  obtain ⟨n, hn, hm⟩ := List.mem_flatMap.mp h
  rcases List.mem_cons.mp hm with z | z
  · rw [z]
    exact hn
  · rw [List.mem_singleton.mp z]
    exact hn
theorem evs_len (names : List Str) : (evs names).length = 2 * names.length := by
  induction names with
  | nil => rfl
  | cons x r ih =>
    have e : evs (x :: r) = ([("begin", x), ("end", x)] : List (Str × Str)) ++ evs r := rfl
    rw [e, List.length_append, ih, List.length_cons]
    show 2 + 2 * r.length = 2 * (r.length + 1)
    omega
theorem level_first {st : Stk} {k : Nat} : levelS st (List.replicate k (0, 0)) = st.1 := by
  unfold levelS
  have z : ∀ (cs : List (Int × Int)) (k : Nat), (List.zipWith (fun c p => p.1 * c.1 + p.2 * c.2) cs (List.replicate k ((0 : Int), (0 : Int)))).sum = 0 := by
    intro cs
    induction cs with
    | nil =>
      intro k
      rfl
    | cons c r ih =>
      intro k
      cases k with
      | zero => rfl
      | succ k =>
        rw [List.replicate_succ, List.zipWith_cons_cons, List.sum_cons, ih k]
        simp
  rw [z]
  omega
theorem lets_first {sts : List Stk} {k : Nat} (h : ∀ st ∈ sts, 0 ≤ st.1) : letsS sts (List.replicate k (0, 0)) = true := by
  refine List.all_eq_true.mpr fun st hs => ?_
  rw [level_first]
  exact decide_eq_true (h st hs)
/-- a fact as it was heard: let where all stocks let it, not where one does not -/
def HeardOk (k : Nat) (n : Int) (sts : List Stk) : Fact → Prop
  | .let_ s => s.length = k ∧ Bd n s ∧ letsS sts s = true
  | .not_ s => s.length = k ∧ Bd n s ∧ letsS sts s = false
  | .as_ s t => s.length = k ∧ Bd n s ∧ t.length = k ∧ Bd n t ∧ s ≠ t ∧ ∀ st ∈ sts, levelS st s = levelS st t
def spHeard : Sp := fun vs H Q _ => ∃ (a lj ls : Addr) (days most : Nat) (js : List (Str × Str)) (sts : List Stk) (z : Int), vs = [.ref a, .ref lj, .ref ls, .int days, .int most] ∧ PotAt H a z ∧ z ≤ 20000 ∧ lj ≠ a ∧ ls ≠ a ∧ LstAt H lj (js.map eE) ∧ LstAt H ls (sts.map eK) ∧
  (∀ st ∈ sts, 0 ≤ st.1 ∧ st.2.length = js.length) ∧ sts.length ≤ 100 ∧ 1 ≤ js.length ∧ js.length ≤ 10 ∧ days ≤ 10 ∧ 1 ≤ most ∧ most ≤ 30 ∧
  ∀ (t l1 l2 : Addr) (fs : List Fact) (ms : List Stn) H', PotAt H' a (z + 1000) → Keep a H H' → H l1 = none → H l2 = none → l1 ≠ l2 → H' t = some (.tup [.ref l1, .ref l2]) → LstAt H' l1 (fs.map eF) → LstAt H' l2 (ms.map eS) →
    (∀ f ∈ fs, HeardOk js.length most sts f) → (∀ f ∈ fs, ∀ s t, f ≠ .as_ s t) → ms ≠ [] → (∀ m ∈ ms, m.length = js.length ∧ Bd most m ∧ letsS sts m = true) → fs.length ≤ days * most → ms.length ≤ 1 + days * most → Q (.ref t) H'
end GD
namespace GD
open PySem PySem.Spec PyProof.Rows L2
/-! shapes of such data, for == -/
theorem can_all : ∀ {ds : List PyData}, (∀ d ∈ ds, d.canLay0 = true) → PyData.canLayAll0 ds = true
  | [], _ => by simp [PyData.canLayAll0]
  | d :: ds, h => by
    rw [PyData.canLayAll0, h d List.mem_cons_self, can_all fun e he => h e (List.mem_cons_of_mem _ he)]
    rfl
theorem can_eP (p : Int × Int) : (eP p).canLay0 = true := by simp [eP, PyData.canLay0, PyData.canLayAll0]
theorem can_eS (s : Stn) : (eS s).canLay0 = true := by
  rw [eS, PyData.canLay0]
  exact can_all fun d hd => by
    obtain ⟨p, _, e⟩ := List.mem_map.mp hd
    rw [← e]
    exact can_eP p
theorem depth_all : ∀ {ds : List PyData} {n : Nat}, (∀ d ∈ ds, d.depth ≤ n) → PyData.depthAll ds ≤ n
  | [], _, _ => by simp [PyData.depthAll]
  | d :: ds, n, h => by
    rw [PyData.depthAll]
    exact Nat.max_le.mpr ⟨h d List.mem_cons_self, depth_all fun e he => h e (List.mem_cons_of_mem _ he)⟩
theorem depth_eP (p : Int × Int) : (eP p).depth ≤ 1 := by simp [eP, PyData.depth, PyData.depthAll]
theorem depth_eS (s : Stn) : (eS s).depth ≤ 2 := by
  rw [eS, PyData.depth]
  have z := depth_all (n := 1) (ds := s.map eP) fun d hd => by
    obtain ⟨p, _, e⟩ := List.mem_map.mp hd
    rw [← e]
    exact depth_eP p
  omega
theorem shape_of {d : PyData} (h1 : d.canLay0 = true) (h2 : d.depth ≤ 60) : SeqAt.shaped d = true := by
  unfold SeqAt.shaped
  rw [h1, decide_eq_true (show d.depth ≤ 64 by omega)]
  rfl
theorem shape_eS (s : Stn) : SeqAt.shaped (eS s) = true := shape_of (can_eS s) (Nat.le_trans (depth_eS s) (by decide))
theorem can_two (x : Str) (hx : PyData.strOk x = true) {d : PyData} (h : d.canLay0 = true) : (PyData.tuple [.str x, d]).canLay0 = true := by
  rw [PyData.canLay0]
  refine can_all fun e he => ?_
  simp only [List.mem_cons, List.not_mem_nil, or_false] at he
  rcases he with rfl | rfl
  · rw [PyData.canLay0, hx]
  · exact h
theorem can_three (x : Str) (hx : PyData.strOk x = true) {d f : PyData} (h : d.canLay0 = true) (h2 : f.canLay0 = true) : (PyData.tuple [.str x, d, f]).canLay0 = true := by
  rw [PyData.canLay0]
  refine can_all fun e he => ?_
  simp only [List.mem_cons, List.not_mem_nil, or_false] at he
  rcases he with rfl | rfl | rfl
  · rw [PyData.canLay0, hx]
  · exact h
  · exact h2
theorem can_eF (f : Fact) : (eF f).canLay0 = true := by
  cases f with
  | let_ s =>
    rw [eF]
    exact can_two _ (by decide +kernel) (can_eS s)
  | not_ s =>
    rw [eF]
    exact can_two _ (by decide +kernel) (can_eS s)
  | as_ s t =>
    rw [eF]
    exact can_three _ (by decide +kernel) (can_eS s) (can_eS t)
theorem depth_str (x : Str) : (PyData.str x).depth = 0 := by simp [PyData.depth]
theorem depth_eF (f : Fact) : (eF f).depth ≤ 3 := by
  have go : ∀ ds : List PyData, (∀ d ∈ ds, d.depth ≤ 2) → (PyData.tuple ds).depth ≤ 3 := fun ds h => by
    rw [PyData.depth]
    have z := depth_all h
    omega
  cases f with
  | let_ s =>
    rw [eF]
    refine go _ fun d hd => ?_
    simp only [List.mem_cons, List.not_mem_nil, or_false] at hd
    rcases hd with rfl | rfl
    · rw [depth_str]; decide
    · exact depth_eS s
  | not_ s =>
    rw [eF]
    refine go _ fun d hd => ?_
    simp only [List.mem_cons, List.not_mem_nil, or_false] at hd
    rcases hd with rfl | rfl
    · rw [depth_str]; decide
    · exact depth_eS s
  | as_ s t =>
    rw [eF]
    refine go _ fun d hd => ?_
    simp only [List.mem_cons, List.not_mem_nil, or_false] at hd
    rcases hd with rfl | rfl | rfl
    · rw [depth_str]; decide
    · exact depth_eS s
    · exact depth_eS t
theorem shape_eF (f : Fact) : SeqAt.shaped (eF f) = true := shape_of (can_eF f) (Nat.le_trans (depth_eF f) (by decide))
theorem shape_eFs (fs : List Fact) : SeqAt.shaped (.list (fs.map eF)) = true := by
  refine shape_of ?_ ?_
  · rw [PyData.canLay0]
    exact can_all fun d hd => by
      obtain ⟨f, _, e⟩ := List.mem_map.mp hd
      rw [← e]
      exact can_eF f
  · rw [PyData.depth]
    have z := depth_all (n := 3) (ds := fs.map eF) fun d hd => by
      obtain ⟨f, _, e⟩ := List.mem_map.mp hd
      rw [← e]
      exact depth_eF f
    omega
theorem eqv_self {d : PyData} (h : SeqAt.shaped d = true) : PyData.eqv d d = true := SeqAt.eqv_refl d (SeqAt.canLay_of_shaped h)
theorem ne_of_eqv {d e : PyData} (h : SeqAt.shaped d = true) (c : PyData.eqv d e = false) : d ≠ e := fun z => by
  rw [← z, eqv_self h] at c
  cases c
/-! as facts -/
def spAlike : Sp := fun vs H Q _ => ∃ (a ls lm : Addr) (many : Nat) (sts : List Stk) (ms : List Stn) (k : Nat) (n z : Int), vs = [.ref a, .ref ls, .ref lm, .int many] ∧ PotAt H a z ∧ z ≤ 90000 ∧ ls ≠ a ∧ lm ≠ a ∧ LstAt H ls (sts.map eK) ∧ LstAt H lm (ms.map eS) ∧
  (∀ st ∈ sts, st.2.length = k) ∧ k ≤ 10 ∧ n ≤ 1000 ∧ sts.length ≤ 100 ∧ ms ≠ [] ∧ ms.length ≤ 900 ∧ (∀ m ∈ ms, m.length = k ∧ Bd n m) ∧ many ≤ 10 ∧
  ∀ p (fs : List Fact) H', H p = none → PotAt H' a (z + 2 * many) → Keep a H H' → LstAt H' p (fs.map eF) → (∀ f ∈ fs, HeardOk k n sts f) → fs.length ≤ many → Q (.ref p) H'
/-! the few that are kept -/
def kindS : Fact → Str
  | .let_ _ => "let"
  | .not_ _ => "not"
  | .as_ _ _ => "as"
def cnt (x : Str) (fs : List Fact) : Nat := (fs.filter fun f => decide (kindS f = x)).length
def dk3 (a b c : Int) : List (Key × V) := [(.inr "let", .int a), (.inr "not", .int b), (.inr "as", .int c)]
def spFew : Sp := fun vs H Q _ => ∃ (lf : Addr) (x y w : Nat) (fs : List Fact), vs = [.ref lf, .int x, .int y, .int w] ∧ LstAt H lf (fs.map eF) ∧ fs.length ≤ 5000 ∧
  ∀ p (gs : List Fact) H', Same H H' → H p = none → LstAt H' p (gs.map eF) → gs.Nodup → (∀ g ∈ gs, g ∈ fs) → cnt "let" gs ≤ x → cnt "not" gs ≤ y → cnt "as" gs ≤ w → gs.length ≤ fs.length → Q (.ref p) H'
end GD
namespace GD
open PySem PySem.Spec PyProof.Rows L2
theorem walk_zipT {K : PySem.W.Frag} {a b : Addr} {xs ys : List V} {n : Nat} (hx : n = xs.length) (hy : n = ys.length) : Walk (RZ.ItzT K a b) n (fun H => SqT K H a xs ∧ SqT K H b ys) (YPair (fun i => xs[i]?) (fun i => ys[i]?)) := by
  refine ⟨fun i _ hi q => ?_, fun _ q => ⟨xs, ys, q.1, q.2, by omega⟩, fun i H v H' _ q y => ?_⟩
  · exact ⟨xs, ys, xs[i]'(by omega), ys[i]'(by omega), q.1, q.2, List.getElem?_eq_getElem (by omega), List.getElem?_eq_getElem (by omega)⟩
  · obtain ⟨T, x, z, h1, h2, h3, h4, h5⟩ := y
    exact ⟨T, x, z, h1, h2, h3, h4 xs q.1, h5 ys q.2⟩
end GD
namespace K01
open PySem PySem.Spec PyProof.Rows L2 GD
section
variable {P : Program} {w : World} {K : PySem.W.Frag} {mg : Str → Option Value} {base : Heap}
abbrev NS : List Str := ["_law_pot_here", "_law_jobs_here", "_law_size", "_law_name", "_law_manner"]
theorem scStock : FnScope NS ["_law_pot_here", "_law_jobs_here", "_law_size"] (defScope sStock) := ⟨rfl, rfl, rfl, by decide +kernel, rfl, by decide +kernel, by decide +kernel⟩
theorem ok_stock {f fC fT : Addr} {fd fdC fdT : FuncData} (F : Fun K "_law_stock" "_law_stock" sStock f fd) (T : TxtA mg) (nT : mg "tuple" = none) (FT : Fun K "_law_take" "_law_take" sTake fT fdT) (gT : mg "_law_take" = some (.ref fT)) (bT : Binds K fdT ["_law_pot_here", "_law_upto"] [])
    (FC : Fun K "_law_change" "_law_change" sChange fC fdC) (gC : mg "_law_change" = some (.ref fC)) (bC : Binds K fdC ["_law_pot_here", "_law_manner", "_law_size"] []) : FnOk P w K mg base CX0 3 f fd ["_law_pot_here", "_law_jobs_here", "_law_size"] spStock := by
  have GT : FnOk P w K mg base CX0 1 fT fdT ["_law_pot_here", "_law_upto"] spTake := ok_take FT T
  have GC : FnOk P w K mg base CX0 2 fC fdC ["_law_pot_here", "_law_manner", "_law_size"] spChange := ok_change FC T FT gT bT
  refine F.ok scStock (fun vs H Q E h => ?_) (fun cdv A outer s H vs Q E hr h => ?_)
  · obtain ⟨a, l, js, size, z, rfl, _⟩ := h
    rfl
  · obtain ⟨a, l, js, size, z, rfl, hp, hz, hla, ⟨xs, hl, fx⟩, hjl, h1, h2, k⟩ := h
    have hr1 : Room 1 _ := hr.mono (by decide)
    refine ⟨_, pss_one (ps_ret (pe_tup (pa_cons (pe_call GT hr1 rfl gT FT.kp bT .nil pass0 (pa_cons (pv 0) (pa_cons (pe_op op_add (pe_op op_mul pe_int (pv 2)) pe_int) pa_nil)))
      (pa_cons (pe_callTy call_tuple_of (by rfl) nT (by decide +kernel) (pa_cons (pe_lc (own := [("_law_name", 3), ("_law_manner", 4)]) (g := gTup K 2 (gCons (gName 3) (gCons (gName 4) gNil))) (tt := tYes) rfl scStock.nd (pi_list (pv 1)) (blkOk_by (N := NS) (sc := defScope sStock) (by decide +kernel))
        (fun _ _ _ _ _ => pg_tup rfl (pgs_cons (pg_name (i := 3) scStock.nd rfl (.inl rfl)) (pgs_cons (pg_name (i := 4) scStock.nd rfl (.inl rfl)) pgs_nil))) (fun _ _ _ _ _ => pts_nil)
        (fun _ _ _ _ _ => pe_call GC hr rfl gC FC.kp bC .nil pass0 (pa_cons (pv 0) (pa_cons (pv 4) (pa_cons (pv 2) pa_nil))))) pa_nil)) pa_nil)))), ?_⟩
    refine ⟨_, rfl, _, rfl, _, _, rfl, rfl, .inl ⟨by decide, by decide⟩, _, _, rfl, rfl, a, 2 * (size : Int) + 1, z, rfl, hp, by omega, by omega, by omega, fun n H1 n0 n1 p1 k1 => ?_⟩
    have hl1 := k1 _ _ hla hl
    refine ⟨_, rfl, l, rfl, ⟨_, SqL.of hl1⟩, fun D hD => ?_⟩
    have D0 : H D = none := keep_none p1 k1 hD
    have nDa : D ≠ a := p1.ne hD
    refine lc_list (K := K) (a := l) (xs := xs) (fun i H' => PotAt H' a (z + 1 + 4 * (i : Nat)) ∧ Keep a H H' ∧ ∃ (acc : List V) (cs : List (Int × Int)), H' D = some (.lst acc) ∧ FzAll H' acc (cs.map eP) ∧ cs.length = i ∧ ∀ (m : Nat) (j : Str × Str) (c : Int × Int), js[m]? = some j → cs[m]? = some c → MannerOk j.2 size c)
      ⟨(p1.upd_ne nDa).le (by omega), keep_upd k1 D0, [], [], upd_same, .nil, rfl, fun m j c _ h => by simp at h⟩ (fun i H' _ ⟨_, k2, _⟩ => SqL.of (k2 _ _ hla hl)) ?_ ?_
    · rintro i x H' hx ⟨pi, ki, acc, cs, eD, fz, lc, hm⟩
      obtain ⟨j, hj, fj⟩ := fx.atM hx
      obtain ⟨b, y1, y2, rfl, hb, f1, f2⟩ := fj.t2
      obtain rfl := f2.s
      have tK := hp.tups ki
      have hlt : i < js.length := (List.getElem?_eq_some_iff.mp hj).1
      refine ⟨b, _, rfl, SqT.of (tK _ _ hb), rfl, _, _, rfl, _, _, rfl, rfl, rfl, ?_⟩
      refine ⟨_, rfl, _, rfl, _, rfl, a, j.2, size, _, rfl, pi, by omega, h1, h2, fun v c H2 p2 k2 fc mo => ?_⟩
      have eD2 := k2 _ _ nDa eD
      have la : acc.length = i := by rw [fz.len, List.length_map, lc]
      refine ⟨acc, eD2, by rw [la]; exact Nat.lt_of_lt_of_le (show i < 100 by omega) (by decide), (p2.upd_ne nDa).le (by omega), keep_upd (ki.trans k2) D0, _, cs ++ [c], upd_same, FzAll.mv (tups_lst eD2) ?_, by rw [List.length_append, lc]; rfl, fun m j' c' hj' hc' => ?_⟩
      · rw [List.map_append]
        exact (fz.mv (pi.tups k2)).snoc fc
      · by_cases hmi : m < cs.length
        · rw [List.getElem?_append_left hmi] at hc'
          exact hm m j' c' hj' hc'
        · have hml : m < (cs ++ [c]).length := (List.getElem?_eq_some_iff.mp hc').1
          rw [List.length_append, List.length_singleton] at hml
          have em : m = i := by omega
          subst em
          rw [List.getElem?_append_right (by omega), lc, Nat.sub_self] at hc'
          simp at hc'
          rw [hj] at hj'
          rw [← Option.some.inj hj', ← hc']
          exact mo
    · rintro H' ⟨pi, ki, acc, cs, eD, fz, lc, hm⟩
      rw [fx.len, List.length_map] at lc pi
      refine ⟨D, acc, rfl, .inl ⟨SqL.of eD, fun t ht => ?_⟩⟩
      have st := same_new (o := .tup acc) ht
      refine ⟨(by show 2 ≤ sizeLine; decide), fun u hu => ?_⟩
      have su := same_new (o := .tup [.int n, .ref t]) hu
      exact k _ (n, cs) _ ((pi.same (st.trans su)).le (by omega)) (ki.trans (sKeep (st.trans su))) (.tup upd_same (.cons (.int _) (.cons (.tup (su _ _ upd_same) (fz.same (st.trans su))) .nil))) ⟨n0, by show n ≤ 2 * (size : Int); omega, lc, hm⟩
abbrev NL : List Str := ["_law_stock_here", "_law_standing", "_law_first_here", "_law_changes", "_law_up", "_law_down", "_law_begun", "_law_ended"]
theorem scLv : FnScope NL ["_law_stock_here", "_law_standing"] (defScope sLevel) := ⟨rfl, rfl, rfl, by decide +kernel, rfl, by decide +kernel, by decide +kernel⟩
theorem ok_level {f : Addr} {fd : FuncData} (F : Fun K "_law_level" "_law_level" sLevel f fd) (nS : mg "sum" = none) (nZ : mg "zip" = none) : FnOk P w K mg base CX0 1 f fd ["_law_stock_here", "_law_standing"] (spLevel K) := by
  refine F.ok scLv (fun vs H Q E h => ?_) (fun cdv A outer s H vs Q E hr h => ?_)
  · obtain ⟨x, y, st, sn, rfl, _⟩ := h
    rfl
  · obtain ⟨x, y, st, sn, rfl, fx, fy, hl, hl10, hsm, k⟩ := h
    refine ⟨_, pss_cons (ps_asg (pv 0) (pg_tup rfl (pgs_cons (pg_name (i := 2) scLv.nd rfl (.inl rfl)) (pgs_cons (pg_name (i := 3) scLv.nd rfl (.inl rfl)) pgs_nil))))
      (pss_one (ps_ret (pe_op op_add (pv 2) (pe_callB (cr_sum rfl) (by rfl) nS (by decide +kernel) (pa_cons (pe_lc (own := [("_law_up", 4), ("_law_down", 5), ("_law_begun", 6), ("_law_ended", 7)])
        (g := gTup K 2 (gCons (gTup K 2 (gCons (gName 4) (gCons (gName 5) gNil))) (gCons (gTup K 2 (gCons (gName 6) (gCons (gName 7) gNil))) gNil))) (tt := tYes) rfl scLv.nd (RZ.pi_zipA (by rfl) nZ (pa_cons (pv 3) (pa_cons (pv 1) pa_nil))) (blkOk_by (N := NL) (sc := defScope sLevel) (by decide +kernel))
        (fun _ _ _ _ _ => pg_tup rfl (pgs_cons (pg_tup rfl (pgs_cons (pg_name (i := 4) scLv.nd rfl (.inl rfl)) (pgs_cons (pg_name (i := 5) scLv.nd rfl (.inl rfl)) pgs_nil))) (pgs_cons (pg_tup rfl (pgs_cons (pg_name (i := 6) scLv.nd rfl (.inl rfl)) (pgs_cons (pg_name (i := 7) scLv.nd rfl (.inl rfl)) pgs_nil))) pgs_nil)))
        (fun _ _ _ _ _ => pts_nil) (fun _ _ _ _ _ => pe_op op_add (pe_op op_mul (pv 6) (pv 4)) (pe_op op_mul (pv 7) (pv 5)))) pa_nil))))), ?_⟩
    obtain ⟨sa, z1, z2, rfl, hsa, g1, g2⟩ := fx.t2
    obtain rfl := g1.i
    obtain ⟨ca, cx, rfl, hca, fc⟩ := g2.t
    obtain ⟨ya, yx, rfl, hya, fs⟩ := fy.t
    refine ⟨_, rfl, sa, _, rfl, SqT.of hsa, rfl, _, _, rfl, _, _, rfl, rfl, ?_⟩
    refine ⟨_, rfl, _, rfl, _, rfl, ca, ya, cx, yx, rfl, .inr ⟨SqT.of hca, SqT.of hya, fun D hD => ?_⟩⟩
    have lx : cx.length = st.2.length := by rw [fc.len, List.length_map]
    have ly : yx.length = sn.length := by rw [fs.len, List.length_map]
    refine lc_it (walk_zipT (K := K) (a := ca) (b := ya) (xs := cx) (ys := yx) (n := sn.length) (by omega) (by omega)) (fun i H' => Same H H' ∧ H' D = some (.lst (((List.zipWith (fun c p => p.1 * c.1 + p.2 * c.2) st.2 sn).take i).map V.int))) ⟨same_new hD, upd_same⟩ (fun i H' _ ⟨s1, _⟩ => ⟨SqT.of (s1 _ _ hca), SqT.of (s1 _ _ hya)⟩) ?_ ?_
    · rintro i x H' H'' hi ⟨s1, eD⟩ ⟨T', u, v, rfl, hT, rfl, hu, hv⟩
      obtain ⟨c, hc, f1⟩ := fc.atM hu
      obtain ⟨p, hp, f2⟩ := fs.atM hv
      obtain ⟨b1, u1, u2, rfl, hb1, i1, i2⟩ := f1.t2
      obtain ⟨b2, v1, v2, rfl, hb2, i3, i4⟩ := f2.t2
      obtain rfl := i1.i
      obtain rfl := i2.i
      obtain rfl := i3.i
      obtain rfl := i4.i
      have sT := same_new (o := .tup [.ref b1, .ref b2]) hT
      obtain ⟨q1, q2, q3, q4⟩ := hsm p (List.mem_of_getElem? hp)
      refine ⟨T', _, rfl, SqT.of upd_same, rfl, _, _, rfl, ⟨b1, _, rfl, SqT.of (sT _ _ (s1 _ _ hb1)), rfl, _, _, rfl, _, _, rfl, rfl, _, _, rfl, b2, _, rfl, SqT.of (sT _ _ (s1 _ _ hb2)), rfl, _, _, rfl, _, _, rfl, rfl, rfl, rfl, ?_⟩⟩
      refine ⟨_, rfl, _, rfl, _, _, rfl, rfl, .inl ⟨by omega, by omega⟩, _, rfl, _, rfl, _, _, rfl, rfl, .inl ⟨by omega, by omega⟩, _, _, rfl, rfl, ?_⟩
      refine ⟨_, sT _ _ eD, ?_, same_upd (s1.trans sT) hD, ?_⟩
      · rw [List.length_map, List.length_take]
        exact Nat.lt_of_le_of_lt (Nat.min_le_left _ _) (Nat.lt_of_lt_of_le (show i < 100 by omega) (by decide))
      · rw [upd_same, take_next (x := p.1 * c.1 + p.2 * c.2) (by rw [List.getElem?_zipWith, hc, hp]), List.map_append]
        rfl
    · rintro H' ⟨s1, eD⟩
      rw [List.take_of_length_le (by rw [List.length_zipWith]; omega)] at eD
      exact ⟨D, _, rfl, SqL.of eD, _, _, rfl, rfl, k H' s1⟩
abbrev NT : List Str := ["_law_stocks", "_law_standing", "_law_stock_here"]
theorem scLt : FnScope NT ["_law_stocks", "_law_standing"] (defScope sLets) := ⟨rfl, rfl, rfl, by decide +kernel, rfl, by decide +kernel, by decide +kernel⟩
theorem ok_lets {f fV : Addr} {fd fdV : FuncData} (F : Fun K "_law_lets" "_law_lets" sLets f fd) (nA : mg "all" = none) (nS : mg "sum" = none) (nZ : mg "zip" = none) (FV : Fun K "_law_level" "_law_level" sLevel fV fdV) (gV : mg "_law_level" = some (.ref fV)) (bV : Binds K fdV ["_law_stock_here", "_law_standing"] []) :
    FnOk P w K mg base CX0 2 f fd ["_law_stocks", "_law_standing"] (spLets K) := by
  have GV : FnOk P w K mg base CX0 1 fV fdV ["_law_stock_here", "_law_standing"] (spLevel K) := ok_level FV nS nZ
  refine F.ok scLt (fun vs H Q E h => ?_) (fun cdv A outer s H vs Q E hr h => ?_)
  · obtain ⟨l, y, sts, sn, rfl, _⟩ := h
    rfl
  · obtain ⟨l, y, sts, sn, rfl, ⟨xs, hl, fx⟩, fy, hst, hl10, hl100, hsm, k⟩ := h
    refine ⟨_, pss_one (ps_ret (pe_callB (cr_all rfl) (by rfl) nA (by decide +kernel) (pa_cons (pe_lc (own := [("_law_stock_here", 2)]) (g := gName 2) (tt := tYes) rfl scLt.nd (pi_list (pv 0)) (blkOk_by (N := NT) (sc := defScope sLets) (by decide +kernel))
      (fun _ _ _ _ _ => pg_name (i := 2) scLt.nd rfl (.inl rfl)) (fun _ _ _ _ _ => pts_nil) (fun _ _ _ _ _ => pe_cmpR op_ge (pe_call GV hr rfl gV FV.kp bV .nil pass0 (pa_cons (pv 2) (pa_cons (pv 1) pa_nil))) pe_int (nomark _))) pa_nil))), ?_⟩
    refine ⟨_, rfl, l, rfl, ⟨_, SqL.of hl⟩, fun D hD => ?_⟩
    refine lc_list (K := K) (a := l) (xs := xs) (fun i H' => Same H H' ∧ H' D = some (.lst (((sts.take i).map fun st => decide (0 ≤ levelS st sn)).map V.bl))) ⟨same_new hD, upd_same⟩ (fun i H' _ ⟨s1, _⟩ => SqL.of (s1 _ _ hl)) ?_ ?_
    · rintro i x H' hx ⟨s1, eD⟩
      obtain ⟨st, hst', fst'⟩ := fx.atM hx
      have hlt : i < sts.length := (List.getElem?_eq_some_iff.mp hst').1
      refine ⟨rfl, _, rfl, _, rfl, x, y, st, sn, rfl, fst'.same s1, fy.same s1, hst st (List.mem_of_getElem? hst'), hl10, hsm, fun H2 s2 => ⟨_, _, rfl, rfl, ?_⟩⟩
      refine ⟨_, s2 _ _ eD, ?_, same_upd (s1.trans s2) hD, ?_⟩
      · rw [List.length_map, List.length_map, List.length_take]
        exact Nat.lt_of_le_of_lt (Nat.min_le_left _ _) (Nat.lt_of_lt_of_le (show i < 101 by omega) (by decide))
      · rw [upd_same, take_next hst', List.map_append, List.map_append]
        rfl
    · rintro H' ⟨s1, eD⟩
      refine ⟨D, _, rfl, SqL.of eD, ?_⟩
      rw [fx.len, List.length_map, List.take_length, List.all_map]
      exact k H' s1
end
end K01
namespace GD
open PySem PySem.Spec PyProof.Rows L2
def MetOk (k : Nat) (most : Int) (sts : List Stk) (m : Stn) : Prop := m.length = k ∧ Bd most m ∧ letsS sts m = true
structure HI (a l1 l2 : Addr) (H H' : Hp) (z : Int) (k : Nat) (most : Int) (sts : List Stk) (n1 n2 : Nat) : Prop where
  pot : PotAt H' a z
  kp : Keep a H H'
  ex : ∃ (fs : List Fact) (ms : List Stn), LstAt H' l1 (fs.map eF) ∧ LstAt H' l2 (ms.map eS) ∧ (∀ f ∈ fs, HeardOk k most sts f) ∧ (∀ f ∈ fs, ∀ s t, f ≠ .as_ s t) ∧ ms ≠ [] ∧ (∀ m ∈ ms, MetOk k most sts m) ∧ fs.length ≤ n1 ∧ ms.length ≤ n2
section
variable {a l1 l2 : Addr} {H H' H'' : Hp} {z z' : Int} {k : Nat} {most : Int} {sts : List Stk} {n1 n2 : Nat}
theorem HI.keep (h : HI a l1 l2 H H' z k most sts n1 n2) (d1 : l1 ≠ a) (d2 : l2 ≠ a) (kp : Keep a H' H'') (p : PotAt H'' a z') : HI a l1 l2 H H'' z' k most sts n1 n2 := by
  obtain ⟨fs, ms, x1, x2, r⟩ := h.ex
  have t := h.pot.tups kp
  exact ⟨p, h.kp.trans kp, fs, ms, x1.keep d1 kp t, x2.keep d2 kp t, r⟩
theorem HI.same (h : HI a l1 l2 H H' z k most sts n1 n2) (kp : Same H' H'') : HI a l1 l2 H H'' z k most sts n1 n2 := by
  obtain ⟨fs, ms, x1, x2, r⟩ := h.ex
  exact ⟨h.pot.same kp, h.kp.trans (sKeep kp), fs, ms, x1.same kp, x2.same kp, r⟩
theorem HI.le (h : HI a l1 l2 H H' z k most sts n1 n2) {y : Int} {m1 m2 : Nat} (hz : z ≤ y) (h1 : n1 ≤ m1) (h2 : n2 ≤ m2) : HI a l1 l2 H H' y k most sts m1 m2 := by
  obtain ⟨fs, ms, x1, x2, x3, x4, x5, x6, x7, x8⟩ := h.ex
  exact ⟨h.pot.le hz, h.kp, fs, ms, x1, x2, x3, x4, x5, x6, Nat.le_trans x7 h1, Nat.le_trans x8 h2⟩
theorem lst_other {l m : Addr} {x : V} {acc : List V} {ds : List PyData} (hm : H' m = some (.lst acc)) (n : l ≠ m) (h : LstAt H' l ds) : LstAt (upd H' m (.lst (acc ++ [x]))) l ds := by
  obtain ⟨xs, e, f⟩ := h
  exact ⟨xs, by rw [upd_ne n]; exact e, f.mv (tups_lst hm)⟩
theorem HI.fact (h : HI a l1 l2 H H' z k most sts n1 n2) (d1 : l1 ≠ a) (i1 : H l1 = none) (d : l1 ≠ l2) {x : V} {f : Fact} (hx : Fz H' x (eF f)) (ok : HeardOk k most sts f) (na : ∀ s t, f ≠ .as_ s t) (hn : n1 ≤ 10000) :
    ∃ acc, H' l1 = some (.lst acc) ∧ acc.length < sizeLine ∧ HI a l1 l2 H (upd H' l1 (.lst (acc ++ [x]))) z k most sts (n1 + 1) n2 := by
  obtain ⟨fs, ms, ⟨acc, e, fz⟩, x2, x3, x4, x5, x6, x7, x8⟩ := h.ex
  refine ⟨acc, e, ?_, h.pot.upd_ne d1, keep_upd h.kp i1, fs ++ [f], ms, ⟨_, upd_same, FzAll.mv (tups_lst e) ?_⟩, lst_other e d.symm x2, fun g hg => ?_, fun g hg => ?_, x5, x6, by rw [List.length_append, List.length_singleton]; omega, x8⟩
  · rw [fz.len, List.length_map]
    exact Nat.lt_of_le_of_lt (Nat.le_trans x7 hn) (by decide)
  · rw [List.map_append]
    exact fz.snoc hx
  · rcases List.mem_append.mp hg with y | y
    · exact x3 g y
    · rw [List.mem_singleton.mp y]
      exact ok
  · rcases List.mem_append.mp hg with y | y
    · exact x4 g y
    · rw [List.mem_singleton.mp y]
      exact na
theorem HI.met (h : HI a l1 l2 H H' z k most sts n1 n2) (d2 : l2 ≠ a) (i2 : H l2 = none) (d : l1 ≠ l2) {x : V} {m : Stn} (hx : Fz H' x (eS m)) (ok : MetOk k most sts m) (hn : n2 ≤ 10000) :
    ∃ acc, H' l2 = some (.lst acc) ∧ acc.length < sizeLine ∧ HI a l1 l2 H (upd H' l2 (.lst (acc ++ [x]))) z k most sts n1 (n2 + 1) := by
  obtain ⟨fs, ms, x1, ⟨acc, e, fz⟩, x3, x4, x5, x6, x7, x8⟩ := h.ex
  refine ⟨acc, e, ?_, h.pot.upd_ne d2, keep_upd h.kp i2, fs, ms ++ [m], lst_other e d x1, ⟨_, upd_same, FzAll.mv (tups_lst e) ?_⟩, x3, x4, by simp, fun g hg => ?_, x7, by rw [List.length_append, List.length_singleton]; omega⟩
  · rw [fz.len, List.length_map]
    exact Nat.lt_of_le_of_lt (Nat.le_trans x8 hn) (by decide)
  · rw [List.map_append]
    exact fz.snoc hx
  · rcases List.mem_append.mp hg with y | y
    · exact x6 g y
    · rw [List.mem_singleton.mp y]
      exact ok
end
end GD
namespace K01
open PySem PySem.Spec PyProof.Rows L2 GD
section
variable {P : Program} {w : World} {K : PySem.W.Frag} {mg : Str → Option Value} {base : Heap}
/-- the drawer's small defs, where they stand -/
structure Small1 (K : PySem.W.Frag) (mg : Str → Option Value) : Prop where
  ta : TxtA mg
  all : mg "all" = none
  tup : mg "tuple" = none
  sum : mg "sum" = none
  zip : mg "zip" = none
structure At (K : PySem.W.Frag) (mg : Str → Option Value) (x : Str) (st : Stmt) (ps : List Str) (f : Addr) (fd : FuncData) : Prop where
  F : Fun K x x st f fd
  g : mg x = some (.ref f)
  b : Binds K fd ps []
abbrev NH : List Str := ["_law_pot_here", "_law_jobs_here", "_law_stocks", "_law_days", "_law_most", "_law_facts", "_law_met", "_law_day", "_law_standing", "_law_lap", "_law_behind_here", "_law_is_let"]
theorem scH : FnScope NH ["_law_pot_here", "_law_jobs_here", "_law_stocks", "_law_days", "_law_most"] (defScope sHeardFacts) := ⟨rfl, rfl, rfl, by decide +kernel, rfl, by decide +kernel, by decide +kernel⟩
theorem ok_heard {f fT fO fF fB fC fE fV fL : Addr} {fd fdT fdO fdF fdB fdC fdE fdV fdL : FuncData} (F : Fun K "_law_heard_facts" "_law_heard_facts" sHeardFacts f fd) (S : Small1 K mg)
    (AT : At K mg "_law_take" sTake ["_law_pot_here", "_law_upto"] fT fdT) (AO : At K mg "_law_of" sOf ["_law_pot_here", "_law_some_here"] fO fdO) (AF : At K mg "_law_first" sFirst ["_law_jobs_here"] fF fdF)
    (AB : At K mg "_law_behind" sBehind ["_law_jobs_here", "_law_standing", "_law_event"] fB fdB) (AC : At K mg "_law_can_come" sCanCome ["_law_jobs_here", "_law_standing", "_law_event"] fC fdC)
    (AE : At K mg "_law_events" sEvents ["_law_jobs_here", "_law_standing"] fE fdE) (AV : At K mg "_law_level" sLevel ["_law_stock_here", "_law_standing"] fV fdV) (AL : At K mg "_law_lets" sLets ["_law_stocks", "_law_standing"] fL fdL) :
    FnOk P w K mg base CX0 4 f fd ["_law_pot_here", "_law_jobs_here", "_law_stocks", "_law_days", "_law_most"] spHeard := by
  have GT : FnOk P w K mg base CX0 1 fT fdT ["_law_pot_here", "_law_upto"] spTake := ok_take AT.F S.ta
  have GO : FnOk P w K mg base CX0 2 fO fdO ["_law_pot_here", "_law_some_here"] (spOf K) := ok_of AO.F S.ta AT.F AT.g AT.b
  have GF : FnOk P w K mg base CX0 1 fF fdF ["_law_jobs_here"] (spFirst K) := ok_first AF.F S.tup
  have GB : FnOk P w K mg base CX0 1 fB fdB ["_law_jobs_here", "_law_standing", "_law_event"] (spBehind K) := ok_behind AB.F
  have GE : FnOk P w K mg base CX0 3 fE fdE ["_law_jobs_here", "_law_standing"] (spEvents K) := ok_events AE.F S.all AB.F AB.g AB.b AC.F AC.g AC.b
  have GL : FnOk P w K mg base CX0 2 fL fdL ["_law_stocks", "_law_standing"] (spLets K) := ok_lets AL.F S.all S.sum S.zip AV.F AV.g AV.b
  refine F.ok scH (fun vs H Q E h => ?_) (fun cdv A outer s H vs Q E hr h => ?_)
  · obtain ⟨a, lj, ls, days, most, js, sts, z, rfl, _⟩ := h
    rfl
  · obtain ⟨a, lj, ls, days, most, js, sts, z, rfl, hp, hz, hja, hsa, hj, hs, hst, hs100, hj1, hj10, hd10, hm1, hm30, k⟩ := h
    have hr1 : Room 1 _ := hr.mono (by decide)
    have hr2 : Room 2 _ := hr.mono (by decide)
    refine ⟨_, pss_cons (ps_par (i := 5) (j := 6) rfl scH.nd rfl rfl (by decide) rfl rfl (pa_cons (pe_lst pa_nil) (pa_cons (pe_lst (pa_cons (pe_call GF hr1 rfl AF.g AF.F.kp AF.b .nil pass0 (pa_cons (pv 1) pa_nil)) pa_nil)) pa_nil)) (by rfl))
      (pss_cons (ps_for PassesOwn.never rfl (pi_range1 (by rfl) S.ta.range (pa_cons (pv 3) pa_nil)) (pg_name (i := 7) scH.nd rfl (.inl rfl))
        (pss_cons (ps_set (i := 8) scH.nd rfl (.inl rfl) (pe_call GF hr1 rfl AF.g AF.F.kp AF.b .nil pass0 (pa_cons (pv 1) pa_nil)))
        (pss_one (ps_for PassesOwn.never rfl (pi_range1 (by rfl) S.ta.range (pa_cons (pe_op op_add pe_int (pe_call GT hr1 rfl AT.g AT.F.kp AT.b .nil pass0 (pa_cons (pv 0) (pa_cons (pv 4) pa_nil)))) pa_nil)) (pg_name (i := 9) scH.nd rfl (.inl rfl))
          (pss_cons (ps_set (i := 10) scH.nd rfl (.inl rfl) (pe_call GB hr1 rfl AB.g AB.F.kp AB.b .nil pass0 (pa_cons (pv 1) (pa_cons (pv 8) (pa_cons (pe_call GO hr2 rfl AO.g AO.F.kp AO.b .nil pass0 (pa_cons (pv 0) (pa_cons (pe_call GE hr rfl AE.g AE.F.kp AE.b .nil pass0 (pa_cons (pv 1) (pa_cons (pv 8) pa_nil))) pa_nil))) pa_nil)))))
          (pss_cons (ps_set (i := 11) scH.nd rfl (.inl rfl) (pe_call GL hr2 rfl AL.g AL.F.kp AL.b .nil pass0 (pa_cons (pv 2) (pa_cons (pv 10) pa_nil))))
          (pss_cons (ps_expr (pe_bm PySem.F.plainAttrs_list PySem.F.slot_list_append PySem.F.type_list_append mt_append (pv 5) (pa_cons (pe_tup (pa_cons (pe_ifExp (pt_val (pv 11)) pe_str pe_str) (pa_cons (pv 10) pa_nil))) pa_nil)))
          (pss_one (ps_if (pt_val (pv 11)) (pss_cons (ps_set (i := 8) scH.nd rfl (.inl rfl) (pv 10)) (pss_one (ps_expr (pe_bm PySem.F.plainAttrs_list PySem.F.slot_list_append PySem.F.type_list_append mt_append (pv 6) (pa_cons (pv 10) pa_nil))))) pss_nil)))))))))
      (pss_one (ps_ret (pe_tup (pa_cons (pv 5) (pa_cons (pv 6) pa_nil)))))), ?_⟩
    obtain ⟨xj, ej, fj⟩ := id hj
    have lxj : xj.length = js.length := by rw [fj.len, List.length_map]
    refine ⟨by decide, fun l1 n1 => ?_⟩
    have s1 := same_new (o := .lst []) n1
    refine ⟨_, rfl, lj, xj, rfl, SqL.of (s1 _ _ ej), by omega, fun v Hf sf ff => ?_⟩
    rw [lxj] at ff
    refine ⟨(by show 1 ≤ sizeLine; decide), fun l2 n2 => ?_⟩
    have s2 := same_new (o := .lst [v]) n2
    have i2 : H l2 = none := s1.free (sf.free n2)
    have d12 : l1 ≠ l2 := ne_of_none (sf _ _ upd_same) n2
    have d1 : l1 ≠ a := hp.ne n1
    have d2 : l2 ≠ a := hp.ne i2
    have h0 : HI a l1 l2 H (upd Hf l2 (.lst [v])) z js.length most sts 0 1 := ⟨hp.same ((s1.trans sf).trans s2), sKeep ((s1.trans sf).trans s2), [], [List.replicate js.length (0, 0)], ⟨[], s2 _ _ (sf _ _ upd_same), .nil⟩, ⟨[v], upd_same, .cons (ff.same s2) .nil⟩,
      fun _ h => (nomatch h), fun _ h => (nomatch h), by simp, fun m hm => by
        rw [List.mem_singleton.mp hm]
        exact ⟨List.length_replicate, bd_first.le (by omega), lets_first fun st h => (hst st h).1⟩, Nat.le_refl _, Nat.le_refl _⟩
    refine ⟨_, _, rfl, _, rfl, days, rfl, by omega, by omega, for_range (lo := 0) (n := days) (fun d σ H' => ∃ x7 x8 x9 x10 x11 : Option V, σ = [some (.ref a), some (.ref lj), some (.ref ls), some (.int days), some (.int most), some (.ref l1), some (.ref l2), x7, x8, x9, x10, x11] ∧
      HI a l1 l2 H H' (z + 31 * (d : Nat)) js.length most sts (d * most) (1 + d * most)) ⟨none, none, none, none, none, rfl, h0.le (by omega) (by omega) (by omega)⟩ ?_ ?_⟩
    · rintro d σ H' hd ⟨x7, x8, x9, x10, x11, rfl, hi⟩
      have ejd := hi.kp _ _ hja ej
      refine ⟨_, rfl, lj, xj, rfl, SqL.of ejd, by omega, fun v2 H2 s3 f2 => ?_⟩
      rw [lxj] at f2
      have hi2 := hi.same s3
      refine ⟨_, rfl, _, rfl, a, most, _, rfl, hi2.pot, by omega, by omega, by omega, fun m H3 m0 m1 p3 k3 => ?_⟩
      have hi3 := hi2.keep d1 d2 k3 p3
      obtain ⟨n, hn⟩ := Int.eq_ofNat_of_zero_le (show 0 ≤ 1 + m by omega)
      have f3 := f2.mv (hi2.pot.tups k3)
      refine ⟨_, _, rfl, rfl, 1 + m, rfl, by omega, by omega, ?_⟩
      rw [hn, Int.toNat_natCast]
      generalize hD : d * most = D at hi3
      have hD2 : (d + 1) * most = D + most := by rw [Nat.succ_mul, hD]
      have hD9 : D ≤ 300 := by
        rw [← hD]
        exact Nat.le_trans (Nat.mul_le_mul (show d ≤ 10 by omega) hm30) (by decide)
      refine for_range (lo := 0) (n := n) (fun i σ H' => ∃ (sv : V) (s : Stn) (y7 y9 y10 y11 : Option V), σ = [some (.ref a), some (.ref lj), some (.ref ls), some (.int days), some (.int most), some (.ref l1), some (.ref l2), y7, some sv, y9, y10, y11] ∧
        HI a l1 l2 H H' (z + 31 * (d : Nat) + 1 + (i : Nat)) js.length most sts (D + i) (1 + D + i) ∧ Fz H' sv (eS s) ∧ s.length = js.length ∧ Bd (i : Nat) s) ⟨v2, _, _, _, _, _, rfl, hi3.le (by omega) (by omega) (by omega), f3, List.length_replicate, bd_first⟩ ?_ ?_
      · rintro i σ H4 hin ⟨sv, sn, y7, y9, y10, y11, rfl, h4, f4, l4, b4⟩
        have t4 := hp.tups h4.kp
        have hj4 := hj.keep hja h4.kp t4
        have hs4 := hs.keep hsa h4.kp t4
        refine ⟨_, rfl, _, rfl, _, rfl, _, rfl, _, rfl, lj, sv, js, sn, rfl, hj4, f4, l4, hj10, fun p He se np le => ?_⟩
        obtain ⟨xe, ee, fe⟩ := le
        have nes := events_some (names := js.map (·.1)) b4 (by omega) (fun z => by have z2 := congrArg List.length z; rw [List.length_map] at z2; have z3 : js.length = 0 := z2; omega) (by rw [l4, List.length_map])
        have lxe : xe.length ≤ 20 := by
          rw [fe.len, List.length_map]
          refine Nat.le_trans (List.length_filter_le _ _) ?_
          rw [evs_len, List.length_map]
          omega
        refine ⟨a, p, xe, _, rfl, h4.pot.same se, by omega, h4.pot.ne np, ee, ?_, by omega, fun ev H5 hv p5 k5 => ?_⟩
        · intro z
          rw [z] at fe
          have z2 := fe.len
          rw [List.length_map] at z2
          exact nes (List.eq_nil_of_length_eq_zero z2.symm)
        obtain ⟨de, hde, fde⟩ := Fz.has fe hv
        obtain ⟨e, hme, rfl⟩ := List.mem_map.mp hde
        obtain ⟨hme1, hcan⟩ := List.mem_filter.mp hme
        have tE := (tups_same se).trans ((h4.pot.same se).tups k5)
        have h5 := (h4.same se).keep d1 d2 k5 p5
        have t5 := hp.tups h5.kp
        have hem := event_job hme1
        have hix : ixOf (js.map (·.1)) e.2 < sn.length := by
          rw [l4, ← List.length_map (f := (·.1))]
          exact ixOf_lt hem
        refine ⟨lj, sv, ev, js, sn, e, rfl, hj.keep hja h5.kp t5, f4.mv tE, fde.mv ((h4.pot.same se).tups k5), l4, hj10, hem, fun bv H6 s6 f6 => ?_⟩
        have h6 := h5.same s6
        have b6 := bd_beh b4 hix hcan
        have l6 : (behS (js.map (·.1)) sn e).length = js.length := by rw [behS_len hix, l4]
        have t6 := hp.tups h6.kp
        generalize behS (js.map (·.1)) sn e = sn' at f6 b6 l6
        refine ⟨_, rfl, _, rfl, ls, bv, sts, sn', rfl, hs.keep hsa h6.kp t6, f6, fun st h => by rw [(hst st h).2, l6], by omega, hs100, b6.small (by omega), fun H7 s7 => ?_⟩
        have h7 := h6.same s7
        have f7 := f6.same s7
        have b7 : Bd most sn' := b6.le (by omega)
        cases hc : letsS sts sn' with
        | true =>
          obtain ⟨acc1, ea1⟩ : ∃ acc, H7 l1 = some (.lst acc) := by
            obtain ⟨fs, ms, ⟨acc, e, _⟩, _⟩ := h7.ex
            exact ⟨acc, e⟩
          refine ⟨_, rfl, .inl ⟨rfl, _, SqL.of ea1⟩, ?_⟩
          refine ⟨_, rfl, true, rfl, ?_⟩
          refine iteT ?_
          refine ⟨_, rfl, (by show 2 ≤ sizeLine; decide), fun t ht => ?_⟩
          have st := same_new (o := .tup [.str "let", bv]) ht
          obtain ⟨acc, ea, la, h8⟩ := (h7.same st).fact d1 n1 d12 (x := .ref t) (f := .let_ sn') (.tup upd_same (.cons (.str _) (.cons (f7.same st) .nil))) ⟨l6, b7, hc⟩ (fun _ _ z => by cases z) (by omega)
          refine ⟨l1, acc, _, rfl, rfl, ea, la, ?_⟩
          have f8 := (f7.same st).mv (tups_lst (o := .lst (acc ++ [.ref t])) ea)
          refine ⟨_, rfl, true, rfl, ?_⟩
          refine iteT ?_
          obtain ⟨acc2, ea2, la2, h9⟩ := h8.met d2 i2 d12 f8 ⟨l6, b7, hc⟩ (by omega)
          refine ⟨_, rfl, _, rfl, .inl ⟨rfl, _, SqL.of ea2⟩, _, rfl, l2, acc2, _, rfl, rfl, ea2, la2, ?_⟩
          exact ⟨_, sn', _, _, _, _, rfl, h9.le (by omega) (by omega) (by omega), f8.mv (tups_lst ea2), l6, b6⟩
        | false =>
          obtain ⟨acc1, ea1⟩ : ∃ acc, H7 l1 = some (.lst acc) := by
            obtain ⟨fs, ms, ⟨acc, e, _⟩, _⟩ := h7.ex
            exact ⟨acc, e⟩
          refine ⟨_, rfl, .inl ⟨rfl, _, SqL.of ea1⟩, ?_⟩
          refine ⟨_, rfl, false, rfl, ?_⟩
          refine iteF ?_
          refine ⟨_, rfl, (by show 2 ≤ sizeLine; decide), fun t ht => ?_⟩
          have st := same_new (o := .tup [.str "not", bv]) ht
          obtain ⟨acc, ea, la, h8⟩ := (h7.same st).fact d1 n1 d12 (x := .ref t) (f := .not_ sn') (.tup upd_same (.cons (.str _) (.cons (f7.same st) .nil))) ⟨l6, b7, hc⟩ (fun _ _ z => by cases z) (by omega)
          refine ⟨l1, acc, _, rfl, rfl, ea, la, ?_⟩
          refine ⟨_, rfl, false, rfl, ?_⟩
          refine iteF ?_
          exact ⟨sv, sn, _, _, _, _, rfl, h8.le (by omega) (by omega) (by omega), (((f4.mv tE).same s6).same s7).mv ((tups_same st).trans (tups_lst ea)), l4, b4.le (by omega)⟩
      · rintro σ H4 ⟨sv, sn, y7, y9, y10, y11, rfl, h4, f4, l4, b4⟩
        exact ⟨_, _, _, _, _, rfl, h4.le (by omega) (by omega) (by omega)⟩
    · rintro σ H' ⟨x7, x8, x9, x10, x11, rfl, hi⟩
      refine ⟨_, rfl, _, rfl, (by show 2 ≤ sizeLine; decide), fun t ht => ?_⟩
      have st := same_new (o := .tup [.ref l1, .ref l2]) ht
      have hF := hi.same st
      obtain ⟨fs, ms, x1, x2, x3, x4, x5, x6, x7, x8⟩ := hF.ex
      exact k t l1 l2 fs ms _ (hF.pot.le (by omega)) hF.kp n1 i2 d12 upd_same x1 x2 x3 x4 x5 x6 x7 x8
end
end K01
namespace GD
open PySem PySem.Spec PyProof.Rows L2
theorem eqv_tup (ds es : List PyData) : PyData.eqv (.tuple ds) (.tuple es) = PyData.eqvAll ds es := by rw [PyData.eqv]
end GD
namespace K01
open PySem PySem.Spec PyProof.Rows L2 GD
section
variable {P : Program} {w : World} {K : PySem.W.Frag} {mg : Str → Option Value} {base : Heap}
abbrev NA : List Str := ["_law_pot_here", "_law_stocks", "_law_met", "_law_many", "_law_found", "_law_lap", "_law_one", "_law_other", "_law_is_same", "_law_stock_here"]
theorem scA : FnScope NA ["_law_pot_here", "_law_stocks", "_law_met", "_law_many"] (defScope sAlikeFacts) := ⟨rfl, rfl, rfl, by decide +kernel, rfl, by decide +kernel, by decide +kernel⟩
theorem ok_alike {f fO fV fT : Addr} {fd fdO fdV fdT : FuncData} (F : Fun K "_law_alike_facts" "_law_alike_facts" sAlikeFacts f fd) (S : Small1 K mg)
    (AT : At K mg "_law_take" sTake ["_law_pot_here", "_law_upto"] fT fdT) (AO : At K mg "_law_of" sOf ["_law_pot_here", "_law_some_here"] fO fdO) (AV : At K mg "_law_level" sLevel ["_law_stock_here", "_law_standing"] fV fdV) :
    FnOk P w K mg base CX0 3 f fd ["_law_pot_here", "_law_stocks", "_law_met", "_law_many"] spAlike := by
  have GO : FnOk P w K mg base CX0 2 fO fdO ["_law_pot_here", "_law_some_here"] (spOf K) := ok_of AO.F S.ta AT.F AT.g AT.b
  have GV : FnOk P w K mg base CX0 1 fV fdV ["_law_stock_here", "_law_standing"] (spLevel K) := ok_level AV.F S.sum S.zip
  refine F.ok scA (fun vs H Q E h => ?_) (fun cdv A outer s H vs Q E hr h => ?_)
  · obtain ⟨a, ls, lm, many, sts, ms, k, n, z, rfl, _⟩ := h
    rfl
  · obtain ⟨a, ls, lm, many, sts, ms, k, n, z, rfl, hp, hz, hsa, hma, hs, hm, hst, hk, hn, hs100, hm0, hm900, hmm, hmy, q⟩ := h
    have hr1 : Room 1 _ := hr.mono (by decide)
    have hr2 : Room 2 _ := hr.mono (by decide)
    refine ⟨_, pss_cons (ps_set (i := 4) scA.nd rfl (.inl rfl) (pe_lst pa_nil))
      (pss_cons (ps_for PassesOwn.never rfl (pi_range1 (by rfl) S.ta.range (pa_cons (pv 3) pa_nil)) (pg_name (i := 5) scA.nd rfl (.inl rfl))
        (pss_cons (ps_asg (pe_tup (pa_cons (pe_call GO hr2 rfl AO.g AO.F.kp AO.b .nil pass0 (pa_cons (pv 0) (pa_cons (pv 2) pa_nil))) (pa_cons (pe_call GO hr2 rfl AO.g AO.F.kp AO.b .nil pass0 (pa_cons (pv 0) (pa_cons (pv 2) pa_nil))) pa_nil)))
            (pg_tup rfl (pgs_cons (pg_name (i := 6) scA.nd rfl (.inr rfl)) (pgs_cons (pg_name (i := 7) scA.nd rfl (.inr rfl)) pgs_nil))))
        (pss_cons (ps_set (i := 8) scA.nd rfl (.inl rfl) (pe_callB (cr_all rfl) (by rfl) S.all (by decide +kernel) (pa_cons (pe_lc (own := [("_law_stock_here", 9)]) (g := gName 9) (tt := tYes) rfl scA.nd (pi_list (pv 1)) (blkOk_by (N := NA) (sc := defScope sAlikeFacts) (by decide +kernel))
            (fun _ _ _ _ _ => pg_name (i := 9) scA.nd rfl (.inl rfl)) (fun _ _ _ _ _ => pts_nil)
            (fun _ _ _ _ _ => pe_cmpR op_eq (pe_call GV hr1 rfl AV.g AV.F.kp AV.b .nil pass0 (pa_cons (pv 9) (pa_cons (pv 6) pa_nil))) (pe_call GV hr1 rfl AV.g AV.F.kp AV.b .nil pass0 (pa_cons (pv 9) (pa_cons (pv 7) pa_nil))) (nomark _))) pa_nil)))
        (pss_one (ps_if (pw_and (pt_cmpR (op_neD hr.units) (pv 6) (pv 7) (nomark _)) (pw_and1 (pt_val (pv 8)))).pt
          (pss_one (ps_expr (pe_bm PySem.F.plainAttrs_list PySem.F.slot_list_append PySem.F.type_list_append mt_append (pv 4) (pa_cons (pe_tup (pa_cons pe_str (pa_cons (pv 6) (pa_cons (pv 7) pa_nil)))) pa_nil)))) pss_nil)))))
      (pss_one (ps_ret (pv 4)))), ?_⟩
    refine ⟨by decide, fun l1 n1 => ?_⟩
    have s1 := same_new (o := .lst []) n1
    have d1 : l1 ≠ a := hp.ne n1
    obtain ⟨xm, em, fm⟩ := id hm
    have lxm : xm.length = ms.length := by rw [fm.len, List.length_map]
    refine ⟨_, rfl, many, rfl, by omega, by omega, for_range (lo := 0) (n := many) (fun d σ H' => ∃ x5 x6 x7 x8 x9 : Option V, σ = [some (.ref a), some (.ref ls), some (.ref lm), some (.int many), some (.ref l1), x5, x6, x7, x8, x9] ∧
      PotAt H' a (z + 2 * (d : Nat)) ∧ Keep a H H' ∧ ∃ fs : List Fact, LstAt H' l1 (fs.map eF) ∧ (∀ f ∈ fs, HeardOk k n sts f) ∧ fs.length ≤ d) ⟨none, none, none, none, none, rfl, (hp.same s1).le (by omega), sKeep s1, [], ⟨[], upd_same, .nil⟩, fun _ h => (nomatch h), Nat.le_refl _⟩ ?_ ?_⟩
    · rintro d σ H' hd ⟨x5, x6, x7, x8, x9, rfl, hp1, k1, fs, ⟨xf, ef, ff⟩, hf, lf⟩
      have emd := k1 _ _ hma em
      have hx0 : xm ≠ [] := fun e => by
        rw [e] at lxm
        exact hm0 (List.eq_nil_of_length_eq_zero lxm.symm)
      refine ⟨_, rfl, _, rfl, a, lm, xm, _, rfl, hp1, by omega, hma, emd, hx0, by omega, fun v1 H1 hv1 p1 k2 => ?_⟩
      have em1 := k2 _ _ hma emd
      refine ⟨_, rfl, _, rfl, a, lm, xm, _, rfl, p1, by omega, hma, em1, hx0, by omega, fun v2 H2 hv2 p2 k3 => ?_⟩
      have t1 : Tups H H2 := (hp.tups k1).trans ((hp1.tups k2).trans (p1.tups k3))
      have k12 : Keep a H H2 := k1.trans (k2.trans k3)
      have ef2 := k3 _ _ d1 (k2 _ _ d1 ef)
      have ff2 := ff.mv ((hp1.tups k2).trans (p1.tups k3))
      obtain ⟨e1, he1, fe1⟩ := Fz.has fm hv1
      obtain ⟨m1, hm1, rfl⟩ := List.mem_map.mp he1
      obtain ⟨e2, he2, fe2⟩ := Fz.has fm hv2
      obtain ⟨m2, hm2, rfl⟩ := List.mem_map.mp he2
      obtain ⟨lm1, bm1⟩ := hmm m1 hm1
      obtain ⟨lm2, bm2⟩ := hmm m2 hm2
      refine ⟨(by show 2 ≤ sizeLine; decide), fun t ht => ?_⟩
      have st := same_new (o := .tup [v1, v2]) ht
      refine ⟨t, _, rfl, SqT.of upd_same, rfl, _, _, rfl, _, _, rfl, rfl, ?_⟩
      have kt : Keep a H (upd H2 t (.tup [v1, v2])) := k12.trans (sKeep st)
      have tt : Tups H (upd H2 t (.tup [v1, v2])) := t1.trans (tups_same st)
      have hst2 := hs.keep hsa kt tt
      have g1 := fe1.mv tt
      have g2 := fe2.mv tt
      have eft := st _ _ ef2
      have fft := ff2.mv (tups_same st)
      have pt := p2.same st
      generalize upd H2 t (.tup [v1, v2]) = H3 at kt tt hst2 g1 g2 eft fft pt
      obtain ⟨xs, es, fs3⟩ := hst2
      refine ⟨_, rfl, ls, rfl, ⟨_, SqL.of es⟩, fun D hD => ?_⟩
      refine lc_list (K := K) (a := ls) (xs := xs) (fun i H' => Same H3 H' ∧ H' D = some (.lst (((sts.take i).map fun st => decide (levelS st m1 = levelS st m2)).map V.bl))) ⟨same_new hD, upd_same⟩ (fun i H' _ ⟨s1, _⟩ => SqL.of (s1 _ _ es)) ?_ ?_
      · rintro i x H' hx ⟨sa, eD⟩
        obtain ⟨st, hst', fst'⟩ := fs3.atM hx
        have hlt : i < sts.length := (List.getElem?_eq_some_iff.mp hst').1
        have lst := hst st (List.mem_of_getElem? hst')
        refine ⟨rfl, _, rfl, _, rfl, x, v1, st, m1, rfl, fst'.same sa, g1.same sa, by omega, by omega, bm1.small hn, fun Ha s2 => ?_⟩
        refine ⟨_, rfl, _, rfl, x, v2, st, m2, rfl, (fst'.same sa).same s2, (g2.same sa).same s2, by omega, by omega, bm2.small hn, fun Hb s3 => ⟨rfl, ?_⟩⟩
        refine ⟨_, s3 _ _ (s2 _ _ eD), ?_, same_upd ((sa.trans s2).trans s3) hD, ?_⟩
        · rw [List.length_map, List.length_map, List.length_take]
          exact Nat.lt_of_le_of_lt (Nat.min_le_left _ _) (Nat.lt_of_lt_of_le (show i < 101 by omega) (by decide))
        · rw [upd_same, take_next hst', List.map_append, List.map_append]
          simp only [List.map_cons, List.map_nil, V.int.injEq]
      · rintro H4 ⟨s4, eD⟩
        refine ⟨D, _, rfl, SqL.of eD, ?_⟩
        rw [fs3.len, List.length_map, List.take_length, List.all_map]
        have pt4 := pt.same s4
        have kt4 := kt.trans (sKeep s4)
        have g14 := g1.same s4
        have g24 := g2.same s4
        have ef4 := s4 _ _ eft
        have ff4 := fft.same s4
        refine ⟨_, rfl, _, rfl, eS m1, eS m2, g14.dp, g24.dp, shape_eS _, shape_eS _, ?_⟩
        cases he : PyData.eqv (eS m1) (eS m2) with
        | true =>
          refine ⟨_, rfl, ?_⟩
          exact ⟨_, _, _, _, _, rfl, pt4.le (by omega), kt4, fs, ⟨xf, ef4, ff4⟩, hf, by omega⟩
        | false =>
          refine ⟨_, rfl, ?_⟩
          refine iteT ?_
          refine ⟨_, rfl, _, rfl, ?_⟩
          cases hb : (sts.all (id ∘ fun st => decide (levelS st m1 = levelS st m2))) with
          | false =>
            refine iteF ?_
            exact ⟨_, _, _, _, _, rfl, pt4.le (by omega), kt4, fs, ⟨xf, ef4, ff4⟩, hf, by omega⟩
          | true =>
            refine iteT ?_
            refine ⟨_, rfl, .inl ⟨rfl, _, SqL.of ef4⟩, ?_⟩
            refine ⟨_, rfl, _, rfl, (by show 3 ≤ sizeLine; decide), fun u hu => ?_⟩
            have su := same_new (o := .tup [.str "as", v1, v2]) hu
            have lxf : xf.length = fs.length := by rw [ff.len, List.length_map]
            refine ⟨l1, xf, _, rfl, rfl, su _ _ ef4, Nat.lt_of_lt_of_le (show xf.length < 100 by omega) (by decide), ?_⟩
            refine ⟨_, _, _, _, _, rfl, ((pt4.same su).upd_ne d1).le (by omega), keep_upd (kt4.trans (sKeep su)) n1, fs ++ [.as_ m1 m2], ⟨_, upd_same, FzAll.mv (tups_lst (su _ _ ef4)) ?_⟩, fun g hg => ?_, by rw [List.length_append, List.length_singleton]; omega⟩
            · rw [List.map_append]
              exact (ff4.same su).snoc (.tup upd_same (.cons (.str _) (.cons (g14.same su) (.cons (g24.same su) .nil))))
            · rcases List.mem_append.mp hg with y | y
              · exact hf g y
              · rw [List.mem_singleton.mp y]
                refine ⟨lm1, bm1, lm2, bm2, fun e => ?_, fun st hst => ?_⟩
                · exact ne_of_eqv (shape_eS m1) he (by rw [e])
                · exact of_decide_eq_true (List.all_eq_true.mp hb st hst)
    · rintro σ H' ⟨x5, x6, x7, x8, x9, rfl, hp1, k1, fs, xf, hf, lf⟩
      exact ⟨_, rfl, q l1 fs H' n1 hp1 k1 xf hf lf⟩
end
end K01
namespace GD
open PySem PySem.Spec PyProof.Rows L2
theorem u65 {k : Nat} {A : Around} (r : Room k A) : A.units + 65 < cLine := by
  have := r.un
  omega
theorem u1 {k : Nat} {A : Around} (r : Room k A) : A.units + 1 < cLine := by
  have := r.un
  omega
def one3 (f : Fact) (x : Str) : Nat := if kindS f = x then 1 else 0
theorem cnt_snoc (x : Str) (gs : List Fact) (f : Fact) : cnt x (gs ++ [f]) = cnt x gs + one3 f x := by
  unfold cnt one3
  rw [List.filter_append, List.length_append]
  by_cases h : kindS f = x
  · rw [if_pos h, List.filter_cons, if_pos (decide_eq_true h)]
    rfl
  · rw [if_neg h, List.filter_cons, if_neg (by simp [h])]
    rfl
def sel3 : Fact → Int → Int → Int → Int
  | .let_ _, a, _, _ => a
  | .not_ _, _, b, _ => b
  | .as_ _ _, _, _, c => c
theorem dk3_get (f : Fact) (a b c : Int) : valV (dk3 a b c) (.inr (kindS f)) = some (.int (sel3 f a b c)) := by
  cases f <;> rfl
theorem dk3_put (f : Fact) (a b c : Int) : putK (dk3 a b c) (.inr (kindS f)) (.int (sel3 f a b c - 1)) = dk3 (a - one3 f "let") (b - one3 f "not") (c - one3 f "as") := by
  have e1 : (kindS (.let_ []) : Str) = "let" := rfl
  cases f with
  | let_ s =>
    rw [show one3 (.let_ s) "let" = 1 from rfl, show one3 (.let_ s) "not" = 0 from rfl, show one3 (.let_ s) "as" = 0 from rfl, Int.natCast_zero, Int.sub_zero, Int.sub_zero]
    rfl
  | not_ s =>
    rw [show one3 (.not_ s) "let" = 0 from rfl, show one3 (.not_ s) "not" = 1 from rfl, show one3 (.not_ s) "as" = 0 from rfl, Int.natCast_zero, Int.sub_zero, Int.sub_zero]
    rfl
  | as_ s t =>
    rw [show one3 (.as_ s t) "let" = 0 from rfl, show one3 (.as_ s t) "not" = 0 from rfl, show one3 (.as_ s t) "as" = 1 from rfl, Int.natCast_zero, Int.sub_zero, Int.sub_zero]
    rfl
theorem Fz.fact {H : Hp} {v : V} {f : Fact} (h : Fz H v (eF f)) : ∃ b r, v = .ref b ∧ H b = some (.tup (.str (kindS f) :: r)) := by
  cases f with
  | let_ s =>
    obtain ⟨b, x, y, rfl, hb, h1, h2⟩ := h.t2
    obtain rfl := h1.s
    exact ⟨b, _, rfl, hb⟩
  | not_ s =>
    obtain ⟨b, x, y, rfl, hb, h1, h2⟩ := h.t2
    obtain rfl := h1.s
    exact ⟨b, _, rfl, hb⟩
  | as_ s t =>
    obtain ⟨b, x, y, z, rfl, hb, h1, h2⟩ := h.t3
    obtain rfl := h1.s
    exact ⟨b, _, rfl, hb⟩
theorem LstAt.dp {K : PySem.W.Frag} {H : Hp} {l : Addr} {ds : List PyData} (h : LstAt H l ds) : Dp K H (.ref l) (.list ds) := by
  obtain ⟨xs, e, f⟩ := h
  exact .lst (SqL.of e) f.dp
theorem new_fact {gs : List Fact} {f : Fact} (h : ((gs.map eF).any fun z => PyData.eqv z (eF f)) = false) : f ∉ gs := fun m => by
  have z := List.any_eq_false.mp h (eF f) (List.mem_map_of_mem m)
  exact z (eqv_self (shape_eF f))
theorem at0 {x : V} {r : List V} : atI (x :: r) 0 = some x := atI_nat (j := 0) rfl
structure FI (l r : Addr) (H H' : Hp) (x y w : Nat) (fs gs : List Fact) (n : Nat) : Prop where
  sm : Same H H'
  ls : LstAt H' l (gs.map eF)
  dk : H' r = some (.dK (dk3 ((x : Int) - cnt "let" gs) ((y : Int) - cnt "not" gs) ((w : Int) - cnt "as" gs)))
  nd : gs.Nodup
  mem : ∀ g ∈ gs, g ∈ fs
  a : cnt "let" gs ≤ x
  b : cnt "not" gs ≤ y
  c : cnt "as" gs ≤ w
  len : gs.length ≤ n
theorem sel_room {f : Fact} {a b c : Int} (h : 0 < sel3 f a b c) (ha : 0 ≤ a) (hb : 0 ≤ b) (hc : 0 ≤ c) : (one3 f "let" : Int) ≤ a ∧ (one3 f "not" : Int) ≤ b ∧ (one3 f "as" : Int) ≤ c := by
  cases f with
  | let_ s =>
    rw [show one3 (.let_ s) "let" = 1 from rfl, show one3 (.let_ s) "not" = 0 from rfl, show one3 (.let_ s) "as" = 0 from rfl]
    exact ⟨h, hb, hc⟩
  | not_ s =>
    rw [show one3 (.not_ s) "let" = 0 from rfl, show one3 (.not_ s) "not" = 1 from rfl, show one3 (.not_ s) "as" = 0 from rfl]
    exact ⟨ha, h, hc⟩
  | as_ s t =>
    rw [show one3 (.as_ s t) "let" = 0 from rfl, show one3 (.as_ s t) "not" = 0 from rfl, show one3 (.as_ s t) "as" = 1 from rfl]
    exact ⟨ha, hb, h⟩
end GD
namespace K01
open PySem PySem.Spec PyProof.Rows L2 GD
section
variable {P : Program} {w : World} {K : PySem.W.Frag} {mg : Str → Option Value} {base : Heap}
abbrev NW : List Str := ["_law_facts", "_law_lets_here", "_law_nots", "_law_ases", "_law_found", "_law_room", "_law_fact"]
theorem scW : FnScope NW ["_law_facts", "_law_lets_here", "_law_nots", "_law_ases"] (defScope sFew) := ⟨rfl, rfl, rfl, by decide +kernel, rfl, by decide +kernel, by decide +kernel⟩
theorem ok_few {f : Addr} {fd : FuncData} (F : Fun K "_law_few" "_law_few" sFew f fd) : FnOk P w K mg base CX0 1 f fd ["_law_facts", "_law_lets_here", "_law_nots", "_law_ases"] spFew := by
  refine F.ok scW (fun vs H Q E h => ?_) (fun cdv A outer s H vs Q E hr h => ?_)
  · obtain ⟨lf, x, y, w, fs, rfl, _⟩ := h
    rfl
  · obtain ⟨lf, x, y, w, fs, rfl, hl, h5, q⟩ := h
    have hu := hr.un
    refine ⟨_, pss_cons (ps_par (i := 4) (j := 5) rfl scW.nd rfl rfl (by decide) rfl rfl (pa_cons (pe_lst pa_nil) (pa_cons (pe_disp (pps_cons pe_str (pv 1) (pps_cons pe_str (pv 2) (pps_cons pe_str (pv 3) pps_nil))) (by rfl) (by rfl) (fun z => by cases z) (by show 3 ≤ 15; decide)) pa_nil)) (by rfl))
      (pss_cons (ps_for PassesOwn.never rfl (pi_list (pv 0)) (pg_name (i := 6) scW.nd rfl (.inl rfl))
        (pss_one (ps_if (pw_and (pt_cmpR (op_notInD (u65 hr)) (pv 6) (pv 4) (by rfl)) (pw_and1 (pt_cmpR op_gt (pe_dget (u1 hr) (pv 5) (pe_ix ix_tup (pv 6) pe_int (fun _ _ => rfl)) (fun _ _ => rfl)) pe_int (nomark _)))).pt
          (pss_cons (ps_expr (pe_bm PySem.F.plainAttrs_list PySem.F.slot_list_append PySem.F.type_list_append mt_append (pv 4) (pa_cons (pv 6) pa_nil)))
          (pss_one (ps_dput (u1 hr) (pv 5) (pe_ix ix_tup (pv 6) pe_int (fun _ _ => rfl)) (pe_op op_sub (pe_dget (u1 hr) (pv 5) (pe_ix ix_tup (pv 6) pe_int (fun _ _ => rfl)) (fun _ _ => rfl)) pe_int) (by rfl)))) pss_nil)))
      (pss_one (ps_ret (pv 4)))), ?_⟩
    obtain ⟨xs, ef, ff⟩ := id hl
    have lxs : xs.length = fs.length := by rw [ff.len, List.length_map]
    refine ⟨by decide, fun l n1 => ?_⟩
    have s1 := same_new (o := .lst []) n1
    intro r n2
    have s2 := same_new (o := .dK []) n2
    have s2' := same_new (o := .dK (dk3 (x : Int) (y : Int) (w : Int))) n2
    refine ⟨_, rfl, _, rfl, _, rfl, upd_same, dk3 x y w, rfl, (by show 3 ≤ 15; decide), ?_⟩
    rw [upd_upd]
    refine ⟨_, _, rfl, ?_⟩
    have h0 : FI l r H (upd (upd H l (.lst [])) r (.dK (dk3 x y w))) x y w fs [] 0 := ⟨s1.trans s2', ⟨[], s2' _ _ upd_same, .nil⟩, by rw [upd_same]; show some (HO.dK (dk3 x y w)) = some (HO.dK (dk3 ((x : Int) - (0 : Nat)) ((y : Int) - (0 : Nat)) ((w : Int) - (0 : Nat)))); rw [Int.natCast_zero, Int.sub_zero, Int.sub_zero, Int.sub_zero], .nil, fun _ h => (nomatch h), Nat.zero_le _, Nat.zero_le _, Nat.zero_le _, Nat.le_refl _⟩
    have i2 : H r = none := s1.free n2
    have dlr : l ≠ r := ne_of_none upd_same n2
    refine ⟨_, rfl, lf, rfl, ⟨_, SqL.of (h0.sm _ _ ef)⟩, for_list (K := K) (a := lf) (xs := xs) (fun i σ H' => ∃ (x6 : Option V) (gs : List Fact), σ = [some (.ref lf), some (.int x), some (.int y), some (.int w), some (.ref l), some (.ref r), x6] ∧ FI l r H H' x y w fs gs i) ⟨none, [], rfl, h0⟩
      (fun i σ H' _ ⟨_, _, _, h⟩ => SqL.of (h.sm _ _ ef)) ?_ ?_⟩
    · rintro i v σ H' hi ⟨x6, gs, rfl, h⟩
      obtain ⟨f0, hf0, fz⟩ := ff.atM hi
      have hin : i < fs.length := (List.getElem?_eq_some_iff.mp hf0).1
      have fz2 := fz.same h.sm
      obtain ⟨b, rest, rfl, hb⟩ := fz2.fact
      have ea := h.a
      have eb := h.b
      have ec := h.c
      refine ⟨_, rfl, _, rfl, eF f0, gs.map eF, fz2.dp, h.ls.dp, shape_eF f0, shape_eFs gs, ?_⟩
      cases hc : ((gs.map eF).any fun z => PyData.eqv z (eF f0)) with
      | true =>
        refine ⟨_, rfl, ?_⟩
        exact ⟨_, gs, rfl, { h with len := Nat.le_succ_of_le h.len }⟩
      | false =>
        refine ⟨_, rfl, ?_⟩
        refine iteT ?_
        have dg := DGet.k (k := .inr (kindS f0)) h.dk
        rw [dk3_get] at dg
        refine ⟨_, rfl, _, rfl, b, _, 0, _, rfl, rfl, SqT.of hb, at0, r, _, rfl, dg, _, _, rfl, rfl, ?_⟩
        refine ⟨_, rfl, ?_⟩
        by_cases hs : 0 < sel3 f0 ((x : Int) - cnt "let" gs) ((y : Int) - cnt "not" gs) ((w : Int) - cnt "as" gs)
        · rw [decide_eq_true hs]
          refine iteT ?_
          obtain ⟨acc, eA, fA⟩ := h.ls
          obtain ⟨qa, qb, qc⟩ := sel_room hs (by omega) (by omega) (by omega)
          have lA : acc.length = gs.length := by rw [fA.len, List.length_map]
          have hlen := h.len
          refine ⟨_, rfl, .inl ⟨rfl, _, SqL.of eA⟩, ?_⟩
          refine ⟨_, rfl, l, acc, _, rfl, rfl, eA, Nat.lt_of_lt_of_le (show acc.length < 5001 by omega) (by decide), ?_⟩
          have e2 : (upd H' l (.lst (acc ++ [.ref b]))) r = H' r := upd_ne dlr.symm
          rw [h.dk] at e2
          have eb2 : (upd H' l (.lst (acc ++ [.ref b]))) b = some (.tup (.str (kindS f0) :: rest)) := tups_lst eA _ _ hb
          have dg2 := DGet.k (k := .inr (kindS f0)) e2
          rw [dk3_get] at dg2
          refine ⟨_, rfl, _, rfl, b, _, 0, _, rfl, rfl, SqT.of eb2, at0, r, _, rfl, dg2, _, _, rfl, rfl, ?_⟩
          refine ⟨_, rfl, _, rfl, b, _, 0, _, rfl, rfl, SqT.of eb2, at0, r, _, rfl, DPut.k (k := .inr (kindS f0)) e2 (by show 3 < sizeLine; decide), ?_⟩
          rw [dk3_put]
          refine ⟨_, gs ++ [f0], rfl, same_upd (same_upd h.sm n1) i2, ?_, ?_, ?_, fun g hg => ?_, ?_, ?_, ?_, ?_⟩
          · refine ⟨acc ++ [.ref b], by rw [upd_ne dlr]; exact upd_same, ?_⟩
            rw [List.map_append]
            exact (fA.snoc fz2).mv ((tups_lst eA).trans (tups_dK e2))
          · rw [upd_same, cnt_snoc, cnt_snoc, cnt_snoc]
            congr 3 <;> omega
          · exact List.nodup_append.mpr ⟨h.nd, List.nodup_cons.mpr ⟨fun h => (nomatch h), .nil⟩, fun u hu v hv e => by rw [List.mem_singleton.mp hv] at e; rw [e] at hu; exact new_fact hc hu⟩
          · rcases List.mem_append.mp hg with y | y
            · exact h.mem g y
            · rw [List.mem_singleton.mp y]
              exact List.mem_of_getElem? hf0
          · rw [cnt_snoc]
            omega
          · rw [cnt_snoc]
            omega
          · rw [cnt_snoc]
            omega
          · rw [List.length_append, List.length_singleton]
            omega
        · rw [decide_eq_false hs]
          refine iteF ?_
          exact ⟨_, gs, rfl, { h with len := Nat.le_succ_of_le h.len }⟩
    · rintro σ H' ⟨x6, gs, rfl, h⟩
      rw [lxs] at h
      exact ⟨_, rfl, q l gs H' h.sm n1 h.ls h.nd h.mem h.a h.b h.c h.len⟩
end
end K01
namespace GD
open PySem PySem.Spec PyProof.Rows L2
/-! a drawn book -/
theorem at1 {x y : V} {r : List V} : atI (x :: y :: r) 1 = some y := atI_nat (j := 1) rfl
theorem at2 {x y a : V} {r : List V} : atI (x :: y :: a :: r) 2 = some a := atI_nat (j := 2) rfl
theorem at3 {x y a b : V} {r : List V} : atI (x :: y :: a :: b :: r) 3 = some b := atI_nat (j := 3) rfl
theorem at4 {x y a b c : V} {r : List V} : atI (x :: y :: a :: b :: c :: r) 4 = some c := atI_nat (j := 4) rfl
theorem at5 {x y a b c d : V} {r : List V} : atI (x :: y :: a :: b :: c :: d :: r) 5 = some d := atI_nat (j := 5) rfl
theorem FzAll.perm {H : Hp} {xs ys : List V} (h : ys.Perm xs) : ∀ {fs : List Fact}, FzAll H xs (fs.map eF) → ∃ gs : List Fact, gs.Perm fs ∧ FzAll H ys (gs.map eF) := by
  induction h with
  | nil =>
    intro fs h
    exact ⟨fs, .refl _, h⟩
  | cons x p ih =>
    intro fs h
    cases fs with
    | nil => cases h
    | cons f r =>
      cases h with
      | cons a t =>
        obtain ⟨gs, q, g⟩ := ih t
        exact ⟨f :: gs, q.cons f, .cons a g⟩
  | swap x y l =>
    intro fs h
    cases fs with
    | nil => cases h
    | cons f r =>
      cases r with
      | nil =>
        cases h with
        | cons a t => cases t
      | cons g r =>
        cases h with
        | cons a t =>
          cases t with
          | cons b t => exact ⟨g :: f :: r, .swap _ _ _, .cons b (.cons a t)⟩
  | trans p q ih1 ih2 =>
    intro fs h
    obtain ⟨gs, a, b⟩ := ih2 h
    obtain ⟨hs, c, d⟩ := ih1 b
    exact ⟨hs, c.trans a, d⟩
def LoreAt (H : Hp) (d lj lf ls : Addr) (js : List (Str × Str)) (fs : List Fact) (sts : List Stk) : Prop := H d = some (.dK [(.inr "jobs", .ref lj), (.inr "facts", .ref lf), (.inr "stocks", .ref ls)]) ∧ LstAt H lj (js.map eE) ∧ LstAt H lf (fs.map eF) ∧ LstAt H ls (sts.map eK)
def LoreOk (most : Nat) (ms : List Str) (x2 x3 x4 x5 : Nat) (js : List (Str × Str)) (fs : List Fact) (sts : List Stk) : Prop := JobsOk most ms js ∧ (∀ st ∈ sts, StockOk js 3 st) ∧ fs.Nodup ∧ (∀ f ∈ fs, HeardOk js.length x2 sts f) ∧ cnt "let" fs ≤ x3 ∧ cnt "not" fs ≤ x4 ∧ cnt "as" fs ≤ x5 ∧ fs.length ≤ 400 ∧ sts.length ≤ 20
def spLore : Sp := fun vs H Q _ => ∃ (a lm sz : Addr) (most : Nat) (ms : List Str) (z : Int) (x0 x1 x2 x3 x4 x5 : Nat), vs = [.ref a, .int most, .ref lm, .ref sz] ∧ PotAt H a z ∧ z ≤ 10000 ∧ 1 ≤ most ∧ most ≤ 4 ∧ lm ≠ a ∧ H lm = some (.lst (ms.map V.str)) ∧ ms ≠ [] ∧ ms.length ≤ 100 ∧
  H sz = some (.tup [.int x0, .int x1, .int x2, .int x3, .int x4, .int x5]) ∧ 1 ≤ x0 ∧ x0 ≤ 20 ∧ 1 ≤ x1 ∧ x1 ≤ 9 ∧ 1 ≤ x2 ∧ x2 ≤ 30 ∧ x5 ≤ 10 ∧
  ∀ (d lj lf ls : Addr) js fs sts H', H d = none → H lj = none → H lf = none → H ls = none → PotAt H' a (z + 2500) → Keep a H H' → LoreAt H' d lj lf ls js fs sts → LoreOk most ms x2 x3 x4 x5 js fs sts → Q (.ref d) H'
end GD
namespace K01
open PySem PySem.Spec PyProof.Rows L2 GD
section
variable {P : Program} {w : World} {K : PySem.W.Frag} {mg : Str → Option Value} {base : Heap}
abbrev NLo : List Str := ["_law_pot_here", "_law_most", "_law_manners", "_law_sizes", "_law_jobs_here", "_law_stocks", "_law_facts", "_law_met", "_law_lap"]
theorem scLo : FnScope NLo ["_law_pot_here", "_law_most", "_law_manners", "_law_sizes"] (defScope sLore) := ⟨rfl, rfl, rfl, by decide +kernel, rfl, by decide +kernel, by decide +kernel⟩
/-- all defs that the drawer of books calls -/
structure Drawer (K : PySem.W.Frag) (mg : Str → Option Value) (fT fO fS fN fJ fF fB fC fE fG fK fV fL fH fA fW : Addr) (fdT fdO fdS fdN fdJ fdF fdB fdC fdE fdG fdK fdV fdL fdH fdA fdW : FuncData) : Prop where
  T : At K mg "_law_take" sTake ["_law_pot_here", "_law_upto"] fT fdT
  O : At K mg "_law_of" sOf ["_law_pot_here", "_law_some_here"] fO fdO
  S : At K mg "_law_some" sSome ["_law_pot_here", "_law_pool", "_law_many"] fS fdS
  N : At K mg "_law_names" sNames ["_law_pot_here", "_law_many"] fN fdN
  J : At K mg "_law_jobs" sJobs ["_law_pot_here", "_law_most", "_law_manners"] fJ fdJ
  F : At K mg "_law_first" sFirst ["_law_jobs_here"] fF fdF
  B : At K mg "_law_behind" sBehind ["_law_jobs_here", "_law_standing", "_law_event"] fB fdB
  C : At K mg "_law_can_come" sCanCome ["_law_jobs_here", "_law_standing", "_law_event"] fC fdC
  E : At K mg "_law_events" sEvents ["_law_jobs_here", "_law_standing"] fE fdE
  G : At K mg "_law_change" sChange ["_law_pot_here", "_law_manner", "_law_size"] fG fdG
  Sk : At K mg "_law_stock" sStock ["_law_pot_here", "_law_jobs_here", "_law_size"] fK fdK
  V : At K mg "_law_level" sLevel ["_law_stock_here", "_law_standing"] fV fdV
  L : At K mg "_law_lets" sLets ["_law_stocks", "_law_standing"] fL fdL
  H : At K mg "_law_heard_facts" sHeardFacts ["_law_pot_here", "_law_jobs_here", "_law_stocks", "_law_days", "_law_most"] fH fdH
  A : At K mg "_law_alike_facts" sAlikeFacts ["_law_pot_here", "_law_stocks", "_law_met", "_law_many"] fA fdA
  W : At K mg "_law_few" sFew ["_law_facts", "_law_lets_here", "_law_nots", "_law_ases"] fW fdW
theorem ok_lore {f fT fO fS fN fJ fF fB fC fE fG fK fV fL fH fA fW : Addr} {fd fdT fdO fdS fdN fdJ fdF fdB fdC fdE fdG fdK fdV fdL fdH fdA fdW : FuncData} (F : Fun K "_law_lore" "_law_lore" sLore f fd) (S : Small1 K mg)
    (D : Drawer K mg fT fO fS fN fJ fF fB fC fE fG fK fV fL fH fA fW fdT fdO fdS fdN fdJ fdF fdB fdC fdE fdG fdK fdV fdL fdH fdA fdW) : FnOk P w K mg base CX0 5 f fd ["_law_pot_here", "_law_most", "_law_manners", "_law_sizes"] spLore := by
  have GT : FnOk P w K mg base CX0 1 fT fdT ["_law_pot_here", "_law_upto"] spTake := ok_take D.T.F S.ta
  have GJ : FnOk P w K mg base CX0 4 fJ fdJ ["_law_pot_here", "_law_most", "_law_manners"] spJobs := ok_jobs D.J.F S.ta D.T.F D.T.g D.T.b D.S.F D.S.g D.S.b D.N.F D.N.g D.N.b D.O.F D.O.g D.O.b
  have GK : FnOk P w K mg base CX0 3 fK fdK ["_law_pot_here", "_law_jobs_here", "_law_size"] spStock := ok_stock D.Sk.F S.ta S.tup D.T.F D.T.g D.T.b D.G.F D.G.g D.G.b
  have GH : FnOk P w K mg base CX0 4 fH fdH ["_law_pot_here", "_law_jobs_here", "_law_stocks", "_law_days", "_law_most"] spHeard := ok_heard D.H.F S D.T D.O D.F D.B D.C D.E D.V D.L
  have GA : FnOk P w K mg base CX0 3 fA fdA ["_law_pot_here", "_law_stocks", "_law_met", "_law_many"] spAlike := ok_alike D.A.F S D.T D.O D.V
  have GS : FnOk P w K mg base CX0 2 fS fdS ["_law_pot_here", "_law_pool", "_law_many"] (spSome K) := ok_some D.S.F S.ta D.T.F D.T.g D.T.b
  have GW : FnOk P w K mg base CX0 1 fW fdW ["_law_facts", "_law_lets_here", "_law_nots", "_law_ases"] spFew := ok_few D.W.F
  refine F.ok scLo (fun vs H Q E h => ?_) (fun cdv A outer s H vs Q E hr h => ?_)
  · obtain ⟨a, lm, sz, most, ms, z, x0, x1, x2, x3, x4, x5, rfl, _⟩ := h
    rfl
  · obtain ⟨a, lm, sz, most, ms, z, x0, x1, x2, x3, x4, x5, rfl, hp, hz, hm1, hm4, hma, hm, hms, hm100, hsz, h01, h02, h11, h12, h21, h22, h5, q⟩ := h
    have hr1 : Room 1 _ := hr.mono (by decide)
    have hr2 : Room 2 _ := hr.mono (by decide)
    have hr3 : Room 3 _ := hr.mono (by decide)
    refine ⟨_, pss_cons (ps_set (i := 4) scLo.nd rfl (.inr rfl) (pe_call GJ hr rfl D.J.g D.J.F.kp D.J.b .nil pass0 (pa_cons (pv 0) (pa_cons (pv 1) (pa_cons (pv 2) pa_nil)))))
      (pss_cons (ps_setLc (i := 5) (own := [("_law_lap", 8)]) (g := gName 8) (tt := tYes) rfl scLo.nd rfl rfl (sw_true rfl rfl rfl (by decide +kernel))
          (pi_range1 (by rfl) S.ta.range (pa_cons (pe_op op_add pe_int (pe_call GT hr1 rfl D.T.g D.T.F.kp D.T.b .nil pass0 (pa_cons (pv 0) (pa_cons (pe_ix ix_tup (pv 3) pe_int (fun _ _ => rfl)) pa_nil)))) pa_nil))
          (blkOk_by (N := NLo) (sc := defScope sLore) (by decide +kernel)) (fun _ _ _ _ _ => pg_name (i := 8) scLo.nd rfl (.inl rfl)) (fun _ _ _ _ _ => pts_nil)
          (fun _ _ _ _ _ => pe_call GK hr3 rfl D.Sk.g D.Sk.F.kp D.Sk.b .nil pass0 (pa_cons (pv 0) (pa_cons (pv 4) (pa_cons pe_int pa_nil)))))
      (pss_cons (ps_asg (pe_call GH hr rfl D.H.g D.H.F.kp D.H.b .nil pass0 (pa_cons (pv 0) (pa_cons (pv 4) (pa_cons (pv 5) (pa_cons (pe_op op_add pe_int (pe_call GT hr1 rfl D.T.g D.T.F.kp D.T.b .nil pass0 (pa_cons (pv 0) (pa_cons (pe_ix ix_tup (pv 3) pe_int (fun _ _ => rfl)) pa_nil))))
          (pa_cons (pe_ix ix_tup (pv 3) pe_int (fun _ _ => rfl)) pa_nil)))))) (pg_tup rfl (pgs_cons (pg_name (i := 6) scLo.nd rfl (.inl rfl)) (pgs_cons (pg_name (i := 7) scLo.nd rfl (.inl rfl)) pgs_nil))))
      (pss_cons (ps_set (i := 6) scLo.nd rfl (.inl rfl) (pe_op op_cat (pv 6) (pe_call GA hr3 rfl D.A.g D.A.F.kp D.A.b .nil pass0 (pa_cons (pv 0) (pa_cons (pv 5) (pa_cons (pv 7) (pa_cons (pe_ix ix_tup (pv 3) pe_int (fun _ _ => rfl)) pa_nil)))))))
      (pss_cons (ps_set (i := 6) scLo.nd rfl (.inl rfl) (pe_call GW hr1 rfl D.W.g D.W.F.kp D.W.b .nil pass0 (pa_cons (pe_call GS hr2 rfl D.S.g D.S.F.kp D.S.b .nil pass0 (pa_cons (pv 0) (pa_cons (pv 6) (pa_cons (pe_callB call_len_seq (by rfl) S.ta.len PySem.boot_len (pa_cons (pv 6) pa_nil)) pa_nil))))
          (pa_cons (pe_ix ix_tup (pv 3) pe_int (fun _ _ => rfl)) (pa_cons (pe_ix ix_tup (pv 3) pe_int (fun _ _ => rfl)) (pa_cons (pe_ix ix_tup (pv 3) pe_int (fun _ _ => rfl)) pa_nil))))))
      (pss_one (ps_ret (pe_disp (pps_cons pe_str (pv 4) (pps_cons pe_str (pv 6) (pps_cons pe_str (pv 5) pps_nil))) (by rfl) (by rfl) (fun z => by cases z) (by show 3 ≤ 15; decide)))))))), ?_⟩
    have hsa : sz ≠ a := by
      obtain ⟨_, _, _, e, _⟩ := hp
      exact ne_of hsz e (fun z => by cases z)
    refine ⟨_, rfl, _, rfl, _, rfl, a, lm, most, ms, z, rfl, hp, by omega, hm1, hm4, hma, hm, hms, hm100, fun lj js H1 nj p1 k1 hj jo => ?_⟩
    obtain ⟨hj1, hjm, hjn, hjj⟩ := id jo
    have hja : lj ≠ a := hp.ne nj
    refine ⟨_, rfl, _, rfl, sz, _, 0, _, rfl, rfl, SqT.of (k1 _ _ hsa hsz), at0, a, x0, _, rfl, p1, by omega, by omega, by omega, fun m H2 m0 m1 p2 k2 => ?_⟩
    have k12 := k1.trans k2
    have hj2 := hj.keep hja k2 (p1.tups k2)
    obtain ⟨n, hn⟩ := Int.eq_ofNat_of_zero_le (show 0 ≤ 1 + m by omega)
    refine ⟨_, _, rfl, rfl, 1 + m, rfl, by omega, by omega, fun D hD => ?_⟩
    have D0 : H D = none := keep_none p2 k12 hD
    have nDa : D ≠ a := p2.ne hD
    rw [hn, Int.toNat_natCast]
    refine lc_range (lo := 0) (n := n) (fun i H' => PotAt H' a (z + 21 + 50 * (i : Nat)) ∧ Keep a H H' ∧ LstAt H' lj (js.map eE) ∧ ∃ (acc : List V) (sts : List Stk), H' D = some (.lst acc) ∧ FzAll H' acc (sts.map eK) ∧ sts.length = i ∧ ∀ st ∈ sts, StockOk js 3 st)
      ⟨(p2.upd_ne nDa).le (by omega), keep_upd k12 D0, ?_, [], [], upd_same, .nil, rfl, fun _ h => (nomatch h)⟩ ?_ ?_
    · exact hj2.same (same_new hD)
    · rintro i H' hi ⟨pi, ki, hji, acc, sts, eD, fz, ls, ho⟩
      have ljD : lj ≠ D := by
        obtain ⟨_, e, _⟩ := hj2
        exact ne_of_none e hD
      refine ⟨rfl, _, rfl, _, rfl, a, lj, js, 3, _, rfl, pi, by omega, hja, hji, by omega, by decide, by decide, fun v st H3 p3 k3 fk so => ?_⟩
      have eD3 := k3 _ _ nDa eD
      have la : acc.length = i := by rw [fz.len, List.length_map, ls]
      refine ⟨acc, eD3, by rw [la]; exact Nat.lt_of_lt_of_le (show i < 100 by omega) (by decide), (p3.upd_ne nDa).le (by omega), keep_upd (ki.trans k3) D0, lst_other eD3 ljD (hji.keep hja k3 (pi.tups k3)), _, sts ++ [st], upd_same, FzAll.mv (tups_lst eD3) ?_, by rw [List.length_append, ls]; rfl, fun st' hst' => ?_⟩
      · rw [List.map_append]
        exact (fz.mv (pi.tups k3)).snoc fk
      · rcases List.mem_append.mp hst' with y | y
        · exact ho st' y
        · rw [List.mem_singleton.mp y]
          exact so
    · rintro H' ⟨pi, ki, hji, acc, sts, eD, fz, ls, ho⟩
      have hszi := ki _ _ hsa hsz
      have hD' : LstAt H' D (sts.map eK) := ⟨acc, eD, fz⟩
      refine ⟨_, rfl, _, rfl, _, rfl, _, rfl, _, rfl, sz, _, 1, _, rfl, rfl, SqT.of hszi, at1, a, x1, _, rfl, pi, by omega, by omega, by omega, fun m2 H3 m20 m21 p3 k3 => ?_⟩
      have hsz3 := k3 _ _ hsa hszi
      obtain ⟨dn, hdn⟩ := Int.eq_ofNat_of_zero_le (show 0 ≤ 1 + m2 by omega)
      have t3 := pi.tups k3
      have kk3 := ki.trans k3
      refine ⟨_, _, rfl, rfl, _, rfl, sz, _, 2, _, rfl, rfl, SqT.of hsz3, at2, a, lj, D, dn, x2, js, sts, _, by show [V.ref a, V.ref lj, V.ref D, V.int (1 + m2), V.int x2] = _; rw [hdn], p3, by omega, hja, nDa, hji.keep hja k3 t3, hD'.keep nDa k3 t3, fun st hst => ⟨(ho st hst).1, (ho st hst).2.2.1⟩, by omega, hj1, by omega, by omega, h21, h22, fun t l1 l2 fs ms H4 p4 k4 n1 n2 n12 et hl1 hl2 hf hna hm0 hme lf lm' => ?_⟩
      refine ⟨t, _, rfl, SqT.of et, rfl, _, _, rfl, _, _, rfl, rfl, ?_⟩
      have t4 := p3.tups k4
      have kk4 := kk3.trans k4
      have hsz4 := k4 _ _ hsa hsz3
      have d1 : l1 ≠ a := p3.ne n1
      have d2 : l2 ≠ a := p3.ne n2
      have hdm : dn * x2 ≤ 270 := Nat.le_trans (Nat.mul_le_mul (show dn ≤ 9 by omega) h22) (by decide)
      have hD4 := (hD'.keep nDa k3 t3).keep nDa k4 t4
      have hj4 := (hji.keep hja k3 t3).keep hja k4 t4
      refine ⟨_, rfl, _, rfl, _, rfl, _, rfl, _, rfl, sz, _, 5, _, rfl, rfl, SqT.of hsz4, at5, a, D, l2, x5, sts, ms, js.length, x2, _, rfl, p4, by omega, nDa, d2, hD4, hl2, fun st hst => (ho st hst).2.2.1, by omega, by omega, by omega, hm0, by omega, fun m hm' => ⟨(hme m hm').1, (hme m hm').2.1⟩, h5, fun pa fs2 H5 npa p5 k5 hpa hf2 lf2 => ?_⟩
      have t5 := p4.tups k5
      have kk5 := kk4.trans k5
      obtain ⟨xa, ea, fa⟩ := hl1.keep d1 k5 t5
      obtain ⟨xb, eb, fb⟩ := hpa
      have lxa : xa.length = fs.length := by rw [fa.len, List.length_map]
      have lxb : xb.length = fs2.length := by rw [fb.len, List.length_map]
      refine ⟨l1, pa, xa, xb, rfl, rfl, ea, eb, Nat.le_trans (show xa.length + xb.length ≤ 300 by omega) (by decide), fun pc hpc => ?_⟩
      have s6 := same_new (o := .lst (xa ++ xb)) hpc
      have e6 : (upd H5 pc (.lst (xa ++ xb))) pc = some (.lst (xa ++ xb)) := upd_same
      have f6 : FzAll (upd H5 pc (.lst (xa ++ xb))) (xa ++ xb) ((fs ++ fs2).map eF) := by
        rw [List.map_append]
        exact (fa.append fb).same s6
      have p6 := p5.same s6
      have kk6 := kk5.trans (sKeep s6)
      have hD6 := (hD4.keep nDa k5 t5).same s6
      have hj6 := (hj4.keep hja k5 t5).same s6
      have hsz6 := s6 _ _ (k5 _ _ hsa hsz4)
      have dc : pc ≠ a := p5.ne hpc
      generalize upd H5 pc (.lst (xa ++ xb)) = H6 at e6 f6 p6 kk6 hD6 hj6 hsz6
      have l6 : (xa ++ xb).length = fs.length + fs2.length := by rw [List.length_append, lxa, lxb]
      refine ⟨_, rfl, _, rfl, _, rfl, pc, _, rfl, .inl (SqL.of e6), a, pc, _, (xa ++ xb).length, _, rfl, p6, by omega, SqL.of e6, Nat.le_refl _, by omega, fun pp ys H7 npp p7 k7 ey ⟨rest, hperm⟩ ly => ?_⟩
      have hr0 : rest = [] := by
        have z := hperm.length_eq
        rw [List.length_append] at z
        exact List.eq_nil_of_length_eq_zero (by omega)
      rw [hr0, List.append_nil] at hperm
      obtain ⟨gs, hg, fg⟩ := FzAll.perm hperm (f6.mv (p6.tups k7))
      have lg := hg.length_eq
      rw [List.length_append] at lg
      have t7 := p6.tups k7
      have hsz7 := k7 _ _ hsa hsz6
      refine ⟨_, rfl, sz, _, 3, _, rfl, rfl, SqT.of hsz7, at3, _, rfl, sz, _, 4, _, rfl, rfl, SqT.of hsz7, at4, _, rfl, sz, _, 5, _, rfl, rfl, SqT.of hsz7, at5, pp, x3, x4, x5, gs, rfl, ⟨ys, ey, fg⟩, by omega, fun pf hs H8 s8 npf lf8 nd8 mem8 c1 c2 c3 len8 => ?_⟩
      intro d hd
      have s9 := same_new (o := .dK [(.inr "jobs", .ref lj), (.inr "facts", .ref pf), (.inr "stocks", .ref D)]) hd
      refine ⟨_, rfl, _, rfl, _, rfl, upd_same, [(.inr "jobs", .ref lj), (.inr "facts", .ref pf), (.inr "stocks", .ref D)], rfl, (by show 3 ≤ 15; decide), ?_⟩
      rw [upd_upd]
      have kk8 : Keep a H H8 := (kk6.trans k7).trans (sKeep s8)
      have p8 := p7.same s8
      refine q d lj pf D js hs sts _ (keep_none p8 kk8 hd) nj (keep_none p7 (kk6.trans k7) npf) D0 ((p8.same s9).le (by omega)) (kk8.trans (sKeep s9)) ⟨upd_same, ((hj6.keep hja k7 t7).same s8).same s9, lf8.same s9, ((hD6.keep nDa k7 t7).same s8).same s9⟩ ⟨jo, ho, nd8, fun f hf' => ?_, c1, c2, c3, by omega, by omega⟩
      rcases List.mem_append.mp ((hg.mem_iff).mp (mem8 f hf')) with y | y
      · exact hf f y
      · exact hf2 f y
end
end K01
namespace GD
open PySem PySem.Spec PyProof.Rows L2
/-! the texts of drawn books -/
def nT (i : Int) : Str := Str.ofString (toString i)
def pT (p : Int × Int) : Str := nT p.1 ++ " " ++ nT p.2
def sT (s : Stn) : Str := Txt.join " " (s.map pT)
def fT : Fact → Str
  | .let_ s => (("let" : Str) ++ " ") ++ sT s
  | .not_ s => (("not" : Str) ++ " ") ++ sT s
  | .as_ s t => (("as " : Str) ++ sT s ++ " to ") ++ sT t
def jT (js : List (Str × Str)) : Str := ("jobs " : Str) ++ Txt.join " " (js.map (·.1))
def mT (js : List (Str × Str)) : List Str := (js.filter fun j => decide (j.2 ≠ ("plain" : Str))).map fun j => (j.2 ++ " ") ++ j.1
def lT (js : List (Str × Str)) (fs : List Fact) : List Str := jT js :: mT js ++ fs.map fT
def bT (js : List (Str × Str)) (fs : List Fact) : Str := Txt.join "\n" (lT js fs)
theorem len_app (x y : Str) : (x ++ y).length = x.length + y.length := by
  rw [TL.len_tl, TL.tl_append, List.length_append, ← TL.len_tl, ← TL.len_tl]
theorem sum_len {ys : List Str} {k : Nat} (h : ∀ y ∈ ys, y.length ≤ k) : (ys.map (·.length)).sum ≤ k * ys.length := by
  induction ys with
  | nil => exact Nat.le_refl _
  | cons y r ih =>
    rw [List.map_cons, List.sum_cons, List.length_cons, Nat.mul_succ]
    have := ih fun z hz => h z (List.mem_cons_of_mem _ hz)
    have := h y List.mem_cons_self
    omega
theorem len_joinL (S : List Nat) : ∀ ps : List (List Nat), (TL.joinL S ps).length ≤ (ps.map (·.length)).sum + ps.length * S.length
  | [] => Nat.zero_le _
  | [p] => by
    show p.length ≤ _
    simp
  | p :: q :: r => by
    have z := len_joinL S (q :: r)
    show (p ++ (S ++ TL.joinL S (q :: r))).length ≤ _
    rw [List.length_append, List.length_append, List.map_cons, List.sum_cons, List.length_cons (a := p), Nat.succ_mul]
    omega
theorem len_join {y : Str} {ys : List Str} {k : Nat} (h : ∀ x ∈ ys, x.length ≤ k) : (Txt.join y ys).length ≤ (k + y.length) * ys.length := by
  rw [TL.join_eq, TL.len_tl, TL.tl_join]
  refine Nat.le_trans (len_joinL _ _) ?_
  rw [List.map_map, List.length_map, ← TL.len_tl, show ((fun x : List Nat => x.length) ∘ TL.tl) = (fun x : Str => x.length) from funext fun x => (TL.len_tl x).symm, Nat.add_mul, Nat.mul_comm ys.length]
  have := sum_len h
  omega
theorem len_nT {i : Int} (h0 : 0 ≤ i) (h1 : i ≤ 1000) : (nT i).length ≤ 4 := by
  obtain ⟨n, rfl⟩ := Int.eq_ofNat_of_zero_le h0
  rw [nT, TL.len_tl, TL.tl_num]
  exact TL.numL_len (by decide) (by omega)
theorem log_small {i : Int} (h0 : 0 ≤ i) (h1 : i ≤ 1000) : i.natAbs.log2 < 1920 := Nat.lt_of_le_of_lt (Nat.log2_le_self _) (by omega)
theorem small_len {n : Nat} (h : n ≤ 100000) : n ≤ sizeLine := Nat.le_trans h (by decide)
theorem len1 : (" " : Str).length = 1 := rfl
theorem len_pT {n : Int} {s : Stn} {p : Int × Int} (h : Bd n s) (hn : n ≤ 1000) (hp : p ∈ s) : (pT p).length ≤ 9 := by
  have z := h p hp
  rw [pT, len_app, len_app]
  have a := len_nT (i := p.1) (by omega) (by omega)
  have b := len_nT (i := p.2) (by omega) (by omega)
  have c : (" " : Str).length = 1 := rfl
  omega
theorem len_sT {n : Int} {s : Stn} (h : Bd n s) (hn : n ≤ 1000) : (sT s).length ≤ 10 * s.length := by
  have z := len_join (y := " ") (ys := s.map pT) (k := 9) fun x hx => by
    obtain ⟨p, hp, rfl⟩ := List.mem_map.mp hx
    exact len_pT h hn hp
  rw [List.length_map, show (" " : Str).length = 1 from rfl] at z
  exact z
def spStext : Sp := fun vs H Q _ => ∃ (v : V) (s : Stn) (n : Int), vs = [v] ∧ Fz H v (eS s) ∧ Bd n s ∧ n ≤ 1000 ∧ s.length ≤ 100 ∧ ∀ H', Same H H' → Q (.str (sT s)) H'
/-- a fact with bounds -/
def FactB (k : Nat) (n : Int) : Fact → Prop
  | .let_ s => s.length = k ∧ Bd n s
  | .not_ s => s.length = k ∧ Bd n s
  | .as_ s t => s.length = k ∧ Bd n s ∧ t.length = k ∧ Bd n t ∧ s ≠ t
theorem HeardOk.b {k : Nat} {n : Int} {sts : List Stk} {f : Fact} (h : HeardOk k n sts f) : FactB k n f := by
  cases f with
  | let_ s => exact ⟨h.1, h.2.1⟩
  | not_ s => exact ⟨h.1, h.2.1⟩
  | as_ s t => exact ⟨h.1, h.2.1, h.2.2.1, h.2.2.2.1, h.2.2.2.2.1⟩
theorem len_fT {k : Nat} {n : Int} {f : Fact} (h : FactB k n f) (hn : n ≤ 1000) : (fT f).length ≤ 20 * k + 7 := by
  cases f with
  | let_ s =>
    have z := len_sT h.2 hn
    rw [h.1] at z
    rw [fT, len_app, len_app, show ("let" : Str).length = 3 from rfl, show (" " : Str).length = 1 from rfl]
    omega
  | not_ s =>
    have z := len_sT h.2 hn
    rw [h.1] at z
    rw [fT, len_app, len_app, show ("not" : Str).length = 3 from rfl, show (" " : Str).length = 1 from rfl]
    omega
  | as_ s t =>
    have z := len_sT h.2.1 hn
    rw [h.1] at z
    have z2 := len_sT h.2.2.2.1 hn
    rw [h.2.2.1] at z2
    rw [fT, len_app, len_app, len_app, show ("as " : Str).length = 3 from rfl, show (" to " : Str).length = 4 from rfl]
    omega
def spFline : Sp := fun vs H Q _ => ∃ (v : V) (f : Fact) (k : Nat) (n : Int), vs = [v] ∧ Fz H v (eF f) ∧ FactB k n f ∧ n ≤ 1000 ∧ k ≤ 100 ∧ ∀ H', Same H H' → Q (.str (fT f)) H'
end GD
namespace K01
open PySem PySem.Spec PyProof.Rows L2 GD
section
variable {P : Program} {w : World} {K : PySem.W.Frag} {mg : Str → Option Value} {base : Heap}
abbrev NSt : List Str := ["_law_standing", "_law_begun", "_law_ended"]
theorem scSx : FnScope NSt ["_law_standing"] (defScope sStandingText) := ⟨rfl, rfl, rfl, by decide +kernel, rfl, by decide +kernel, by decide +kernel⟩
theorem ok_stext {f : Addr} {fd : FuncData} (F : Fun K "_law_standing_text" "_law_standing_text" sStandingText f fd) (nS : mg "str" = none) : FnOk P w K mg base CX0 1 f fd ["_law_standing"] spStext := by
  refine F.ok scSx (fun vs H Q E h => ?_) (fun cdv A outer s H vs Q E hr h => ?_)
  · obtain ⟨v, sn, n, rfl, _⟩ := h
    rfl
  · obtain ⟨v, sn, n, rfl, fz, hb, hn, hl, q⟩ := h
    refine ⟨_, pss_one (ps_ret (pe_bm PySem.F.plainAttrs_str PySem.F.slot_str_join PySem.F.type_str_join mt_join pe_str (pa_cons (pe_lc (own := [("_law_begun", 1), ("_law_ended", 2)]) (g := gTup K 2 (gCons (gName 1) (gCons (gName 2) gNil))) (tt := tYes) rfl scSx.nd (pi_tup (pv 0))
      (blkOk_by (N := NSt) (sc := defScope sStandingText) (by decide +kernel)) (fun _ _ _ _ _ => pg_tup rfl (pgs_cons (pg_name (i := 1) scSx.nd rfl (.inl rfl)) (pgs_cons (pg_name (i := 2) scSx.nd rfl (.inl rfl)) pgs_nil))) (fun _ _ _ _ _ => pts_nil)
      (fun _ _ _ _ _ => pe_op op_add_str (pe_op op_add_str (pe_callTy call_str_int (by rfl) nS (by decide +kernel) (pa_cons (pv 1) pa_nil)) pe_str) (pe_callTy call_str_int (by rfl) nS (by decide +kernel) (pa_cons (pv 2) pa_nil)))) pa_nil))), ?_⟩
    obtain ⟨a, xs, rfl, ha, fx⟩ := fz.t
    have lx : xs.length = sn.length := by rw [fx.len, List.length_map]
    refine ⟨rfl, _, rfl, a, rfl, ⟨_, SqT.of ha⟩, fun D hD => ?_⟩
    refine lc_tup (K := K) (a := a) (xs := xs) (fun i H' => Same H H' ∧ H' D = some (.lst (((sn.take i).map pT).map V.str))) ⟨same_new hD, upd_same⟩ (fun i H' _ ⟨s2, _⟩ => SqT.of (s2 _ _ ha)) ?_ ?_
    · rintro i x H' hx ⟨s1, eD⟩
      obtain ⟨p, hp, fp⟩ := fx.atM hx
      obtain ⟨b, y1, y2, rfl, hb1, f1, f2⟩ := fp.t2
      obtain rfl := f1.i
      obtain rfl := f2.i
      have hi : i < sn.length := (List.getElem?_eq_some_iff.mp hp).1
      have hpb := hb p (List.mem_of_getElem? hp)
      have l1 := len_nT (i := p.1) (by omega) (by omega)
      have l2 := len_nT (i := p.2) (by omega) (by omega)
      have l3 : (nT p.1 ++ " ").length ≤ 5 := by rw [len_app, len1]; omega
      refine ⟨b, _, rfl, SqT.of (s1 _ _ hb1), rfl, _, _, rfl, _, _, rfl, rfl, rfl, ?_⟩
      refine ⟨_, rfl, p.1, rfl, log_small (by omega) (by omega), nT p.1, " ", rfl, rfl, small_len (by rw [len1]; omega), _, rfl, p.2, rfl, log_small (by omega) (by omega), nT p.1 ++ " ", nT p.2, rfl, rfl, small_len (by omega), ?_⟩
      refine ⟨_, eD, ?_, same_upd s1 hD, ?_⟩
      · rw [List.length_map, List.length_map, List.length_take]
        exact Nat.lt_of_le_of_lt (Nat.min_le_left _ _) (Nat.lt_of_lt_of_le (show i < 101 by omega) (by decide))
      · rw [upd_same, take_next hp, List.map_append, List.map_append]
        rfl
    · rintro H' ⟨s1, eD⟩
      rw [lx, List.take_length] at eD
      refine ⟨_, D, _, rfl, rfl, .inl (SqL.of eD), ?_, q H' s1⟩
      have z := sum_len (ys := sn.map pT) (k := 9) fun x hx => by
        obtain ⟨p, hp, rfl⟩ := List.mem_map.mp hx
        exact len_pT hb hn hp
      rw [List.length_map] at z
      rw [List.length_map, len1]
      omega
end
end K01
namespace K01
open PySem PySem.Spec PyProof.Rows L2 GD
section
variable {P : Program} {w : World} {K : PySem.W.Frag} {mg : Str → Option Value} {base : Heap}
theorem scFl : FnScope ["_law_fact"] ["_law_fact"] (defScope sFactLine) := ⟨rfl, rfl, rfl, by decide +kernel, rfl, by decide +kernel, by decide +kernel⟩
theorem ok_fline {f fX : Addr} {fd fdX : FuncData} (F : Fun K "_law_fact_line" "_law_fact_line" sFactLine f fd) (nS : mg "str" = none) (AX : At K mg "_law_standing_text" sStandingText ["_law_standing"] fX fdX) : FnOk P w K mg base CX0 2 f fd ["_law_fact"] spFline := by
  have GX : FnOk P w K mg base CX0 1 fX fdX ["_law_standing"] spStext := ok_stext AX.F nS
  refine F.ok scFl (fun vs H Q E h => ?_) (fun cdv A outer s H vs Q E hr h => ?_)
  · obtain ⟨v, f, k, n, rfl, _⟩ := h
    rfl
  · obtain ⟨v, f, k, n, rfl, fz, hb, hn, hk, q⟩ := h
    refine ⟨_, pss_cons (ps_if (pt_cmpR op_eq (pe_ix ix_tup (pv 0) pe_int (fun _ _ => rfl)) pe_str (nomark _))
        (pss_one (ps_ret (pe_op op_add_str (pe_op op_add_str (pe_op op_add_str pe_str (pe_call GX hr rfl AX.g AX.F.kp AX.b .nil pass0 (pa_cons (pe_ix ix_tup (pv 0) pe_int (fun _ _ => rfl)) pa_nil))) pe_str) (pe_call GX hr rfl AX.g AX.F.kp AX.b .nil pass0 (pa_cons (pe_ix ix_tup (pv 0) pe_int (fun _ _ => rfl)) pa_nil))))) pss_nil)
      (pss_one (ps_ret (pe_op op_add_str (pe_op op_add_str (pe_ix ix_tup (pv 0) pe_int (fun _ _ => rfl)) pe_str) (pe_call GX hr rfl AX.g AX.F.kp AX.b .nil pass0 (pa_cons (pe_ix ix_tup (pv 0) pe_int (fun _ _ => rfl)) pa_nil))))), ?_⟩
    cases f with
    | let_ s =>
      obtain ⟨b, x, y, rfl, e, h1, h2⟩ := fz.t2
      obtain rfl := h1.s
      have ls := len_sT hb.2 hn
      rw [hb.1] at ls
      refine ⟨_, rfl, b, _, 0, _, rfl, rfl, SqT.of e, at0, rfl, ?_⟩
      refine ⟨_, rfl, ?_⟩
      refine iteF ?_
      refine ⟨_, rfl, b, _, 0, _, rfl, rfl, SqT.of e, at0, _, _, rfl, rfl, by decide, ?_⟩
      refine ⟨_, rfl, b, _, 1, _, rfl, rfl, SqT.of e, at1, y, s, n, rfl, h2, hb.2, hn, by rw [hb.1]; exact hk, fun H' s' => ?_⟩
      exact ⟨_, _, rfl, rfl, small_len (by rw [len_app, len1, show ("let" : Str).length = 3 from rfl]; omega), q H' s'⟩
    | not_ s =>
      obtain ⟨b, x, y, rfl, e, h1, h2⟩ := fz.t2
      obtain rfl := h1.s
      have ls := len_sT hb.2 hn
      rw [hb.1] at ls
      refine ⟨_, rfl, b, _, 0, _, rfl, rfl, SqT.of e, at0, rfl, ?_⟩
      refine ⟨_, rfl, ?_⟩
      refine iteF ?_
      refine ⟨_, rfl, b, _, 0, _, rfl, rfl, SqT.of e, at0, _, _, rfl, rfl, by decide, ?_⟩
      refine ⟨_, rfl, b, _, 1, _, rfl, rfl, SqT.of e, at1, y, s, n, rfl, h2, hb.2, hn, by rw [hb.1]; exact hk, fun H' s' => ?_⟩
      exact ⟨_, _, rfl, rfl, small_len (by rw [len_app, len1, show ("not" : Str).length = 3 from rfl]; omega), q H' s'⟩
    | as_ s t =>
      obtain ⟨b, x, y, z, rfl, e, h1, h2, h3⟩ := fz.t3
      obtain rfl := h1.s
      obtain ⟨k1, b1, k2, b2, ne⟩ := hb
      have ls := len_sT b1 hn
      rw [k1] at ls
      have lt := len_sT b2 hn
      rw [k2] at lt
      have la : (("as " : Str) ++ sT s).length = 3 + (sT s).length := by rw [len_app, show ("as " : Str).length = 3 from rfl]
      have lb : (("as " : Str) ++ sT s ++ " to ").length = 7 + (sT s).length := by rw [len_app, la, show (" to " : Str).length = 4 from rfl]; omega
      refine ⟨_, rfl, b, _, 0, _, rfl, rfl, SqT.of e, at0, rfl, ?_⟩
      refine ⟨_, rfl, ?_⟩
      refine iteT ?_
      refine ⟨_, rfl, b, _, 1, _, rfl, rfl, SqT.of e, at1, y, s, n, rfl, h2, b1, hn, by rw [k1]; exact hk, fun H1 s1 => ?_⟩
      refine ⟨_, _, rfl, rfl, small_len (by rw [show ("as " : Str).length = 3 from rfl]; omega), _, _, rfl, rfl, small_len (by rw [la, show (" to " : Str).length = 4 from rfl]; omega), ?_⟩
      refine ⟨_, rfl, b, _, 2, _, rfl, rfl, SqT.of (s1 _ _ e), at2, z, t, n, rfl, h3.same s1, b2, hn, by rw [k2]; exact hk, fun H2 s2 => ?_⟩
      exact ⟨_, _, rfl, rfl, small_len (by rw [lb]; omega), q H2 (s1.trans s2)⟩
end
end K01
namespace GD
open PySem PySem.Spec PyProof.Rows L2
/-- a dict with jobs and facts -/
def Lines (H : Hp) (d : Addr) (js : List (Str × Str)) (fs : List Fact) : Prop := ∃ kvs lj lf, H d = some (.dK kvs) ∧ valV kvs (.inr "jobs") = some (.ref lj) ∧ valV kvs (.inr "facts") = some (.ref lf) ∧ LstAt H lj (js.map eE) ∧ LstAt H lf (fs.map eF)
structure LinesOk (k : Nat) (n : Int) (js : List (Str × Str)) (fs : List Fact) : Prop where
  j : ∀ j ∈ js, j.1.length ≤ 100 ∧ j.2.length ≤ 100
  jl : js.length ≤ 10
  f : ∀ f ∈ fs, FactB k n f
  fl : fs.length ≤ 1000
  n : n ≤ 1000
  k : k ≤ 100
theorem Lines.same {H H' : Hp} {d : Addr} {js : List (Str × Str)} {fs : List Fact} (s : Same H H') (h : Lines H d js fs) : Lines H' d js fs := by
  obtain ⟨kvs, lj, lf, e, a, b, x, y⟩ := h
  exact ⟨kvs, lj, lf, s _ _ e, a, b, x.same s, y.same s⟩
def spLines : Sp := fun vs H Q _ => ∃ (d : Addr) (js : List (Str × Str)) (fs : List Fact) (k : Nat) (n : Int), vs = [.ref d] ∧ Lines H d js fs ∧ LinesOk k n js fs ∧ ∀ p H', H p = none → Same H H' → H' p = some (.lst ((lT js fs).map V.str)) → Q (.ref p) H'
def spTextB : Sp := fun vs H Q _ => ∃ (d : Addr) (js : List (Str × Str)) (fs : List Fact) (k : Nat) (n : Int), vs = [.ref d] ∧ Lines H d js fs ∧ LinesOk k n js fs ∧ ∀ H', Same H H' → Q (.str (bT js fs)) H'
theorem mT_take {js : List (Str × Str)} {i : Nat} {j : Str × Str} (h : js[i]? = some j) : mT (js.take (i + 1)) = mT (js.take i) ++ if j.2 = ("plain" : Str) then [] else [(j.2 ++ " ") ++ j.1] := by
  unfold mT
  rw [take_next h, List.filter_append, List.map_append, List.filter_cons]
  by_cases c : j.2 = ("plain" : Str)
  · rw [if_pos c, if_neg (by simp [c])]
    rfl
  · rw [if_neg c, if_pos (by simp [c])]
    rfl
theorem len_mT {js : List (Str × Str)} (h : ∀ j ∈ js, j.1.length ≤ 100 ∧ j.2.length ≤ 100) : ∀ x ∈ mT js, x.length ≤ 201 := fun x hx => by
  obtain ⟨j, hj, rfl⟩ := List.mem_map.mp hx
  have z := h j ((List.mem_filter.mp hj).1)
  rw [len_app, len_app, len1]
  omega
theorem cnt_mT (js : List (Str × Str)) : (mT js).length ≤ js.length := by
  unfold mT
  rw [List.length_map]
  exact List.length_filter_le _ _
theorem len_jT {js : List (Str × Str)} (h : ∀ j ∈ js, j.1.length ≤ 100 ∧ j.2.length ≤ 100) : (jT js).length ≤ 5 + 101 * js.length := by
  have z := len_join (y := " ") (ys := js.map (·.1)) (k := 100) fun x hx => by
    obtain ⟨p, hp, rfl⟩ := List.mem_map.mp hx
    exact (h p hp).1
  rw [List.length_map, len1] at z
  rw [jT, len_app, show ("jobs " : Str).length = 5 from rfl]
  omega
end GD
namespace K01
open PySem PySem.Spec PyProof.Rows L2 GD
section
variable {P : Program} {w : World} {K : PySem.W.Frag} {mg : Str → Option Value} {base : Heap}
abbrev NLi : List Str := ["_law_lore_here", "_law_found", "_law_name", "_law_manner", "_law_fact"]
theorem scLi : FnScope NLi ["_law_lore_here"] (defScope sLines) := ⟨rfl, rfl, rfl, by decide +kernel, rfl, by decide +kernel, by decide +kernel⟩
theorem ok_lines {f fX fY : Addr} {fd fdX fdY : FuncData} (F : Fun K "_law_lines" "_law_lines" sLines f fd) (nS : mg "str" = none) (AX : At K mg "_law_standing_text" sStandingText ["_law_standing"] fX fdX) (AY : At K mg "_law_fact_line" sFactLine ["_law_fact"] fY fdY) :
    FnOk P w K mg base CX0 3 f fd ["_law_lore_here"] spLines := by
  have GY : FnOk P w K mg base CX0 2 fY fdY ["_law_fact"] spFline := ok_fline AY.F nS AX
  refine F.ok scLi (fun vs H Q E h => ?_) (fun cdv A outer s H vs Q E hr h => ?_)
  · obtain ⟨d, js, fs, k, n, rfl, _⟩ := h
    rfl
  · obtain ⟨d, js, fs, k, n, rfl, ⟨kvs, lj, lf, ed, vj, vf, hj, hf⟩, ok, q⟩ := h
    refine ⟨_, pss_cons (ps_set (i := 1) scLi.nd rfl (.inl rfl) (pe_lst (pa_cons (pe_op op_add_str pe_str (pe_bm PySem.F.plainAttrs_str PySem.F.slot_str_join PySem.F.type_str_join mt_join pe_str (pa_cons (pe_lc (own := [("_law_name", 2), ("_law_manner", 3)]) (g := gTup K 2 (gCons (gName 2) (gCons (gName 3) gNil))) (tt := tYes) rfl scLi.nd (pi_list (pe_dget (u1 hr) (pv 0) pe_str (fun _ _ => rfl)))
        (blkOk_by (N := NLi) (sc := defScope sLines) (by decide +kernel)) (fun _ _ _ _ _ => pg_tup rfl (pgs_cons (pg_name (i := 2) scLi.nd rfl (.inl rfl)) (pgs_cons (pg_name (i := 3) scLi.nd rfl (.inl rfl)) pgs_nil))) (fun _ _ _ _ _ => pts_nil) (fun _ _ _ _ _ => pv 2)) pa_nil))) pa_nil)))
      (pss_cons (ps_expr (pe_bm PySem.F.plainAttrs_list PySem.F.slot_list_extend PySem.F.type_list_extend mt_extend (pv 1) (pa_cons (pe_lc (own := [("_law_name", 2), ("_law_manner", 3)]) (g := gTup K 2 (gCons (gName 2) (gCons (gName 3) gNil))) rfl scLi.nd (pi_list (pe_dget (u1 hr) (pv 0) pe_str (fun _ _ => rfl)))
        (blkOk_by (N := NLi) (sc := defScope sLines) (by decide +kernel)) (fun _ _ _ _ _ => pg_tup rfl (pgs_cons (pg_name (i := 2) scLi.nd rfl (.inl rfl)) (pgs_cons (pg_name (i := 3) scLi.nd rfl (.inl rfl)) pgs_nil))) (fun _ _ _ _ _ => pts_one (pt_cmpR op_ne (pv 3) pe_str (nomark _))) (fun _ _ _ _ _ => pe_op op_add_str (pe_op op_add_str (pv 3) pe_str) (pv 2))) pa_nil)))
      (pss_one (ps_ret (pe_op op_cat (pv 1) (pe_lc (own := [("_law_fact", 4)]) (g := gName 4) (tt := tYes) rfl scLi.nd (pi_list (pe_dget (u1 hr) (pv 0) pe_str (fun _ _ => rfl)))
        (blkOk_by (N := NLi) (sc := defScope sLines) (by decide +kernel)) (fun _ _ _ _ _ => pg_name (i := 4) scLi.nd rfl (.inl rfl)) (fun _ _ _ _ _ => pts_nil) (fun _ _ _ _ _ => pe_call GY hr rfl AY.g AY.F.kp AY.b .nil pass0 (pa_cons (pv 4) pa_nil))))))), ?_⟩
    obtain ⟨xj, ej, fj⟩ := hj
    obtain ⟨xf, ef, ff⟩ := hf
    have lxj : xj.length = js.length := by rw [fj.len, List.length_map]
    have lxf : xf.length = fs.length := by rw [ff.len, List.length_map]
    have okl := ok.jl
    have okf := ok.fl
    have okk := ok.k
    have okn := ok.n
    have dg1 : ∀ {H' : Hp}, Same H H' → DGet H' d (.str "jobs") (some (.ref lj)) := fun s => by
      have z := DGet.k (k := .inr "jobs") (s _ _ ed)
      rw [vj] at z
      exact z
    have dg2 : ∀ {H' : Hp}, Same H H' → DGet H' d (.str "facts") (some (.ref lf)) := fun s => by
      have z := DGet.k (k := .inr "facts") (s _ _ ed)
      rw [vf] at z
      exact z
    refine ⟨rfl, _, rfl, d, _, rfl, dg1 (Same.refl H), lj, rfl, ⟨_, SqL.of ej⟩, fun D hD => ?_⟩
    refine lc_list (K := K) (a := lj) (xs := xj) (fun i H' => Same H H' ∧ H' D = some (.lst (((js.take i).map (·.1)).map V.str))) ⟨same_new hD, upd_same⟩ (fun i H' _ ⟨s1, _⟩ => SqL.of (s1 _ _ ej)) ?_ ?_
    · rintro i x H' hx ⟨s1, eD⟩
      obtain ⟨j, hj, fj'⟩ := fj.atM hx
      obtain ⟨b, y1, y2, rfl, hb1, f1, f2⟩ := fj'.t2
      obtain rfl := f1.s
      obtain rfl := f2.s
      have hi : i < js.length := (List.getElem?_eq_some_iff.mp hj).1
      refine ⟨b, _, rfl, SqT.of (s1 _ _ hb1), rfl, _, _, rfl, _, _, rfl, rfl, rfl, _, rfl, ?_⟩
      refine ⟨_, eD, ?_, same_upd s1 hD, ?_⟩
      · rw [List.length_map, List.length_map, List.length_take]
        exact Nat.lt_of_le_of_lt (Nat.min_le_left _ _) (Nat.lt_of_lt_of_le (show i < 101 by omega) (by decide))
      · rw [upd_same, take_next hj, List.map_append, List.map_append]
        rfl
    · rintro H' ⟨s1, eD⟩
      rw [lxj, List.take_length] at eD
      have zs := sum_len (ys := js.map (·.1)) (k := 100) fun x hx => by
        obtain ⟨j, hj, rfl⟩ := List.mem_map.mp hx
        exact (ok.j j hj).1
      rw [List.length_map] at zs
      have zj := len_jT ok.j
      rw [jT, len_app, show ("jobs " : Str).length = 5 from rfl] at zj
      refine ⟨_, D, _, rfl, rfl, .inl (SqL.of eD), by rw [List.length_map, len1]; omega, _, _, rfl, rfl, small_len (by rw [show ("jobs " : Str).length = 5 from rfl]; omega), ?_⟩
      refine ⟨(by show 1 ≤ sizeLine; decide), fun l hl => ?_⟩
      have sl := same_new (o := .lst [V.str (jT js)]) hl
      have el : (upd H' l (.lst [V.str (jT js)])) l = some (.lst [V.str (jT js)]) := upd_same
      have s2 : Same H (upd H' l (.lst [V.str (jT js)])) := s1.trans sl
      have l0 : H l = none := s1.free hl
      show tSeq _ _ _ _ (upd H' l (.lst [V.str (jT js)]))
      generalize upd H' l (.lst [V.str (jT js)]) = H2 at el s2
      refine ⟨_, rfl, .inl ⟨rfl, _, SqL.of el⟩, _, rfl, d, _, rfl, dg1 s2, lj, rfl, ⟨_, SqL.of (s2 _ _ ej)⟩, fun D2 hD2 => ?_⟩
      refine lc_list (K := K) (a := lj) (xs := xj) (fun i H' => Same H2 H' ∧ H' D2 = some (.lst ((mT (js.take i)).map V.str))) ⟨same_new hD2, upd_same⟩ (fun i H' _ ⟨s3, _⟩ => SqL.of (s3 _ _ (s2 _ _ ej))) ?_ ?_
      · rintro i x H' hx ⟨s3, eD2⟩
        obtain ⟨j, hj, fj'⟩ := fj.atM hx
        obtain ⟨b, y1, y2, rfl, hb1, f1, f2⟩ := fj'.t2
        obtain rfl := f1.s
        obtain rfl := f2.s
        have hi : i < js.length := (List.getElem?_eq_some_iff.mp hj).1
        have hjl := ok.j j (List.mem_of_getElem? hj)
        refine ⟨b, _, rfl, SqT.of (s3 _ _ (s2 _ _ hb1)), rfl, _, _, rfl, _, _, rfl, rfl, ?_⟩
        refine ⟨rfl, _, rfl, rfl, ?_⟩
        refine ⟨_, rfl, ?_⟩
        rw [mT_take hj]
        by_cases c : j.2 = ("plain" : Str)
        · rw [if_pos c, List.append_nil, show (!decide (V.str j.2 = V.str ("plain" : Str))) = false by rw [c]; simp]
          refine iteF ?_
          exact ⟨s3, eD2⟩
        · rw [if_neg c, show (!decide (V.str j.2 = V.str ("plain" : Str))) = true by simp [c]]
          refine iteT ?_
          refine ⟨_, rfl, _, _, rfl, rfl, small_len (by rw [len1]; omega), _, rfl, _, _, rfl, rfl, small_len (by rw [len_app, len1]; omega), ?_⟩
          refine ⟨_, eD2, ?_, same_upd s3 hD2, ?_⟩
          · rw [List.length_map]
            exact Nat.lt_of_le_of_lt (cnt_mT _) (by rw [List.length_take]; exact Nat.lt_of_le_of_lt (Nat.min_le_left _ _) (Nat.lt_of_lt_of_le (show i < 101 by omega) (by decide)))
          · rw [upd_same, List.map_append]
            rfl
      · rintro H3 ⟨s3, eD2⟩
        rw [lxj, List.take_length] at eD2
        have el3 := s3 _ _ el
        have cm := cnt_mT js
        refine ⟨l, D2, _, _, rfl, rfl, el3, eD2, small_len (by rw [List.length_singleton, List.length_map]; omega), ?_⟩
        have s4 : Same H (upd H3 l (.lst ([V.str (jT js)] ++ (mT js).map V.str))) := same_upd (s2.trans s3) l0
        have e4 : (upd H3 l (.lst ([V.str (jT js)] ++ (mT js).map V.str))) l = _ := upd_same
        generalize upd H3 l (.lst ([V.str (jT js)] ++ (mT js).map V.str)) = H4 at s4 e4
        refine ⟨_, rfl, _, rfl, d, _, rfl, dg2 s4, lf, rfl, ⟨_, SqL.of (s4 _ _ ef)⟩, fun D3 hD3 => ?_⟩
        refine lc_list (K := K) (a := lf) (xs := xf) (fun i H' => Same H4 H' ∧ H' D3 = some (.lst (((fs.take i).map fT).map V.str))) ⟨same_new hD3, upd_same⟩ (fun i H' _ ⟨s5, _⟩ => SqL.of (s5 _ _ (s4 _ _ ef))) ?_ ?_
        · rintro i x H' hx ⟨s5, eD3⟩
          obtain ⟨f0, hf0, fz⟩ := ff.atM hx
          have hi : i < fs.length := (List.getElem?_eq_some_iff.mp hf0).1
          refine ⟨rfl, _, rfl, x, f0, k, n, rfl, fz.same (s4.trans s5), ok.f f0 (List.mem_of_getElem? hf0), okn, okk, fun H6 s6 => ?_⟩
          refine ⟨_, s6 _ _ eD3, ?_, same_upd (s5.trans s6) hD3, ?_⟩
          · rw [List.length_map, List.length_map, List.length_take]
            exact Nat.lt_of_le_of_lt (Nat.min_le_left _ _) (Nat.lt_of_lt_of_le (show i < 1001 by omega) (by decide))
          · rw [upd_same, take_next hf0, List.map_append, List.map_append]
            rfl
        · rintro H5 ⟨s5, eD3⟩
          rw [lxf, List.take_length] at eD3
          refine ⟨l, D3, _, _, rfl, rfl, s5 _ _ e4, eD3, small_len (by rw [List.length_append, List.length_singleton, List.length_map, List.length_map, List.length_map]; omega), fun p hp => ?_⟩
          refine q p _ ((s4.trans s5).free hp) ((s4.trans s5).trans (same_new hp)) ?_
          rw [upd_same, lT, List.map_append, List.map_cons]
          rfl
end
end K01
namespace GD
open PySem PySem.Spec PyProof.Rows L2
theorem len_lT {k : Nat} {n : Int} {js : List (Str × Str)} {fs : List Fact} (ok : LinesOk k n js fs) : ∀ x ∈ lT js fs, x.length ≤ 2007 := fun x hx => by
  have okl := ok.jl
  have okk := ok.k
  rcases List.mem_append.mp hx with h | h
  · rcases List.mem_cons.mp h with h | h
    · rw [h]
      have z := len_jT ok.j
      omega
    · have z := len_mT ok.j x h
      omega
  · obtain ⟨f, hf, rfl⟩ := List.mem_map.mp h
    have z := len_fT (ok.f f hf) ok.n
    omega
theorem cnt_lT {k : Nat} {n : Int} {js : List (Str × Str)} {fs : List Fact} (ok : LinesOk k n js fs) : (lT js fs).length ≤ 1011 := by
  have okl := ok.jl
  have okf := ok.fl
  have z := cnt_mT js
  rw [lT, List.length_append, List.length_cons, List.length_map]
  omega
theorem len_bT {k : Nat} {n : Int} {js : List (Str × Str)} {fs : List Fact} (ok : LinesOk k n js fs) : (bT js fs).length ≤ 2030088 := by
  have z := len_join (y := "\n") (len_lT ok)
  have c := cnt_lT ok
  rw [show ("\n" : Str).length = 1 from rfl] at z
  refine Nat.le_trans z (Nat.le_trans (Nat.mul_le_mul_left _ c) (by decide))
end GD
namespace K01
open PySem PySem.Spec PyProof.Rows L2 GD
section
variable {P : Program} {w : World} {K : PySem.W.Frag} {mg : Str → Option Value} {base : Heap}
end
end K01
namespace GD
open PySem PySem.Spec PyProof.Rows L2
/-- a op1 b op2 c op3 d -/
def tChain3 (r r' r'' : R2) (ta tb tc td : TE) : TE := fun σ H Q => ta σ H fun x H1 => tb σ H1 fun y H2 => r x y H2 fun z H3 => ∃ k, z = .bl k ∧
  (if k = true then tc σ H3 fun u H4 => r' y u H4 fun z' H5 => ∃ k', z' = .bl k' ∧ (if k' = true then td σ H5 fun v H6 => r'' u v H6 Q else Q (.bl false) H5) else Q (.bl false) H3)
section
variable {X : Cx} {a b c d : Expr} {ta tb tc td : TE} {pos : Pos}
theorem pe_chain3 {op op' op'' : CmpOp} {r r' r'' : R2} (ho : OpR X (compareOp op) r) (ho' : OpR X (compareOp op') r') (ho'' : OpR X (compareOp op'') r'') (ha : PE X a ta) (hb : PE X b tb) (hc : PE X c tc) (hd : PE X d td)
    (hm : lastMarks [op, op', op''] [b, c, d] = false := by with_unfolding_all rfl) : PE X (.Compare a [op, op', op''] [b, c, d] pos) (tChain3 r r' r'' ta tb tc td) := by
  refine ⟨fun pins s σ H Q I h => ?_⟩
  refine Compare_chain (thn (ha.run pins s σ H _ I h) fun v s1 ⟨x, H1, I1, r1, q1⟩ => chain_link (thn (hb.run pins s1 σ H1 _ I1 q1) fun u s2 ⟨y, H2, I2, r2, q2⟩ =>
    thn (ho pins s2 σ H2 x y v u _ I2 r1 r2 q2) fun e s3 ⟨z, H3, I3, r3, k, ek, q3⟩ => ?_)) hm
  subst ek
  cases r3
  refine wpAny_truthy_bool ?_
  cases k with
  | false => exact ite_ff ⟨.bl false, H3, I3, rfl, q3⟩
  | true =>
    refine ite_tt (chain_link (thn (hc.run pins s3 σ H3 _ I3 q3) fun w' s4 ⟨z', H4, I4, r4, q4⟩ => thn (ho' pins s4 σ H4 y z' u w' _ I4 r2 r4 q4) fun e' s5 ⟨z5, H5, I5, r5, k', ek', q5⟩ => ?_))
    subst ek'
    cases r5
    refine wpAny_truthy_bool ?_
    cases k' with
    | false => exact ite_ff ⟨.bl false, H5, I5, rfl, q5⟩
    | true => exact ite_tt (chain_last (thn (hd.run pins s5 σ H5 _ I5 q5) fun w2 s6 ⟨z6, H6, I6, r6, q6⟩ => ho'' pins s6 σ H6 z' z6 w' w2 Q I6 r4 r6 q6))
end
/-! what the forms tell -/
def okQ (p : Int × Int) : Bool := decide (0 ≤ p.2) && (decide (p.2 ≤ p.1) && decide (p.1 ≤ 40))
def okN (k : Nat) (s : Stn) : Bool := decide (s.length = k) && s.all okQ
def okT (k : Nat) : Fact → Bool
  | .let_ s => okN k s
  | .not_ s => okN k s
  | .as_ s t => okN k s && okN k t && !PyData.eqv (eS s) (eS t)
def spInt : Sp := fun vs H Q _ => ∃ i : Int, vs = [.int i] ∧ Q (.bl true) H
def spNumb : Sp := fun vs H Q _ => ∃ i m : Int, vs = [.int i, .int m] ∧ Q (.bl (decide (0 ≤ i ∧ i < m))) H
def spWord (K : PySem.W.Frag) : Sp := fun vs H Q _ => ∃ (x : Str) (w : Addr) (ws : List Str), vs = [.str x, .ref w] ∧ (SqL K H w (ws.map V.str) ∨ SqT K H w (ws.map V.str)) ∧ Q (.bl (decide (x ∈ ws))) H
def spPair : Sp := fun vs H Q _ => ∃ (v : V) (p : Int × Int), vs = [v] ∧ Fz H v (eP p) ∧ Q (.bl (okQ p)) H
def spStn : Sp := fun vs H Q _ => ∃ (v : V) (s : Stn) (k : Nat), vs = [v, .int k] ∧ Fz H v (eS s) ∧ s.length ≤ 1000 ∧ ∀ H', Same H H' → Q (.bl (okN k s)) H'
def spFact : Sp := fun vs H Q _ => ∃ (v : V) (f : Fact) (k : Nat), vs = [v, .int k] ∧ Fz H v (eF f) ∧ (∀ s t, f = .as_ s t → s.length ≤ 1000 ∧ t.length ≤ 1000) ∧ (∀ s, f = .let_ s ∨ f = .not_ s → s.length ≤ 1000) ∧ ∀ H', Same H H' → Q (.bl (okT k f)) H'
theorem inV_strs {x : Str} {ws : List Str} : inV (.str x) (ws.map V.str) = decide (x ∈ ws) := by
  unfold inV
  rw [List.any_map]
  induction ws with
  | nil => rfl
  | cons w r ih =>
    rw [List.any_cons, ih]
    by_cases h : x = w
    · subst h
      simp [eqV]
    · have h2 : ¬ w = x := fun e => h e.symm
      simp [h, h2, eqV]
end GD
namespace K01
open PySem PySem.Spec PyProof.Rows L2 GD
abbrev pIsInt : Stmt := top 12
abbrev pIsNumb : Stmt := top 13
abbrev pIsWord : Stmt := top 14
abbrev pIsName : Stmt := top 16
abbrev pIsPair : Stmt := top 17
abbrev pIsStn : Stmt := top 18
abbrev pIsFact : Stmt := top 19
section
variable {P : Program} {w : World} {K : PySem.W.Frag} {mg : Str → Option Value} {base : Heap}
structure Forms1 (mg : Str → Option Value) : Prop where
  isi : mg "isinstance" = none
  int : mg "int" = none
  bool : mg "bool" = none
  str : mg "str" = none
  tup : mg "tuple" = none
  len : mg "len" = none
  all : mg "all" = none
  most : ∃ u, mg "MOST_COUNTED" = some u ∧ RelV (.int 40) u
theorem scI1 : FnScope ["value"] ["value"] (defScope pIsInt) := ⟨rfl, rfl, rfl, by decide +kernel, rfl, by decide +kernel, by decide +kernel⟩
theorem ok_isint {f : Addr} {fd : FuncData} (F : Fun K "is_integer" "is_integer" pIsInt f fd) (S : Forms1 mg) : FnOk P w K mg base CX0 1 f fd ["value"] spInt := by
  refine F.ok scI1 (fun vs H Q E h => ?_) (fun cdv A outer s H vs Q E hr h => ?_)
  · obtain ⟨i, rfl, _⟩ := h
    rfl
  · obtain ⟨i, rfl, q⟩ := h
    refine ⟨_, pss_one (ps_ret (pe_and (pe_callB call_isi (by rfl) S.isi (by decide +kernel) (pa_cons (pv 0) (pa_cons (pe_bltn (v := .ty "int") (by rfl) S.int PyProof.Rows.Boot.«int» rfl) pa_nil)))
      (pe_one (pe_not (pe_callB call_isi (by rfl) S.isi (by decide +kernel) (pa_cons (pv 0) (pa_cons (pe_bltn (v := .ty "bool") (by rfl) S.bool PyProof.Rows.Boot.«bool» rfl) pa_nil))))))), ?_⟩
    refine ⟨_, rfl, _, _, _, _, true, rfl, .ty _, .base (.int _), kit_ty (by decide +kernel), _, rfl, iteT ?_⟩
    exact ⟨_, rfl, _, _, _, _, false, rfl, .ty _, .base (.int _), kit_ty (by decide +kernel), _, rfl, q⟩
theorem scI2 : FnScope ["value", "many"] ["value", "many"] (defScope pIsNumb) := ⟨rfl, rfl, rfl, by decide +kernel, rfl, by decide +kernel, by decide +kernel⟩
theorem ok_isnumb {f fI : Addr} {fd fdI : FuncData} (F : Fun K "is_number" "is_number" pIsNumb f fd) (S : Forms1 mg) (AI : At K mg "is_integer" pIsInt ["value"] fI fdI) : FnOk P w K mg base CX0 2 f fd ["value", "many"] spNumb := by
  have GI : FnOk P w K mg base CX0 1 fI fdI ["value"] spInt := ok_isint AI.F S
  refine F.ok scI2 (fun vs H Q E h => ?_) (fun cdv A outer s H vs Q E hr h => ?_)
  · obtain ⟨i, m, rfl, _⟩ := h
    rfl
  · obtain ⟨i, m, rfl, q⟩ := h
    refine ⟨_, pss_one (ps_ret (pe_and (pe_call GI hr rfl AI.g AI.F.kp AI.b .nil pass0 (pa_cons (pv 0) pa_nil)) (pe_one (pe_chain op_le op_lt pe_int (pv 0) (pv 1))))), ?_⟩
    refine ⟨_, rfl, i, rfl, _, rfl, iteT ?_⟩
    refine ⟨_, rfl, _, _, rfl, rfl, _, rfl, ?_⟩
    by_cases h : 0 ≤ i
    · rw [decide_eq_true h]
      refine iteT ⟨_, rfl, _, _, rfl, rfl, ?_⟩
      rw [show decide (0 ≤ i ∧ i < m) = decide (i < m) by simp [h]] at q
      exact q
    · rw [decide_eq_false h]
      refine iteF ?_
      rw [decide_eq_false (show ¬ (0 ≤ i ∧ i < m) from fun z => h z.1)] at q
      exact q
theorem scI3 : FnScope ["value", "words"] ["value", "words"] (defScope pIsWord) := ⟨rfl, rfl, rfl, by decide +kernel, rfl, by decide +kernel, by decide +kernel⟩
theorem ok_isword {f : Addr} {fd : FuncData} (F : Fun K "is_word" "is_word" pIsWord f fd) (S : Forms1 mg) : FnOk P w K mg base CX0 1 f fd ["value", "words"] (spWord K) := by
  refine F.ok scI3 (fun vs H Q E h => ?_) (fun cdv A outer s H vs Q E hr h => ?_)
  · obtain ⟨x, u, ws, rfl, _⟩ := h
    rfl
  · obtain ⟨x, u, ws, rfl, hw, q⟩ := h
    refine ⟨_, pss_one (ps_ret (pe_and (pe_callB call_isi (by rfl) S.isi (by decide +kernel) (pa_cons (pv 0) (pa_cons (pe_bltn (v := .ty "str") (by rfl) S.str PyProof.Rows.Boot.«str» rfl) pa_nil)))
      (pe_one (pe_cmpR op_in_seq (pv 0) (pv 1) (by with_unfolding_all rfl))))), ?_⟩
    refine ⟨_, rfl, _, _, _, _, true, rfl, .ty _, .base (.str _), kit_ty (by decide +kernel), _, rfl, iteT ?_⟩
    refine ⟨_, rfl, _, rfl, u, _, rfl, hw, rfl, ?_, ?_⟩
    · rw [List.all_map]
      exact List.all_eq_true.mpr fun _ _ => rfl
    · rw [inV_strs]
      exact q
theorem scI5 : FnScope ["value", "begun", "ended"] ["value"] (defScope pIsPair) := ⟨rfl, rfl, rfl, by decide +kernel, rfl, by decide +kernel, by decide +kernel⟩
theorem ok_ispair {f fI : Addr} {fd fdI : FuncData} (F : Fun K "is_pair" "is_pair" pIsPair f fd) (S : Forms1 mg) (AI : At K mg "is_integer" pIsInt ["value"] fI fdI) : FnOk P w K mg base CX0 2 f fd ["value"] spPair := by
  have GI : FnOk P w K mg base CX0 1 fI fdI ["value"] spInt := ok_isint AI.F S
  refine F.ok scI5 (fun vs H Q E h => ?_) (fun cdv A outer s H vs Q E hr h => ?_)
  · obtain ⟨v, p, rfl, _⟩ := h
    rfl
  · obtain ⟨v, p, rfl, fz, q⟩ := h
    obtain ⟨um, gm, rm⟩ := S.most
    refine ⟨_, pss_cons (ps_if (pw_or (pt_not (pt_val (pe_callB call_isi (by rfl) S.isi (by decide +kernel) (pa_cons (pv 0) (pa_cons (pe_bltn (v := .ty "tuple") (by rfl) S.tup PyProof.Rows.Boot.«tuple» rfl) pa_nil)))))
          (pw_or1 (pt_cmpR op_ne (pe_callB call_len_seq (by rfl) S.len PySem.boot_len (pa_cons (pv 0) pa_nil)) pe_int (nomark _)))).pt (pss_one (ps_ret (pe_bl))) pss_nil)
      (pss_cons (ps_asg (pv 0) (pg_tup rfl (pgs_cons (pg_name (i := 1) scI5.nd rfl (.inl rfl)) (pgs_cons (pg_name (i := 2) scI5.nd rfl (.inl rfl)) pgs_nil))))
      (pss_one (ps_ret (pe_and (pe_call GI hr rfl AI.g AI.F.kp AI.b .nil pass0 (pa_cons (pv 1) pa_nil)) (pe_and (pe_call GI hr rfl AI.g AI.F.kp AI.b .nil pass0 (pa_cons (pv 2) pa_nil))
        (pe_one (pe_chain3 op_le op_le op_le pe_int (pv 2) (pv 1) (pe_glob (by rfl) gm rm)))))))), ?_⟩
    obtain ⟨b, x, y, rfl, hb, f1, f2⟩ := fz.t2
    obtain rfl := f1.i
    obtain rfl := f2.i
    refine ⟨_, rfl, _, _, _, _, true, rfl, .ty _, .base (.tup hb), kit_ty (by decide +kernel), _, rfl, ?_⟩
    refine ⟨_, rfl, b, _, rfl, .inr (SqT.of hb), rfl, _, rfl, iteF ?_⟩
    refine ⟨_, rfl, b, _, rfl, SqT.of hb, rfl, _, _, rfl, _, _, rfl, rfl, ?_⟩
    refine ⟨_, rfl, p.1, rfl, _, rfl, iteT ?_⟩
    refine ⟨_, rfl, p.2, rfl, _, rfl, iteT ?_⟩
    refine ⟨_, rfl, _, _, rfl, rfl, _, rfl, ?_⟩
    unfold okQ at q
    by_cases h0 : 0 ≤ p.2
    · rw [decide_eq_true h0] at q ⊢
      refine iteT ⟨_, rfl, _, _, rfl, rfl, _, rfl, ?_⟩
      by_cases h1 : p.2 ≤ p.1
      · rw [decide_eq_true h1] at q ⊢
        refine iteT ⟨_, _, rfl, rfl, q⟩
      · rw [decide_eq_false h1] at q ⊢
        exact iteF q
    · rw [decide_eq_false h0] at q ⊢
      exact iteF q
end
end K01
namespace K01
open PySem PySem.Spec PyProof.Rows L2 GD
section
variable {P : Program} {w : World} {K : PySem.W.Frag} {mg : Str → Option Value} {base : Heap}
abbrev NP : List Str := ["value", "many", "pair"]
theorem scI6 : FnScope NP ["value", "many"] (defScope pIsStn) := ⟨rfl, rfl, rfl, by decide +kernel, rfl, by decide +kernel, by decide +kernel⟩
theorem ok_isstn {f fI fP : Addr} {fd fdI fdP : FuncData} (F : Fun K "is_standing" "is_standing" pIsStn f fd) (S : Forms1 mg) (AI : At K mg "is_integer" pIsInt ["value"] fI fdI) (AP : At K mg "is_pair" pIsPair ["value"] fP fdP) : FnOk P w K mg base CX0 3 f fd ["value", "many"] spStn := by
  have GP : FnOk P w K mg base CX0 2 fP fdP ["value"] spPair := ok_ispair AP.F S AI
  refine F.ok scI6 (fun vs H Q E h => ?_) (fun cdv A outer s H vs Q E hr h => ?_)
  · obtain ⟨v, sn, k, rfl, _⟩ := h
    rfl
  · obtain ⟨v, sn, k, rfl, fz, hl, q⟩ := h
    refine ⟨_, pss_one (ps_ret (pe_and (pe_callB call_isi (by rfl) S.isi (by decide +kernel) (pa_cons (pv 0) (pa_cons (pe_bltn (v := .ty "tuple") (by rfl) S.tup PyProof.Rows.Boot.«tuple» rfl) pa_nil)))
      (pe_and (pe_cmpR op_eq (pe_callB call_len_seq (by rfl) S.len PySem.boot_len (pa_cons (pv 0) pa_nil)) (pv 1) (nomark _))
      (pe_one (pe_callB (cr_all rfl) (by rfl) S.all (by decide +kernel) (pa_cons (pe_lc (own := [("pair", 2)]) (g := gName 2) (tt := tYes) rfl scI6.nd (pi_tup (pv 0)) (blkOk_by (N := NP) (sc := defScope pIsStn) (by decide +kernel))
        (fun _ _ _ _ _ => pg_name (i := 2) scI6.nd rfl (.inl rfl)) (fun _ _ _ _ _ => pts_nil) (fun _ _ _ _ _ => pe_call GP hr rfl AP.g AP.F.kp AP.b .nil pass0 (pa_cons (pv 2) pa_nil))) pa_nil)))))), ?_⟩
    obtain ⟨b, xs, rfl, hb, fx⟩ := fz.t
    have lx : xs.length = sn.length := by rw [fx.len, List.length_map]
    refine ⟨_, rfl, _, _, _, _, true, rfl, .ty _, .base (.tup hb), kit_ty (by decide +kernel), _, rfl, iteT ?_⟩
    refine ⟨_, rfl, b, _, rfl, .inr (SqT.of hb), _, rfl, rfl, _, rfl, ?_⟩
    unfold okN at q
    by_cases h : sn.length = k
    · rw [decide_eq_true (show V.int (xs.length : Int) = V.int (k : Int) by rw [lx, h])]
      refine iteT ?_
      refine ⟨_, rfl, b, rfl, ⟨_, SqT.of hb⟩, fun D hD => ?_⟩
      refine lc_tup (K := K) (a := b) (xs := xs) (fun i H' => Same H H' ∧ H' D = some (.lst (((sn.take i).map okQ).map V.bl))) ⟨same_new hD, upd_same⟩ (fun i H' _ ⟨s2, _⟩ => SqT.of (s2 _ _ hb)) ?_ ?_
      · rintro i x H' hx ⟨s1, eD⟩
        obtain ⟨p, hp, fp⟩ := fx.atM hx
        have hi : i < sn.length := (List.getElem?_eq_some_iff.mp hp).1
        refine ⟨rfl, _, rfl, x, p, rfl, fp.same s1, ?_⟩
        refine ⟨_, eD, ?_, same_upd s1 hD, ?_⟩
        · rw [List.length_map, List.length_map, List.length_take]
          exact Nat.lt_of_le_of_lt (Nat.min_le_left _ _) (Nat.lt_of_lt_of_le (show i < 1001 by omega) (by decide))
        · rw [upd_same, take_next hp, List.map_append, List.map_append]
          rfl
      · rintro H' ⟨s1, eD⟩
        rw [lx, List.take_length] at eD
        refine ⟨D, _, rfl, SqL.of eD, ?_⟩
        have z := q H' s1
        rw [decide_eq_true h, Bool.true_and] at z
        rw [List.all_map]
        exact z
    · rw [decide_eq_false (show ¬ V.int (xs.length : Int) = V.int (k : Int) from fun z => h (by rw [← lx]; exact Int.ofNat_inj.mp (V.int.inj z)))]
      refine iteF ?_
      have z := q H (Same.refl H)
      rw [decide_eq_false h, Bool.false_and] at z
      exact z
end
end K01
namespace GD
open PySem PySem.Spec PyProof.Rows L2
theorem Fz.fact_at {H : Hp} {v : V} {f : Fact} (h : Fz H v (eF f)) : (∃ b y s, v = .ref b ∧ H b = some (.tup [.str (kindS f), y]) ∧ Fz H y (eS s) ∧ (f = .let_ s ∨ f = .not_ s)) ∨ ∃ b y z s t, v = .ref b ∧ H b = some (.tup [.str "as", y, z]) ∧ Fz H y (eS s) ∧ Fz H z (eS t) ∧ f = .as_ s t := by
  cases f with
  | let_ s =>
    obtain ⟨b, x, y, rfl, hb, h1, h2⟩ := h.t2
    obtain rfl := h1.s
    exact .inl ⟨b, y, s, rfl, hb, h2, .inl rfl⟩
  | not_ s =>
    obtain ⟨b, x, y, rfl, hb, h1, h2⟩ := h.t2
    obtain rfl := h1.s
    exact .inl ⟨b, y, s, rfl, hb, h2, .inr rfl⟩
  | as_ s t =>
    obtain ⟨b, x, y, z, rfl, hb, h1, h2, h3⟩ := h.t3
    obtain rfl := h1.s
    exact .inr ⟨b, y, z, s, t, rfl, hb, h2, h3, rfl⟩
theorem shapeN (s : Stn) : SeqAt.shaped (eS s) = true := shape_eS s
end GD
namespace K01
open PySem PySem.Spec PyProof.Rows L2 GD
section
variable {P : Program} {w : World} {K : PySem.W.Frag} {mg : Str → Option Value} {base : Heap}
abbrev NF : List Str := ["value", "many", "here", "there", "both"]
theorem scI7 : FnScope NF ["value", "many"] (defScope pIsFact) := ⟨rfl, rfl, rfl, by decide +kernel, rfl, by decide +kernel, by decide +kernel⟩
theorem ok_isfact {f fI fP fN fW : Addr} {fd fdI fdP fdN fdW : FuncData} (F : Fun K "is_fact" "is_fact" pIsFact f fd) (S : Forms1 mg) (AI : At K mg "is_integer" pIsInt ["value"] fI fdI) (AP : At K mg "is_pair" pIsPair ["value"] fP fdP)
    (AN : At K mg "is_standing" pIsStn ["value", "many"] fN fdN) (AW : At K mg "is_word" pIsWord ["value", "words"] fW fdW) : FnOk P w K mg base CX0 4 f fd ["value", "many"] spFact := by
  have GN : FnOk P w K mg base CX0 3 fN fdN ["value", "many"] spStn := ok_isstn AN.F S AI AP
  have GW : FnOk P w K mg base CX0 1 fW fdW ["value", "words"] (spWord K) := ok_isword AW.F S
  refine F.ok scI7 (fun vs H Q E h => ?_) (fun cdv A outer s H vs Q E hr h => ?_)
  · obtain ⟨v, f, k, rfl, _⟩ := h
    rfl
  · obtain ⟨v, f, k, rfl, fz, hl2, hl1, q⟩ := h
    have hr1 : Room 1 _ := hr.mono (by decide)
    refine ⟨_, pss_cons (ps_if (pt_not (pt_val (pe_callB call_isi (by rfl) S.isi (by decide +kernel) (pa_cons (pv 0) (pa_cons (pe_bltn (v := .ty "tuple") (by rfl) S.tup PyProof.Rows.Boot.«tuple» rfl) pa_nil))))) (pss_one (ps_ret pe_bl)) pss_nil)
      (pss_cons (ps_if (pt_cmpR op_eq (pe_callB call_len_seq (by rfl) S.len PySem.boot_len (pa_cons (pv 0) pa_nil)) pe_int (nomark _))
        (pss_one (ps_ret (pe_and (pe_call GW hr1 rfl AW.g AW.F.kp AW.b .nil pass0 (pa_cons (pe_ix ix_tup (pv 0) pe_int (fun _ _ => rfl)) (pa_cons (pe_tup (pa_cons pe_str (pa_cons pe_str pa_nil))) pa_nil)))
          (pe_one (pe_call GN hr rfl AN.g AN.F.kp AN.b .nil pass0 (pa_cons (pe_ix ix_tup (pv 0) pe_int (fun _ _ => rfl)) (pa_cons (pv 1) pa_nil))))))) pss_nil)
      (pss_cons (ps_if (pt_cmpR op_eq (pe_callB call_len_seq (by rfl) S.len PySem.boot_len (pa_cons (pv 0) pa_nil)) pe_int (nomark _))
        (pss_cons (ps_asg (pe_slice sl_tup (pv 0) (po_some pe_int) po_none) (pg_tup rfl (pgs_cons (pg_name (i := 2) scI7.nd rfl (.inl rfl)) (pgs_cons (pg_name (i := 3) scI7.nd rfl (.inl rfl)) pgs_nil))))
        (pss_cons (ps_set (i := 4) scI7.nd rfl (.inl rfl) (pe_and (pe_call GN hr rfl AN.g AN.F.kp AN.b .nil pass0 (pa_cons (pv 2) (pa_cons (pv 1) pa_nil))) (pe_one (pe_call GN hr rfl AN.g AN.F.kp AN.b .nil pass0 (pa_cons (pv 3) (pa_cons (pv 1) pa_nil))))))
        (pss_one (ps_ret (pe_and (pe_call GW hr1 rfl AW.g AW.F.kp AW.b .nil pass0 (pa_cons (pe_ix ix_tup (pv 0) pe_int (fun _ _ => rfl)) (pa_cons (pe_tup (pa_cons pe_str pa_nil)) pa_nil)))
          (pe_and (pv 4) (pe_one (pe_cmpR (op_neD hr.units) (pv 2) (pv 3) (nomark _))))))))) pss_nil)
      (pss_one (ps_ret pe_bl)))), ?_⟩
    rcases fz.fact_at with ⟨b, y, sn, rfl, hb, fy, hf⟩ | ⟨b, y, z, sn, tn, rfl, hb, fy, fzz, rfl⟩
    · have hk : okT k f = okN k sn ∧ (kindS f = ("let" : Str) ∨ kindS f = ("not" : Str)) := by
        rcases hf with rfl | rfl
        · exact ⟨rfl, .inl rfl⟩
        · exact ⟨rfl, .inr rfl⟩
      refine ⟨_, rfl, _, _, _, _, true, rfl, .ty _, .base (.tup hb), kit_ty (by decide +kernel), _, rfl, iteF ?_⟩
      refine ⟨_, rfl, b, _, rfl, .inr (SqT.of hb), rfl, _, rfl, iteT ?_⟩
      refine ⟨_, rfl, b, _, 0, _, rfl, rfl, SqT.of hb, at0, ?_⟩
      refine ⟨(by show 2 ≤ sizeLine; decide), fun t ht => ?_⟩
      have st := same_new (o := .tup [.str "let", .str "not"]) ht
      refine ⟨kindS f, t, ["let", "not"], rfl, .inr (SqT.of upd_same), true, ?_, iteT ?_⟩
      · rcases hk.2 with e | e <;> rw [e] <;> decide
      refine ⟨_, rfl, b, _, 1, _, rfl, rfl, SqT.of (st _ _ hb), at1, _, rfl, y, sn, k, rfl, fy.same st, hl1 sn hf, fun H' s' => ?_⟩
      have z := q H' (st.trans s')
      rw [hk.1] at z
      exact z
    · obtain ⟨h1, h2⟩ := hl2 sn tn rfl
      refine ⟨_, rfl, _, _, _, _, true, rfl, .ty _, .base (.tup hb), kit_ty (by decide +kernel), _, rfl, iteF ?_⟩
      refine ⟨_, rfl, b, _, rfl, .inr (SqT.of hb), rfl, _, rfl, iteF ?_⟩
      refine ⟨_, rfl, b, _, rfl, .inr (SqT.of hb), rfl, _, rfl, iteT ?_⟩
      refine ⟨_, rfl, ?_⟩
      dsimp only [tNoPart]
      refine ⟨_, rfl, b, _, rfl, SqT.of hb, (show ¬ (HT.sIx 3 0 (some 1) = 0 ∧ HT.sIx 3 3 none = 3) by decide), fun p hp => ?_⟩
      have sp := same_new (o := .tup (cutV [V.str "as", y, z] (some 1) none)) hp
      have ep : (upd H p (.tup (cutV [V.str "as", y, z] (some 1) none))) p = some (.tup [y, z]) := upd_same
      generalize upd H p (.tup (cutV [V.str "as", y, z] (some 1) none)) = H1 at sp ep ⊢
      refine ⟨p, _, rfl, SqT.of ep, rfl, _, _, rfl, _, _, rfl, rfl, ?_⟩
      refine ⟨_, rfl, _, rfl, y, sn, k, rfl, fy.same sp, h1, fun H2 s2 => ?_⟩
      have fin : ∀ (both : Bool) (H3 : Hp), Same H H3 → both = (okN k sn && okN k tn) → tRet
            (tAndV
              (tCall (spWord K) [] E0
                (tCons (tOp (rIxT K) (tVar 0) (tC (V.int 0)))
                  (tCons (tTup (tCons (tC (V.str (Str.ofString "as"))) tNil)) tNil)))
              (tAndV (tVar 4) (tOp (rNeD K) (tVar 2) (tVar 3)))) { nx := tRet (tC (V.bl false)) { nx := fun x H' => Q V.non H', rt := Q }, rt := Q } [some (.ref b), some (.int k), some y, some z, some (.bl both)] H3 := by
        intro both H3 s3 eb
        refine ⟨_, rfl, b, _, 0, _, rfl, rfl, SqT.of (s3 _ _ hb), at0, ?_⟩
        refine ⟨(by show 1 ≤ sizeLine; decide), fun t ht => ?_⟩
        have st := same_new (o := .tup [.str "as"]) ht
        refine ⟨"as", t, ["as"], rfl, .inr (SqT.of upd_same), true, by decide, iteT ?_⟩
        have s4 := s3.trans st
        have fin2 := q _ s4
        rw [okT, ← eb] at fin2
        cases both with
        | false => exact ⟨_, rfl, _, rfl, iteF fin2⟩
        | true => exact ⟨_, rfl, _, rfl, iteT ⟨_, rfl, _, rfl, eS sn, eS tn, (fy.same s4).dp, (fzz.same s4).dp, shapeN sn, shapeN tn, fin2⟩⟩
      have s02 := sp.trans s2
      cases e1 : okN k sn with
      | false =>
        refine ⟨_, rfl, iteF ?_⟩
        exact fin false _ s02 (by rw [e1]; rfl)
      | true =>
        refine ⟨_, rfl, iteT ?_⟩
        refine ⟨_, rfl, _, rfl, z, tn, k, rfl, fzz.same s02, h2, fun H3 s3 => ?_⟩
        exact fin _ _ (s02.trans s3) (by rw [e1]; rfl)
end
end K01
namespace GD
open PySem PySem.Spec PyProof.Rows L2
/-! the reading of a book's text -/
theorem digit128 : ∀ c : Nat, c < 128 → Unicode.isDigit c = (decide (48 ≤ c) && decide (c ≤ 57)) := by decide +kernel
def isNum (x : Str) : Bool := Txt.isascii x && Txt.isdigit x
theorem isNum_digits {x : Str} (h : isNum x = true) : NumText.AllDigits (TL.tl x) ∧ TL.tl x ≠ [] := by
  unfold isNum Txt.isascii Txt.isdigit at h
  rw [Bool.and_eq_true, Bool.and_eq_true, decide_eq_true_iff] at h
  obtain ⟨h1, h2, h3⟩ := h
  have h4 := Array.all_eq_true'.mp h1
  have h5 := Array.all_eq_true'.mp h3
  refine ⟨fun c hc => ?_, fun e => ?_⟩
  · have m : c ∈ x.cps := Array.mem_toList_iff.mp hc
    have a := of_decide_eq_true (h4 c m)
    have b := h5 c m
    rw [digit128 c a, Bool.and_eq_true, decide_eq_true_iff, decide_eq_true_iff] at b
    exact b
  · rw [TL.len_tl, e] at h2
    exact absurd h2 (by decide)
theorem digits_isNum {x : Str} (h : NumText.AllDigits (TL.tl x)) (h0 : TL.tl x ≠ []) : isNum x = true := by
  unfold isNum Txt.isascii Txt.isdigit
  rw [Bool.and_eq_true, Bool.and_eq_true, decide_eq_true_iff]
  have r : ∀ c ∈ x.cps, 48 ≤ c ∧ c ≤ 57 := fun c hc => h c (Array.mem_toList_iff.mpr hc)
  refine ⟨Array.all_eq_true'.mpr fun c hc => decide_eq_true (by have := r c hc; omega), ?_, Array.all_eq_true'.mpr fun c hc => ?_⟩
  · rw [TL.len_tl]
    exact List.length_pos_iff.mpr h0
  · have := r c hc
    rw [digit128 c (by omega), decide_eq_true (by omega), decide_eq_true (by omega)]
    rfl
/-- what read_count tells -/
def rdC (x : Str) : Int := if isNum x = true ∧ x.length ≤ 2 then (if x.length = 2 ∧ (TL.tl x).head? = some 48 then -1 else (NumText.digitsVal (TL.tl x) : Int)) else -1
theorem rdC_num {n : Nat} (h : n < 100) : rdC (nT n) = n := by
  have ht : TL.tl (nT n) = TL.numL n := TL.tl_num n
  have hl : (nT n).length ≤ 2 := by
    rw [TL.len_tl, ht]
    exact TL.numL_len (by decide) (by omega)
  unfold rdC
  rw [if_pos ⟨digits_isNum (by rw [ht]; exact TL.numL_digits n) (by rw [ht]; exact TL.numL_ne n), hl⟩, ht, TL.numL_val]
  refine if_neg fun z => ?_
  obtain ⟨z1, z2⟩ := z
  by_cases h10 : n < 10
  · rw [TL.len_tl, ht, TL.numL_lt h10] at z1
    exact absurd (show 1 = 2 from z1) (by decide)
  · rw [TL.numL_step (by omega), TL.numL_lt (by omega)] at z2
    have z3 : 48 + n / 10 = 48 := Option.some.inj z2
    omega
def isNumeral (x : Str) : Bool := isNum x && (decide (x = "0") || !decide ((TL.tl x).head? = some 48))
theorem numeral_num {x : Str} (h : isNumeral x = true) : isNum x = true := by
  unfold isNumeral at h
  rw [Bool.and_eq_true] at h
  exact h.1
theorem rdC_no {x : Str} (h : isNumeral x = false) : rdC x = -1 := by
  unfold rdC
  by_cases c : isNum x = true ∧ x.length ≤ 2
  · rw [if_pos c]
    unfold isNumeral at h
    rw [c.1, Bool.true_and, Bool.or_eq_false_iff, decide_eq_false_iff_not, Bool.not_eq_false', decide_eq_true_iff] at h
    refine if_pos ⟨?_, h.2⟩
    obtain ⟨h1, h2⟩ := h
    have hl : x.length ≠ 1 := fun z => h1 (TL.ext_tl (by
      rw [TL.len_tl] at z
      match e : TL.tl x, z, h2 with
      | [a], _, h2 => 
        obtain rfl := Option.some.inj h2
        rfl))
    have hz : x.length ≠ 0 := fun z => by
      rw [TL.len_tl] at z
      rw [List.eq_nil_of_length_eq_zero z] at h2
      cases h2
    omega
  · exact if_neg c
theorem rdC_yes {x : Str} (h : isNumeral x = true) (hl : x.length ≤ 2) : rdC x = (NumText.digitsVal (TL.tl x) : Int) := by
  unfold rdC
  rw [if_pos ⟨numeral_num h, hl⟩]
  refine if_neg fun z => ?_
  unfold isNumeral at h
  rw [numeral_num h, Bool.true_and, Bool.or_eq_true, decide_eq_true_iff] at h
  rcases h with rfl | h
  · exact absurd z.1 (by decide)
  · rw [decide_eq_true z.2] at h
    cases h
def spNumeral : Sp := fun vs H Q _ => ∃ x : Str, vs = [.str x] ∧ x.length ≤ sizeLine ∧ Q (.bl (isNumeral x)) H
def spCount : Sp := fun vs H Q _ => ∃ x : Str, vs = [.str x] ∧ x.length ≤ sizeLine ∧ Q (.int (rdC x)) H
end GD
namespace K01
open PySem PySem.Spec PyProof.Rows L2 GD
abbrev pGrown : Stmt := top 25
abbrev pRemade : Stmt := top 26
abbrev pIsFull : Stmt := top 27
abbrev pFactLine : Stmt := top 28
abbrev pCountsText : Stmt := top 29
abbrev pReadJobs : Stmt := top 30
abbrev pReadManners : Stmt := top 31
abbrev pReadFacts : Stmt := top 32
abbrev pReadFact : Stmt := top 33
abbrev pReadStn : Stmt := top 34
abbrev pReadCount : Stmt := top 35
abbrev pIsNumeral : Stmt := top 15
section
variable {P : Program} {w : World} {K : PySem.W.Frag} {mg : Str → Option Value} {base : Heap}
structure Reads1 (mg : Str → Option Value) : Prop where
  f : Forms1 mg
  no : ∃ u, mg "NO_COUNT" = some u ∧ RelV (.int (-1)) u
  rng : mg "range" = none
theorem scRn : FnScope ["text"] ["text"] (defScope pIsNumeral) := ⟨rfl, rfl, rfl, by decide +kernel, rfl, by decide +kernel, by decide +kernel⟩
theorem ok_isnumeral {f : Addr} {fd : FuncData} (F : Fun K "is_numeral" "is_numeral" pIsNumeral f fd) : FnOk P w K mg base CX0 1 f fd ["text"] spNumeral := by
  refine F.ok scRn (fun vs H Q E h => ?_) (fun cdv A outer s H vs Q E hr h => ?_)
  · obtain ⟨x, rfl, _⟩ := h
    rfl
  · obtain ⟨x, rfl, hx, q⟩ := h
    refine ⟨_, pss_one (ps_ret (pe_and (pe_bm0 PySem.F.plainAttrs_str PySem.F.slot_str_isascii PySem.F.type_str_isascii mt_isascii (pv 0))
      (pe_and (pe_bm0 PySem.F.plainAttrs_str PySem.F.slot_str_isdigit PySem.F.type_str_isdigit mt_isdigit (pv 0))
        (pe_one (pe_or (pe_cmpR op_eq (pv 0) pe_str (nomark _)) (pe_one (pe_cmpR op_ne (pe_ix ix_str (pv 0) pe_int (fun _ _ => rfl)) pe_str (nomark _)))))))), ?_⟩
    refine ⟨_, rfl, rfl, x, rfl, rfl, True.intro, _, rfl, ?_⟩
    unfold isNumeral isNum at q
    cases ha : Txt.isascii x with
    | false =>
      refine iteF ?_
      rw [ha] at q
      exact q
    | true =>
      refine iteT ⟨_, rfl, rfl, x, rfl, rfl, True.intro, _, rfl, ?_⟩
      cases hd : Txt.isdigit x with
      | false =>
        refine iteF ?_
        rw [ha, hd] at q
        exact q
      | true =>
        rw [ha, hd] at q
        have hn : isNum x = true := by rw [isNum, ha, hd]; rfl
        obtain ⟨dg, ne⟩ := isNum_digits hn
        refine iteT ⟨_, rfl, rfl, _, rfl, ?_⟩
        by_cases h0 : V.str x = V.str "0"
        · rw [decide_eq_true h0]
          refine iteT ?_
          rw [decide_eq_true (V.str.inj h0)] at q
          exact q
        · rw [decide_eq_false h0]
          refine iteF ?_
          rw [decide_eq_false (fun z => h0 (congrArg V.str z))] at q
          have hc : ∃ c r, TL.tl x = c :: r := by
            cases e : TL.tl x with
            | nil => exact absurd e ne
            | cons c r => exact ⟨c, r, rfl⟩
          obtain ⟨c, r, ec⟩ := hc
          refine ⟨_, rfl, x, 0, c, rfl, rfl, hx, ?_, rfl, ?_⟩
          · show atI (TL.tl x) 0 = some c
            rw [ec]
            exact atI_nat (j := 0) rfl
          rw [ec] at q
          have e2 : (!decide (V.str ⟨#[c]⟩ = V.str "0")) = !decide ((c :: r).head? = some 48) := by
            by_cases hc : c = 48
            · rw [hc]
              rfl
            · rw [decide_eq_false (show ¬ V.str ⟨#[c]⟩ = V.str "0" from fun z => hc (by
                have z2 := congrArg TL.tl (V.str.inj z)
                exact (List.cons.inj z2).1)), decide_eq_false (show ¬ (c :: r).head? = some 48 from fun z => hc (Option.some.inj z))]
          show Q (.bl _) H
          rw [e2]
          exact q
/-- read_count, and is_numeral that it calls -/
structure AtC (K : PySem.W.Frag) (mg : Str → Option Value) (f : Addr) (fd : FuncData) : Prop extends At K mg "read_count" pReadCount ["word"] f fd where
  num : ∃ fU fdU, At K mg "is_numeral" pIsNumeral ["text"] fU fdU
theorem scR0 : FnScope ["word"] ["word"] (defScope pReadCount) := ⟨rfl, rfl, rfl, by decide +kernel, rfl, by decide +kernel, by decide +kernel⟩
theorem ok_rdcount {f : Addr} {fd : FuncData} (AC : AtC K mg f fd) (S : Reads1 mg) : FnOk P w K mg base CX0 2 f fd ["word"] spCount := by
  obtain ⟨fU, fdU, AU⟩ := AC.num
  have GU : FnOk P w K mg base CX0 1 fU fdU ["text"] spNumeral := ok_isnumeral AU.F
  refine AC.F.ok scR0 (fun vs H Q E h => ?_) (fun cdv A outer s H vs Q E hr h => ?_)
  · obtain ⟨x, rfl, _⟩ := h
    rfl
  · obtain ⟨x, rfl, hx, q⟩ := h
    obtain ⟨um, gm, rm⟩ := S.no
    refine ⟨_, pss_cons (ps_if (pw_or (pt_not (pt_val (pe_call GU hr (by rfl) AU.g AU.F.kp AU.b .nil pass0 (pa_cons (pv 0) pa_nil))))
          (pw_or1 (pt_cmpR op_gt (pe_callB call_len_str (by rfl) S.f.len PySem.boot_len (pa_cons (pv 0) pa_nil)) pe_int (nomark _)))).pt (pss_one (ps_ret (pe_glob (by rfl) gm rm))) pss_nil)
      (pss_one (ps_ret (pe_callTy call_int_str (by rfl) S.f.int (by decide +kernel) (pa_cons (pv 0) pa_nil)))), ?_⟩
    refine ⟨_, rfl, x, rfl, hx, _, rfl, ?_⟩
    cases hn : isNumeral x with
    | false =>
      refine iteT ?_
      rw [rdC_no hn] at q
      exact q
    | true =>
      obtain ⟨dg, ne⟩ := isNum_digits (numeral_num hn)
      refine iteF ⟨_, rfl, x, rfl, hx, _, _, rfl, rfl, _, rfl, ?_⟩
      by_cases hl : (2 : Int) < (x.length : Int)
      · rw [decide_eq_true hl]
        refine iteT ?_
        rw [rdC, if_neg (fun z => by omega)] at q
        exact q
      · rw [decide_eq_false hl]
        refine iteF ?_
        refine ⟨_, rfl, x, _, rfl, intText_digits dg ne (by omega), by omega, ?_⟩
        rw [rdC_yes hn (by omega)] at q
        exact q
end
end K01
namespace GD
open PySem PySem.Spec PyProof.Rows L2
/-- two by two -/
def prs : List Int → Stn
  | a :: b :: r => (a, b) :: prs r
  | _ => []
theorem prs_len : ∀ l : List Int, (prs l).length = l.length / 2
  | [] => rfl
  | [_] => by simp [prs]
  | a :: b :: r => by
    rw [prs, List.length_cons, prs_len r, List.length_cons, List.length_cons]
    omega
theorem prs_get : ∀ (l : List Int) (i : Nat) (x y : Int), l[2 * i]? = some x → l[2 * i + 1]? = some y → (prs l)[i]? = some (x, y)
  | [], i, x, y, h, _ => by simp at h
  | [a], i, x, y, _, h => by simp at h
  | a :: b :: r, 0, x, y, h1, h2 => by
    simp at h1 h2
    subst h1
    subst h2
    rfl
  | a :: b :: r, i + 1, x, y, h1, h2 => by
    rw [prs, List.getElem?_cons_succ]
    refine prs_get r i x y ?_ ?_
    · rw [← h1, show 2 * (i + 1) = 2 * i + 1 + 1 by omega, List.getElem?_cons_succ, List.getElem?_cons_succ]
    · rw [← h2, show 2 * (i + 1) + 1 = 2 * i + 1 + 1 + 1 by omega, List.getElem?_cons_succ, List.getElem?_cons_succ]
theorem rng_two {L : Nat} (h : L ≤ 100000) : RgC 0 ((L : Int) - 1) 2 (L / 2) := by
  have e : Builtin.Range.rangeSize 0 ((L : Int) - 1) 2 = ((L / 2 : Nat) : Int) := by
    unfold Builtin.Range.rangeSize
    rw [if_pos (by decide)]
    split <;> omega
  refine ⟨by decide, by decide, ?_, e⟩
  unfold Builtin.Range.small
  rw [e]
  simp only [Builtin.Range.rangeFitsLong, Bool.and_eq_true, Bool.or_eq_true, decide_eq_true_eq, beq_iff_eq]
  refine ⟨by omega, .inr ?_⟩
  rw [if_pos (by decide), Bool.and_eq_true, decide_eq_true_iff, decide_eq_true_iff]
  omega
def spRdStn : Sp := fun vs H Q _ => ∃ (l : Addr) (ws : List Str), vs = [.ref l] ∧ H l = some (.lst (ws.map V.str)) ∧ ws.length ≤ 1000 ∧ (∀ x ∈ ws, x.length ≤ sizeLine) ∧ ∀ v H', Same H H' → Fz H' v (eS (prs (ws.map rdC))) → Q v H'
end GD

namespace K01
open PySem PySem.Spec PyProof.Rows L2 GD
section
variable {P : Program} {w : World} {K : PySem.W.Frag} {mg : Str → Option Value} {base : Heap}
abbrev NRs : List Str := ["words", "counts", "word", "at"]
theorem scR1 : FnScope NRs ["words"] (defScope pReadStn) := ⟨rfl, rfl, rfl, by decide +kernel, rfl, by decide +kernel, by decide +kernel⟩
theorem ok_rdstn {f fC : Addr} {fd fdC : FuncData} (F : Fun K "read_standing" "read_standing" pReadStn f fd) (S : Reads1 mg) (AC : AtC K mg fC fdC) : FnOk P w K mg base CX0 3 f fd ["words"] spRdStn := by
  have GC : FnOk P w K mg base CX0 2 fC fdC ["word"] spCount := ok_rdcount AC S
  refine F.ok scR1 (fun vs H Q E h => ?_) (fun cdv A outer s H vs Q E hr h => ?_)
  · obtain ⟨l, ws, rfl, _⟩ := h
    rfl
  · obtain ⟨l, ws, rfl, hl, hw, hwl, q⟩ := h
    refine ⟨_, pss_cons (ps_set (i := 1) scR1.nd rfl (.inr rfl) (pe_lc (own := [("word", 2)]) (g := gName 2) (tt := tYes) rfl scR1.nd (pi_list (pv 0)) (blkOk_by (N := NRs) (sc := defScope pReadStn) (by decide +kernel))
        (fun _ _ _ _ _ => pg_name (i := 2) scR1.nd rfl (.inl rfl)) (fun _ _ _ _ _ => pts_nil) (fun _ _ _ _ _ => pe_call GC hr rfl AC.g AC.F.kp AC.b .nil pass0 (pa_cons (pv 2) pa_nil))))
      (pss_one (ps_ret (pe_callTy call_tuple_of (by rfl) S.f.tup (by decide +kernel) (pa_cons (pe_lc (own := [("at", 3)]) (g := gName 3) (tt := tYes) rfl scR1.nd
        (pi_range3 (by rfl) S.rng (pa_cons pe_int (pa_cons (pe_op op_sub (pe_callB call_len_seq (by rfl) S.f.len PySem.boot_len (pa_cons (pv 1) pa_nil)) pe_int) (pa_cons pe_int pa_nil)))) (blkOk_by (N := NRs) (sc := defScope pReadStn) (by decide +kernel))
        (fun _ _ _ _ _ => pg_name (i := 3) scR1.nd rfl (.inl rfl)) (fun _ _ _ _ _ => pts_nil) (fun _ _ _ _ _ => pe_tup (pa_cons (pe_ix (r := rIxL K) ix_list (pv 1) (pv 3) (fun _ _ => rfl)) (pa_cons (pe_ix (r := rIxL K) ix_list (pv 1) (pe_op op_add (pv 3) pe_int) (fun _ _ => rfl)) pa_nil)))) pa_nil)))), ?_⟩
    refine ⟨_, rfl, l, rfl, ⟨_, SqL.of hl⟩, fun D hD => ?_⟩
    refine lc_list (K := K) (a := l) (xs := ws.map V.str) (fun i H' => Same H H' ∧ H' D = some (.lst (((ws.take i).map rdC).map V.int))) ⟨same_new hD, upd_same⟩ (fun i H' _ ⟨s1, _⟩ => SqL.of (s1 _ _ hl)) ?_ ?_
    · rintro i x H' hx ⟨s1, eD⟩
      rw [List.getElem?_map] at hx
      cases c : ws[i]? with
      | none =>
        rw [c] at hx
        cases hx
      | some y =>
        rw [c] at hx
        obtain rfl : V.str y = x := Option.some.inj hx
        have hi : i < ws.length := (List.getElem?_eq_some_iff.mp c).1
        refine ⟨rfl, _, rfl, y, rfl, hwl y (List.mem_of_getElem? c), ?_⟩
        refine ⟨_, eD, ?_, same_upd s1 hD, ?_⟩
        · rw [List.length_map, List.length_map, List.length_take]
          exact Nat.lt_of_le_of_lt (Nat.min_le_left _ _) (Nat.lt_of_lt_of_le (show i < 1001 by omega) (by decide))
        · rw [upd_same, take_next c, List.map_append, List.map_append]
          rfl
    · rintro H1 ⟨s1, eD⟩
      rw [List.length_map, List.take_length] at eD
      have lc : ((ws.map rdC).map V.int).length = ws.length := by rw [List.length_map, List.length_map]
      refine ⟨_, rfl, D, _, rfl, .inl (SqL.of eD), _, _, rfl, rfl, ?_⟩
      rw [lc]
      refine ⟨_, _, _, ws.length / 2, rfl, rng_two (by omega), fun D2 hD2 => ?_⟩
      refine lc_it (walk_rangeC (lo := 0) (c := 2) (n := ws.length / 2)) (fun i H' => Same H1 H' ∧ ∃ acc, H' D2 = some (.lst acc) ∧ FzAll H' acc (((prs (ws.map rdC)).take i).map eP)) ⟨same_new hD2, [], upd_same, .nil⟩ (fun _ _ _ _ => True.intro) ?_ ?_
      · rintro i x Hx H' hi ⟨s2, acc, eA, fA⟩ ⟨rfl, rfl⟩
        have b1 : 2 * i < ws.length := by omega
        have b2 : 2 * i + 1 < ws.length := by omega
        have g1 : (ws.map rdC)[2 * i]? = some (rdC ws[2 * i]) := by rw [List.getElem?_map, List.getElem?_eq_getElem b1]; rfl
        have g2 : (ws.map rdC)[2 * i + 1]? = some (rdC ws[2 * i + 1]) := by rw [List.getElem?_map, List.getElem?_eq_getElem b2]; rfl
        have a1 : atI ((ws.map rdC).map V.int) (0 + ((i : Nat) : Int) * 2) = some (.int (rdC ws[2 * i])) := by
          rw [show (0 + ((i : Nat) : Int) * 2) = ((2 * i : Nat) : Int) by omega]
          exact atI_nat (by rw [List.getElem?_map, g1]; rfl)
        have a2 : atI ((ws.map rdC).map V.int) (0 + ((i : Nat) : Int) * 2 + 1) = some (.int (rdC ws[2 * i + 1])) := by
          rw [show (0 + ((i : Nat) : Int) * 2 + 1) = ((2 * i + 1 : Nat) : Int) by omega]
          exact atI_nat (by rw [List.getElem?_map, g2]; rfl)
        refine ⟨rfl, _, rfl, _, rfl, D, _, _, _, rfl, rfl, SqL.of (s2 _ _ eD), a1, _, rfl, _, rfl, _, _, rfl, rfl, D, _, _, _, rfl, rfl, SqL.of (s2 _ _ eD), a2, ?_⟩
        refine ⟨(by show 2 ≤ sizeLine; decide), fun t ht => ?_⟩
        have st := same_new (o := .tup [.int (rdC ws[2 * i]), .int (rdC ws[2 * i + 1])]) ht
        have la : acc.length ≤ 1000 := by
          rw [fA.len, List.length_map, List.length_take]
          exact Nat.le_trans (Nat.min_le_left _ _) (by omega)
        refine ⟨acc, st _ _ eA, Nat.lt_of_lt_of_le (show acc.length < 1001 by omega) (by decide), same_upd (s2.trans st) hD2, acc ++ [.ref t], upd_same, FzAll.mv (tups_lst (st _ _ eA)) ?_⟩
        rw [take_next (prs_get _ _ _ _ g1 g2), List.map_append]
        exact (fA.same st).snoc (.tup upd_same (.cons (.int _) (.cons (.int _) .nil)))
      · rintro H' ⟨s2, acc, eA, fA⟩
        rw [List.take_of_length_le (by rw [prs_len, List.length_map]; exact Nat.le_refl _)] at fA
        refine ⟨D2, _, rfl, .inl ⟨SqL.of eA, fun t ht => ?_⟩⟩
        have st := same_new (o := .tup acc) ht
        exact q _ _ ((s1.trans s2).trans st) (.tup upd_same (fA.same st))
end
end K01
namespace GD
open PySem PySem.Spec PyProof.Rows L2
theorem drop_min {α : Type} (l : List α) (a : Nat) : l.drop (min a l.length) = l.drop a := by
  by_cases h : a ≤ l.length
  · rw [Nat.min_eq_left h]
  · rw [Nat.min_eq_right (by omega), List.drop_length, List.drop_eq_nil_of_le (by omega)]
theorem cut_strs (ws : List Str) (a b : Nat) : cutV (ws.map V.str) (some (a : Int)) (some (b : Int)) = (((ws.drop a).take (b - a)).map V.str) := by
  unfold cutV
  rw [HT.sIx_nat, HT.sIx_nat, drop_min, List.map_take, List.map_drop, List.length_map]
  by_cases h : a ≤ ws.length
  · rw [Nat.min_eq_left h]
    by_cases hb : b ≤ ws.length
    · rw [Nat.min_eq_left hb]
    · rw [Nat.min_eq_right (by omega), List.take_of_length_le (by rw [List.length_drop, List.length_map]; exact Nat.le_refl _), List.take_of_length_le (by rw [List.length_drop, List.length_map]; omega)]
  · rw [List.drop_eq_nil_of_le (show (ws.map V.str).length ≤ a by rw [List.length_map]; omega), List.take_nil, List.take_nil]
theorem cut_strs_end (ws : List Str) (a : Nat) : cutV (ws.map V.str) (some (a : Int)) none = ((ws.drop a).map V.str) := by
  unfold cutV
  rw [HT.sIx_nat, HT.sIx_none, drop_min, List.map_drop, List.take_of_length_le]
  rw [List.length_drop]
  by_cases h : a ≤ (ws.map V.str).length
  · rw [Nat.min_eq_left h]
    exact Nat.le_refl _
  · omega
theorem at_str {ws : List Str} {j : Nat} {x : Str} (h : ws[j]? = some x) : atI (ws.map V.str) (j : Int) = some (.str x) := atI_nat (by rw [List.getElem?_map, h]; rfl)
/-- what read_fact tells -/
def rdF (k : Nat) (ws : List Str) : PyData :=
  if ws.length = 1 + 2 * k then .tuple [.str (ws.headD ""), eS (prs (((ws.drop 1).take (2 * k)).map rdC))]
  else if ws.length = 2 * (1 + 2 * k) ∧ ws[1 + 2 * k]? = some ("to" : Str) then .tuple [.str (ws.headD ""), eS (prs (((ws.drop 1).take (2 * k)).map rdC)), eS (prs ((ws.drop (1 + 2 * k + 1)).map rdC))]
  else .none
def spRdF : Sp := fun vs H Q _ => ∃ (l : Addr) (ws : List Str) (k : Nat), vs = [.ref l, .int k] ∧ H l = some (.lst (ws.map V.str)) ∧ ws.length ≤ 1000 ∧ k ≤ 100 ∧ (∀ x ∈ ws, x.length ≤ sizeLine) ∧ ∀ v H', Same H H' → Fz H' v (rdF k ws) → Q v H'
end GD
namespace K01
open PySem PySem.Spec PyProof.Rows L2 GD
section
variable {P : Program} {w : World} {K : PySem.W.Frag} {mg : Str → Option Value} {base : Heap}
abbrev NRf : List Str := ["words", "many", "middle", "here"]
theorem scR2 : FnScope NRf ["words", "many"] (defScope pReadFact) := ⟨rfl, rfl, rfl, by decide +kernel, rfl, by decide +kernel, by decide +kernel⟩
theorem ok_rdfact {f fC fN : Addr} {fd fdC fdN : FuncData} (F : Fun K "read_fact" "read_fact" pReadFact f fd) (S : Reads1 mg) (AC : AtC K mg fC fdC) (AN : At K mg "read_standing" pReadStn ["words"] fN fdN) : FnOk P w K mg base CX0 4 f fd ["words", "many"] spRdF := by
  have GN : FnOk P w K mg base CX0 3 fN fdN ["words"] spRdStn := ok_rdstn AN.F S AC
  refine F.ok scR2 (fun vs H Q E h => ?_) (fun cdv A outer s H vs Q E hr h => ?_)
  · obtain ⟨l, ws, k, rfl, _⟩ := h
    rfl
  · obtain ⟨l, ws, k, rfl, hl, hw, hk, hwl, q⟩ := h
    refine ⟨_, pss_cons (ps_set (i := 2) scR2.nd rfl (.inl rfl) (pe_op op_add pe_int (pe_op op_mul pe_int (pv 1))))
      (pss_cons (ps_set (i := 3) scR2.nd rfl (.inl rfl) (pe_call GN hr rfl AN.g AN.F.kp AN.b .nil pass0 (pa_cons (pe_slice sl_list (pv 0) (po_some pe_int) (po_some (pv 2))) pa_nil)))
      (pss_cons (ps_if (pt_cmpR op_eq (pe_callB call_len_seq (by rfl) S.f.len PySem.boot_len (pa_cons (pv 0) pa_nil)) (pv 2) (nomark _)) (pss_one (ps_ret (pe_tup (pa_cons (pe_ix ix_list (pv 0) pe_int (fun _ _ => rfl)) (pa_cons (pv 3) pa_nil))))) pss_nil)
      (pss_cons (ps_if (pw_and (pt_cmpR op_eq (pe_callB call_len_seq (by rfl) S.f.len PySem.boot_len (pa_cons (pv 0) pa_nil)) (pe_op op_mul pe_int (pv 2)) (nomark _)) (pw_and1 (pt_cmpR op_eq (pe_ix ix_list (pv 0) (pv 2) (fun _ _ => rfl)) pe_str (nomark _)))).pt
        (pss_one (ps_ret (pe_tup (pa_cons (pe_ix ix_list (pv 0) pe_int (fun _ _ => rfl)) (pa_cons (pv 3) (pa_cons (pe_call GN hr rfl AN.g AN.F.kp AN.b .nil pass0 (pa_cons (pe_slice sl_list (pv 0) (po_some (pe_op op_add (pv 2) pe_int)) po_none) pa_nil)) pa_nil)))))) pss_nil)
      (pss_one (ps_ret pe_non))))), ?_⟩
    refine ⟨_, rfl, _, _, rfl, rfl, .inl ⟨by decide, by decide⟩, _, _, rfl, rfl, ?_⟩
    have em : (1 + 2 * (k : Int)) = ((1 + 2 * k : Nat) : Int) := by omega
    show tSeq _ _ _ ([some (.ref l), some (.int k), some (.int (1 + 2 * (k : Int))), none] : L2.St) _
    rw [em]
    generalize hm : 1 + 2 * k = m
    refine ⟨_, rfl, _, rfl, _, rfl, _, rfl, l, _, rfl, SqL.of hl, fun p hp => ?_⟩
    have sp := same_new (o := .lst (cutV (ws.map V.str) (some 1) (some (m : Int)))) hp
    have ep : (upd H p (.lst (cutV (ws.map V.str) (some 1) (some (m : Int))))) p = some (.lst (((ws.drop 1).take (2 * k)).map V.str)) := by
      rw [upd_same, show (some (1 : Int)) = some ((1 : Nat) : Int) from rfl, cut_strs, ← hm, Nat.add_sub_cancel_left]
    generalize upd H p (.lst (cutV (ws.map V.str) (some 1) (some (m : Int)))) = H1 at sp ep ⊢
    refine ⟨p, _, rfl, ep, ?_, ?_, fun v1 H2 s2 f1 => ?_⟩
    · rw [List.length_take]
      exact Nat.le_trans (Nat.min_le_left _ _) (by omega)
    · exact fun x hx => hwl x (List.mem_of_mem_drop (List.mem_of_mem_take hx))
    have s02 := sp.trans s2
    have el := s02 _ _ hl
    have lw : (ws.map V.str).length = ws.length := List.length_map ..
    refine ⟨_, rfl, l, _, rfl, .inl (SqL.of el), _, rfl, rfl, _, rfl, ?_⟩
    by_cases h1 : ws.length = m
    · rw [decide_eq_true (show V.int ((ws.map V.str).length : Int) = V.int (m : Int) by rw [lw, h1])]
      refine iteT ?_
      cases ws with
      | nil => exact absurd h1 (by show ¬ 0 = m; omega)
      | cons w0 r =>
        refine ⟨_, rfl, l, _, 0, _, rfl, rfl, SqL.of el, at0, _, rfl, (by show 2 ≤ sizeLine; decide), fun t ht => ?_⟩
        have st := same_new (o := .tup [.str w0, v1]) ht
        refine q _ _ (s02.trans st) ?_
        rw [rdF, if_pos (by omega)]
        exact .tup upd_same (.cons (.str _) (.cons (f1.same st) .nil))
    · rw [decide_eq_false (show ¬ V.int ((ws.map V.str).length : Int) = V.int (m : Int) from fun z => h1 (by rw [← lw]; exact Int.ofNat_inj.mp (V.int.inj z)))]
      refine iteF ?_
      have none_ : ¬ (ws.length = 2 * m ∧ ws[m]? = some ("to" : Str)) → Q .non H2 := fun z => q _ _ s02 (by
        rw [rdF, if_neg (by omega), hm, if_neg z]
        exact .non)
      refine ⟨_, rfl, l, _, rfl, .inl (SqL.of el), _, rfl, _, _, rfl, rfl, .inl ⟨by decide, by decide⟩, rfl, _, rfl, ?_⟩
      by_cases h2 : ws.length = 2 * m
      · rw [decide_eq_true (show V.int ((ws.map V.str).length : Int) = V.int (2 * (m : Int)) by rw [lw, h2]; congr 1)]
        refine iteT ?_
        have hlt : m < ws.length := by omega
        have ga : ws[m]? = some ws[m] := List.getElem?_eq_getElem hlt
        refine ⟨_, rfl, _, rfl, l, _, _, _, rfl, rfl, SqL.of el, at_str ga, rfl, _, rfl, ?_⟩
        by_cases h3 : ws[m] = ("to" : Str)
        · rw [decide_eq_true (show V.str ws[m] = V.str "to" by rw [h3])]
          refine iteT ?_
          have hfin : ∀ v2 H3, Same H2 H3 → Fz H3 v2 (eS (prs ((ws.drop (m + 1)).map rdC))) → ∀ w0 r, ws = w0 :: r → ∀ t, H3 t = none → Q (.ref t) (upd H3 t (.tup [.str w0, v1, v2])) := fun v2 H3 s3 f2 w0 r ew t ht => by
            have st := same_new (o := .tup [.str w0, v1, v2]) ht
            refine q _ _ ((s02.trans s3).trans st) ?_
            rw [rdF, if_neg (by omega), hm, if_pos ⟨h2, by rw [ga, h3]⟩]
            refine .tup upd_same (.cons ?_ (.cons ((f1.same s3).same st) (.cons (f2.same st) .nil)))
            rw [ew]
            exact .str _
          have hw0 : ∃ w0 r, ws = w0 :: r := by
            cases e : ws with
            | nil =>
              rw [e] at hlt
              exact absurd hlt (by show ¬ m < 0; omega)
            | cons w0 r => exact ⟨w0, r, rfl⟩
          obtain ⟨w0, r, ew⟩ := hw0
          have a0 : atI (ws.map V.str) 0 = some (.str w0) := by
            rw [ew]
            exact at0
          refine ⟨_, rfl, l, _, 0, _, rfl, rfl, SqL.of el, a0, _, rfl, _, rfl, _, rfl, _, _, rfl, rfl, _, rfl, ?_⟩
          dsimp only [tNoPart]
          refine ⟨l, _, rfl, SqL.of el, fun p2 hp2 => ?_⟩
          have em1 : ((m : Int) + 1) = ((m + 1 : Nat) : Int) := by omega
          rw [em1, cut_strs_end]
          have sp2 := same_new (o := .lst ((ws.drop (m + 1)).map V.str)) hp2
          refine ⟨p2, _, rfl, upd_same, ?_, fun x hx => hwl x (List.mem_of_mem_drop hx), fun v2 H3 s3 f2 => ?_⟩
          · rw [List.length_drop]
            omega
          · exact ⟨(by show 3 ≤ sizeLine; decide), fun t ht => hfin v2 H3 (sp2.trans s3) f2 w0 r ew t ht⟩
        · rw [decide_eq_false (show ¬ V.str ws[m] = V.str "to" from fun z => h3 (V.str.inj z))]
          refine iteF ?_
          exact none_ fun z => h3 (by rw [ga] at z; exact Option.some.inj z.2)
      · rw [decide_eq_false (show ¬ V.int ((ws.map V.str).length : Int) = V.int (2 * (m : Int)) from fun z => h2 (by rw [lw] at z; have := V.int.inj z; omega))]
        refine iteF (iteF ?_)
        exact none_ fun z => h2 z.1
end
end K01
namespace GD
open PySem PySem.Spec PyProof.Rows L2
/-- a list or a tuple, walked -/
def iSeq (K : PySem.W.Frag) (t : TE) : TI := fun σ H R => iList K t σ H R ∨ iTup K t σ H R
theorem pi_seq {X : Cx} {tg l : Expr} {t : TE} (h : PE X l t) : PI X tg l (iSeq X.K t) := ⟨fun pins s σ H R I q => q.elim (fun q => (pi_list h).run pins s σ H R I q) fun q => (pi_tup h).run pins s σ H R I q⟩
/-- a list or a tuple of frozen data -/
def SqAt (H : Hp) (l : Addr) (ds : List PyData) : Prop := ∃ xs, (H l = some (.lst xs) ∨ H l = some (.tup xs)) ∧ FzAll H xs ds
def lim (x : Str) : Nat := if x = ("let" : Str) then 24 else if x = ("not" : Str) then 6 else 4
def IsKind (x : Str) : Prop := x = ("let" : Str) ∨ x = ("not" : Str) ∨ x = ("as" : Str)
theorem kindS_is (f : Fact) : IsKind (kindS f) := by
  cases f
  · exact .inl rfl
  · exact .inr (.inl rfl)
  · exact .inr (.inr rfl)
def spFull : Sp := fun vs H Q _ => ∃ (l : Addr) (x : Str) (fs : List Fact), vs = [.ref l, .str x] ∧ SqAt H l (fs.map eF) ∧ fs.length ≤ 1000 ∧ IsKind x ∧ ∀ H', Same H H' → Q (.bl (decide (lim x ≤ cnt x fs))) H'
theorem cnt_take {x : Str} {fs : List Fact} {i : Nat} {f : Fact} (h : fs[i]? = some f) : cnt x (fs.take (i + 1)) = cnt x (fs.take i) + one3 f x := by rw [take_next h, cnt_snoc]
end GD
namespace K01
open PySem PySem.Spec PyProof.Rows L2 GD
section
variable {P : Program} {w : World} {K : PySem.W.Frag} {mg : Str → Option Value} {base : Heap}
/-- the table of bounds -/
def Told (K : PySem.W.Frag) (w : World) (mg : Str → Option Value) : Prop := ∃ p, mg "MOST_TOLD" = some (.ref p) ∧ ∀ x, IsKind x → KDct K w p x (.int (lim x))
abbrev NFu : List Str := ["facts", "kind", "fact"]
theorem scFu : FnScope NFu ["facts", "kind"] (defScope pIsFull) := ⟨rfl, rfl, rfl, by decide +kernel, rfl, by decide +kernel, by decide +kernel⟩
theorem ok_isfull {f : Addr} {fd : FuncData} (F : Fun K "is_full" "is_full" pIsFull f fd) (S : Forms1 mg) (T : Told K w mg) : FnOk P w K mg base CX0 1 f fd ["facts", "kind"] spFull := by
  refine F.ok scFu (fun vs H Q E h => ?_) (fun cdv A outer s H vs Q E hr h => ?_)
  · obtain ⟨l, x, fs, rfl, _⟩ := h
    rfl
  · obtain ⟨l, x, fs, rfl, ⟨xs, hl, fx⟩, h10, hk, q⟩ := h
    obtain ⟨tp, gt, dt⟩ := T
    refine ⟨_, pss_one (ps_ret (pe_cmpR op_ge (pe_callB call_len_seq (by rfl) S.len PySem.boot_len (pa_cons (pe_lc (own := [("fact", 2)]) (g := gName 2) rfl scFu.nd (pi_seq (pv 0)) (blkOk_by (N := NFu) (sc := defScope pIsFull) (by decide +kernel))
        (fun _ _ _ _ _ => pg_name (i := 2) scFu.nd rfl (.inl rfl)) (fun _ _ _ _ _ => pts_one (pt_cmpR op_eq (pe_ix (r := rIxT K) ix_tup (pv 2) pe_int (fun _ _ => rfl)) (pv 1) (nomark _))) (fun _ _ _ _ _ => pv 2)) pa_nil))
      (pe_ix (r := rIxD K w) ix_kdict (pe_glob (v := .ref tp) (by rfl) gt rfl) (pv 1) (fun _ _ => rfl)) (nomark _))), ?_⟩
    have lx : xs.length = fs.length := by rw [fx.len, List.length_map]
    have tu : ∀ {H' : Hp}, Same H H' → FzAll H' xs (fs.map eF) := fun s => fx.same s
    have body : ∀ (D : Addr), H D = none → ∀ (i : Nat) (v : V) (H' : Hp), xs[i]? = some v → (Same H H' ∧ ∃ acc, H' D = some (.lst acc) ∧ acc.length = cnt x (fs.take i)) →
        ∃ b r f, fs[i]? = some f ∧ v = .ref b ∧ H' b = some (.tup (.str (kindS f) :: r)) ∧ ∃ acc, H' D = some (.lst acc) ∧ acc.length < sizeLine ∧ (kindS f = x → Same H (upd H' D (.lst (acc ++ [v]))) ∧ (acc ++ [v]).length = cnt x (fs.take (i + 1))) ∧ (kindS f ≠ x → acc.length = cnt x (fs.take (i + 1))) := by
      rintro D D0 i v H' hv ⟨s1, acc, eA, la⟩
      obtain ⟨f0, hf0, fz⟩ := (tu s1).atM hv
      obtain ⟨b, r, rfl, hb⟩ := fz.fact
      have hi : i < fs.length := (List.getElem?_eq_some_iff.mp hf0).1
      have ct : cnt x (fs.take i) ≤ i := by
        unfold GD.cnt
        exact Nat.le_trans (List.length_filter_le _ _) (by rw [List.length_take]; exact Nat.min_le_left _ _)
      refine ⟨b, r, f0, hf0, rfl, hb, acc, eA, Nat.lt_of_lt_of_le (show acc.length < 1001 by omega) (by decide), fun e => ⟨same_upd s1 D0, ?_⟩, fun e => ?_⟩
      · rw [cnt_take hf0, List.length_append, la, one3, if_pos e]
        rfl
      · rw [cnt_take hf0, la, one3, if_neg e]
        rfl
    rcases hl with hl | hl
    · refine .inl ⟨_, rfl, l, rfl, ⟨_, SqL.of hl⟩, fun D hD => ?_⟩
      refine lc_it (walk_list (K := K) (a := l) (xs := xs)) (fun i H' => Same H H' ∧ ∃ acc, H' D = some (.lst acc) ∧ acc.length = GD.cnt x (fs.take i)) ⟨same_new hD, [], upd_same, rfl⟩ (fun i H' _ ⟨s1, _⟩ => SqL.of (s1 _ _ hl)) ?_ ?_
      · rintro i v Hx H' hi hP ⟨rfl, hv⟩
        obtain ⟨b, r, f0, hf0, rfl, hb, acc, eA, la, h1, h2⟩ := body D hD i v _ hv hP
        refine ⟨rfl, _, rfl, b, _, 0, _, rfl, rfl, SqT.of hb, at0, _, rfl, rfl, _, rfl, ?_⟩
        by_cases e : kindS f0 = x
        · rw [decide_eq_true (show V.str (kindS f0) = V.str x by rw [e])]
          refine iteT ⟨_, rfl, acc, eA, la, (h1 e).1, _, upd_same, (h1 e).2⟩
        · rw [decide_eq_false (show ¬ V.str (kindS f0) = V.str x from fun z => e (V.str.inj z))]
          exact iteF ⟨hP.1, acc, eA, h2 e⟩
      · rintro H' ⟨s1, acc, eA, la⟩
        rw [lx, List.take_length] at la
        refine ⟨D, acc, rfl, .inl (SqL.of eA), _, rfl, tp, x, _, rfl, rfl, dt x hk, _, _, rfl, rfl, ?_⟩
        have z := q H' s1
        rw [← la, show decide (lim x ≤ acc.length) = (decide (((lim x : Nat) : Int) ≤ (acc.length : Int))) from decide_eq_decide.mpr (by omega)] at z
        exact z
    · refine .inr ⟨_, rfl, l, rfl, ⟨_, SqT.of hl⟩, fun D hD => ?_⟩
      refine lc_it (walk_tup (K := K) (a := l) (xs := xs)) (fun i H' => Same H H' ∧ ∃ acc, H' D = some (.lst acc) ∧ acc.length = GD.cnt x (fs.take i)) ⟨same_new hD, [], upd_same, rfl⟩ (fun i H' _ ⟨s1, _⟩ => SqT.of (s1 _ _ hl)) ?_ ?_
      · rintro i v Hx H' hi hP ⟨rfl, hv⟩
        obtain ⟨b, r, f0, hf0, rfl, hb, acc, eA, la, h1, h2⟩ := body D hD i v _ hv hP
        refine ⟨rfl, _, rfl, b, _, 0, _, rfl, rfl, SqT.of hb, at0, _, rfl, rfl, _, rfl, ?_⟩
        by_cases e : kindS f0 = x
        · rw [decide_eq_true (show V.str (kindS f0) = V.str x by rw [e])]
          refine iteT ⟨_, rfl, acc, eA, la, (h1 e).1, _, upd_same, (h1 e).2⟩
        · rw [decide_eq_false (show ¬ V.str (kindS f0) = V.str x from fun z => e (V.str.inj z))]
          exact iteF ⟨hP.1, acc, eA, h2 e⟩
      · rintro H' ⟨s1, acc, eA, la⟩
        rw [lx, List.take_length] at la
        refine ⟨D, acc, rfl, .inl (SqL.of eA), _, rfl, tp, x, _, rfl, rfl, dt x hk, _, _, rfl, rfl, ?_⟩
        have z := q H' s1
        rw [← la, show decide (lim x ≤ acc.length) = (decide (((lim x : Nat) : Int) ≤ (acc.length : Int))) from decide_eq_decide.mpr (by omega)] at z
        exact z
end
end K01
namespace GD
open PySem PySem.Spec PyProof.Rows L2
/-! a line's words -/
theorem app_assoc (x y z : Str) : (x ++ y) ++ z = x ++ (y ++ z) := TL.ext_tl (by rw [TL.tl_append, TL.tl_append, TL.tl_append, TL.tl_append, List.append_assoc])
theorem join_cons {y x : Str} {zs : List Str} (h : zs ≠ []) : Txt.join y (x :: zs) = x ++ y ++ Txt.join y zs := by
  rw [TL.join_eq, TL.join_eq]
  cases zs with
  | nil => exact absurd rfl h
  | cons z r => rfl
theorem join_one {y x : Str} : Txt.join y [x] = x := by
  rw [TL.join_eq]
  rfl
theorem join_app {y : Str} : ∀ {as bs : List Str}, as ≠ [] → bs ≠ [] → Txt.join y (as ++ bs) = Txt.join y as ++ y ++ Txt.join y bs
  | [], _, h, _ => absurd rfl h
  | [a], bs, _, h => by rw [List.singleton_append, join_cons h, join_one]
  | a :: b :: r, bs, _, h => by
    rw [List.cons_append, join_cons (by simp), join_app (as := b :: r) (by simp) h, join_cons (zs := b :: r) (by simp)]
    simp only [app_assoc]
def wS (s : Stn) : List Str := s.flatMap fun p => [nT p.1, nT p.2]
theorem wS_cons (p : Int × Int) (s : Stn) : wS (p :: s) = nT p.1 :: nT p.2 :: wS s := rfl
theorem wS_len : ∀ s : Stn, (wS s).length = 2 * s.length
  | [] => rfl
  | p :: s => by
    rw [wS_cons, List.length_cons, List.length_cons, wS_len s, List.length_cons]
    omega
theorem wS_ne {s : Stn} (h : s ≠ []) : wS s ≠ [] := by
  cases s with
  | nil => exact absurd rfl h
  | cons p s => rw [wS_cons]; simp
theorem sT_words : ∀ {s : Stn}, s ≠ [] → sT s = Txt.join " " (wS s)
  | [], h => absurd rfl h
  | [p], _ => by
    rw [sT, List.map_singleton, join_one, wS_cons, join_cons (by simp)]
    show pT p = nT p.1 ++ " " ++ Txt.join " " [nT p.2]
    rw [join_one]
    rfl
  | p :: q :: s, _ => by
    have ih := sT_words (s := q :: s) (by simp)
    rw [sT] at ih
    have ne : nT p.2 :: wS (q :: s) ≠ [] := fun z => by cases z
    rw [sT, List.map_cons, join_cons (by simp), ih, wS_cons p (q :: s), join_cons ne, join_cons (wS_ne (fun z => by cases z)), pT]
    simp only [app_assoc]
theorem prs_wS {n : Int} : ∀ {s : Stn}, Bd n s → n < 100 → prs ((wS s).map rdC) = s
  | [], _, _ => rfl
  | p :: s, h, hn => by
    have z := h p List.mem_cons_self
    obtain ⟨a, ha⟩ := Int.eq_ofNat_of_zero_le (show 0 ≤ p.1 by omega)
    obtain ⟨b, hb⟩ := Int.eq_ofNat_of_zero_le (show 0 ≤ p.2 by omega)
    rw [wS_cons, List.map_cons, List.map_cons, prs, prs_wS (fun q hq => h q (List.mem_cons_of_mem _ hq)) hn]
    rw [show rdC (nT p.1) = p.1 by rw [ha]; exact rdC_num (by omega), show rdC (nT p.2) = p.2 by rw [hb]; exact rdC_num (by omega)]
def wF : Fact → List Str
  | .let_ s => ("let" : Str) :: wS s
  | .not_ s => ("not" : Str) :: wS s
  | .as_ s t => (("as" : Str) :: wS s) ++ (("to" : Str) :: wS t)
theorem fT_words {k : Nat} {n : Int} {f : Fact} (h : FactB k n f) (hk : 1 ≤ k) : fT f = Txt.join " " (wF f) := by
  have ne : ∀ s : Stn, s.length = k → s ≠ [] := fun s e z => by
    rw [z] at e
    have z2 : 0 = k := e
    omega
  cases f with
  | let_ s =>
    rw [fT, wF, join_cons (wS_ne (ne s h.1)), sT_words (ne s h.1)]
  | not_ s =>
    rw [fT, wF, join_cons (wS_ne (ne s h.1)), sT_words (ne s h.1)]
  | as_ s t =>
    rw [fT, wF, join_app (fun z => by cases z) (fun z => by cases z), join_cons (wS_ne (ne s h.1)), join_cons (wS_ne (ne t h.2.2.1)), sT_words (ne s h.1), sT_words (ne t h.2.2.1)]
    rw [show ("as " : Str) = "as" ++ " " from rfl, show (" to " : Str) = " " ++ ("to" ++ " ") from rfl]
    simp only [app_assoc]
/-- a sign that no number has -/
def Free (c : Nat) (x : Str) : Prop := c ∉ TL.tl x
theorem free_nT {c : Nat} {i : Int} (h0 : 0 ≤ i) (hc : c < 48 ∨ 57 < c) : Free c (nT i) := by
  obtain ⟨n, rfl⟩ := Int.eq_ofNat_of_zero_le h0
  unfold Free
  rw [nT, TL.tl_num]
  exact TL.numL_free hc
theorem free_wS {c : Nat} {n : Int} {s : Stn} (h : Bd n s) (hc : c < 48 ∨ 57 < c) : ∀ x ∈ wS s, Free c x := fun x hx => by
  obtain ⟨p, hp, hm⟩ := List.mem_flatMap.mp hx
  have z := h p hp
  rcases List.mem_cons.mp hm with e | e
  · rw [e]
    exact free_nT (by omega) hc
  · rw [List.mem_singleton.mp e]
    exact free_nT (by omega) hc
theorem free_wF {c : Nat} {k : Nat} {n : Int} {f : Fact} (h : FactB k n f) (hc : c < 48) : ∀ x ∈ wF f, Free c x := fun x hx => by
  have lets : ∀ w : Str, w = ("let" : Str) ∨ w = ("not" : Str) ∨ w = ("as" : Str) ∨ w = ("to" : Str) → Free c w := fun w hw => by
    have all : ∀ d ∈ TL.tl w, 97 ≤ d := by rcases hw with e | e | e | e <;> rw [e] <;> decide
    intro m
    have := all c m
    omega
  cases f with
  | let_ s =>
    rcases List.mem_cons.mp hx with e | e
    · exact lets x (.inl e)
    · exact free_wS h.2 (.inl hc) x e
  | not_ s =>
    rcases List.mem_cons.mp hx with e | e
    · exact lets x (.inr (.inl e))
    · exact free_wS h.2 (.inl hc) x e
  | as_ s t =>
    rcases List.mem_append.mp hx with e | e
    · rcases List.mem_cons.mp e with e | e
      · exact lets x (.inr (.inr (.inl e)))
      · exact free_wS h.2.1 (.inl hc) x e
    · rcases List.mem_cons.mp e with e | e
      · exact lets x (.inr (.inr (.inr e)))
      · exact free_wS h.2.2.2.1 (.inl hc) x e
theorem split_sp {ws : List Str} (h0 : ws ≠ []) (h : ∀ x ∈ ws, Free 32 x) : Txt.split (Txt.join " " ws) " " = ws := TL.split_join (s := 32) (S := []) rfl (by decide +kernel) h0 h
theorem split_nl {ws : List Str} (h0 : ws ≠ []) (h : ∀ x ∈ ws, Free 10 x) : Txt.split (Txt.join "\n" ws) "\n" = ws := TL.split_join (s := 10) (S := []) rfl (by decide +kernel) h0 h
theorem wF_ne (f : Fact) : wF f ≠ [] := by cases f <;> exact fun z => by cases z
theorem split_fT {k : Nat} {n : Int} {f : Fact} (h : FactB k n f) (hk : 1 ≤ k) : Txt.split (fT f) " " = wF f := by
  rw [fT_words h hk]
  exact split_sp (wF_ne f) (free_wF h (by decide))
theorem rdF_wF {k : Nat} {n : Int} {f : Fact} (h : FactB k n f) (hn : n < 100) : rdF k (wF f) = eF f := by
  cases f with
  | let_ s =>
    have l := wS_len s
    rw [h.1] at l
    rw [wF, rdF, if_pos (by rw [List.length_cons, l]; omega), List.drop_one, List.tail_cons, List.take_of_length_le (by omega), prs_wS h.2 hn]
    rfl
  | not_ s =>
    have l := wS_len s
    rw [h.1] at l
    rw [wF, rdF, if_pos (by rw [List.length_cons, l]; omega), List.drop_one, List.tail_cons, List.take_of_length_le (by omega), prs_wS h.2 hn]
    rfl
  | as_ s t =>
    have l := wS_len s
    rw [h.1] at l
    have l2 := wS_len t
    rw [h.2.2.1] at l2
    have hl : (("as" : Str) :: wS s).length = 1 + 2 * k := by rw [List.length_cons, l]; omega
    have hl2 : (("as" : Str) :: wS s ++ ("to" : Str) :: wS t).length = 2 * (1 + 2 * k) := by rw [List.length_append, hl, List.length_cons, l2]; omega
    have d1 : (((("as" : Str) :: wS s) ++ (("to" : Str) :: wS t)).drop 1).take (2 * k) = wS s := by
      rw [List.cons_append, List.drop_one, List.tail_cons, ← l, List.take_left]
    have d2 : ((("as" : Str) :: wS s) ++ (("to" : Str) :: wS t)).drop (1 + 2 * k + 1) = wS t := by
      rw [show (1 + 2 * k + 1) = (("as" : Str) :: wS s).length + 1 by rw [hl], List.drop_append]
      simp
    have d3 : (((("as" : Str) :: wS s) ++ (("to" : Str) :: wS t)))[1 + 2 * k]? = some ("to" : Str) := by
      rw [← hl, List.getElem?_append_right (Nat.le_refl _), Nat.sub_self]
      rfl
    rw [wF, rdF, if_neg (by rw [hl2]; omega), if_pos ⟨hl2, d3⟩, d1, d2, prs_wS h.2.1 hn, prs_wS h.2.2.2.1 hn]
    rfl
end GD
namespace GD
open PySem PySem.Spec PyProof.Rows L2
theorem eqv_eP {p q : Int × Int} (h : PyData.eqv (eP p) (eP q) = true) : p = q := by
  rw [eP, eP, PyData.eqv, PyData.eqvAll, PyData.eqvAll, PyData.eqvAll, PyData.eqv, PyData.eqv, Bool.and_true, Bool.and_eq_true, beq_iff_eq, beq_iff_eq] at h
  exact Prod.ext h.1 h.2
theorem eqv_allP : ∀ {s t : Stn}, PyData.eqvAll (s.map eP) (t.map eP) = true → s = t
  | [], [], _ => rfl
  | [], q :: t, h => by
    rw [List.map_nil, List.map_cons, PyData.eqvAll] at h
    cases h
  | p :: s, [], h => by
    rw [List.map_nil, List.map_cons, PyData.eqvAll] at h
    cases h
  | p :: s, q :: t, h => by
    rw [List.map_cons, List.map_cons, PyData.eqvAll, Bool.and_eq_true] at h
    rw [eqv_eP h.1, eqv_allP h.2]
theorem eqv_eS {s t : Stn} (h : PyData.eqv (eS s) (eS t) = true) : s = t := by
  rw [eS, eS, PyData.eqv] at h
  exact eqv_allP h
theorem eqv_two {x y : Str} {d e : PyData} (h : PyData.eqv (.tuple [.str x, d]) (.tuple [.str y, e]) = true) : x = y ∧ PyData.eqv d e = true := by
  simp only [PyData.eqv, PyData.eqvAll, Bool.and_true, Bool.and_eq_true, beq_iff_eq] at h
  exact h
theorem eqv_three {x y : Str} {d e d' e' : PyData} (h : PyData.eqv (.tuple [.str x, d, d']) (.tuple [.str y, e, e']) = true) : PyData.eqv d e = true ∧ PyData.eqv d' e' = true := by
  simp only [PyData.eqv, PyData.eqvAll, Bool.and_true, Bool.and_eq_true, beq_iff_eq] at h
  exact h.2
theorem eqv_23 {d1 d2 e1 e2 e3 : PyData} (h : PyData.eqv (.tuple [d1, d2]) (.tuple [e1, e2, e3]) = true) : False := by simp [PyData.eqv, PyData.eqvAll] at h
theorem eqv_32 {d1 d2 e1 e2 e3 : PyData} (h : PyData.eqv (.tuple [e1, e2, e3]) (.tuple [d1, d2]) = true) : False := by simp [PyData.eqv, PyData.eqvAll] at h
theorem eqv_eF : ∀ {f g : Fact}, PyData.eqv (eF f) (eF g) = true → f = g
  | .let_ s, .let_ t, h => by rw [eqv_eS (eqv_two h).2]
  | .let_ s, .not_ t, h => absurd (eqv_two h).1 (by decide)
  | .not_ s, .let_ t, h => absurd (eqv_two h).1 (by decide)
  | .not_ s, .not_ t, h => by rw [eqv_eS (eqv_two h).2]
  | .let_ s, .as_ t u, h => (eqv_23 h).elim
  | .not_ s, .as_ t u, h => (eqv_23 h).elim
  | .as_ s t, .let_ u, h => (eqv_32 h).elim
  | .as_ s t, .not_ u, h => (eqv_32 h).elim
  | .as_ s t, .as_ u v, h => by rw [eqv_eS (eqv_three h).1, eqv_eS (eqv_three h).2]
theorem not_eqv {f g : Fact} (h : f ≠ g) : PyData.eqv (eF f) (eF g) = false := by
  cases c : PyData.eqv (eF f) (eF g) with
  | false => rfl
  | true => exact absurd (eqv_eF c) h
theorem okN_of {k : Nat} {s : Stn} (h : s.length = k) (b : Bd 40 s) : okN k s = true := by
  rw [okN, decide_eq_true h, Bool.true_and]
  refine List.all_eq_true.mpr fun p hp => ?_
  have z := b p hp
  rw [okQ, decide_eq_true (by omega), decide_eq_true (by omega), decide_eq_true (by omega)]
  rfl
theorem okT_of {k : Nat} {f : Fact} (h : FactB k 40 f) : okT k f = true := by
  cases f with
  | let_ s => exact okN_of h.1 h.2
  | not_ s => exact okN_of h.1 h.2
  | as_ s t =>
    obtain ⟨k1, b1, k2, b2, ne⟩ := h
    have e : PyData.eqv (eS s) (eS t) = false := by
      cases c : PyData.eqv (eS s) (eS t) with
      | false => rfl
      | true => exact absurd (eqv_eS c) ne
    rw [okT, okN_of k1 b1, okN_of k2 b2, e]
    rfl
theorem FactB.le {k : Nat} {n m : Int} {f : Fact} (h : FactB k n f) (l : n ≤ m) : FactB k m f := by
  cases f with
  | let_ s => exact ⟨h.1, h.2.le l⟩
  | not_ s => exact ⟨h.1, h.2.le l⟩
  | as_ s t => exact ⟨h.1, h.2.1.le l, h.2.2.1, h.2.2.2.1.le l, h.2.2.2.2⟩
theorem FactB.l1 {k : Nat} {n : Int} {f : Fact} (h : FactB k n f) {s : Stn} (e : f = .let_ s ∨ f = .not_ s) : s.length = k := by
  rcases e with rfl | rfl
  · exact h.1
  · exact h.1
theorem FactB.l2 {k : Nat} {n : Int} {f : Fact} (h : FactB k n f) {s t : Stn} (e : f = .as_ s t) : s.length = k ∧ t.length = k := by
  subst e
  exact ⟨h.1, h.2.2.1⟩
/-- a statement that is never come to -/
theorem ps_no {X : Cx} {st : Stmt} : PS X st (fun _ _ _ => False) := ⟨fun _ _ _ _ _ _ h => h.elim⟩
/-- the facts of a good book -/
structure FactsOk (k : Nat) (fs : List Fact) : Prop where
  b : ∀ f ∈ fs, FactB k 40 f
  nd : fs.Nodup
  lm : ∀ x, IsKind x → GD.cnt x fs ≤ lim x
theorem cnt_pre (x : Str) (fs : List Fact) (i : Nat) : GD.cnt x (fs.take i) ≤ GD.cnt x fs := by
  unfold GD.cnt
  exact ((List.take_sublist i fs).filter _).length_le
theorem cnt_all (fs : List Fact) : fs.length = GD.cnt "let" fs + GD.cnt "not" fs + GD.cnt "as" fs := by
  induction fs with
  | nil => rfl
  | cons f r ih =>
    have e : ∀ x, GD.cnt x (f :: r) = one3 f x + GD.cnt x r := fun x => by
      unfold GD.cnt one3
      rw [List.filter_cons]
      by_cases h : kindS f = x
      · rw [if_pos (decide_eq_true h), if_pos h, List.length_cons]
        omega
      · rw [if_neg (by simp [h]), if_neg h]
        omega
    rw [List.length_cons, ih, e, e, e]
    have z : one3 f "let" + one3 f "not" + one3 f "as" = 1 := by cases f <;> rfl
    omega
theorem FactsOk.len {k : Nat} {fs : List Fact} (h : FactsOk k fs) : fs.length ≤ 34 := by
  have a := h.lm "let" (.inl rfl)
  have b := h.lm "not" (.inr (.inl rfl))
  have c := h.lm "as" (.inr (.inr rfl))
  have e := cnt_all fs
  have l1 : lim "let" = 24 := rfl
  have l2 : lim "not" = 6 := rfl
  have l3 : lim "as" = 4 := rfl
  omega
theorem FactsOk.room {k : Nat} {fs : List Fact} (h : FactsOk k fs) {i : Nat} {f : Fact} (e : fs[i]? = some f) : GD.cnt (kindS f) (fs.take i) < lim (kindS f) := by
  have a := h.lm (kindS f) (kindS_is f)
  have b := cnt_pre (kindS f) fs (i + 1)
  rw [cnt_take e, one3, if_pos rfl] at b
  omega
theorem FactsOk.new {k : Nat} {fs : List Fact} (h : FactsOk k fs) {i : Nat} {f : Fact} (e : fs[i]? = some f) : (((fs.take i).map eF).any fun z => PyData.eqv z (eF f)) = false := by
  refine List.any_eq_false.mpr fun d hd => ?_
  obtain ⟨g, hg, rfl⟩ := List.mem_map.mp hd
  rw [not_eqv]
  · exact fun z => by cases z
  · rintro rfl
    obtain ⟨j, hj, ej⟩ := List.getElem_of_mem hg
    have hij : j < i := by
      rw [List.length_take] at hj
      omega
    obtain ⟨hi, ei⟩ := List.getElem?_eq_some_iff.mp e
    rw [List.getElem_take] at ej
    exact List.pairwise_iff_getElem.mp h.nd j i (by omega) hi hij (by rw [ej, ei])
end GD
namespace GD
open PySem PySem.Spec PyProof.Rows L2
def spRdFs : Sp := fun vs H Q _ => ∃ (l : Addr) (ls : List Str) (st k : Nat) (fs : List Fact), vs = [.ref l, .int st, .int k] ∧ H l = some (.lst (ls.map V.str)) ∧ st ≤ ls.length ∧ ls.drop st = fs.map fT ∧ 1 ≤ k ∧ k ≤ 4 ∧ FactsOk k fs ∧ st ≤ 1000 ∧ ∀ v H', Same H H' → Fz H' v (.tuple (fs.map eF)) → Q v H'
theorem len_wF {k : Nat} {n : Int} {f : Fact} (h : FactB k n f) : (wF f).length ≤ 2 + 4 * k := by
  cases f with
  | let_ s =>
    have l := wS_len s
    rw [h.1] at l
    rw [wF, List.length_cons, l]
    omega
  | not_ s =>
    have l := wS_len s
    rw [h.1] at l
    rw [wF, List.length_cons, l]
    omega
  | as_ s t =>
    have l := wS_len s
    rw [h.1] at l
    have l2 := wS_len t
    rw [h.2.2.1] at l2
    rw [wF, List.length_append, List.length_cons, List.length_cons, l, l2]
    omega
theorem len_joined {y : Str} : ∀ {ys : List Str} {x : Str}, x ∈ ys → x.length ≤ (Txt.join y ys).length
  | [z], x, h => by
    rw [List.mem_singleton.mp h, join_one]
    exact Nat.le_refl _
  | a :: b :: r, x, h => by
    rw [join_cons (by simp), len_app, len_app]
    rcases List.mem_cons.mp h with e | e
    · rw [e]
      omega
    · have := len_joined (y := y) e
      omega
theorem len_word {k : Nat} {n : Int} {f : Fact} (h : FactB k n f) (hk : 1 ≤ k) (hk4 : k ≤ 4) (hn : n ≤ 1000) : ∀ x ∈ wF f, x.length ≤ sizeLine := fun x hx => by
  have a := len_joined (y := " ") hx
  rw [← fT_words h hk] at a
  have b := len_fT h hn
  exact small_len (by omega)
end GD
namespace K01
open PySem PySem.Spec PyProof.Rows L2 GD
section
variable {P : Program} {w : World} {K : PySem.W.Frag} {mg : Str → Option Value} {base : Heap}
/-- the forms' and the reader's defs, where they stand -/
structure Reader (K : PySem.W.Frag) (mg : Str → Option Value) (fI fB fW fP fN fF fL fR fS fC : Addr) (fdI fdB fdW fdP fdN fdF fdL fdR fdS fdC : FuncData) : Prop where
  I : At K mg "is_integer" pIsInt ["value"] fI fdI
  B : At K mg "is_number" pIsNumb ["value", "many"] fB fdB
  W : At K mg "is_word" pIsWord ["value", "words"] fW fdW
  P : At K mg "is_pair" pIsPair ["value"] fP fdP
  N : At K mg "is_standing" pIsStn ["value", "many"] fN fdN
  F : At K mg "is_fact" pIsFact ["value", "many"] fF fdF
  L : At K mg "is_full" pIsFull ["facts", "kind"] fL fdL
  R : At K mg "read_fact" pReadFact ["words", "many"] fR fdR
  S : At K mg "read_standing" pReadStn ["words"] fS fdS
  C : AtC K mg fC fdC
abbrev NFs : List Str := ["lines", "start", "many", "facts", "at", "fact"]
theorem scFs : FnScope NFs ["lines", "start", "many"] (defScope pReadFacts) := ⟨rfl, rfl, rfl, by decide +kernel, rfl, by decide +kernel, by decide +kernel⟩
theorem ok_rdfacts {f fI fB fW fP fN fF fL fR fS fC : Addr} {fd fdI fdB fdW fdP fdN fdF fdL fdR fdS fdC : FuncData} (F : Fun K "read_facts" "read_facts" pReadFacts f fd) (S : Reads1 mg) (T : Told K w mg)
    (D : Reader K mg fI fB fW fP fN fF fL fR fS fC fdI fdB fdW fdP fdN fdF fdL fdR fdS fdC) : FnOk P w K mg base CX0 5 f fd ["lines", "start", "many"] spRdFs := by
  have GR : FnOk P w K mg base CX0 4 fR fdR ["words", "many"] spRdF := ok_rdfact D.R.F S D.C D.S
  have GF : FnOk P w K mg base CX0 4 fF fdF ["value", "many"] spFact := ok_isfact D.F.F S.f D.I D.P D.N D.W
  have GL : FnOk P w K mg base CX0 1 fL fdL ["facts", "kind"] spFull := ok_isfull D.L.F S.f T
  refine F.ok scFs (fun vs H Q E h => ?_) (fun cdv A outer s H vs Q E hr h => ?_)
  · obtain ⟨l, ls, st, k, fs, rfl, _⟩ := h
    rfl
  · obtain ⟨l, ls, st, k, fs, rfl, hl, hst, hd, hk1, hk4, ok, hs, q⟩ := h
    have hr1 : Room 1 _ := hr.mono (by decide)
    have hr3 : Room 4 _ := hr.mono (by decide)
    refine ⟨_, pss_cons (ps_set (i := 3) scFs.nd rfl (.inl rfl) (pe_lst pa_nil))
      (pss_cons (ps_for PassesOwn.never rfl (pi_range2 (by rfl) S.rng (pa_cons (pv 1) (pa_cons (pe_callB call_len_seq (by rfl) S.f.len PySem.boot_len (pa_cons (pv 0) pa_nil)) pa_nil))) (pg_name (i := 4) scFs.nd rfl (.inl rfl))
        (pss_cons (ps_set (i := 5) scFs.nd rfl (.inl rfl) (pe_call GR hr3 (by rfl) D.R.g D.R.F.kp D.R.b .nil pass0 (pa_cons (pe_bm PySem.F.plainAttrs_str PySem.F.slot_str_split PySem.F.type_str_split mt_split (pe_ix ix_list (pv 0) (pv 4) (fun _ _ => rfl)) (pa_cons pe_str pa_nil)) (pa_cons (pv 2) pa_nil))))
        (pss_cons (ps_if (pw_or (pt_not (pt_val (pe_call GF hr (by rfl) D.F.g D.F.F.kp D.F.b .nil pass0 (pa_cons (pv 5) (pa_cons (pv 2) pa_nil))))) (pw_or (pt_cmpR (op_inD (u65 hr)) (pv 5) (pv 3) (by rfl))
            (pw_or1 (pt_val (pe_call GL hr1 (by rfl) D.L.g D.L.F.kp D.L.b .nil pass0 (pa_cons (pv 3) (pa_cons (pe_ix ix_tup (pv 5) pe_int (fun _ _ => rfl)) pa_nil))))))).pt (pss_one ps_no) pss_nil)
        (pss_one (ps_expr (pe_bm PySem.F.plainAttrs_list PySem.F.slot_list_append PySem.F.type_list_append mt_append (pv 3) (pa_cons (pv 5) pa_nil)))))))
      (pss_one (ps_ret (pe_callTy call_tuple_of (by rfl) S.f.tup (by decide +kernel) (pa_cons (pv 3) pa_nil))))), ?_⟩
    have lfs := ok.len
    have lls : ls.length = st + fs.length := by
      have z := congrArg List.length hd
      rw [List.length_drop, List.length_map] at z
      omega
    have llv : (ls.map V.str).length = ls.length := List.length_map ..
    refine ⟨by decide, fun p np => ?_⟩
    have s1 := same_new (o := .lst []) np
    refine ⟨_, rfl, _, rfl, l, _, rfl, .inl (SqL.of (s1 _ _ hl)), _, _, rfl, (by omega), ?_⟩
    rw [show (((ls.map V.str).length : Nat) : Int) - (st : Int) = ((fs.length : Nat) : Int) by omega, Int.toNat_natCast]
    refine for_range (lo := st) (n := fs.length) (fun i σ H' => ∃ x4 x5 : Option V, σ = [some (.ref l), some (.int st), some (.int k), some (.ref p), x4, x5] ∧ Same H H' ∧ LstAt H' p ((fs.take i).map eF)) ⟨none, none, rfl, s1, [], upd_same, .nil⟩ ?_ ?_
    · rintro i σ H1 hi ⟨x4, x5, rfl, s2, xs, ep, fx⟩
      have hf0 : fs[i]? = some fs[i] := List.getElem?_eq_getElem hi
      generalize fs[i] = f0 at hf0
      have hb0 := ok.b f0 (List.mem_of_getElem? hf0)
      have hline : ls[st + i]? = some (fT f0) := by
        rw [← List.getElem?_drop, hd, List.getElem?_map, hf0]
        rfl
      have lenl := len_fT hb0 (by decide)
      refine ⟨_, rfl, _, rfl, l, _, _, V.str (fT f0), rfl, rfl, SqL.of (s2 _ _ hl), (by rw [show (st : Int) + (i : Nat) = ((st + i : Nat) : Int) by omega]; exact at_str hline), rfl, ?_⟩
      refine ⟨_, _, rfl, rfl, rfl, small_len (by omega), fun pw npw => ?_⟩
      have sw := same_new (o := .lst ((Txt.split (fT f0) " ").map V.str)) npw
      have ew : (upd H1 pw (.lst ((Txt.split (fT f0) " ").map V.str))) pw = some (.lst ((wF f0).map V.str)) := by rw [upd_same, split_fT hb0 hk1]
      generalize upd H1 pw (.lst ((Txt.split (fT f0) " ").map V.str)) = H2 at sw ew ⊢
      have lw := len_wF hb0
      refine ⟨_, rfl, pw, wF f0, k, rfl, ew, by omega, by omega, len_word hb0 hk1 hk4 (by decide), fun v H3 s3 fz => ?_⟩
      rw [rdF_wF hb0 (by decide)] at fz
      have s13 := sw.trans s3
      have lst3 : LstAt H3 p ((fs.take i).map eF) := ⟨xs, s13 _ _ ep, fx.same s13⟩
      refine ⟨_, rfl, _, rfl, v, f0, k, rfl, fz, fun s t e => ?_, fun s e => ?_, fun H4 s4 => ?_⟩
      · have z := hb0.l2 e
        omega
      · have z := hb0.l1 e
        omega
      rw [okT_of hb0]
      refine ⟨_, rfl, iteF ?_⟩
      have lst4 := lst3.same s4
      have fz4 := fz.same s4
      refine ⟨_, rfl, _, rfl, eF f0, (fs.take i).map eF, fz4.dp, lst4.dp, shape_eF f0, shape_eFs _, ?_⟩
      rw [ok.new hf0]
      refine ⟨_, rfl, iteF ?_⟩
      obtain ⟨b, r, rfl, eb⟩ := fz4.fact
      obtain ⟨ys, ey, fy⟩ := lst4
      refine ⟨_, rfl, _, rfl, b, _, 0, _, rfl, rfl, SqT.of eb, at0, p, kindS f0, fs.take i, rfl, ⟨ys, .inl ey, fy⟩, by rw [List.length_take]; omega, kindS_is f0, fun H5 s5 => ?_⟩
      rw [decide_eq_false (show ¬ lim (kindS f0) ≤ GD.cnt (kindS f0) (fs.take i) by have := ok.room hf0; omega)]
      refine ⟨_, rfl, iteF ?_⟩
      have e5 := s5 _ _ ey
      refine ⟨_, rfl, .inl ⟨rfl, _, SqL.of e5⟩, ?_⟩
      have ly : ys.length ≤ 34 := by
        rw [fy.len, List.length_map, List.length_take]
        omega
      refine ⟨_, rfl, p, ys, _, rfl, rfl, e5, Nat.lt_of_lt_of_le (show ys.length < 35 by omega) (by decide), ?_⟩
      refine ⟨_, _, rfl, same_upd ((s2.trans s13).trans (s4.trans s5)) np, ys ++ [.ref b], upd_same, FzAll.mv (tups_lst e5) ?_⟩
      rw [take_next hf0, List.map_append]
      exact (fy.same s5).snoc (fz4.same s5)
    · rintro σ H1 ⟨x4, x5, rfl, s2, xs, ep, fx⟩
      rw [List.take_length] at fx
      refine ⟨_, rfl, p, xs, rfl, .inl ⟨SqL.of ep, fun t ht => ?_⟩⟩
      have st := same_new (o := .tup xs) ht
      exact q _ _ (s2.trans st) (.tup upd_same (fx.same st))
end
end K01
/-! data shown shortly; plain data (tuples, ints, texts), and what a law bends of them -/
namespace GD
open PySem PySem.Spec PyProof.Rows L2
/-- shown shortly: all that repr asks of a piece -/
structure Short (d : PyData) (w : Nat) : Prop where
  sh : d.showable = true
  is : PyData.intsShort 13 d = true
  wt : d.weight ≤ w
  ly : d.canLay0 = true
theorem short_all : ∀ {ds : List PyData} {w : Nat}, (∀ d ∈ ds, Short d w) → PyData.showableAll ds = true ∧ PyData.intsShortAll 13 ds = true ∧ PyData.weightAll ds ≤ (w + 1) * ds.length ∧ PyData.canLayAll0 ds = true
  | [], w, _ => by simp [PyData.showableAll, PyData.intsShortAll, PyData.weightAll, PyData.canLayAll0]
  | d :: r, w, h => by
    obtain ⟨a1, a2, a3, a4⟩ := short_all (ds := r) (w := w) fun x hx => h x (List.mem_cons_of_mem _ hx)
    obtain ⟨b1, b2, b3, b4⟩ := h d List.mem_cons_self
    refine ⟨?_, ?_, ?_, ?_⟩
    · rw [PyData.showableAll, b1, a1]
      rfl
    · rw [PyData.intsShortAll, b2, a2]
      rfl
    · rw [PyData.weightAll, List.length_cons, Nat.mul_succ]
      omega
    · rw [PyData.canLayAll0, b4, a4]
      rfl
theorem short_tup {ds : List PyData} {w n : Nat} (h : ∀ d ∈ ds, Short d w) (hn : (w + 1) * ds.length ≤ n) : Short (.tuple ds) n := by
  obtain ⟨a1, a2, a3, a4⟩ := short_all h
  exact ⟨by rw [PyData.showable]; exact a1, by rw [PyData.intsShort]; exact a2, by rw [PyData.weight]; omega, by rw [PyData.canLay0]; exact a4⟩
theorem Short.le {d : PyData} {w n : Nat} (h : Short d w) (l : w ≤ n) : Short d n := ⟨h.sh, h.is, Nat.le_trans h.wt l, h.ly⟩
theorem depth_alls : ∀ {ds : List PyData} {n : Nat}, (∀ d ∈ ds, d.depth ≤ n) → PyData.depthAll ds ≤ n
  | [], n, _ => by rw [PyData.depthAll]; exact Nat.zero_le _
  | d :: r, n, h => by
    have a := depth_alls (ds := r) (n := n) fun x hx => h x (List.mem_cons_of_mem _ hx)
    have b := h d List.mem_cons_self
    rw [PyData.depthAll]
    omega
/-- short, and not deep -/
structure Mild (n w : Nat) (d : PyData) : Prop where
  s : Short d w
  dep : d.depth ≤ n
theorem Mild.le {d : PyData} {n w n' w' : Nat} (h : Mild n w d) (l : n ≤ n') (l2 : w ≤ w') : Mild n' w' d := ⟨h.s.le l2, Nat.le_trans h.dep l⟩
theorem wAll_append : ∀ (ds es : List PyData), PyData.weightAll (ds ++ es) = PyData.weightAll ds + PyData.weightAll es
  | [], es => by rw [List.nil_append, PyData.weightAll, Nat.zero_add]
  | d :: r, es => by
    rw [List.cons_append, PyData.weightAll, PyData.weightAll, wAll_append r es]
    omega
theorem wAll_rev : ∀ (ds : List PyData), PyData.weightAll ds.reverse = PyData.weightAll ds
  | [] => rfl
  | d :: r => by
    rw [List.reverse_cons, wAll_append, wAll_rev r, PyData.weightAll, PyData.weightAll, PyData.weightAll]
    omega
theorem wAll_take (ds : List PyData) (i : Nat) : PyData.weightAll (ds.take i) + PyData.weightAll (ds.drop i) = PyData.weightAll ds := by
  rw [← wAll_append, List.take_append_drop]
theorem wAll_len : ∀ (ds : List PyData), ds.length ≤ PyData.weightAll ds
  | [] => Nat.zero_le _
  | d :: r => by
    have := wAll_len r
    rw [PyData.weightAll, List.length_cons]
    omega
/-- what a tuple, or a list, of pieces asks -/
theorem mild_all {ds : List PyData} {n w : Nat} (h : ∀ d ∈ ds, ∃ v, Mild n v d) (hw : PyData.weightAll ds ≤ w) : Mild (n + 1) w (.tuple ds) ∧ Mild (n + 1) w (.list ds) := by
  have hd : PyData.depthAll ds ≤ n := depth_alls fun d hd => by
    obtain ⟨v, m⟩ := h d hd
    exact m.dep
  have a : ∀ {es : List PyData}, (∀ d ∈ es, ∃ v, Mild n v d) → PyData.showableAll es = true ∧ PyData.intsShortAll 13 es = true ∧ PyData.canLayAll0 es = true := by
    intro es
    induction es with
    | nil => exact fun _ => ⟨by rw [PyData.showableAll], by rw [PyData.intsShortAll], by rw [PyData.canLayAll0]⟩
    | cons d r ih =>
      intro h
      obtain ⟨a1, a2, a3⟩ := ih fun x hx => h x (List.mem_cons_of_mem _ hx)
      obtain ⟨v, m⟩ := h d List.mem_cons_self
      exact ⟨by rw [PyData.showableAll, m.s.sh, a1]; rfl, by rw [PyData.intsShortAll, m.s.is, a2]; rfl, by rw [PyData.canLayAll0, m.s.ly, a3]; rfl⟩
  obtain ⟨a1, a2, a3⟩ := a h
  refine ⟨⟨⟨by rw [PyData.showable]; exact a1, by rw [PyData.intsShort]; exact a2, by rw [PyData.weight]; exact hw, by rw [PyData.canLay0]; exact a3⟩, by rw [PyData.depth]; omega⟩,
    ⟨⟨by rw [PyData.showable]; exact a1, by rw [PyData.intsShort]; exact a2, by rw [PyData.weight]; exact hw, by rw [PyData.canLay0]; exact a3⟩, by rw [PyData.depth]; omega⟩⟩
theorem mild_nice {d : PyData} {n w : Nat} (h : Mild n w d) (hn : n ≤ 20) (hw : w ≤ 1000000) : NiceD d := by
  refine ⟨h.s.sh, Nat.le_trans h.dep hn, Nat.le_trans (shown_le13 (d := d) ?_ h.s.is) (by decide)⟩
  have hd := h.dep
  have hw' := h.s.wt
  show (PyData.canLay0 _ && decide (PyData.depth _ ≤ 64) && decide (PyData.weight _ ≤ 2 ^ 20)) = true
  rw [h.s.ly, decide_eq_true (show d.depth ≤ 64 by omega), decide_eq_true (show d.weight ≤ 2 ^ 20 from Nat.le_trans hw' (Nat.le_trans hw (by decide)))]
  rfl
/-! ints -/
theorem shown_nat (n : Nat) (h : n < 10 ^ 12) : (PyData.int (n : Int)).shown.length ≤ 12 := by
  rw [PyData.shown]
  show (Str.ofString (toString ((n : Nat) : Int))).length ≤ 12
  rw [TL.len_tl, TL.tl_num]
  exact TL.numL_len (by decide) h
theorem shown_int {i : Int} (h1 : -(10 ^ 12) < i) (h2 : i < 10 ^ 12) : (PyData.int i).shown.length ≤ 13 := by
  cases i with
  | ofNat n => exact Nat.le_trans (shown_nat n (by have : ((n : Nat) : Int) < 10 ^ 12 := h2; omega)) (by decide)
  | negSucc n =>
    have e : (PyData.int (Int.negSucc n)).shown.length = 1 + (PyData.int ((n + 1 : Nat) : Int)).shown.length := by
      rw [PyData.shown, PyData.shown]
      show (Str.ofString ("-" ++ toString (n + 1))).length = 1 + (Str.ofString (toString (n + 1))).length
      rw [PySem.ofString_length, PySem.ofString_length, String.length_append]
      rfl
    rw [e]
    have := shown_nat (n + 1) (by omega)
    omega
theorem mild_int {i : Int} (h1 : -(10 ^ 12) < i) (h2 : i < 10 ^ 12) : Mild 0 50 (.int i) := by
  have hn : i.natAbs < 2 ^ 40 := by
    have : (2 : Nat) ^ 40 = 1099511627776 := by decide
    omega
  have hl : i.natAbs.log2 < 40 := by
    by_cases z : i.natAbs = 0
    · rw [z]
      decide
    · exact (Nat.log2_lt z).mpr hn
  refine ⟨⟨by rw [PyData.showable]; exact decide_eq_true (by omega), by rw [PyData.intsShort]; exact decide_eq_true (shown_int h1 h2), ?_, by rw [PyData.canLay0]⟩, by rw [PyData.depth]; exact Nat.le_refl _⟩
  rw [PyData.weight]
  split <;> omega
/-- texts of signs that Python knows -/
def Cps (x : Str) : Prop := ∀ c ∈ TL.tl x, c < 0x110000
theorem cps_ok {x : Str} (h : Cps x) : PyData.strOk x = true := by
  unfold PyData.strOk
  exact Array.all_eq_true'.mpr fun c hc => decide_eq_true (h c (Array.mem_toList_iff.mpr hc))
theorem mild_str {x : Str} (h : Cps x) : Mild 0 x.length (.str x) :=
  ⟨⟨by rw [PyData.showable], by rw [PyData.intsShort], by rw [PyData.weight]; exact Nat.le_refl _, by rw [PyData.canLay0]; exact cps_ok h⟩, by rw [PyData.depth]; exact Nat.le_refl _⟩
theorem mild_bl (b : Bool) : Mild 0 0 (.bool b) := ⟨⟨by rw [PyData.showable], by rw [PyData.intsShort], by rw [PyData.weight]; exact Nat.le_refl _, by rw [PyData.canLay0]⟩, by rw [PyData.depth]; exact Nat.le_refl _⟩
theorem mild_none : Mild 0 0 .none := ⟨⟨by rw [PyData.showable], by rw [PyData.intsShort], by rw [PyData.weight]; exact Nat.le_refl _, by rw [PyData.canLay0]⟩, by rw [PyData.depth]; exact Nat.le_refl _⟩
theorem cps_of (s : String) : Cps (Str.ofString s) := fun c hc => by
  rw [show TL.tl (Str.ofString s) = s.toList.map Char.toNat by rw [Str.ofString_eq_toList]] at hc
  obtain ⟨ch, _, rfl⟩ := List.mem_map.mp hc
  have v := ch.valid
  rcases v with v | ⟨_, v⟩
  · exact Nat.lt_trans v (by decide)
  · exact v
theorem cps_append {x y : Str} (h : Cps x) (h2 : Cps y) : Cps (x ++ y) := fun c hc => by
  rw [TL.tl_append] at hc
  exact (List.mem_append.mp hc).elim (h c) (h2 c)
/-! plain data -/
inductive Pl : Nat → PyData → Prop
  | int {n : Nat} {i : Int} : -(10 ^ 11) ≤ i → i ≤ 10 ^ 11 → Pl (n + 1) (.int i)
  | str {n : Nat} {x : Str} : (∀ c ∈ TL.tl x, c < 128) → x.length ≤ 1000 → Pl (n + 1) (.str x)
  | tup {n : Nat} {ds : List PyData} : ds.length ≤ 100 → (∀ d ∈ ds, Pl n d) → Pl (n + 1) (.tuple ds)
theorem Pl.le {n m : Nat} {d : PyData} (h : Pl n d) : n ≤ m → Pl m d := by
  induction h generalizing m with
  | int a b =>
    intro l
    obtain ⟨k, rfl⟩ : ∃ k, m = k + 1 := ⟨m - 1, by omega⟩
    exact .int a b
  | str a b =>
    intro l
    obtain ⟨k, rfl⟩ : ∃ k, m = k + 1 := ⟨m - 1, by omega⟩
    exact .str a b
  | tup a _ ih =>
    intro l
    obtain ⟨k, rfl⟩ : ∃ k, m = k + 1 := ⟨m - 1, by omega⟩
    exact .tup a fun d hd => ih d hd (by omega)
theorem Pl.mild {n : Nat} {d : PyData} (h : Pl n d) : Mild n d.weight d := by
  induction h with
  | @int n i a b =>
    have m := mild_int (i := i) (by omega) (by omega)
    exact ⟨⟨m.s.sh, m.s.is, Nat.le_refl _, m.s.ly⟩, Nat.le_trans m.dep (Nat.zero_le _)⟩
  | @str n x a b =>
    have m := mild_str (x := x) fun c hc => Nat.lt_trans (a c hc) (by decide)
    exact ⟨⟨m.s.sh, m.s.is, Nat.le_refl _, m.s.ly⟩, Nat.le_trans m.dep (Nat.zero_le _)⟩
  | tup a _ ih =>
    exact (mild_all (fun d hd => ⟨_, ih d hd⟩) (by rw [PyData.weight]; exact Nat.le_refl _)).1
end GD
namespace GD
open PySem PySem.Spec PyProof.Rows L2
theorem placed_list (x : Str) (g : Nat → List Nat) : (placed x fun _ c => g c).toList = (TL.tl x).flatMap g := by
  unfold placed
  rw [Array.toList_flatten, Array.toList_mapIdx]
  have e : ∀ (l : List Nat) (k : Nat → Nat → Array Nat), (∀ i c, k i c = (g c).toArray) → (l.mapIdx k).map Array.toList = l.map g := by
    intro l k hk
    apply List.ext_getElem
    · simp
    · intro i h1 h2
      simp [hk]
  rw [e _ _ fun _ _ => rfl, List.flatMap_def]
theorem upper128 : ∀ c < 128, (Unicode.upperOf c).length = 1 ∧ ∀ u ∈ Unicode.upperOf c, u < 128 := by decide +kernel
theorem upper_ok {x : Str} (h : ∀ c ∈ TL.tl x, c < 128) : (Txt.upper x).length = x.length ∧ ∀ c ∈ TL.tl (Txt.upper x), c < 128 := by
  have e : TL.tl (Txt.upper x) = (TL.tl x).flatMap Unicode.upperOf := placed_list x Unicode.upperOf
  constructor
  · rw [TL.len_tl, TL.len_tl, e]
    generalize TL.tl x = l at h
    clear e
    induction l with
    | nil => rfl
    | cons c r ih =>
      rw [List.flatMap_cons, List.length_append, (upper128 c (h c List.mem_cons_self)).1, ih fun u hu => h u (List.mem_cons_of_mem _ hu), List.length_cons]
      omega
  · intro u hu
    rw [e] at hu
    obtain ⟨c, hc, hu⟩ := List.mem_flatMap.mp hu
    exact (upper128 c (h c hc)).2 u hu
theorem fz_bes {H : Hp} {a : Addr} {xs : List V} {v : V} {d : PyData} (ha : H a = some (.lst xs)) (h : Fz H v d) : Sh (del H a) v d :=
  (h.mv (H' := del H a) fun b ys e => del_some.mpr ⟨ne_of e ha (fun z => by cases z), e⟩).sh
theorem bes_new {H : Hp} {a p : Addr} {v : V} {d : PyData} {o : HO} (hp : H p = none) (h : Bes a H v d) : Bes a (upd H p o) v d := h.keep (keep_new hp)
theorem ShAll.append {H : Hp} : ∀ {xs ys : List V} {ds es : List PyData}, ShAll H xs ds → ShAll H ys es → ShAll H (xs ++ ys) (ds ++ es)
  | _, _, _, _, .nil, b => b
  | _, _, _, _, .cons a t, b => .cons a (ShAll.append t b)
theorem ShAll.get {H : Hp} : ∀ {xs : List V} {ds : List PyData} {i : Nat} {x : V}, ShAll H xs ds → xs[i]? = some x → ∃ d, ds[i]? = some d ∧ Sh H x d
  | _, _, _, _, .nil, h => by simp at h
  | _, _, 0, _, .cons a t, h => by
    simp at h
    subst h
    exact ⟨_, rfl, a⟩
  | _, _, i + 1, _, .cons a t, h => by
    obtain ⟨d, h1, h2⟩ := ShAll.get (i := i) t (by simpa using h)
    exact ⟨d, by simpa using h1, h2⟩
end GD
namespace GD
open PySem PySem.Spec PyProof.Rows L2
section
variable {X : Cx}
/-- list(t) of a tuple: a list that is new, and not at the modules' dict -/
theorem call_listT : CallR X (.type "list") (fun xs H Q => ∃ p ys, xs = [.ref p] ∧ SqT X.K H p ys ∧ ∀ l, H l = none → l ≠ sysModules → Q (.ref l) (upd H l (.lst ys))) := by
  intro pins s σ H xs us Q I r h
  obtain ⟨p, ys, rfl, hq, q⟩ := h
  obtain ⟨u, rfl, rx⟩ := vals1 r
  cases rx
  obtain ⟨its, r', pl, hz⟩ := I.tuple hq
  have hlen := r'.length
  obtain ⟨o, ho, hc, n, hd⟩ := pl
  refine call_list_seq p (.inr rfl) ho hc hd (fun h' c' kp e => ?_) (by simp only [List.size_toArray] <;> omega)
  have J := I.laid (t' := s.toks) kp (Nat.le_refl _) (show ObjOk X.prog X.w _ h' _ (.lst ys) from ⟨hz, its, c', r', e⟩)
  exact ⟨.ref s.heap.objs.size, _, J, rfl, q _ (I.hok.fresh (Nat.le_refl _)) (Nat.ne_of_gt I.big)⟩
end
/-- a value that a law made, beside the pot at a: data, shown within the bounds -/
def spBent (n : Nat) : Sp := fun vs H Q _ => ∃ (a : Addr) (v : V) (d : PyData) (z : Int), vs = [.ref a, v] ∧ PotAt H a z ∧ z + 3 * n ≤ 90000 ∧ Fz H v d ∧ Pl n d ∧ n ≤ 8 ∧ d.weight ≤ 20000 ∧
  ∀ v' d' H', PotAt H' a (z + 3 * n) → Keep a H H' → Bes a H' v' d' → Mild (n + 1) (2 * d.weight + 200) d' → Q v' H'
theorem spBent0 {vs : List V} {H : Hp} {Q : VK} {E : XK} : ¬ spBent 0 vs H Q E := by
  rintro ⟨a, v, d, z, _, _, _, _, pl, _⟩
  cases pl
theorem wt_mem {ds : List PyData} {d : PyData} (h : d ∈ ds) : d.weight + 1 ≤ PyData.weightAll ds := by
  induction ds with
  | nil => cases h
  | cons e r ih =>
    rw [PyData.weightAll]
    rcases List.mem_cons.mp h with rfl | h
    · omega
    · have := ih h
      omega
theorem wt_at {ds : List PyData} {i : Nat} {d : PyData} (h : ds[i]? = some d) : PyData.weightAll (ds.take i) + (d.weight + 1) + PyData.weightAll (ds.drop (i + 1)) = PyData.weightAll ds := by
  have e : ds = ds.take i ++ d :: ds.drop (i + 1) := by
    obtain ⟨hi, rfl⟩ := List.getElem?_eq_some_iff.mp h
    rw [← List.drop_eq_getElem_cons hi, List.take_append_drop]
  have z := congrArg PyData.weightAll e
  rw [wAll_append, PyData.weightAll] at z
  omega
/-- a part of some plain pieces -/
theorem mild_part {n : Nat} {ds es : List PyData} (h : ∀ d ∈ ds, Pl n d) (sub : ∀ d ∈ es, d ∈ ds) {w : Nat} (hw : PyData.weightAll es ≤ w) : Mild (n + 1) w (.tuple es) ∧ Mild (n + 1) w (.list es) :=
  mild_all (fun d hd => ⟨_, (h d (sub d hd)).mild⟩) hw
end GD
/-! t[::-1] of a tuple -/
namespace GD
open PySem PySem.Spec PyProof.Rows HT
section
variable {prog : Program} {w : World} {A : Around} {E : Value → Shared → Prop} {s : Shared}
theorem fm_congr {α β : Type} {f g : α → Option β} : ∀ {l : List α}, (∀ x ∈ l, f x = g x) → l.filterMap f = l.filterMap g
  | [], _ => rfl
  | a :: l, h => by
    rw [List.filterMap_cons, List.filterMap_cons, h a List.mem_cons_self, fm_congr (l := l) fun x hx => h x (List.mem_cons_of_mem _ hx)]
theorem rev_pick (xs : Array Value) : ((List.range xs.size).filterMap fun (m : Nat) => xs[(((xs.size : Int) - 1) + (m : Int) * (-1)).toNat]?).toArray = xs.toList.reverse.toArray := by
  have e : (List.range xs.size).filterMap (fun (m : Nat) => xs[(((xs.size : Int) - 1) + (m : Int) * (-1)).toNat]?) = ((List.range xs.size).map fun k => xs.size - 1 - k).filterMap (xs[·]?) := by
    rw [List.filterMap_map]
    refine fm_congr fun m hm => ?_
    have := List.mem_range.mp hm
    have z : (((xs.size : Int) - 1) + (m : Int) * (-1)).toNat = xs.size - 1 - m := by omega
    rw [z]
    rfl
  rw [e, PySem.W.krv_range, List.filterMap_reverse, PySem.W.krv_all]
theorem sliceApplied_rev {sl : Addr} {vs : Value} {n : Nat} {Q : Int × Int × Nat → Shared → Prop} (hs : s.heap.IsSliceOf sl .none .none vs) (ps : IsPart vs (some (-1)))
    (h : Q ((n : Int) - 1, -1, n) s) : wpAny (model prog w) A (Builtin.Slice.sliceApplied (.ref sl) (pure (n : Int))) Q E s := by
  obtain ⟨os, hos, hcs, hds⟩ := id hs
  unfold Builtin.Slice.sliceApplied Builtin.Slice.sliceFields
  refine wpAny_bind (wpAny_bind (wpAny_field hos hds (x := .none) rfl (wpAny_bind (wpAny_field hos hds (x := .none) rfl (wpAny_bind (wpAny_field hos hds (x := vs) rfl (wpAny_pure ?_)))))))
  refine wpAny_bind (slicePart_ ps ?_)
  show wpAny _ _ (if ((-1 : Int) == 0) = true then _ else _) _ _ s
  rw [if_neg (by decide)]
  refine wpAny_bind (slicePart_none (wpAny_bind (slicePart_none (wpAny_bind (wpAny_pure ?_)))))
  show wpAny _ _ (pure ((n : Int) - 1, (-1 : Int), Builtin.Slice.slicePlaces ((n : Int) - 1) (-1) (-1))) _ _ s
  have z : Builtin.Slice.slicePlaces ((n : Int) - 1) (-1) (-1) = n := by
    unfold Builtin.Slice.slicePlaces
    have h1 : ¬ ((-1 : Int) > 0) := by decide
    rw [if_neg h1]
    by_cases c : (n : Int) - 1 > -1
    · rw [if_pos c, show (- -1 : Int) = 1 by decide, Int.ediv_one]
      omega
    · rw [if_neg c]
      omega
  rw [z]
  exact wpAny_pure h
theorem getItem_tuple_rev {t sl : Addr} {items : Array Value} {vs : Value} {Q : Value → Shared → Prop} (ht : IsTup s.heap t items) (hs : s.heap.IsSliceOf sl .none .none vs) (ps : IsPart vs (some (-1)))
    (h : Q (.ref s.heap.objs.size) { s with heap := s.heap.push { cls := .type "tuple", data := .seq items.toList.reverse.toArray } })
    (hsz : items.size ≤ sizeLine) : wpAny (model prog w) A (getItem (.ref t) (.ref sl)) Q E s := by
  have htake : sizeOk (.seq items.toList.reverse.toArray) := by
    show items.toList.reverse.toArray.size ≤ sizeLine
    rw [List.size_toArray, List.length_reverse, Array.length_toList]
    exact hsz
  obtain ⟨os, hos, hcs, hds⟩ := id hs
  have hTs : s.TypeIs (.ref sl) "slice" := ⟨os, hos, hcs⟩
  unfold getItem
  try with_reducible refine wpAny_holding ?_
  first | refine wpAny_bind (wpAny_pure ?_) | skip
  refine wpAny_bind (wpAny_sequenceKey ht.typeIs (by decide) ?_)
  refine wpAny_bind (wpAny_callSpecial?_slot (name := Str.ofString "__getitem__") ht.typeIs PyProof.Rows.slot_tuple_getitem
    (wpAny_call_entry PyProof.Rows.slot_tuple_getitem ht.typeIs entry_tuple_getitem ?_ (args_tuple_getitem _ _)))
  show wpAny _ _ (Builtin.Tuple.tupleItemsOf (.ref t) >>= _) _ _ s
  refine wpAny_bind (tupleItemsOf_ ht ?_)
  refine wpAny_bind (wpAny_typeOf hTs ?_)
  rw [if_pos (by decide)]
  refine wpAny_bind (sliceApplied_rev hs ps ?_)
  have hno : ¬ ((((items.size : Int) - 1) == 0 && (-1 : Int) == 1 && items.size == items.size) = true) := by
    intro q
    rw [Bool.and_eq_true, Bool.and_eq_true] at q
    exact absurd q.1.2 (by decide)
  show wpAny _ _ (if (((items.size : Int) - 1) == 0 && (-1 : Int) == 1 && items.size == items.size) = true then _ else _) _ _ s
  rw [if_neg hno, rev_pick]
  first
    | exact wpAny_bind (m := Builtin.Tuple.tupleExact _) (wpAny_newObj_type (wpAny_pure ⟨_, rfl, wpAny_pure h⟩) htake)
    | exact wpAny_bind (m := Builtin.Tuple.tupleExact _) (wpAny_newObj_type (wpAny_bind (wpAny_pure (wpAny_pure ⟨_, rfl, wpAny_pure h⟩))) htake)
    | exact wpAny_bind (wpAny_bind (m := Builtin.Tuple.tupleExact _) (wpAny_newObj_type (wpAny_pure (wpAny_pure ⟨_, rfl, wpAny_pure h⟩)) htake))
    | exact wpAny_bind (wpAny_bind (m := Builtin.Tuple.tupleExact _) (wpAny_newObj_type (wpAny_pure ⟨_, rfl, wpAny_pure h⟩) htake))
end
open L2
section
variable {X : Cx}
def tRevT (K : PySem.W.Frag) (te : TE) : TE := fun σ H Q => te σ H fun x H1 => ∃ a xs, x = .ref a ∧ SqT K H1 a xs ∧ ∀ p, H1 p = none → Q (.ref p) (upd H1 p (.tup xs.reverse))
theorem pe_revT {e : Expr} {te : TE} {k : Nat} {p1 p2 p3 pos : Pos} (he : PE X e te) : PE X (.Subscript e (.Slice none none (some (.UnaryOp .USub (.Constant (.int 1) k p1) p2)) p3) pos) (tRevT X.K te) := by
  refine ⟨fun pins s σ H Q I h => ?_⟩
  refine Subscript_ (thn (he.run pins s σ H _ I h) fun v s1 ⟨x, H1, I1, r1, q1⟩ => ?_)
  obtain ⟨a, xs, ex, hx, q⟩ := q1
  subst ex
  cases r1
  have hst : PO X (some (.UnaryOp .USub (.Constant (.int 1) k p1) p2)) (tPart (tUn (rU fun i => .int (-i)) (tC (.int 1)))) := po_some (pe_un un_neg pe_int)
  refine wpAny_Slice (thn (po_none.run pins s1 σ H1 (fun o H2 => o = none ∧ H2 = H1) I1 ⟨rfl, rfl⟩) fun vl s2 ⟨l, H2, I2, pl, el, e2⟩ => ?_)
  subst el e2
  refine thn (po_none.run pins s2 σ H2 (fun o H3 => o = none ∧ H3 = H2) I2 ⟨rfl, rfl⟩) fun vu s3 ⟨u, H3, I3, pu, eu, e3⟩ => ?_
  subst eu e3
  refine thn (hst.run pins s3 σ H3 (fun o H4 => o = some (-1) ∧ H4 = H3) I3 ⟨1, rfl, -1, rfl, rfl, rfl⟩) fun vs s4 ⟨o, H4, I4, ps, eo, e4⟩ => ?_
  subst eo e4
  cases pl
  cases pu
  have I5 : Inv X pins σ H4 { s4 with heap := s4.heap.push { cls := .type "slice", data := .fields #[.none, .none, vs] } } := I4.kept (t' := s4.toks) fun b ob q => Heap.get?_push_of_some _ q
  obtain ⟨its, r, ht, hz⟩ := I5.tuple hx
  have hlen : its.toArray.size = xs.length := by rw [List.size_toArray]; exact r.length.symm
  show wpAny (model X.prog X.w) X.A (subscriptTail e (.Slice none none (some (.UnaryOp .USub (.Constant (.int 1) k p1) p2)) p3) (.ref a) (.ref s4.heap.objs.size)) (EP X pins σ Q) X.xe { s4 with heap := s4.heap.push { cls := .type "slice", data := .fields #[.none, .none, vs] } }
  refine tail_any (ops := [.ref a, .ref s4.heap.objs.size]) ht.typeIs (PyProof.Rows.slot_tuple_getitem.lookup) ?_ (by with_unfolding_all rfl)
  refine getItem_tuple_rev ht (Heap.IsSliceOf.new _ .none .none vs) ps ?_ (by rw [hlen]; exact hz)
  refine ⟨.ref _, _, I5.laid (t' := s4.toks) (o := .tup xs.reverse) (fun b ob q => Heap.get?_push_of_some _ q) (Nat.le_refl _) ?_, rfl, q _ (I5.hok.fresh (Nat.le_refl _))⟩
  exact ⟨by rw [List.length_reverse]; exact hz, _, r.reverse, IsTup.new _ _⟩
end
end GD
namespace GD
open PySem PySem.Spec PyProof.Rows L2
theorem cutD_mem {ds : List PyData} {lo hi : Option Int} {d : PyData} (h : d ∈ cutD ds lo hi) : d ∈ ds := List.mem_of_mem_drop (List.mem_of_mem_take h)
theorem cutD_len (ds : List PyData) (lo hi : Option Int) : (cutD ds lo hi).length ≤ ds.length := by
  unfold cutD
  rw [List.length_take, List.length_drop]
  omega
theorem cutD_wt (ds : List PyData) (lo hi : Option Int) : PyData.weightAll (cutD ds lo hi) ≤ PyData.weightAll ds := by
  unfold cutD
  have a := wAll_take (ds.drop (HT.sIx ds.length 0 lo)) (HT.sIx ds.length ds.length hi - HT.sIx ds.length 0 lo)
  have b := wAll_take ds (HT.sIx ds.length 0 lo)
  omega
theorem fz_rev {H : Hp} : ∀ {xs : List V} {ds : List PyData}, FzAll H xs ds → FzAll H xs.reverse ds.reverse
  | _, _, .nil => .nil
  | _, _, .cons a t => by
    rw [List.reverse_cons, List.reverse_cons]
    exact (fz_rev t).append (.cons a .nil)
/-- tuples of data, joined -/
theorem cat_bes {K : PySem.W.Frag} {H : Hp} {a x y : Addr} {zs xs ys : List V} {ds es : List PyData} {Q : VK} (ha : H a = some (.lst zs)) (hx : H x = some (.tup xs)) (hy : H y = some (.tup ys)) (bx : ShAll (del H a) xs ds) (bY : ShAll (del H a) ys es) (hl : xs.length + ys.length ≤ 1000)
    (k : ∀ v H', Same H H' → Bes a H' v (.tuple (ds ++ es)) → Q v H') : rCatA K (.ref x) (.ref y) H Q := by
  have nx : x ≠ a := ne_of hx ha (fun z => by cases z)
  have ny : y ≠ a := ne_of hy ha (fun z => by cases z)
  refine ⟨x, y, xs, ys, rfl, rfl, SqT.of hx, SqT.of hy, Nat.le_of_lt (small1000 hl), fun e => ?_, fun _ e => ?_, fun _ _ p hp => ?_⟩
  · subst e
    cases bx
    exact k _ _ (Same.refl H) (.tup (del_some.mpr ⟨ny, hy⟩) bY)
  · subst e
    cases bY
    refine k _ _ (Same.refl H) (.tup (del_some.mpr ⟨nx, hx⟩) ?_)
    rw [List.append_nil]
    exact bx
  · have hpa : p ≠ a := fun z => by
      rw [z, ha] at hp
      cases hp
    have s := same_new (o := .tup (xs ++ ys)) hp
    refine k _ _ s (.tup (del_some.mpr ⟨hpa, upd_same⟩) ?_)
    exact (bx.append bY).same fun b o e => by
      obtain ⟨h1, h2⟩ := del_some.mp e
      exact del_some.mpr ⟨h1, s _ _ h2⟩
theorem bes_tup {H : Hp} {a : Addr} {v : V} {ds : List PyData} (h : Bes a H v (.tuple ds)) : ∃ b xs, v = .ref b ∧ H b = some (.tup xs) ∧ ShAll (del H a) xs ds := by
  cases h with
  | tup e t => exact ⟨_, _, rfl, (del_some.mp e).2, t⟩
end GD
namespace K01
open PySem PySem.Spec PyProof.Rows L2 GD
-- abbrev sBent : Stmt := top 63
section
variable {P : Program} {w : World} {K : PySem.W.Frag} {mg : Str → Option Value} {base : Heap}
abbrev NBnt : List Str := ["_law_pot_here", "_law_value", "_law_at", "_law_some_here"]
end
end K01
namespace GD
open PySem PySem.Spec PyProof.Rows L2
/-! an error that was caught by name, and stays as a value behind its suite -/
/-- at a: a caught error of the class cls, its dict at d -/
def exk (a : Addr) (cls : Value) (d : Option Addr) : HO := .ext fun h => ∃ (oe : Obj) (vs : Array Value), h.get? a = some oe ∧ Zc cls d oe ∧ oe.data = .fields vs
section
variable {P : Program} {w : World} {H : Hp} {h : Heap} {a : Addr} {cls : Value} {d : Option Addr}
theorem exk_ok {oe : Obj} {vs : Array Value} (e : h.get? a = some oe) (z : Zc cls d oe) (f : oe.data = .fields vs) : ObjOk P w H h a (exk a cls d) := ⟨⟨oe, vs, e, z, f⟩, ⟨_, e⟩, fun _ _ ⟨o, v, q, r⟩ k => ⟨o, v, k o q, r⟩⟩
theorem exk_at (ok : HOk P w H h) (e : H a = some (exk a cls d)) : ∃ (oe : Obj) (vs : Array Value), h.get? a = some oe ∧ Zc cls d oe ∧ oe.data = .fields vs := by
  have x : ObjOk P w H h a (.ext fun h => ∃ (oe : Obj) (vs : Array Value), h.get? a = some oe ∧ Zc cls d oe ∧ oe.data = .fields vs) := ok a _ e
  exact x.1
end
section
variable {X : Cx} {pins : List (Addr × Obj)} {σ : L2.St} {H : Hp} {s : Shared} {a : Addr} {oe : Obj} {vs : Array Value} {cls : Value} {d : Option Addr}
/-- a pinned error is tracked from here on -/
theorem inv_keepE (I : Inv X ((a, oe) :: pins) σ H s) (z : Zc cls d oe) (f : oe.data = .fields vs) (n0 : X.s_0.heap.get? a = none) (np : ∀ p ∈ X.pn ++ pins, p.1 ≠ a) : Inv X pins σ (upd H a (exk a cls d)) s := by
  obtain ⟨e, n, nL, nF, nc⟩ := I.pin (a, oe) (List.mem_append_right _ List.mem_cons_self)
  have n' : H a = none := n
  have ne : ∀ {b : Addr} {o : HO}, H b = some o → b ≠ a := fun y q => by
    rw [q, n'] at y
    cases y
  refine ⟨I.ok, I.os, I.bare, ⟨I.base.keep, I.base.slot, fun b o h0 hn hx => ?_, I.base.there, fun b xs q => ?_, fun b o u q => ?_, fun b ps q => ?_⟩, I.loc, I.cell, ?_, fun x c q => ?_, fun p hp => ?_, fun b u q => ?_, I.len⟩
  · have nb : b ≠ a := fun q => by
      rw [q, n0] at h0
      cases h0
    rw [upd_ne nb]
    exact I.base.free b o h0 hn hx
  · have y := I.base.tups b xs q
    rw [upd_ne (ne y)]
    exact y
  · have y := I.base.frzs b o u q
    rw [upd_ne (ne y)]
    exact y
  · obtain ⟨m, y⟩ := I.base.tbls b ps q
    exact ⟨m, by rw [upd_ne (ne y)]; exact y⟩
  · rw [upd_ne (Ne.symm nL)]
    exact I.free
  · obtain ⟨v, o, ho, hd⟩ := I.cell x c q
    have nca : c ≠ a := fun y => by
      rw [y] at ho
      have y2 := e.symm.trans ho
      cases y2
      exact nc v hd
    rw [upd_ne nca]
    exact I.freeC x c q
  · obtain ⟨h1, h2, h3⟩ := I.pin p ((List.mem_append.mp hp).elim (fun y => List.mem_append_left _ y) fun y => List.mem_append_right _ (List.mem_cons_of_mem _ y))
    exact ⟨h1, by rw [upd_ne (np p hp)]; exact h2, h3⟩
  · by_cases hb : b = a
    · subst hb
      rw [upd_same] at q
      cases q
      exact exk_ok e z f
    · rw [upd_ne hb] at q
      exact (I.hok b u q).stay (fun c v _ y => y) (fun c y => by rw [upd_ne (ne y)]; exact y) fun c xs y => by rw [upd_ne (ne y)]; exact y
end
/-- what a try that keeps its error wishes of what its body raises -/
def wKeepE (K : PySem.W.Frag) (c : Value) (i : Nat) (ts : Addr → Value → Option Addr → TS) (D : Ends) : WX := fun cls d σ H => PySem.W.exmOne K cls c = some true ∧
  ∀ a, H a = none → ts a cls d { nx := fun σ' H' => D.nx (σ'.set i none) (upd H' a (exk a cls d)), rt := fun _ _ => False, bk := fun _ _ => False, ct := fun _ _ => False } (σ.set i (some (.ref a))) H
section
variable {X : Cx} {x n : Str} {c : Value} {i : Nat} {body suite : List Stmt} {b₀ : Stmt} {np pos pos' : Pos} {tb : WX → TS} {ts : Addr → Value → Option Addr → TS}
theorem ps_try_keep (hs : X.stack = X.env :: X.outer) (hf : X.env.frame = some X.env.locals) (hex : X.ex = []) (hN : X.N.Nodup) (hi : X.N[i]? = some n) (hln : X.env.kindOf n = some .local) (hc : Names X x c)
    (hb : ∀ (W : WX) (pn : List (Addr × Obj)) (xe : Value → Shared → Prop), Takes (X.tr pn xe) W → PassesOwn (model X.prog X.w) X.A X.env xe → PSs (X.tr pn xe) body (tb W))
    (hsu : ∀ (a : Addr) (oe : Obj) (cls : Value) (d : Option Addr) (pn : List (Addr × Obj)), Zc cls d oe → (∃ vs, oe.data = .fields vs) → PSs (X.suite a ((a, oe) :: pn)) (b₀ :: suite) (ts a cls d)) :
    PS X (.Try body [.ExceptHandler (some (.Name x np)) (some n) (b₀ :: suite) pos'] [] [] pos) (fun D σ H => tb (wKeepE X.K c i ts D) D σ H) := by
  refine ⟨fun pins s σ H D I h => ?_⟩
  have ok := I.ok
  have fr : X.A.frames = some (X.env :: X.outer) := by rw [ok.frames, hs]
  refine wpAny_Try_except (wpAny_mono ((hb (wKeepE X.K c i ts D) (X.pn ++ pins) (fun e s₁ => wpAny (model X.prog X.w) X.A (noteFrame e X.env) (fun _ s₂ => wpAny (model X.prog X.w) X.A (setFlight e none) (fun _ s₃ =>
    wpAny (model X.prog X.w) X.A (handleBy e X.env [.ExceptHandler (some (.Name x np)) (some n) (b₀ :: suite) pos']) (SP X pins D) X.xe s₃) X.xe s₂) X.xe s₁) (fun u s' y => ?_) PassesOwn.looking).run [] s σ H D (I.toTry _) h) (fun fl s1 y => ?_) fun _ _ y => y)
  · obtain ⟨a, B, t, ps, τ, G, cls, d, rfl, J1, nb, up, sky, na, os, ag, hit, hyes⟩ := y
    have J : Inv X pins τ G t := J1.ofTry ok
    have sky2 : Sky B (X.env :: X.outer) a (Zc cls d) X.env.locals s'.heap := by
      rw [← hs]
      exact sky
    show wpAny (model X.prog X.w) X.A (noteFrame (.ref a) X.env) _ _ _
    refine Sky.land Zc.steady fr hf sky2 fun h3 fl3 up3 => ?_
    have J3 : Inv X pins τ G { s' with heap := h3 } := J.landed nb fl3.1 (up.trans up3) os ag
    obtain ⟨o3, v3, e3, z3, d3⟩ := fl3.there
    have nst : a ∉ frs (X.env :: X.outer) := fun hm => by
      obtain ⟨_, o', e', hnf⟩ := fl3.2.2.1.mem hm
      rw [e3] at e'
      cases e'
      exact hnf _ d3
    have nL : a ≠ X.env.locals := fun q => nst (List.mem_filterMap.mpr ⟨X.env, List.mem_cons_self, by rw [hf, q]⟩)
    have nF : a ∉ X.fs := fun hm => by
      obtain ⟨e, he, q⟩ := List.mem_filterMap.mp hm
      exact nst (List.mem_filterMap.mpr ⟨e, List.mem_cons_of_mem _ he, q⟩)
    have inB : ∀ b o, t.heap.get? b = some o → b ∉ frs X.stack → b ≠ a := fun b o e nf q => by
      have y := nb b o e nf
      rw [q, fl3.2.1] at y
      cases y
    have n0 : X.s_0.heap.get? a = none := by
      cases e : X.s_0.heap.get? a with
      | none => rfl
      | some o =>
        obtain ⟨o', e1⟩ := J.base.there a o e (by rw [hex]; exact fun q => nomatch q)
        exact absurd rfl (inB a o' e1 (by rw [hs]; exact nst))
    have npn : ∀ p ∈ X.pn ++ pins, p.1 ≠ a := fun p hp => by
      obtain ⟨e, _, neL, nf, _⟩ := J.pin p hp
      exact inB p.1 p.2 e fun hm => (List.mem_cons.mp (J.stkSub _ hm)).elim neL nf
    have S3 := J3.suite e3 d3 na nL nF
    refine wpAny_handleBy_cons (codeAny_handlers_test ?_) (by intro q; cases q)
    have LT : PySem.W.Looks (model X.prog X.w) h3 (typeOf (.ref a)) cls := fun A Q E s k q => wpAny_typeOf_ref (k _ _ e3) (by rw [z3.1]; exact q)
    have LM := PySem.W.exm_one (M := model X.prog X.w) J3.kIn LT hit
    have named : ∀ {Q : Value → Shared → Prop} {E : Value → Shared → Prop}, Q c { s' with heap := h3 } → wpAny (model X.prog X.w) (X.A.mark (some (.ref a))) (eval (.Name x np) X.env) Q E { s' with heap := h3 } := fun {Q E} q => by
      obtain ⟨g1, g2, g3 | ⟨g3, g4, g5⟩⟩ := hc
      · exact ld_glob (X := X.suite a ((a, o3) :: (X.pn ++ pins))) S3 g1 g3 q g2
      · exact ld_blt (X := X.suite a ((a, o3) :: (X.pn ++ pins))) S3 g1 g3 g4 q g5 g2
    refine named (LM.here (codeAny_handlers_suite_as (HandSPX.lands_againZ fl3 fun h4 fl4 up4 => ?_)))
    have J4 : Inv X pins τ G { s' with heap := h4 } := J.landed nb fl4.1 ((up.trans up3).trans up4) os ag
    obtain ⟨o4, v4, e4, z4, d4⟩ := fl4.there
    refine store_ok (X := X.suite a ((a, o4) :: (X.pn ++ pins))) (v := .ref a) (J4.suite e4 d4 na nL nF) hN hi (.inl hln) rfl (fun s5 S5 => ?_) (.inr hln)
    refine wpAny_mono ((hsu a o4 cls d (X.pn ++ pins) z4 ⟨_, d4⟩).run [] s5 _ G _ S5 (hyes a na)) (fun f s6 y => ?_) fun _ _ q => False.elim q
    cases f with
    | next =>
      obtain ⟨τ6, G6, S6, q6⟩ := y
      have J6 : Inv X ((a, o4) :: pins) τ6 G6 s6 := ⟨ok, S6.os, S6.bare, S6.base, S6.loc, S6.cell, S6.free, S6.freeC, fun p hp => S6.pin p (List.mem_append_left _ ((List.mem_append.mp hp).elim (fun q => List.mem_cons_of_mem _ (List.mem_append_left _ q)) fun q => (List.mem_cons.mp q).elim (fun q => by rw [q]; exact List.mem_cons_self) fun q => List.mem_cons_of_mem _ (List.mem_append_right _ q))), S6.hok, S6.len⟩
      exact gone_ok J6 hN hi hln fun s7 J7 => ⟨_, _, inv_keepE J7 z4 d4 n0 npn, q6⟩
    | brk =>
      obtain ⟨_, _, _, q6⟩ := y
      exact False.elim q6
    | cont =>
      obtain ⟨_, _, _, q6⟩ := y
      exact False.elim q6
    | ret u =>
      obtain ⟨_, _, _, _, _, q6⟩ := y
      exact False.elim q6
  · cases fl with
    | next =>
      obtain ⟨τ, G, J, q⟩ := y
      exact wpAny_execs_nil ⟨τ, G, J.ofTry ok, q⟩
    | brk =>
      obtain ⟨τ, G, J, q⟩ := y
      exact ⟨τ, G, J.ofTry ok, q⟩
    | cont =>
      obtain ⟨τ, G, J, q⟩ := y
      exact ⟨τ, G, J.ofTry ok, q⟩
    | ret u =>
      obtain ⟨v, τ, G, J, r, q⟩ := y
      exact ⟨v, τ, G, J.ofTry ok, r, q⟩
end
/-! such an error's class and value -/
/-- a caught error of the class C at a that keeps v -/
def CgtAt (H : Hp) (a C : Addr) (v : V) : Prop := ∃ d, H a = some (exk a (.ref C) (some d)) ∧ H d = some (.xd [(("value" : Str), v)])
theorem CgtAt.same {H H' : Hp} {a C : Addr} {v : V} (k : Same H H') (h : CgtAt H a C v) : CgtAt H' a C v := by
  obtain ⟨d, h1, h2⟩ := h
  exact ⟨d, k _ _ h1, k _ _ h2⟩
section
variable {X : Cx} {C fI : Addr} {pos : Pos} {e : Expr} {te : TE}
theorem cgt_inst {pins : List (Addr × Obj)} {σ : L2.St} {H : Hp} {s : Shared} {a : Addr} {v : V} (I : Inv X pins σ H s) (h : CgtAt H a C v) : ∃ oe od u, PySem.W.InstAt s.heap a oe C (some od) ∧ PySem.W.lookIn "value" od = some (some u) ∧ RelV v u := by
  obtain ⟨d, h1, h2⟩ := h
  obtain ⟨oe, vs, ho, hz, hd⟩ := exk_at I.hok h1
  obtain ⟨mA, hns, rel⟩ := (show ∃ mA, s.heap.Ns1 d mA ∧ ∀ f, RelO (List.lookup f [(("value" : Str), v)]) (mA f) from I.hok d _ h2)
  obtain ⟨od, hod, hl⟩ := lookIn_ns hns
  have l : List.lookup ("value" : Str) [(("value" : Str), v)] = some v := by simp [List.lookup]
  obtain ⟨u, hu, ru⟩ := RelO.some_of (v := v) (o := mA "value") (by rw [← l]; exact rel "value")
  obtain ⟨c, dd, dt, sl⟩ := oe
  obtain ⟨rfl, rfl⟩ := hz
  obtain rfl : dt = .fields vs := hd
  exact ⟨_, od, u, ⟨ho, rfl, rfl, hod⟩, by rw [hl, hu], ru⟩
/-- e.value, e caught -/
def tValC (K : PySem.W.Frag) (te : TE) : TE := fun σ H Q => te σ H fun x H1 => ∃ a C fI v, x = .ref a ∧ EC K C fI ∧ CgtAt H1 a C v ∧ Q v H1
theorem pe_valC (he : PE X e te) (hb : attributeBase e "value" X.env (eval e X.env) = eval e X.env := by rfl) : PE X (.Attribute e "value" pos) (tValC X.K te) := by
  refine ⟨fun pins s σ H Q I h => attr_of hb (thn (he.run pins s σ H _ I h) fun u s1 ⟨x, H1, I1, rx, a, C, fI, v, ex, T, ea, q⟩ => ?_)⟩
  subst ex
  obtain rfl : u = Value.ref a := rx
  obtain ⟨oe, od, u, J, hl, ru⟩ := cgt_inst I1 ea
  exact HandSPX.exc_get I1.kIn J T.ga T.gt T.ox.exC (PySem.W.findObj_own T.hd T.nv rfl hl) (handed_of ru) ⟨v, H1, I1.tok _, ru, q⟩
/-- isinstance(e, c), e caught -/
def rIsCgt (K : PySem.W.Frag) : List V → Hp → VK → Prop := fun xs H Q => ∃ (a C fI : Addr) (v c : V) (u : Value) (b : Bool), xs = [.ref a, c] ∧ EC K C fI ∧ CgtAt H a C v ∧ ClsV c u ∧ PySem.W.kitOne K (.ref C) u = some b ∧ Q (.bl b) H
theorem call_isCgt : CallR X (.builtin "isinstance") (rIsCgt X.K) := by
  intro pins s σ H xs us Q I r h
  obtain ⟨a, C, fI, v, c, u, b, rfl, T, ea, k, e, q⟩ := h
  obtain ⟨u1, u2, rfl, r1, r2⟩ := vals2 r
  have e2 := k.eq r2
  subst e2
  obtain rfl : u1 = Value.ref a := r1
  obtain ⟨oe, od, u, J, _, _⟩ := cgt_inst I ea
  exact PySem.W.kia_one (PySem.W.gd_kit T.ga T.gt T.ox.exC T.hd T.cl T.cg T.ct T.ob) I.kIn J e (fun z => nomatch z) fun tk => ⟨.bl b, H, I.tok tk, rfl, q⟩
end
end GD
namespace GD
open PySem PySem.Spec PyProof.Rows L2 LamX
/-! a lambda's call within a try: what is raised is wished for at the slots as they stand then -/
section
variable {X : Cx} {pins : List (Addr × Obj)} {σ : L2.St} {H : Hp} {s : Shared}
theorem pe_actS {CXg : CXT} {Eg : XK} {Ng : List Str} {qg : Str} {sg : Scope} {g f c' : Addr} {cdg pm ctv : Value} {params : Arguments} {body : Expr} {scope : Scope} {k i : Nat} {a : Str} {pn : List (Addr × Obj)} {xe : Value → Shared → Prop} {W : WX} {E : XK} {tb : TE} {p1 p2 : Pos}
    (I : Inv X pins σ H s) (L : LamS X.env.scope scope) (of0 : s.heap.get? f = some (PySem.W.kla_obj "<lambda>" (X.env.qual ++ "<lambda>") params body scope (cloFrom X.env.cells scope.names []) pm c' ctv)) (n0 : H f = none) (nfr : f ∉ frs X.stack)
    (bnd : bindArgs (PySem.W.kla_fn "<lambda>" (X.env.qual ++ "<lambda>") params body scope (cloFrom X.env.cells scope.names []) pm (.ref c') ctv) ⟨[], []⟩ = pure [])
    (tk : Takes ((cxOf CXg X.prog X.w X.K X.mg X.base Ng qg sg g cdg X.A X.stack s H Eg).tr pn xe) W) (hr : Room (k + 1) (X.A.deeper (envOfC qg sg s.heap.objs.size g cdg)))
    (bd : ∀ (A : Around) (outer : List Env) (s : Shared) (H : Hp), Room k (A.deeper (lamEnv X scope s.heap.objs.size f c')) → PE (lamCx X A outer s H E scope f c') body tb)
    (hN : Ng[i]? = some a) (hv : Vis sg a) (hd : (a == ("__debug__" : Str)) = false := by decide) (hcd : (a == ("__classdict__" : Str)) = false := by decide) :
    PE ((cxOf CXg X.prog X.w X.K X.mg X.base Ng qg sg g cdg X.A X.stack s H Eg).tr pn xe) (.Call (.Name a p1) [] [] p2)
      (fun τ G Q => τ[i]? = some (some (.ref f)) ∧ G c' = some (CodeO c' (X.env.qual ++ "<lambda>")) ∧ (∀ cls d G', E cls d G' → W cls d τ G') ∧ tb σ G Q) := by
  refine ⟨fun pZ sZ τ G Q IZ ⟨hs, hc, hW, ht⟩ => wpAny_Call_Name_kw (thn ((pe_var (pos := p1) (i := i) hN hv hd hcd).run pZ sZ τ G (fun v H1 => v = .ref f ∧ H1 = G) IZ ⟨.ref f, hs, rfl, rfl⟩) fun u t ⟨v, G1, J, r1, ev, eH⟩ => ?_)⟩
  subst ev
  rw [eH] at J
  obtain rfl : u = Value.ref f := r1
  have off : t.heap.get? f = some (PySem.W.kla_obj "<lambda>" (X.env.qual ++ "<lambda>") params body scope (cloFrom X.env.cells scope.names []) pm c' ctv) := J.base.keep f _ of0 n0 nfr fun z => nomatch (show f ∈ ([] : List Addr) from z)
  obtain ⟨⟨oc, vs, tt, hoc, hdc, hvc⟩, _⟩ := J.hok c' _ hc
  refine PySem.W.callWith_F0 ⟨_, _, _, _, off⟩ (wpAny_call (codeAny_mono (?_ : codeAny (model X.prog X.w) (X.A.deeper (envOfC qg sg s.heap.objs.size g cdg)) (.call (.ref f) ⟨[], []⟩) (CR (L2.CX X.prog X.w) (envOfC qg sg s.heap.objs.size g cdg :: X.stack) X.prog X.w G t Q E) t) fun r s' hq => ?_))
  · refine PySem.W.kla_callFunE hr.depth off rfl L.co L.gen rfl ⟨c', oc, vs, tt, rfl, hoc, hdc, hvc⟩ ?_
    rw [bnd]
    refine wpAny_pure (wpAny_newFunctionEnv (fun y hy => (L.own y hy).2) (fun y hy => absurd hy (by simp)) (fun h₁ hns hsb => ⟨J.nolimit.fresh _ hsb, ?_⟩) L.kind)
    show codeAny _ _ (.expr body (lamEnv X scope t.heap.objs.size f c')) _ _
    have J2 : Inv (lamCx X (X.A.deeper (envOfC qg sg s.heap.objs.size g cdg)) (envOfC qg sg s.heap.objs.size g cdg :: X.stack) t G E scope f c') [] σ G { t with heap := h₁, toks := t.toks + ([] : List (Str × Value)).length } :=
      lam_start2 I L J.env0 hr.hd J.base hns fun b o e => hsb.extBut b o (Nat.ne_of_lt (Heap.lt_size e)) (Heap.get?_push_of_some _ e)
    exact PySem.W.kla_codeExpr (wpAny_mono ((bd _ _ t G (hr.deeper _)).run [] _ _ G Q J2 ht) (fun v s' ⟨w', G', J', rv, q⟩ => ⟨w', G', J'.os, J'.bare, J'.base, J'.hok, rv, q⟩) fun e s' hq => hq)
  · cases r with
    | error e => exact tk e s' (XE.of_call J (fun cls d G' h => hW cls d G' h) hq)
    | ok fl =>
      cases fl with
      | ret u => exact J.after hq
      | next => exact False.elim hq
      | brk => exact False.elim hq
      | cont => exact False.elim hq
end
/-- a def that calls what it got, at its slots -/
def GivesS (X : Cx) (Ng : List Str) (x : Str) (sg : Scope) (g : Addr) (cdg : Value) (bg : List Stmt) (a : Str) (q : Str) (TT : (XK → Hp → VK → Prop) → Hp → VK → Prop) : Prop :=
  ∀ (f c' : Addr) (s : Shared) (H : Hp) (Q : VK) (tl : XK → Hp → VK → Prop),
    (∀ (W : WX) (pn : List (Addr × Obj)) (xe : Value → Shared → Prop) (E : XK) (p1 p2 : Pos), Takes ((cxOf C8.CX0 X.prog X.w X.K X.mg X.base Ng x sg g cdg X.A X.stack s H C8.E0).nox.tr pn xe) W →
      PE ((cxOf C8.CX0 X.prog X.w X.K X.mg X.base Ng x sg g cdg X.A X.stack s H C8.E0).nox.tr pn xe) (.Call (.Name a p1) [] [] p2) (fun τ G Q => τ[0]? = some (some (.ref f)) ∧ G c' = some (CodeO c' q) ∧ (∀ cls d G', E cls d G' → W cls d τ G') ∧ tl E G Q)) →
    H c' = some (CodeO c' q) → TT tl H Q →
    ∃ t, PSs (cxOf C8.CX0 X.prog X.w X.K X.mg X.base Ng x sg g cdg X.A X.stack s H C8.E0).nox bg t ∧ t { nx := fun _ H' => Q .non H', rt := Q } (L2.start Ng [.ref f]) H
section
variable {X : Cx}
/-- x(lambda: body) -/
theorem pe_lamS {T : List (Addr × Str)} {TT : (XK → Hp → VK → Prop) → Hp → VK → Prop} {x a : Str} {g c P : Addr} {k : Nat} {pg : Arguments} {bg : List Stmt} {sg : Scope} {dV kV doc pm cdv ct oc : Value} {an od : Option Addr} {osl : Array (Option Value)} {Ng : List Str}
    {params : Arguments} {body : Expr} {scope : Scope} {t : XK → TE} {p lpos pos : Pos} (hg : Gl X x) (hm : X.mg x = some (.ref g)) (hk : PySem.W.keepIn X.K (.ref g) = true)
    (lk : X.K.lookup g = some ⟨oc, od, .func (PySem.W.fnOf x x pg bg sg dV kV doc pm an cdv ct), osl⟩) (hcg : PySem.W.codeIn X.K cdv x = true) (hb : L2.Binds X.K (PySem.W.fnOf x x pg bg sg dV kV doc pm an cdv ct) [a] []) (Sg : FnScope Ng [a] sg) (hNg : Ng[0]? = some a) (hva : Vis sg a)
    (hG : GivesS X Ng x sg g cdv bg a (X.env.qual ++ "<lambda>") TT)
    (TB : TabB X.base X.mg c P) (hcode : X.env.code = .ref c) (hmT : (P, X.env.qual ++ "<lambda>") ∈ T) (hu : ∀ p ∈ T, p.1 = P → p.2 = X.env.qual ++ "<lambda>") (hr : Room (k + 2) X.A) (L : LamS X.env.scope scope) (hdef : defaultsOf params X.env = ([], []))
    (bnd : ∀ (q : Str) (cl : List (Str × Addr)) (pm cv ctv : Value), bindArgs (PySem.W.kla_fn "<lambda>" q params body scope cl pm cv ctv) ⟨[], []⟩ = pure [])
    (bd : ∀ (A : Around) (outer : List Env) (s : Shared) (H : Hp) (E : XK) (f c' : Addr), Room k (A.deeper (lamEnv X scope s.heap.objs.size f c')) → PE (lamCx X A outer s H E scope f c') body (t E))
    (hdb : (x == ("__debug__" : Str)) = false := by decide) (hd : (a == ("__debug__" : Str)) = false := by decide) (hcd : (a == ("__classdict__" : Str)) = false := by decide) :
    PE X (.Call (.Name x p) [.Lambda params body scope lpos] [] pos) (tLam T TT t) := by
  refine ⟨fun pins s σ H Q I ⟨hT, h⟩ => wpAny_Call_Name_kw (ld_glob I hg hm (PySem.W.callWith_K (h₀ := X.base) I.ok.mod.kin hk ?_ (by rfl) (by rfl)) hdb)⟩
  show wpAny _ _ (spliced ((false, eval (.Lambda params body scope lpos) X.env) :: backTo pos (starEach [] X.env))) _ _ s
  refine Calls.spliced_cons (lam_make2 I TB hcode hmT hu hT hdef (L.has I.ok) fun f c' pm' ctv H1 s' I1 eN T1 hf hfn hfr hco => Calls.spliced_nil ⟨I1.kIn, wpAny_call (codeAny_mono (run_ofS (CX := C8.CX0) (E := C8.E0) (Q := Q) (N := Ng) (ps := [a]) (us := [.ref f]) (vs := [.ref f]) lk hcg Sg hr I1.env0 (hb s' [.ref f] I1.kIn rfl) (.cons rfl .nil) rfl fun hr' => ?_) fun r s2 hq => ?_)⟩)
  · obtain ⟨t', ht', hq'⟩ := hG f c' s' H1 Q (fun E H' Q' => t E σ H' Q') (fun W pn xe E p1 p2 tk => pe_actS (CXg := C8.CX0) (Eg := C8.E0) (i := 0) I1 L hf hfn hfr (bnd _ _ _ _ _) tk hr' (fun A outer s H hr2 => bd A outer s H E f c' hr2) hNg hva hd hcd) hco (h H1 eN T1)
    exact ⟨t', ht'.nox, hq'⟩
  · cases r with
    | error e => exact (show False from hq).elim
    | ok fl =>
      cases fl with
      | ret u => exact I1.after hq
      | next => exact False.elim hq
      | brk => exact False.elim hq
      | cont => exact False.elim hq
end
/-- told: (the error, None) or (None, what it gave back) -/
def TPair (K : PySem.W.Frag) (CS : Addr) : (XK → Hp → VK → Prop) → Hp → VK → Prop := fun tl H Q => ∀ H1, Same H H1 →
  tl (fun cls d H' => PySem.W.exmOne K cls (.ref CS) = some true ∧ ∀ a, H' a = none → ∀ t, (upd H' a (exk a cls d)) t = none → Q (.ref t) (upd (upd H' a (exk a cls d)) t (.tup [.ref a, .non]))) H1
    fun v H' => ∀ t, H' t = none → Q (.ref t) (upd H' t (.tup [.non, v]))
end GD
namespace PySem
open Sem (wp)
/-! enumerate of whatever begins as one new iterator, from 0 -/
theorem gd_meetsEnum {v : Value} {o : Obj} {H : Heap → Prop} (B : Begins v o H) :
    Meets (Builtin.«enumerate.__new__» ⟨[.type "enumerate", v], []⟩) (fun _ R s => H s.heap ∧
      R (.ok (.ret (.ref (s.heap.push o).objs.size))) { s with heap := (s.heap.push o).push { cls := .type "enumerate", data := .fields #[.none, .bool false, .ref s.heap.objs.size, rawInt 0, .none, .none] } }) :=
  .of_wp fun P w A R s y => by
    obtain ⟨m, g, dr, k, os⟩ := s
    obtain ⟨y1, y2⟩ := y
    have sub := sub_enumerate
    have it : ∀ {A' : Around} {E : Value → Shared → Prop} {Q : Value → Shared → Prop}, Q (.ref m.objs.size) ⟨m.push o, g, dr, k, os⟩ → wpAny (model P w) A' (pyIter v) Q E ⟨m, g, dr, k, os⟩ := fun q => B.iter P w _ _ ⟨m, g, dr, k, os⟩ _ y1 q
    wp_walk using it
    refine wpAny_stack_any fun st => wpAny_pure ?_
    split
    · rename_i c _ _ _ _ _
      cases (c == Value.type "enumerate") <;> (wp_walk using it; exact ⟨_, rfl, y2⟩)
    · wp_walk using it
      exact ⟨_, rfl, y2⟩
theorem gd_callEnum {prog : Program} {w : World} {A : Around} {E : Value → Shared → Prop} {s : Shared} {v : Value} {o : Obj} {H : Heap → Prop} {Q : Value → Shared → Prop} (B : Begins v o H) (y : H s.heap)
    (q : ∀ m, IsEnum m (s.heap.objs.size + 1) s.heap.objs.size 0 .none → m.get? s.heap.objs.size = some o → (∀ b u, s.heap.get? b = some u → m.get? b = some u) → Q (.ref (s.heap.objs.size + 1)) { s with heap := m }) :
    wpAny (model prog w) A (call (.type "enumerate") [v]) Q E s := by
  refine callType_new F.called_enumerate (by decide) (F.typeCall_enumerate_1 _) (F.newCall_enumerate_1 _) (fun x => F.args_object_init_2 x _) F.entry_enumerate_new (gd_meetsEnum B) ⟨y, ?_⟩
  have sz : (s.heap.push o).objs.size = s.heap.objs.size + 1 := Heap.size_push ..
  show _ ∧ _
  rw [sz]
  have en : IsEnum ((s.heap.push o).push { cls := .type "enumerate", data := .fields #[.none, .bool false, .ref s.heap.objs.size, rawInt 0, .none, .none] }) (s.heap.objs.size + 1) s.heap.objs.size 0 .none := by
    have z := Heap.get?_push_size (s.heap.push o) (o := { cls := .type "enumerate", data := .fields #[.none, .bool false, .ref s.heap.objs.size, rawInt 0, .none, .none] }) rfl
    rw [sz] at z
    exact z
  exact ⟨⟨_, en, rfl⟩, q _ en (Heap.get?_push_of_some _ (Heap.get?_push_size _ B.free)) fun b u x => Heap.get?_push_of_some _ (Heap.get?_push_of_some _ x)⟩
end PySem
namespace GD
open PySem PySem.Spec PyProof.Rows L2
/-- the tuple at a, each item in a new pair -/
def IteT (K : PySem.W.Frag) (a : Addr) : It :=
  ⟨fun i H => ∃ (xs : List V) (x : V), SqT K H a xs ∧ xs[i]? = some x, fun i H v H' => ∃ T x, v = .ref T ∧ H T = none ∧ H' = upd H T (.tup [.int (i : Nat), x]) ∧ ∀ xs, SqT K H a xs → xs[i]? = some x, fun i H => ∃ xs : List V, SqT K H a xs ∧ xs.length ≤ i⟩
theorem turn_enumT {P : Program} {w : World} {K : PySem.W.Frag} {elts : List Expr} {kk : Nat} {tpos : Pos} (a e it : Addr) :
    Turn P w K (.Tuple elts kk tpos) (IteT K a) [e, it] e (fun i h => (∃ old, IsEnum h e it ((i : Nat) : Int) old) ∧ h.IsTupleIter it a i ∧ e ≠ it ∧ e ≠ a ∧ a ≠ it) where
  mem := by simp
  obj := fun i h st b hb => by
    obtain ⟨⟨old, y⟩, ⟨o, ho, hc, hd⟩, _⟩ := st
    rcases (show b = e ∨ b = it by simpa using hb) with z | z
    · rw [z]
      exact ⟨_, y, fun v q => nomatch q⟩
    · rw [z]
      exact ⟨o, ho, fun v q => by rw [hd] at q; cases q⟩
  keep := fun i h h' st k => let ⟨⟨old, y⟩, z, r⟩ := st; ⟨⟨old, k e (by simp) _ y⟩, z.at fun o q => k it (by simp) o q, r⟩
  item := by
    rintro X rfl rfl rfl hc i pins s σ H E I hf ⟨⟨old, y⟩, z, n1, n2, n3⟩ ⟨xs, x, hq, hx⟩
    obtain ⟨its, rv, p, hz⟩ := I.tuple hq
    obtain ⟨u, hu, ru⟩ := rv.get hx
    have el : e < s.heap.objs.size := Heap.lt_size y
    have il : it < s.heap.objs.size := by
      obtain ⟨_, q, _⟩ := z
      exact Heap.lt_size q
    have hi : i < its.toArray.size := by
      rw [List.size_toArray]
      exact (List.getElem?_eq_some_iff.mp hu).1
    refine wpAny_pyNext_enum_itemD (A := X.A) (Draws.tuple (prog := X.prog) (w := X.w) (A := X.A.in1) (by rw [show X.A.in1.handled = X.A.handled from rfl]; exact I.ok.hd hc) it a n3 its.toArray) y ⟨z, p⟩ hi n1 (by simp [n1, n2]) fun x' m tk hp ho hs hT hsz hk => ?_
    obtain rfl : u = x' := by
      have q : its.toArray[i]? = some x' := hp
      rw [List.getElem?_toArray, hu] at q
      exact Option.some.inj q
    refine ⟨_, rfl, wpAny_letOwnedTupleGo_enum (s := { s with heap := m, toks := tk + 1 }) ho fun m2 he sb => ?_⟩
    have hT2 : m2.get? s.heap.objs.size = some { cls := .type "tuple", data := .seq #[.int i tk, u] } := (sb.2 _ (Nat.ne_of_gt el)).trans hT
    have new : ObjOk X.prog X.w (upd H s.heap.objs.size (.tup [.int (i : Nat), x])) m2 s.heap.objs.size (.tup [.int (i : Nat), x]) := ⟨by show 2 ≤ sizeLine; decide, [.int i tk, u], .cons ⟨_, rfl⟩ (.cons ru .nil), ⟨_, hT2, rfl, _, rfl⟩⟩
    have J : Inv X pins σ (upd H s.heap.objs.size (.tup [.int (i : Nat), x])) { s with heap := m2, toks := tk + 1 } :=
      I.turnedNew (ch := [e, it]) (fun b ob hb q => (sb.2 b (fun z => hb (by simp [z]))).trans (hk b ob (fun z => hb (by simp [z])) (fun z => hb (by simp [z])) q)) hf (Nat.le_refl _) new
    refine ⟨.ref s.heap.objs.size, _, J, rfl, ⟨_, x, rfl, I.hok.fresh (Nat.le_refl _), rfl, fun ys hy => ?_⟩, ⟨⟨u, ?_⟩, hs.1.at fun o q => (sb.2 it (Ne.symm n1)).trans q, n1, n2, n3⟩, fun b hb => ?_⟩
    · obtain ⟨its2, rv2, p2, _⟩ := I.tuple hy
      rw [show ys = xs from I.tuple_inj hy hq]
      exact hx
    · rw [show ((i + 1 : Nat) : Int) = (i : Int) + 1 by omega]
      exact he
    · have hl : b < s.heap.objs.size := by
        rcases (show b = e ∨ b = it by simpa using hb) with z | z
        · rw [z]
          exact el
        · rw [z]
          exact il
      rw [upd_ne (Nat.ne_of_lt hl)]
      exact (hf b hb).1
  done := by
    rintro X rfl rfl rfl hc i pins s σ H E I hf ⟨⟨old, y⟩, z, n1, n2, n3⟩ ⟨xs, hq, hx⟩
    obtain ⟨its, rv, p, hz⟩ := I.tuple hq
    obtain ⟨f0, f1, f2, f3, f4, f5⟩ := hf it (by simp)
    have hl := rv.length
    have hh : X.A.in1.handled = none := by
      rw [show X.A.in1.handled = X.A.handled from rfl]
      exact I.ok.hd hc
    have D : Draws X.prog X.w X.A.in1 it [it, a] i (fun _ _ => False) (fun j h => j = i ∧ h.IsTupleIter it a i ∧ h.IsTuple a its.toArray) :=
      ⟨fun _ _ st => let ⟨o, ho, _⟩ := st.2.1; ⟨o, ho⟩, fun _ _ _ st hk => ⟨st.1, st.2.1.at fun o e => hk it (by simp) o e, st.2.2.at fun o e => hk a (by simp) o e⟩,
        fun j s Q E hj st _ => absurd st.1 (Nat.ne_of_lt hj), fun s Q E st hE => wpAny_nextOf_tuple_end hh st.2.1 st.2.2 (by simp; omega) hE⟩
    exact wpAny_pyNext_enum_endD D y ⟨rfl, z, p⟩ fun m eb => ⟨rfl, I.turned (t' := s.toks) (fun b o hb q => eb b o hb q) f0 f1 f3 f4 f5⟩
  self := fun A i s Q E st h => let ⟨⟨_, y⟩, _⟩ := st; wpAny_pyIter_enum y h
def iEnumT (K : PySem.W.Frag) (ta : TA) : TI := fun σ H R => ta σ H fun vs H1 => ∃ a xs, vs = [.ref a] ∧ SqT K H1 a xs ∧ R (IteT K a) H1
theorem pi_enumT {X : Cx} {e : Expr} {ta : TA} {p pos tpos : Pos} {elts : List Expr} {kk : Nat} (hg : Gl X "enumerate") (hm : X.mg "enumerate" = none) (ha : PA X [e] ta) (hs : starEach [e] X.env = [(false, eval e X.env)] := by rfl) :
    PI X (.Tuple elts kk tpos) (.Call (.Name "enumerate" p) [e] [] pos) (iEnumT X.K ta) := by
  refine ⟨fun pins s σ H R I h => Call_ (ld_blt I hg hm boot_enumerate (PyProof.Rows.callWith_type1 (thn (ha.run pos pins s σ H _ I h) fun us s1 ⟨vs, H1, I1, r1, a, xs, ex, hq, q⟩ => ?_) hs rfl))⟩
  subst ex
  cases r1 with
  | cons r rr =>
    cases rr
    cases r
    obtain ⟨its, rv, y, hz⟩ := I1.tuple hq
    have al : a < s1.heap.objs.size := by
      obtain ⟨o, ho, _⟩ := id y
      exact Heap.lt_size ho
    refine PySem.gd_callEnum (begins_tuple a its.toArray) y fun m en hi hk => wpAny_pyIter_enum en ?_
    refine ⟨s1.heap.objs.size + 1, [s1.heap.objs.size + 1, s1.heap.objs.size], _, _, H1, rfl, I1.kept (t' := s1.toks) hk, turn_enumT a (s1.heap.objs.size + 1) s1.heap.objs.size, ⟨⟨.none, en⟩, ⟨_, hi, rfl, rfl⟩, Nat.succ_ne_self _, Nat.ne_of_gt (Nat.lt_succ_of_lt al), Nat.ne_of_lt al⟩, fun b hb => ?_, q⟩
    have hle : s1.heap.objs.size ≤ b := by
      rcases (show b = s1.heap.objs.size + 1 ∨ b = s1.heap.objs.size by simpa using hb) with z | z
      · rw [z]
        exact Nat.le_add_right _ _
      · rw [z]
        exact Nat.le_refl _
    exact I1.fpOk hle (I1.hok.fresh hle)
theorem walk_enumT {K : PySem.W.Frag} {a : Addr} {xs : List V} : Walk (IteT K a) xs.length (fun H => SqT K H a xs) (YPair (fun i => some (.int (i : Nat))) (fun i => xs[i]?)) := by
  refine ⟨fun i H hi q => ⟨xs, xs[i], q, List.getElem?_eq_getElem hi⟩, fun H q => ⟨xs, q, Nat.le_refl _⟩, fun i H v H' hi q y => ?_⟩
  obtain ⟨T, x, h1, h2, h3, h4⟩ := y
  exact ⟨T, .int (i : Nat), x, h1, h2, h3, rfl, h4 xs q⟩
end GD
namespace GD
open PySem PySem.Spec PyProof.Rows L2
def letB (c : Nat) : Bool := decide (97 ≤ c) && decide (c ≤ 122)
def nameB (x : Str) : Bool := decide (1 ≤ x.length ∧ x.length ≤ 8) && (TL.tl x).all letB
def spName1 : Sp := fun vs H Q _ => ∃ x : Str, vs = [.str x] ∧ x.length ≤ 100000 ∧ ∀ H', Same H H' → Q (.bl (nameB x)) H'
theorem lt_sign (a b : Nat) : decide ((⟨#[a]⟩ : Str).cps.toList < (⟨#[b]⟩ : Str).cps.toList) = decide (a < b) := by
  refine decide_eq_decide.mpr ?_
  show [a] < [b] ↔ a < b
  constructor
  · intro h
    cases h with
    | rel h => exact h
    | cons h => cases h
  · intro h
    exact .rel h
end GD
namespace K01
open PySem PySem.Spec PyProof.Rows L2 GD
section
variable {P : Program} {w : World} {K : PySem.W.Frag} {mg : Str → Option Value} {base : Heap}
abbrev NNa : List Str := ["text", "letter"]
theorem scNa : FnScope NNa ["text"] (defScope pIsName) := ⟨rfl, rfl, rfl, by decide +kernel, rfl, by decide +kernel, by decide +kernel⟩
theorem ok_isname {f : Addr} {fd : FuncData} (F : Fun K "is_name" "is_name" pIsName f fd) (S : Forms1 mg) (gl : ∃ u, mg "LONGEST_NAME" = some u ∧ RelV (.int 8) u) : FnOk P w K mg base CX0 1 f fd ["text"] spName1 := by
  refine F.ok scNa (fun vs H Q E h => ?_) (fun cdv A outer s H vs Q E hr h => ?_)
  · obtain ⟨x, rfl, _⟩ := h
    rfl
  · obtain ⟨x, rfl, hx, q⟩ := h
    obtain ⟨um, gm, rm⟩ := gl
    have xl : x.length ≤ sizeLine := small_len hx
    refine ⟨_, pss_one (ps_ret (pe_and (pe_chain op_le op_le pe_int (pe_callB call_len_str (by rfl) S.len PySem.boot_len (pa_cons (pv 0) pa_nil)) (pe_glob (by rfl) gm rm))
      (pe_one (pe_callB (cr_all rfl) (by rfl) S.all (by decide +kernel) (pa_cons (pe_lc (own := [("letter", 1)]) (g := gName 1) (tt := tYes) rfl scNa.nd (pi_str (pv 0)) (blkOk_by (N := NNa) (sc := defScope pIsName) (by decide +kernel))
        (fun _ _ _ _ _ => pg_name (i := 1) scNa.nd rfl (.inl rfl)) (fun _ _ _ _ _ => pts_nil) (fun _ _ _ _ _ => pe_chain op_le_str op_le_str pe_str (pv 1) pe_str)) pa_nil))))), ?_⟩
    refine ⟨_, rfl, x, rfl, xl, _, _, rfl, rfl, _, rfl, ?_⟩
    have bad : ¬ (1 ≤ x.length ∧ x.length ≤ 8) → Q (.bl false) H := fun e => by
      have z := q H (Same.refl H)
      rw [nameB, decide_eq_false e, Bool.false_and] at z
      exact z
    by_cases h1 : (1 : Int) ≤ (x.length : Int)
    · rw [decide_eq_true h1]
      refine iteT ⟨_, _, rfl, rfl, _, rfl, ?_⟩
      by_cases h2 : (x.length : Int) ≤ 8
      · rw [decide_eq_true h2]
        refine iteT ?_
        refine ⟨_, rfl, x, rfl, fun D hD => ?_⟩
        refine lc_it (walk_str (z := x)) (fun i H' => Same H H' ∧ H' D = some (.lst ((((TL.tl x).take i).map letB).map V.bl))) ⟨same_new hD, upd_same⟩ (fun _ _ _ _ => True.intro) ?_ ?_
        · rintro i v Hx H' hi ⟨s1, eD⟩ ⟨rfl, c, hc, rfl⟩
          have hc2 : (TL.tl x)[i]? = some c := by
            rw [← hc]
            exact Array.getElem?_toList
          have fin : ∀ b : Bool, b = letB c → ∃ acc, H' D = some (.lst acc) ∧ acc.length < sizeLine ∧ Same H (upd H' D (.lst (acc ++ [.bl b]))) ∧ (upd H' D (.lst (acc ++ [.bl b]))) D = some (.lst ((((TL.tl x).take (i + 1)).map letB).map V.bl)) := by
            rintro b rfl
            refine ⟨_, eD, ?_, same_upd s1 hD, ?_⟩
            · rw [List.length_map, List.length_map, List.length_take]
              exact Nat.lt_of_le_of_lt (Nat.min_le_right _ _) (by rw [← TL.len_tl]; exact Nat.lt_of_lt_of_le (show x.length < 9 by omega) (by decide))
            · rw [upd_same, take_next hc2, List.map_append, List.map_append]
              rfl
          refine ⟨rfl, _, rfl, _, _, rfl, rfl, _, rfl, ?_⟩
          rw [show (("a" : Str)) = ⟨#[97]⟩ from rfl, lt_sign]
          by_cases a1 : c < 97
          · rw [decide_eq_true a1]
            refine iteF (fin false ?_)
            rw [letB, decide_eq_false (by omega)]
            rfl
          · rw [decide_eq_false a1]
            refine iteT ⟨_, _, rfl, rfl, fin _ ?_⟩
            rw [show (("z" : Str)) = ⟨#[122]⟩ from rfl, lt_sign, letB, decide_eq_true (show 97 ≤ c by omega), Bool.true_and]
            by_cases a2 : 122 < c
            · rw [decide_eq_true a2, decide_eq_false (by omega)]
              rfl
            · rw [decide_eq_false a2, decide_eq_true (by omega)]
              rfl
        · rintro H' ⟨s1, eD⟩
          rw [List.take_of_length_le (by rw [← TL.len_tl]; exact Nat.le_refl _)] at eD
          refine ⟨D, _, rfl, SqL.of eD, ?_⟩
          rw [List.all_map]
          have z := q H' s1
          rw [nameB, decide_eq_true (show 1 ≤ x.length ∧ x.length ≤ 8 by omega), Bool.true_and] at z
          exact z
      · rw [decide_eq_false h2]
        refine iteF ?_
        exact bad fun z => h2 (by omega)
    · rw [decide_eq_false h1]
      refine iteF ⟨_, rfl, iteF ?_⟩
      exact bad fun z => h1 (by omega)
end
end K01
/-! t.index(x) of a tuple of texts: of one that is known to have no dict of its own -/
namespace GD
open PySem PySem.Spec PyProof.Rows L2
/-- a tuple that the heap holds as one known object without a dict -/
def TupF (H : Hp) (j : Addr) (xs : List V) : Prop := ∃ o : Obj, o.dict = none ∧ H j = some (.frz o (.tup xs))
theorem sqT_fz {K : PySem.W.Frag} {H : Hp} {j : Addr} {xs : List V} {o : Obj} (h : H j = some (.frz o (.tup xs))) : SqT K H j xs := .inl (.inr ⟨o, h⟩)
theorem TupF.sq {K : PySem.W.Frag} {H : Hp} {j : Addr} {xs : List V} (h : TupF H j xs) : SqT K H j xs := by
  obtain ⟨o, _, e⟩ := h
  exact sqT_fz e
theorem TupF.same {H H' : Hp} {j : Addr} {xs : List V} (s : Same H H') (h : TupF H j xs) : TupF H' j xs := by
  obtain ⟨o, d, e⟩ := h
  exact ⟨o, d, s _ _ e⟩
theorem TupF.ext {H H' : Hp} {j : Addr} {xs : List V} (x : ∀ b o, H b = some o → (∀ ps, o ≠ .tbl ps) → H' b = some o) (h : TupF H j xs) : TupF H' j xs := by
  obtain ⟨o, d, e⟩ := h
  exact ⟨o, d, x _ _ e (fun ps z => by cases z)⟩
theorem TupF.lst {H : Hp} {j l : Addr} {xs ys zs : List V} (el : H l = some (.lst ys)) (h : TupF H j xs) : TupF (upd H l (.lst zs)) j xs := by
  obtain ⟨o, d, e⟩ := h
  exact ⟨o, d, by rw [upd_ne (ne_of e el (fun z => by cases z))]; exact e⟩
section
variable {X : Cx}
/-- tuple(l) of a list: a new known tuple -/
theorem call_tupleF : CallR X (.type "tuple") (fun xs H Q => ∃ p ys, xs = [.ref p] ∧ SqL X.K H p ys ∧ ∀ l o, H l = none → o.dict = none → Q (.ref l) (upd H l (.frz o (.tup ys)))) := by
  intro pins s σ H xs us Q I r h
  obtain ⟨p, ys, rfl, hq, q⟩ := h
  obtain ⟨u, rfl, rx⟩ := vals1 r
  cases rx
  obtain ⟨its, r', pl, hz⟩ := I.list hq
  have hlen := r'.length
  refine call_tuple_list pl.isList (fun h' kp => ?_) (by simp only [List.size_toArray] <;> omega)
  have I1 : Inv X pins σ H { s with heap := h' } := I.kept (t' := s.toks) kp
  have I2 : Inv X pins σ (upd H h'.objs.size (.frz { cls := .type "tuple", data := .seq its.toArray } (.tup ys))) { s with heap := h'.push { cls := .type "tuple", data := .seq its.toArray } } :=
    I1.laid (t' := s.toks) (fun b o e => Heap.get?_push_of_some _ e) (Nat.le_refl _) (show ObjOk X.prog X.w _ _ _ (.frz _ (.tup ys)) from ⟨Heap.get?_push_size _ rfl, hz, its, r', IsTup.new _ _⟩)
  exact ⟨.ref h'.objs.size, _, I2, rfl, q _ _ (I1.hok.fresh (Nat.le_refl _)) rfl⟩
def rIndexT (K : PySem.W.Frag) : V → List V → Hp → VK → Prop := fun x xs H Q => ∃ (a : Addr) (ys : List Str) (y : Str), x = V.ref a ∧ xs = [.str y] ∧ SqT K H a (ys.map V.str) ∧ y ∈ ys ∧ Q (.int (ys.idxOf y : Nat)) H
theorem mt_indexT : MtR X "tuple.index" (rIndexT X.K) := by
  intro pins s σ H x xs v us Q I rx rxs h
  obtain ⟨a, ys, y, rfl, rfl, hs, hy, q⟩ := h
  cases rx
  cases rxs with
  | cons ry rt =>
    rename_i uy ut
    cases rt
    obtain ⟨tk, rfl⟩ := ry
    obtain ⟨its, rv, ht, hz⟩ := I.tuple hs
    refine SeqAt.tuple_index_strs ht rv.strs hy ?_
    exact ⟨.int (ys.idxOf y : Nat), H, I.tok _, ⟨_, rfl⟩, q⟩
/-- a method of such a tuple -/
def tTM (r : V → List V → Hp → VK → Prop) (to : TE) (t : TA) : TE := fun σ H Q => to σ H fun x H1 => (∃ a xs, x = .ref a ∧ TupF H1 a xs) ∧ t σ H1 fun xs H2 => r x xs H2 Q
theorem pe_tm {o e : Expr} {es : List Expr} {to : TE} {t : TA} {name : Str} {apos cpos : Pos} {id : String} {r : V → List V → Hp → VK → Prop} (slot : Slot "tuple" name id) (hty : typeOf (.builtin id) = pure (.type "method_descriptor")) (hm : MtR X id r) (ho : PE X o to) (ha : PA X (e :: es) t)
    (hbase : attributeBase o name X.env (eval o X.env) = eval o X.env := by rfl)
    (hfew : ((backTo cpos (starEach (e :: es) X.env)).all (fun x => !x.1) && (backToKw cpos (keywordEach [] X.env)).all (fun x => x.1.isSome)
      && decide ((e :: es).length + ([] : List Keyword).length + (if ([] : List Keyword).isEmpty then 0 else 1) < 30)) = true := by rfl)
    (hline : (apos.endLine == cpos.line) = true := by rfl) (hs : starEach (e :: es) X.env = (false, eval e X.env) :: starEach es X.env := by rfl) (hplain : (backTo cpos (starEach es X.env)).any (·.1) = false := by rfl) :
    PE X (.Call (.Attribute o name apos) (e :: es) [] cpos) (tTM r to t) := by
  refine ⟨fun pins s σ H Q I h => ?_⟩
  refine wpAny_Call_method_late hbase hfew hline rfl (thn (ho.run pins s σ H _ I h) fun v s1 ⟨x, H1, I1, r1, ty, q1⟩ => ?_)
  obtain ⟨a, ys, rfl, ob, dn, e1⟩ := ty
  cases r1
  obtain ⟨g1, z, its, rv, tp⟩ := I1.hok a _ e1
  refine ⟨"tuple", id, PySem.F.plainAttrs_tuple, slot, hty, tp.typeIs, fun b eb => ?_, ?_⟩
  · cases eb
    exact ⟨ob, g1, dn⟩
  have hA := ha.run cpos pins s1 σ H1 _ I1 q1
  rw [hs] at hA ⊢
  refine Calls.callWith_builtin (by show (false || (backTo cpos (starEach es X.env)).any (·.1)) = false; rw [hplain] <;> rfl) (Calls.evalArgs_plain ?_)
  exact thn hA fun us s2 ⟨vs, H2, I2, r2, q2⟩ => hm pins s2 σ H2 (.ref a) vs _ us Q I2 rfl r2 q2
end
end GD
namespace GD
open PySem PySem.Spec PyProof.Rows L2
def lined3 : List Str := ["clean", "spent", "free"]
def mLine (p : Str × Str) : Str := (p.2 ++ " ") ++ p.1
def mKv (ml : List (Str × Str)) : List (Key × V) := ml.map fun q => (.inr q.1, .str q.2)
structure MansOk (names : List Str) (ml : List (Str × Str)) (rest : List Str) : Prop where
  nm : ∀ p ∈ ml, p.1 ∈ names ∧ Free 32 p.1 ∧ p.1.length ≤ 100
  mn : ∀ p ∈ ml, p.2 ∈ lined3
  nd : (ml.map (·.1)).Nodup
  r : ∀ x, rest.head? = some x → (Txt.split x " ").length ≠ 2 ∧ x.length ≤ 90000
  l : ml.length ≤ 10
  rl : rest.length ≤ 1000
def spRdMan : Sp := fun vs H Q _ => ∃ (l j : Addr) (l0 : Str) (names : List Str) (ml : List (Str × Str)) (rest : List Str), vs = [.ref l, .ref j] ∧ H l = some (.lst ((l0 :: (ml.map mLine ++ rest)).map V.str)) ∧ TupF H j (names.map V.str) ∧ MansOk names ml rest ∧
  ∀ p H', H p = none → Same H H' → H' p = some (.dK (mKv ml)) → Q (.ref p) H'
theorem free_lined {x : Str} (h : x ∈ lined3) : Free 32 x ∧ x.length ≤ 5 := by
  unfold lined3 at h
  simp only [List.mem_cons, List.not_mem_nil, or_false] at h
  rcases h with rfl | rfl | rfl
  · exact ⟨by unfold Free; decide +kernel, by decide +kernel⟩
  · exact ⟨by unfold Free; decide +kernel, by decide +kernel⟩
  · exact ⟨by unfold Free; decide +kernel, by decide +kernel⟩
theorem split_mLine {p : Str × Str} (h1 : Free 32 p.1) (h2 : Free 32 p.2) : Txt.split (mLine p) " " = [p.2, p.1] := by
  have e : mLine p = Txt.join " " [p.2, p.1] := by
    rw [join_cons (by simp), join_one]
    rfl
  rw [e]
  refine split_sp (by simp) fun x hx => ?_
  rcases List.mem_cons.mp hx with e | e
  · rw [e]
    exact h2
  · rw [List.mem_singleton.mp e]
    exact h1
theorem mKv_none {ml : List (Str × Str)} {x : Str} (h : x ∉ ml.map (·.1)) : valV (mKv ml) (.inr x) = none := by
  unfold valV mKv
  rw [List.find?_eq_none.mpr]
  · rfl
  · intro kv hkv
    obtain ⟨q, hq, rfl⟩ := List.mem_map.mp hkv
    simp only [decide_eq_true_eq]
    intro e
    exact h (List.mem_map.mpr ⟨q, hq, Sum.inr.inj e⟩)
end GD
namespace K01
open PySem PySem.Spec PyProof.Rows L2 GD
section
variable {P : Program} {w : World} {K : PySem.W.Frag} {mg : Str → Option Value} {base : Heap}
def Lined (K : PySem.W.Frag) (mg : Str → Option Value) : Prop := ∃ p, mg "LINED_MANNERS" = some (.ref p) ∧ ∀ H, SqT K H p (lined3.map V.str)
abbrev NMn : List Str := ["lines", "jobs", "manners", "line", "words"]
theorem scMn : FnScope NMn ["lines", "jobs"] (defScope pReadManners) := ⟨rfl, rfl, rfl, by decide +kernel, rfl, by decide +kernel, by decide +kernel⟩
theorem ok_rdman {f : Addr} {fd : FuncData} (F : Fun K "read_manners" "read_manners" pReadManners f fd) (S : Reads1 mg) (L : Lined K mg) : FnOk P w K mg base CX0 1 f fd ["lines", "jobs"] spRdMan := by
  refine F.ok scMn (fun vs H Q E h => ?_) (fun cdv A outer s H vs Q E hr h => ?_)
  · obtain ⟨l, j, l0, names, ml, rest, rfl, _⟩ := h
    rfl
  · obtain ⟨l, j, l0, names, ml, rest, rfl, hl, hj, ok, q⟩ := h
    obtain ⟨pL, gL, sL⟩ := L
    refine ⟨_, pss_cons (ps_set (i := 2) scMn.nd rfl (.inl rfl) pe_dnewK)
      (pss_cons (ps_for PassesOwn.never rfl (pi_list (pe_slice sl_list (pv 0) (po_some pe_int) po_none)) (pg_name (i := 3) scMn.nd rfl (.inl rfl))
        (pss_cons (ps_set (i := 4) scMn.nd rfl (.inl rfl) (pe_bm PySem.F.plainAttrs_str PySem.F.slot_str_split PySem.F.type_str_split mt_split (pv 3) (pa_cons pe_str pa_nil)))
        (pss_cons (ps_if (pw_or (pt_cmpR op_ne (pe_callB call_len_seq (by rfl) S.f.len PySem.boot_len (pa_cons (pv 4) pa_nil)) pe_int (nomark _)) (pw_or1 (pt_cmpR op_notIn_seq (pe_ix ix_list (pv 4) pe_int (fun _ _ => rfl)) (pe_glob (v := .ref pL) (by rfl) gL rfl) (by rfl)))).pt
            (pss_one (ps_ret (pv 2))) pss_nil)
        (pss_cons (ps_if (pw_or (pt_cmpR op_notIn_seq (pe_ix ix_list (pv 4) pe_int (fun _ _ => rfl)) (pv 1) (by rfl)) (pw_or1 (pt_cmp (pc_din (u1 hr) (pe_ix ix_list (pv 4) pe_int (fun _ _ => rfl)) (pv 2))))).pt
            (pss_one (ps_ret (pv 2))) pss_nil)
        (pss_one (ps_dput (u1 hr) (pv 2) (pe_ix ix_list (pv 4) pe_int (fun _ _ => rfl)) (pe_ix ix_list (pv 4) pe_int (fun _ _ => rfl)) (by rfl)))))))
      (pss_one (ps_ret (pv 2)))), ?_⟩
    intro d hd
    have s1 := same_new (o := .dK []) hd
    refine ⟨_, rfl, _, rfl, ?_⟩
    refine ⟨l, _, rfl, SqL.of (s1 _ _ hl), fun p hp => ?_⟩
    have e1 := cut_strs_end (l0 :: (ml.map mLine ++ rest)) 1
    rw [List.drop_one, List.tail_cons] at e1
    rw [show (some (1 : Int)) = some ((1 : Nat) : Int) from rfl, e1]
    have s2 := same_new (o := .lst ((ml.map mLine ++ rest).map V.str)) hp
    have ep : (upd (upd H d (.dK [])) p (.lst ((ml.map mLine ++ rest).map V.str))) p = some (.lst ((ml.map mLine ++ rest).map V.str)) := upd_same
    have ed : (upd (upd H d (.dK [])) p (.lst ((ml.map mLine ++ rest).map V.str))) d = some (.dK []) := s2 _ _ upd_same
    have s12 := s1.trans s2
    generalize upd (upd H d (.dK [])) p (.lst ((ml.map mLine ++ rest).map V.str)) = H1 at ep ed s12 ⊢
    have dpd : p ≠ d := fun z => by
      rw [z, ed] at ep
      cases ep
    have lml : (ml.map mLine).length = ml.length := List.length_map ..
    refine ⟨p, rfl, ⟨_, SqL.of ep⟩, for_list (K := K) (a := p) (xs := (ml.map mLine ++ rest).map V.str) (fun i σ H' => ∃ x3 x4 : Option V, σ = [some (.ref l), some (.ref j), some (.ref d), x3, x4] ∧ Same H H' ∧ H' p = some (.lst ((ml.map mLine ++ rest).map V.str)) ∧ H' d = some (.dK (mKv (ml.take i))) ∧ i ≤ ml.length)
      ⟨none, none, rfl, s12, ep, ed, Nat.zero_le _⟩ (fun i σ H' _ ⟨_, _, _, _, e, _⟩ => SqL.of e) ?_ ?_⟩
    · rintro i v σ H' hx ⟨x3, x4, rfl, s3, ep3, ed3, hi⟩
      rw [List.getElem?_map] at hx
      have okl := ok.l
      by_cases hlt : i < ml.length
      · have hm : ml[i]? = some ml[i] := List.getElem?_eq_getElem hlt
        generalize ml[i] = m0 at hm
        have hmem := List.mem_of_getElem? hm
        obtain ⟨hn, hfr, hlen⟩ := ok.nm m0 hmem
        obtain ⟨hf2, hlen2⟩ := free_lined (ok.mn m0 hmem)
        rw [List.getElem?_append_left (by omega), List.getElem?_map, hm] at hx
        obtain rfl : V.str (mLine m0) = v := Option.some.inj hx
        have lln : (mLine m0).length ≤ 106 := by
          rw [mLine, len_app, len_app, len1]
          omega
        refine ⟨_, rfl, rfl, _, _, rfl, rfl, rfl, small_len (by omega), fun w npw => ?_⟩
        have sw := same_new (o := .lst ((Txt.split (mLine m0) " ").map V.str)) npw
        have ew : (upd H' w (.lst ((Txt.split (mLine m0) " ").map V.str))) w = some (.lst ([m0.2, m0.1].map V.str)) := by rw [upd_same, split_mLine hfr hf2]
        generalize upd H' w (.lst ((Txt.split (mLine m0) " ").map V.str)) = H2 at sw ew ⊢
        have ed4 := sw _ _ ed3
        have s13 := s3.trans sw
        refine ⟨_, rfl, w, _, rfl, .inl (SqL.of ew), rfl, _, rfl, iteF ?_⟩
        refine ⟨_, rfl, w, _, 0, _, rfl, rfl, SqL.of ew, at0, pL, _, rfl, .inr (sL _), rfl, by decide +kernel, _, rfl, ?_⟩
        rw [if_pos rfl, inV_strs, decide_eq_true (ok.mn m0 hmem)]
        refine iteF ?_
        refine ⟨_, rfl, w, _, 1, _, rfl, rfl, SqL.of ew, at1, _, rfl, j, _, rfl, .inr (hj.same s13).sq, rfl, ?_, _, rfl, ?_⟩
        · rw [List.all_map]
          exact List.all_eq_true.mpr fun _ _ => rfl
        rw [if_pos rfl, inV_strs, decide_eq_true hn]
        refine iteF ?_
        have hnew : m0.1 ∉ (ml.take i).map (·.1) := fun hc => by
          obtain ⟨q0, hq0, eq0⟩ := List.mem_map.mp hc
          obtain ⟨jx, hjx, ej⟩ := List.getElem_of_mem hq0
          rw [List.length_take] at hjx
          rw [List.getElem_take] at ej
          have z := List.pairwise_iff_getElem.mp ok.nd jx i (by rw [List.length_map]; omega) (by rw [List.length_map]; omega) (by omega)
          rw [List.getElem_map, List.getElem_map, ej, (List.getElem?_eq_some_iff.mp hm).2] at z
          exact z eq0
        have dg := DGet.k (k := .inr m0.1) ed4
        rw [mKv_none hnew] at dg
        refine ⟨_, rfl, w, _, 1, _, rfl, rfl, SqL.of ew, at1, _, rfl, d, none, rfl, dg, _, rfl, iteF ?_⟩
        refine ⟨_, rfl, w, _, 0, _, rfl, rfl, SqL.of ew, at0, _, rfl, _, rfl, w, _, 1, _, rfl, rfl, SqL.of ew, at1, d, _, rfl, DPut.k (k := .inr m0.1) ed4 ?_, ?_⟩
        · unfold mKv
          rw [List.length_map, List.length_take]
          exact Nat.lt_of_le_of_lt (Nat.min_le_left _ _) (Nat.lt_of_lt_of_le (show i < 11 by omega) (by decide))
        rw [putK_new _ (mKv_none hnew)]
        refine ⟨_, _, rfl, same_upd s13 hd, by rw [upd_ne dpd]; exact sw _ _ ep3, ?_, by omega⟩
        rw [upd_same, take_next hm, mKv, mKv, List.map_append]
        rfl
      · have ei : i = ml.length := by omega
        rw [List.getElem?_append_right (by omega), lml, ei, Nat.sub_self] at hx
        cases er : rest with
        | nil =>
          rw [er] at hx
          cases hx
        | cons r0 rr =>
          rw [er] at hx
          obtain rfl : V.str r0 = v := Option.some.inj hx
          obtain ⟨h2, hll⟩ := ok.r r0 (by rw [er]; rfl)
          refine ⟨_, rfl, rfl, _, _, rfl, rfl, rfl, small_len (by omega), fun w npw => ?_⟩
          have sw := same_new (o := .lst ((Txt.split r0 " ").map V.str)) npw
          have ew : (upd H' w (.lst ((Txt.split r0 " ").map V.str))) w = some (.lst ((Txt.split r0 " ").map V.str)) := upd_same
          generalize upd H' w (.lst ((Txt.split r0 " ").map V.str)) = H2 at sw ew ⊢
          refine ⟨_, rfl, w, _, rfl, .inl (SqL.of ew), rfl, _, rfl, ?_⟩
          rw [show (!decide (V.int (((Txt.split r0 " ").map V.str).length : Int) = V.int 2)) = true by
            rw [decide_eq_false fun z => h2 (by have := V.int.inj z; rw [List.length_map] at this; omega)]
            rfl]
          refine iteT (iteT ?_)
          have ed4 := sw _ _ ed3
          rw [ei, List.take_length] at ed4
          exact ⟨_, rfl, q d H2 hd (s3.trans sw) ed4⟩
    · rintro σ H' ⟨x3, x4, rfl, s3, ep3, ed3, hi⟩
      rw [List.length_map, List.length_append, lml] at ed3 hi
      rw [List.take_of_length_le (by omega)] at ed3
      exact ⟨_, rfl, q d H' hd s3 ed3⟩
end
end K01
/-! set(a list of keys of one kind), any number of them: the keys met, how many differ -/
namespace GD
open PySem PySem.Spec PyProof.Rows
section
variable {prog : Program} {w : World} {Kt : Type} [DecidableEq Kt] [BEq Kt] [LawfulBEq Kt]
/-- met among the first i -/
def metB (val : Nat → Kt) (i : Nat) (k : Kt) : Bool := (List.range i).any fun j => val j == k
/-- how many differ among the first i -/
def metN (val : Nat → Kt) : Nat → Nat
  | 0 => 0
  | i + 1 => if metB val i (val i) = true then metN val i else metN val i + 1
omit [DecidableEq Kt] [LawfulBEq Kt] in
theorem metN_le (val : Nat → Kt) : ∀ i, metN val i ≤ i
  | 0 => Nat.le_refl _
  | i + 1 => by
    have := metN_le val i
    unfold metN
    split <;> omega
theorem metB_succ (val : Nat → Kt) (i : Nat) (k : Kt) : metB val (i + 1) k = (metB val i k || decide (k = val i)) := by
  unfold metB
  rw [List.range_succ, List.any_append, List.any_cons, List.any_nil, Bool.or_false]
  congr 1
  rw [Bool.eq_iff_iff, beq_iff_eq, decide_eq_true_iff]
  exact eq_comm
variable {knd : KeyKind prog w Kt} {A : Around} {R : Result → Shared → Prop} {I : Addr} {fp wr : List Addr} {G : Array GenState → Array GenState → Prop} {n : Nat} {Pv : Nat → Value → Prop} {St : Nat → Shared → Prop}
theorem update_keys (W : WalksS prog w A.in1 I fp wr G n Pv St) (S : Addr) (hSf : S ∉ fp) (val : Nat → Kt) (hval : ∀ i v, Pv i v → knd.is (val i) v = true ∧ v.scannable = true) (hb : n + 1 < scanBound) :
    ∀ (m i : Nat) (s : Shared), n - i = m → i ≤ n → St i s → s.heap.SetOf knd S (metB val i) (metN val i) →
      (∀ s', Moved (S :: wr) G s s' → s'.heap.SetOf knd S (metB val n) (metN val n) → R (.ok (.ret .none)) s') → codeAny (model prog w) A (.builtin "set.update.loop" ⟨[.ref S, .ref I], []⟩) R s := by
  have out : S ∉ wr := fun h => hSf (W.sub _ h)
  have keep : ∀ {i : Nat} {s s' : Shared}, Moved wr G s s' → s.heap.SetOf knd S (metB val i) (metN val i) → s'.heap.SetOf knd S (metB val i) (metN val i) := fun hm ⟨o, es, ep, t, ho, r⟩ => ⟨o, es, ep, t, hm.heap S _ out ho, r⟩
  have wide : ∀ b ∈ wr, b ∈ S :: wr := fun b h => List.mem_cons_of_mem _ h
  intro m
  induction m with
  | zero =>
    intro i s hm hi hst hS hR
    obtain rfl : i = n := by omega
    refine codeAny_builtin F.entry_set_update_loop ?_
    rw [Around.under_plainId F.plain_set_update_loop _]
    exact wpAny_bind (W.done s _ _ hst fun s' mv => wpAny_pure (hR s' (mv.mono wide) (keep mv hS)))
  | succ m ih =>
    intro i s hm hi hst hS hR
    have hlt : i < n := by omega
    refine codeAny_builtin F.entry_set_update_loop ?_
    rw [Around.under_plainId F.plain_set_update_loop _]
    refine wpAny_bind (W.item i s _ _ hlt hst fun v s' hv hst' mv => ?_)
    obtain ⟨hk, hsc⟩ := hval i v hv
    refine wpAny_bind (wpAny_holding ?_)
    unfold setAdd
    have room := metN_le val i
    have hS' := keep mv hS
    refine wpAny_holding (wpAny_bind (knd.pyHash hk (wpAny_setAddHashed_of (s := { s' with toks := s'.toks + 1 }) hk hsc hS' (by omega) fun h' same hS2 => ?_)))
    refine wpAny_pure ⟨plainId_quiet F.plain_set_update_loop _, ih (i + 1) _ (by omega) hlt (W.frame _ s' _ _ hst' (Nat.le_succ _) fun b hb o e => (same.2 b fun z => hSf (z ▸ hb)).trans e) ?_ fun s2 mv2 hS3 => ?_⟩
    · exact SetOf_congr hS2 (fun k => (metB_succ val i k).symm) rfl
    · exact hR s2 (Moved.trans W.gtrans ((mv.mono wide).then_heap (Nat.le_succ _) fun b o hb e => (same.2 b fun z => hb (z ▸ List.mem_cons_self)).trans e) mv2) hS3
end
section
variable {prog : Program} {w : World} {A : Around} {E : Value → Shared → Prop} {s : Shared} {Kt : Type} [DecidableEq Kt] [BEq Kt] [LawfulBEq Kt] {knd : KeyKind prog w Kt}
theorem call_set_keys {l : Addr} {items : Array Value} {Q : Value → Shared → Prop} (hh : A.handled = none) (hl : s.heap.IsList l items) (val : Nat → Kt) (hval : ∀ i v, items[i]? = some v → knd.is (val i) v = true ∧ v.scannable = true) (hb : items.size + 1 < scanBound)
    (h : ∀ (h' : Heap) (tk : Nat), h'.SetOf knd s.heap.objs.size (metB val items.size) (metN val items.size) → (∀ b o, b < s.heap.objs.size → s.heap.get? b = some o → h'.get? b = some o) → Q (.ref s.heap.objs.size) { s with heap := h', toks := tk }) :
    wpAny (model prog w) A (call (.type "set") [.ref l]) Q E s := by
  obtain ⟨c, tl, hmro⟩ := PySem.F.called_set.mro
  have made := PySem.F.called_set.made
  have sub := PySem.F.called_set.sub
  refine wpAny_call (codeAny_of_tree ?_)
  show wpAny _ _ (callAny (.type "set") _) _ _ _
  refine wpAny_pure ⟨Code.quiet_builtin _ (by decide +kernel), codeAny_builtin PySem.F.entry_type_call ?_⟩
  rw [Around.under_plain (weight_type_call_type "set" [.ref l] []) rfl]
  have a1 := PySem.F.called_set.notType
  have a2 := PySem.F.called_set.canCreate
  have a3 := PySem.F.typeCall_set_1 (.ref l)
  repeat (any_goals (first | assumption | wp_step))
  refine codeAny_mono (code_set_new_1 (.ref l) (E := E) (Q₁ := fun v s1 => ∃ led : Bool, v = .ref s.heap.objs.size ∧ s1 = { s with heap := s.heap.push { cls := .type "set", dict := none, data := .set #[] 0 (.fresh 0 0 led) } }) fun led => ⟨led, rfl, rfl⟩) fun r s1 hr => ?_
  rcases r with e | fl
  · exact hr
  cases fl with
  | ret v =>
    obtain ⟨led, rfl, rfl⟩ := hr
    have hnew : (s.heap.push { cls := .type "set", dict := none, data := .set #[] 0 (.fresh 0 0 led) }).get? s.heap.objs.size = some { cls := .type "set", dict := none, data := .set #[] 0 (.fresh 0 0 led) } := Heap.get?_push_size _ rfl
    have hty : Shared.TypeIs { s with heap := s.heap.push { cls := .type "set", dict := none, data := .set #[] 0 (.fresh 0 0 led) } } (.ref s.heap.objs.size) "set" := ⟨_, hnew, rfl⟩
    have i1 := PySem.F.called_set.init.lookup
    have i2 := PySem.F.called_set.init.bind (.ref s.heap.objs.size)
    repeat (any_goals (first | assumption | wp_step))
    let good : Value → Shared → Prop := fun r s2 => r = .none ∧ ∃ h' tk, s2 = { s with heap := h', toks := tk } ∧ h'.SetOf knd s.heap.objs.size (metB val items.size) (metN val items.size) ∧ ∀ b o, b < s.heap.objs.size → s.heap.get? b = some o → h'.get? b = some o
    refine codeAny_mono (codeAny_call_builtin (R := wants good E) PySem.F.called_set.init.plain PySem.F.entry_set_init (check_set_init_1 hty ?_)) fun r2 s2 hr2 => ?_
    · obtain ⟨ol, hol, hcl, nl, hdl⟩ := hl
      obtain ⟨oc, od, odt, osl⟩ := ol
      obtain rfl : oc = .type "list" := hcl
      obtain rfl : odt = .seq items nl := hdl
      have hol' : (s.heap.push { cls := .type "set", dict := none, data := .set #[] 0 (.fresh 0 0 led) }).get? l = some { cls := .type "list", dict := od, data := .seq items nl, slots := osl } := Heap.get?_push_of_some _ hol
      have hil : (s.heap.push { cls := .type "set", dict := none, data := .set #[] 0 (.fresh 0 0 led) }).IsList l items := ⟨_, hol', rfl, nl, rfl⟩
      have b1 := PySem.F.sub_list_set
      have b2 := PySem.F.sub_list_frozenset
      have b3 : (Value.type "list" == Value.type "dict") = false := by decide
      unfold Builtin.«set.__init__» noKeywords Builtin.Frozenset.updateFrom
      generalize hPI : pyIter = PI
      wp_walk
      subst hPI
      refine wpAny_pyIter_list hil (wpAny_bind (wpAny_runValue ?_))
      have ll : l < s.heap.objs.size := Heap.lt_size hol
      have hd3 : A.in1.in1.in1.handled = none := by simp [hh]
      have sz : (s.heap.push { cls := .type "set", dict := none, data := .set #[] 0 (.fresh 0 0 led) }).objs.size = s.heap.objs.size + 1 := Heap.size_push ..
      have neI : l ≠ (s.heap.push { cls := .type "set", dict := none, data := .set #[] 0 (.fresh 0 0 led) }).objs.size := by
        rw [sz]
        exact Nat.ne_of_lt (Nat.lt_succ_of_lt ll)
      have far : s.heap.objs.size ∉ [(s.heap.push { cls := .type "set", dict := none, data := .set #[] 0 (.fresh 0 0 led) }).objs.size, l] := fun m => by
        rcases List.mem_cons.mp m with z | z
        · rw [sz] at z
          exact Nat.ne_of_lt (Nat.lt_succ_self _) z
        · exact Nat.ne_of_gt ll (List.mem_singleton.mp z)
      refine update_keys (knd := knd) ((Walks.list hd3 _ l neI items).toS) s.heap.objs.size far val hval hb (items.size - 0) 0 _ (by omega) (Nat.zero_le _) ⟨⟨_, Heap.get?_push_size _ rfl, rfl, rfl⟩, (hil.push _)⟩ ?_ ?_
      · exact SetOf_congr ((setObjOf_fresh (knd := knd) led).setOf (Heap.get?_push_of_some _ hnew) (by unfold scanBound; omega)) (fun _ => rfl) rfl
      · intro s' mv hS
        have e1 := mv.gens
        have e2 := mv.drawn
        have e3 := mv.os
        obtain ⟨h', g', d', tk', os'⟩ := s'
        simp only at e1 e2 e3
        subst e1 e2 e3
        refine wpAny_pure ?_
        show wpAny _ _ (ret Value.none) _ _ _
        refine wpAny_pure ⟨rfl, h', tk', rfl, hS, fun b o hb e => mv.heap b o (fun m => ?_) (Heap.get?_push_of_some _ (Heap.get?_push_of_some _ e))⟩
        rcases List.mem_cons.mp m with z | z
        · exact Nat.ne_of_lt hb z
        · have z2 := List.mem_singleton.mp z
          rw [sz] at z2
          exact Nat.ne_of_lt (Nat.lt_succ_of_lt hb) z2
    · rcases r2 with e | fl2
      · exact hr2
      cases fl2 with
      | ret r =>
        obtain ⟨rfl, h', tk, rfl, hS, hk⟩ := hr2
        repeat (any_goals (first | assumption | wp_step))
        exact h _ _ hS hk
      | _ => exact hr2.elim
  | _ => exact hr.elim
end
end GD
namespace GD
open PySem PySem.Spec PyProof.Rows L2
/-- how many texts differ -/
def difN (xs : List Str) : Nat := metN (fun i => xs.getD i Str.empty) xs.length
theorem metB_get {xs : List Str} {i : Nat} (hi : i ≤ xs.length) (k : Str) : metB (fun i => xs.getD i Str.empty) i k = true ↔ k ∈ xs.take i := by
  unfold metB
  rw [List.any_eq_true]
  constructor
  · rintro ⟨j, hj, e⟩
    have hj' := List.mem_range.mp hj
    rw [beq_iff_eq] at e
    rw [← e]
    show xs.getD j Str.empty ∈ _
    rw [List.getD_eq_getElem?_getD, List.getElem?_eq_getElem (by omega)]
    exact List.mem_take_iff_getElem.mpr ⟨j, by omega, rfl⟩
  · intro h
    obtain ⟨j, hj, e⟩ := List.mem_take_iff_getElem.mp h
    refine ⟨j, List.mem_range.mpr (by omega), ?_⟩
    rw [beq_iff_eq]
    show xs.getD j Str.empty = k
    rw [List.getD_eq_getElem?_getD, List.getElem?_eq_getElem (by omega)]
    exact e
theorem difN_nodup {xs : List Str} (h : xs.Nodup) : difN xs = xs.length := by
  unfold difN
  have go : ∀ i, i ≤ xs.length → metN (fun i => xs.getD i Str.empty) i = i := by
    intro i
    induction i with
    | zero => exact fun _ => rfl
    | succ i ih =>
      intro hi
      rw [metN, ih (by omega), if_neg]
      intro z
      rw [metB_get (by omega)] at z
      obtain ⟨j, hj, e⟩ := List.mem_take_iff_getElem.mp z
      rw [List.getD_eq_getElem?_getD, List.getElem?_eq_getElem (show i < xs.length by omega)] at e
      exact List.pairwise_iff_getElem.mp h j i (by omega) (by omega) (by omega) e
  exact go _ (Nat.le_refl _)
/-- len(set(xs)), xs a list of texts -/
def tLenSetT (ta : TE) : TE := fun σ H Q => ta σ H fun x H1 => ∃ (l : Addr) (xs : List Str), x = .ref l ∧ H1 l = some (.lst (xs.map V.str)) ∧ xs.length ≤ 1000 ∧ Q (.int (difN xs : Nat)) H1
section
variable {X : Cx}
theorem pe_lenSetT {a : Expr} {ta : TE} {p p2 q pos : Pos} (hc : X.calm = true) (hg : Gl X "len") (hm : X.mg "len" = none) (hg2 : Gl X "set") (hm2 : X.mg "set" = none) (ha : PE X a ta)
    (na : starEach [a] X.env = (false, eval a X.env) :: starEach [] X.env := by rfl) : PE X (.Call (.Name "len" p) [.Call (.Name "set" p2) [a] [] q] [] pos) (tLenSetT ta) := by
  refine ⟨fun pins s σ H Q I h => ?_⟩
  refine Call_ (ld_blt I hg hm boot_len (PyProof.Rows.callWith_builtin1 (PyProof.Rows.args_cons (Call_ (ld_blt I hg2 hm2 boot_set
    (PyProof.Rows.callWith_type1 (PyProof.Rows.args_cons (thn (ha.run pins s σ H _ I h) fun v s1 ⟨x, H1, I1, r1, q1⟩ => PyProof.Rows.args_nil ?_) na) na rfl))) rfl) rfl rfl))
  obtain ⟨l, xs, rfl, hx, hl, q1⟩ := q1
  cases r1
  obtain ⟨its, r, pl, hz⟩ := I1.list (SqL.of hx)
  have sa := SS.strs_at (strsAre_of r)
  have sz : its.toArray.size = xs.length := by rw [List.size_toArray, ← r.length, List.length_map]
  refine call_set_keys (knd := PySem.strKind X.prog X.w) (I1.ok.hd hc) pl.isList (fun i => xs.getD i Str.empty) (fun i v hv => ?_) (by rw [sz]; unfold scanBound; omega) fun h' tk hS hk => ?_
  · obtain ⟨t, rfl⟩ := sa i v (by simpa using hv)
    exact ⟨strKind_is _ _ _ _, rfl⟩
  · refine PyProof.Rows.args_nil ?_
    rw [sz] at hS
    obtain ⟨o, es, ep, t, ho, hex, hd, _, _, _, hf, hn⟩ := hS
    have I2 : Inv X pins σ H1 { s1 with heap := h', toks := tk } := I1.kept fun b o e => hk b o (Heap.lt_size e) e
    have le := metN_le (fun i => xs.getD i Str.empty) xs.length
    exact call_len_set ho hex hd hf (by rw [hn]; omega) ⟨.int (difN xs : Nat), H1, I2.tok _, ⟨_, by rw [hn]; rfl⟩, q1⟩
end
end GD
namespace GD
open PySem PySem.Spec PyProof.Rows L2
structure NamesOk (names : List Str) : Prop where
  l1 : 1 ≤ names.length
  l4 : names.length ≤ 4
  nd : names.Nodup
  nm : ∀ x ∈ names, nameB x = true
def spRdJobs : Sp := fun vs H Q _ => ∃ (x : Str) (names : List Str), vs = [.str x] ∧ x.length ≤ 90000 ∧ Txt.split x " " = ("jobs" : Str) :: names ∧ NamesOk names ∧ ∀ p H', H p = none → Same H H' → TupF H' p (names.map V.str) → Q (.ref p) H'
theorem nameB_len {x : Str} (h : nameB x = true) : x.length ≤ 8 := by
  unfold nameB at h
  rw [Bool.and_eq_true, decide_eq_true_iff] at h
  exact h.1.2
theorem nameB_free {x : Str} {c : Nat} (h : nameB x = true) (hc : c < 97) : Free c x := fun m => by
  unfold nameB at h
  rw [Bool.and_eq_true] at h
  have z := List.all_eq_true.mp h.2 c m
  unfold letB at z
  rw [Bool.and_eq_true, decide_eq_true_iff] at z
  omega
end GD
namespace K01
open PySem PySem.Spec PyProof.Rows L2 GD
section
variable {P : Program} {w : World} {K : PySem.W.Frag} {mg : Str → Option Value} {base : Heap}
abbrev NJo : List Str := ["line", "words", "names", "name"]
theorem scJo : FnScope NJo ["line"] (defScope pReadJobs) := ⟨rfl, rfl, rfl, by decide +kernel, rfl, by decide +kernel, by decide +kernel⟩
theorem ok_rdjobs {f fN : Addr} {fd fdN : FuncData} (F : Fun K "read_jobs" "read_jobs" pReadJobs f fd) (S : Reads1 mg) (AN : At K mg "is_name" pIsName ["text"] fN fdN) (gl : ∃ u, mg "LONGEST_NAME" = some u ∧ RelV (.int 8) u) (gj : ∃ u, mg "MOST_JOBS" = some u ∧ RelV (.int 4) u) (gs : mg "set" = none) :
    FnOk P w K mg base CX0 2 f fd ["line"] spRdJobs := by
  have GN : FnOk P w K mg base CX0 1 fN fdN ["text"] spName1 := ok_isname AN.F S.f gl
  refine F.ok scJo (fun vs H Q E h => ?_) (fun cdv A outer s H vs Q E hr h => ?_)
  · obtain ⟨x, names, rfl, _⟩ := h
    rfl
  · obtain ⟨x, names, rfl, hx, hs, ok, q⟩ := h
    obtain ⟨um, gm, rm⟩ := gj
    refine ⟨_, pss_cons (ps_set (i := 1) scJo.nd rfl (.inl rfl) (pe_bm PySem.F.plainAttrs_str PySem.F.slot_str_split PySem.F.type_str_split mt_split (pv 0) (pa_cons pe_str pa_nil)))
      (pss_cons (ps_set (i := 2) scJo.nd rfl (.inl rfl) (pe_slice sl_list (pv 1) (po_some pe_int) po_none))
      (pss_cons (ps_if (pw_or (pt_cmpR op_ne (pe_ix ix_list (pv 1) pe_int (fun _ _ => rfl)) pe_str (nomark _)) (pw_or1 (pt_not (pt_chain op_le op_le pe_int (pe_callB call_len_seq (by rfl) S.f.len PySem.boot_len (pa_cons (pv 2) pa_nil)) (pe_glob (by rfl) gm rm))))).pt (pss_one ps_no) pss_nil)
      (pss_cons (ps_if (pw_or (pt_cmpR op_lt (pe_lenSetT rfl (by rfl) S.f.len (by rfl) gs (pv 2)) (pe_callB call_len_seq (by rfl) S.f.len PySem.boot_len (pa_cons (pv 2) pa_nil)) (nomark _))
          (pw_or1 (pt_not (pt_val (pe_callB (cr_all rfl) (by rfl) S.f.all (by decide +kernel) (pa_cons (pe_lc (own := [("name", 3)]) (g := gName 3) (tt := tYes) rfl scJo.nd (pi_list (pv 2)) (blkOk_by (N := NJo) (sc := defScope pReadJobs) (by decide +kernel))
            (fun _ _ _ _ _ => pg_name (i := 3) scJo.nd rfl (.inl rfl)) (fun _ _ _ _ _ => pts_nil) (fun _ _ _ _ _ => pe_call GN hr (by rfl) AN.g AN.F.kp AN.b .nil pass0 (pa_cons (pv 3) pa_nil))) pa_nil)))))).pt (pss_one ps_no) pss_nil)
      (pss_one (ps_ret (pe_callTy call_tupleF (by rfl) S.f.tup (by decide +kernel) (pa_cons (pv 2) pa_nil))))))), ?_⟩
    have nl1 := ok.l1
    have nl4 := ok.l4
    refine ⟨_, rfl, rfl, _, _, rfl, rfl, rfl, small_len (by omega), fun pw npw => ?_⟩
    have sw := same_new (o := .lst ((Txt.split x " ").map V.str)) npw
    have ew : (upd H pw (.lst ((Txt.split x " ").map V.str))) pw = some (.lst ((("jobs" : Str) :: names).map V.str)) := by rw [upd_same, hs]
    generalize upd H pw (.lst ((Txt.split x " ").map V.str)) = H1 at sw ew ⊢
    refine ⟨_, rfl, _, rfl, pw, _, rfl, SqL.of ew, fun pn npn => ?_⟩
    have e1 := cut_strs_end (("jobs" : Str) :: names) 1
    rw [List.drop_one, List.tail_cons] at e1
    rw [show (some (1 : Int)) = some ((1 : Nat) : Int) from rfl, e1]
    have sn := same_new (o := .lst (names.map V.str)) npn
    have en : (upd H1 pn (.lst (names.map V.str))) pn = some (.lst (names.map V.str)) := upd_same
    have ew2 := sn _ _ ew
    have s2 := sw.trans sn
    generalize upd H1 pn (.lst (names.map V.str)) = H2 at sn en ew2 s2 ⊢
    have ln : (names.map V.str).length = names.length := List.length_map ..
    refine ⟨_, rfl, pw, _, 0, _, rfl, rfl, SqL.of ew2, at0, rfl, _, rfl, iteF ?_⟩
    refine ⟨_, rfl, pn, _, rfl, .inl (SqL.of en), _, _, rfl, rfl, _, rfl, ?_⟩
    rw [ln, decide_eq_true (show (1 : Int) ≤ ((names.length : Nat) : Int) by omega)]
    refine iteT ⟨_, _, rfl, rfl, _, rfl, ?_⟩
    rw [decide_eq_true (show ((names.length : Nat) : Int) ≤ 4 by omega)]
    refine iteF ?_
    refine ⟨_, rfl, pn, names, rfl, en, by omega, _, rfl, pn, _, rfl, .inl (SqL.of en), _, _, rfl, rfl, _, rfl, ?_⟩
    rw [difN_nodup ok.nd, ln, decide_eq_false (show ¬ ((names.length : Nat) : Int) < ((names.length : Nat) : Int) by omega)]
    refine iteF ?_
    refine ⟨_, rfl, pn, rfl, ⟨_, SqL.of en⟩, fun D hD => ?_⟩
    refine lc_list (K := K) (a := pn) (xs := names.map V.str) (fun i H' => Same H2 H' ∧ H' D = some (.lst (((names.take i).map fun _ => true).map V.bl))) ⟨same_new hD, upd_same⟩ (fun i H' _ ⟨s1, _⟩ => SqL.of (s1 _ _ en)) ?_ ?_
    · rintro i v H' hx ⟨s1, eD⟩
      rw [List.getElem?_map] at hx
      cases c : names[i]? with
      | none =>
        rw [c] at hx
        cases hx
      | some y =>
        rw [c] at hx
        obtain rfl : V.str y = v := Option.some.inj hx
        have hi : i < names.length := (List.getElem?_eq_some_iff.mp c).1
        have hy := ok.nm y (List.mem_of_getElem? c)
        have hyl := nameB_len hy
        refine ⟨rfl, _, rfl, y, rfl, by omega, fun H3 s3 => ?_⟩
        rw [hy]
        refine ⟨_, s3 _ _ eD, ?_, same_upd (s1.trans s3) hD, ?_⟩
        · rw [List.length_map, List.length_map, List.length_take]
          exact Nat.lt_of_le_of_lt (Nat.min_le_left _ _) (Nat.lt_of_lt_of_le (show i < 5 by omega) (by decide))
        · rw [upd_same, take_next c, List.map_append, List.map_append]
          rfl
    · rintro H3 ⟨s3, eD⟩
      refine ⟨D, _, rfl, SqL.of eD, ?_⟩
      rw [show ((names.take (names.map V.str).length).map fun _ => true).all id = true by rw [List.all_map]; exact List.all_eq_true.mpr fun _ _ => rfl]
      refine ⟨_, rfl, iteF ?_⟩
      refine ⟨_, rfl, pn, _, rfl, SqL.of (s3 _ _ en), fun t ot ht dt => ?_⟩
      exact q t _ ((s2.trans s3).free ht) ((s2.trans s3).trans (same_new ht)) ⟨ot, dt, upd_same⟩
end
end K01
namespace GD
open PySem PySem.Spec PyProof.Rows L2
theorem tuple_mul1 (l : Addr) (items : Array Value) (n : Nat) (dd : Option Addr) (sl : Array (Option Value)) (u : Tok) :
    Meets (Builtin.«tuple.__mul__» ⟨[.ref l, .int 1 u], []⟩) (fun _ R s => s.heap.get? l = some { cls := .type "tuple", dict := dd, data := .seq items n, slots := sl } ∧ R (.ok (.ret (Value.ref l))) s) :=
  .of_wp fun prog w A R s h => by
    obtain ⟨hp, g, d, tk, os⟩ := s
    obtain ⟨hl, h⟩ := h
    have f1 := AutoSeq1.idx_int
    have c1 : (items.isEmpty || (1 : Int) == 1) = true := by rw [show ((1 : Int) == 1) = true from rfl, Bool.or_true]
    wp_walk using wpAny_loadPart' hl
    exact ⟨_, rfl, h⟩
/-- t * 1 is t itself -/
def rRep1 (K : PySem.W.Frag) : R2 := fun x y H Q => ∃ l xs, x = .ref l ∧ y = .int 1 ∧ SqT K H l xs ∧ Q (.ref l) H
section
variable {X : Cx}
theorem op_rep1 : OpR X (binaryOp .Mult) (rRep1 X.K) := by
  intro pins s σ H x y v u Q I rx ry h
  obtain ⟨l, xs, rfl, rfl, hT, q⟩ := h
  cases rx
  obtain ⟨t, rfl⟩ := ry
  obtain ⟨its, r, ⟨⟨cls, dd, data, sl⟩, ho, hc, n, hd⟩, hs⟩ := I.tuple hT
  obtain rfl : cls = .type "tuple" := hc
  obtain rfl : data = .seq its.toArray n := hd
  exact wpAny_binaryOp_repeat_ref (T := "tuple") (U := "int") (by decide) ⟨_, ho, rfl⟩ (fun s' => typeIs_int s' 1 t) noFill_tuple_mul F.fills_int_mul F.slot_int_rmul repeat_tuple F.slot_int_index.lookup
    (call_meets F.slot_int_rmul (typeIs_int s 1 t) F.entry_int_rmul (F.args_int_rmul_2 _ _) (int_rmul_tuple 1 t l its.toArray n dd sl)
      ⟨ho, rfl, ⟨_, ho, rfl⟩, call_meets F.slot_tuple_mul ⟨_, ho, rfl⟩ F.entry_tuple_mul (F.args_tuple_mul_2 _ _) (tuple_mul1 l its.toArray n dd sl t) ⟨ho, ⟨.ref l, H, I, rfl, q⟩⟩⟩)
def rRepA (K : PySem.W.Frag) : R2 := fun x y H Q => rRepT K x y H Q ∨ rRep1 K x y H Q
theorem op_repA : OpR X (binaryOp .Mult) (rRepA X.K) := fun pins s σ H x y v u Q I rx ry h => h.elim (fun h => op_repT pins s σ H x y v u Q I rx ry h) fun h => op_rep1 pins s σ H x y v u Q I rx ry h
end
end GD
namespace GD
open PySem PySem.Spec PyProof.Rows L2
/-- t * k, a tuple that is tracked -/
def rRepU : R2 := fun x y H Q => ∃ (l : Addr) (k : Nat) (xs : List V), x = .ref l ∧ y = .int k ∧ H l = some (.tup xs) ∧ xs ≠ [] ∧ 1 ≤ k ∧ k ≤ 1000 ∧ xs.length ≤ 1000 ∧ ∀ p H', Same H H' → H' p = some (.tup (List.replicate k xs).flatten) → Q (.ref p) H'
theorem op_repU {X : Cx} : OpR X (binaryOp .Mult) rRepU := fun pins s σ H x y v u Q I rx ry ⟨l, k, xs, ex, ey, hl, ne, h1, h2, h3, q⟩ => by
  refine op_repA pins s σ H x y v u Q I rx ry ?_
  by_cases h : k = 1
  · refine .inr ⟨l, xs, ex, by rw [ey, h]; rfl, SqT.of hl, q l H (Same.refl H) ?_⟩
    rw [hl, h]
    simp
  · refine .inl ⟨l, k, xs, ex, ey, SqT.of hl, ne, by omega, by omega, h3, fun p hp => q p _ (same_new hp) ?_⟩
    rw [upd_same, Int.toNat_natCast]
theorem Keep.tupsI {b C dx : Addr} {fl : List (Str × V)} {H H' : Hp} (hb : H b = some (.ins C dx fl)) (k : Keep b H H') : Tups H H' := fun c xs e => k c _ (ne_of e hb (fun z => by cases z)) e
theorem keep_at {b : Addr} {H : Hp} {o : HO} : Keep b H (upd H b o) := fun c o' n e => by
  rw [upd_ne n]
  exact e
/-! a book -/
def jN (names : List Str) : Str := ("jobs " : Str) ++ Txt.join " " names
def hN (names : List Str) (ml : List (Str × Str)) : Str := Txt.join "\n" (jN names :: ml.map mLine)
def b1 (t : Str) : List (Str × V) := putF "text" (.str t) []
def b2 (t : Str) (j : Addr) : List (Str × V) := putF "jobs" (.ref j) (b1 t)
def bh (h t : Str) (j : Addr) : List (Str × V) := putF "head" (.str h) (b2 t j)
def b3 (h t : Str) (j m : Addr) : List (Str × V) := putF "manners" (.ref m) (bh h t j)
def b4 (h t : Str) (j m f : Addr) : List (Str × V) := putF "first" (.ref f) (b3 h t j m)
def b5 (h t : Str) (j m f a : Addr) : List (Str × V) := putF "facts" (.ref a) (b4 h t j m f)
theorem b2_jobs (t : Str) (j : Addr) : (b2 t j).lookup ("jobs" : Str) = some (.ref j) := by rw [b2, lookup_putF, if_pos rfl]
theorem bh_jobs {h : Str} (t : Str) (j : Addr) : (bh h t j).lookup ("jobs" : Str) = some (.ref j) := by rw [bh, lookup_putF, if_neg (by decide +kernel), b2_jobs]
theorem b3_jobs {h : Str} (t : Str) (j m : Addr) : (b3 h t j m).lookup ("jobs" : Str) = some (.ref j) := by rw [b3, lookup_putF, if_neg (by decide +kernel), bh_jobs]
theorem b4_jobs {h : Str} (t : Str) (j m f : Addr) : (b4 h t j m f).lookup ("jobs" : Str) = some (.ref j) := by rw [b4, lookup_putF, if_neg (by decide +kernel), b3_jobs]
theorem b5_jobs {h : Str} (t : Str) (j m f a : Addr) : (b5 h t j m f a).lookup ("jobs" : Str) = some (.ref j) := by rw [b5, lookup_putF, if_neg (by decide +kernel), b4_jobs]
theorem b5_facts {h : Str} (t : Str) (j m f a : Addr) : (b5 h t j m f a).lookup ("facts" : Str) = some (.ref a) := by rw [b5, lookup_putF, if_pos rfl]
theorem b5_head {h : Str} (t : Str) (j m f a : Addr) : (b5 h t j m f a).lookup ("head" : Str) = some (.str h) := by
  rw [b5, lookup_putF, if_neg (by decide +kernel), b4, lookup_putF, if_neg (by decide +kernel), b3, lookup_putF, if_neg (by decide +kernel), bh, lookup_putF, if_pos rfl]
theorem b5_text {h : Str} (t : Str) (j m f a : Addr) : (b5 h t j m f a).lookup ("text" : Str) = some (.str t) := by
  rw [b5, lookup_putF, if_neg (by decide +kernel), b4, lookup_putF, if_neg (by decide +kernel), b3, lookup_putF, if_neg (by decide +kernel), bh, lookup_putF, if_neg (by decide +kernel), b2, lookup_putF, if_neg (by decide +kernel), b1, lookup_putF, if_pos rfl]
theorem b5_manners {h : Str} (t : Str) (j m f a : Addr) : (b5 h t j m f a).lookup ("manners" : Str) = some (.ref m) := by
  rw [b5, lookup_putF, if_neg (by decide +kernel), b4, lookup_putF, if_neg (by decide +kernel), b3, lookup_putF, if_pos rfl]
theorem b5_first {h : Str} (t : Str) (j m f a : Addr) : (b5 h t j m f a).lookup ("first" : Str) = some (.ref f) := by
  rw [b5, lookup_putF, if_neg (by decide +kernel), b4, lookup_putF, if_pos rfl]
theorem b5_no {h t : Str} {j m f a : Addr} {x : Str} (h1 : ¬ x = ("text" : Str)) (h2 : ¬ x = ("jobs" : Str)) (h3 : ¬ x = ("manners" : Str)) (h4 : ¬ x = ("first" : Str)) (h5 : ¬ x = ("facts" : Str)) (h6 : ¬ x = ("head" : Str) := by decide +kernel) : (b5 h t j m f a).lookup x = none := by
  rw [b5, lookup_putF, if_neg h5, b4, lookup_putF, if_neg h4, b3, lookup_putF, if_neg h3, bh, lookup_putF, if_neg h6, b2, lookup_putF, if_neg h2, b1, lookup_putF, if_neg h1]
  rfl
theorem putF_same (f : Str) (v w : V) : ∀ (fs : List (Str × V)), putF f v (putF f w fs) = putF f v fs
  | [] => by
    show (if f = f then _ else _) = _
    rw [if_pos rfl]
    rfl
  | (k, x) :: r => by
    rw [show putF f w ((k, x) :: r) = (if k = f then (k, w) :: r else (k, x) :: putF f w r) from rfl, show putF f v ((k, x) :: r) = (if k = f then (k, v) :: r else (k, x) :: putF f v r) from rfl]
    by_cases h : k = f
    · rw [if_pos h, if_pos h, show putF f v ((k, w) :: r) = (if k = f then (k, v) :: r else (k, w) :: putF f v r) from rfl, if_pos h]
    · rw [if_neg h, if_neg h, show putF f v ((k, x) :: putF f w r) = (if k = f then (k, v) :: putF f w r else (k, x) :: putF f v (putF f w r)) from rfl, if_neg h, putF_same f v w r]
theorem putF_cons (f k : Str) (v x : V) (r : List (Str × V)) : putF f v ((k, x) :: r) = if k = f then (k, v) :: r else (k, x) :: putF f v r := rfl
theorem b5_list {h t : Str} {j m f a : Addr} : b5 h t j m f a = [(("text" : Str), V.str t), (("jobs" : Str), V.ref j), (("head" : Str), V.str h), (("manners" : Str), V.ref m), (("first" : Str), V.ref f), (("facts" : Str), V.ref a)] := by
  have e1 : b1 t = [(("text" : Str), V.str t)] := rfl
  have e2 : b2 t j = [(("text" : Str), V.str t), (("jobs" : Str), V.ref j)] := by rw [b2, e1, putF_cons, if_neg (by decide +kernel)]; rfl
  have e3 : bh h t j = [(("text" : Str), V.str t), (("jobs" : Str), V.ref j), (("head" : Str), V.str h)] := by rw [bh, e2, putF_cons, if_neg (by decide +kernel), putF_cons, if_neg (by decide +kernel)]; rfl
  have e4 : b3 h t j m = [(("text" : Str), V.str t), (("jobs" : Str), V.ref j), (("head" : Str), V.str h), (("manners" : Str), V.ref m)] := by rw [b3, e3, putF_cons, if_neg (by decide +kernel), putF_cons, if_neg (by decide +kernel), putF_cons, if_neg (by decide +kernel)]; rfl
  have e5 : b4 h t j m f = [(("text" : Str), V.str t), (("jobs" : Str), V.ref j), (("head" : Str), V.str h), (("manners" : Str), V.ref m), (("first" : Str), V.ref f)] := by rw [b4, e4, putF_cons, if_neg (by decide +kernel), putF_cons, if_neg (by decide +kernel), putF_cons, if_neg (by decide +kernel), putF_cons, if_neg (by decide +kernel)]; rfl
  rw [b5, e5, putF_cons, if_neg (by decide +kernel), putF_cons, if_neg (by decide +kernel), putF_cons, if_neg (by decide +kernel), putF_cons, if_neg (by decide +kernel), putF_cons, if_neg (by decide +kernel)]
  rfl
theorem b5_putA {h t : Str} {j m f a a' : Addr} : putF "facts" (.ref a') (b5 h t j m f a) = b5 h t j m f a' := by rw [b5, putF_same]; rfl
theorem b5_putT {h t t' : Str} {j m f a : Addr} : putF "text" (.str t') (b5 h t j m f a) = b5 h t' j m f a := by rw [b5_list, b5_list, putF_cons, if_pos rfl]
theorem putF_len (f : Str) (v : V) : ∀ fs : List (Str × V), (putF f v fs).length ≤ fs.length + 1
  | [] => Nat.le_refl _
  | (k, x) :: r => by
    rw [show putF f v ((k, x) :: r) = (if k = f then (k, v) :: r else (k, x) :: putF f v r) from rfl]
    split
    · exact Nat.le_succ _
    · have := putF_len f v r
      rw [List.length_cons, List.length_cons]
      omega
theorem b_len (h t : Str) (j m f a : Addr) : (b1 t).length < 1000 ∧ (b2 t j).length < 1000 ∧ (bh h t j).length < 1000 ∧ (b3 h t j m).length < 1000 ∧ (b4 h t j m f).length < 1000 ∧ (b5 h t j m f a).length < 1000 := by
  have h1 := putF_len "text" (.str t) []
  have h2 := putF_len "jobs" (.ref j) (b1 t)
  have h6 := putF_len "head" (.str h) (b2 t j)
  have h3 := putF_len "manners" (.ref m) (bh h t j)
  have h4 := putF_len "first" (.ref f) (b3 h t j m)
  have h5 := putF_len "facts" (.ref a) (b4 h t j m f)
  rw [List.length_nil] at h1
  unfold b5
  unfold b4 at h5 ⊢
  unfold b3 at h4 h5 ⊢
  unfold bh at h3 h4 h5 ⊢
  unfold b2 at h6 h3 h4 h5 ⊢
  unfold b1 at h2 h6 h3 h4 h5 ⊢
  omega
/-- the manner that lines tell of a job -/
def manOf (ml : List (Str × Str)) (x : Str) : Str := ((ml.find? fun q => decide (q.1 = x)).map (·.2)).getD "plain"
theorem valV_mKv (ml : List (Str × Str)) (x : Str) : (valV (mKv ml) (.inr x)).getD (.str "plain") = .str (manOf ml x) := by
  unfold valV mKv manOf
  induction ml with
  | nil => rfl
  | cons q r ih =>
    rw [List.map_cons, List.find?_cons, List.find?_cons]
    by_cases h : q.1 = x
    · rw [show decide ((Sum.inr q.1 : Key) = .inr x) = true from decide_eq_true (by rw [h]), decide_eq_true h]
      rfl
    · rw [show decide ((Sum.inr q.1 : Key) = .inr x) = false from decide_eq_false (fun z => h (Sum.inr.inj z)), decide_eq_false h]
      exact ih
theorem cut_strs_to (ws : List Str) (b : Nat) : cutV (ws.map V.str) none (some (b : Int)) = ((ws.take b).map V.str) := by
  unfold cutV
  rw [HT.sIx_nat, HT.sIx_none, List.drop_zero, Nat.sub_zero, List.length_map, List.map_take]
  by_cases h : b ≤ ws.length
  · rw [Nat.min_eq_left h]
  · rw [Nat.min_eq_right (by omega), List.take_of_length_le (by rw [List.length_map]; exact Nat.le_refl _), List.take_of_length_le (by rw [List.length_map]; omega)]
/-- the text of a good book, by lines -/
structure TextOk (x : Str) (names : List Str) (ml : List (Str × Str)) (fs : List Fact) : Prop where
  len : x.length ≤ 90000
  ln : Txt.split x "\n" = jN names :: (ml.map mLine ++ fs.map fT) ∧ Txt.split (jN names) " " = ("jobs" : Str) :: names ∧ (jN names).length ≤ 41 ∧ ∀ p ∈ ml, (mLine p).length ≤ 100
  nm : NamesOk names
  mn : MansOk names ml (fs.map fT)
  f : FactsOk names.length fs
def BookAt (C : Addr) (H : Hp) (b : Addr) (x : Str) (names : List Str) (ml : List (Str × Str)) (fs : List Fact) : Prop :=
  ∃ dx j m f a, H b = some (.ins C dx (b5 (hN names ml) x j m f a)) ∧ TupF H j (names.map V.str) ∧ H m = some (.tup ((names.map (manOf ml)).map V.str)) ∧ Fz H (.ref f) (eS (List.replicate names.length (0, 0))) ∧ Fz H (.ref a) (.tuple (fs.map eF))
def spInitB (C : Addr) : Sp := fun vs H Q _ => ∃ (b dx : Addr) (x : Str) (names : List Str) (ml : List (Str × Str)) (fs : List Fact), vs = [.ref b, .str x] ∧ H b = some (.ins C dx []) ∧ TextOk x names ml fs ∧
  ∀ H', Keep b H H' → BookAt C H' b x names ml fs → Q .non H'
end GD
namespace K01
open PySem PySem.Spec PyProof.Rows L2 GD
abbrev cBook : Stmt := top 24
abbrev pInit : Stmt := inClass cBook 0
section
variable {P : Program} {w : World} {K : PySem.W.Frag} {mg : Str → Option Value} {base : Heap}
structure BookC (K : PySem.W.Frag) (mg : Str → Option Value) (C : Addr) : Prop where
  cl : Cls K C
  nT : NoAttr K C "text"
  nJ : NoAttr K C "jobs"
  nM : NoAttr K C "manners"
  nF : NoAttr K C "first"
  nH : NoAttr K C "head"
  nA : NoAttr K C "facts"
  mgC : mg "Book" = some (.ref C)
abbrev NIn : List Str := ["self", "text", "lines", "lined", "job"]
theorem scIn : FnScope NIn ["self", "text"] (defScope pInit) := ⟨rfl, rfl, rfl, by decide +kernel, rfl, by decide +kernel, by decide +kernel⟩
theorem ok_init {f C fJ fM fA : Addr} {fd fdJ fdM fdA : FuncData} (F : Fun K "__init__" "Book.__init__" pInit f fd) (B : BookC K mg C) (S : Reads1 mg)
    (gJ : mg "read_jobs" = some (.ref fJ)) (bJ : Binds K fdJ ["line"] []) (kJ : PySem.W.keepIn K (.ref fJ) = true) (GJ : FnOk P w K mg base CX0 2 fJ fdJ ["line"] spRdJobs)
    (gM : mg "read_manners" = some (.ref fM)) (bM : Binds K fdM ["lines", "jobs"] []) (kM : PySem.W.keepIn K (.ref fM) = true) (GM : FnOk P w K mg base CX0 1 fM fdM ["lines", "jobs"] spRdMan)
    (gA : mg "read_facts" = some (.ref fA)) (bA : Binds K fdA ["lines", "start", "many"] []) (kA : PySem.W.keepIn K (.ref fA) = true) (GA : FnOk P w K mg base CX0 5 fA fdA ["lines", "start", "many"] spRdFs) :
    FnOk P w K mg base CX0 6 f fd ["self", "text"] (spInitB C) := by
  refine F.ok scIn (fun vs H Q E h => ?_) (fun cdv A outer s H vs Q E hr h => ?_)
  · obtain ⟨b, dx, x, names, ml, fs, rfl, _⟩ := h
    rfl
  · obtain ⟨b, dx, x, names, ml, fs, rfl, hb, ok, q⟩ := h
    have hr1 : Room 1 _ := hr.mono (by decide)
    have hr2 : Room 2 _ := hr.mono (by decide)
    refine ⟨_, pss_cons (ps_if (pt_not (pt_val (pe_callB call_isi (by rfl) S.f.isi (by decide +kernel) (pa_cons (pv 1) (pa_cons (pe_bltn (v := .ty "str") (by rfl) S.f.str PyProof.Rows.Boot.«str» rfl) pa_nil))))) (pss_one ps_no) pss_nil)
      (pss_cons (ps_set (i := 2) scIn.nd rfl (.inl rfl) (pe_bm PySem.F.plainAttrs_str PySem.F.slot_str_split PySem.F.type_str_split mt_split (pv 1) (pa_cons pe_str pa_nil)))
      (pss_cons (ps_fld (pv 0) (pv 1) rfl)
      (pss_cons (ps_fld (pv 0) (pe_call GJ hr2 (by rfl) gJ kJ bJ .nil pass0 (pa_cons (pe_ix ix_list (pv 2) pe_int (fun _ _ => rfl)) pa_nil)) rfl)
      (pss_cons (ps_set (i := 3) scIn.nd rfl (.inr rfl) (pe_call GM hr1 (by rfl) gM kM bM .nil pass0 (pa_cons (pv 2) (pa_cons (pe_fld (pv 0) rfl) pa_nil))))
      (pss_cons (ps_fld (pv 0) (pe_bm PySem.F.plainAttrs_str PySem.F.slot_str_join PySem.F.type_str_join mt_join pe_str (pa_cons (pe_slice sl_list (pv 2) po_none (po_some (pe_op op_add pe_int (pe_callB call_lenD (by rfl) S.f.len PySem.boot_len (pa_cons (pv 3) pa_nil))))) pa_nil)) rfl)
      (pss_cons (ps_fld (pv 0) (pe_callTy call_tuple_of (by rfl) S.f.tup (by decide +kernel) (pa_cons (pe_lc (own := [("job", 4)]) (g := gName 4) (tt := tYes) rfl scIn.nd (pi_tup (pe_fld (pv 0) rfl)) (blkOk_by (N := NIn) (sc := defScope pInit) (by decide +kernel))
          (fun _ _ _ _ _ => pg_name (i := 4) scIn.nd rfl (.inl rfl)) (fun _ _ _ _ _ => pts_nil) (fun _ _ _ _ _ => pe_dget2 (u1 hr) (pv 3) (pv 4) pe_str ⟨rfl, rfl, rfl, rfl⟩)) pa_nil)) rfl)
      (pss_cons (ps_fld (pv 0) (pe_op op_repU (pe_tup (pa_cons (pe_tup (pa_cons pe_int (pa_cons pe_int pa_nil))) pa_nil)) (pe_callB call_len_seq (by rfl) S.f.len PySem.boot_len (pa_cons (pe_fld (pv 0) rfl) pa_nil))) rfl)
      (pss_one (ps_fld (pv 0) (pe_call GA hr (by rfl) gA kA bA .nil pass0 (pa_cons (pv 2) (pa_cons (pe_op op_add pe_int (pe_callB call_lenD (by rfl) S.f.len PySem.boot_len (pa_cons (pv 3) pa_nil))) (pa_cons (pe_callB call_len_seq (by rfl) S.f.len PySem.boot_len (pa_cons (pe_fld (pv 0) rfl) pa_nil)) pa_nil)))) rfl))))))))), ?_⟩
    obtain ⟨hs0, hs1, hl0, hml⟩ := ok.ln
    have olen := ok.len
    have bl := b_len (hN names ml) x
    have okm := ok.mn.l
    refine ⟨_, rfl, _, _, _, _, true, rfl, .ty _, .base (.str _), kit_ty (by decide +kernel), _, rfl, iteF ?_⟩
    refine ⟨_, rfl, rfl, _, _, rfl, rfl, rfl, small_len (by omega), fun l nl => ?_⟩
    have s1 := same_new (o := .lst ((Txt.split x "\n").map V.str)) nl
    have el : (upd H l (.lst ((Txt.split x "\n").map V.str))) l = some (.lst ((jN names :: (ml.map mLine ++ fs.map fT)).map V.str)) := by rw [upd_same, hs0]
    generalize upd H l (.lst ((Txt.split x "\n").map V.str)) = H1 at s1 el ⊢
    have hb1 := s1 _ _ hb
    have nlb : l ≠ b := ne_of el hb1 (fun z => by cases z)
    refine ⟨_, rfl, _, rfl, b, C, dx, [], rfl, hb1, B.cl, B.nT, (by show 0 < 1000; decide), ?_⟩
    have k2 : Keep b H (upd H1 b (.ins C dx (b1 x))) := (sKeep s1).trans keep_at
    have el2 := keep_at (o := .ins C dx (b1 x)) _ _ nlb el
    have hb2 : (upd H1 b (.ins C dx (b1 x))) b = some (.ins C dx (b1 x)) := upd_same
    show tSeq _ _ _ _ (upd H1 b (.ins C dx (b1 x)))
    generalize upd H1 b (.ins C dx (b1 x)) = H2 at k2 el2 hb2 ⊢
    refine ⟨_, rfl, l, _, 0, _, rfl, rfl, SqL.of el2, at0, jN names, names, rfl, Nat.le_trans hl0 (by decide), hs1, ok.nm, fun j H3 nj s3 ej => ?_⟩
    obtain ⟨oj, doj, ej⟩ := ej
    have hb3 := s3 _ _ hb2
    have njb : j ≠ b := ne_of ej hb3 (fun z => by cases z)
    refine ⟨_, rfl, b, C, dx, _, rfl, hb3, B.cl, B.nJ, (bl j j j j).1, ?_⟩
    have k4 : Keep b H2 (upd H3 b (.ins C dx (b2 x j))) := (sKeep s3).trans keep_at
    have ej4 := keep_at (o := .ins C dx (b2 x j)) _ _ njb ej
    have hb4 : (upd H3 b (.ins C dx (b2 x j))) b = some (.ins C dx (b2 x j)) := upd_same
    show tSeq _ _ _ _ (upd H3 b (.ins C dx (b2 x j)))
    generalize upd H3 b (.ins C dx (b2 x j)) = H4 at k4 ej4 hb4 ⊢
    have el4 := k4 _ _ nlb el2
    refine ⟨_, rfl, _, rfl, b, C, dx, _, _, rfl, hb4, B.cl, B.nJ, b2_jobs _ _, l, j, jN names, names, ml, fs.map fT, rfl, el4, ⟨oj, doj, ej4⟩, ok.mn, fun d H5 nd s5 ed => ?_⟩
    have hb5 := s5 _ _ hb4
    have ej5 := s5 _ _ ej4
    have ndb : d ≠ b := ne_of ed hb5 (fun z => by cases z)
    have lkv0 : (mKv ml).length = ml.length := List.length_map ..
    refine ⟨rfl, _, rfl, _, rfl, d, _, rfl, ed, _, _, rfl, rfl, _, rfl, l, _, rfl, SqL.of (s5 _ _ el4), fun ph nph => ?_⟩
    have ecut : cutV ((jN names :: (ml.map mLine ++ fs.map fT)).map V.str) none (some (1 + ((mKv ml).length : Int))) = ((jN names :: ml.map mLine).map V.str) := by
      rw [lkv0, show (1 + (ml.length : Int)) = ((1 + ml.length : Nat) : Int) by omega, cut_strs_to, Nat.add_comm, List.take_succ_cons, show ml.length = (ml.map mLine).length from (List.length_map ..).symm, List.take_left]
    rw [ecut]
    have sh := same_new (o := .lst ((jN names :: ml.map mLine).map V.str)) nph
    have eh : (upd H5 ph (.lst ((jN names :: ml.map mLine).map V.str))) ph = some (.lst ((jN names :: ml.map mLine).map V.str)) := upd_same
    generalize upd H5 ph (.lst ((jN names :: ml.map mLine).map V.str)) = H5a at sh eh ⊢
    refine ⟨_, ph, _, rfl, rfl, .inl (SqL.of eh), ?_, ?_⟩
    · have z := sum_len (ys := jN names :: ml.map mLine) (k := 100) fun y hy => by
        rcases List.mem_cons.mp hy with e | e
        · rw [e]
          omega
        · obtain ⟨p, hp, rfl⟩ := List.mem_map.mp e
          exact hml p hp
      rw [List.length_cons, List.length_map] at z
      rw [List.length_cons, List.length_map, show ("\n" : Str).length = 1 from rfl]
      omega
    have hb5a := sh _ _ hb5
    refine ⟨_, rfl, b, C, dx, _, rfl, hb5a, B.cl, B.nH, (bl j j j j).2.1, ?_⟩
    have k4b : Keep b H4 (upd H5a b (.ins C dx (bh (hN names ml) x j))) := ((sKeep s5).trans (sKeep sh)).trans keep_at
    have ej5b := keep_at (o := .ins C dx (bh (hN names ml) x j)) _ _ njb (sh _ _ ej5)
    have ed5b := keep_at (o := .ins C dx (bh (hN names ml) x j)) _ _ ndb (sh _ _ ed)
    have hb5b : (upd H5a b (.ins C dx (bh (hN names ml) x j))) b = some (.ins C dx (bh (hN names ml) x j)) := upd_same
    show tSeq _ _ _ _ (upd H5a b (.ins C dx (bh (hN names ml) x j)))
    clear ed hb5 ej5
    generalize upd H5a b (.ins C dx (bh (hN names ml) x j)) = H5b at k4b ej5b ed5b hb5b ⊢
    have hb5 := hb5b
    have ej5 := ej5b
    have ed := ed5b
    refine ⟨_, rfl, b, C, dx, _, _, rfl, hb5, B.cl, B.nJ, bh_jobs _ _, j, rfl, ⟨_, sqT_fz ej5⟩, fun D hD => ?_⟩
    have nl4 := ok.nm.l4
    have nl1 := ok.nm.l1
    refine lc_tup (K := K) (a := j) (xs := names.map V.str) (fun i H' => Same H5b H' ∧ H' D = some (.lst (((names.take i).map (manOf ml)).map V.str))) ⟨same_new hD, upd_same⟩ (fun i H' _ ⟨s6, _⟩ => sqT_fz (s6 _ _ ej5)) ?_ ?_
    · rintro i v H' hx ⟨s6, eD⟩
      rw [List.getElem?_map] at hx
      cases c : names[i]? with
      | none =>
        rw [c] at hx
        cases hx
      | some y =>
        rw [c] at hx
        obtain rfl : V.str y = v := Option.some.inj hx
        have hi : i < names.length := (List.getElem?_eq_some_iff.mp c).1
        have ed6 := s6 _ _ ed
        refine ⟨rfl, _, rfl, d, rfl, .inl ⟨_, .inl ed6⟩, _, rfl, _, DGet.k (k := .inr y) ed6, ?_⟩
        rw [valV_mKv]
        refine ⟨_, eD, ?_, same_upd s6 hD, ?_⟩
        · rw [List.length_map, List.length_map, List.length_take]
          exact Nat.lt_of_le_of_lt (Nat.min_le_left _ _) (Nat.lt_of_lt_of_le (show i < 5 by omega) (by decide))
        · rw [upd_same, take_next c, List.map_append, List.map_append]
          rfl
    · rintro H6 ⟨s6, eD⟩
      rw [List.length_map, List.take_length] at eD
      refine ⟨D, _, rfl, .inl ⟨SqL.of eD, fun m hm => ?_⟩⟩
      have s7 := same_new (o := .tup ((names.map (manOf ml)).map V.str)) hm
      have em : (upd H6 m (.tup ((names.map (manOf ml)).map V.str))) m = some (.tup ((names.map (manOf ml)).map V.str)) := upd_same
      generalize upd H6 m (.tup ((names.map (manOf ml)).map V.str)) = H7 at s7 em ⊢
      have s57 := s6.trans s7
      have hb7 := s57 _ _ hb5
      have nmb : m ≠ b := ne_of em hb7 (fun z => by cases z)
      refine ⟨_, rfl, b, C, dx, _, rfl, hb7, B.cl, B.nM, (bl j j j j).2.2.1, ?_⟩
      have k8 : Keep b H4 (upd H7 b (.ins C dx (b3 (hN names ml) x j m))) := (k4b.trans (sKeep s57)).trans keep_at
      have em8 := keep_at (o := .ins C dx (b3 (hN names ml) x j m)) _ _ nmb em
      have ed8 := keep_at (o := .ins C dx (b3 (hN names ml) x j m)) _ _ ndb (s57 _ _ ed)
      have hb8 : (upd H7 b (.ins C dx (b3 (hN names ml) x j m))) b = some (.ins C dx (b3 (hN names ml) x j m)) := upd_same
      show tSeq _ _ _ _ (upd H7 b (.ins C dx (b3 (hN names ml) x j m)))
      generalize upd H7 b (.ins C dx (b3 (hN names ml) x j m)) = H8 at k8 em8 ed8 hb8 ⊢
      have ej8 := k8 _ _ njb ej4
      have el8 := k8 _ _ nlb el4
      refine ⟨(by show 2 ≤ sizeLine; decide), fun t0 ht0 => ⟨(by show 1 ≤ sizeLine; decide), fun t1 ht1 => ?_⟩⟩
      have sa := same_new (o := .tup [.int 0, .int 0]) ht0
      have ea : (upd H8 t0 (.tup [.int 0, .int 0])) t0 = some (.tup [.int 0, .int 0]) := upd_same
      generalize upd H8 t0 (.tup [.int 0, .int 0]) = H9 at sa ea ht1 ⊢
      have sb := same_new (o := .tup [.ref t0]) ht1
      have eb : (upd H9 t1 (.tup [.ref t0])) t1 = some (.tup [.ref t0]) := upd_same
      have ea2 := sb _ _ ea
      generalize upd H9 t1 (.tup [.ref t0]) = H10 at sb eb ea2 ⊢
      have sab := sa.trans sb
      have hb10 := sab _ _ hb8
      refine ⟨_, rfl, b, C, dx, _, _, rfl, hb10, B.cl, B.nJ, b3_jobs _ _ _, j, _, rfl, .inr (sqT_fz (sab _ _ ej8)), ?_⟩
      refine ⟨t1, names.length, [.ref t0], rfl, by rw [List.length_map], eb, (fun z => by cases z), nl1, by omega, (by show 1 ≤ 1000; decide), fun f H11 s11 ef => ?_⟩
      have hb11 := s11 _ _ hb10
      have s811 := sab.trans s11
      have nfb : f ≠ b := ne_of ef hb11 (fun z => by cases z)
      have ff : Fz H11 (.ref f) (eS (List.replicate names.length (0, 0))) := by
        refine .tup ef ?_
        have e0 : Fz H11 (.ref t0) (eP (0, 0)) := .tup (s11 _ _ ea2) (.cons (.int 0) (.cons (.int 0) .nil))
        generalize names.length = nn
        induction nn with
        | zero => exact .nil
        | succ nn ih => exact .cons e0 ih
      refine ⟨_, rfl, b, C, dx, _, rfl, hb11, B.cl, B.nF, (bl j m j j).2.2.2.1, ?_⟩
      have k12 : Keep b H8 (upd H11 b (.ins C dx (b4 (hN names ml) x j m f))) := (sKeep s811).trans keep_at
      have ff12 := ff.mv (Keep.tupsI hb11 (keep_at (o := .ins C dx (b4 (hN names ml) x j m f))))
      have hb12 : (upd H11 b (.ins C dx (b4 (hN names ml) x j m f))) b = some (.ins C dx (b4 (hN names ml) x j m f)) := upd_same
      show Ends.nx _ _ (upd H11 b (.ins C dx (b4 (hN names ml) x j m f)))
      generalize upd H11 b (.ins C dx (b4 (hN names ml) x j m f)) = H12 at k12 ff12 hb12 ⊢
      have ej12 := k12 _ _ njb ej8
      have el12 := k12 _ _ nlb el8
      have ed12 := k12 _ _ ndb ed8
      have em12 := k12 _ _ nmb em8
      have lkv : (mKv ml).length = ml.length := List.length_map ..
      have okl := ok.mn.l
      refine ⟨_, rfl, _, rfl, d, _, rfl, ed12, _, _, rfl, rfl, _, rfl, b, C, dx, _, _, rfl, hb12, B.cl, B.nJ, b4_jobs _ _ _ _, j, _, rfl, .inr (sqT_fz ej12), ?_⟩
      refine ⟨l, jN names :: (ml.map mLine ++ fs.map fT), 1 + ml.length, names.length, fs, ?_, el12, ?_, ?_, nl1, nl4, ok.f, by omega, fun v H13 s13 fz => ?_⟩
      · rw [lkv, List.length_map]
        show [V.ref l, V.int (1 + (ml.length : Int)), V.int (names.length : Int)] = _
        rw [show (1 + (ml.length : Int)) = ((1 + ml.length : Nat) : Int) by omega]
      · rw [List.length_cons, List.length_append, List.length_map]
        omega
      · rw [Nat.add_comm, List.drop_succ_cons, show ml.length = (ml.map mLine).length from (List.length_map ..).symm, List.drop_left]
      obtain ⟨a, xs, rfl, ha, fa⟩ := fz.t
      have hb13 := s13 _ _ hb12
      refine ⟨_, rfl, b, C, dx, _, rfl, hb13, B.cl, B.nA, (bl j m f j).2.2.2.2.1, ?_⟩
      have tF := Keep.tupsI hb13 (keep_at (o := .ins C dx (b5 (hN names ml) x j m f a)))
      have kF : Keep b H12 (upd H13 b (.ins C dx (b5 (hN names ml) x j m f a))) := (sKeep s13).trans keep_at
      refine q _ ((((k2.trans k4).trans k8).trans k12).trans kF) ⟨dx, j, m, f, a, upd_same, ⟨oj, doj, kF _ _ njb ej12⟩, kF _ _ nmb em12, (ff12.mv (tups_same s13)).mv tF, fz.mv tF⟩
end
end K01
namespace GD
open PySem PySem.Spec PyProof.Rows L2
/-- f'..', named -/
def tJn (ts : List TE) : TE := fun σ H Q => tJs ts Str.empty σ H fun out H1 => Q (.str out) H1
theorem pe_jn {X : Cx} {v1 v2 : Expr} {rest : List Expr} {ts : List TE} {pos : Pos} (h : PJ X (v1 :: v2 :: rest) ts) : PE X (.JoinedStr (v1 :: v2 :: rest) pos) (tJn ts) := pe_joined h
theorem emp (x : Str) : Str.empty ++ x = x := TL.ext_tl (by rw [TL.tl_append]; rfl)
end GD
namespace K01
open PySem PySem.Spec PyProof.Rows L2 GD
section
variable {P : Program} {w : World} {K : PySem.W.Frag} {mg : Str → Option Value} {base : Heap}
abbrev NCt : List Str := ["standing", "begun", "ended"]
theorem scCt : FnScope NCt ["standing"] (defScope pCountsText) := ⟨rfl, rfl, rfl, by decide +kernel, rfl, by decide +kernel, by decide +kernel⟩
theorem ok_ctext {f : Addr} {fd : FuncData} (F : Fun K "counts_text" "counts_text" pCountsText f fd) : FnOk P w K mg base CX0 1 f fd ["standing"] spStext := by
  refine F.ok scCt (fun vs H Q E h => ?_) (fun cdv A outer s H vs Q E hr h => ?_)
  · obtain ⟨v, sn, n, rfl, _⟩ := h
    rfl
  · obtain ⟨v, sn, n, rfl, fz, hb, hn, hl, q⟩ := h
    refine ⟨_, pss_one (ps_ret (pe_bm PySem.F.plainAttrs_str PySem.F.slot_str_join PySem.F.type_str_join mt_join pe_str (pa_cons (pe_lc (own := [("begun", 1), ("ended", 2)]) (g := gTup K 2 (gCons (gName 1) (gCons (gName 2) gNil))) (tt := tYes) rfl scCt.nd (pi_tup (pv 0))
      (blkOk_by (N := NCt) (sc := defScope pCountsText) (by decide +kernel)) (fun _ _ _ _ _ => pg_tup rfl (pgs_cons (pg_name (i := 1) scCt.nd rfl (.inl rfl)) (pgs_cons (pg_name (i := 2) scCt.nd rfl (.inl rfl)) pgs_nil))) (fun _ _ _ _ _ => pts_nil)
      (fun _ _ _ _ _ => pe_jn (.cons (pe_fmt (pv 1)) (.cons pe_str (.cons (pe_fmt (pv 2)) .nil))))) pa_nil))), ?_⟩
    obtain ⟨a, xs, rfl, ha, fx⟩ := fz.t
    have lx : xs.length = sn.length := by rw [fx.len, List.length_map]
    refine ⟨rfl, _, rfl, a, rfl, ⟨_, SqT.of ha⟩, fun D hD => ?_⟩
    refine lc_tup (K := K) (a := a) (xs := xs) (fun i H' => Same H H' ∧ H' D = some (.lst (((sn.take i).map pT).map V.str))) ⟨same_new hD, upd_same⟩ (fun i H' _ ⟨s2, _⟩ => SqT.of (s2 _ _ ha)) ?_ ?_
    · rintro i x H' hx ⟨s1, eD⟩
      obtain ⟨p, hp, fp⟩ := fx.atM hx
      obtain ⟨b, y1, y2, rfl, hb1, f1, f2⟩ := fp.t2
      obtain rfl := f1.i
      obtain rfl := f2.i
      have hi : i < sn.length := (List.getElem?_eq_some_iff.mp hp).1
      have hpb := hb p (List.mem_of_getElem? hp)
      have l1 := len_nT (i := p.1) (by omega) (by omega)
      have l2 := len_nT (i := p.2) (by omega) (by omega)
      refine ⟨b, _, rfl, SqT.of (s1 _ _ hb1), rfl, _, _, rfl, _, _, rfl, rfl, rfl, ?_⟩
      refine ⟨_, rfl, .inr ⟨p.1, rfl, log_small (by omega) (by omega), nT p.1, rfl, ?_, " ", rfl, ?_, _, rfl, .inr ⟨p.2, rfl, log_small (by omega) (by omega), nT p.2, rfl, ?_, ?_⟩⟩⟩
      · rw [emp]
        exact small_len (by omega)
      · rw [emp, len_app, len1]
        exact small_len (by omega)
      · rw [emp, len_app, len_app, len1]
        exact small_len (by omega)
      refine ⟨_, eD, ?_, same_upd s1 hD, ?_⟩
      · rw [List.length_map, List.length_map, List.length_take]
        exact Nat.lt_of_le_of_lt (Nat.min_le_left _ _) (Nat.lt_of_lt_of_le (show i < 101 by omega) (by decide))
      · rw [emp, upd_same, take_next hp, List.map_append, List.map_append]
        rfl
    · rintro H' ⟨s1, eD⟩
      rw [lx, List.take_length] at eD
      refine ⟨_, D, _, rfl, rfl, .inl (SqL.of eD), ?_, q H' s1⟩
      have z := sum_len (ys := sn.map pT) (k := 9) fun x hx => by
        obtain ⟨p, hp, rfl⟩ := List.mem_map.mp hx
        exact len_pT hb hn hp
      rw [List.length_map] at z
      rw [List.length_map, len1]
      omega
theorem scFL : FnScope ["fact"] ["fact"] (defScope pFactLine) := ⟨rfl, rfl, rfl, by decide +kernel, rfl, by decide +kernel, by decide +kernel⟩
theorem ok_factline {f fX : Addr} {fd fdX : FuncData} (F : Fun K "fact_line" "fact_line" pFactLine f fd) (AX : At K mg "counts_text" pCountsText ["standing"] fX fdX) : FnOk P w K mg base CX0 2 f fd ["fact"] spFline := by
  have GX : FnOk P w K mg base CX0 1 fX fdX ["standing"] spStext := ok_ctext AX.F
  refine F.ok scFL (fun vs H Q E h => ?_) (fun cdv A outer s H vs Q E hr h => ?_)
  · obtain ⟨v, f, k, n, rfl, _⟩ := h
    rfl
  · obtain ⟨v, f, k, n, rfl, fz, hb, hn, hk, q⟩ := h
    refine ⟨_, pss_cons (ps_if (pt_cmpR op_eq (pe_ix ix_tup (pv 0) pe_int (fun _ _ => rfl)) pe_str (nomark _))
        (pss_one (ps_ret (pe_jn (.cons pe_str (.cons (pe_fmt (pe_call GX hr (by rfl) AX.g AX.F.kp AX.b .nil pass0 (pa_cons (pe_ix ix_tup (pv 0) pe_int (fun _ _ => rfl)) pa_nil))) (.cons pe_str (.cons (pe_fmt (pe_call GX hr (by rfl) AX.g AX.F.kp AX.b .nil pass0 (pa_cons (pe_ix ix_tup (pv 0) pe_int (fun _ _ => rfl)) pa_nil))) .nil))))))) pss_nil)
      (pss_one (ps_ret (pe_jn (.cons (pe_fmt (pe_ix ix_tup (pv 0) pe_int (fun _ _ => rfl))) (.cons pe_str (.cons (pe_fmt (pe_call GX hr (by rfl) AX.g AX.F.kp AX.b .nil pass0 (pa_cons (pe_ix ix_tup (pv 0) pe_int (fun _ _ => rfl)) pa_nil))) .nil)))))), ?_⟩
    have e3 : ("let" : Str).length = 3 := rfl
    have e4 : ("not" : Str).length = 3 := rfl
    have e5 : ("as " : Str).length = 3 := rfl
    have e6 : (" to " : Str).length = 4 := rfl
    cases f with
    | let_ s =>
      obtain ⟨b, x, y, rfl, e, h1, h2⟩ := fz.t2
      obtain rfl := h1.s
      have ls := len_sT hb.2 hn
      rw [hb.1] at ls
      refine ⟨_, rfl, b, _, 0, _, rfl, rfl, SqT.of e, at0, rfl, _, rfl, iteF ?_⟩
      refine ⟨_, rfl, b, _, 0, _, rfl, rfl, SqT.of e, at0, .inl ⟨"let", rfl, by decide, "let", rfl, by decide, " ", rfl, by decide, ?_⟩⟩
      refine ⟨_, rfl, b, _, 1, _, rfl, rfl, SqT.of e, at1, y, s, n, rfl, h2, hb.2, hn, by rw [hb.1]; exact hk, fun H' s' => .inl ⟨sT s, rfl, small_len (by omega), sT s, rfl, ?_, ?_⟩⟩
      · rw [emp, len_app, len_app, e3, len1]
        exact small_len (by omega)
      · rw [emp]
        exact q H' s'
    | not_ s =>
      obtain ⟨b, x, y, rfl, e, h1, h2⟩ := fz.t2
      obtain rfl := h1.s
      have ls := len_sT hb.2 hn
      rw [hb.1] at ls
      refine ⟨_, rfl, b, _, 0, _, rfl, rfl, SqT.of e, at0, rfl, _, rfl, iteF ?_⟩
      refine ⟨_, rfl, b, _, 0, _, rfl, rfl, SqT.of e, at0, .inl ⟨"not", rfl, by decide, "not", rfl, by decide, " ", rfl, by decide, ?_⟩⟩
      refine ⟨_, rfl, b, _, 1, _, rfl, rfl, SqT.of e, at1, y, s, n, rfl, h2, hb.2, hn, by rw [hb.1]; exact hk, fun H' s' => .inl ⟨sT s, rfl, small_len (by omega), sT s, rfl, ?_, ?_⟩⟩
      · rw [emp, len_app, len_app, e4, len1]
        exact small_len (by omega)
      · rw [emp]
        exact q H' s'
    | as_ s t =>
      obtain ⟨b, x, y, z, rfl, e, h1, h2, h3⟩ := fz.t3
      obtain rfl := h1.s
      obtain ⟨k1, b1, k2, b2, ne⟩ := hb
      have ls := len_sT b1 hn
      rw [k1] at ls
      have lt := len_sT b2 hn
      rw [k2] at lt
      refine ⟨_, rfl, b, _, 0, _, rfl, rfl, SqT.of e, at0, rfl, _, rfl, iteT ?_⟩
      refine ⟨"as ", rfl, by decide, ?_⟩
      refine ⟨_, rfl, b, _, 1, _, rfl, rfl, SqT.of e, at1, y, s, n, rfl, h2, b1, hn, by rw [k1]; exact hk, fun H1 s1 => .inl ⟨sT s, rfl, small_len (by omega), sT s, rfl, ?_, " to ", rfl, ?_, ?_⟩⟩
      · rw [emp, len_app, e5]
        exact small_len (by omega)
      · rw [emp, len_app, len_app, e5, e6]
        exact small_len (by omega)
      refine ⟨_, rfl, b, _, 2, _, rfl, rfl, SqT.of (s1 _ _ e), at2, z, t, n, rfl, h3.same s1, b2, hn, by rw [k2]; exact hk, fun H2 s2 => .inl ⟨sT t, rfl, small_len (by omega), sT t, rfl, ?_, ?_⟩⟩
      · rw [emp, len_app, len_app, len_app, e5, e6]
        exact small_len (by omega)
      · rw [emp]
        exact q H2 (s1.trans s2)
end
end K01
namespace GD
open PySem PySem.Spec PyProof.Rows L2
/-! the text of a book by its lines, and that it is read back -/
def lN (names : List Str) (ml : List (Str × Str)) (fs : List Fact) : List Str := jN names :: (ml.map mLine ++ fs.map fT)
def bN (names : List Str) (ml : List (Str × Str)) (fs : List Fact) : Str := Txt.join "\n" (lN names ml fs)
structure GoodB (names : List Str) (ml : List (Str × Str)) (fs : List Fact) : Prop where
  nm : NamesOk names
  m1 : ∀ p ∈ ml, p.1 ∈ names
  m2 : ∀ p ∈ ml, p.2 ∈ lined3
  nd : (ml.map (·.1)).Nodup
  f : FactsOk names.length fs
theorem nodup_sub_len {α : Type} [DecidableEq α] : ∀ {l m : List α}, l.Nodup → (∀ x ∈ l, x ∈ m) → l.length ≤ m.length
  | [], m, _, _ => Nat.zero_le _
  | a :: l, m, h, hs => by
    have h1 := List.nodup_cons.mp h
    have ham := hs a List.mem_cons_self
    have hp := List.perm_cons_erase ham
    have z : l.length ≤ (m.erase a).length := nodup_sub_len h1.2 fun x hx => by
      have hxa : x ≠ a := fun e => h1.1 (e ▸ hx)
      exact (List.mem_erase_of_ne hxa).mpr (hs x (List.mem_cons_of_mem _ hx))
    have l2 := hp.length_eq
    rw [List.length_cons] at l2 ⊢
    omega
theorem GoodB.mlen {names : List Str} {ml : List (Str × Str)} {fs : List Fact} (h : GoodB names ml fs) : ml.length ≤ 4 := by
  have z := nodup_sub_len h.nd fun x hx => by
    obtain ⟨p, hp, rfl⟩ := List.mem_map.mp hx
    exact h.m1 p hp
  rw [List.length_map] at z
  have := h.nm.l4
  omega
theorem free_jobs : Free 32 ("jobs" : Str) := by
  unfold Free
  decide +kernel
theorem jN_words {names : List Str} (h : names ≠ []) : jN names = Txt.join " " (("jobs" : Str) :: names) := by
  rw [jN, join_cons h, show ("jobs " : Str) = "jobs" ++ " " from rfl]
theorem split_jN {names : List Str} (h : NamesOk names) : Txt.split (jN names) " " = ("jobs" : Str) :: names := by
  have ne : names ≠ [] := fun e => by
    have := h.l1
    rw [e] at this
    exact absurd this (by decide)
  rw [jN_words ne]
  refine split_sp (fun z => by cases z) fun x hx => ?_
  rcases List.mem_cons.mp hx with e | e
  · rw [e]
    exact free_jobs
  · exact nameB_free (h.nm x e) (by decide)
theorem free_app {c : Nat} {x y : Str} (h1 : Free c x) (h2 : Free c y) : Free c (x ++ y) := by
  unfold Free at *
  rw [TL.tl_append]
  exact fun m => (List.mem_append.mp m).elim h1 h2
theorem free_join {c : Nat} {y : Str} (hy : Free c y) : ∀ {xs : List Str}, (∀ x ∈ xs, Free c x) → Free c (Txt.join y xs)
  | [], _ => by
    unfold Free
    rw [TL.join_eq]
    exact fun m => (nomatch m)
  | [x], h => by
    rw [join_one]
    exact h x List.mem_cons_self
  | a :: b :: r, h => by
    rw [join_cons (by simp)]
    exact free_app (free_app (h a List.mem_cons_self) hy) (free_join hy fun x hx => h x (List.mem_cons_of_mem _ hx))
theorem free_sp10 : Free 10 (" " : Str) := by
  unfold Free
  decide +kernel
theorem free_jb10 : Free 10 ("jobs " : Str) := by
  unfold Free
  decide +kernel
theorem free_lined10 {x : Str} (h : x ∈ lined3) : Free 10 x := by
  unfold lined3 at h
  simp only [List.mem_cons, List.not_mem_nil, or_false] at h
  rcases h with rfl | rfl | rfl <;> (unfold Free; decide +kernel)
theorem free_lN {names : List Str} {ml : List (Str × Str)} {fs : List Fact} (h : GoodB names ml fs) : ∀ x ∈ lN names ml fs, Free 10 x := fun x hx => by
  rcases List.mem_cons.mp hx with e | e
  · rw [e]
    exact free_app free_jb10 (free_join free_sp10 fun y hy => nameB_free (h.nm.nm y hy) (by decide))
  · rcases List.mem_append.mp e with e | e
    · obtain ⟨p, hp, rfl⟩ := List.mem_map.mp e
      exact free_app (free_app (free_lined10 (h.m2 p hp)) free_sp10) (nameB_free (h.nm.nm _ (h.m1 p hp)) (by decide))
    · obtain ⟨f, hf, rfl⟩ := List.mem_map.mp e
      rw [fT_words (h.f.b f hf) h.nm.l1]
      exact free_join free_sp10 (free_wF (h.f.b f hf) (by decide))
theorem split_bN {names : List Str} {ml : List (Str × Str)} {fs : List Fact} (h : GoodB names ml fs) : Txt.split (bN names ml fs) "\n" = lN names ml fs := split_nl (fun z => by cases z) (free_lN h)
theorem len_jN {names : List Str} (h : NamesOk names) : (jN names).length ≤ 41 := by
  have z := len_join (y := " ") (ys := names) (k := 8) fun x hx => nameB_len (h.nm x hx)
  have := h.l4
  rw [len1] at z
  rw [jN, len_app, show ("jobs " : Str).length = 5 from rfl]
  omega
theorem good_text {names : List Str} {ml : List (Str × Str)} {fs : List Fact} (h : GoodB names ml fs) : TextOk (bN names ml fs) names ml fs := by
  have l4 := h.nm.l4
  have l1 := h.nm.l1
  have lm := h.mlen
  have lf := h.f.len
  refine ⟨?_, ⟨split_bN h, split_jN h.nm, len_jN h.nm, fun p hp => by have a := nameB_len (h.nm.nm _ (h.m1 p hp)); have b := (free_lined (h.m2 p hp)).2; rw [mLine, len_app, len_app, len1]; omega⟩, h.nm, ⟨fun p hp => ?_, h.m2, h.nd, fun x hx => ?_, by omega, by rw [List.length_map]; omega⟩, h.f⟩
  · have z := len_join (y := "\n") (ys := lN names ml fs) (k := 100) fun x hx => by
      rcases List.mem_cons.mp hx with e | e
      · rw [e]
        exact Nat.le_trans (len_jN h.nm) (by decide)
      · rcases List.mem_append.mp e with e | e
        · obtain ⟨p, hp, rfl⟩ := List.mem_map.mp e
          have a := nameB_len (h.nm.nm _ (h.m1 p hp))
          have b := (free_lined (h.m2 p hp)).2
          rw [mLine, len_app, len_app, len1]
          omega
        · obtain ⟨f, hf, rfl⟩ := List.mem_map.mp e
          have a := len_fT (h.f.b f hf) (by decide)
          omega
    rw [show ("\n" : Str).length = 1 from rfl] at z
    refine Nat.le_trans z ?_
    rw [lN, List.length_cons, List.length_append, List.length_map, List.length_map]
    omega
  · have hn := h.m1 p hp
    exact ⟨hn, nameB_free (h.nm.nm _ hn) (by decide), Nat.le_trans (nameB_len (h.nm.nm _ hn)) (by decide)⟩
  · obtain ⟨f, hf, rfl⟩ : ∃ f ∈ fs, fT f = x := by
      cases fs with
      | nil => cases hx
      | cons f r => exact ⟨f, List.mem_cons_self, Option.some.inj hx⟩
    have hb := h.f.b f hf
    refine ⟨?_, Nat.le_trans (len_fT hb (by decide)) (by omega)⟩
    rw [split_fT hb l1]
    cases f with
    | let_ s =>
      have l := wS_len s
      rw [hb.1] at l
      rw [wF, List.length_cons, l]
      omega
    | not_ s =>
      have l := wS_len s
      rw [hb.1] at l
      rw [wF, List.length_cons, l]
      omega
    | as_ s t =>
      have l := wS_len s
      rw [hb.1] at l
      rw [wF, List.length_append, List.length_cons, List.length_cons, l]
      omega
theorem bN_snoc {names : List Str} {ml : List (Str × Str)} {fs : List Fact} {f : Fact} : bN names ml (fs ++ [f]) = bN names ml fs ++ "\n" ++ fT f := by
  rw [bN, lN, List.map_append, ← List.append_assoc, ← List.cons_append, join_app (fun z => by cases z) (fun z => by cases z)]
  show _ ++ _ ++ Txt.join "\n" [fT f] = _
  rw [join_one]
  rfl
theorem hN_bN (names : List Str) (ml : List (Str × Str)) : hN names ml = bN names ml [] := by
  rw [bN, lN, List.map_nil, List.append_nil]
  rfl
theorem GoodB.head {names : List Str} {ml : List (Str × Str)} {fs : List Fact} (h : GoodB names ml fs) : GoodB names ml [] := { h with f := ⟨fun f hf => (nomatch hf), .nil, fun x hx => Nat.zero_le _⟩ }
/-- the text that the law's own lines make -/
theorem bT_bN (js : List (Str × Str)) (fs : List Fact) : bT js fs = bN (js.map (·.1)) (js.filter fun j => decide (j.2 ≠ ("plain" : Str))) fs := rfl
/-- texts are equal just if their lines are -/
theorem bN_inj {n1 n2 : List Str} {m1 m2 : List (Str × Str)} {f1 f2 : List Fact} (h1 : GoodB n1 m1 f1) (h2 : GoodB n2 m2 f2) (e : bN n1 m1 f1 = bN n2 m2 f2) : lN n1 m1 f1 = lN n2 m2 f2 := by
  rw [← split_bN h1, ← split_bN h2, e]
end GD
/-! == and != of an instance whose class has its own __eq__, and no __ne__; the other any value -/
namespace GD
open PySem PySem.Spec PyProof.Rows L2
section
variable {M : Model} {prog : Program} {w : World} {A : Around} {E : Value → Shared → Prop} {s : Shared} {K : PySem.W.Frag} {x C f : Addr} {ox : Obj} {od : Option Obj} {b tb : Value}
/-- the own == tells a bool -/
abbrev SaysB (prog : Program) (w : World) (A : Around) (E : Value → Shared → Prop) (f x : Addr) (b : Value) (Q : Bool → Shared → Prop) (s : Shared) : Prop := wpAny (model prog w) A (call (.ref f) [.ref x, b]) (fun v s' => ∃ k, v = .bool k ∧ Q k s') E s
theorem ne_entry {Q : Fin → Shared → Prop} (hu : A.units < cLine) (X : K.In s.heap) (I : PySem.W.InstAt s.heap x ox C od) (hs : PySem.W.findIn K (.ref C) "__eq__" = some (some (.ref f))) (hf : PySem.W.isFn K (.ref f) = true)
    (h : SaysB prog w A E f x b (fun k s' => Q (.done (.ret (.bool (!k)))) s') s) : wpAny (model prog w) A (Builtin.«object.__ne__» ⟨[.ref x, b], []⟩) Q E s := by
  unfold Builtin.«object.__ne__»
  have key : wpAny (model prog w) A (callSpecialIfBound? (.ref x) "__eq__" [b]) (fun r s' => ∃ k, r = some (.bool k) ∧ Q (.done (.ret (.bool (!k)))) s') E s :=
    PySem.W.ifBound_K X I hs hf (wpAny_mono h (fun v s' ⟨k, e, q⟩ => ⟨k, by rw [e], q⟩) fun _ _ e => e)
  repeat (first | with_reducible refine wpAny_cRoomFor hu ?_ | with_reducible refine wpAny_bind (wpAny_mono key ?_ fun _ _ e => e) | wp_step)
  rintro r s' ⟨k, rfl, q⟩
  exact wpAny_bind (wpAny_truthy_bool (wpAny_pure q))
theorem call_objNe {Q : Value → Shared → Prop} (hu : A.units + 1 < cLine) (X : K.In s.heap) (I : PySem.W.InstAt s.heap x ox C od) (hm : PySem.W.mroIn K C (.type "object") = some true) (hs : PySem.W.findIn K (.ref C) "__eq__" = some (some (.ref f))) (hf : PySem.W.isFn K (.ref f) = true)
    (h : SaysB prog w A.in1 E f x b (fun k s' => Q (.bool (!k)) s') s) : wpAny (model prog w) A (call (.builtin "object.__ne__") [.ref x, b]) Q E s := by
  refine wpAny_call (codeAny_call_builtin F.cmp_object.ne.plain F.cmpEntry_ne (PySem.W.check_slot F.cmpKind_ne F.cmpSplit_ne (I.type.andThen (PySem.W.looks_mroIn X hm)) (F.cmpArgs_ne _ _) ?_))
  exact ne_entry (by show A.units + 1 < cLine; exact hu) X I hs hf h
theorem ifBound_objNe {args : List Value} {Q : Option Value → Shared → Prop} (X : K.In s.heap) (I : PySem.W.InstAt s.heap x ox C od) (hn : PySem.W.findIn K (.ref C) "__ne__" = some (some (.builtin "object.__ne__")))
    (h : wpAny M A (call (.builtin "object.__ne__") (.ref x :: args)) (fun v => Q (some v)) E s) : wpAny M A (callSpecialIfBound? (.ref x) "__ne__" args) Q E s := by
  simp only [callSpecialIfBound?, bindSpecialIfBound?]
  refine wpAny_holding (wpAny_bind (wpAny_bind (wpAny_bind (I.type.here ((PySem.W.looks_findIn X hn).here (wpAny_bind (wpAny_askSetting (wpAny_ite ?_))))))))
  have fin : wpAny M A (call (.builtin "object.__ne__") ([.ref x] ++ args) >>= fun v => pure (some v)) Q E s := wpAny_bind (wpAny_mono h (fun v s' q => wpAny_pure q) fun _ _ q => q)
  split
  · exact wpAny_bind (wpAny_of_eq (F.cmp_object.ne.bind _) (wpAny_pure (by exact fin)))
  · exact wpAny_tryCatch (wpAny_bind (wpAny_of_eq (F.cmp_object.ne.bind _) (wpAny_pure (by exact fin))))
/-- x != b -/
theorem rc_ne {Q : Value → Shared → Prop} (hu : A.units + 1 < cLine) (X : K.In s.heap) (I : PySem.W.InstAt s.heap x ox C od) (hb : PySem.W.Looks (model prog w) s.heap (typeOf b) tb) (hf1 : PySem.W.notFirst K C tb = true) (hm : PySem.W.mroIn K C (.type "object") = some true)
    (hn : PySem.W.findIn K (.ref C) "__ne__" = some (some (.builtin "object.__ne__"))) (hs : PySem.W.findIn K (.ref C) "__eq__" = some (some (.ref f))) (hf : PySem.W.isFn K (.ref f) = true)
    (h : SaysB prog w A.in1 E f x b (fun k s' => Q (.bool (!k)) s') s) : wpAny (model prog w) A (richCompare .NotEq (.ref x) b) Q E s := by
  have one : wpAny (model prog w) A (tryCompare (.ref x) "__ne__" b) (fun r s' => ∃ v, r = some v ∧ Q v s') E s := by
    unfold tryCompare
    refine wpAny_bind (ifBound_objNe X I hn (call_objNe hu X I hm hs hf (wpAny_mono h (fun v s' q => ?_) fun _ _ q => q)))
    obtain ⟨k, rfl, q⟩ := q
    exact ⟨k, rfl, wpAny_pure ⟨_, rfl, q⟩⟩
  unfold richCompare
  simp only [oneThing_ref]
  refine wpAny_holding (wpAny_bind (wpAny_cRoomFor (by omega) (wpAny_bind (I.type.here (wpAny_bind (hb.here ?_))))))
  split
  · rename_i q
    have e : PySem.W.subIn K tb (.ref C) = some false := by
      rcases Bool.or_eq_true_iff.mp hf1 with e | e
      · rw [beq_iff_eq.mp e] at q; simp at q
      · exact beq_iff_eq.mp e
    refine wpAny_bind ((PySem.W.looks_subIn X e).here ?_)
    simp only [Bool.false_eq_true, if_false]
    refine wpAny_bind (wpAny_mono one (fun r s' z => ?_) fun _ _ e => e)
    obtain ⟨v, rfl, hq⟩ := z
    exact wpAny_pure hq
  · refine wpAny_bind (wpAny_pure ?_)
    simp only [Bool.false_eq_true, if_false]
    refine wpAny_bind (wpAny_mono one (fun r s' z => ?_) fun _ _ e => e)
    obtain ⟨v, rfl, hq⟩ := z
    exact wpAny_pure hq
end
end GD
namespace GD
open PySem PySem.Spec PyProof.Rows L2
/-- the own == of the class at C -/
structure OwnEq1 (K : PySem.W.Frag) (C f : Addr) : Prop where
  eq : PySem.W.findIn K (.ref C) "__eq__" = some (some (.ref f))
  fn : PySem.W.isFn K (.ref f) = true
  ne : PySem.W.findIn K (.ref C) "__ne__" = some (some (.builtin "object.__ne__"))
  ob : PySem.W.mroIn K C (.type "object") = some true
/-- x == y (or !=), x an instance of the class at C, y of a type that goes not first -/
def rOwnC (K : PySem.W.Frag) (C : Addr) (sp : Sp) (E : XK) (neg : Bool) : R2 := fun x y H Q => ∃ a dx fs t, x = .ref a ∧ H a = some (.ins C dx fs) ∧ TyX K H y t ∧ PySem.W.notFirst K C t = true ∧ sp [x, y] H (fun v H' => ∃ k : Bool, v = .bl k ∧ Q (.bl (if neg then !k else k)) H') E
section
variable {X : Cx} {CX : CXT} {k : Nat} {f C : Addr} {fd : FuncData} {ps : List Str} {sp : Sp} {E : XK}
theorem op_eqC (F : FnOk X.prog X.w X.K X.mg X.base CX k f fd ps sp) (hr : Room k X.A) (hb : Binds X.K fd ps []) (hx : Passes CX X E) (O : OwnEq1 X.K C f) : OpR X (compareOp .Eq) (rOwnC X.K C sp E false) := by
  intro pins s σ H x y v u Q I rx ry h
  obtain ⟨a, dx, fs, t, rfl, ha, ty, nf, q⟩ := h
  cases (show v = Value.ref a from rx)
  obtain ⟨mA, J, _⟩ := ins_get I.hok ha
  obtain ⟨od, J, _⟩ := J.look
  obtain ⟨P, Z, p, _⟩ := kit_of I ry ty
  obtain ⟨m, hF⟩ := I.fr
  refine PySem.W.cmp_K (op := .Eq) (tb := t) hr.units0 hF I.ok.mod.kin J (Z.ty _ _ I.kIn p) nf O.eq O.fn ?_
  refine wpAny_mono (run_fn (us := [.ref a, u]) (vs := [.ref a, y]) F hr hb .nil hx I (.cons rfl (.cons ry .nil)) q) (fun w s' z => ?_) fun _ _ x => x
  obtain ⟨z', H', I', rz, b, rfl, qz⟩ := z
  cases rz
  exact ⟨.bl b, H', I', rfl, qz⟩
theorem op_neC (F : FnOk X.prog X.w X.K X.mg X.base CX k f fd ps sp) (hr : Room (k + 1) X.A) (hb : Binds X.K fd ps []) (hx : Passes CX X E) (O : OwnEq1 X.K C f) : OpR X (compareOp .NotEq) (rOwnC X.K C sp E true) := by
  intro pins s σ H x y v u Q I rx ry h
  obtain ⟨a, dx, fs, t, rfl, ha, ty, nf, q⟩ := h
  cases (show v = Value.ref a from rx)
  obtain ⟨mA, J, _⟩ := ins_get I.hok ha
  obtain ⟨od, J, _⟩ := J.look
  obtain ⟨P, Z, p, _⟩ := kit_of I ry ty
  have hl := F.len _ _ _ _ q
  refine rc_ne (tb := t) (by have := hr.un; omega) I.kIn J (Z.ty _ _ I.kIn p) nf O.ob O.ne O.eq O.fn ?_
  refine wpAny_call (codeAny_mono (F.run X.A.in1 X.stack s H ⟨[.ref a, u], []⟩ [.ref a, u] [.ref a, y] _ E hr.in1 I.env0.in1 (by
    have := hb s [.ref a, u] I.kIn (by simpa using hl)
    simpa using this) (.cons rfl (.cons ry .nil)) q) fun r s' hq => ?_)
  cases r with
  | error e => exact hx pins σ H s e s' I hq
  | ok fl =>
    cases fl with
    | ret w =>
      obtain ⟨z', H', I', rz, b, rfl, qz⟩ := I.after hq
      cases rz
      exact ⟨b, rfl, .bl (!b), H', I', rfl, qz⟩
    | next => exact False.elim hq
    | brk => exact False.elim hq
    | cont => exact False.elim hq
end
end GD
namespace GD
open PySem PySem.Spec PyProof.Rows L2
/-- an instance's text -/
def TextAt (C : Addr) (H : Hp) (b : Addr) (x : Str) : Prop := ∃ dx fl, H b = some (.ins C dx fl) ∧ fl.lookup ("text" : Str) = some (.str x)
theorem BookAt.text {C : Addr} {H : Hp} {b : Addr} {x : Str} {names : List Str} {ml : List (Str × Str)} {fs : List Fact} (h : BookAt C H b x names ml fs) : TextAt C H b x := by
  obtain ⟨dx, j, m, f, a, hb, _⟩ := h
  exact ⟨dx, _, hb, b5_text _ _ _ _ _⟩
def spEqB (K : PySem.W.Frag) (C : Addr) : Sp := fun vs H Q _ => ∃ (b : Addr) (x : Str) (y : V), vs = [.ref b, y] ∧ TextAt C H b x ∧ ((∃ b' x', y = .ref b' ∧ TextAt C H b' x' ∧ Q (.bl (decide (x = x'))) H) ∨ ∃ t, TyX K H y t ∧ PySem.W.kitOne K t (.ref C) = some false ∧ Q (.bl false) H)
structure BookT (K : PySem.W.Frag) (C : Addr) : Prop where
  ty : ∀ {H : Hp} {a dx : Addr} {fl : List (Str × V)}, H a = some (.ins C dx fl) → TyX K H (.ref a) (.ref C)
  me : PySem.W.kitOne K (.ref C) (.ref C) = some true
end GD
namespace K01
open PySem PySem.Spec PyProof.Rows L2 GD
abbrev pEq : Stmt := inClass cBook 7
abbrev pTold : Stmt := inClass cBook 2
abbrev pUntold : Stmt := inClass cBook 3
section
variable {P : Program} {w : World} {K : PySem.W.Frag} {mg : Str → Option Value} {base : Heap}
theorem scEq : FnScope ["self", "other"] ["self", "other"] (defScope pEq) := ⟨rfl, rfl, rfl, by decide +kernel, rfl, by decide +kernel, by decide +kernel⟩
theorem ok_eq {f C : Addr} {fd : FuncData} (F : Fun K "__eq__" "Book.__eq__" pEq f fd) (B : BookC K mg C) (BT : BookT K C) (isi : mg "isinstance" = none) : FnOk P w K mg base CX0 1 f fd ["self", "other"] (spEqB K C) := by
  refine F.ok scEq (fun vs H Q E h => ?_) (fun cdv A outer s H vs Q E hr h => ?_)
  · obtain ⟨b, x, y, rfl, _⟩ := h
    rfl
  · obtain ⟨b, x, y, rfl, ⟨dx, fl, hb, tx⟩, h⟩ := h
    refine ⟨_, pss_one (ps_ret (pe_and (pe_callB call_isi (by rfl) isi (by decide +kernel) (pa_cons (pv 1) (pa_cons (pe_glob (v := .ref C) (by rfl) B.mgC rfl) pa_nil)))
      (pe_one (pe_cmpR op_eq (pe_fld (pv 0) rfl) (pe_fld (pv 1) rfl) (nomark _))))), ?_⟩
    rcases h with ⟨b', x', rfl, ⟨dx', fl', hb', tx'⟩, q⟩ | ⟨t, ty, ki, q⟩
    · refine ⟨_, rfl, _, _, _, _, true, rfl, .own C, BT.ty hb', BT.me, _, rfl, iteT ?_⟩
      refine ⟨_, rfl, b, C, dx, _, _, rfl, hb, B.cl, B.nT, tx, _, rfl, b', C, dx', _, _, rfl, hb', B.cl, B.nT, tx', rfl, ?_⟩
      rw [show decide (V.str x = V.str x') = decide (x = x') from decide_eq_decide.mpr ⟨fun e => V.str.inj e, fun e => by rw [e]⟩]
      exact q
    · exact ⟨_, rfl, _, _, _, _, false, rfl, .own C, ty, ki, _, rfl, iteF q⟩
end
end K01
namespace GD
open PySem PySem.Spec PyProof.Rows L2
def rInT (K : PySem.W.Frag) : R2 := fun x y H Q => ∃ d ds, Dp K H x d ∧ Dp K H y (.tuple ds) ∧ SeqAt.shaped d = true ∧ SeqAt.shaped (.tuple ds) = true ∧ Q (.bl (ds.any fun z => PyData.eqv z d)) H
theorem op_inT {X : Cx} (hu : X.A.units + 65 < cLine) : OpR X (compareOp .In) (rInT X.K) := by
  intro pins s σ H x y v u Q I rx ry h
  obtain ⟨d, ds, hd, he, sd, se, q⟩ := h
  obtain ⟨as, r1⟩ := Dp.reads I d x v hd rx
  obtain ⟨bs, r2⟩ := Dp.reads I (.tuple ds) y u he ry
  exact SeqAt.in_tuple_reads r2 r1 (SeqAt.canLay_of_shaped se) (SeqAt.canLay_of_shaped sd) (room_in_shaped sd hu) ⟨.bl _, H, I, rfl, q⟩
theorem shape_eFt (fs : List Fact) : SeqAt.shaped (.tuple (fs.map eF)) = true := by
  refine shape_of ?_ ?_
  · rw [PyData.canLay0]
    exact can_all fun d hd => by
      obtain ⟨f, _, e⟩ := List.mem_map.mp hd
      rw [← e]
      exact can_eF f
  · rw [PyData.depth]
    have z := depth_all (n := 3) (ds := fs.map eF) fun d hd => by
      obtain ⟨f, _, e⟩ := List.mem_map.mp hd
      rw [← e]
      exact depth_eF f
    omega
theorem any_in {fs : List Fact} {f : Fact} : ((fs.map eF).any fun z => PyData.eqv z (eF f)) = true ↔ f ∈ fs := by
  rw [List.any_eq_true]
  constructor
  · rintro ⟨d, hd, e⟩
    obtain ⟨g, hg, rfl⟩ := List.mem_map.mp hd
    rw [← eqv_eF e]
    exact hg
  · exact fun h => ⟨eF f, List.mem_map_of_mem h, eqv_self (shape_eF f)⟩
theorem FactsOk.snoc {k : Nat} {fs : List Fact} {f : Fact} (h : FactsOk k fs) (hb : FactB k 40 f) (hn : f ∉ fs) (hc : GD.cnt (kindS f) fs < lim (kindS f)) : FactsOk k (fs ++ [f]) := by
  refine ⟨fun g hg => ?_, List.nodup_append.mpr ⟨h.nd, List.nodup_cons.mpr ⟨fun h => (nomatch h), .nil⟩, fun u hu v hv e => ?_⟩, fun x hx => ?_⟩
  · rcases List.mem_append.mp hg with y | y
    · exact h.b g y
    · rw [List.mem_singleton.mp y]
      exact hb
  · rw [List.mem_singleton.mp hv] at e
    exact hn (e ▸ hu)
  · rw [cnt_snoc, one3]
    by_cases e : kindS f = x
    · rw [if_pos e, ← e]
      omega
    · rw [if_neg e]
      exact h.lm x hx
theorem GoodB.snoc {names : List Str} {ml : List (Str × Str)} {fs : List Fact} {f : Fact} (h : GoodB names ml fs) (hb : FactB names.length 40 f) (hn : f ∉ fs) (hc : GD.cnt (kindS f) fs < lim (kindS f)) : GoodB names ml (fs ++ [f]) :=
  { h with f := h.f.snoc hb hn hc }
theorem FactsOk.sub {k : Nat} {fs gs : List Fact} (h : FactsOk k fs) (s : List.Sublist gs fs) : FactsOk k gs :=
  ⟨fun g hg => h.b g (s.subset hg), s.nodup h.nd, fun x hx => Nat.le_trans (s.filter _).length_le (h.lm x hx)⟩
theorem GoodB.sub {names : List Str} {ml : List (Str × Str)} {fs gs : List Fact} (h : GoodB names ml fs) (s : List.Sublist gs fs) : GoodB names ml gs := { h with f := h.f.sub s }
theorem lN_len (names : List Str) (ml : List (Str × Str)) (fs : List Fact) : (lN names ml fs).length = 1 + ml.length + fs.length := by
  rw [lN, List.length_cons, List.length_append, List.length_map, List.length_map]
  omega
theorem lN_erase (names : List Str) (ml : List (Str × Str)) (fs : List Fact) (i : Nat) : (lN names ml fs).take (1 + ml.length + i) ++ (lN names ml fs).drop (1 + ml.length + i + 1) = lN names ml (fs.eraseIdx i) := by
  have e : ∀ fs : List Fact, lN names ml fs = (jN names :: ml.map mLine) ++ fs.map fT := fun fs => rfl
  have l : (jN names :: ml.map mLine).length = 1 + ml.length := by rw [List.length_cons, List.length_map]; omega
  rw [e, e, List.eraseIdx_eq_take_drop_succ, List.map_append, List.map_take, List.map_drop, ← l, List.take_append, List.drop_append]
  rw [List.take_of_length_le (by omega), List.drop_eq_nil_of_le (by omega), List.nil_append, List.append_assoc]
  congr 2
  · congr 1
    omega
  · congr 1
    omega
open Classical in
/-- facts told one by one -/
noncomputable def addF (fs : List Fact) (f : Fact) : List Fact := if f ∈ fs then fs else fs ++ [f]
noncomputable def growF (fs gs : List Fact) : List Fact := gs.foldl addF fs
theorem growF_take {fs gs : List Fact} {i : Nat} {f : Fact} (h : gs[i]? = some f) : growF fs (gs.take (i + 1)) = addF (growF fs (gs.take i)) f := by
  rw [take_next h, growF, List.foldl_append]
  rfl
def NoFull (fs gs : List Fact) : Prop := ∀ (i : Nat) (f : Fact), gs[i]? = some f → f ∉ growF fs (gs.take i) → GD.cnt (kindS f) (growF fs (gs.take i)) < lim (kindS f)
def spGrown (C : Addr) : Sp := fun vs H Q _ => ∃ (b l : Addr) (names : List Str) (ml : List (Str × Str)) (fs gs : List Fact), vs = [.ref b, .ref l] ∧ BookAt C H b (bN names ml fs) names ml fs ∧ GoodB names ml fs ∧ LstAt H l (gs.map eF) ∧ (∀ g ∈ gs, FactB names.length 40 g) ∧ NoFull fs gs ∧ gs.length ≤ 200 ∧
  (growF fs gs = fs → ∀ H', Same H H' → Q (.ref b) H') ∧ (growF fs gs ≠ fs → ∀ b' H', Same H H' → H b' = none → BookAt C H' b' (bN names ml (growF fs gs)) names ml (growF fs gs) → GoodB names ml (growF fs gs) → Q (.ref b') H')
def spRemade (C : Addr) : Sp := fun vs H Q _ => ∃ (b l a : Addr) (x : Str) (names : List Str) (ml : List (Str × Str)) (fs gs : List Fact) (ls : List Str), vs = [.ref b, .ref l, .ref a] ∧ BookAt C H b x names ml fs ∧ GoodB names ml gs ∧ H l = some (.lst (ls.map V.str)) ∧ Txt.join "\n" ls = bN names ml gs ∧ ls.length ≤ 300 ∧ Fz H (.ref a) (.tuple (gs.map eF)) ∧
  ∀ b' H', Same H H' → H b' = none → BookAt C H' b' (bN names ml gs) names ml gs → Q (.ref b') H'
theorem bN_more {names : List Str} {ml : List (Str × Str)} {fs : List Fact} : ∀ {gs : List Fact}, Txt.join "\n" (bN names ml fs :: gs.map fT) = bN names ml (fs ++ gs)
  | [] => by rw [List.map_nil, join_one, List.append_nil]
  | g :: gs => by
    have ih := bN_more (names := names) (ml := ml) (fs := fs ++ [g]) (gs := gs)
    rw [List.append_assoc, List.singleton_append] at ih
    rw [← ih, List.map_cons, join_cons (by simp)]
    cases gs with
    | nil => rw [List.map_nil, join_one, join_one, bN_snoc]
    | cons g2 r =>
      rw [List.map_cons, join_cons (x := fT g) (by simp), join_cons (x := bN names ml (fs ++ [g])) (by simp), bN_snoc]
      simp only [app_assoc]
def spTold (C : Addr) : Sp := fun vs H Q _ => ∃ (b : Addr) (v : V) (names : List Str) (ml : List (Str × Str)) (fs : List Fact) (f : Fact), vs = [.ref b, v] ∧ BookAt C H b (bN names ml fs) names ml fs ∧ GoodB names ml fs ∧ Fz H v (eF f) ∧ FactB names.length 40 f ∧
  (f ∈ fs → ∀ H', Same H H' → Q (.ref b) H') ∧ (f ∉ fs → GD.cnt (kindS f) fs < lim (kindS f) ∧ ∀ b' H', Same H H' → H b' = none → BookAt C H' b' (bN names ml (fs ++ [f])) names ml (fs ++ [f]) → Q (.ref b') H')
def spUntold (C : Addr) : Sp := fun vs H Q _ => ∃ (b : Addr) (i : Nat) (names : List Str) (ml : List (Str × Str)) (fs : List Fact), vs = [.ref b, .int i] ∧ BookAt C H b (bN names ml fs) names ml fs ∧ GoodB names ml fs ∧ i < fs.length ∧
  ∀ b' H', Same H H' → H b' = none → BookAt C H' b' (bN names ml (fs.eraseIdx i)) names ml (fs.eraseIdx i) → Q (.ref b') H'
theorem BookAt.same {C : Addr} {H H' : Hp} {b : Addr} {x : Str} {names : List Str} {ml : List (Str × Str)} {fs : List Fact} (s : Same H H') (h : BookAt C H b x names ml fs) : BookAt C H' b x names ml fs := by
  obtain ⟨dx, j, m, f, a, h1, h2, h3, h4, h5⟩ := h
  exact ⟨dx, j, m, f, a, s _ _ h1, h2.same s, s _ _ h3, h4.same s, h5.same s⟩
theorem made_same {C x dx : Addr} {H H' : Hp} (nx : H x = none) (ndx : H dx = none) (k : Keep x (upd (upd H dx (.own x)) x (.ins C dx [])) H') : Same H H' := fun b o e => k b o (ne_of_none e nx) (by rw [upd_ne (ne_of_none e nx), upd_ne (ne_of_none e ndx)]; exact e)
end GD
namespace K01
open PySem PySem.Spec PyProof.Rows L2 GD
section
variable {P : Program} {w : World} {K : PySem.W.Frag} {mg : Str → Option Value} {base : Heap}
/-- a book is made -/
structure Maker (P : Program) (w : World) (K : PySem.W.Frag) (mg : Str → Option Value) (base : Heap) (C fI : Addr) (fdI : FuncData) : Prop where
  B : BookC K mg C
  M : Mk K C fI
  b : Binds K fdI ["self", "text"] []
  G : FnOk P w K mg base CX0 6 fI fdI ["self", "text"] (spInitB C)
theorem made_book {C : Addr} {names : List Str} {ml : List (Str × Str)} {fs : List Fact} {H : Hp} {Q : VK} (g : GoodB names ml fs) (q : ∀ b H', Same H H' → H b = none → BookAt C H' b (bN names ml fs) names ml fs → Q (.ref b) H') (x dx : Addr) (nx : H x = none) (ndx : H dx = none) (ne : dx ≠ x) :
    spInitB C (V.ref x :: ([.str (bN names ml fs)] ++ [])) (upd (upd H dx (.own x)) x (.ins C dx [])) (fun v H2 => v = .non ∧ Q (.ref x) H2) E0 :=
  ⟨x, dx, _, names, ml, fs, rfl, upd_same, good_text g, fun H' k b => ⟨rfl, q x H' (made_same nx ndx k) nx b⟩⟩
theorem sum_join : ∀ ys : List Str, (ys.map (·.length)).sum + ys.length ≤ (Txt.join "\n" ys).length + 1
  | [] => Nat.zero_le _
  | [y] => by
    rw [GD.join_one]
    simp
  | y :: z :: r => by
    have ih := sum_join (z :: r)
    rw [join_cons (by simp), len_app, len_app, show ("\n" : Str).length = 1 from rfl, List.map_cons, List.sum_cons, List.length_cons]
    omega
theorem scRm : FnScope ["book", "lines", "facts", "made"] ["book", "lines", "facts"] (defScope pRemade) := ⟨rfl, rfl, rfl, by decide +kernel, rfl, by decide +kernel, by decide +kernel⟩
theorem ok_remade {f C fI : Addr} {fd fdI : FuncData} (F : Fun K "remade" "remade" pRemade f fd) (MK : Maker P w K mg base C fI fdI) : FnOk P w K mg base CX0 8 f fd ["book", "lines", "facts"] (spRemade C) := by
  refine F.ok scRm (fun vs H Q E h => ?_) (fun cdv A outer s H vs Q E hr h => ?_)
  · obtain ⟨b, l, a, x, names, ml, fs, gs, ls, rfl, _⟩ := h
    rfl
  · obtain ⟨b, l, a, x, names, ml, fs, gs, ls, rfl, hb, good, hl, hj, hls, fz, q⟩ := h
    have B := MK.B
    refine ⟨_, pss_cons (ps_set (i := 3) scRm.nd rfl (.inl rfl) (pe_make MK.M MK.G hr (by rfl) B.mgC MK.b .nil pass0 (pa_cons (pe_fld (pv 0) rfl) pa_nil)))
      (pss_cons (ps_fld (pv 3) (pe_bm PySem.F.plainAttrs_str PySem.F.slot_str_join PySem.F.type_str_join mt_join pe_str (pa_cons (pv 1) pa_nil)) rfl)
      (pss_cons (ps_fld (pv 3) (pv 2) rfl)
      (pss_one (ps_ret (pv 3))))), ?_⟩
    obtain ⟨dx, j, m, fi, a0, eb, ej, em, ff, fa⟩ := id hb
    refine ⟨_, rfl, b, C, dx, _, _, rfl, eb, B.cl, B.nH, b5_head _ _ _ _ _, ?_⟩
    intro y dy ny ndy ne
    rw [hN_bN]
    refine ⟨y, dy, _, names, ml, [], rfl, upd_same, good_text good.head, fun H1 k1 hb1 => ⟨rfl, ?_⟩⟩
    have s1 := made_same ny ndy k1
    obtain ⟨dx1, j1, m1, f1, a1, eb1, ej1, em1, ff1, fa1⟩ := hb1
    have nly : l ≠ y := fun e => by
      rw [e, ny] at hl
      cases hl
    have bl := b_len (hN names ml)
    refine ⟨rfl, _, rfl, _, l, ls, rfl, rfl, .inl (SqL.of (s1 _ _ hl)), ?_, ?_⟩
    · have lx := (good_text good).len
      have z := sum_join ls
      rw [hj] at z
      rw [show ("\n" : Str).length = 1 from rfl]
      exact Nat.le_trans (show _ ≤ 90001 by omega) (by decide)
    rw [hj]
    refine ⟨_, rfl, y, C, dx1, _, rfl, eb1, B.cl, B.nT, (bl _ j1 m1 f1 a1).2.2.2.2.2, ?_⟩
    rw [b5_putT]
    have k2 : Keep y H1 (upd H1 y (.ins C dx1 (b5 (hN names ml) (bN names ml gs) j1 m1 f1 a1))) := keep_at
    have t2 := Keep.tupsI eb1 k2
    have eb2 : (upd H1 y (.ins C dx1 (b5 (hN names ml) (bN names ml gs) j1 m1 f1 a1))) y = some (.ins C dx1 (b5 (hN names ml) (bN names ml gs) j1 m1 f1 a1)) := upd_same
    generalize upd H1 y (.ins C dx1 (b5 (hN names ml) (bN names ml gs) j1 m1 f1 a1)) = H2 at k2 t2 eb2 ⊢
    refine ⟨_, rfl, _, rfl, y, C, dx1, _, rfl, eb2, B.cl, B.nA, (bl _ j1 m1 f1 a1).2.2.2.2.2, ?_⟩
    rw [b5_putA]
    have k3 : Keep y H2 (upd H2 y (.ins C dx1 (b5 (hN names ml) (bN names ml gs) j1 m1 f1 a))) := keep_at
    have t3 := Keep.tupsI eb2 k3
    have k13 := k2.trans k3
    have t13 : Tups H1 _ := fun c xs e => t3 c xs (t2 c xs e)
    obtain ⟨oj, doj, ej1⟩ := ej1
    have njy : j1 ≠ y := ne_of ej1 eb1 (fun z => by cases z)
    have nmy : m1 ≠ y := ne_of em1 eb1 (fun z => by cases z)
    have s3 : Same H (upd H2 y (.ins C dx1 (b5 (hN names ml) (bN names ml gs) j1 m1 f1 a))) := fun c o e => k13 c o (ne_of_none e ny) (s1 _ _ e)
    exact ⟨_, rfl, q y _ s3 ny ⟨dx1, j1, m1, f1, a, upd_same, ⟨oj, doj, k13 _ _ njy ej1⟩, k13 _ _ nmy em1, ff1.mv t13, fz.same s3⟩⟩
abbrev NGr : List Str := ["book", "facts", "known", "lines", "fact"]
theorem scGr : FnScope NGr ["book", "facts"] (defScope pGrown) := ⟨rfl, rfl, rfl, by decide +kernel, rfl, by decide +kernel, by decide +kernel⟩
theorem grow_inv {names : List Str} {ml : List (Str × Str)} {fs gs : List Fact} (good : GoodB names ml fs) (hg : ∀ g ∈ gs, FactB names.length 40 g) (nf : NoFull fs gs) : ∀ i, i ≤ gs.length → ∃ new, growF fs (gs.take i) = fs ++ new ∧ GoodB names ml (fs ++ new) ∧ new.length ≤ i
  | 0, _ => ⟨[], by rw [List.take_zero, List.append_nil]; rfl, by rw [List.append_nil]; exact good, Nat.le_refl _⟩
  | i + 1, hi => by
    obtain ⟨new, e, g, l⟩ := grow_inv good hg nf i (by omega)
    have h : gs[i]? = some gs[i] := List.getElem?_eq_getElem (by omega)
    have hm := List.mem_of_getElem? h
    have z := nf i _ h
    rw [growF_take h]
    rw [e] at z ⊢
    generalize gs[i] = f at h hm z ⊢
    unfold addF
    by_cases c : f ∈ fs ++ new
    · rw [if_pos c]
      exact ⟨new, rfl, g, by omega⟩
    · rw [if_neg c]
      refine ⟨new ++ [f], by rw [List.append_assoc], ?_, by rw [List.length_append, List.length_singleton]; omega⟩
      rw [← List.append_assoc]
      exact g.snoc (hg f hm) c (z c)
theorem ok_grown {f C fI : Addr} {fd fdI : FuncData} (F : Fun K "grown" "grown" pGrown f fd) (MK : Maker P w K mg base C fI fdI) (S : Forms1 mg) (nl : mg "list" = none)
    {fL fX fR : Addr} {fdL fdX fdR : FuncData}
    (gL : mg "is_full" = some (.ref fL)) (bL : Binds K fdL ["facts", "kind"] []) (kL : PySem.W.keepIn K (.ref fL) = true) (GL : FnOk P w K mg base CX0 1 fL fdL ["facts", "kind"] spFull)
    (gX : mg "fact_line" = some (.ref fX)) (bX : Binds K fdX ["fact"] []) (kX : PySem.W.keepIn K (.ref fX) = true) (GX : FnOk P w K mg base CX0 2 fX fdX ["fact"] spFline)
    (gR : mg "remade" = some (.ref fR)) (bR : Binds K fdR ["book", "lines", "facts"] []) (kR : PySem.W.keepIn K (.ref fR) = true) (GR : FnOk P w K mg base CX0 8 fR fdR ["book", "lines", "facts"] (spRemade C)) : FnOk P w K mg base CX0 9 f fd ["book", "facts"] (spGrown C) := by
  refine F.ok scGr (fun vs H Q E h => ?_) (fun cdv A outer s H vs Q E hr h => ?_)
  · obtain ⟨b, l, names, ml, fs, gs, rfl, _⟩ := h
    rfl
  · obtain ⟨b, l, names, ml, fs, gs, rfl, hb, good, ⟨gx, eg, fg⟩, hg, nf, hlen, q1, q2⟩ := h
    have B := MK.B
    have hr1 : Room 1 _ := hr.mono (by decide)
    have hr2 : Room 2 _ := hr.mono (by decide)
    have hr8 : Room 8 _ := hr.mono (by decide)
    have lgx : gx.length = gs.length := by rw [fg.len, List.length_map]
    refine ⟨_, pss_cons (ps_set (i := 2) scGr.nd rfl (.inl rfl) (pe_callTy call_list_of (by rfl) nl (by decide +kernel) (pa_cons (pe_fld (pv 0) rfl) pa_nil)))
      (pss_cons (ps_set (i := 3) scGr.nd rfl (.inl rfl) (pe_lst (pa_cons (pe_fld (pv 0) rfl) pa_nil)))
      (pss_cons (ps_for PassesOwn.never rfl (pi_list (pv 1)) (pg_name (i := 4) scGr.nd rfl (.inl rfl))
        (pss_one (ps_if (pt_cmpR (op_notInD (u65 hr)) (pv 4) (pv 2) (by rfl))
          (pss_cons (ps_if (pt_val (pe_call GL hr1 (by rfl) gL kL bL .nil pass0 (pa_cons (pv 2) (pa_cons (pe_ix ix_tup (pv 4) pe_int (fun _ _ => rfl)) pa_nil)))) (pss_one ps_no) pss_nil)
          (pss_cons (ps_expr (pe_bm PySem.F.plainAttrs_list PySem.F.slot_list_append PySem.F.type_list_append mt_append (pv 2) (pa_cons (pv 4) pa_nil)))
          (pss_one (ps_expr (pe_bm PySem.F.plainAttrs_list PySem.F.slot_list_append PySem.F.type_list_append mt_append (pv 3) (pa_cons (pe_call GX hr2 (by rfl) gX kX bX .nil pass0 (pa_cons (pv 4) pa_nil)) pa_nil)))))) pss_nil)))
      (pss_cons (ps_if (pt_cmpR op_eq (pe_callB call_len_seq (by rfl) S.len PySem.boot_len (pa_cons (pv 3) pa_nil)) pe_int (nomark _)) (pss_one (ps_ret (pv 0))) pss_nil)
      (pss_one (ps_ret (pe_call GR hr8 (by rfl) gR kR bR .nil pass0 (pa_cons (pv 0) (pa_cons (pv 3) (pa_cons (pe_callTy call_tuple_of (by rfl) S.tup (by decide +kernel) (pa_cons (pv 2) pa_nil)) pa_nil))))))))), ?_⟩
    obtain ⟨dx, j, m, fi, a, eb, ej, em, ff, fa⟩ := id hb
    obtain ⟨a', ax, ea', ha, fax⟩ := fa.t
    obtain rfl := V.ref.inj ea'
    have l1 := good.nm.l1
    have l4 := good.nm.l4
    have lfs := good.f.len
    refine ⟨_, rfl, b, C, dx, _, _, rfl, eb, B.cl, B.nA, b5_facts _ _ _ _ _, a, ax, rfl, .inr (SqT.of ha), fun kn nkn => ?_⟩
    have s1 := same_new (o := .lst ax) nkn
    have ekn : (upd H kn (.lst ax)) kn = some (.lst ax) := upd_same
    generalize upd H kn (.lst ax) = H1 at s1 ekn ⊢
    refine ⟨_, rfl, b, C, dx, _, _, rfl, s1 _ _ eb, B.cl, B.nT, b5_text _ _ _ _ _, (by show 1 ≤ sizeLine; decide), fun ln nln => ?_⟩
    have s2 := same_new (o := .lst [V.str (bN names ml fs)]) nln
    have eln : (upd H1 ln (.lst [V.str (bN names ml fs)])) ln = some (.lst [V.str (bN names ml fs)]) := upd_same
    have nkl : kn ≠ ln := ne_of_none ekn nln
    have ekn2 := s2 _ _ ekn
    have hln : H ln = none := s1.free nln
    generalize upd H1 ln (.lst [V.str (bN names ml fs)]) = H2 at s2 eln ekn2 ⊢
    have s12 := s1.trans s2
    refine ⟨_, rfl, l, rfl, ⟨_, SqL.of (s12 _ _ eg)⟩, for_list (K := K) (a := l) (xs := gx) (fun i σ H' => ∃ (x4 : Option V) (new : List Fact), σ = [some (.ref b), some (.ref l), some (.ref kn), some (.ref ln), x4] ∧ Same H H' ∧ growF fs (gs.take i) = fs ++ new ∧ LstAt H' kn ((fs ++ new).map eF) ∧ H' ln = some (.lst ((bN names ml fs :: new.map fT).map V.str)))
      ⟨none, [], rfl, s12, by rw [List.take_zero, List.append_nil]; rfl, by rw [List.append_nil]; exact ⟨ax, ekn2, fax.same s12⟩, eln⟩ (fun i σ H' _ ⟨_, _, _, s, _⟩ => SqL.of (s _ _ eg)) ?_ ?_⟩
    · rintro i v σ H3 hi ⟨x4, new, rfl, s3, egr, lk, el⟩
      obtain ⟨f0, hf0, fz0⟩ := fg.atM hi
      have hin : i < gs.length := (List.getElem?_eq_some_iff.mp hf0).1
      have hm0 := List.mem_of_getElem? hf0
      have hb0 := hg f0 hm0
      have fz := fz0.same s3
      have gt := growF_take (fs := fs) hf0
      rw [egr] at gt
      obtain ⟨new', e', g', ln'⟩ := grow_inv good hg nf i (by omega)
      rw [egr] at e'
      obtain rfl := List.append_cancel_left e'
      have lg' := g'.f.len
      have lnew : new.length ≤ 34 := by rw [List.length_append] at lg'; omega
      have stay : f0 ∈ fs ++ new → growF fs (gs.take (i + 1)) = fs ++ new := fun c => by rw [gt, addF, if_pos c]
      refine ⟨_, rfl, _, rfl, eF f0, (fs ++ new).map eF, fz.dp, lk.dp, shape_eF f0, shape_eFs _, ?_⟩
      by_cases c : f0 ∈ fs ++ new
      · rw [any_in.mpr c]
        refine ⟨_, rfl, iteF ?_⟩
        exact ⟨_, new, rfl, s3, stay c, lk, el⟩
      · rw [Bool.eq_false_iff.mpr (fun z => c (any_in.mp z))]
        refine ⟨_, rfl, iteT ?_⟩
        have room := nf i f0 hf0 (by rw [egr]; exact c)
        rw [egr] at room
        obtain ⟨fb, fr, rfl, efb⟩ := fz.fact
        obtain ⟨kx, ek, fk⟩ := lk
        refine ⟨_, rfl, _, rfl, fb, _, 0, _, rfl, rfl, SqT.of efb, at0, kn, kindS f0, fs ++ new, rfl, ⟨kx, .inl ek, fk⟩, by omega, kindS_is f0, fun H4 s4 => ?_⟩
        rw [decide_eq_false (show ¬ lim (kindS f0) ≤ GD.cnt (kindS f0) (fs ++ new) by omega)]
        refine ⟨_, rfl, iteF ?_⟩
        have ek4 := s4 _ _ ek
        have el4 := s4 _ _ el
        refine ⟨_, rfl, .inl ⟨rfl, _, SqL.of ek4⟩, ?_⟩
        have lkx : kx.length ≤ 34 := by
          rw [fk.len, List.length_map]
          omega
        refine ⟨_, rfl, kn, kx, _, rfl, rfl, ek4, Nat.lt_of_lt_of_le (show kx.length < 35 by omega) (by decide), ?_⟩
        have el5 : (upd H4 kn (.lst (kx ++ [.ref fb]))) ln = some (.lst ((bN names ml fs :: new.map fT).map V.str)) := (upd_ne nkl.symm).trans el4
        have ek5 : (upd H4 kn (.lst (kx ++ [.ref fb]))) kn = some (.lst (kx ++ [.ref fb])) := upd_same
        have t5 := tups_lst (o := .lst (kx ++ [V.ref fb])) ek4
        have s05 : Same H (upd H4 kn (.lst (kx ++ [.ref fb]))) := same_upd (s3.trans s4) nkn
        have fz5 := (fz.same s4).mv t5
        have fk5 := (fk.same s4).mv t5
        generalize upd H4 kn (.lst (kx ++ [.ref fb])) = H5 at el5 ek5 s05 fz5 fk5 ⊢
        refine ⟨_, rfl, .inl ⟨rfl, _, SqL.of el5⟩, ?_⟩
        refine ⟨_, rfl, .ref fb, f0, names.length, 40, rfl, fz5, hb0, by decide, by omega, fun H6 s6 => ?_⟩
        have el6 := s6 _ _ el5
        refine ⟨ln, _, _, rfl, rfl, el6, ?_, ?_⟩
        · rw [List.length_map, List.length_cons, List.length_map]
          exact Nat.lt_of_lt_of_le (show new.length + 1 < 36 by omega) (by decide)
        have t7 := tups_lst (o := .lst ((bN names ml fs :: new.map fT).map V.str ++ [V.str (fT f0)])) el6
        refine ⟨_, new ++ [f0], rfl, same_upd (s05.trans s6) hln, by rw [gt, addF, if_neg c, List.append_assoc], ⟨kx ++ [.ref fb], by rw [upd_ne nkl]; exact s6 _ _ ek5, ?_⟩, ?_⟩
        · rw [← List.append_assoc, List.map_append]
          exact ((fk5.same s6).snoc (fz5.same s6)).mv t7
        · rw [upd_same, List.map_append, ← List.cons_append, List.map_append]
          rfl
    · rintro σ H3 ⟨x4, new, rfl, s3, egr, ⟨kx, ek, fk⟩, el⟩
      rw [lgx, List.take_length] at egr
      obtain ⟨new', e', g', ln'⟩ := grow_inv good hg nf gs.length (Nat.le_refl _)
      rw [List.take_length, egr] at e'
      obtain rfl := List.append_cancel_left e'
      have lg' := g'.f.len
      refine ⟨_, rfl, ln, _, rfl, .inl (SqL.of el), rfl, _, rfl, ?_⟩
      by_cases c : new = []
      · rw [c]
        exact iteT ⟨_, rfl, q1 (by rw [egr, c, List.append_nil]) H3 s3⟩
      · have lp : 0 < new.length := List.length_pos_iff.mpr c
        rw [show decide ((V.int ((((bN names ml fs :: new.map fT).map V.str).length : Nat) : Int)) = V.int 1) = false from decide_eq_false (fun z => by have z2 := V.int.inj z; rw [List.length_map, List.length_cons, List.length_map] at z2; omega)]
        refine iteF ?_
        refine ⟨_, rfl, _, rfl, _, rfl, kn, kx, rfl, .inl ⟨SqL.of ek, fun t ht => ?_⟩⟩
        have s4 := same_new (o := .tup kx) ht
        have et : (upd H3 t (.tup kx)) t = some (.tup kx) := upd_same
        generalize upd H3 t (.tup kx) = H4 at s4 et ⊢
        have s34 := s3.trans s4
        refine ⟨b, ln, t, _, names, ml, fs, fs ++ new, bN names ml fs :: new.map fT, rfl, hb.same s34, g', s4 _ _ el, bN_more, ?_, .tup et (fk.same s4), fun b' H5 s5 nb hb5 => ?_⟩
        · rw [List.length_append] at lg'
          rw [List.length_cons, List.length_map]
          omega
        · have ne : growF fs gs ≠ fs := fun z => by
            rw [egr] at z
            have z2 := congrArg List.length z
            rw [List.length_append] at z2
            omega
          have q3 := q2 ne b' H5 (s34.trans s5) (s34.free nb)
          rw [egr] at q3
          exact q3 hb5 g'
theorem scTo : FnScope ["self", "fact"] ["self", "fact"] (defScope pTold) := ⟨rfl, rfl, rfl, by decide +kernel, rfl, by decide +kernel, by decide +kernel⟩
theorem ok_told {f C fI : Addr} {fd fdI : FuncData} (F : Fun K "told" "Book.told" pTold f fd) (MK : Maker P w K mg base C fI fdI) (S : Forms1 mg)
    {fF fG : Addr} {fdF fdG : FuncData} (gF : mg "is_fact" = some (.ref fF)) (bF : Binds K fdF ["value", "many"] []) (kF : PySem.W.keepIn K (.ref fF) = true) (GF : FnOk P w K mg base CX0 4 fF fdF ["value", "many"] spFact)
    (gG : mg "grown" = some (.ref fG)) (bG : Binds K fdG ["book", "facts"] []) (kG : PySem.W.keepIn K (.ref fG) = true) (GG : FnOk P w K mg base CX0 9 fG fdG ["book", "facts"] (spGrown C)) : FnOk P w K mg base CX0 10 f fd ["self", "fact"] (spTold C) := by
  refine F.ok scTo (fun vs H Q E h => ?_) (fun cdv A outer s H vs Q E hr h => ?_)
  · obtain ⟨b, v, names, ml, fs, f, rfl, _⟩ := h
    rfl
  · obtain ⟨b, v, names, ml, fs, f, rfl, hb, good, fz, hf, q1, q2⟩ := h
    have B := MK.B
    have hr4 : Room 4 _ := hr.mono (by decide)
    have hr9 : Room 9 _ := hr.mono (by decide)
    refine ⟨_, pss_cons (ps_if (pt_not (pt_val (pe_call GF hr4 (by rfl) gF kF bF .nil pass0 (pa_cons (pv 1) (pa_cons (pe_callB call_len_seq (by rfl) S.len PySem.boot_len (pa_cons (pe_fld (pv 0) rfl) pa_nil)) pa_nil))))) (pss_one ps_no) pss_nil)
      (pss_one (ps_ret (pe_call GG hr9 (by rfl) gG kG bG .nil pass0 (pa_cons (pv 0) (pa_cons (pe_lst (pa_cons (pv 1) pa_nil)) pa_nil))))), ?_⟩
    obtain ⟨dx, j, m, fi, a, eb, ej, em, ff, fa⟩ := id hb
    have lnj : (names.map V.str).length = names.length := List.length_map ..
    refine ⟨_, rfl, _, rfl, b, C, dx, _, _, rfl, eb, B.cl, B.nJ, b5_jobs _ _ _ _ _, j, _, rfl, .inr (ej.sq), v, f, names.length, by rw [lnj]; rfl, fz, fun s t e => ?_, fun s e => ?_, fun H1 s1 => ?_⟩
    · have z := hf.l2 e
      have l4 := good.nm.l4
      omega
    · have z := hf.l1 e
      have l4 := good.nm.l4
      omega
    rw [okT_of hf]
    refine ⟨_, rfl, iteF ?_⟩
    refine ⟨_, rfl, _, rfl, (by show 1 ≤ sizeLine; decide), fun l nl => ?_⟩
    have s2 := same_new (o := .lst [v]) nl
    have el : (upd H1 l (.lst [v])) l = some (.lst [v]) := upd_same
    generalize upd H1 l (.lst [v]) = H2 at s2 el ⊢
    have s12 := s1.trans s2
    have gr : growF fs [f] = addF fs f := rfl
    refine ⟨b, l, names, ml, fs, [f], rfl, hb.same s12, good, ⟨[v], el, .cons (fz.same s12) .nil⟩, fun g hg => by rw [List.mem_singleton.mp hg]; exact hf, fun i g hg hn => ?_, (by show 1 ≤ 200; decide), fun e H3 s3 => ?_, fun e b' H3 s3 nb hb3 _ => ?_⟩
    · cases i with
      | zero =>
        obtain rfl : f = g := Option.some.inj hg
        exact (q2 hn).1
      | succ i =>
        rw [List.getElem?_cons_succ] at hg
        cases hg
    · by_cases c : f ∈ fs
      · exact q1 c H3 (s12.trans s3)
      · rw [gr, addF, if_neg c] at e
        have z := congrArg List.length e
        rw [List.length_append, List.length_singleton] at z
        omega
    · by_cases c : f ∈ fs
      · exact absurd (by rw [gr, addF, if_pos c]) e
      · rw [gr, addF, if_neg c] at hb3
        exact (q2 c).2 b' H3 (s12.trans s3) (s12.free nb) hb3
theorem scUn : FnScope ["self", "number", "lines", "at"] ["self", "number"] (defScope pUntold) := ⟨rfl, rfl, rfl, by decide +kernel, rfl, by decide +kernel, by decide +kernel⟩
theorem ok_untold {f C fI : Addr} {fd fdI : FuncData} (F : Fun K "untold" "Book.untold" pUntold f fd) (MK : Maker P w K mg base C fI fdI) (S : Forms1 mg)
    {fR : Addr} {fdR : FuncData} (gR : mg "remade" = some (.ref fR)) (bR : Binds K fdR ["book", "lines", "facts"] []) (kR : PySem.W.keepIn K (.ref fR) = true) (GR : FnOk P w K mg base CX0 8 fR fdR ["book", "lines", "facts"] (spRemade C))
    {fB : Addr} {fdB : FuncData} (gB : mg "is_number" = some (.ref fB)) (bB : Binds K fdB ["value", "many"] []) (kB : PySem.W.keepIn K (.ref fB) = true) (GB : FnOk P w K mg base CX0 2 fB fdB ["value", "many"] spNumb) : FnOk P w K mg base CX0 9 f fd ["self", "number"] (spUntold C) := by
  refine F.ok scUn (fun vs H Q E h => ?_) (fun cdv A outer s H vs Q E hr h => ?_)
  · obtain ⟨b, i, names, ml, fs, rfl, _⟩ := h
    rfl
  · obtain ⟨b, i, names, ml, fs, rfl, hb, good, hi, q⟩ := h
    have B := MK.B
    have hr2 : Room 2 _ := hr.mono (by decide)
    have hr8 : Room 8 _ := hr.mono (by decide)
    refine ⟨_, pss_cons (ps_if (pt_not (pt_val (pe_call GB hr2 (by rfl) gB kB bB .nil pass0 (pa_cons (pv 1) (pa_cons (pe_callB call_len_seq (by rfl) S.len PySem.boot_len (pa_cons (pe_fld (pv 0) rfl) pa_nil)) pa_nil))))) (pss_one ps_no) pss_nil)
      (pss_cons (ps_set (i := 2) scUn.nd rfl (.inl rfl) (pe_bm PySem.F.plainAttrs_str PySem.F.slot_str_split PySem.F.type_str_split mt_split (pe_fld (pv 0) rfl) (pa_cons pe_str pa_nil)))
      (pss_cons (ps_set (i := 3) scUn.nd rfl (.inl rfl) (pe_op op_add (pe_op op_sub (pe_callB call_len_seq (by rfl) S.len PySem.boot_len (pa_cons (pv 2) pa_nil)) (pe_callB call_len_seq (by rfl) S.len PySem.boot_len (pa_cons (pe_fld (pv 0) rfl) pa_nil))) (pv 1)))
      (pss_one (ps_ret (pe_call GR hr8 (by rfl) gR kR bR .nil pass0 (pa_cons (pv 0) (pa_cons (pe_op op_cat (pe_slice sl_list (pv 2) po_none (po_some (pv 3))) (pe_slice sl_list (pv 2) (po_some (pe_op op_add (pv 3) pe_int)) po_none))
        (pa_cons (pe_op op_catA (pe_slice sl_tupA (pe_fld (pv 0) rfl) po_none (po_some (pv 1))) (pe_slice sl_tupA (pe_fld (pv 0) rfl) (po_some (pe_op op_add (pv 1) pe_int)) po_none)) pa_nil)))))))), ?_⟩
    obtain ⟨dx, j, m, fi, a, eb, ej, em, ff, fa⟩ := id hb
    obtain ⟨a', ax, ea', ha, fax⟩ := fa.t
    obtain rfl := V.ref.inj ea'
    have lax : ax.length = fs.length := by rw [fax.len, List.length_map]
    have lx := (good_text good).len
    have lN1 := lN_len names ml fs
    have lml := good.mlen
    have lfs := good.f.len
    refine ⟨_, rfl, _, rfl, b, C, dx, _, _, rfl, eb, B.cl, B.nA, b5_facts _ _ _ _ _, a, _, rfl, .inr (SqT.of ha), (i : Int), (ax.length : Int), rfl, ?_⟩
    rw [decide_eq_true (show 0 ≤ (i : Int) ∧ (i : Int) < (ax.length : Int) by omega)]
    refine ⟨_, rfl, iteF ?_⟩
    refine ⟨_, rfl, b, C, dx, _, _, rfl, eb, B.cl, B.nT, b5_text _ _ _ _ _, rfl, _, _, rfl, rfl, rfl, small_len (by omega), fun l nl => ?_⟩
    have s1 := same_new (o := .lst ((Txt.split (bN names ml fs) "\n").map V.str)) nl
    have el : (upd H l (.lst ((Txt.split (bN names ml fs) "\n").map V.str))) l = some (.lst ((lN names ml fs).map V.str)) := by rw [upd_same, split_bN good]
    generalize upd H l (.lst ((Txt.split (bN names ml fs) "\n").map V.str)) = H1 at s1 el ⊢
    have lmv : ((lN names ml fs).map V.str).length = (lN names ml fs).length := List.length_map ..
    refine ⟨_, rfl, l, _, rfl, .inl (SqL.of el), _, rfl, b, C, dx, _, _, rfl, s1 _ _ eb, B.cl, B.nA, b5_facts _ _ _ _ _, a, _, rfl, .inr (SqT.of (s1 _ _ ha)), _, _, rfl, rfl, _, rfl, _, _, rfl, rfl, ?_⟩
    have eat : ((((lN names ml fs).map V.str).length : Nat) : Int) - (ax.length : Int) + (i : Int) = ((1 + ml.length + i : Nat) : Int) := by rw [lmv]; omega
    show Ends.nx _ ([some (.ref b), some (.int i), some (.ref l), some (.int (((((lN names ml fs).map V.str).length : Nat) : Int) - (ax.length : Int) + (i : Int)))] : L2.St) H1
    rw [eat]
    refine ⟨_, rfl, _, rfl, _, rfl, _, rfl, l, _, rfl, SqL.of el, fun p1 np1 => ?_⟩
    rw [cut_strs_to]
    have s2 := same_new (o := .lst (((lN names ml fs).take (1 + ml.length + i)).map V.str)) np1
    have e1 : (upd H1 p1 (.lst (((lN names ml fs).take (1 + ml.length + i)).map V.str))) p1 = some (.lst (((lN names ml fs).take (1 + ml.length + i)).map V.str)) := upd_same
    generalize upd H1 p1 (.lst (((lN names ml fs).take (1 + ml.length + i)).map V.str)) = H2 at s2 e1 ⊢
    refine ⟨_, rfl, _, rfl, _, _, rfl, rfl, _, rfl, l, _, rfl, SqL.of (s2 _ _ el), fun p2 np2 => ?_⟩
    have e2' : (((1 + ml.length + i : Nat) : Int) + 1) = ((1 + ml.length + i + 1 : Nat) : Int) := by omega
    rw [e2', cut_strs_end]
    have s3 := same_new (o := .lst (((lN names ml fs).drop (1 + ml.length + i + 1)).map V.str)) np2
    have e2 : (upd H2 p2 (.lst (((lN names ml fs).drop (1 + ml.length + i + 1)).map V.str))) p2 = some (.lst (((lN names ml fs).drop (1 + ml.length + i + 1)).map V.str)) := upd_same
    have e13 := s3 _ _ e1
    generalize upd H2 p2 (.lst (((lN names ml fs).drop (1 + ml.length + i + 1)).map V.str)) = H3 at s3 e2 e13 ⊢
    refine ⟨p1, p2, _, _, rfl, rfl, e13, e2, small_len (by rw [List.length_map, List.length_map, List.length_take, List.length_drop]; omega), fun p3 np3 => ?_⟩
    have s4 := same_new (o := .lst ((((lN names ml fs).take (1 + ml.length + i)).map V.str) ++ (((lN names ml fs).drop (1 + ml.length + i + 1)).map V.str))) np3
    have e3 : (upd H3 p3 (.lst ((((lN names ml fs).take (1 + ml.length + i)).map V.str) ++ (((lN names ml fs).drop (1 + ml.length + i + 1)).map V.str)))) p3 = some (.lst ((lN names ml (fs.eraseIdx i)).map V.str)) := by rw [upd_same, ← List.map_append, lN_erase]
    generalize upd H3 p3 (.lst ((((lN names ml fs).take (1 + ml.length + i)).map V.str) ++ (((lN names ml fs).drop (1 + ml.length + i + 1)).map V.str))) = H4 at s4 e3 ⊢
    have good2 := good.sub (List.eraseIdx_sublist fs i)
    have s14 := ((s1.trans s2).trans s3).trans s4
    have lN2 := lN_len names ml (fs.eraseIdx i)
    have lfs2 := good2.f.len
    refine ⟨_, rfl, b, C, dx, _, _, rfl, s14 _ _ eb, B.cl, B.nA, b5_facts _ _ _ _ _, _, rfl, (i : Int), rfl, ?_⟩
    dsimp only [tNoPart]
    refine slice_fz (fa.same s14) fun v1 H5 s5 f1 => ?_
    rw [cut_to (by rw [List.length_map]; omega)] at f1
    have s15 := s14.trans s5
    refine ⟨_, rfl, b, C, dx, _, _, rfl, s15 _ _ eb, B.cl, B.nA, b5_facts _ _ _ _ _, _, rfl, _, _, rfl, rfl, (i : Int) + 1, rfl, ?_⟩
    dsimp only [tNoPart]
    refine slice_fz (fa.same s15) fun v2 H6 s6 f2 => ?_
    rw [show ((i : Int) + 1) = ((i + 1 : Nat) : Int) by omega, cut_from (by rw [List.length_map]; omega)] at f2
    refine cat_fz (f1.same s6) f2 ?_ fun v3 H7 s7 f3 => ?_
    · rw [List.length_take, List.length_drop, List.length_map]
      omega
    rw [← List.map_take, ← List.map_drop, ← List.map_append, ← List.eraseIdx_eq_take_drop_succ] at f3
    obtain ⟨a3, x3, rfl, ha3, fx3⟩ := id f3.t
    have s17 := s15.trans (s6.trans s7)
    exact ⟨b, p3, a3, _, names, ml, fs, fs.eraseIdx i, lN names ml (fs.eraseIdx i), rfl, hb.same s17, good2, (s5.trans (s6.trans s7)) _ _ e3, rfl, by omega, f3, fun b' H8 s8 nb hb8 => q b' H8 (s17.trans s8) (s17.free nb) hb8⟩
end
end K01
namespace GD
open PySem PySem.Spec PyProof.Rows L2
def man4 : List Str := ["plain", "clean", "spent", "free"]
structure JsOk (js : List (Str × Str)) (fs : List Fact) : Prop where
  nm : NamesOk (js.map (·.1))
  mn : ∀ j ∈ js, j.2 ∈ man4
  f : FactsOk js.length fs
abbrev mlOf (js : List (Str × Str)) : List (Str × Str) := js.filter fun j => decide (j.2 ≠ ("plain" : Str))
theorem JsOk.good {js : List (Str × Str)} {fs : List Fact} (h : JsOk js fs) : GoodB (js.map (·.1)) (mlOf js) fs := by
  refine ⟨h.nm, fun p hp => List.mem_map_of_mem (List.mem_filter.mp hp).1, fun p hp => ?_, ?_, by rw [List.length_map]; exact h.f⟩
  · obtain ⟨h1, h2⟩ := List.mem_filter.mp hp
    have z := h.mn p h1
    have n := of_decide_eq_true h2
    unfold man4 at z
    rcases List.mem_cons.mp z with e | e
    · exact absurd e n
    · exact e
  · exact (List.filter_sublist.map _).nodup h.nm.nd
theorem lt_le {j : Str × Str} (h : j.2 ∈ man4) : j.2.length ≤ 5 := by
  unfold man4 at h
  simp only [List.mem_cons, List.not_mem_nil, or_false] at h
  rcases h with e | e | e | e <;> rw [e] <;> decide +kernel
theorem JsOk.lines {js : List (Str × Str)} {fs : List Fact} (h : JsOk js fs) : LinesOk js.length 40 js fs := by
  have l4 := h.nm.l4
  rw [List.length_map] at l4
  have lf := h.f.len
  refine ⟨fun j hj => ⟨?_, Nat.le_trans (lt_le (h.mn j hj)) (by decide)⟩, by omega, h.f.b, by omega, by decide, by omega⟩
  exact Nat.le_trans (nameB_len (h.nm.nm j.1 (List.mem_map_of_mem hj))) (by decide)
theorem pool_names : ∀ x ∈ pool21, nameB x = true := by decide +kernel
theorem q_new : ("q" : Str) ∉ pool21 := by decide +kernel
theorem q_name : nameB "q" = true := by decide +kernel
theorem man6_4 : ∀ x ∈ man6, x ∈ man4 := by decide +kernel
theorem JobsOk.names {js : List (Str × Str)} {ms : List Str} (h : JobsOk 4 ms js) : NamesOk (js.map (·.1)) := by
  obtain ⟨h1, h2, h3, h4⟩ := h
  refine ⟨by rw [List.length_map]; exact h1, by rw [List.length_map]; exact h2, h3, fun x hx => ?_⟩
  obtain ⟨j, hj, rfl⟩ := List.mem_map.mp hx
  exact pool_names _ (h4 j hj).1
theorem LoreOk.js {x2 x3 x4 x5 : Nat} {js : List (Str × Str)} {fs : List Fact} {sts : List Stk} (h : LoreOk 4 man6 x2 x3 x4 x5 js fs sts) (h2 : x2 ≤ 40) (h3 : x3 ≤ 24) (h4 : x4 ≤ 6) (h5 : x5 ≤ 4) : JsOk js fs := by
  obtain ⟨jo, _, nd, hf, c1, c2, c3, _, _⟩ := h
  refine ⟨jo.names, fun j hj => man6_4 _ (jo.2.2.2 j hj).2, fun f hf' => (hf f hf').b.le (by omega), nd, fun x hx => ?_⟩
  rcases hx with rfl | rfl | rfl
  · exact Nat.le_trans c1 (by rw [show lim "let" = 24 from rfl]; exact h3)
  · exact Nat.le_trans c2 (by rw [show lim "not" = 6 from rfl]; exact h4)
  · exact Nat.le_trans c3 (by rw [show lim "as" = 4 from rfl]; exact h5)
/-- a text of a good book -/
def GoodT (x : Str) : Prop := ∃ names ml fs, x = bN names ml fs ∧ GoodB names ml fs
theorem GoodB.t {names : List Str} {ml : List (Str × Str)} {fs : List Fact} (h : GoodB names ml fs) : GoodT (bN names ml fs) := ⟨_, _, _, rfl, h⟩
theorem JsOk.t {js : List (Str × Str)} {fs : List Fact} (h : JsOk js fs) : GoodT (bT js fs) := h.good.t
theorem GoodB.perm {names : List Str} {ml ml' : List (Str × Str)} {fs fs' : List Fact} (h : GoodB names ml fs) (p : ml'.Perm ml) (q : fs'.Perm fs) : GoodB names ml' fs' := by
  refine ⟨h.nm, fun x hx => h.m1 x (p.mem_iff.mp hx), fun x hx => h.m2 x (p.mem_iff.mp hx), (p.map _).nodup_iff.mpr h.nd, fun f hf => h.f.b f (q.mem_iff.mp hf), q.nodup_iff.mpr h.f.nd, fun x hx => ?_⟩
  have e : GD.cnt x fs' = GD.cnt x fs := by
    unfold GD.cnt
    exact (q.filter _).length_eq
  rw [e]
  exact h.f.lm x hx
theorem perm_map {α β : Type} {g : α → β} : ∀ {ys zs : List β}, ys.Perm zs → ∀ {xs : List α}, zs = xs.map g → ∃ xs' : List α, ys = xs'.map g ∧ xs'.Perm xs := by
  intro ys zs h
  induction h with
  | nil => exact fun {xs} e => ⟨xs, e, .refl _⟩
  | cons x p ih =>
    intro xs e
    cases xs with
    | nil => cases e
    | cons a r =>
      obtain ⟨e1, e2⟩ := List.cons.inj e
      obtain ⟨xs', h1, h2⟩ := ih e2
      exact ⟨a :: xs', by rw [List.map_cons, ← h1, e1], h2.cons a⟩
  | swap x y l =>
    intro xs e
    cases xs with
    | nil => cases e
    | cons a r =>
      cases r with
      | nil => cases (List.cons.inj e).2
      | cons b r =>
        obtain ⟨e1, e2⟩ := List.cons.inj e
        obtain ⟨e2, e3⟩ := List.cons.inj e2
        exact ⟨b :: a :: r, by rw [List.map_cons, List.map_cons, e1, e2, e3], .swap _ _ _⟩
  | trans p q ih1 ih2 =>
    intro xs e
    obtain ⟨xs1, h1, h2⟩ := ih2 e
    obtain ⟨xs2, h3, h4⟩ := ih1 h1
    exact ⟨xs2, h3, h4.trans h2⟩
theorem JsOk.sub {js : List (Str × Str)} {fs gs : List Fact} (h : JsOk js fs) (s : List.Sublist gs fs) : JsOk js gs := { h with f := h.f.sub s }
/-- the first job has another name -/
def fresh : List (Str × Str) → List (Str × Str)
  | [] => []
  | j :: r => (("q" : Str), j.2) :: r
theorem fresh_get {js : List (Str × Str)} {i : Nat} {j : Str × Str} (h : js[i]? = some j) : (fresh js)[i]? = some (if i = 0 then ("q" : Str) else j.1, j.2) := by
  cases js with
  | nil => cases h
  | cons a r =>
    cases i with
    | zero =>
      rw [List.getElem?_cons_zero] at h
      rw [fresh, List.getElem?_cons_zero, Option.some.inj h]
      rfl
    | succ i =>
      rw [List.getElem?_cons_succ] at h
      rw [fresh, List.getElem?_cons_succ, h]
      rfl
theorem fresh_len (js : List (Str × Str)) : (fresh js).length = js.length := by cases js <;> rfl
theorem JsOk.fresh {js : List (Str × Str)} {fs : List Fact} (h : JsOk js fs) (hq : ∀ j ∈ js, j.1 ∈ pool21) : JsOk (GD.fresh js) fs := by
  cases js with
  | nil => exact h
  | cons a r =>
    have nd := List.nodup_cons.mp h.nm.nd
    refine ⟨⟨?_, ?_, ?_, fun x hx => ?_⟩, fun j hj => ?_, h.f⟩
    · exact h.nm.l1
    · exact h.nm.l4
    · refine List.nodup_cons.mpr ⟨fun m => ?_, nd.2⟩
      obtain ⟨j, hj, e⟩ := List.mem_map.mp m
      have z := hq j (List.mem_cons_of_mem _ hj)
      rw [show j.1 = ("q" : Str) from e] at z
      exact q_new z
    · rcases List.mem_cons.mp hx with e | e
      · rw [e]
        exact q_name
      · exact h.nm.nm x (List.mem_cons_of_mem _ e)
    · rcases List.mem_cons.mp hj with e | e
      · rw [e]
        exact h.mn a List.mem_cons_self
      · exact h.mn j (List.mem_cons_of_mem _ e)
/-- each manner exchanged -/
def exch (m : Str) : Str := if m = ("plain" : Str) then "free" else if m = ("free" : Str) then "plain" else if m = ("clean" : Str) then "spent" else "clean"
theorem exch_4 : ∀ x ∈ man4, exch x ∈ man4 := by decide +kernel
theorem JsOk.exch {js : List (Str × Str)} {fs : List Fact} (h : JsOk js fs) : JsOk (js.map fun j => (j.1, GD.exch j.2)) fs := by
  refine ⟨?_, fun j hj => ?_, by rw [List.length_map]; exact h.f⟩
  · rw [List.map_map]
    exact h.nm
  · obtain ⟨i, hi, rfl⟩ := List.mem_map.mp hj
    exact exch_4 _ (h.mn i hi)
end GD
namespace GD
open PySem PySem.Spec PyProof.Rows L2
def spChg : Sp := fun vs H Q _ => ∃ (v : V) (m : Str) (size : Nat) (c : Int × Int), vs = [v, .str m] ∧ Fz H v (eP c) ∧ MannerOk m size c ∧ m ∈ man4 ∧ Q (.bl true) H
/-- a stock by its manners -/
def StkOk (ms : List Str) (size : Nat) (st : Stk) : Prop := 0 ≤ st.1 ∧ st.2.length = ms.length ∧ ∀ (i : Nat) (m : Str) (c : Int × Int), ms[i]? = some m → st.2[i]? = some c → MannerOk m size c
theorem StockOk.stk {js : List (Str × Str)} {size : Nat} {st : Stk} (h : StockOk js size st) : StkOk (js.map (·.2)) size st := by
  obtain ⟨h1, _, h3, h4⟩ := h
  refine ⟨h1, by rw [List.length_map]; exact h3, fun i m c hm hc => ?_⟩
  rw [List.getElem?_map] at hm
  cases e : js[i]? with
  | none =>
    rw [e] at hm
    cases hm
  | some j =>
    rw [e] at hm
    obtain rfl : j.2 = m := Option.some.inj hm
    exact h4 i j c e hc
def spIsStk : Sp := fun vs H Q _ => ∃ (v : V) (l : Addr) (ms : List Str) (size : Nat) (st : Stk), vs = [v, .ref l] ∧ Fz H v (eK st) ∧ H l = some (.tup (ms.map V.str)) ∧ (∀ m ∈ ms, m ∈ man4) ∧ ms.length ≤ 4 ∧ StkOk ms size st ∧ ∀ H', Same H H' → Q (.bl true) H'
end GD
namespace K01
open PySem PySem.Spec PyProof.Rows L2 GD
-- abbrev pIsStk : Stmt := top 26
-- abbrev pIsChg : Stmt := top 27
section
variable {P : Program} {w : World} {K : PySem.W.Frag} {mg : Str → Option Value} {base : Heap}
abbrev NIk : List Str := ["value", "manners", "first", "changes", "change", "manner"]
end
end K01
namespace GD
open PySem PySem.Spec PyProof.Rows L2
/-! a shop -/
def s1 (k : Addr) : List (Str × V) := putF "book" (.ref k) []
def s2 (k j : Addr) : List (Str × V) := putF "jobs" (.ref j) (s1 k)
def s3 (k j m : Addr) : List (Str × V) := putF "manners" (.ref m) (s2 k j)
def s4 (k j m a : Addr) : List (Str × V) := putF "stocks" (.ref a) (s3 k j m)
theorem s4_stocks (k j m a : Addr) : (s4 k j m a).lookup ("stocks" : Str) = some (.ref a) := by rw [s4, lookup_putF, if_pos rfl]
theorem s4_manners (k j m a : Addr) : (s4 k j m a).lookup ("manners" : Str) = some (.ref m) := by rw [s4, lookup_putF, if_neg (by decide +kernel), s3, lookup_putF, if_pos rfl]
theorem s4_jobs (k j m a : Addr) : (s4 k j m a).lookup ("jobs" : Str) = some (.ref j) := by rw [s4, lookup_putF, if_neg (by decide +kernel), s3, lookup_putF, if_neg (by decide +kernel), s2, lookup_putF, if_pos rfl]
theorem s4_no {k j m a : Addr} {x : Str} (h1 : ¬ x = ("book" : Str)) (h2 : ¬ x = ("jobs" : Str)) (h3 : ¬ x = ("manners" : Str)) (h4 : ¬ x = ("stocks" : Str)) : (s4 k j m a).lookup x = none := by
  rw [s4, lookup_putF, if_neg h4, s3, lookup_putF, if_neg h3, s2, lookup_putF, if_neg h2, s1, lookup_putF, if_neg h1]
  rfl
theorem s_len (k j m : Addr) : (s1 k).length < 1000 ∧ (s2 k j).length < 1000 ∧ (s3 k j m).length < 1000 := by
  have h1 := putF_len "book" (.ref k) []
  have h2 := putF_len "jobs" (.ref j) (s1 k)
  have h3 := putF_len "manners" (.ref m) (s2 k j)
  rw [List.length_nil] at h1
  unfold s3
  unfold s2 at h3 ⊢
  unfold s1 at h2 h3 ⊢
  omega
def ShopAt (C : Addr) (H : Hp) (s : Addr) (names mans : List Str) (sts : List Stk) : Prop :=
  ∃ dx k j m a, H s = some (.ins C dx (s4 k j m a)) ∧ TupF H j (names.map V.str) ∧ H m = some (.tup (mans.map V.str)) ∧ Fz H (.ref a) (.tuple (sts.map eK))
theorem ShopAt.same {C : Addr} {H H' : Hp} {s : Addr} {names mans : List Str} {sts : List Stk} (k : Same H H') (h : ShopAt C H s names mans sts) : ShopAt C H' s names mans sts := by
  obtain ⟨dx, b, j, m, a, h1, h2, h3, h4⟩ := h
  exact ⟨dx, b, j, m, a, k _ _ h1, h2.same k, k _ _ h3, h4.same k⟩
def spShopI (CB CS : Addr) : Sp := fun vs H Q _ => ∃ (s dx b a : Addr) (x : Str) (names : List Str) (ml : List (Str × Str)) (fs : List Fact) (sts : List Stk), vs = [.ref s, .ref b, .ref a] ∧ H s = some (.ins CS dx []) ∧ BookAt CB H b x names ml fs ∧ Fz H (.ref a) (.tuple (sts.map eK)) ∧
  sts.length ≤ 12 ∧ (∀ st ∈ sts, StkOk (names.map (manOf ml)) 3 st) ∧ (∀ m ∈ names.map (manOf ml), m ∈ man4) ∧ names.length ≤ 4 ∧ ∀ H', Keep s H H' → ShopAt CS H' s names (names.map (manOf ml)) sts → Q .non H'
/-! what is so -/
def belowN (sts : List Stk) (s : Stn) : List Nat := (List.range sts.length).filter fun i => decide (levelS (sts.getD i (0, [])) s < 0)
def soF (sts : List Stk) : Fact → Bool
  | .let_ s => letsS sts s
  | .not_ s => !letsS sts s
  | .as_ s t => sts.all fun st => decide (levelS st s = levelS st t)
def FitB (k : Nat) (sts : List Stk) (f : Fact) : Prop := FactB k 40 f ∧ ∀ st ∈ sts, st.2.length = k
def spBelow : Sp := fun vs H Q _ => ∃ (a : Addr) (y : V) (sts : List Stk) (s : Stn), vs = [.ref a, y] ∧ Fz H (.ref a) (.tuple (sts.map eK)) ∧ Fz H y (eS s) ∧ (∀ st ∈ sts, st.2.length = s.length) ∧ s.length ≤ 10 ∧ sts.length ≤ 100 ∧ Small s ∧ ∀ v H', Same H H' → Fz H' v (.tuple ((belowN sts s).map fun i => .int (i : Nat))) → Q v H'
def spIsSo : Sp := fun vs H Q _ => ∃ (a : Addr) (y : V) (sts : List Stk) (f : Fact) (k : Nat), vs = [.ref a, y] ∧ Fz H (.ref a) (.tuple (sts.map eK)) ∧ Fz H y (eF f) ∧ FitB k sts f ∧ k ≤ 4 ∧ sts.length ≤ 12 ∧ ∀ H', Same H H' → Q (.bl (soF sts f)) H'
theorem getD_at {sts : List Stk} {i : Nat} {st : Stk} (h : sts[i]? = some st) : sts.getD i (0, []) = st := by rw [List.getD_eq_getElem?_getD, h]; rfl
theorem below_nil {sts : List Stk} {s : Stn} : belowN sts s = [] ↔ letsS sts s = true := by
  unfold belowN letsS
  rw [List.filter_eq_nil_iff, List.all_eq_true]
  constructor
  · intro h st hst
    obtain ⟨i, hi, e⟩ := List.getElem_of_mem hst
    have z := h i (List.mem_range.mpr hi)
    rw [getD_at (show sts[i]? = some st by rw [List.getElem?_eq_getElem hi, e])] at z
    simp only [decide_eq_true_eq] at z ⊢
    omega
  · intro h i hi
    have hl := List.mem_range.mp hi
    have z := h sts[i] (List.getElem_mem hl)
    rw [getD_at (List.getElem?_eq_getElem hl)]
    simp only [decide_eq_true_eq] at z ⊢
    omega
theorem range_take {n i : Nat} (h : i ≤ n) : (List.range n).take i = List.range i := by
  rw [List.take_range, Nat.min_eq_left h]
end GD
namespace K01
open PySem PySem.Spec PyProof.Rows L2 GD
-- abbrev cShop : Stmt := top 51
-- abbrev pLevelAt : Stmt := top 52
-- abbrev pBelow : Stmt := top 53
-- abbrev pIsSo : Stmt := top 47
section
variable {P : Program} {w : World} {K : PySem.W.Frag} {mg : Str → Option Value} {base : Heap}
structure ShopC (K : PySem.W.Frag) (mg : Str → Option Value) (C : Addr) : Prop where
  cl : Cls K C
  nB : NoAttr K C "book"
  nJ : NoAttr K C "jobs"
  nM : NoAttr K C "manners"
  nS : NoAttr K C "stocks"
  mgC : mg "Shop" = some (.ref C)
abbrev NSi : List Str := ["self", "book", "stocks", "stock"]
end
end K01
namespace GD
open PySem PySem.Spec PyProof.Rows L2
abbrev eN (i : Nat) : PyData := .int (i : Nat)
theorem shape_ints (is : List Nat) : SeqAt.shaped (.tuple (is.map eN)) = true := by
  refine shape_of ?_ ?_
  · rw [PyData.canLay0]
    exact can_all fun d hd => by
      obtain ⟨i, _, e⟩ := List.mem_map.mp hd
      rw [← e]
      rfl
  · rw [PyData.depth]
    have z := depth_all (n := 1) (ds := is.map eN) fun d hd => by
      obtain ⟨i, _, e⟩ := List.mem_map.mp hd
      rw [← e]
      show PyData.depth (.int _) ≤ 1
      rw [PyData.depth]
      decide
    omega
theorem eqv_nilT (is : List Nat) : PyData.eqv (.tuple (is.map eN)) (.tuple []) = decide (is = []) := by
  cases is with
  | nil => rfl
  | cons i r => rfl
end GD
namespace K01
open PySem PySem.Spec PyProof.Rows L2 GD
section
variable {P : Program} {w : World} {K : PySem.W.Frag} {mg : Str → Option Value} {base : Heap}
abbrev NBe : List Str := ["stocks", "standing", "number", "stock"]
abbrev NSo : List Str := ["stocks", "fact", "stock"]
end
end K01
namespace GD
open PySem PySem.Spec PyProof.Rows L2
def Sh100 (xs : List Str) : Prop := ∀ x ∈ xs, PyData.strOk x = true
theorem shape_strs {xs : List Str} (h : Sh100 xs) : SeqAt.shaped (.tuple (xs.map PyData.str)) = true := by
  refine shape_of ?_ ?_
  · rw [PyData.canLay0]
    exact can_all fun d hd => by
      obtain ⟨i, hi, e⟩ := List.mem_map.mp hd
      rw [← e]
      simp only [PyData.canLay0]
      exact h i hi
  · rw [PyData.depth]
    have z := depth_all (n := 1) (ds := xs.map PyData.str) fun d hd => by
      obtain ⟨i, _, e⟩ := List.mem_map.mp hd
      rw [← e]
      show PyData.depth (.str _) ≤ 1
      rw [PyData.depth]
      decide
    omega
theorem eqv_strs : ∀ {xs ys : List Str}, PyData.eqv (.tuple (xs.map PyData.str)) (.tuple (ys.map PyData.str)) = true → xs = ys
  | [], [], _ => rfl
  | [], _ :: _, h => by simp [PyData.eqv, PyData.eqvAll] at h
  | _ :: _, [], h => by simp [PyData.eqv, PyData.eqvAll] at h
  | x :: xs, y :: ys, h => by
    simp only [List.map_cons, PyData.eqv, PyData.eqvAll, Bool.and_eq_true] at h
    obtain ⟨h1, h2⟩ := h
    have z := eqv_strs (xs := xs) (ys := ys) (by rw [PyData.eqv]; exact h2)
    rw [z]
    simp at h1
    rw [h1]
def isBrk (sts : List Stk) (fs : List Fact) (i : Nat) : Bool := match fs[i]? with
  | some f => !soF sts f
  | none => false
def brokenN (sts : List Stk) (fs : List Fact) : List Nat := (List.range fs.length).filter (isBrk sts fs)
theorem isBrk_at {sts : List Stk} {fs : List Fact} {i : Nat} {f : Fact} (h : fs[i]? = some f) : isBrk sts fs i = !soF sts f := by
  unfold isBrk
  rw [h]
structure Fits0 (CB CS : Addr) (H : Hp) (s b : Addr) (names : List Str) (ml : List (Str × Str)) (fs : List Fact) (sts : List Stk) : Prop where
  S : ShopAt CS H s names (names.map (manOf ml)) sts
  B : ∃ x, BookAt CB H b x names ml fs
  f : ∀ f ∈ fs, FitB names.length sts f
  l : fs.length ≤ 100
  s12 : sts.length ≤ 12
  n4 : names.length ≤ 4
  h1 : Sh100 names
  h2 : Sh100 (names.map (manOf ml))
def spBroken (CB CS : Addr) : Sp := fun vs H Q _ => ∃ (s b : Addr) (names : List Str) (ml : List (Str × Str)) (fs : List Fact) (sts : List Stk), vs = [.ref s, .ref b] ∧ Fits0 CB CS H s b names ml fs sts ∧ ∀ v H', Same H H' → Fz H' v (.tuple ((brokenN sts fs).map eN)) → Q v H'
def spFits (CB CS : Addr) : Sp := fun vs H Q _ => ∃ (s b : Addr) (names : List Str) (ml : List (Str × Str)) (fs : List Fact) (sts : List Stk), vs = [.ref s, .ref b] ∧ Fits0 CB CS H s b names ml fs sts ∧ ∀ H', Same H H' → Q (.bl (decide (brokenN sts fs = []))) H'
/-- jobs or manners are other ones: the error is raised, with the very book -/
def spOther (CB CS CO : Addr) : Sp := fun vs H _ E => ∃ (s b : Addr) (n1 m1 n2 : List Str) (sts : List Stk) (x : Str) (ml : List (Str × Str)) (fs : List Fact), vs = [.ref s, .ref b] ∧ ShopAt CS H s n1 m1 sts ∧ BookAt CB H b x n2 ml fs ∧ ¬ (n1 = n2 ∧ m1 = n2.map (manOf ml)) ∧ Sh100 n1 ∧ Sh100 n2 ∧ Sh100 m1 ∧ Sh100 (n2.map (manOf ml)) ∧
  ∀ d H', Same H H' → H d = none → H' d = some (.xd [(("value" : Str), .ref b)]) → E (.ref CO) (some d) H'
end GD
namespace K01
open PySem PySem.Spec PyProof.Rows L2 GD
abbrev sInit : Stmt := inClass (top 2) 0
-- abbrev pBroken : Stmt := inClass cShop 4
-- abbrev pFits : Stmt := inClass cShop 5
section
variable {P : Program} {w : World} {K : PySem.W.Frag} {mg : Str → Option Value} {base : Heap}
theorem scI : FnScope ["self", "value"] ["self", "value"] (defScope sInit) := ⟨rfl, rfl, rfl, by decide +kernel, rfl, by decide +kernel, by decide +kernel⟩
theorem ok_einit {f : Addr} {fd : FuncData} (F : Fun K "__init__" "StockError.__init__" sInit f fd) : FnOk P w K mg base CX0 1 f fd ["self", "value"] (spInit K) := by
  refine F.ok scI (fun vs H Q E h => ?_) (fun cdv A outer s H vs Q E hr h => ?_)
  · obtain ⟨e, C, v, rfl, _⟩ := h
    rfl
  · obtain ⟨e, C, v, rfl, T, nv, he, k⟩ := h
    exact ⟨_, pss_one (ps_ost (pv 0) (pv 1)), _, rfl, _, rfl, e, C, rfl, T, nv, .inl ⟨he, fun d hd hde => k d hd hde⟩⟩
abbrev NBr : List Str := ["self", "book", "number", "fact"]
end
end K01
namespace K01
open PySem PySem.Spec PyProof.Rows L2 GD
abbrev sTold : Stmt := top 42
-- abbrev sDue : Stmt := top 77
abbrev NTd : List Str := ["_law_look", "_law_caught", "_law_back", "error"]
theorem scTd : FnScope NTd ["_law_look"] (defScope sTold) := ⟨rfl, rfl, rfl, by decide +kernel, rfl, by decide +kernel, by decide +kernel⟩
open LamX in
theorem told_pair {X : Cx} {g CS : Addr} {cdg : Value} {q : Str} (hme : X.mg "StockError" = some (.ref CS)) : GivesS X NTd "_law_told" (defScope sTold) g cdg (defBody sTold) "_law_look" q (TPair X.K CS) := by
  intro f c' s H Q tl act hc h
  refine ⟨_, pss_cons (ps_asg (pe_tup (pa_cons pe_non (pa_cons pe_non pa_nil))) (pg_tup rfl (pgs_cons (pg_name (i := 1) scTd.nd rfl (.inl rfl)) (pgs_cons (pg_name (i := 2) scTd.nd rfl (.inl rfl)) pgs_nil))))
    (pss_cons (ps_try_keep (X := (cxOf C8.CX0 X.prog X.w X.K X.mg X.base NTd "_law_told" (defScope sTold) g cdg X.A X.stack s H C8.E0).nox) (i := 3) (c := .ref CS)
        (tb := fun W D σ G => ∃ E : XK, σ[0]? = some (some (.ref f)) ∧ G c' = some (CodeO c' q) ∧ (∀ cls d G', E cls d G' → W cls d σ G') ∧ tl E G (fun v G' => D.nx (σ.set 2 (some v)) G'))
        rfl rfl rfl scTd.nd rfl rfl ⟨rfl, by decide, .inl hme⟩ (fun W pn xe tk _ => ⟨fun pins s' σ G D I ⟨E, h1, h2, h3, h4⟩ => (pss_one (ps_set (i := 2) scTd.nd rfl (.inl rfl) (act W pn xe E _ _ tk))).run pins s' σ G D I ⟨h1, h2, h3, h4⟩⟩)
        (fun a oe cls d pn _ _ => pss_one (ps_set (i := 1) scTd.nd rfl (.inl rfl) (pv 3))))
    (pss_one (ps_ret (pe_tup (pa_cons (pv 1) (pa_cons (pv 2) pa_nil)))))), ?_⟩
  refine ⟨(by show 2 ≤ sizeLine; decide), fun t0 ht0 => ?_⟩
  have z0 := same_new (o := .tup [.non, .non]) ht0
  have h0 := h _ z0
  have hc0 := z0 _ _ hc
  refine ⟨t0, _, rfl, SqT.of upd_same, rfl, _, _, rfl, _, _, rfl, rfl, ?_⟩
  refine ⟨fun cls d H' => PySem.W.exmOne X.K cls (.ref CS) = some true ∧ ∀ a, H' a = none → ∀ t, (upd H' a (exk a cls d)) t = none → Q (.ref t) (upd (upd H' a (exk a cls d)) t (.tup [.ref a, .non])), rfl, hc0, fun cls d G' ⟨e1, e2⟩ => ⟨e1, fun a ha => ?_⟩, ?_⟩
  · exact ⟨_, rfl, _, rfl, _, rfl, (by show 2 ≤ sizeLine; decide), fun t ht => e2 a ha t ht⟩
  · refine Eq.mp (congrArg (tl _ _) (funext fun v => funext fun G => propext ⟨fun y => ?_, fun y t ht => ?_⟩)) h0
    · exact ⟨_, rfl, _, rfl, (by show 2 ≤ sizeLine; decide), fun t ht => y t ht⟩
    · obtain ⟨v1, e1, v2, e2, _, y⟩ := y
      cases e1
      cases e2
      exact y t ht
section
variable {P : Program} {w : World} {K : PySem.W.Frag} {mg : Str → Option Value} {base : Heap}
def spLetsT : Sp := fun vs H Q _ => ∃ (a : Addr) (y : V) (sts : List Stk) (s : Stn), vs = [.ref a, y] ∧ Fz H (.ref a) (.tuple (sts.map eK)) ∧ Fz H y (eS s) ∧ (∀ st ∈ sts, st.2.length = s.length) ∧ s.length ≤ 10 ∧ sts.length ≤ 100 ∧ Small s ∧ ∀ H', Same H H' → Q (.bl (letsS sts s)) H'
theorem ok_letsT {f fV : Addr} {fd fdV : FuncData} (F : Fun K "_law_lets" "_law_lets" sLets f fd) (nA : mg "all" = none) (nS : mg "sum" = none) (nZ : mg "zip" = none) (FV : Fun K "_law_level" "_law_level" sLevel fV fdV) (gV : mg "_law_level" = some (.ref fV)) (bV : Binds K fdV ["_law_stock_here", "_law_standing"] []) :
    FnOk P w K mg base CX0 2 f fd ["_law_stocks", "_law_standing"] spLetsT := by
  have GV : FnOk P w K mg base CX0 1 fV fdV ["_law_stock_here", "_law_standing"] (spLevel K) := ok_level FV nS nZ
  refine F.ok scLt (fun vs H Q E h => ?_) (fun cdv A outer s H vs Q E hr h => ?_)
  · obtain ⟨l, y, sts, sn, rfl, _⟩ := h
    rfl
  · obtain ⟨l, y, sts, sn, rfl, fl, fy, hst, hl10, hl100, hsm, k⟩ := h
    obtain ⟨l', xs, el, hl, fx⟩ := fl.t
    obtain rfl := V.ref.inj el
    refine ⟨_, pss_one (ps_ret (pe_callB (cr_all rfl) (by rfl) nA (by decide +kernel) (pa_cons (pe_lc (own := [("_law_stock_here", 2)]) (g := gName 2) (tt := tYes) rfl scLt.nd (pi_tup (pv 0)) (blkOk_by (N := NT) (sc := defScope sLets) (by decide +kernel))
      (fun _ _ _ _ _ => pg_name (i := 2) scLt.nd rfl (.inl rfl)) (fun _ _ _ _ _ => pts_nil) (fun _ _ _ _ _ => pe_cmpR op_ge (pe_call GV hr rfl gV FV.kp bV .nil pass0 (pa_cons (pv 2) (pa_cons (pv 1) pa_nil))) pe_int (nomark _))) pa_nil))), ?_⟩
    refine ⟨_, rfl, l, rfl, ⟨_, SqT.of hl⟩, fun D hD => ?_⟩
    refine lc_tup (K := K) (a := l) (xs := xs) (fun i H' => Same H H' ∧ H' D = some (.lst (((sts.take i).map fun st => decide (0 ≤ levelS st sn)).map V.bl))) ⟨same_new hD, upd_same⟩ (fun i H' _ ⟨z, _⟩ => SqT.of (z _ _ hl)) ?_ ?_
    · rintro i x H' hx ⟨z, eD⟩
      obtain ⟨st, h1, h2⟩ := fx.atM hx
      have hlt : i < sts.length := (List.getElem?_eq_some_iff.mp h1).1
      refine ⟨rfl, _, rfl, _, rfl, x, y, st, sn, rfl, h2.same z, fy.same z, hst st (List.mem_of_getElem? h1), hl10, hsm, fun H2 z2 => ⟨_, _, rfl, rfl, ?_⟩⟩
      refine ⟨_, z2 _ _ eD, ?_, same_upd (z.trans z2) hD, ?_⟩
      · rw [List.length_map, List.length_map, List.length_take]
        exact Nat.lt_of_le_of_lt (Nat.min_le_left _ _) (Nat.lt_of_lt_of_le (show i < 101 by omega) (by decide))
      · rw [upd_same, take_next h1, List.map_append, List.map_append]
        rfl
    · rintro H' ⟨z, eD⟩
      refine ⟨D, _, rfl, SqL.of eD, ?_⟩
      rw [fx.len, List.length_map, List.take_length, List.all_map]
      exact k H' z
def spDue : Sp := fun vs H Q _ => ∃ (l a : Addr) (fs : List Fact) (sts : List Stk) (k : Nat), vs = [.ref l, .ref a] ∧ LstAt H l (fs.map eF) ∧ Fz H (.ref a) (.tuple (sts.map eK)) ∧ (∀ f ∈ fs, FitB k sts f) ∧ fs.length ≤ 100 ∧ sts.length ≤ 12 ∧ k ≤ 4 ∧
  ∀ v H', Same H H' → Fz H' v (.tuple ((brokenN sts fs).map eN)) → Q v H'
abbrev NDu : List Str := ["_law_facts", "_law_stocks", "_law_found", "_law_number", "_law_fact", "_law_is_so", "_law_stock_here"]
end
end K01
namespace GD
open PySem PySem.Spec PyProof.Rows L2 LamX
/-! where a lambda was made: all but the tables of code objects stay -/
theorem ext_same {H H' : Hp} (s : Same H H') : ExtN H H' := fun b o e _ => s b o e
theorem ext_tups {H H' : Hp} (x : ExtN H H') : Tups H H' := fun b xs e => x b _ e (fun ps z => by cases z)
theorem LstAt.ext {l : Addr} {H H' : Hp} {ds : List PyData} (x : ExtN H H') (h : LstAt H l ds) : LstAt H' l ds := by
  obtain ⟨xs, e, f⟩ := h
  exact ⟨xs, x _ _ e (fun ps z => by cases z), f.mv (ext_tups x)⟩
theorem BookAt.ext {C : Addr} {H H' : Hp} {b : Addr} {t : Str} {names : List Str} {ml : List (Str × Str)} {fs : List Fact} (x : ExtN H H') (h : BookAt C H b t names ml fs) : BookAt C H' b t names ml fs := by
  obtain ⟨dx, j, m, f, a, h1, h2, h3, h4, h5⟩ := h
  exact ⟨dx, j, m, f, a, x _ _ h1 (fun ps z => by cases z), h2.ext x, x _ _ h3 (fun ps z => by cases z), h4.mv (ext_tups x), h5.mv (ext_tups x)⟩
theorem ShopAt.ext {C : Addr} {H H' : Hp} {s : Addr} {names mans : List Str} {sts : List Stk} (x : ExtN H H') (h : ShopAt C H s names mans sts) : ShopAt C H' s names mans sts := by
  obtain ⟨dx, b, j, m, a, h1, h2, h3, h4⟩ := h
  exact ⟨dx, b, j, m, a, x _ _ h1 (fun ps z => by cases z), h2.ext x, x _ _ h3 (fun ps z => by cases z), h4.mv (ext_tups x)⟩
theorem exk_tbl {a : Addr} {cls : Value} {d : Option Addr} {ps : Array Value} : exk a cls d ≠ .tbl ps := fun z => by
  have y : HO.ext _ = HO.tbl ps := z
  cases y
theorem CgtAt.ext {H H' : Hp} {a C : Addr} {v : V} (x : ExtN H H') (h : CgtAt H a C v) : CgtAt H' a C v := by
  obtain ⟨d, h1, h2⟩ := h
  exact ⟨d, x _ _ h1 (fun ps => exk_tbl), x _ _ h2 (fun ps z => by cases z)⟩
theorem tabs_same {T : List (Addr × Str)} {H H' : Hp} (s : Same H H') (t : Tabs T H) : Tabs T H' := t.ext fun b o e => s b o e
/-! jobs as a book has them -/
theorem find_none {r : List (Str × Str)} {x : Str} (h : x ∉ r.map (·.1)) : r.find? (fun q => decide (q.1 = x)) = none := by
  rw [List.find?_eq_none]
  intro q hq
  rw [decide_eq_true_iff]
  exact fun e => h (e ▸ List.mem_map_of_mem hq)
theorem manOf_one : ∀ {js : List (Str × Str)}, (js.map (·.1)).Nodup → ∀ {j : Str × Str}, j ∈ js → manOf (mlOf js) j.1 = j.2
  | a :: r, nd, j, hj => by
    have nd2 := List.nodup_cons.mp nd
    have sub : ∀ x, x ∈ (mlOf r).map (·.1) → x ∈ r.map (·.1) := fun x hx => by
      obtain ⟨q, hq, e⟩ := List.mem_map.mp hx
      exact e ▸ List.mem_map_of_mem (List.mem_filter.mp hq).1
    by_cases p : a.2 = ("plain" : Str)
    · have e0 : mlOf (a :: r) = mlOf r := by
        show List.filter _ (a :: r) = List.filter _ r
        rw [List.filter_cons, if_neg (by rw [decide_eq_true_iff]; exact fun z => z p)]
      rw [e0]
      rcases List.mem_cons.mp hj with e | e
      · rw [e, manOf, find_none (fun z => nd2.1 (sub _ z)), p]
        rfl
      · exact manOf_one nd2.2 e
    · have e0 : mlOf (a :: r) = a :: mlOf r := by
        show List.filter _ (a :: r) = a :: List.filter _ r
        rw [List.filter_cons, if_pos (by rw [decide_eq_true_iff]; exact p)]
      rw [e0, manOf, List.find?_cons]
      rcases List.mem_cons.mp hj with e | e
      · rw [e, decide_eq_true rfl]
        rfl
      · have ne : ¬ a.1 = j.1 := fun z => nd2.1 (by show a.1 ∈ List.map (·.1) r; rw [show a.1 = j.1 from z]; exact List.mem_map_of_mem e)
        rw [decide_eq_false ne]
        exact manOf_one nd2.2 e
theorem mans_js {js : List (Str × Str)} (nd : (js.map (·.1)).Nodup) : (js.map (·.1)).map (manOf (mlOf js)) = js.map (·.2) := by
  rw [List.map_map]
  exact List.map_congr_left fun j hj => manOf_one nd hj
/-- other jobs than js -/
structure Other (js js2 : List (Str × Str)) : Prop where
  ok : JsOk js2 []
  ne : ¬ (js.map (·.1) = js2.map (·.1) ∧ js.map (·.2) = js2.map (·.2))
  sh : Sh100 (js2.map (·.1))
def turnJ (j : Str × Str) : Str × Str := (j.1, if j.2 = ("plain" : Str) then ("spent" : Str) else ("plain" : Str))
theorem turn_4 : ∀ j : Str × Str, (turnJ j).2 ∈ man4 := fun j => by
  unfold turnJ
  by_cases p : j.2 = ("plain" : Str)
  · rw [if_pos p]
    show ("spent" : Str) ∈ man4
    decide +kernel
  · rw [if_neg p]
    show ("plain" : Str) ∈ man4
    decide +kernel
theorem man4_ok : Sh100 man4 := by
  unfold Sh100
  decide +kernel
theorem pool_ok : Sh100 (("more" : Str) :: pool21) := by
  unfold Sh100
  decide +kernel
theorem more_name : nameB "more" = true := by decide +kernel
theorem more_new : ("more" : Str) ∉ pool21 := by decide +kernel
theorem no_facts (k : Nat) : FactsOk k [] := ⟨fun f hf => (nomatch hf), .nil, fun x hx => Nat.zero_le _⟩
theorem sh_names {js : List (Str × Str)} (h : ∀ j ∈ js, j.1 ∈ ("more" : Str) :: pool21) : Sh100 (js.map (·.1)) := fun x hx => by
  obtain ⟨j, hj, rfl⟩ := List.mem_map.mp hx
  exact pool_ok _ (h j hj)
theorem other_turn {js : List (Str × Str)} {fs : List Fact} (h : JsOk js fs) (hq : ∀ j ∈ js, j.1 ∈ pool21) : Other js (js.map turnJ) := by
  have e1 : (js.map turnJ).map (·.1) = js.map (·.1) := by
    rw [List.map_map]
    rfl
  refine ⟨⟨by rw [e1]; exact h.nm, fun j hj => ?_, no_facts _⟩, fun z => ?_, by rw [e1]; exact sh_names fun j hj => List.mem_cons_of_mem _ (hq j hj)⟩
  · obtain ⟨i, _, rfl⟩ := List.mem_map.mp hj
    exact turn_4 i
  · have z2 := z.2
    have l1 := h.nm.l1
    cases js with
    | nil => cases l1
    | cons a r =>
      rw [List.map_map, List.map_cons, List.map_cons] at z2
      have z3 := (List.cons.inj z2).1
      have z4 : a.2 = (if a.2 = ("plain" : Str) then ("spent" : Str) else ("plain" : Str)) := z3
      by_cases p : a.2 = ("plain" : Str)
      · rw [if_pos p, p] at z4
        revert z4
        decide +kernel
      · rw [if_neg p] at z4
        exact p z4
theorem other_more {js : List (Str × Str)} {fs : List Fact} (h : JsOk js fs) (hq : ∀ j ∈ js, j.1 ∈ pool21) (l : js.length < 4) : Other js (js ++ [(("more" : Str), ("plain" : Str))]) := by
  have e1 : (js ++ [(("more" : Str), ("plain" : Str))]).map (·.1) = js.map (·.1) ++ [("more" : Str)] := by
    rw [List.map_append]
    rfl
  refine ⟨⟨?_, fun j hj => ?_, no_facts _⟩, fun z => ?_, sh_names fun j hj => ?_⟩
  · rw [e1]
    refine ⟨?_, ?_, List.nodup_append.mpr ⟨h.nm.nd, List.nodup_cons.mpr ⟨fun m => (nomatch m), .nil⟩, fun u hu v hv e => ?_⟩, fun x hx => ?_⟩
    · rw [List.length_append]
      show 1 ≤ _ + 1
      omega
    · rw [List.length_append, List.length_map]
      show js.length + 1 ≤ 4
      omega
    · rw [List.mem_singleton.mp hv] at e
      obtain ⟨j, hj, ej⟩ := List.mem_map.mp hu
      have q := hq j hj
      rw [ej, e] at q
      exact more_new q
    · rcases List.mem_append.mp hx with y | y
      · exact h.nm.nm x y
      · rw [List.mem_singleton.mp y]
        exact more_name
  · rcases List.mem_append.mp hj with y | y
    · exact h.mn j y
    · rw [List.mem_singleton.mp y]
      decide
  · have z2 := congrArg List.length z.1
    rw [List.length_map, List.length_map, List.length_append] at z2
    have z3 : js.length = js.length + 1 := z2
    omega
  · rcases List.mem_append.mp hj with y | y
    · exact List.mem_cons_of_mem _ (hq j y)
    · rw [List.mem_singleton.mp y]
      exact List.mem_cons_self
theorem other_less {js : List (Str × Str)} {fs : List Fact} (h : JsOk js fs) (hq : ∀ j ∈ js, j.1 ∈ pool21) (l : ¬ js.length < 4) : Other js (js.drop 1) := by
  have hm : ∀ {j}, j ∈ js.drop 1 → j ∈ js := fun hj => List.mem_of_mem_drop hj
  have l4 := h.nm.l4
  rw [List.length_map] at l4
  refine ⟨⟨⟨?_, ?_, ?_, fun x hx => ?_⟩, fun j hj => h.mn j (hm hj), no_facts _⟩, fun z => ?_, sh_names fun j hj => List.mem_cons_of_mem _ (hq j (hm hj))⟩
  · rw [List.length_map, List.length_drop]
    omega
  · rw [List.length_map, List.length_drop]
    omega
  · rw [List.map_drop]
    exact h.nm.nd.sublist (List.drop_sublist ..)
  · obtain ⟨j, hj, rfl⟩ := List.mem_map.mp hx
    exact h.nm.nm _ (List.mem_map_of_mem (hm hj))
  · have z2 := congrArg List.length z.1
    rw [List.length_map, List.length_map, List.length_drop] at z2
    omega
theorem other_first {a : Str × Str} {r : List (Str × Str)} {fs : List Fact} (h : JsOk (a :: r) fs) (hq : ∀ j ∈ a :: r, j.1 ∈ pool21) : Other (a :: r) ((("more" : Str), a.2) :: r) := by
  have nd := List.nodup_cons.mp h.nm.nd
  refine ⟨⟨⟨h.nm.l1, h.nm.l4, List.nodup_cons.mpr ⟨fun m => ?_, nd.2⟩, fun x hx => ?_⟩, fun j hj => ?_, no_facts _⟩, fun z => ?_, sh_names fun j hj => ?_⟩
  · obtain ⟨j, hj, e⟩ := List.mem_map.mp m
    have q := hq j (List.mem_cons_of_mem _ hj)
    rw [show j.1 = ("more" : Str) from e] at q
    exact more_new q
  · rcases List.mem_cons.mp hx with e | e
    · rw [e]
      exact more_name
    · exact h.nm.nm x (List.mem_cons_of_mem _ e)
  · rcases List.mem_cons.mp hj with e | e
    · rw [e]
      exact h.mn a List.mem_cons_self
    · exact h.mn j (List.mem_cons_of_mem _ e)
  · have z2 := (List.cons.inj z.1).1
    have q := hq a List.mem_cons_self
    rw [show a.1 = ("more" : Str) from z2] at q
    exact more_new q
  · rcases List.mem_cons.mp hj with e | e
    · rw [e]
      exact List.mem_cons_self
    · exact List.mem_cons_of_mem _ (hq j (List.mem_cons_of_mem _ e))
def lamN : Str := (("_law_are_others_refused" : Str) ++ ".<locals>.") ++ "<lambda>"
def spLawBook (C : Addr) : Sp := fun vs H Q _ => ∃ (d : Addr) (js : List (Str × Str)) (fs : List Fact), vs = [.ref d] ∧ Lines H d js fs ∧ JsOk js fs ∧ ∀ b H', Same H H' → H b = none → BookAt C H' b (bT js fs) (js.map (·.1)) (mlOf js) fs → Q (.ref b) H'
def spRefused (T : List (Addr × Str)) (CS : Addr) : Sp := fun vs H Q _ => ∃ (d lj lf ls s : Addr) (js : List (Str × Str)) (fs : List Fact) (sts sts2 : List Stk), vs = [.ref d, .ref s] ∧ LoreAt H d lj lf ls js fs sts ∧ JsOk js fs ∧ (∀ j ∈ js, j.1 ∈ pool21) ∧ ShopAt CS H s (js.map (·.1)) (js.map (·.2)) sts2 ∧ Tabs T H ∧
  ∀ H', ExtN H H' → Tabs T H' → Q (.bl true) H'
end GD
namespace K01
open PySem PySem.Spec PyProof.Rows L2 GD
open LamX
theorem cut_one (xs : List V) : cutV xs (some 1) none = xs.drop 1 := by
  rw [show (some (1 : Int)) = some ((1 : Nat) : Int) from rfl]
  unfold cutV
  rw [HT.sIx_nat, HT.sIx_none, drop_min, List.take_of_length_le]
  rw [List.length_drop]
  omega
theorem book_lst {C : Addr} {H : Hp} {b l : Addr} {t : Str} {names : List Str} {ml : List (Str × Str)} {fs : List Fact} {xs ys : List V} (e : H l = some (.lst xs)) (h : BookAt C H b t names ml fs) : BookAt C (upd H l (.lst ys)) b t names ml fs := by
  obtain ⟨dx, j, m, f, a, h1, h2, h3, h4, h5⟩ := h
  exact ⟨dx, j, m, f, a, by rw [upd_ne (ne_of h1 e (fun z => by cases z))]; exact h1, h2.lst e, by rw [upd_ne (ne_of h3 e (fun z => by cases z))]; exact h3, h4.mv (tups_lst e), h5.mv (tups_lst e)⟩
theorem cgt_lst {C a l : Addr} {H : Hp} {v : V} {xs ys : List V} (e : H l = some (.lst xs)) (h : CgtAt H a C v) : CgtAt (upd H l (.lst ys)) a C v := by
  obtain ⟨d, h1, h2⟩ := h
  exact ⟨d, by rw [upd_ne (ne_of h1 e (fun z => by unfold exk at z; cases z))]; exact h1, by rw [upd_ne (ne_of h2 e (fun z => by cases z))]; exact h2⟩
theorem tabs_lst {T : List (Addr × Str)} {l : Addr} {H : Hp} {xs ys : List V} (e : H l = some (.lst xs)) (h : Tabs T H) : Tabs T (upd H l (.lst ys)) := fun p hp => by
  obtain ⟨ps, h1, h2, h3⟩ := h p hp
  refine ⟨ps, by rw [upd_ne (ne_of h1 e (fun z => by cases z))]; exact h1, h2, fun pos cv hc => ?_⟩
  obtain ⟨c, ec, h4⟩ := h3 pos cv hc
  exact ⟨c, ec, by rw [upd_ne (ne_of h4 e (fun z => by unfold CodeO at z; cases z))]; exact h4⟩
-- abbrev sLawBook : Stmt := top 85
-- abbrev sRefused : Stmt := top 78
section
variable {P : Program} {w : World} {K : PySem.W.Frag} {mg : Str → Option Value} {base : Heap}
abbrev NOt : List Str := ["_law_lore_here", "_law_shop", "_law_jobs_here", "_law_turned", "_law_some_here", "_law_other", "_law_caughts", "_law_name", "_law_manner", "_law_caught"]
end
end K01
/-! own len, own |, own [..] of an instance: not used yet (wanted for the laws of shops and books that join, count and number) -/
namespace GD
open PySem PySem.Spec PyProof.Rows L2
section
variable {X : Cx} {CX : CXT} {k : Nat} {f C : Addr} {fd : FuncData} {ps : List Str} {sp : Sp} {E : XK}
/-- len(x) -/
def rLenC (C : Addr) (sp : Sp) (E : XK) : List V → Hp → VK → Prop := fun xs H Q => ∃ a dx fs, xs = [.ref a] ∧ H a = some (.ins C dx fs) ∧ sp [.ref a] H (fun v H' => ∃ n : Int, v = .int n ∧ 0 ≤ n ∧ n < 2 ^ 63 ∧ Q (.int n) H') E
theorem call_lenC (F : FnOk X.prog X.w X.K X.mg X.base CX k f fd ps sp) (hr : Room (k + 1) X.A) (hb : Binds X.K fd ps []) (hx : Passes CX X E) (hs : PySem.W.findIn X.K (.ref C) "__len__" = some (some (.ref f))) (hf : PySem.W.isFn X.K (.ref f) = true) : CallR X (.builtin "len") (rLenC C sp E) := by
  intro pins s σ H xs us Q I r h
  obtain ⟨a, dx, fs, rfl, ha, q⟩ := h
  obtain ⟨u, rfl, ru⟩ := vals1 r
  cases (show u = Value.ref a from ru)
  obtain ⟨mA, J, _⟩ := ins_get I.hok ha
  obtain ⟨od, J, _⟩ := J.look
  obtain ⟨m, hF⟩ := I.fr
  have hl := F.len _ _ _ _ q
  refine PySem.W.len_K hF I.ok.mod.kin J hs hf ?_
  refine wpAny_call (codeAny_mono (F.run X.A.in1 X.stack s H ⟨[.ref a], []⟩ [.ref a] [.ref a] _ E hr.in1 I.env0.in1 (by
    have := hb s [.ref a] I.kIn (by simpa using hl)
    simpa using this) (.cons rfl .nil) q) fun r s' hq => ?_)
  cases r with
  | error e => exact hx pins σ H s e s' I hq
  | ok fl =>
    cases fl with
    | ret w =>
      obtain ⟨z', H', I', rz, n, rfl, n0, n1, qz⟩ := I.after hq
      obtain ⟨t, rfl⟩ := rz
      exact ⟨⟨n0, n1⟩, .int n, H', I'.tok _, ⟨_, rfl⟩, qz⟩
    | next => exact False.elim hq
    | brk => exact False.elim hq
    | cont => exact False.elim hq
/-- x op y, both instances of the class -/
def rBinC (K : PySem.W.Frag) (C : Addr) (sp : Sp) (E : XK) : R2 := fun x y H Q => ∃ a dx fs b dy gs, x = .ref a ∧ y = .ref b ∧ H a = some (.ins C dx fs) ∧ H b = some (.ins C dy gs) ∧ sp [x, y] H (fun v H' => Q v H' ∧ ∃ c, v = .ref c) E
theorem op_binC {op : Operator} (F : FnOk X.prog X.w X.K X.mg X.base CX k f fd ps sp) (hr : Room k X.A) (hb : Binds X.K fd ps []) (hx : Passes CX X E) (hs : PySem.W.findIn X.K (.ref C) (PySem.dunder op.info.2) = some (some (.ref f))) (hf : PySem.W.isFn X.K (.ref f) = true) (hc : PySem.W.selfFirst X.K C = true) :
    OpR X (binaryOp op) (rBinC X.K C sp E) := by
  intro pins s σ H x y v u Q I rx ry h
  obtain ⟨a, dx, fs, b, dy, gs, rfl, rfl, ha, hb2, q⟩ := h
  cases (show v = Value.ref a from rx)
  cases (show u = Value.ref b from ry)
  obtain ⟨mA, J, _⟩ := ins_get I.hok ha
  obtain ⟨od, J, _⟩ := J.look
  obtain ⟨mB, J2, _⟩ := ins_get I.hok hb2
  obtain ⟨od2, J2, _⟩ := J2.look
  obtain ⟨m, hF⟩ := I.fr
  refine PySem.W.binop_K hF I.ok.mod.kin J J2.type hc hs hf ?_
  refine wpAny_mono (run_fn (us := [.ref a, .ref b]) (vs := [.ref a, .ref b]) F hr hb .nil hx I (.cons rfl (.cons rfl .nil)) q) (fun w s' z => ?_) fun _ _ x => x
  obtain ⟨z', H', I', rz, qz, c, rfl⟩ := z
  cases (show w = Value.ref c from rz)
  exact ⟨.ref c, H', I', rfl, qz⟩
/-- x[i], x an instance -/
def rIxC (C : Addr) (sp : Sp) (E : XK) : R2 := fun x y H Q => ∃ a dx fs, x = .ref a ∧ H a = some (.ins C dx fs) ∧ sp [x, y] H Q E
theorem pe_ixC {a b : Expr} {ta tb : TE} {pos : Pos} (F : FnOk X.prog X.w X.K X.mg X.base CX k f fd ps sp) (hr : Room (k + 1) X.A) (hb : Binds X.K fd ps []) (hx : Passes CX X E) (hs : PySem.W.findIn X.K (.ref C) "__getitem__" = some (some (.ref f))) (hf : PySem.W.isFn X.K (.ref f) = true) (hfn : PySem.W.fnIn X.K f = true)
    (hA : PE X a ta) (hB : PE X b tb) (hsl : ∀ v u : Value, subscripted b true v u = runValue (.builtin "lifetime.subscript" ⟨[v, u], []⟩) := by exact fun _ _ => by with_unfolding_all rfl) :
    PE X (.Subscript a b pos) (tOp (rIxC C sp E) ta tb) := by
  refine ⟨fun pins s σ H Q I h => ?_⟩
  refine Subscript_ (binT hA hB I h fun v u s2 x y H2 I2 rx ry q => ?_)
  obtain ⟨a, dx, fs, rfl, ha, q⟩ := q
  cases (show v = Value.ref a from rx)
  obtain ⟨mA, J, _⟩ := ins_get I2.hok ha
  obtain ⟨od, J, _⟩ := J.look
  obtain ⟨m, hF⟩ := I2.fr
  have hl := F.len _ _ _ _ q
  refine PySem.W.sub_K hF I2.ok.mod.kin J hs hfn hf ?_ (hsl _ _)
  refine wpAny_call (codeAny_mono (F.run X.A.in1 X.stack s2 H2 ⟨[.ref a, u], []⟩ [.ref a, u] [.ref a, y] _ E hr.in1 I2.env0.in1 (by
    have := hb s2 [.ref a, u] I2.kIn (by simpa using hl)
    simpa using this) (.cons rfl (.cons ry .nil)) q) fun r s' hq => ?_)
  cases r with
  | error e => exact hx pins σ H2 s2 e s' I2 hq
  | ok fl =>
    cases fl with
    | ret w => exact I2.after hq
    | next => exact False.elim hq
    | brk => exact False.elim hq
    | cont => exact False.elim hq
end
end GD
namespace GD
open PySem PySem.Spec PyProof.Rows L2
/-! any value as a number -/
def noInt : List String := ["str", "tuple", "list", "NoneType", "dict"]
def IntOr (K : PySem.W.Frag) (H : Hp) (v : V) (o : Option Int) : Prop := (∃ i, v = .int i ∧ o = some i) ∨ (∃ b, v = .bl b ∧ o = none) ∨ ∃ T ∈ noInt, TyX K H v (.type T) ∧ o = none
def inR (o : Option Int) (m : Int) : Bool := match o with
  | some i => decide (0 ≤ i ∧ i < m)
  | none => false
def spIntA (K : PySem.W.Frag) : Sp := fun vs H Q _ => ∃ (v : V) (o : Option Int), vs = [v] ∧ IntOr K H v o ∧ Q (.bl o.isSome) H
def spNumbA (K : PySem.W.Frag) : Sp := fun vs H Q _ => ∃ (v : V) (m : Int) (o : Option Int), vs = [v, .int m] ∧ IntOr K H v o ∧ Q (.bl (inR o m)) H
def spLenS (CS : Addr) : Sp := fun vs H Q _ => ∃ (s : Addr) (names mans : List Str) (sts : List Stk), vs = [.ref s] ∧ ShopAt CS H s names mans sts ∧ Q (.int (sts.length : Nat)) H
/-- a stock by any value: the stock, or NoStock with this value -/
def spGetS (K : PySem.W.Frag) (CS CN : Addr) : Sp := fun vs H Q E => ∃ (s : Addr) (v : V) (o : Option Int) (names mans : List Str) (sts : List Stk), vs = [.ref s, v] ∧ ShopAt CS H s names mans sts ∧ IntOr K H v o ∧
  (∀ (i : Nat) (st : Stk) (x : V), o = some (i : Int) → sts[i]? = some st → Fz H x (eK st) → Q x H) ∧ (inR o (sts.length : Nat) = false → ∀ d H', Same H H' → H d = none → H' d = some (.xd [(("value" : Str), v)]) → E (.ref CN) (some d) H')
/-- a raise of an own error with the value at slot i is read -/
theorem raise_read {K : PySem.W.Frag} {CO fI : Addr} {i : Nat} {v : V} {E : XK} (T : EC K CO fI) {σ : L2.St} {H : Hp} (hi : σ[i]? = some (some v)) (D : Ends)
    (k : ∀ d H', Same H H' → H d = none → H' d = some (.xd [(("value" : Str), v)]) → E (.ref CO) (some d) H') :
    (fun (_ : Ends) σ H => tMkO CO (spInit K) [] (tCons (tVar i) tNil) σ H fun cls d H' => E cls d H') D σ H := by
  refine ⟨v, hi, (by show 1 ≤ 1000; decide), fun e he => ?_⟩
  refine ⟨e, CO, v, rfl, T.ox, T.nv, upd_same, fun d hd hde => ⟨rfl, d, [(("value" : Str), v)], upd_same, ?_, ?_, ?_⟩⟩
  · rw [upd_ne hde, upd_same]
  · rw [upd_ne hde] at hd
    exact hd
  · have hd0 : H d = none := by
      rw [upd_ne hde] at hd
      exact hd
    refine k d _ (fun c o ec => ?_) hd0 upd_same
    have ce : c ≠ e := fun z => by rw [z, he] at ec; cases ec
    have cd : c ≠ d := fun z => by rw [z, hd0] at ec; cases ec
    rw [upd_ne cd, del_ne ce, upd_ne ce, upd_ne cd, upd_ne ce]
    exact ec
end GD
namespace K01
open PySem PySem.Spec PyProof.Rows L2 GD
-- abbrev pLenS : Stmt := inClass cShop 7
-- abbrev pGetS : Stmt := inClass cShop 8
section
variable {P : Program} {w : World} {K : PySem.W.Frag} {mg : Str → Option Value} {base : Heap}
theorem oka_isint {f : Addr} {fd : FuncData} (F : Fun K "is_integer" "is_integer" pIsInt f fd) (S : Forms1 mg) : FnOk P w K mg base CX0 1 f fd ["value"] (spIntA K) := by
  refine F.ok scI1 (fun vs H Q E h => ?_) (fun cdv A outer s H vs Q E hr h => ?_)
  · obtain ⟨i, o, rfl, _⟩ := h
    rfl
  · obtain ⟨v, o, rfl, hv, q⟩ := h
    refine ⟨_, pss_one (ps_ret (pe_and (pe_callB call_isi (by rfl) S.isi (by decide +kernel) (pa_cons (pv 0) (pa_cons (pe_bltn (v := .ty "int") (by rfl) S.int PyProof.Rows.Boot.«int» rfl) pa_nil)))
      (pe_one (pe_not (pe_callB call_isi (by rfl) S.isi (by decide +kernel) (pa_cons (pv 0) (pa_cons (pe_bltn (v := .ty "bool") (by rfl) S.bool PyProof.Rows.Boot.«bool» rfl) pa_nil))))))), ?_⟩
    rcases hv with ⟨i, rfl, rfl⟩ | ⟨b, rfl, rfl⟩ | ⟨T, hT, ty, rfl⟩
    · refine ⟨_, rfl, _, _, _, _, true, rfl, .ty _, .base (.int _), kit_ty (by decide +kernel), _, rfl, iteT ?_⟩
      exact ⟨_, rfl, _, _, _, _, false, rfl, .ty _, .base (.int _), kit_ty (by decide +kernel), _, rfl, q⟩
    · refine ⟨_, rfl, _, _, _, _, true, rfl, .ty _, .base (.bl _), kit_ty (by decide +kernel), _, rfl, iteT ?_⟩
      exact ⟨_, rfl, _, _, _, _, true, rfl, .ty _, .base (.bl _), kit_ty (by decide +kernel), _, rfl, q⟩
    · simp only [noInt, List.mem_cons, List.not_mem_nil, or_false] at hT
      rcases hT with rfl | rfl | rfl | rfl | rfl
      all_goals exact ⟨_, rfl, _, _, _, _, false, rfl, .ty _, ty, kit_ty (by decide +kernel), _, rfl, iteF q⟩
theorem oka_isnumb {f fI : Addr} {fd fdI : FuncData} (F : Fun K "is_number" "is_number" pIsNumb f fd) (S : Forms1 mg) (AI : At K mg "is_integer" pIsInt ["value"] fI fdI) : FnOk P w K mg base CX0 2 f fd ["value", "many"] (spNumbA K) := by
  have GI : FnOk P w K mg base CX0 1 fI fdI ["value"] (spIntA K) := oka_isint AI.F S
  refine F.ok scI2 (fun vs H Q E h => ?_) (fun cdv A outer s H vs Q E hr h => ?_)
  · obtain ⟨i, m, o, rfl, _⟩ := h
    rfl
  · obtain ⟨v, m, o, rfl, hv, q⟩ := h
    refine ⟨_, pss_one (ps_ret (pe_and (pe_call GI hr rfl AI.g AI.F.kp AI.b .nil pass0 (pa_cons (pv 0) pa_nil)) (pe_one (pe_chain op_le op_lt pe_int (pv 0) (pv 1))))), ?_⟩
    refine ⟨_, rfl, v, o, rfl, hv, _, rfl, ?_⟩
    cases o with
    | none => exact iteF q
    | some i =>
      obtain rfl : v = .int i := by
        rcases hv with ⟨j, e, e2⟩ | ⟨b, e, e2⟩ | ⟨T, _, _, e2⟩
        · cases e2
          exact e
        · cases e2
        · cases e2
      refine iteT ?_
      refine ⟨_, rfl, _, _, rfl, rfl, _, rfl, ?_⟩
      have q : Q (.bl (decide (0 ≤ i ∧ i < m))) H := q
      by_cases h : 0 ≤ i
      · rw [decide_eq_true h]
        refine iteT ⟨_, rfl, _, _, rfl, rfl, ?_⟩
        rw [show decide (0 ≤ i ∧ i < m) = decide (i < m) by simp [h]] at q
        exact q
      · rw [decide_eq_false h]
        refine iteF ?_
        rw [decide_eq_false (show ¬ (0 ≤ i ∧ i < m) from fun z => h z.1)] at q
        exact q
end
end K01
/-! any data: its kind, and what the forms tell of it -/
namespace GD
open PySem PySem.Spec PyProof.Rows L2
def kindD : PyData → String
  | .none => "NoneType"
  | .bool _ => "bool"
  | .int _ => "int"
  | .str _ => "str"
  | .list _ => "list"
  | .tuple _ => "tuple"
  | .dict _ => "dict"
theorem ty_sh {K : PySem.W.Frag} {M H : Hp} {v : V} {d : PyData} (h : Sh M v d) (s : ∀ b o, M b = some o → H b = some o) : TyX K H v (.type (kindD d)) := by
  cases h with
  | non => exact .base .non
  | bl b => exact .base (.bl b)
  | int i => exact .base (.int i)
  | str x => exact .base (.str x)
  | lst e _ _ => exact .base (.lst (s _ _ e))
  | tup e _ => exact .base (.tup (s _ _ e))
  | dct e _ _ => exact .base (.dK (s _ _ e))
def isTup : PyData → Bool
  | .tuple _ => true
  | _ => false
def isStr : PyData → Bool
  | .str _ => true
  | _ => false
theorem kit_tup {K : PySem.W.Frag} (d : PyData) : PySem.W.kitOne K (.type (kindD d)) (.type "tuple") = some (isTup d) := by
  cases d <;> first | exact kit_ty (show kitB "NoneType" "tuple" = some false by decide +kernel) | exact kit_ty (show kitB "bool" "tuple" = some false by decide +kernel) | exact kit_ty (show kitB "int" "tuple" = some false by decide +kernel) | exact kit_ty (show kitB "str" "tuple" = some false by decide +kernel) | exact kit_ty (show kitB "list" "tuple" = some false by decide +kernel) | exact kit_ty (show kitB "tuple" "tuple" = some true by decide +kernel) | exact kit_ty (show kitB "dict" "tuple" = some false by decide +kernel)
theorem kit_str {K : PySem.W.Frag} (d : PyData) : PySem.W.kitOne K (.type (kindD d)) (.type "str") = some (isStr d) := by
  cases d <;> first | exact kit_ty (show kitB "NoneType" "str" = some false by decide +kernel) | exact kit_ty (show kitB "bool" "str" = some false by decide +kernel) | exact kit_ty (show kitB "int" "str" = some false by decide +kernel) | exact kit_ty (show kitB "str" "str" = some true by decide +kernel) | exact kit_ty (show kitB "list" "str" = some false by decide +kernel) | exact kit_ty (show kitB "tuple" "str" = some false by decide +kernel) | exact kit_ty (show kitB "dict" "str" = some false by decide +kernel)
def intD : PyData → Option Int
  | .int i => some i
  | _ => none
theorem intOr_sh {K : PySem.W.Frag} {M H : Hp} {v : V} {d : PyData} (h : Sh M v d) (s : ∀ b o, M b = some o → H b = some o) : IntOr K H v (GD.intD d) := by
  cases h with
  | non => exact .inr (.inr ⟨"NoneType", by decide, .base .non, rfl⟩)
  | bl b => exact .inr (.inl ⟨b, rfl, rfl⟩)
  | int i => exact .inl ⟨i, rfl, rfl⟩
  | str x => exact .inr (.inr ⟨"str", by decide, .base (.str x), rfl⟩)
  | lst e _ _ => exact .inr (.inr ⟨"list", by decide, .base (.lst (s _ _ e)), rfl⟩)
  | tup e _ => exact .inr (.inr ⟨"tuple", by decide, .base (.tup (s _ _ e)), rfl⟩)
  | dct e _ _ => exact .inr (.inr ⟨"dict", by decide, .base (.dK (s _ _ e)), rfl⟩)
def pairI : PyData → Option (Int × Int)
  | .tuple [a, b] => match intD a, intD b with
    | some i, some j => if 0 ≤ j ∧ j ≤ i ∧ i ≤ 40 then some (i, j) else none
    | _, _ => none
  | _ => none
theorem pairI_two (a b : PyData) : pairI (.tuple [a, b]) = match GD.intD a, GD.intD b with
    | some i, some j => if 0 ≤ j ∧ j ≤ i ∧ i ≤ 40 then some (i, j) else none
    | _, _ => none := rfl
def allD {α : Type} (f : PyData → Option α) : List PyData → Option (List α)
  | [] => some []
  | d :: r => match f d, allD f r with
    | some x, some xs => some (x :: xs)
    | _, _ => none
def stnD (k : Nat) : PyData → Option Stn
  | .tuple ds => if ds.length = k then allD pairI ds else none
  | _ => none
theorem allD_some {α : Type} {f : PyData → Option α} : ∀ {ds : List PyData}, (allD f ds).isSome = ds.all fun d => (f d).isSome
  | [] => rfl
  | d :: r => by
    rw [List.all_cons, ← allD_some (ds := r), allD]
    cases f d <;> cases allD f r <;> rfl
def wordD (ws : List Str) : PyData → Bool
  | .str x => decide (x ∈ ws)
  | _ => false
def evD (names : List Str) : PyData → Option (Str × Str)
  | .tuple [.str x, .str y] => if (x = "begin" ∨ x = "end") ∧ y ∈ names then some (x, y) else none
  | _ => none
def spWordA (K : PySem.W.Frag) : Sp := fun vs H Q _ => ∃ (v : V) (d : PyData) (w : Addr) (ws : List Str), vs = [v, .ref w] ∧ Sh H v d ∧ (SqL K H w (ws.map V.str) ∨ SqT K H w (ws.map V.str)) ∧ Q (.bl (wordD ws d)) H
def spPairA : Sp := fun vs H Q _ => ∃ (v : V) (d : PyData), vs = [v] ∧ Sh H v d ∧ Q (.bl (pairI d).isSome) H
def spStnA : Sp := fun vs H Q _ => ∃ (v : V) (d : PyData) (k : Nat), vs = [v, .int k] ∧ Sh H v d ∧ k ≤ 1000 ∧ ∀ H', Same H H' → Q (.bl (stnD k d).isSome) H'
def spEvA (K : PySem.W.Frag) : Sp := fun vs H Q _ => ∃ (v : V) (d : PyData) (l : Addr) (names : List Str), vs = [v, .ref l] ∧ Sh H v d ∧ SqT K H l (names.map V.str) ∧ ∀ H', Same H H' → Q (.bl (evD names d).isSome) H'
theorem sh_tup {H : Hp} {v : V} {ds : List PyData} (h : Sh H v (.tuple ds)) : ∃ a xs, v = .ref a ∧ H a = some (.tup xs) ∧ ShAll H xs ds := by
  cases h with
  | tup e t => exact ⟨_, _, rfl, e, t⟩
theorem ShAll.two {H : Hp} {xs : List V} {d e : PyData} (h : ShAll H xs [d, e]) : ∃ x y, xs = [x, y] ∧ Sh H x d ∧ Sh H y e := by
  cases h with
  | cons a t =>
    cases t with
    | cons b t =>
      cases t
      exact ⟨_, _, rfl, a, b⟩
theorem sh_int {H : Hp} {v : V} {i : Int} (h : Sh H v (.int i)) : v = .int i := by
  cases h
  rfl
theorem sh_str {H : Hp} {v : V} {x : Str} (h : Sh H v (.str x)) : v = .str x := by
  cases h
  rfl
theorem seqT_same {K : PySem.W.Frag} {H H' : Hp} {a : Addr} {xs : List V} (e : Same H H') (h : SqT K H a xs) : SqT K H' a xs := by
  rcases h with (h | ⟨o, h⟩) | h
  · exact .inl (.inl (e _ _ h))
  · exact .inl (.inr ⟨o, e _ _ h⟩)
  · exact .inr h
theorem evD_two {names : List Str} {d e : PyData} : (evD names (.tuple [d, e])).isSome = (wordD ["begin", "end"] d && wordD names e) := by
  cases d with
  | str x =>
    cases e with
    | str y =>
      show (if (x = "begin" ∨ x = "end") ∧ y ∈ names then some (x, y) else none).isSome = (decide (x ∈ (["begin", "end"] : List Str)) && decide (y ∈ names))
      by_cases h1 : x ∈ (["begin", "end"] : List Str)
      · have h1' : x = "begin" ∨ x = "end" := by simpa using h1
        by_cases h2 : y ∈ names
        · rw [if_pos ⟨h1', h2⟩, decide_eq_true h1, decide_eq_true h2]
          rfl
        · rw [if_neg fun z => h2 z.2, decide_eq_false h2, Bool.and_false]
          rfl
      · rw [if_neg fun z => h1 (by simpa using z.1), decide_eq_false h1]
        rfl
    | none => simp [evD, wordD]
    | bool b => simp [evD, wordD]
    | int b => simp [evD, wordD]
    | list b => simp [evD, wordD]
    | tuple b => simp [evD, wordD]
    | dict b => simp [evD, wordD]
  | none => simp [evD, wordD]
  | bool b => simp [evD, wordD]
  | int b => simp [evD, wordD]
  | list b => simp [evD, wordD]
  | tuple b => simp [evD, wordD]
  | dict b => simp [evD, wordD]
theorem evD_ne {names : List Str} (ds : List PyData) (h : ¬ ds.length = 2) : (evD names (.tuple ds)).isSome = false := by
  unfold evD
  split
  · rename_i heq
    cases heq
    exact absurd rfl h
  · rfl
theorem intD_some {d : PyData} {i : Int} (h : intD d = some i) : d = .int i := by
  cases d <;> simp [intD] at h
  rw [h]
end GD
namespace K01
open PySem PySem.Spec PyProof.Rows L2 GD
-- abbrev pIsEvent : Stmt := top 25
section
variable {P : Program} {w : World} {K : PySem.W.Frag} {mg : Str → Option Value} {base : Heap}
theorem oka_isword {f : Addr} {fd : FuncData} (F : Fun K "is_word" "is_word" pIsWord f fd) (S : Forms1 mg) : FnOk P w K mg base CX0 1 f fd ["value", "words"] (spWordA K) := by
  refine F.ok scI3 (fun vs H Q E h => ?_) (fun cdv A outer s H vs Q E hr h => ?_)
  · obtain ⟨v, d, u, ws, rfl, _⟩ := h
    rfl
  · obtain ⟨v, d, u, ws, rfl, sh, hw, q⟩ := h
    refine ⟨_, pss_one (ps_ret (pe_and (pe_callB call_isi (by rfl) S.isi (by decide +kernel) (pa_cons (pv 0) (pa_cons (pe_bltn (v := .ty "str") (by rfl) S.str PyProof.Rows.Boot.«str» rfl) pa_nil)))
      (pe_one (pe_cmpR op_in_seq (pv 0) (pv 1) (by with_unfolding_all rfl))))), ?_⟩
    refine ⟨_, rfl, _, _, _, _, isStr d, rfl, .ty _, ty_sh sh (Same.refl H), kit_str d, _, rfl, ?_⟩
    cases d with
    | str x =>
      obtain rfl := sh_str sh
      refine iteT ?_
      refine ⟨_, rfl, _, rfl, u, _, rfl, hw, rfl, ?_, ?_⟩
      · rw [List.all_map]
        exact List.all_eq_true.mpr fun _ _ => rfl
      · rw [inV_strs]
        exact q
    | none => exact iteF q
    | bool b => exact iteF q
    | int i => exact iteF q
    | list ds => exact iteF q
    | tuple ds => exact iteF q
    | dict ds => exact iteF q
theorem oka_ispair {f fI : Addr} {fd fdI : FuncData} (F : Fun K "is_pair" "is_pair" pIsPair f fd) (S : Forms1 mg) (AI : At K mg "is_integer" pIsInt ["value"] fI fdI) : FnOk P w K mg base CX0 2 f fd ["value"] spPairA := by
  have GI : FnOk P w K mg base CX0 1 fI fdI ["value"] (spIntA K) := oka_isint AI.F S
  refine F.ok scI5 (fun vs H Q E h => ?_) (fun cdv A outer s H vs Q E hr h => ?_)
  · obtain ⟨v, d, rfl, _⟩ := h
    rfl
  · obtain ⟨v, d, rfl, sh, q⟩ := h
    obtain ⟨um, gm, rm⟩ := S.most
    refine ⟨_, pss_cons (ps_if (pw_or (pt_not (pt_val (pe_callB call_isi (by rfl) S.isi (by decide +kernel) (pa_cons (pv 0) (pa_cons (pe_bltn (v := .ty "tuple") (by rfl) S.tup PyProof.Rows.Boot.«tuple» rfl) pa_nil)))))
          (pw_or1 (pt_cmpR op_ne (pe_callB call_len_seq (by rfl) S.len PySem.boot_len (pa_cons (pv 0) pa_nil)) pe_int (nomark _)))).pt (pss_one (ps_ret pe_bl)) pss_nil)
      (pss_cons (ps_asg (pv 0) (pg_tup rfl (pgs_cons (pg_name (i := 1) scI5.nd rfl (.inl rfl)) (pgs_cons (pg_name (i := 2) scI5.nd rfl (.inl rfl)) pgs_nil))))
      (pss_one (ps_ret (pe_and (pe_call GI hr rfl AI.g AI.F.kp AI.b .nil pass0 (pa_cons (pv 1) pa_nil)) (pe_and (pe_call GI hr rfl AI.g AI.F.kp AI.b .nil pass0 (pa_cons (pv 2) pa_nil))
        (pe_one (pe_chain3 op_le op_le op_le pe_int (pv 2) (pv 1) (pe_glob (by rfl) gm rm)))))))), ?_⟩
    refine ⟨_, rfl, _, _, _, _, isTup d, rfl, .ty _, ty_sh sh (Same.refl H), kit_tup d, _, rfl, ?_⟩
    cases d with
    | none => exact iteT q
    | bool b => exact iteT q
    | int i => exact iteT q
    | list ds => exact iteT q
    | str x => exact iteT q
    | dict ds => exact iteT q
    | tuple ds =>
      refine iteF ?_
      obtain ⟨b, xs, rfl, hb, t⟩ := sh_tup sh
      have lx := t.length
      refine ⟨_, rfl, b, _, rfl, .inr (SqT.of hb), rfl, _, rfl, ?_⟩
      by_cases h2 : ds.length = 2
      · obtain ⟨d1, d2, rfl⟩ : ∃ d1 d2, ds = [d1, d2] := by
          match ds, h2 with
          | [a, b], _ => exact ⟨a, b, rfl⟩
        obtain ⟨x, y, rfl, s1, s2⟩ := t.two
        refine iteF ?_
        refine ⟨_, rfl, b, _, rfl, SqT.of hb, rfl, _, _, rfl, _, _, rfl, rfl, ?_⟩
        refine ⟨_, rfl, x, _, rfl, intOr_sh s1 (Same.refl H), _, rfl, ?_⟩
        rw [pairI_two] at q
        cases e1 : GD.intD d1 with
        | none =>
          rw [e1] at q
          exact iteF q
        | some i =>
          obtain rfl := intD_some e1
          obtain rfl := sh_int s1
          refine iteT ⟨_, rfl, y, _, rfl, intOr_sh s2 (Same.refl H), _, rfl, ?_⟩
          cases e2 : GD.intD d2 with
          | none =>
            rw [e1, e2] at q
            exact iteF q
          | some j =>
            obtain rfl := intD_some e2
            obtain rfl := sh_int s2
            rw [e1, e2] at q
            refine iteT ⟨_, rfl, _, _, rfl, rfl, _, rfl, ?_⟩
            have q : Q (.bl (if 0 ≤ j ∧ j ≤ i ∧ i ≤ 40 then some (i, j) else none).isSome) H := q
            by_cases c : 0 ≤ j ∧ j ≤ i ∧ i ≤ 40
            · rw [if_pos c] at q
              rw [decide_eq_true c.1]
              refine iteT ⟨_, rfl, _, _, rfl, rfl, _, rfl, ?_⟩
              rw [decide_eq_true c.2.1]
              refine iteT ⟨_, _, rfl, rfl, ?_⟩
              show Q (.bl (decide (i ≤ 40))) H
              rw [decide_eq_true c.2.2]
              exact q
            · rw [if_neg c] at q
              by_cases h0 : 0 ≤ j
              · rw [decide_eq_true h0]
                refine iteT ⟨_, rfl, _, _, rfl, rfl, _, rfl, ?_⟩
                by_cases h1 : j ≤ i
                · rw [decide_eq_true h1]
                  refine iteT ⟨_, _, rfl, rfl, ?_⟩
                  show Q (.bl (decide (i ≤ 40))) H
                  rw [decide_eq_false fun z => c ⟨h0, h1, z⟩]
                  exact q
                · rw [decide_eq_false h1]
                  exact iteF q
              · rw [decide_eq_false h0]
                exact iteF q
      · rw [show (!decide (V.int (xs.length : Nat) = V.int 2)) = true by
          rw [lx, decide_eq_false fun z => h2 (by have := V.int.inj z; omega)]
          rfl]
        refine iteT ?_
        have e : pairI (.tuple ds) = none := by
          match ds, h2 with
          | [], _ => rfl
          | [a], _ => rfl
          | a :: b :: c :: r, _ => rfl
          | [a, b], h => exact absurd rfl h
        rw [e] at q
        exact q
theorem oka_isstn {f fI fP : Addr} {fd fdI fdP : FuncData} (F : Fun K "is_standing" "is_standing" pIsStn f fd) (S : Forms1 mg) (AI : At K mg "is_integer" pIsInt ["value"] fI fdI) (AP : At K mg "is_pair" pIsPair ["value"] fP fdP) : FnOk P w K mg base CX0 3 f fd ["value", "many"] spStnA := by
  have GP : FnOk P w K mg base CX0 2 fP fdP ["value"] spPairA := oka_ispair AP.F S AI
  refine F.ok scI6 (fun vs H Q E h => ?_) (fun cdv A outer s H vs Q E hr h => ?_)
  · obtain ⟨v, d, k, rfl, _⟩ := h
    rfl
  · obtain ⟨v, d, k, rfl, sh, hk, q⟩ := h
    refine ⟨_, pss_one (ps_ret (pe_and (pe_callB call_isi (by rfl) S.isi (by decide +kernel) (pa_cons (pv 0) (pa_cons (pe_bltn (v := .ty "tuple") (by rfl) S.tup PyProof.Rows.Boot.«tuple» rfl) pa_nil)))
      (pe_and (pe_cmpR op_eq (pe_callB call_len_seq (by rfl) S.len PySem.boot_len (pa_cons (pv 0) pa_nil)) (pv 1) (nomark _))
        (pe_one (pe_callB (cr_all rfl) (by rfl) S.all (by decide +kernel) (pa_cons (pe_lc (own := [("pair", 2)]) (g := gName 2) (tt := tYes) rfl scI6.nd (pi_tup (pv 0)) (blkOk_by (N := NP) (sc := defScope pIsStn) (by decide +kernel))
          (fun _ _ _ _ _ => pg_name (i := 2) scI6.nd rfl (.inl rfl)) (fun _ _ _ _ _ => pts_nil) (fun _ _ _ _ _ => pe_call GP hr rfl AP.g AP.F.kp AP.b .nil pass0 (pa_cons (pv 2) pa_nil))) pa_nil)))))), ?_⟩
    refine ⟨_, rfl, _, _, _, _, isTup d, rfl, .ty _, ty_sh sh (Same.refl H), kit_tup d, _, rfl, ?_⟩
    cases d with
    | none => exact iteF (q H (Same.refl H))
    | bool b => exact iteF (q H (Same.refl H))
    | int i => exact iteF (q H (Same.refl H))
    | list ds => exact iteF (q H (Same.refl H))
    | str x => exact iteF (q H (Same.refl H))
    | dict ds => exact iteF (q H (Same.refl H))
    | tuple ds =>
      refine iteT ?_
      obtain ⟨b, xs, rfl, hb, t⟩ := sh_tup sh
      have lx := t.length
      refine ⟨_, rfl, b, _, rfl, .inr (SqT.of hb), _, rfl, rfl, _, rfl, ?_⟩
      by_cases h2 : ds.length = k
      · rw [decide_eq_true (show V.int (xs.length : Nat) = V.int (k : Nat) by rw [lx, h2])]
        refine iteT ⟨_, rfl, b, rfl, ⟨_, SqT.of hb⟩, fun D hD => ?_⟩
        refine lc_tup (K := K) (a := b) (xs := xs) (fun i H' => Same H H' ∧ H' D = some (.lst (((ds.take i).map fun d => (pairI d).isSome).map V.bl))) ⟨same_new hD, upd_same⟩ (fun i H' _ ⟨z, _⟩ => SqT.of (z _ _ hb)) ?_ ?_
        · rintro i x H' hx ⟨z, eD⟩
          obtain ⟨e, h1, s1⟩ := t.get hx
          have hi : i < ds.length := (List.getElem?_eq_some_iff.mp h1).1
          refine ⟨rfl, _, rfl, x, e, rfl, s1.same z, ?_⟩
          refine ⟨_, eD, ?_, same_upd z hD, ?_⟩
          · rw [List.length_map, List.length_map, List.length_take]
            exact Nat.lt_of_le_of_lt (Nat.min_le_left _ _) (Nat.lt_of_lt_of_le (show i < 1001 by omega) (by decide))
          · rw [upd_same, take_next h1, List.map_append, List.map_append]
            rfl
        · rintro H1 ⟨z, eD⟩
          refine ⟨D, _, rfl, SqL.of eD, ?_⟩
          rw [lx, List.take_length, List.all_map]
          have q1 := q H1 z
          rw [stnD, if_pos h2, allD_some] at q1
          exact q1
      · rw [decide_eq_false (show ¬ V.int (xs.length : Nat) = V.int (k : Nat) from fun z => h2 (by have := V.int.inj z; omega))]
        refine iteF ?_
        have q1 := q H (Same.refl H)
        rw [stnD, if_neg h2] at q1
        exact q1
end
end K01
/-! rows, as data -/
namespace GD
open PySem PySem.Spec PyProof.Rows L2
/-- len and isinstance as they are read within a comprehension -/
def rLenK (K : PySem.W.Frag) : List V → Hp → VK → Prop := fun xs H Q => ∃ p ys, xs = [V.ref p] ∧ (SqL K H p ys ∨ SqT K H p ys) ∧ Q (V.int (ys.length : Nat)) H
theorem call_lenK {X : Cx} : CallR X (.builtin "len") (rLenK X.K) := call_len_seq
theorem call_isiR {X : Cx} : CallR X (.builtin "isinstance") (rIsi X.K) := call_isi
def inLH (o : Option Int) (lo hi : Int) : Bool := match o with
  | some i => decide (lo ≤ i ∧ i ≤ hi)
  | none => false
def spIsIntL (K : PySem.W.Frag) : Sp := fun vs H Q _ => ∃ (v : V) (lo hi : Int) (o : Option Int), vs = [v, .int lo, .int hi] ∧ IntOr K H v o ∧ Q (.bl (inLH o lo hi)) H
def spStnL : Sp := fun vs H Q _ => ∃ (l : Addr) (v : V) (d : PyData) (js : List (Str × Str)), vs = [.ref l, v] ∧ LstAt H l (js.map eE) ∧ Sh H v d ∧ js.length ≤ 100 ∧ ∀ H', Same H H' → Q (.bl (stnD js.length d).isSome) H'
def spEvL : Sp := fun vs H Q _ => ∃ (l : Addr) (v : V) (d : PyData) (js : List (Str × Str)), vs = [.ref l, v] ∧ LstAt H l (js.map eE) ∧ Sh H v d ∧ js.length ≤ 100 ∧ d.weight ≤ 1000000 ∧ ∀ H', Same H H' → Q (.bl (evD (js.map (·.1)) d).isSome) H'
def twoD : PyData → Bool
  | .tuple ds => decide (ds.length = 2)
  | _ => false
theorem two_is {d : PyData} (h : twoD d = true) : ∃ a b, d = .tuple [a, b] := by
  cases d with
  | tuple ds =>
    have z : ds.length = 2 := of_decide_eq_true h
    match ds, z with
    | [a, b], _ => exact ⟨a, b, rfl⟩
  | none => cases h
  | bool b => cases h
  | int b => cases h
  | str b => cases h
  | list b => cases h
  | dict b => cases h
theorem two_of {d : PyData} (h : (pairI d).isSome = true) : twoD d = true := by
  unfold pairI at h
  split at h
  · rfl
  · cases h
/-- the standings behind the events of what may be a row -/
def rowS (names : List Str) : Stn → List PyData → Option (List Stn)
  | _, [] => some []
  | s, d :: r => match evD names d with
    | some e => if canS names s e = true then (rowS names (behS names s e) r).map (behS names s e :: ·) else none
    | none => none
def rowD (names : List Str) : PyData → Option (List Stn)
  | .tuple ds => if ds.length ≤ 24 then rowS names (List.replicate names.length (0, 0)) ds else none
  | _ => none
def rowE (names : List Str) : Stn → List (Str × Str) → List Stn
  | _, [] => []
  | s, e :: r => behS names s e :: rowE names (behS names s e) r
def RowOk (names : List Str) (s : Stn) (es : List (Str × Str)) : Prop := rowS names s (es.map eE) = some (rowE names s es)
theorem rowS_ev {names : List Str} : ∀ {ds : List PyData} {s : Stn}, (rowS names s ds).isSome = true → ∀ d ∈ ds, (evD names d).isSome = true
  | [], _, _, d, hd => nomatch hd
  | e :: r, s, h, d, hd => by
    unfold rowS at h
    cases c : evD names e with
    | none =>
      rw [c] at h
      cases h
    | some x =>
      rw [c] at h
      rcases List.mem_cons.mp hd with rfl | hd
      · rw [c]
        rfl
      · dsimp only at h
        by_cases p : canS names s x = true
        · rw [if_pos p, Option.isSome_map] at h
          exact rowS_ev h d hd
        · rw [if_neg p] at h
          cases h
theorem evD_eE {names : List Str} {d : PyData} {e : Str × Str} (h : evD names d = some e) : d = eE e ∧ (e.1 = "begin" ∨ e.1 = "end") ∧ e.2 ∈ names := by
  unfold evD at h
  split at h
  · rename_i x y
    by_cases c : (x = "begin" ∨ x = "end") ∧ y ∈ names
    · rw [if_pos c] at h
      cases h
      exact ⟨rfl, c⟩
    · rw [if_neg c] at h
      cases h
  · cases h
theorem evD_of {names : List Str} {e : Str × Str} (h : (e.1 = "begin" ∨ e.1 = "end") ∧ e.2 ∈ names) : evD names (eE e) = some e := if_pos h
theorem sh_ev {H : Hp} {v : V} {e : Str × Str} (h : Sh H v (eE e)) : Fz H v (eE e) := by
  obtain ⟨a, xs, rfl, ha, t⟩ := sh_tup h
  obtain ⟨x, y, rfl, s1, s2⟩ := t.two
  obtain rfl := sh_str s1
  obtain rfl := sh_str s2
  exact .tup ha (.cons (.str _) (.cons (.str _) .nil))
end GD
namespace K01
open PySem PySem.Spec PyProof.Rows L2 GD
-- abbrev sIsIntL : Stmt := top 61
-- abbrev sIsStnL : Stmt := top 68
-- abbrev sIsEvL : Stmt := top 69
section
variable {P : Program} {w : World} {K : PySem.W.Frag} {mg : Str → Option Value} {base : Heap}
abbrev NSl : List Str := ["_law_jobs_here", "_law_value", "_law_pair", "_law_begun", "_law_ended"]
end
end K01
namespace GD
open PySem PySem.Spec PyProof.Rows L2
def spIsRowL : Sp := fun vs H Q _ => ∃ (l : Addr) (v : V) (d : PyData) (js : List (Str × Str)), vs = [.ref l, v] ∧ LstAt H l (js.map eE) ∧ Sh H v d ∧ js.length ≤ 10 ∧ d.weight ≤ 1000000 ∧ ∀ H', Same H H' → Q (.bl (rowD (js.map (·.1)) d).isSome) H'
/-- the standings behind the events of a row -/
def spStnsL : Sp := fun vs H Q _ => ∃ (l : Addr) (v : V) (es : List (Str × Str)) (js : List (Str × Str)), vs = [.ref l, v] ∧ LstAt H l (js.map eE) ∧ Fz H v (.tuple (es.map eE)) ∧ js.length ≤ 10 ∧ es.length ≤ 100 ∧ (∀ e ∈ es, e.2 ∈ js.map (·.1)) ∧
  ∀ v' H', Same H H' → Fz H' v' (.tuple ((rowE (js.map (·.1)) (List.replicate js.length (0, 0)) es).map eS)) → Q v' H'
/-- a drawn row -/
def spRowL : Sp := fun vs H Q _ => ∃ (a l : Addr) (most : Nat) (js : List (Str × Str)) (z : Int), vs = [.ref a, .ref l, .int most] ∧ PotAt H a z ∧ z ≤ 50000 ∧ l ≠ a ∧ LstAt H l (js.map eE) ∧ js.length ≤ 10 ∧ most ≤ 40 ∧ 1 ≤ js.length ∧
  ∀ v es H', PotAt H' a (z + 50) → Keep a H H' → Fz H' v (.tuple (es.map eE)) → es.length ≤ most → RowOk (js.map (·.1)) (List.replicate js.length (0, 0)) es → Q v H'
theorem behS_lenE {names : List Str} {s : Stn} {e : Str × Str} (h : e.2 ∈ names) (hs : s.length = names.length) : (behS names s e).length = names.length := by
  rw [behS_len (by rw [hs]; exact ixOf_lt h), hs]
theorem rowE_len (names : List Str) : ∀ (es : List (Str × Str)) (s : Stn), (rowE names s es).length = es.length
  | [], _ => rfl
  | e :: r, s => by rw [rowE, List.length_cons, rowE_len names r, List.length_cons]
end GD
namespace K01
open PySem PySem.Spec PyProof.Rows L2 GD
-- abbrev sIsRowL : Stmt := top 73
-- abbrev sStnsL : Stmt := top 74
-- abbrev sRowL : Stmt := top 76
section
variable {P : Program} {w : World} {K : PySem.W.Frag} {mg : Str → Option Value} {base : Heap}
abbrev NEl : List Str := ["_law_jobs_here", "_law_value", "_law_part", "_law_name", "_law_manner"]
end
end K01
namespace GD
open PySem PySem.Spec PyProof.Rows L2
theorem ShAll.at : ∀ {H : Hp} {xs : List V} {ds : List PyData} {i : Nat} {d : PyData}, ShAll H xs ds → ds[i]? = some d → ∃ x, xs[i]? = some x ∧ Sh H x d
  | _, _, _, _, _, .nil, h => by simp at h
  | _, _, _, 0, _, .cons a t, h => by
    simp at h
    subst h
    exact ⟨_, rfl, a⟩
  | _, _, _, i + 1, _, .cons a t, h => by
    obtain ⟨x, h1, h2⟩ := ShAll.at (i := i) t (by simpa using h)
    exact ⟨x, by simpa using h1, h2⟩
theorem event_be {names : List Str} {e : Str × Str} (h : e ∈ evs names) : e.1 = "begin" ∨ e.1 = "end" := by
  unfold evs at h
  obtain ⟨n, _, h⟩ := List.mem_flatMap.mp h
  simp only [List.mem_cons, List.not_mem_nil, or_false] at h
  rcases h with rfl | rfl
  · exact .inl rfl
  · exact .inr rfl
theorem rowS_step {names : List Str} {s : Stn} {ds : List PyData} {i : Nat} {e : Str × Str} (h : ds[i]? = some (eE e)) (he : (e.1 = "begin" ∨ e.1 = "end") ∧ e.2 ∈ names) : (rowS names s (ds.drop i)).isSome = (canS names s e && (rowS names (behS names s e) (ds.drop (i + 1))).isSome) := by
  obtain ⟨hi, hd⟩ := List.getElem?_eq_some_iff.mp h
  rw [List.drop_eq_getElem_cons hi, hd, rowS, evD_of he]
  dsimp only
  by_cases c : canS names s e = true
  · rw [if_pos c, c, Option.isSome_map, Bool.true_and]
  · rw [if_neg c, Bool.eq_false_iff.mpr c, Bool.false_and]
    rfl
/-- the standing behind all of some events -/
def endS (names : List Str) : Stn → List (Str × Str) → Stn
  | s, [] => s
  | s, e :: r => endS names (behS names s e) r
theorem endS_snoc (names : List Str) : ∀ (es : List (Str × Str)) (s : Stn) (e : Str × Str), endS names s (es ++ [e]) = behS names (endS names s es) e
  | [], _, _ => rfl
  | x :: r, s, e => by rw [List.cons_append, endS, endS_snoc names r, endS]
theorem rowE_next (names : List Str) : ∀ (es : List (Str × Str)) (s : Stn) (e : Str × Str), rowE names s (es ++ [e]) = rowE names s es ++ [behS names (endS names s es) e]
  | [], _, _ => rfl
  | x :: r, s, e => by rw [List.cons_append, rowE, rowE_next names r, rowE, endS, List.cons_append]
theorem rowOk_snoc {names : List Str} : ∀ {es : List (Str × Str)} {s : Stn} {e : Str × Str}, RowOk names s es → (e.1 = "begin" ∨ e.1 = "end") ∧ e.2 ∈ names → canS names (endS names s es) e = true → RowOk names s (es ++ [e])
  | [], s, e, _, he, hc => by
    unfold RowOk
    show rowS names s [eE e] = some [behS names s e]
    rw [rowS, evD_of he]
    dsimp only
    rw [if_pos (show canS names s e = true from hc)]
    rfl
  | x :: r, s, e, h, he, hc => by
    unfold RowOk at h ⊢
    rw [List.map_cons, rowS] at h
    rw [List.cons_append, List.map_cons, rowS]
    cases c : evD names (eE x) with
    | none =>
      rw [c] at h
      cases h
    | some y =>
      obtain ⟨e1, hx⟩ := evD_eE c
      have exy : x = y := by
        have z := e1
        unfold eE at z
        have := PyData.tuple.inj z
        simp only [List.cons.injEq, PyData.str.injEq, and_true] at this
        exact Prod.ext this.1 this.2
      subst exy
      rw [c] at h
      dsimp only at h ⊢
      by_cases p : canS names s x = true
      · rw [if_pos p] at h ⊢
        rw [rowE] at h ⊢
        cases c2 : rowS names (behS names s x) (r.map eE) with
        | none =>
          rw [c2] at h
          cases h
        | some l =>
          rw [c2] at h
          have z := (List.cons.inj (Option.some.inj h)).2
          have ih := rowOk_snoc (es := r) (s := behS names s x) (e := e) (by unfold RowOk; rw [c2, z]) he hc
          unfold RowOk at ih
          rw [ih]
          rfl
      · rw [if_neg p] at h
        cases h
end GD
namespace K01
open PySem PySem.Spec PyProof.Rows L2 GD
section
variable {P : Program} {w : World} {K : PySem.W.Frag} {mg : Str → Option Value} {base : Heap}
abbrev NIr : List Str := ["_law_jobs_here", "_law_value", "_law_event", "_law_standing"]
end
end K01
namespace GD
open PySem PySem.Spec PyProof.Rows L2
/-- a Shop with its fields told -/
def ShopF (C : Addr) (H : Hp) (s b a : Addr) (names mans : List Str) (sts : List Stk) : Prop :=
  ∃ (dx j m : Addr), H s = some (.ins C dx (s4 b j m a)) ∧ TupF H j (names.map V.str) ∧ H m = some (.tup (mans.map V.str)) ∧ Fz H (.ref a) (.tuple (sts.map eK))
def spShopIN (CB CS : Addr) : Sp := fun vs H Q _ => ∃ (s dx b a : Addr) (x : Str) (names : List Str) (ml : List (Str × Str)) (fs : List Fact) (sts : List Stk), vs = [.ref s, .ref b, .ref a] ∧ H s = some (.ins CS dx []) ∧ BookAt CB H b x names ml fs ∧ Fz H (.ref a) (.tuple (sts.map eK)) ∧
  sts.length ≤ 12 ∧ (∀ st ∈ sts, ∃ size, StkOk (names.map (manOf ml)) size st) ∧ (∀ m ∈ names.map (manOf ml), m ∈ man4) ∧ names.length ≤ 4 ∧ ∀ H', Keep s H H' → ShopF CS H' s b a names (names.map (manOf ml)) sts → Q .non H'
/-- a Shop, and the Book that it keeps -/
def ShopB (CB CS : Addr) (H : Hp) (s : Addr) (names : List Str) (ml : List (Str × Str)) (sts : List Stk) : Prop :=
  ∃ (dx b j m a : Addr) (x : Str) (fs : List Fact), H s = some (.ins CS dx (s4 b j m a)) ∧ TupF H j (names.map V.str) ∧ H m = some (.tup ((names.map (manOf ml)).map V.str)) ∧ Fz H (.ref a) (.tuple (sts.map eK)) ∧ BookAt CB H b x names ml fs
theorem ShopB.at {CB CS : Addr} {H : Hp} {s : Addr} {names : List Str} {ml : List (Str × Str)} {sts : List Stk} (h : ShopB CB CS H s names ml sts) : ShopAt CS H s names (names.map (manOf ml)) sts := by
  obtain ⟨dx, b, j, m, a, x, fs, h1, h2, h3, h4, _⟩ := h
  exact ⟨dx, b, j, m, a, h1, h2, h3, h4⟩
theorem ShopB.ext {CB CS : Addr} {H H' : Hp} {s : Addr} {names : List Str} {ml : List (Str × Str)} {sts : List Stk} (x : LamX.ExtN H H') (h : ShopB CB CS H s names ml sts) : ShopB CB CS H' s names ml sts := by
  obtain ⟨dx, b, j, m, a, t, fs, h1, h2, h3, h4, h5⟩ := h
  exact ⟨dx, b, j, m, a, t, fs, x _ _ h1 (fun ps z => by cases z), h2.ext x, x _ _ h3 (fun ps z => by cases z), h4.mv (ext_tups x), h5.ext x⟩
theorem made_shop {CB CS : Addr} {H : Hp} {b t : Addr} {x : Str} {names : List Str} {ml : List (Str × Str)} {fs : List Fact} {sts : List Stk} {Q : Addr → Hp → Prop}
    (hb : BookAt CB H b x names ml fs) (ft : Fz H (.ref t) (.tuple (sts.map eK))) (l12 : sts.length ≤ 12) (ok : ∀ st ∈ sts, ∃ size, StkOk (names.map (manOf ml)) size st) (m4 : ∀ m ∈ names.map (manOf ml), m ∈ man4) (l4 : names.length ≤ 4)
    (q : ∀ r H', Same H H' → H r = none → ShopB CB CS H' r names ml sts → Q r H') :
    ∀ r dr, H r = none → H dr = none → dr ≠ r → spShopIN CB CS (V.ref r :: ([.ref b, .ref t] ++ [])) (upd (upd H dr (.own r)) r (.ins CS dr [])) (fun v H2 => v = .non ∧ Q r H2) E0 := by
  intro r dr nr ndr ne
  have s3 : Same H (upd (upd H dr (.own r)) r (.ins CS dr [])) := same_upd (same_new ndr) nr
  refine ⟨r, dr, b, t, x, names, ml, fs, sts, rfl, upd_same, hb.same s3, ft.same s3, l12, ok, m4, l4, fun H' k' ⟨dx', j', m', e1, e2, e3, e4⟩ => ⟨rfl, ?_⟩⟩
  have s4' := made_same nr ndr k'
  exact q r H' s4' nr ⟨dx', b, j', m', t, x, fs, e1, e2, e3, e4, hb.same s4'⟩
end GD
namespace K01
open PySem PySem.Spec PyProof.Rows L2 GD
section
variable {P : Program} {w : World} {K : PySem.W.Frag} {mg : Str → Option Value} {base : Heap}
end
end K01
namespace K01
open PySem PySem.Spec PyProof.Rows L2 GD
section
variable {P : Program} {w : World} {K : PySem.W.Frag} {mg : Str → Option Value} {base : Heap}
abbrev NSs : List Str := ["_law_jobs_here", "_law_row_here", "_law_found", "_law_standing", "_law_event"]
abbrev NRl : List Str := ["_law_pot_here", "_law_jobs_here", "_law_most", "_law_row_here", "_law_standing", "_law_lap"]
end
end K01
/-! rows step by step, and what any data tells of a standing -/
namespace GD
open PySem PySem.Spec PyProof.Rows L2
/-- the standing behind what may be an event -/
def stepD (names : List Str) (s : Stn) (d : PyData) : Option Stn := match evD names d with
  | some e => if canS names s e = true then some (behS names s e) else none
  | none => none
theorem rowS_cons (names : List Str) (s : Stn) (d : PyData) (r : List PyData) : rowS names s (d :: r) = match stepD names s d with
    | some s' => (rowS names s' r).map (s' :: ·)
    | none => none := by
  rw [rowS, stepD]
  cases evD names d with
  | none => rfl
  | some e =>
    dsimp only
    by_cases c : canS names s e = true
    · rw [if_pos c, if_pos c]
    · rw [if_neg c, if_neg c]
theorem index_strT {K : PySem.W.Frag} {H : Hp} {l : Addr} {names : List Str} {n : Str} {Q : VK} (hl : SqT K H l (names.map V.str)) (h : n ∈ names) (k : Q (.int (ixOf names n : Nat)) H) : rIndexT K (.ref l) [.str n] H Q :=
  ⟨l, names, n, rfl, rfl, hl, h, k⟩
theorem stepD_ok {names : List Str} {s : Stn} {d : PyData} {s' : Stn} {n : Int} (h : stepD names s d = some s') (hs : s.length = names.length) (hb : Bd n s) : Bd (n + 1) s' ∧ s'.length = names.length := by
  unfold stepD at h
  split at h
  · rename_i e he
    obtain ⟨_, _, hin⟩ := evD_eE he
    by_cases c : canS names s e = true
    · rw [if_pos c] at h
      cases h
      have hi : ixOf names e.2 < s.length := by rw [hs]; exact ixOf_lt hin
      exact ⟨bd_beh hb hi c, by rw [behS_len hi, hs]⟩
    · rw [if_neg c] at h
      cases h
  · cases h
theorem can_iff {names : List Str} {s : Stn} {e : Str × Str} {p : Int × Int} (hb : Bd 40 s) (hp : s[ixOf names e.2]? = some p) : canS names s e = okP (bumpP e.1 p) := by
  have ok : ∀ q ∈ s, okP q = true := fun q hq => by
    have := hb q hq
    unfold okP
    rw [Bool.and_eq_true, decide_eq_true_eq, decide_eq_true_eq]
    omega
  unfold canS behS
  rw [List.getD_eq_getElem?_getD, hp]
  show List.all _ okP = okP (bumpP e.1 p)
  rw [List.all_append, List.all_append, List.all_eq_true.mpr fun q hq => ok q (List.mem_of_mem_take hq), List.all_eq_true.mpr fun q hq => ok q (List.mem_of_mem_drop hq)]
  simp
theorem allD_pairI : ∀ {ds : List PyData} {s : Stn}, allD pairI ds = some s → ds = s.map eP ∧ Bd 40 s
  | [], s, h => by
    cases h
    exact ⟨rfl, fun p hp => nomatch hp⟩
  | d :: r, s, h => by
    rw [allD] at h
    split at h
    · rename_i x xs e1 e2
      cases h
      obtain ⟨rfl, hb⟩ := allD_pairI e2
      unfold pairI at e1
      split at e1
      · split at e1
        · rename_i i j ei ej
          by_cases c : 0 ≤ j ∧ j ≤ i ∧ i ≤ 40
          · rw [if_pos c] at e1
            cases e1
            rw [intD_some ei, intD_some ej]
            refine ⟨rfl, fun p hp => ?_⟩
            rcases List.mem_cons.mp hp with rfl | hp
            · exact c
            · exact hb p hp
          · rw [if_neg c] at e1
            cases e1
        · cases e1
      · cases e1
    · cases h
theorem stnD_eS {k : Nat} {d : PyData} {s : Stn} (h : stnD k d = some s) : d = eS s ∧ s.length = k ∧ Bd 40 s := by
  unfold stnD at h
  split at h
  · rename_i ds
    by_cases c : ds.length = k
    · rw [if_pos c] at h
      obtain ⟨rfl, hb⟩ := allD_pairI h
      exact ⟨rfl, by rw [← c, List.length_map], hb⟩
    · rw [if_neg c] at h
      cases h
  · cases h
theorem sh_pair {H : Hp} {v : V} {p : Int × Int} (h : Sh H v (eP p)) : Fz H v (eP p) := by
  obtain ⟨a, xs, rfl, ha, t⟩ := sh_tup h
  obtain ⟨x, y, rfl, s1, s2⟩ := t.two
  obtain rfl := sh_int s1
  obtain rfl := sh_int s2
  exact .tup ha (.cons (.int _) (.cons (.int _) .nil))
theorem sh_pairs {H : Hp} : ∀ {s : Stn} {xs : List V}, ShAll H xs (s.map eP) → FzAll H xs (s.map eP)
  | [], xs, h => by
    cases h
    exact .nil
  | p :: r, xs, h => by
    cases h with
    | cons a t => exact .cons (sh_pair a) (sh_pairs t)
theorem sh_stn {H : Hp} {v : V} {s : Stn} (h : Sh H v (eS s)) : Fz H v (eS s) := by
  obtain ⟨a, xs, rfl, ha, t⟩ := sh_tup h
  exact .tup ha (sh_pairs t)
theorem bd_small {s : Stn} (h : Bd 40 s) : Small s := fun p hp => by
  have := h p hp
  omega
end GD
namespace GD
open PySem PySem.Spec PyProof.Rows L2
/-- the program's standing behind any data, or None -/
def spBehP (CB : Addr) : Sp := fun vs H Q _ => ∃ (b : Addr) (x : Str) (names : List Str) (ml : List (Str × Str)) (fs : List Fact) (sv ev : V) (s : Stn) (d : PyData), vs = [.ref b, sv, ev] ∧ BookAt CB H b x names ml fs ∧ Fz H sv (eS s) ∧ Sh H ev d ∧ s.length = names.length ∧ names.length ≤ 10 ∧ Bd 39 s ∧
  (stepD names s d = none → ∀ H', Same H H' → Q .non H') ∧ ∀ s', stepD names s d = some s' → ∀ v H', Same H H' → Fz H' v (eS s') → Q v H'
/-- the program's standings behind any data's events, or None -/
def spRowP (CB : Addr) : Sp := fun vs H Q _ => ∃ (b : Addr) (x : Str) (names : List Str) (ml : List (Str × Str)) (fs : List Fact) (v : V) (d : PyData), vs = [.ref b, v] ∧ BookAt CB H b x names ml fs ∧ Sh H v d ∧ names.length ≤ 10 ∧
  (rowD names d = none → ∀ H', Same H H' → Q .non H') ∧ ∀ ss, rowD names d = some ss → ∀ v' H', Same H H' → Fz H' v' (.tuple (ss.map eS)) → Q v' H'
end GD
namespace K01
open PySem PySem.Spec PyProof.Rows L2 GD
-- abbrev pStandings : Stmt := top 46
-- abbrev pRowStn : Stmt := top 47
-- abbrev pBehind : Stmt := top 48
section
variable {P : Program} {w : World} {K : PySem.W.Frag} {mg : Str → Option Value} {base : Heap}
abbrev NBp : List Str := ["book", "standing", "event", "word", "job", "at", "begun", "ended", "pair"]
end
end K01
namespace GD
open PySem PySem.Spec PyProof.Rows L2
theorem cut_vs_end (ws : List V) (a : Nat) : cutV ws (some (a : Int)) none = ws.drop a := by
  unfold cutV
  rw [HT.sIx_nat, HT.sIx_none, drop_min, List.take_of_length_le]
  rw [List.length_drop]
  by_cases h : a ≤ ws.length
  · rw [Nat.min_eq_left h]
    exact Nat.le_refl _
  · omega
theorem drop_next {α : Type} {ds : List α} {i : Nat} {d : α} (h : ds[i]? = some d) : ds.drop i = d :: ds.drop (i + 1) := by
  obtain ⟨hi, rfl⟩ := List.getElem?_eq_some_iff.mp h
  exact List.drop_eq_getElem_cons hi
/-- the standings behind any data's events, or BadRow with it -/
def spStnP (CB CR : Addr) : Sp := fun vs H Q E => ∃ (b : Addr) (x : Str) (names : List Str) (ml : List (Str × Str)) (fs : List Fact) (v : V) (d : PyData), vs = [.ref b, v] ∧ BookAt CB H b x names ml fs ∧ Sh H v d ∧ names.length ≤ 10 ∧
  (rowD names d = none → ∀ e H', Same H H' → H e = none → H' e = some (.xd [(("value" : Str), v)]) → E (.ref CR) (some e) H') ∧ ∀ ss, rowD names d = some ss → ∀ v' H', Same H H' → Fz H' v' (.tuple (ss.map eS)) → Q v' H'
/-- level by any number and any standing -/
def spLevP (K : PySem.W.Frag) (CS CN CT : Addr) : Sp := fun vs H Q E => ∃ (s : Addr) (v y : V) (o : Option Int) (d : PyData) (names mans : List Str) (sts : List Stk), vs = [.ref s, v, y] ∧ ShopAt CS H s names mans sts ∧ IntOr K H v o ∧ Sh H y d ∧ names.length ≤ 10 ∧ (∀ st ∈ sts, st.2.length = names.length) ∧
  (inR o (sts.length : Nat) = false → ∀ e H', Same H H' → H e = none → H' e = some (.xd [(("value" : Str), v)]) → E (.ref CN) (some e) H') ∧
  (inR o (sts.length : Nat) = true → stnD names.length d = none → ∀ e H', Same H H' → H e = none → H' e = some (.xd [(("value" : Str), y)]) → E (.ref CT) (some e) H') ∧
  ∀ (i : Nat) (st : Stk) (sn : Stn), o = some (i : Int) → sts[i]? = some st → stnD names.length d = some sn → ∀ H', Same H H' → Q (.int (levelS st sn)) H'
/-- lets by any standing -/
def spLetP (CS CT : Addr) : Sp := fun vs H Q E => ∃ (s : Addr) (y : V) (d : PyData) (names mans : List Str) (sts : List Stk), vs = [.ref s, y] ∧ ShopAt CS H s names mans sts ∧ Sh H y d ∧ names.length ≤ 10 ∧ sts.length ≤ 12 ∧ (∀ st ∈ sts, st.2.length = names.length) ∧
  (stnD names.length d = none → ∀ e H', Same H H' → H e = none → H' e = some (.xd [(("value" : Str), y)]) → E (.ref CT) (some e) H') ∧
  ∀ sn, stnD names.length d = some sn → ∀ H', Same H H' → Q (.bl (letsS sts sn)) H'
/-- what stop tells of standings, from the i-th on -/
def stopL (sts : List Stk) : Nat → List Stn → PyData
  | _, [] => .none
  | i, s :: r => if belowN sts s = [] then stopL sts (i + 1) r else .tuple [.int (i : Nat), .tuple ((belowN sts s).map fun i => .int (i : Nat))]
def spStopP (CB CS CR : Addr) : Sp := fun vs H Q E => ∃ (s : Addr) (v : V) (d : PyData) (names : List Str) (ml : List (Str × Str)) (sts : List Stk), vs = [.ref s, v] ∧ ShopB CB CS H s names ml sts ∧ Sh H v d ∧ names.length ≤ 10 ∧ sts.length ≤ 12 ∧ (∀ st ∈ sts, st.2.length = names.length) ∧
  (rowD names d = none → ∀ e H', Same H H' → H e = none → H' e = some (.xd [(("value" : Str), v)]) → E (.ref CR) (some e) H') ∧ ∀ ss, rowD names d = some ss → ∀ v' H', Same H H' → Fz H' v' (stopL sts 0 ss) → Q v' H'
theorem rowS_all {names : List Str} : ∀ {ds : List PyData} {s : Stn} {ss : List Stn} {n : Int}, rowS names s ds = some ss → s.length = names.length → Bd n s → n + (ds.length : Nat) ≤ 40 → ∀ t ∈ ss, Bd 40 t ∧ t.length = names.length
  | [], s, ss, n, h, hs, hb, hn => by
    cases h
    exact fun t ht => nomatch ht
  | d :: r, s, ss, n, h, hs, hb, hn => by
    rw [rowS_cons] at h
    cases c : stepD names s d with
    | none =>
      rw [c] at h
      cases h
    | some s' =>
      rw [c] at h
      have ok := stepD_ok c hs hb
      dsimp only at h
      cases c2 : rowS names s' r with
      | none =>
        rw [c2] at h
        cases h
      | some r' =>
        rw [c2] at h
        cases h
        rw [List.length_cons] at hn
        have ih := rowS_all c2 ok.2 ok.1 (by omega)
        intro t ht
        rcases List.mem_cons.mp ht with rfl | ht
        · exact ⟨ok.1.le (by omega), ok.2⟩
        · exact ih t ht
theorem rowD_all {names : List Str} {d : PyData} {ss : List Stn} (h : rowD names d = some ss) : ∀ t ∈ ss, Bd 40 t ∧ t.length = names.length := by
  unfold rowD at h
  split at h
  · rename_i ds
    by_cases c : ds.length ≤ 24
    · rw [if_pos c] at h
      exact rowS_all h List.length_replicate bd_first (by omega)
    · rw [if_neg c] at h
      cases h
  · cases h
theorem rowS_len {names : List Str} : ∀ {ds : List PyData} {s : Stn} {ss : List Stn}, rowS names s ds = some ss → ss.length = ds.length
  | [], s, ss, h => by
    cases h
    rfl
  | d :: r, s, ss, h => by
    rw [rowS_cons] at h
    cases c : stepD names s d with
    | none =>
      rw [c] at h
      cases h
    | some s' =>
      rw [c] at h
      dsimp only at h
      cases c2 : rowS names s' r with
      | none =>
        rw [c2] at h
        cases h
      | some r' =>
        rw [c2] at h
        cases h
        rw [List.length_cons, List.length_cons, rowS_len c2]
theorem rowD_len {names : List Str} {d : PyData} {ss : List Stn} (h : rowD names d = some ss) : ss.length ≤ 24 := by
  unfold rowD at h
  split at h
  · rename_i ds
    by_cases c : ds.length ≤ 24
    · rw [if_pos c] at h
      rw [rowS_len h]
      exact c
    · rw [if_neg c] at h
      cases h
  · cases h
end GD
namespace K01
open PySem PySem.Spec PyProof.Rows L2 GD
section
variable {P : Program} {w : World} {K : PySem.W.Frag} {mg : Str → Option Value} {base : Heap}
abbrev NRsP : List Str := ["book", "value", "passed", "event", "standing"]
end
end K01
namespace GD
open PySem PySem.Spec PyProof.Rows L2
theorem s4_book (k j m a : Addr) : (s4 k j m a).lookup ("book" : Str) = some (.ref k) := by
  rw [s4, lookup_putF, if_neg (by decide +kernel), s3, lookup_putF, if_neg (by decide +kernel), s2, lookup_putF, if_neg (by decide +kernel), s1, lookup_putF, if_pos rfl]
end GD
namespace K01
open PySem PySem.Spec PyProof.Rows L2 GD
section
variable {P : Program} {w : World} {K : PySem.W.Frag} {mg : Str → Option Value} {base : Heap}
abbrev NStp : List Str := ["self", "row", "number", "standing", "short"]
end
end K01
namespace GD
open PySem PySem.Spec PyProof.Rows L2 LamX
section
variable {P : Program} {w : World} {K : PySem.W.Frag} {mg : Str → Option Value} {base : Heap}
/-- fnG_of, the code object told -/
theorem fnG_lk {x qual : Str} {st : Stmt} {f c : Addr} {N ps : List Str} {k : Nat} {sp : Sp} {oc kV doc pm ct : Value} {od an : Option Addr} {osl : Array (Option Value)}
    (lk : K.lookup f = some ⟨oc, od, .func (PySem.W.fnOf x qual (defArgs st) (defBody st) (defScope st) .none kV doc pm an (.ref c) ct), osl⟩) (hcd : PySem.W.codeIn K (.ref c) qual = true) (S : FnScope N ps (defScope st)) (len : ∀ vs H Q E, sp vs H Q E → vs.length = ps.length)
    (hbody : ∀ (A : Around) (outer : List Env) (s : Shared) (H : Hp) (vs : List V) (Q : VK), A.guards = some [] → Room k (A.deeper (envOfC qual (defScope st) s.heap.objs.size f (.ref c))) → sp vs H Q E0 →
      ∃ t, PSs (cxOf CX0 P w K mg base N qual (defScope st) f (.ref c) A outer s H E0).nox (defBody st) t ∧ t { nx := fun _ H' => Q .non H', rt := Q } (L2.start N vs) H) :
    FnG P w K mg base (k + 1) f (PySem.W.fnOf x qual (defArgs st) (defBody st) (defScope st) .none kV doc pm an (.ref c) ct) ps sp := by
  refine ⟨len, fun A outer s H us vs Q hgu hr e0 hb r hsp => ?_⟩
  have KX : K.In s.heap := e0.mod.kin.keeps fun b o e => (e0.bs b o e).1
  have lim : s.heap.NoLimit := e0.mod.nolimit.keeps fun b o e => (e0.bs b o e).1
  have look : ∀ y ∈ ps.zip us, (defScope st).names.lookup y.1 = some .local ∨ ((defScope st).names.lookup y.1 = some .cell ∧ ((cellsFrom (s.heap.objs.size + 1) (defScope st).names []).lookup y.1).isSome = true) := by
    rintro ⟨n, v⟩ hy
    rcases S.par n (List.of_mem_zip hy).1 with q | q
    · exact .inl q
    · exact .inr ⟨q, PySem.W.cellsFrom_some _ _ _ (.inl q)⟩
  refine codeAny_call_function hr.depth (KX _ _ lk) rfl S.co S.gen rfl (PySem.W.codeRec_of KX hcd) (hb _ _ _ _ ?_)
  refine wpAny_newFunctionEnv_cells S.kind look fun env he s1 x => ?_
  subst he
  refine ⟨lim.keeps x.toInCall.keep, codeAny_func ?_⟩
  obtain ⟨t, h0, hq⟩ := hbody A outer s H vs Q hgu (hr.deeper _) hsp
  have I := inv_start (CX := CX0) (E := E0) (P := P) (w := w) (N := N) (cd := .ref c) S hr.hd e0 (len _ _ _ _ hsp) r x
  refine wpAny_mono (h0.nox.run [] s1 (L2.start N vs) H _ I hq) (fun fl s' hs => ?_) fun e s' hs => hs
  cases fl with
  | ret u =>
    obtain ⟨v, σ', H', J, rv, q⟩ := hs
    exact ⟨v, H', J.os, J.bare, J.base, J.hok, rv, q⟩
  | next =>
    obtain ⟨σ', H', J, q⟩ := hs
    exact ⟨V.non, H', J.os, J.bare, J.base, J.hok, rfl, q⟩
  | brk =>
    obtain ⟨_, _, _, q⟩ := hs
    exact q.elim
  | cont =>
    obtain ⟨_, _, _, q⟩ := hs
    exact q.elim
end
/-! stocks of small numbers are shown in few signs -/
def okZ (i : Int) : Bool := decide ((PyData.int i).shown.length ≤ 13) && (PyData.int i).showable && decide ((PyData.int i).weight ≤ 10)
theorem okZ_all : ∀ i ∈ (List.range 101).map (fun n : Nat => (n : Int) - 50), okZ i = true := by decide +kernel
theorem okZ_of {i : Int} (h1 : -50 ≤ i) (h2 : i ≤ 50) : (PyData.int i).shown.length ≤ 13 ∧ (PyData.int i).showable = true ∧ (PyData.int i).weight ≤ 10 := by
  obtain ⟨n, hn⟩ := Int.eq_ofNat_of_zero_le (show 0 ≤ i + 50 by omega)
  have z := okZ_all i (List.mem_map.mpr ⟨n, List.mem_range.mpr (by omega), by show (n : Int) - 50 = i; omega⟩)
  unfold okZ at z
  simp only [Bool.and_eq_true, decide_eq_true_eq] at z
  exact ⟨z.1.1, z.1.2, z.2⟩
theorem short_int {i : Int} (h1 : -50 ≤ i) (h2 : i ≤ 50) : Short (.int i) 10 := by
  obtain ⟨a, b, c⟩ := okZ_of h1 h2
  exact ⟨b, by rw [PyData.intsShort, decide_eq_true a], c, by rw [PyData.canLay0]⟩
theorem nice_short {d : PyData} (h : Short d 100000) (hd : d.depth ≤ 20) : NiceD d := by
  refine ⟨h.sh, hd, Nat.le_trans (shown_le13 (d := d) ?_ h.is) (by decide)⟩
  show (PyData.canLay0 _ && decide (PyData.depth _ ≤ 64) && decide (PyData.weight _ ≤ 2 ^ 20)) = true
  rw [h.ly, decide_eq_true (show d.depth ≤ 64 by omega), decide_eq_true (show d.weight ≤ 2 ^ 20 from Nat.le_trans h.wt (by decide))]
  rfl
end GD
namespace GD
open PySem PySem.Spec PyProof.Rows L2
theorem slice_shT {K : PySem.W.Frag} {H : Hp} {nb : Addr} {xs : List V} {d : PyData} {r : List PyData} {Q : VK} (hn : H nb = some (.tup xs)) (sh : ShAll H xs (d :: r)) (k : ∀ v H', Same H H' → Sh H' v (.tuple r) → Q v H') : rSlA K (.ref nb) (some 1) none H Q := by
  have lx : xs.length = r.length + 1 := by rw [sh.length]; rfl
  obtain ⟨x0, x1, rfl, s1⟩ : ∃ x0 x1, xs = x0 :: x1 ∧ ShAll H x1 r := by
    cases sh with
    | cons a t => exact ⟨_, _, rfl, t⟩
  refine ⟨nb, _, rfl, SqT.of hn, fun w => ?_, fun _ p hp => ?_⟩
  · obtain ⟨w1, w2⟩ := w
    rw [show (some (1 : Int)) = some ((1 : Nat) : Int) from rfl, HT.sIx_nat, Nat.min_eq_left (by rw [List.length_cons]; omega)] at w1
    cases w1
  · refine k _ _ (same_new hp) (.tup upd_same ?_)
    rw [show (some (1 : Int)) = some ((1 : Nat) : Int) from rfl, cut_vs_end]
    exact s1.same (same_new hp)
/-- a fact, as data -/
def factD (k : Nat) : PyData → Option Fact
  | .tuple [.str x, y] => if x = ("let" : Str) then (stnD k y).map Fact.let_ else if x = ("not" : Str) then (stnD k y).map Fact.not_ else none
  | .tuple [.str x, y, z] => if x = ("as" : Str) then (match stnD k y, stnD k z with
    | some s, some t => if s = t then none else some (.as_ s t)
    | _, _ => none) else none
  | _ => none
theorem factD_eF {k : Nat} {d : PyData} {f : Fact} (h : factD k d = some f) : d = eF f ∧ FactB k 40 f := by
  unfold factD at h
  split at h
  · rename_i x y
    by_cases c : x = ("let" : Str)
    · rw [if_pos c] at h
      cases e : stnD k y with
      | none =>
        rw [e] at h
        cases h
      | some s =>
        rw [e] at h
        cases h
        obtain ⟨rfl, h1, h2⟩ := stnD_eS e
        rw [c]
        exact ⟨rfl, h1, h2⟩
    · rw [if_neg c] at h
      by_cases c2 : x = ("not" : Str)
      · rw [if_pos c2] at h
        cases e : stnD k y with
        | none =>
          rw [e] at h
          cases h
        | some s =>
          rw [e] at h
          cases h
          obtain ⟨rfl, h1, h2⟩ := stnD_eS e
          rw [c2]
          exact ⟨rfl, h1, h2⟩
      · rw [if_neg c2] at h
        cases h
  · rename_i x y z
    by_cases c : x = ("as" : Str)
    · rw [if_pos c] at h
      cases e : stnD k y with
      | none =>
        rw [e] at h
        cases h
      | some s =>
        rw [e] at h
        cases e2 : stnD k z with
        | none =>
          rw [e2] at h
          cases h
        | some t =>
          rw [e2] at h
          dsimp only at h
          by_cases c2 : s = t
          · rw [if_pos c2] at h
            cases h
          · rw [if_neg c2] at h
            cases h
            obtain ⟨rfl, h1, h2⟩ := stnD_eS e
            obtain ⟨rfl, h3, h4⟩ := stnD_eS e2
            rw [c]
            exact ⟨rfl, h1, h2, h3, h4, c2⟩
    · rw [if_neg c] at h
      cases h
  · cases h
theorem allD_pairs : ∀ {s : Stn}, Bd 40 s → allD pairI (s.map eP) = some s
  | [], _ => rfl
  | p :: r, h => by
    have a := allD_pairs (s := r) fun q hq => h q (List.mem_cons_of_mem _ hq)
    have b := h p List.mem_cons_self
    rw [List.map_cons, allD, a]
    have c : pairI (eP p) = some p := by
      show (if 0 ≤ p.2 ∧ p.2 ≤ p.1 ∧ p.1 ≤ 40 then some (p.1, p.2) else none) = some p
      rw [if_pos b]
    rw [c]
theorem stnD_is {k : Nat} {s : Stn} (h : Bd 40 s) (l : s.length = k) : stnD k (eS s) = some s := by
  show (if (s.map eP).length = k then allD pairI (s.map eP) else none) = some s
  rw [if_pos (by rw [List.length_map]; exact l), allD_pairs h]
theorem factD_of {k : Nat} {f : Fact} (h : FactB k 40 f) : factD k (eF f) = some f := by
  cases f with
  | let_ s =>
    show (if ("let" : Str) = ("let" : Str) then (stnD k (eS s)).map Fact.let_ else if ("let" : Str) = ("not" : Str) then (stnD k (eS s)).map Fact.not_ else none) = _
    rw [if_pos rfl, stnD_is h.2 h.1]
    rfl
  | not_ s =>
    show (if ("not" : Str) = ("let" : Str) then (stnD k (eS s)).map Fact.let_ else if ("not" : Str) = ("not" : Str) then (stnD k (eS s)).map Fact.not_ else none) = _
    rw [if_neg (by decide +kernel), if_pos rfl, stnD_is h.2 h.1]
    rfl
  | as_ s t =>
    show (if ("as" : Str) = ("as" : Str) then (match stnD k (eS s), stnD k (eS t) with
      | some s, some t => if s = t then none else some (Fact.as_ s t)
      | _, _ => none) else none) = _
    rw [if_pos rfl, stnD_is h.2.1 h.1, stnD_is h.2.2.2.1 h.2.2.1]
    exact if_neg h.2.2.2.2
theorem sh_fact {H : Hp} {v : V} {f : Fact} (h : Sh H v (eF f)) : Fz H v (eF f) := by
  obtain ⟨a, xs, rfl, ha, t⟩ : ∃ a xs, v = .ref a ∧ H a = some (.tup xs) ∧ ∃ ds, eF f = .tuple ds ∧ ShAll H xs ds := by
    cases f <;> (obtain ⟨a, xs, rfl, ha, t⟩ := sh_tup h; exact ⟨a, xs, rfl, ha, _, rfl, t⟩)
  obtain ⟨ds, e, t⟩ := t
  cases f with
  | let_ s =>
    cases e
    obtain ⟨x, y, rfl, s1, s2⟩ := t.two
    obtain rfl := sh_str s1
    exact .tup ha (.cons (.str _) (.cons (sh_stn s2) .nil))
  | not_ s =>
    cases e
    obtain ⟨x, y, rfl, s1, s2⟩ := t.two
    obtain rfl := sh_str s1
    exact .tup ha (.cons (.str _) (.cons (sh_stn s2) .nil))
  | as_ s u =>
    cases e
    cases t with
    | cons a t =>
      obtain ⟨x, y, rfl, s1, s2⟩ := t.two
      obtain rfl := sh_str a
      exact .tup ha (.cons (.str _) (.cons (sh_stn s1) (.cons (sh_stn s2) .nil)))
def spFactA : Sp := fun vs H Q _ => ∃ (v : V) (d : PyData) (k : Nat), vs = [v, .int k] ∧ Sh H v d ∧ k ≤ 1000 ∧ ∀ H', Same H H' → Q (.bl (factD k d).isSome) H'
noncomputable def inF (fs : List Fact) (d : PyData) : Bool := @decide (∃ f ∈ fs, d = eF f) (Classical.propDecidable _)
theorem inF_true {fs : List Fact} {d : PyData} : inF fs d = true ↔ ∃ f ∈ fs, d = eF f := by
  unfold inF
  exact @decide_eq_true_iff _ (Classical.propDecidable _)
theorem inF_false {fs : List Fact} {d : PyData} (h : ¬ ∃ f ∈ fs, d = eF f) : inF fs d = false := Bool.eq_false_iff.mpr fun z => h (inF_true.mp z)
def spIn (C : Addr) : Sp := fun vs H Q _ => ∃ (b : Addr) (v : V) (d : PyData) (x : Str) (names : List Str) (ml : List (Str × Str)) (fs : List Fact), vs = [.ref b, v] ∧ BookAt C H b x names ml fs ∧ (∀ f ∈ fs, FactB names.length 40 f) ∧ names.length ≤ 10 ∧ Sh H v d ∧ ∀ H', Same H H' → Q (.bl (inF fs d)) H'
def spLenB (C : Addr) : Sp := fun vs H Q _ => ∃ (b : Addr) (x : Str) (names : List Str) (ml : List (Str × Str)) (fs : List Fact), vs = [.ref b] ∧ BookAt C H b x names ml fs ∧ Q (.int (fs.length : Nat)) H
/-- the manner of any value, or NoJob -/
def spManner (C CJ : Addr) : Sp := fun vs H Q E => ∃ (b : Addr) (v : V) (d : PyData) (x : Str) (names : List Str) (ml : List (Str × Str)) (fs : List Fact), vs = [.ref b, v] ∧ BookAt C H b x names ml fs ∧ Sh H v d ∧ names.length ≤ 10 ∧
  (wordD names d = false → ∀ e H', Same H H' → H e = none → H' e = some (.xd [(("value" : Str), v)]) → E (.ref CJ) (some e) H') ∧ ∀ n, d = .str n → n ∈ names → ∀ H', Same H H' → Q (.str (manOf ml n)) H'
section
variable {X : Cx} {CX : CXT} {k : Nat} {f C : Addr} {fd : FuncData} {ps : List Str} {sp : Sp} {E : XK}
/-- x in an instance with an own __contains__ that tells a bool -/
def rInC (C : Addr) (sp : Sp) (E : XK) : R2 := fun x y H Q => ∃ b dx fs, y = .ref b ∧ H b = some (.ins C dx fs) ∧ sp [y, x] H (fun v H' => ∃ c : Bool, v = .bl c ∧ Q (.bl c) H') E
theorem op_inC (F : FnOk X.prog X.w X.K X.mg X.base CX k f fd ps sp) (hr : Room k X.A) (hb : Binds X.K fd ps []) (hx : Passes CX X E) (hs : PySem.W.findIn X.K (.ref C) "__contains__" = some (some (.ref f))) (hf : PySem.W.isFn X.K (.ref f) = true) : OpR X (compareOp .In) (rInC C sp E) := by
  intro pins s σ H x y v u Q I rx ry h
  obtain ⟨b, dx, fs, rfl, hb2, q⟩ := h
  cases (show u = Value.ref b from ry)
  obtain ⟨mA, J, _⟩ := ins_get I.hok hb2
  obtain ⟨od, J, _⟩ := J.look
  obtain ⟨m, hF⟩ := I.fr
  refine PySem.W.in_K hF I.ok.mod.kin J hs hf ?_
  refine wpAny_mono (run_fn (us := [.ref b, v]) (vs := [.ref b, x]) F hr hb .nil hx I (.cons rfl (.cons rx .nil)) q) (fun w s' z => ?_) fun _ _ x => x
  obtain ⟨z', H', I', rz, c, rfl, qz⟩ := z
  obtain rfl : w = Value.bool c := rz
  show wpAny _ _ (pure c) _ _ _
  exact wpAny_pure ⟨.bl c, H', I', rfl, qz⟩
end
end GD
namespace K01
open PySem PySem.Spec PyProof.Rows L2 GD
section
variable {P : Program} {w : World} {K : PySem.W.Frag} {mg : Str → Option Value} {base : Heap}
abbrev NFa : List Str := ["value", "many", "here", "there", "both"]
theorem scFaA : FnScope NFa ["value", "many"] (defScope pIsFact) := ⟨rfl, rfl, rfl, by decide +kernel, rfl, by decide +kernel, by decide +kernel⟩
theorem oka_isfact {f fI fP fW fS : Addr} {fd fdI fdP fdW fdS : FuncData} (F : Fun K "is_fact" "is_fact" pIsFact f fd) (S : Forms1 mg) (AI : At K mg "is_integer" pIsInt ["value"] fI fdI) (AP : At K mg "is_pair" pIsPair ["value"] fP fdP) (AW : At K mg "is_word" pIsWord ["value", "words"] fW fdW) (AS : At K mg "is_standing" pIsStn ["value", "many"] fS fdS) :
    FnOk P w K mg base CX0 4 f fd ["value", "many"] spFactA := by
  have GW : FnOk P w K mg base CX0 1 fW fdW ["value", "words"] (spWordA K) := oka_isword AW.F S
  have GS : FnOk P w K mg base CX0 3 fS fdS ["value", "many"] spStnA := oka_isstn AS.F S AI AP
  refine F.ok scFaA (fun vs H Q E h => ?_) (fun cdv A outer s H vs Q E hr h => ?_)
  · obtain ⟨v, d, k, rfl, _⟩ := h
    rfl
  · obtain ⟨v, d, k, rfl, sh, hk, q⟩ := h
    have hr1 : Room 1 _ := hr.mono (by decide)
    refine ⟨_, pss_cons (ps_if (pt_not (pt_val (pe_callB call_isi (by rfl) S.isi (by decide +kernel) (pa_cons (pv 0) (pa_cons (pe_bltn (v := .ty "tuple") (by rfl) S.tup PyProof.Rows.Boot.«tuple» rfl) pa_nil))))) (pss_one (ps_ret pe_bl)) pss_nil)
      (pss_cons (ps_if (pt_cmpR op_eq (pe_callB call_len_seq (by rfl) S.len PySem.boot_len (pa_cons (pv 0) pa_nil)) pe_int (nomark _))
          (pss_one (ps_ret (pe_and (pe_call GW hr1 (by rfl) AW.g AW.F.kp AW.b .nil pass0 (pa_cons (pe_ix ix_tup (pv 0) pe_int (fun _ _ => rfl)) (pa_cons (pe_tup (pa_cons pe_str (pa_cons pe_str pa_nil))) pa_nil)))
            (pe_one (pe_call GS hr (by rfl) AS.g AS.F.kp AS.b .nil pass0 (pa_cons (pe_ix ix_tup (pv 0) pe_int (fun _ _ => rfl)) (pa_cons (pv 1) pa_nil))))))) pss_nil)
      (pss_cons (ps_if (pt_cmpR op_eq (pe_callB call_len_seq (by rfl) S.len PySem.boot_len (pa_cons (pv 0) pa_nil)) pe_int (nomark _))
          (pss_cons (ps_asg (pe_slice sl_tupA (pv 0) (po_some pe_int) po_none) (pg_tup rfl (pgs_cons (pg_name (i := 2) scFaA.nd rfl (.inl rfl)) (pgs_cons (pg_name (i := 3) scFaA.nd rfl (.inl rfl)) pgs_nil))))
          (pss_cons (ps_set (i := 4) scFaA.nd rfl (.inl rfl) (pe_and (pe_call GS hr (by rfl) AS.g AS.F.kp AS.b .nil pass0 (pa_cons (pv 2) (pa_cons (pv 1) pa_nil))) (pe_one (pe_call GS hr (by rfl) AS.g AS.F.kp AS.b .nil pass0 (pa_cons (pv 3) (pa_cons (pv 1) pa_nil))))))
          (pss_one (ps_ret (pe_and (pe_call GW hr1 (by rfl) AW.g AW.F.kp AW.b .nil pass0 (pa_cons (pe_ix ix_tup (pv 0) pe_int (fun _ _ => rfl)) (pa_cons (pe_tup (pa_cons pe_str pa_nil)) pa_nil)))
            (pe_and (pv 4) (pe_one (pe_cmpR (op_neD hr.units) (pv 2) (pv 3) (nomark _))))))))) pss_nil)
      (pss_one (ps_ret pe_bl)))), ?_⟩
    have no : factD k d = none → ∀ H', Same H H' → Q (.bl false) H' := fun e H' s' => by
      have q1 := q H' s'
      rw [e] at q1
      exact q1
    refine ⟨_, rfl, _, _, _, _, isTup d, rfl, .ty _, ty_sh sh (Same.refl H), kit_tup d, _, rfl, ?_⟩
    cases d with
    | none => exact iteT (no rfl _ (Same.refl H))
    | bool b => exact iteT (no rfl _ (Same.refl H))
    | int i => exact iteT (no rfl _ (Same.refl H))
    | list ds => exact iteT (no rfl _ (Same.refl H))
    | str x => exact iteT (no rfl _ (Same.refl H))
    | dict ds => exact iteT (no rfl _ (Same.refl H))
    | tuple ds =>
    refine iteF ?_
    obtain ⟨nb, xs, rfl, hn, t⟩ := sh_tup sh
    have lx := t.length
    refine ⟨_, rfl, nb, xs, rfl, .inr (SqT.of hn), rfl, _, rfl, ?_⟩
    have nw : ∀ (ws : List Str) (x : PyData), (∀ y, x = .str y → y ∉ ws) → wordD ws x = false := fun ws x h => by
      cases x with
      | str y => exact decide_eq_false (h y rfl)
      | none => rfl
      | bool b => rfl
      | int i => rfl
      | list b => rfl
      | tuple b => rfl
      | dict b => rfl
    match ds, t, lx, sh, q, no with
    | [d0, d1], t, lx, sh, q, no =>
      obtain ⟨x0, x1, rfl, s0, s1⟩ := t.two
      rw [decide_eq_true (show V.int (([x0, x1] : List V).length : Nat) = V.int 2 from rfl)]
      refine iteT ?_
      refine ⟨_, rfl, nb, _, 0, _, rfl, rfl, SqT.of hn, at0, (by show 2 ≤ sizeLine; decide), fun tw ntw => ?_⟩
      have sw := same_new (o := .tup [.str "let", .str "not"]) ntw
      have etw : (upd H tw (.tup [.str "let", .str "not"])) tw = some (.tup ((["let", "not"] : List Str).map V.str)) := upd_same
      generalize upd H tw (.tup [.str "let", .str "not"]) = H1 at sw etw ⊢
      refine ⟨x0, d0, tw, ["let", "not"], rfl, s0.same sw, .inr (SqT.of etw), _, rfl, ?_⟩
      cases c : wordD ["let", "not"] d0 with
      | false =>
        refine iteF (no ?_ _ sw)
        cases d0 with
        | str y =>
          have c' := of_decide_eq_false c
          show (if y = ("let" : Str) then (stnD k d1).map Fact.let_ else if y = ("not" : Str) then (stnD k d1).map Fact.not_ else none) = none
          rw [if_neg (fun z => c' (by rw [z]; exact List.mem_cons_self)), if_neg (fun z => c' (by rw [z]; exact List.mem_cons_of_mem _ List.mem_cons_self))]
        | none => rfl
        | bool b => rfl
        | int i => rfl
        | list b => rfl
        | tuple b => rfl
        | dict b => rfl
      | true =>
        refine iteT ?_
        obtain ⟨y, rfl⟩ : ∃ y, d0 = .str y := by cases d0 <;> first | exact ⟨_, rfl⟩ | cases c
        have c' := of_decide_eq_true c
        refine ⟨_, rfl, nb, _, 1, _, rfl, rfl, SqT.of (sw _ _ hn), at1, _, rfl, x1, d1, k, rfl, s1.same sw, hk, fun H2 s2 => ?_⟩
        have q1 := q H2 (sw.trans s2)
        have e : (factD k (.tuple [.str y, d1])).isSome = (stnD k d1).isSome := by
          show (if y = ("let" : Str) then (stnD k d1).map Fact.let_ else if y = ("not" : Str) then (stnD k d1).map Fact.not_ else none).isSome = _
          simp only [List.mem_cons, List.not_mem_nil, or_false] at c'
          rcases c' with rfl | rfl
          · rw [if_pos rfl, Option.isSome_map]
          · rw [if_neg (by decide +kernel), if_pos rfl, Option.isSome_map]
        rw [e] at q1
        exact q1
    | [d0, d1, d2], t, lx, sh, q, no =>
      obtain ⟨x0, xr, rfl, s0, tr⟩ : ∃ x0 xr, xs = x0 :: xr ∧ Sh H x0 d0 ∧ ShAll H xr [d1, d2] := by
        cases t with
        | cons a b => exact ⟨_, _, rfl, a, b⟩
      rw [decide_eq_false (show ¬ V.int ((x0 :: xr).length : Nat) = V.int 2 from fun z => by have := V.int.inj z; rw [lx] at this; change ((3 : Nat) : Int) = 2 at this; omega)]
      refine iteF ?_
      refine ⟨_, rfl, nb, _, rfl, .inr (SqT.of hn), rfl, _, rfl, ?_⟩
      rw [decide_eq_true (show V.int ((x0 :: xr).length : Nat) = V.int 3 by rw [lx]; rfl)]
      refine iteT ?_
      refine ⟨_, rfl, 1, rfl, ?_⟩
      dsimp only [tNoPart]
      refine slice_shT hn t fun v1 H1 z1 sv1 => ?_
      obtain ⟨b1, ys, rfl, hb1, t1⟩ := sh_tup sv1
      obtain ⟨y1, y2, rfl, s1, s2⟩ := t1.two
      refine ⟨b1, _, rfl, SqT.of hb1, rfl, _, _, rfl, _, _, rfl, rfl, ?_⟩
      refine ⟨_, rfl, _, rfl, y1, d1, k, rfl, s1, hk, fun H2 z2 => ⟨_, rfl, ?_⟩⟩
      have z12 := z1.trans z2
      have none1 : (stnD k d1).isSome = false → factD k (.tuple [d0, d1, d2]) = none := fun e => by
        cases d0 with
        | str y =>
          show (if y = ("as" : Str) then (match stnD k d1, stnD k d2 with
            | some s, some t => if s = t then none else some (Fact.as_ s t)
            | _, _ => none) else none) = none
          cases e1 : stnD k d1 with
          | none => split <;> rfl
          | some s =>
            rw [e1] at e
            cases e
        | none => rfl
        | bool b => rfl
        | int i => rfl
        | list b => rfl
        | tuple b => rfl
        | dict b => rfl
      have none2 : (stnD k d2).isSome = false → factD k (.tuple [d0, d1, d2]) = none := fun e => by
        cases d0 with
        | str y =>
          show (if y = ("as" : Str) then (match stnD k d1, stnD k d2 with
            | some s, some t => if s = t then none else some (Fact.as_ s t)
            | _, _ => none) else none) = none
          cases e1 : stnD k d2 with
          | none => cases stnD k d1 <;> (split <;> rfl)
          | some s =>
            rw [e1] at e
            cases e
        | none => rfl
        | bool b => rfl
        | int i => rfl
        | list b => rfl
        | tuple b => rfl
        | dict b => rfl
      have none3 : wordD ["as"] d0 = false → factD k (.tuple [d0, d1, d2]) = none := fun e => by
        cases d0 with
        | str y =>
          have e' := of_decide_eq_false e
          show (if y = ("as" : Str) then (match stnD k d1, stnD k d2 with
            | some s, some t => if s = t then none else some (Fact.as_ s t)
            | _, _ => none) else none) = none
          rw [if_neg (fun z => e' (by rw [z]; exact List.mem_cons_self))]
        | none => rfl
        | bool b => rfl
        | int i => rfl
        | list b => rfl
        | tuple b => rfl
        | dict b => rfl
      cases c1 : (stnD k d1).isSome with
      | false =>
        refine iteF ?_
        refine ⟨_, rfl, nb, _, 0, _, rfl, rfl, SqT.of (z12 _ _ hn), at0, (by show 1 ≤ sizeLine; decide), fun tw ntw => ?_⟩
        have sw := same_new (o := .tup [.str "as"]) ntw
        have etw : (upd H2 tw (.tup [.str "as"])) tw = some (.tup ((["as"] : List Str).map V.str)) := upd_same
        generalize upd H2 tw (.tup [.str "as"]) = H9 at sw etw ⊢
        refine ⟨x0, d0, tw, ["as"], rfl, (s0.same z12).same sw, .inr (SqT.of etw), _, rfl, ?_⟩
        have z9 := (z12).trans sw
        cases c : wordD ["as"] d0 with
        | false => exact iteF (no (none3 c) _ z9)
        | true =>
          refine iteT ⟨_, rfl, _, rfl, iteF (no (none1 c1) _ z9)⟩
      | true =>
        refine iteT ⟨_, rfl, _, rfl, y2, d2, k, rfl, s2.same z2, hk, fun H3 z3 => ?_⟩
        have z13 := z12.trans z3
        refine ⟨_, rfl, nb, _, 0, _, rfl, rfl, SqT.of (z13 _ _ hn), at0, (by show 1 ≤ sizeLine; decide), fun tw ntw => ?_⟩
        have sw := same_new (o := .tup [.str "as"]) ntw
        have etw : (upd H3 tw (.tup [.str "as"])) tw = some (.tup ((["as"] : List Str).map V.str)) := upd_same
        generalize upd H3 tw (.tup [.str "as"]) = H9 at sw etw ⊢
        refine ⟨x0, d0, tw, ["as"], rfl, (s0.same z13).same sw, .inr (SqT.of etw), _, rfl, ?_⟩
        have z9 := (z13).trans sw
        cases c : wordD ["as"] d0 with
        | false => exact iteF (no (none3 c) _ z9)
        | true =>
          refine iteT ⟨_, rfl, _, rfl, ?_⟩
          cases c2 : (stnD k d2).isSome with
          | false => exact iteF (no (none2 c2) _ z9)
          | true =>
            refine iteT ?_
            obtain ⟨y, rfl⟩ : ∃ y, d0 = .str y := by cases d0 <;> first | exact ⟨_, rfl⟩ | cases c
            obtain rfl : y = "as" := List.mem_singleton.mp (of_decide_eq_true c)
            obtain ⟨sa, ea⟩ := Option.isSome_iff_exists.mp c1
            obtain ⟨sb, eb⟩ := Option.isSome_iff_exists.mp c2
            obtain ⟨rfl, la, ba⟩ := stnD_eS ea
            obtain ⟨rfl, lb, bb⟩ := stnD_eS eb
            have fa : Fz H9 y1 (eS sa) := sh_stn (((s1.same z2).same z3).same sw)
            have fb : Fz H9 y2 (eS sb) := sh_stn (((s2.same z2).same z3).same sw)
            refine ⟨_, rfl, _, rfl, _, _, fa.dp, fb.dp, shape_eS sa, shape_eS sb, ?_⟩
            have q1 := q H9 z9
            have e : factD k (.tuple [.str "as", eS sa, eS sb]) = if sa = sb then none else some (Fact.as_ sa sb) := by
              show (if ("as" : Str) = ("as" : Str) then (match stnD k (eS sa), stnD k (eS sb) with
                | some s, some t => if s = t then none else some (Fact.as_ s t)
                | _, _ => none) else none) = _
              rw [if_pos rfl, ea, eb]
            rw [e] at q1
            by_cases c3 : sa = sb
            · subst c3
              rw [if_pos rfl] at q1
              rw [eqv_self (shape_eS sa)]
              exact q1
            · rw [if_neg c3] at q1
              rw [show PyData.eqv (eS sa) (eS sb) = false from Bool.eq_false_iff.mpr fun z => c3 (eqv_eS z)]
              exact q1
    | [], t, lx, sh, q, no =>
      rw [show decide (V.int (xs.length : Nat) = V.int 2) = false by rw [lx]; rfl]
      refine iteF ⟨_, rfl, nb, _, rfl, .inr (SqT.of hn), rfl, _, rfl, ?_⟩
      rw [show decide (V.int (xs.length : Nat) = V.int 3) = false by rw [lx]; rfl]
      exact iteF (no rfl _ (Same.refl H))
    | [d0], t, lx, sh, q, no =>
      rw [show decide (V.int (xs.length : Nat) = V.int 2) = false by rw [lx]; rfl]
      refine iteF ⟨_, rfl, nb, _, rfl, .inr (SqT.of hn), rfl, _, rfl, ?_⟩
      rw [show decide (V.int (xs.length : Nat) = V.int 3) = false by rw [lx]; rfl]
      exact iteF (no (by cases d0 <;> rfl) _ (Same.refl H))
    | d0 :: d1 :: d2 :: d3 :: r, t, lx, sh, q, no =>
      have l4 : xs.length = r.length + 4 := lx
      rw [decide_eq_false (show ¬ V.int (xs.length : Nat) = V.int 2 from fun z => by have := V.int.inj z; omega)]
      refine iteF ⟨_, rfl, nb, _, rfl, .inr (SqT.of hn), rfl, _, rfl, ?_⟩
      rw [decide_eq_false (show ¬ V.int (xs.length : Nat) = V.int 3 from fun z => by have := V.int.inj z; omega)]
      exact iteF (no (by cases d0 <;> rfl) _ (Same.refl H))
end
end K01
namespace GD
open PySem PySem.Spec PyProof.Rows L2
/-! what a text tells: one reading, for the program and for the law -/
def valN (x : Str) : Int := ((NumText.digitsVal (TL.tl x) : Nat) : Int)
theorem foldl_ge : ∀ (r : List Nat) (n : Nat), n ≤ r.foldl (fun acc c => acc * 10 + (c - 48)) n
  | [], n => Nat.le_refl _
  | c :: r, n => Nat.le_trans (by omega) (foldl_ge r (n * 10 + (c - 48)))
theorem val_long {x : Str} (h : isNumeral x = true) (l : 2 < x.length) : 100 ≤ valN x := by
  obtain ⟨dg, ne⟩ := isNum_digits (numeral_num h)
  unfold isNumeral at h
  rw [numeral_num (by unfold isNumeral; exact h), Bool.true_and, Bool.or_eq_true, decide_eq_true_iff, Bool.not_eq_true', decide_eq_false_iff_not] at h
  rw [TL.len_tl] at l
  unfold valN
  match e : TL.tl x, l, dg, h with
  | a :: b :: c :: r, _, dg, h =>
    have ha := dg a List.mem_cons_self
    have h49 : 49 ≤ a := by
      rcases h with h | h
      · rw [h] at e
        exact absurd (congrArg List.length e) (by show ¬ 1 = _; rw [List.length_cons, List.length_cons]; omega)
      · have : a ≠ 48 := fun z => h (by rw [z]; rfl)
        omega
    have z := foldl_ge r ((((0 * 10 + (a - 48)) * 10 + (b - 48)) * 10 + (c - 48)))
    show (100 : Int) ≤ ((List.foldl (fun acc c => acc * 10 + (c - 48)) ((((0 * 10 + (a - 48)) * 10 + (b - 48)) * 10 + (c - 48))) r : Nat) : Int)
    omega
theorem rdC_range (x : Str) : (0 ≤ rdC x ∧ rdC x ≤ 40 ↔ isNumeral x = true ∧ valN x ≤ 40) ∧ (0 ≤ rdC x → isNumeral x = true ∧ rdC x = valN x) := by
  have h0 : 0 ≤ valN x := Int.natCast_nonneg _
  cases h : isNumeral x with
  | false =>
    rw [rdC_no h]
    exact ⟨⟨fun z => absurd z.1 (by decide), fun z => absurd z.1 (by decide)⟩, fun z => absurd z (by decide)⟩
  | true =>
    by_cases l : x.length ≤ 2
    · rw [rdC_yes h l]
      exact ⟨⟨fun z => ⟨rfl, z.2⟩, fun z => ⟨h0, z.2⟩⟩, fun z => ⟨rfl, rfl⟩⟩
    · have v := val_long h (by omega)
      have e : rdC x = -1 := by
        unfold rdC
        exact if_neg fun z => l z.2
      rw [e]
      exact ⟨⟨fun z => absurd z.1 (by decide), fun z => absurd z.2 (by omega)⟩, fun z => absurd z (by decide)⟩
theorem okQ_iff {p : Int × Int} : okQ p = true ↔ 0 ≤ p.2 ∧ p.2 ≤ p.1 ∧ p.1 ≤ 40 := by
  unfold okQ
  rw [Bool.and_eq_true, Bool.and_eq_true, decide_eq_true_iff, decide_eq_true_iff, decide_eq_true_iff]
theorem okQ_rd (a b : Str) : (okQ (rdC a, rdC b) = true ↔ isNumeral a = true ∧ isNumeral b = true ∧ okQ (valN a, valN b) = true) ∧ (okQ (rdC a, rdC b) = true → (rdC a, rdC b) = (valN a, valN b)) := by
  rw [okQ_iff, okQ_iff]
  obtain ⟨a1, a2⟩ := rdC_range a
  obtain ⟨b1, b2⟩ := rdC_range b
  have va : 0 ≤ valN a := Int.natCast_nonneg _
  have vb : 0 ≤ valN b := Int.natCast_nonneg _
  have key : 0 ≤ rdC b ∧ rdC b ≤ rdC a ∧ rdC a ≤ 40 → (isNumeral a = true ∧ rdC a = valN a) ∧ (isNumeral b = true ∧ rdC b = valN b) := fun ⟨x, y, z⟩ => ⟨a2 (by omega), b2 x⟩
  refine ⟨⟨fun h => ?_, fun ⟨na, nb, h⟩ => ?_⟩, fun h => ?_⟩
  · obtain ⟨k1, k2⟩ := key h
    refine ⟨k1.1, k2.1, ?_⟩
    show 0 ≤ valN b ∧ valN b ≤ valN a ∧ valN a ≤ 40
    rw [← k1.2, ← k2.2]
    exact h
  · have h' : 0 ≤ valN b ∧ valN b ≤ valN a ∧ valN a ≤ 40 := h
    have ra := a1.mpr ⟨na, h'.2.2⟩
    have rb := b1.mpr ⟨nb, by omega⟩
    have ea := (a2 ra.1).2
    have eb := (b2 rb.1).2
    show 0 ≤ rdC b ∧ rdC b ≤ rdC a ∧ rdC a ≤ 40
    rw [ea, eb]
    exact h'
  · obtain ⟨k1, k2⟩ := key h
    rw [k1.2, k2.2]
/-- a standing, told right -/
def stnB (k : Nat) (s : Stn) : Option Stn := if s.length = k ∧ s.all okQ = true then some s else none
theorem allD_okQ : ∀ s : Stn, allD pairI (s.map eP) = if s.all okQ = true then some s else none
  | [] => rfl
  | p :: r => by
    rw [List.map_cons, allD, allD_okQ r, show pairI (eP p) = (if 0 ≤ p.2 ∧ p.2 ≤ p.1 ∧ p.1 ≤ 40 then some (p.1, p.2) else none) from rfl, List.all_cons]
    by_cases c : okQ p = true
    · rw [if_pos (okQ_iff.mp c), c, Bool.true_and]
      by_cases d : r.all okQ = true
      · rw [if_pos d, if_pos d]
      · rw [if_neg d, if_neg d]
    · rw [if_neg (fun z => c (okQ_iff.mpr z)), Bool.not_eq_true] at *
      rw [c, Bool.false_and]
      rfl
theorem stnD_stnB (k : Nat) (s : Stn) : stnD k (eS s) = stnB k s := by
  show (if (s.map eP).length = k then allD pairI (s.map eP) else none) = _
  rw [List.length_map, allD_okQ, stnB]
  by_cases c : s.length = k
  · rw [if_pos c]
    by_cases d : s.all okQ = true
    · rw [if_pos d, if_pos ⟨c, d⟩]
    · rw [if_neg d, if_neg fun z => d z.2]
  · rw [if_neg c, if_neg fun z => c z.1]
theorem prs_rd : ∀ (ws : List Str) (k : Nat), ws.length = 2 * k → ((prs (ws.map rdC)).all okQ = true ↔ (∀ x ∈ ws, isNumeral x = true) ∧ (prs (ws.map valN)).all okQ = true) ∧ ((prs (ws.map rdC)).all okQ = true → prs (ws.map rdC) = prs (ws.map valN))
  | [], _, _ => ⟨⟨fun h => ⟨fun _ h => (nomatch h), h⟩, fun h => h.2⟩, fun _ => rfl⟩
  | [a], k, h => by
    rw [List.length_singleton] at h
    omega
  | a :: b :: r, k, h => by
    rw [List.length_cons, List.length_cons] at h
    obtain ⟨i1, i2⟩ := prs_rd r (k - 1) (by omega)
    obtain ⟨q1, q2⟩ := okQ_rd a b
    show (((rdC a, rdC b) :: prs (r.map rdC)).all okQ = true ↔ _ ∧ ((valN a, valN b) :: prs (r.map valN)).all okQ = true) ∧ (((rdC a, rdC b) :: prs (r.map rdC)).all okQ = true → (rdC a, rdC b) :: prs (r.map rdC) = (valN a, valN b) :: prs (r.map valN))
    rw [List.all_cons, List.all_cons, Bool.and_eq_true, Bool.and_eq_true, q1, i1]
    refine ⟨⟨fun ⟨⟨x, y, z⟩, u, v⟩ => ⟨fun w hw => ?_, z, v⟩, fun ⟨u, z, v⟩ => ⟨⟨u a List.mem_cons_self, u b (List.mem_cons_of_mem _ List.mem_cons_self), z⟩, fun w hw => u w (List.mem_cons_of_mem _ (List.mem_cons_of_mem _ hw)), v⟩⟩, fun ⟨x, y⟩ => ?_⟩
    · rcases List.mem_cons.mp hw with rfl | hw
      · exact x
      · rcases List.mem_cons.mp hw with rfl | hw
        · exact y
        · exact u w hw
    · rw [q2 (q1.mpr x), i2 (i1.mpr y)]
/-- a standing that words tell -/
def stnL (k : Nat) (ws : List Str) : Option Stn := if ws.length = 2 * k ∧ (∀ x ∈ ws, isNumeral x = true) ∧ (prs (ws.map valN)).all okQ = true then some (prs (ws.map valN)) else none
theorem stnL_rd {k : Nat} {ws : List Str} (h : ws.length = 2 * k) : stnD k (eS (prs (ws.map rdC))) = stnL k ws := by
  obtain ⟨i1, i2⟩ := prs_rd ws k h
  rw [stnD_stnB, stnB, stnL, prs_len, List.length_map]
  by_cases c : (prs (ws.map rdC)).all okQ = true
  · rw [if_pos ⟨by omega, c⟩, if_pos ⟨h, i1.mp c⟩, i2 c]
  · rw [if_neg fun z => c z.2, if_neg fun z => c (i1.mpr z.2)]
theorem stnL_no {k : Nat} {ws : List Str} (h : ws.length ≠ 2 * k) : stnL k ws = none := if_neg fun z => h z.1
/-- a fact that words tell -/
def factR (k : Nat) (ws : List Str) : Option Fact :=
  if ws.headD "" = "let" then (stnL k (ws.drop 1)).map .let_ else if ws.headD "" = "not" then (stnL k (ws.drop 1)).map .not_
  else if ws.headD "" = "as" ∧ ws.length = 4 * k + 2 ∧ ws[2 * k + 1]? = some ("to" : Str) then
    (match stnL k ((ws.drop 1).take (2 * k)), stnL k (ws.drop (2 * k + 2)) with
    | some s, some t => if s = t then none else some (.as_ s t)
    | _, _ => none) else none
theorem factR_rd {k : Nat} {ws : List Str} (hk : 1 ≤ k) : factD k (rdF k ws) = factR k ws := by
  unfold rdF factR
  by_cases c : ws.length = 1 + 2 * k
  · have t : (ws.drop 1).take (2 * k) = ws.drop 1 := List.take_of_length_le (by rw [List.length_drop]; omega)
    rw [if_pos c, t]
    show (if ws.headD "" = "let" then (stnD k _).map Fact.let_ else if ws.headD "" = "not" then (stnD k _).map Fact.not_ else none) = _
    rw [stnL_rd (by rw [List.length_drop]; omega)]
    by_cases a : ws.headD "" = "let"
    · rw [if_pos a, if_pos a]
    · rw [if_neg a, if_neg a]
      by_cases b : ws.headD "" = "not"
      · rw [if_pos b, if_pos b]
      · rw [if_neg b, if_neg b, if_neg]
        exact fun z => by omega
  · rw [if_neg c]
    have n1 : stnL k (ws.drop 1) = none := by
      by_cases e : ws.length = 0
      · exact stnL_no (by rw [List.length_drop]; omega)
      · exact stnL_no (by rw [List.length_drop]; omega)
    rw [n1]
    by_cases d : ws.length = 2 * (1 + 2 * k) ∧ ws[1 + 2 * k]? = some ("to" : Str)
    · rw [if_pos d]
      show (if ws.headD "" = "as" then (match stnD k _, stnD k _ with
        | some s, some t => if s = t then none else some (Fact.as_ s t)
        | _, _ => none) else none) = _
      rw [stnL_rd (by rw [List.length_take, List.length_drop]; omega), stnL_rd (by rw [List.length_drop]; omega), show 1 + 2 * k + 1 = 2 * k + 2 by omega]
      by_cases a : ws.headD "" = "let"
      · rw [if_pos a, if_neg (by rw [a]; decide +kernel)]
        rfl
      · rw [if_neg a]
        by_cases b : ws.headD "" = "not"
        · rw [if_pos b, if_neg (by rw [b]; decide +kernel)]
          rfl
        · rw [if_neg b]
          by_cases e : ws.headD "" = "as"
          · rw [if_pos e, if_pos ⟨e, by omega, by rw [show 2 * k + 1 = 1 + 2 * k by omega]; exact d.2⟩]
          · rw [if_neg e, if_neg fun z => e z.1]
    · rw [if_neg d]
      show none = _
      by_cases a : ws.headD "" = "let"
      · rw [if_pos a]
        rfl
      · rw [if_neg a]
        by_cases b : ws.headD "" = "not"
        · rw [if_pos b]
          rfl
        · rw [if_neg b, if_neg]
          exact fun z => d ⟨by omega, by rw [show 1 + 2 * k = 2 * k + 1 by omega]; exact z.2.2⟩
theorem factR_b {k : Nat} {ws : List Str} {f : Fact} (hk : 1 ≤ k) (h : factR k ws = some f) : rdF k ws = eF f ∧ FactB k 40 f := by
  rw [← factR_rd hk] at h
  exact factD_eF h
def wsOf (x : Str) : List Str := Txt.split x " "
theorem wsOf_pos (x : Str) : 1 ≤ (wsOf x).length := split_pos x " "
theorem wsOf_le (x : Str) : (wsOf x).length ≤ x.length + 2 := split_le x " "
theorem wsOf_short {x a : Str} (h : a ∈ wsOf x) : a.length ≤ x.length := part_short h
/-- a line that tells a job's manner -/
def IsMan (names : List Str) (kn : List (Str × Str)) (ws : List Str) : Prop := ws.length = 2 ∧ ws.headD "" ∈ lined3 ∧ ws.getD 1 "" ∈ names ∧ ws.getD 1 "" ∉ kn.map (·.1)
instance {names : List Str} {kn : List (Str × Str)} {ws : List Str} : Decidable (IsMan names kn ws) := by unfold IsMan; infer_instance
def manIn (ws : List Str) : Str × Str := (ws.getD 1 "", ws.headD "")
def rdM (names : List Str) : List (Str × Str) → List Str → List (Str × Str)
  | ml, [] => ml
  | ml, l :: r => if IsMan names ml (wsOf l) then rdM names (ml ++ [manIn (wsOf l)]) r else ml
noncomputable instance : DecidableEq Fact := Classical.typeDecidableEq Fact
/-- no room, or known -/
def Shut (fs : List Fact) (f : Fact) : Prop := f ∈ fs ∨ lim (kindS f) ≤ cnt (kindS f) fs
noncomputable instance {fs : List Fact} {f : Fact} : Decidable (Shut fs f) := by unfold Shut; infer_instance
noncomputable def rdP (k : Nat) : Nat → List Fact → List Str → Nat × List Fact
  | _, fs, [] => (0, fs)
  | i, fs, l :: r => match factR k (wsOf l) with
    | none => (i + 1, [])
    | some f => if Shut fs f then (i + 1, []) else rdP k (i + 1) (fs ++ [f]) r
/-- what the law reads -/
noncomputable def rdR (names : List Str) : Nat → List (Str × Str) → List Fact → List Str → Nat × List Fact
  | _, _, fs, [] => (0, fs)
  | i, kn, fs, l :: r =>
    if (wsOf l).headD "" ∈ lined3 then (if fs = [] ∧ IsMan names kn (wsOf l) then rdR names (i + 1) (kn ++ [manIn (wsOf l)]) fs r else (i + 1, []))
    else match factR names.length (wsOf l) with
      | none => (i + 1, [])
      | some f => if Shut fs f then (i + 1, []) else rdR names (i + 1) kn (fs ++ [f]) r
theorem factR_man {k : Nat} {ws : List Str} (h : ws.headD "" ∈ lined3) : factR k ws = none := by
  unfold lined3 at h
  simp only [List.mem_cons, List.not_mem_nil, or_false] at h
  unfold factR
  rcases h with h | h | h <;> (rw [h, if_neg (by decide +kernel), if_neg (by decide +kernel), if_neg (fun z => absurd z.1 (by decide +kernel))])
theorem rdR_facts {names : List Str} : ∀ (ls : List Str) (i : Nat) (kn : List (Str × Str)) (fs : List Fact), fs ≠ [] → rdR names i kn fs ls = rdP names.length i fs ls
  | [], i, kn, fs, h => rfl
  | l :: r, i, kn, fs, h => by
    rw [rdR, rdP]
    by_cases c : (wsOf l).headD "" ∈ lined3
    · rw [if_pos c, if_neg fun z => h z.1, factR_man c]
    · rw [if_neg c]
      cases e : factR names.length (wsOf l) with
      | none => rfl
      | some f =>
        dsimp only
        by_cases s : Shut fs f
        · rw [if_pos s, if_pos s]
        · rw [if_neg s, if_neg s]
          exact rdR_facts r (i + 1) kn (fs ++ [f]) (by simp)
theorem rdM_pre {names : List Str} : ∀ (ls : List Str) (kn : List (Str × Str)), ∃ n, n ≤ ls.length ∧ (rdM names kn ls).length = kn.length + n
  | [], kn => ⟨0, Nat.le_refl _, rfl⟩
  | l :: r, kn => by
    rw [rdM]
    by_cases c : IsMan names kn (wsOf l)
    · obtain ⟨n, h1, h2⟩ := rdM_pre (names := names) r (kn ++ [manIn (wsOf l)])
      rw [if_pos c]
      refine ⟨n + 1, by rw [List.length_cons]; omega, ?_⟩
      rw [h2, List.length_append, List.length_singleton]
      omega
    · rw [if_neg c]
      exact ⟨0, Nat.zero_le _, rfl⟩
theorem rdR_all {names : List Str} : ∀ (ls : List Str) (i : Nat) (kn : List (Str × Str)), rdR names i kn [] ls = rdP names.length (i + ((rdM names kn ls).length - kn.length)) [] (ls.drop ((rdM names kn ls).length - kn.length))
  | [], i, kn => by
    rw [List.drop_nil]
    rfl
  | l :: r, i, kn => by
    rw [rdM]
    by_cases c : IsMan names kn (wsOf l)
    · have ih := rdR_all (names := names) r (i + 1) (kn ++ [manIn (wsOf l)])
      obtain ⟨n, h1, h2⟩ := rdM_pre (names := names) r (kn ++ [manIn (wsOf l)])
      rw [rdR, if_pos c.2.1, if_pos ⟨rfl, c⟩, if_pos c, ih, h2]
      rw [List.length_append, List.length_singleton, show kn.length + 1 + n - (kn.length + 1) = n by omega, show kn.length + 1 + n - kn.length = n + 1 by omega, List.drop_succ_cons]
      congr 1
      omega
    · rw [if_neg c, Nat.sub_self, Nat.add_zero, List.drop_zero, rdR, rdP]
      by_cases d : (wsOf l).headD "" ∈ lined3
      · rw [if_pos d, if_neg fun z => c z.2, factR_man d]
      · rw [if_neg d]
        cases e : factR names.length (wsOf l) with
        | none => rfl
        | some f =>
          dsimp only
          by_cases s : Shut [] f
          · rw [if_pos s, if_pos s]
          · rw [if_neg s, if_neg s]
            exact rdR_facts r (i + 1) kn ([] ++ [f]) (by simp)
/-- the head line -/
def HeadOk (ws : List Str) : Prop := ws.headD "" = "jobs" ∧ NamesOk (ws.drop 1)
/-- all that a text tells: 0 and its facts, or the line's number -/
def lnsOf (x : Str) : List Str := Txt.split x "\n"
open Classical in
noncomputable def readT (x : Str) : Nat × List Fact :=
  if HeadOk (wsOf ((lnsOf x).headD "")) then rdR ((wsOf ((lnsOf x).headD "")).drop 1) 1 [] [] ((lnsOf x).drop 1) else (1, [])
/-- texts that are short enough -/
structure TextL (x : Str) : Prop where
  n : (lnsOf x).length ≤ 200
  l : ∀ y ∈ lnsOf x, y.length ≤ 400
  w : x.length ≤ 90000
theorem rdP_pos {k : Nat} : ∀ (ls : List Str) (i : Nat) (fs : List Fact), (rdP k i fs ls).1 ≠ 0 → (rdP k i fs ls).2 = []
  | [], i, fs, h => absurd rfl h
  | l :: r, i, fs, h => by
    rw [rdP] at h ⊢
    cases e : factR k (wsOf l) with
    | none => rfl
    | some f =>
      rw [e] at h
      dsimp only at h ⊢
      by_cases s : Shut fs f
      · rw [if_pos s]
      · rw [if_neg s] at h ⊢
        exact rdP_pos r _ _ h
end GD
namespace GD
open PySem PySem.Spec PyProof.Rows L2
theorem difN_full {xs : List Str} (h : difN xs = xs.length) : xs.Nodup := by
  have go : ∀ n, n ≤ xs.length → metN (fun i => xs.getD i Str.empty) n = n → ∀ j, j < n → (hj : j < xs.length) → xs[j] ∉ xs.take j := by
    intro n
    induction n with
    | zero => exact fun _ _ j hj => absurd hj (Nat.not_lt_zero _)
    | succ n ih =>
      intro hn he j hj hj2
      rw [metN] at he
      have le := metN_le (fun i => xs.getD i Str.empty) n
      by_cases c : metB (fun i => xs.getD i Str.empty) n (xs.getD n Str.empty) = true
      · rw [if_pos c] at he
        omega
      · rw [if_neg c] at he
        rcases Nat.lt_succ_iff_lt_or_eq.mp hj with h1 | rfl
        · exact ih (by omega) (by omega) j h1 hj2
        · rw [metB_get (by omega), List.getD_eq_getElem?_getD, List.getElem?_eq_getElem hj2] at c
          exact c
  refine List.pairwise_iff_getElem.mpr fun i j hi hj hij e => ?_
  refine go xs.length (Nat.le_refl _) h j hj hj ?_
  rw [← e]
  exact List.mem_take_iff_getElem.mpr ⟨i, by omega, rfl⟩
theorem difN_lt {xs : List Str} : difN xs < xs.length ↔ ¬ xs.Nodup := by
  constructor
  · intro h nd
    rw [difN_nodup nd] at h
    omega
  · intro h
    have le := metN_le (fun i => xs.getD i Str.empty) xs.length
    have : difN xs ≤ xs.length := le
    have ne : difN xs ≠ xs.length := fun z => h (difN_full z)
    omega
/-- a raise of an own error with any value is read -/
theorem raise_any {K : PySem.W.Frag} {CO fI : Addr} {ta : TE} {v : V} {E : XK} (T : EC K CO fI) {σ : L2.St} {H : Hp} (hi : ∀ R : VK, R v H → ta σ H R) (D : Ends)
    (k : ∀ d H', Same H H' → H d = none → H' d = some (.xd [(("value" : Str), v)]) → E (.ref CO) (some d) H') :
    (fun (_ : Ends) σ H => tMkO CO (spInit K) [] (tCons ta tNil) σ H fun cls d H' => E cls d H') D σ H := by
  refine hi _ ⟨(by show 1 ≤ 1000; decide), fun e he => ?_⟩
  refine ⟨e, CO, v, rfl, T.ox, T.nv, upd_same, fun d hd hde => ⟨rfl, d, [(("value" : Str), v)], upd_same, ?_, ?_, ?_⟩⟩
  · rw [upd_ne hde, upd_same]
  · rw [upd_ne hde] at hd
    exact hd
  · have hd0 : H d = none := by
      rw [upd_ne hde] at hd
      exact hd
    refine k d _ (fun c o ec => ?_) hd0 upd_same
    have ce : c ≠ e := fun z => by rw [z, he] at ec; cases ec
    have cd : c ≠ d := fun z => by rw [z, hd0] at ec; cases ec
    rw [upd_ne cd, del_ne ce, upd_ne ce, upd_ne cd, upd_ne ce]
    exact ec
/-- an own error is raised with v -/
def Raised (CJ : Addr) (H : Hp) (v : V) (E : XK) : Prop := ∀ e H', Same H H' → H e = none → H' e = some (.xd [(("value" : Str), v)]) → E (.ref CJ) (some e) H'
theorem Raised.same {CJ : Addr} {H H' : Hp} {v : V} {E : XK} (h : Raised CJ H v E) (s : Same H H') : Raised CJ H' v E := fun e H2 s2 n x => h e H2 (s.trans s2) (s.free n) x
def spRdJobsX (CJ : Addr) : Sp := fun vs H Q E => ∃ x : Str, vs = [.str x] ∧ x.length ≤ 400 ∧ (HeadOk (wsOf x) → ∀ p H', H p = none → Same H H' → TupF H' p (((wsOf x).drop 1).map V.str) → Q (.ref p) H') ∧ (¬ HeadOk (wsOf x) → Raised CJ H (.int 1) E)
def spRdManX : Sp := fun vs H Q _ => ∃ (l j : Addr) (l0 : Str) (names rest : List Str), vs = [.ref l, .ref j] ∧ H l = some (.lst ((l0 :: rest).map V.str)) ∧ TupF H j (names.map V.str) ∧ (∀ y ∈ rest, y.length ≤ 400) ∧ rest.length ≤ 900 ∧
  ∀ p H', H p = none → Same H H' → H' p = some (.dK (mKv (rdM names [] rest))) → Q (.ref p) H'
def spRdFsX (CJ : Addr) : Sp := fun vs H Q E => ∃ (l : Addr) (ls : List Str) (st k : Nat), vs = [.ref l, .int st, .int k] ∧ H l = some (.lst (ls.map V.str)) ∧ st ≤ ls.length ∧ ls.length ≤ 900 ∧ (∀ y ∈ ls, y.length ≤ 400) ∧ 1 ≤ k ∧ k ≤ 4 ∧
  (∀ fs, rdP k st [] (ls.drop st) = (0, fs) → FactsOk k fs → ∀ v H', Same H H' → Fz H' v (.tuple (fs.map eF)) → Q v H') ∧ (∀ n, rdP k st [] (ls.drop st) = (n + 1, []) → Raised CJ H (.int ((n + 1 : Nat) : Int)) E)
theorem mKv_some {ml : List (Str × Str)} {x : Str} (h : x ∈ ml.map (·.1)) : ∃ v, valV (mKv ml) (.inr x) = some v := by
  cases e : valV (mKv ml) (.inr x) with
  | some v => exact ⟨v, rfl⟩
  | none =>
    unfold valV mKv at e
    rw [Option.map_eq_none_iff, List.find?_eq_none] at e
    obtain ⟨q, hq, rfl⟩ := List.mem_map.mp h
    exact absurd (decide_eq_true rfl) (e _ (List.mem_map_of_mem hq))
theorem FactsOk.nil {k : Nat} : FactsOk k [] := ⟨fun f h => (nomatch h), List.nodup_nil, fun x _ => Nat.zero_le _⟩
theorem FactsOk.more {k : Nat} {fs : List Fact} {f : Fact} (h : FactsOk k fs) (b : FactB k 40 f) (n : ¬ Shut fs f) : FactsOk k (fs ++ [f]) := by
  refine ⟨fun g hg => ?_, ?_, fun x hx => ?_⟩
  · rcases List.mem_append.mp hg with hg | hg
    · exact h.b g hg
    · rw [List.mem_singleton.mp hg]
      exact b
  · refine List.nodup_append.mpr ⟨h.nd, by simp, fun a ha b' hb e => n (.inl ?_)⟩
    rw [List.mem_singleton.mp hb] at e
    rw [← e]
    exact ha
  · rw [cnt_snoc, one3]
    have := h.lm x hx
    by_cases c : kindS f = x
    · rw [if_pos c]
      have z : ¬ lim (kindS f) ≤ cnt (kindS f) fs := fun z => n (.inr z)
      rw [c] at z
      omega
    · rw [if_neg c]
      omega
end GD
namespace K01
open PySem PySem.Spec PyProof.Rows L2 GD
section
variable {P : Program} {w : World} {K : PySem.W.Frag} {mg : Str → Option Value} {base : Heap}
/-- the error class BadBook -/
structure BadB (P : Program) (w : World) (K : PySem.W.Frag) (mg : Str → Option Value) (base : Heap) (CJ fE : Addr) (fdE : FuncData) : Prop where
  T : EC K CJ fE
  tI : PySem.W.typeIn K (.ref fE) = some (.type "function")
  g : mg "BadBook" = some (.ref CJ)
  b : Binds K fdE ["self", "value"] []
  G : FnOk P w K mg base CX0 1 fE fdE ["self", "value"] (spInit K)

theorem scJoX : FnScope NJo ["line"] (defScope pReadJobs) := ⟨rfl, rfl, rfl, by decide +kernel, rfl, by decide +kernel, by decide +kernel⟩
theorem okx_rdjobs {f fN CJ fE : Addr} {fd fdN fdE : FuncData} (F : Fun K "read_jobs" "read_jobs" pReadJobs f fd) (S : Reads1 mg) (B : BadB P w K mg base CJ fE fdE) (AN : At K mg "is_name" pIsName ["text"] fN fdN) (gl : ∃ u, mg "LONGEST_NAME" = some u ∧ RelV (.int 8) u) (gj : ∃ u, mg "MOST_JOBS" = some u ∧ RelV (.int 4) u) (gs : mg "set" = none) :
    FnOk P w K mg base (L2.CX P w) 3 f fd ["line"] (spRdJobsX CJ) := by
  have GN : FnOk P w K mg base CX0 1 fN fdN ["text"] spName1 := ok_isname AN.F S.f gl
  refine F.okX scJoX (fun vs H Q E h => ?_) (fun cdv A outer s H vs Q E hr h => ?_)
  · obtain ⟨x, rfl, _⟩ := h
    rfl
  · obtain ⟨x, rfl, hx, q1, q2⟩ := h
    obtain ⟨um, gm, rm⟩ := gj
    have hr1 : Room 1 _ := hr.mono (by decide)
    have hr2 : Room 2 _ := hr.mono (by decide)
    refine ⟨_, pss_cons (ps_set (i := 1) scJoX.nd rfl (.inl rfl) (pe_bm PySem.F.plainAttrs_str PySem.F.slot_str_split PySem.F.type_str_split mt_split (pv 0) (pa_cons pe_str pa_nil)))
      (pss_cons (ps_set (i := 2) scJoX.nd rfl (.inl rfl) (pe_slice sl_list (pv 1) (po_some pe_int) po_none))
      (pss_cons (ps_if (pw_or (pt_cmpR op_ne (pe_ix ix_list (pv 1) pe_int (fun _ _ => rfl)) pe_str (nomark _)) (pw_or1 (pt_not (pt_chain op_le op_le pe_int (pe_callB call_len_seq (by rfl) S.f.len PySem.boot_len (pa_cons (pv 2) pa_nil)) (pe_glob (by rfl) gm rm))))).pt
          (pss_one (ps_raise rfl (takes_of (E := E) rfl rfl rfl rfl) (pmk_oex B.T.ox B.T.ini B.tI B.G hr2 B.b .nil pass0 (by rfl) B.g (pa_cons pe_int pa_nil)))) pss_nil)
      (pss_cons (ps_if (pw_or (pt_cmpR op_lt (pe_lenSetT rfl (by rfl) S.f.len (by rfl) gs (pv 2)) (pe_callB call_len_seq (by rfl) S.f.len PySem.boot_len (pa_cons (pv 2) pa_nil)) (nomark _))
          (pw_or1 (pt_not (pt_val (pe_callB (cr_all rfl) (by rfl) S.f.all (by decide +kernel) (pa_cons (pe_lc (own := [("name", 3)]) (g := gName 3) (tt := tYes) rfl scJoX.nd (pi_list (pv 2)) (blkOk_by (N := NJo) (sc := defScope pReadJobs) (by decide +kernel))
            (fun _ _ _ _ _ => pg_name (i := 3) scJoX.nd rfl (.inl rfl)) (fun _ _ _ _ _ => pts_nil) (fun _ _ _ _ _ => pe_call GN hr1 (by rfl) AN.g AN.F.kp AN.b .nil pass0 (pa_cons (pv 3) pa_nil))) pa_nil)))))).pt
          (pss_one (ps_raise rfl (takes_of (E := E) rfl rfl rfl rfl) (pmk_oex B.T.ox B.T.ini B.tI B.G hr2 B.b .nil pass0 (by rfl) B.g (pa_cons pe_int pa_nil)))) pss_nil)
      (pss_one (ps_ret (pe_callTy call_tupleF (by rfl) S.f.tup (by decide +kernel) (pa_cons (pv 2) pa_nil))))))), ?_⟩
    obtain ⟨w0, r, ews⟩ : ∃ w0 r, wsOf x = w0 :: r := by
      cases e : wsOf x with
      | nil => exact absurd (wsOf_pos x) (by rw [e]; decide)
      | cons a r => exact ⟨a, r, rfl⟩
    have lws := wsOf_le x
    have lr : r.length ≤ 401 := by
      rw [ews, List.length_cons] at lws
      omega
    refine ⟨_, rfl, rfl, _, _, rfl, rfl, rfl, small_len (by omega), fun pw npw => ?_⟩
    have sw := same_new (o := .lst ((Txt.split x " ").map V.str)) npw
    have ew : (upd H pw (.lst ((Txt.split x " ").map V.str))) pw = some (.lst ((w0 :: r).map V.str)) := by
      rw [upd_same, ← ews]
      rfl
    generalize upd H pw (.lst ((Txt.split x " ").map V.str)) = H1 at sw ew ⊢
    refine ⟨_, rfl, _, rfl, pw, _, rfl, SqL.of ew, fun pn npn => ?_⟩
    have e1 := cut_strs_end (w0 :: r) 1
    rw [List.drop_one, List.tail_cons] at e1
    rw [show (some (1 : Int)) = some ((1 : Nat) : Int) from rfl, e1]
    have sn := same_new (o := .lst (r.map V.str)) npn
    have en : (upd H1 pn (.lst (r.map V.str))) pn = some (.lst (r.map V.str)) := upd_same
    have ew2 := sn _ _ ew
    have s2 := sw.trans sn
    generalize upd H1 pn (.lst (r.map V.str)) = H2 at sn en ew2 s2 ⊢
    have ln : (r.map V.str).length = r.length := List.length_map ..
    rw [ews, List.drop_one, List.tail_cons] at q1
    rw [ews] at q2
    have bad : ∀ {σ : L2.St} {H' : Hp} {D : Ends} {ta : TE}, ¬ HeadOk (w0 :: r) → Same H H' → (∀ R : VK, R (.int 1) H' → ta σ H' R) → (fun (_ : Ends) σ H => tMkO CJ (spInit K) [] (tCons ta tNil) σ H fun cls d H' => E cls d H') D σ H' :=
      @fun σ H0 D ta n s hta => raise_any B.T hta D ((q2 n).same s)
    refine ⟨_, rfl, pw, _, 0, _, rfl, rfl, SqL.of ew2, at0, rfl, _, rfl, ?_⟩
    by_cases c0 : w0 = "jobs"
    rotate_left
    · rw [decide_eq_false (show ¬ V.str w0 = V.str "jobs" from fun z => c0 (V.str.inj z))]
      exact iteT (iteT (bad (D := { nx := fun _ _ => True, rt := fun _ _ => True }) (fun h => c0 h.1) s2 fun R q => q))
    subst c0
    refine iteF ?_
    refine ⟨_, rfl, pn, _, rfl, .inl (SqL.of en), _, _, rfl, rfl, _, rfl, ?_⟩
    rw [ln]
    by_cases c1 : (1 : Int) ≤ ((r.length : Nat) : Int)
    rotate_left
    · rw [decide_eq_false c1]
      exact iteF ⟨_, rfl, iteT (bad (D := { nx := fun _ _ => True, rt := fun _ _ => True }) (fun h => c1 (by have := h.2.l1; rw [List.drop_one, List.tail_cons] at this; omega)) s2 fun R q => q)⟩
    rw [decide_eq_true c1]
    refine iteT ⟨_, _, rfl, rfl, _, rfl, ?_⟩
    by_cases c2 : ((r.length : Nat) : Int) ≤ 4
    rotate_left
    · rw [decide_eq_false c2]
      exact iteT (bad (D := { nx := fun _ _ => True, rt := fun _ _ => True }) (fun h => c2 (by have := h.2.l4; rw [List.drop_one, List.tail_cons] at this; omega)) s2 fun R q => q)
    rw [decide_eq_true c2]
    refine iteF ?_
    refine ⟨_, rfl, pn, r, rfl, en, by omega, _, rfl, pn, _, rfl, .inl (SqL.of en), _, _, rfl, rfl, _, rfl, ?_⟩
    rw [ln]
    by_cases c3 : r.Nodup
    rotate_left
    · rw [decide_eq_true (show ((difN r : Nat) : Int) < ((r.length : Nat) : Int) by have := difN_lt.mpr c3; omega)]
      exact iteT (iteT (bad (D := { nx := fun _ _ => True, rt := fun _ _ => True }) (fun h => c3 h.2.nd) s2 fun R q => q))
    rw [difN_nodup c3, decide_eq_false (show ¬ ((r.length : Nat) : Int) < ((r.length : Nat) : Int) by omega)]
    refine iteF ?_
    refine ⟨_, rfl, pn, rfl, ⟨_, SqL.of en⟩, fun D hD => ?_⟩
    refine lc_list (K := K) (a := pn) (xs := r.map V.str) (fun i H' => Same H2 H' ∧ H' D = some (.lst (((r.take i).map nameB).map V.bl))) ⟨same_new hD, upd_same⟩ (fun i H' _ ⟨s1, _⟩ => SqL.of (s1 _ _ en)) ?_ ?_
    · rintro i v H' hx ⟨s1, eD⟩
      rw [List.getElem?_map] at hx
      cases c : r[i]? with
      | none =>
        rw [c] at hx
        cases hx
      | some y =>
        rw [c] at hx
        obtain rfl : V.str y = v := Option.some.inj hx
        have hi : i < r.length := (List.getElem?_eq_some_iff.mp c).1
        have hyl : y.length ≤ x.length := wsOf_short (by rw [ews]; exact List.mem_cons_of_mem _ (List.mem_of_getElem? c))
        refine ⟨rfl, _, rfl, y, rfl, by omega, fun H3 s3 => ?_⟩
        refine ⟨_, s3 _ _ eD, ?_, same_upd (s1.trans s3) hD, ?_⟩
        · rw [List.length_map, List.length_map, List.length_take]
          exact Nat.lt_of_le_of_lt (Nat.min_le_left _ _) (Nat.lt_of_lt_of_le (show i < 500 by omega) (by decide))
        · rw [upd_same, take_next c, List.map_append, List.map_append]
          rfl
    · rintro H3 ⟨s3, eD⟩
      rw [ln, List.take_length] at eD
      refine ⟨D, _, rfl, SqL.of eD, ?_⟩
      cases c4 : r.all nameB with
      | false =>
        rw [show (r.map nameB).all id = false by rw [List.all_map]; exact c4]
        refine ⟨_, rfl, iteT ?_⟩
        exact bad (D := { nx := fun _ _ => True, rt := fun _ _ => True }) (fun h => by have z := List.all_eq_true.mpr h.2.nm; rw [List.drop_one, List.tail_cons, c4] at z; cases z) (s2.trans s3) fun R q => q
      | true =>
        rw [show (r.map nameB).all id = true by rw [List.all_map]; exact c4]
        refine ⟨_, rfl, iteF ?_⟩
        refine ⟨_, rfl, pn, _, rfl, SqL.of (s3 _ _ en), fun t ot ht dt => ?_⟩
        refine q1 ⟨rfl, ?_⟩ t _ ((s2.trans s3).free ht) ((s2.trans s3).trans (same_new ht)) ⟨ot, dt, upd_same⟩
        rw [List.drop_one, List.tail_cons]
        exact ⟨by omega, by omega, c3, List.all_eq_true.mp c4⟩

theorem scMnX : FnScope NMn ["lines", "jobs"] (defScope pReadManners) := ⟨rfl, rfl, rfl, by decide +kernel, rfl, by decide +kernel, by decide +kernel⟩
theorem okx_rdman {f : Addr} {fd : FuncData} (F : Fun K "read_manners" "read_manners" pReadManners f fd) (S : Reads1 mg) (L : Lined K mg) : FnOk P w K mg base CX0 1 f fd ["lines", "jobs"] spRdManX := by
  refine F.ok scMnX (fun vs H Q E h => ?_) (fun cdv A outer s H vs Q E hr h => ?_)
  · obtain ⟨l, j, l0, names, rest, rfl, _⟩ := h
    rfl
  · obtain ⟨l, j, l0, names, rest, rfl, hl, hj, hll, hln, q⟩ := h
    obtain ⟨pL, gL, sL⟩ := L
    refine ⟨_, pss_cons (ps_set (i := 2) scMnX.nd rfl (.inl rfl) pe_dnewK)
      (pss_cons (ps_for PassesOwn.never rfl (pi_list (pe_slice sl_list (pv 0) (po_some pe_int) po_none)) (pg_name (i := 3) scMnX.nd rfl (.inl rfl))
        (pss_cons (ps_set (i := 4) scMnX.nd rfl (.inl rfl) (pe_bm PySem.F.plainAttrs_str PySem.F.slot_str_split PySem.F.type_str_split mt_split (pv 3) (pa_cons pe_str pa_nil)))
        (pss_cons (ps_if (pw_or (pt_cmpR op_ne (pe_callB call_len_seq (by rfl) S.f.len PySem.boot_len (pa_cons (pv 4) pa_nil)) pe_int (nomark _)) (pw_or1 (pt_cmpR op_notIn_seq (pe_ix ix_list (pv 4) pe_int (fun _ _ => rfl)) (pe_glob (v := .ref pL) (by rfl) gL rfl) (by rfl)))).pt
            (pss_one (ps_ret (pv 2))) pss_nil)
        (pss_cons (ps_if (pw_or (pt_cmpR op_notIn_seq (pe_ix ix_list (pv 4) pe_int (fun _ _ => rfl)) (pv 1) (by rfl)) (pw_or1 (pt_cmp (pc_din (u1 hr) (pe_ix ix_list (pv 4) pe_int (fun _ _ => rfl)) (pv 2))))).pt
            (pss_one (ps_ret (pv 2))) pss_nil)
        (pss_one (ps_dput (u1 hr) (pv 2) (pe_ix ix_list (pv 4) pe_int (fun _ _ => rfl)) (pe_ix ix_list (pv 4) pe_int (fun _ _ => rfl)) (by rfl)))))))
      (pss_one (ps_ret (pv 2)))), ?_⟩
    intro d hd
    have s1 := same_new (o := .dK []) hd
    refine ⟨_, rfl, _, rfl, ?_⟩
    refine ⟨l, _, rfl, SqL.of (s1 _ _ hl), fun p hp => ?_⟩
    have e1 := cut_strs_end (l0 :: rest) 1
    rw [List.drop_one, List.tail_cons] at e1
    rw [show (some (1 : Int)) = some ((1 : Nat) : Int) from rfl, e1]
    have s2 := same_new (o := .lst (rest.map V.str)) hp
    have ep : (upd (upd H d (.dK [])) p (.lst (rest.map V.str))) p = some (.lst (rest.map V.str)) := upd_same
    have ed : (upd (upd H d (.dK [])) p (.lst (rest.map V.str))) d = some (.dK []) := s2 _ _ upd_same
    have s12 := s1.trans s2
    generalize upd (upd H d (.dK [])) p (.lst (rest.map V.str)) = H1 at ep ed s12 ⊢
    have dpd : p ≠ d := fun z => by
      rw [z, ed] at ep
      cases ep
    refine ⟨p, rfl, ⟨_, SqL.of ep⟩, for_list (K := K) (a := p) (xs := rest.map V.str) (fun i σ H' => ∃ (x3 x4 : Option V) (ml : List (Str × Str)), σ = [some (.ref l), some (.ref j), some (.ref d), x3, x4] ∧ Same H H' ∧ H' p = some (.lst (rest.map V.str)) ∧ H' d = some (.dK (mKv ml)) ∧ rdM names ml (rest.drop i) = rdM names [] rest ∧ ml.length = i)
      ⟨none, none, [], rfl, s12, ep, ed, rfl, rfl⟩ (fun i σ H' _ ⟨_, _, _, _, _, e, _⟩ => SqL.of e) ?_ ?_⟩
    · rintro i v σ H' hx ⟨x3, x4, ml, rfl, s3, ep3, ed3, hrd, hml⟩
      rw [List.getElem?_map] at hx
      cases c : rest[i]? with
      | none =>
        rw [c] at hx
        cases hx
      | some y =>
        rw [c] at hx
        obtain rfl : V.str y = v := Option.some.inj hx
        obtain ⟨hi, ey⟩ := List.getElem?_eq_some_iff.mp c
        have hyl := hll y (List.mem_of_getElem? c)
        have edrop : rest.drop i = y :: rest.drop (i + 1) := by
          rw [← ey]
          exact List.drop_eq_getElem_cons hi
        rw [edrop, rdM] at hrd
        have lws := wsOf_le y
        refine ⟨_, rfl, rfl, _, _, rfl, rfl, rfl, small_len (by omega), fun w npw => ?_⟩
        have sw := same_new (o := .lst ((Txt.split y " ").map V.str)) npw
        have ew : (upd H' w (.lst ((Txt.split y " ").map V.str))) w = some (.lst ((wsOf y).map V.str)) := upd_same
        generalize upd H' w (.lst ((Txt.split y " ").map V.str)) = H2 at sw ew ⊢
        have ed4 := sw _ _ ed3
        have s13 := s3.trans sw
        have stop : ¬ IsMan names ml (wsOf y) → Q (.ref d) H2 := fun n => by
          rw [if_neg n] at hrd
          rw [hrd] at ed4
          exact q d H2 hd s13 ed4
        refine ⟨_, rfl, w, _, rfl, .inl (SqL.of ew), rfl, _, rfl, ?_⟩
        by_cases c2 : (wsOf y).length = 2
        rotate_left
        · rw [show (!decide (V.int (((wsOf y).map V.str).length : Int) = V.int 2)) = true by
            rw [decide_eq_false fun z => c2 (by have := V.int.inj z; rw [List.length_map] at this; omega)]
            rfl]
          exact iteT (iteT ⟨_, rfl, stop fun h => c2 h.1⟩)
        obtain ⟨a, b, eab⟩ : ∃ a b, wsOf y = [a, b] := by
          match e : wsOf y, c2 with
          | [a, b], _ => exact ⟨a, b, rfl⟩
        rw [eab] at ew stop hrd
        refine (show (!decide (V.int (((wsOf y).map V.str).length : Int) = V.int 2)) = false by rw [eab]; rfl) ▸ ?_
        refine iteF ?_
        refine ⟨_, rfl, w, _, 0, _, rfl, rfl, SqL.of ew, at0, pL, _, rfl, .inr (sL _), rfl, by decide +kernel, _, rfl, ?_⟩
        rw [if_pos rfl, inV_strs]
        by_cases c3 : a ∈ lined3
        rotate_left
        · rw [decide_eq_false c3]
          exact iteT ⟨_, rfl, stop fun h => c3 h.2.1⟩
        rw [decide_eq_true c3]
        refine iteF ?_
        refine ⟨_, rfl, w, _, 1, _, rfl, rfl, SqL.of ew, at1, _, rfl, j, _, rfl, .inr (hj.same s13).sq, rfl, ?_, _, rfl, ?_⟩
        · rw [List.all_map]
          exact List.all_eq_true.mpr fun _ _ => rfl
        rw [if_pos rfl, inV_strs]
        by_cases c4 : b ∈ names
        rotate_left
        · rw [decide_eq_false c4]
          exact iteT (iteT ⟨_, rfl, stop fun h => c4 h.2.2.1⟩)
        rw [decide_eq_true c4]
        refine iteF ?_
        have dg := DGet.k (k := .inr b) ed4
        by_cases c5 : b ∈ ml.map (·.1)
        · obtain ⟨v5, e5⟩ := mKv_some c5
          rw [e5] at dg
          exact ⟨_, rfl, w, _, 1, _, rfl, rfl, SqL.of ew, at1, _, rfl, d, some v5, rfl, dg, _, rfl, iteT ⟨_, rfl, stop fun h => h.2.2.2 c5⟩⟩
        rw [mKv_none c5] at dg
        refine ⟨_, rfl, w, _, 1, _, rfl, rfl, SqL.of ew, at1, _, rfl, d, none, rfl, dg, _, rfl, iteF ?_⟩
        refine ⟨_, rfl, w, _, 0, _, rfl, rfl, SqL.of ew, at0, _, rfl, _, rfl, w, _, 1, _, rfl, rfl, SqL.of ew, at1, d, _, rfl, DPut.k (k := .inr b) ed4 ?_, ?_⟩
        · unfold mKv
          rw [List.length_map, hml]
          exact Nat.lt_of_lt_of_le (show i < 901 by omega) (by decide)
        rw [putK_new _ (mKv_none c5)]
        rw [if_pos (show IsMan names ml [a, b] from ⟨rfl, c3, c4, c5⟩)] at hrd
        refine ⟨_, _, ml ++ [manIn [a, b]], rfl, same_upd s13 hd, by rw [upd_ne dpd]; exact sw _ _ ep3, ?_, hrd, by rw [List.length_append, hml]; rfl⟩
        rw [upd_same, mKv, mKv, List.map_append]
        rfl
    · rintro σ H' ⟨x3, x4, ml, rfl, s3, ep3, ed3, hrd, hml⟩
      rw [List.length_map, List.drop_length, rdM] at hrd
      rw [hrd] at ed3
      exact ⟨_, rfl, q d H' hd s3 ed3⟩
end
end K01
namespace GD
open PySem PySem.Spec PyProof.Rows L2
theorem fz_non {H : Hp} {v : V} (h : Fz H v .none) : v = .non := by
  cases h
  rfl
/-- a book as any text leaves it -/
def BookX (C : Addr) (H : Hp) (b : Addr) (x : Str) (fs : List Fact) : Prop := ∃ dx h j m f a, H b = some (.ins C dx (b5 h x j m f a)) ∧ Fz H (.ref a) (.tuple (fs.map eF))
/-- what the program reads -/
noncomputable def readP (x : Str) : Nat × List Fact := readT x
theorem readT_bad {x : Str} (h : ¬ HeadOk (wsOf ((lnsOf x).headD ""))) : readT x = (1, []) := by
  unfold readT
  exact if_neg h
theorem readT_good {x : Str} (h : HeadOk (wsOf ((lnsOf x).headD ""))) : readT x = rdP ((wsOf ((lnsOf x).headD "")).drop 1).length (1 + (rdM ((wsOf ((lnsOf x).headD "")).drop 1) [] ((lnsOf x).drop 1)).length) [] ((lnsOf x).drop (1 + (rdM ((wsOf ((lnsOf x).headD "")).drop 1) [] ((lnsOf x).drop 1)).length)) := by
  unfold readT
  rw [if_pos h, rdR_all, List.length_nil, Nat.sub_zero, List.drop_drop]
def spInitX (K : PySem.W.Frag) (C CJ : Addr) : Sp := fun vs H Q E => ∃ (b dx : Addr) (v : V) (d : PyData), vs = [.ref b, v] ∧ H b = some (.ins C dx []) ∧ TyX K H v (.type (kindD d)) ∧
  (∀ x, d = .str x → v = .str x ∧ TextL x) ∧
  ((∀ x, d ≠ .str x) → ∀ e H', Keep b H H' → H e = none → H' e = some (.xd [(("value" : Str), .int 0)]) → E (.ref CJ) (some e) H') ∧
  (∀ x n, d = .str x → readT x = (n + 1, []) → ∀ e H', Keep b H H' → H e = none → H' e = some (.xd [(("value" : Str), .int ((n + 1 : Nat) : Int))]) → E (.ref CJ) (some e) H') ∧
  ∀ x fs, d = .str x → readT x = (0, fs) → ∀ k, FactsOk k fs → k ≤ 4 → ∀ H', Keep b H H' → BookX C H' b x fs → Q .non H'
end GD
namespace K01
open PySem PySem.Spec PyProof.Rows L2 GD
section
variable {P : Program} {w : World} {K : PySem.W.Frag} {mg : Str → Option Value} {base : Heap}
theorem scFsX : FnScope NFs ["lines", "start", "many"] (defScope pReadFacts) := ⟨rfl, rfl, rfl, by decide +kernel, rfl, by decide +kernel, by decide +kernel⟩
theorem okx_rdfacts {f fI fB fW fP fN fF fL fR fS fC CJ fE : Addr} {fd fdI fdB fdW fdP fdN fdF fdL fdR fdS fdC fdE : FuncData} (F : Fun K "read_facts" "read_facts" pReadFacts f fd) (S : Reads1 mg) (T : Told K w mg) (BB : BadB P w K mg base CJ fE fdE)
    (D : Reader K mg fI fB fW fP fN fF fL fR fS fC fdI fdB fdW fdP fdN fdF fdL fdR fdS fdC) : FnOk P w K mg base (L2.CX P w) 5 f fd ["lines", "start", "many"] (spRdFsX CJ) := by
  have GR : FnOk P w K mg base CX0 4 fR fdR ["words", "many"] spRdF := ok_rdfact D.R.F S D.C D.S
  have GF : FnOk P w K mg base CX0 4 fF fdF ["value", "many"] spFactA := oka_isfact D.F.F S.f D.I D.P D.W D.N
  have GL : FnOk P w K mg base CX0 1 fL fdL ["facts", "kind"] spFull := ok_isfull D.L.F S.f T
  refine F.okX scFsX (fun vs H Q E h => ?_) (fun cdv A outer s H vs Q E hr h => ?_)
  · obtain ⟨l, ls, st, k, rfl, _⟩ := h
    rfl
  · obtain ⟨l, ls, st, k, rfl, hl, hst, hln, hll, hk1, hk4, q1, q2⟩ := h
    have hr1 : Room 1 _ := hr.mono (by decide)
    have hr2 : Room 2 _ := hr.mono (by decide)
    have hr3 : Room 4 _ := hr.mono (by decide)
    refine ⟨_, pss_cons (ps_set (i := 3) scFsX.nd rfl (.inl rfl) (pe_lst pa_nil))
      (pss_cons (ps_for (passes_of rfl) rfl (pi_range2 (by rfl) S.rng (pa_cons (pv 1) (pa_cons (pe_callB call_len_seq (by rfl) S.f.len PySem.boot_len (pa_cons (pv 0) pa_nil)) pa_nil))) (pg_name (i := 4) scFsX.nd rfl (.inl rfl))
        (pss_cons (ps_set (i := 5) scFsX.nd rfl (.inl rfl) (pe_call GR hr3 (by rfl) D.R.g D.R.F.kp D.R.b .nil pass0 (pa_cons (pe_bm PySem.F.plainAttrs_str PySem.F.slot_str_split PySem.F.type_str_split mt_split (pe_ix ix_list (pv 0) (pv 4) (fun _ _ => rfl)) (pa_cons pe_str pa_nil)) (pa_cons (pv 2) pa_nil))))
        (pss_cons (ps_if (pw_or (pt_not (pt_val (pe_call GF hr3 (by rfl) D.F.g D.F.F.kp D.F.b .nil pass0 (pa_cons (pv 5) (pa_cons (pv 2) pa_nil))))) (pw_or (pt_cmpR (op_inD (u65 hr)) (pv 5) (pv 3) (by rfl))
            (pw_or1 (pt_val (pe_call GL hr1 (by rfl) D.L.g D.L.F.kp D.L.b .nil pass0 (pa_cons (pv 3) (pa_cons (pe_ix ix_tup (pv 5) pe_int (fun _ _ => rfl)) pa_nil))))))).pt
            (pss_one (ps_raise rfl (takes_of (E := E) rfl rfl rfl rfl) (pmk_oex BB.T.ox BB.T.ini BB.tI BB.G hr2 BB.b .nil pass0 (by rfl) BB.g (pa_cons (pe_op op_add (pv 4) pe_int) pa_nil)))) pss_nil)
        (pss_one (ps_expr (pe_bm PySem.F.plainAttrs_list PySem.F.slot_list_append PySem.F.type_list_append mt_append (pv 3) (pa_cons (pv 5) pa_nil)))))))
      (pss_one (ps_ret (pe_callTy call_tuple_of (by rfl) S.f.tup (by decide +kernel) (pa_cons (pv 3) pa_nil))))), ?_⟩
    have llv : (ls.map V.str).length = ls.length := List.length_map ..
    refine ⟨by decide, fun p np => ?_⟩
    have s1 := same_new (o := .lst []) np
    refine ⟨_, rfl, _, rfl, l, _, rfl, .inl (SqL.of (s1 _ _ hl)), _, _, rfl, (by omega), ?_⟩
    rw [show (((ls.map V.str).length : Nat) : Int) - (st : Int) = ((ls.length - st : Nat) : Int) by omega, Int.toNat_natCast]
    refine for_range (lo := st) (n := ls.length - st) (fun i σ H' => ∃ (x4 x5 : Option V) (fs : List Fact), σ = [some (.ref l), some (.int st), some (.int k), some (.ref p), x4, x5] ∧ Same H H' ∧ LstAt H' p (fs.map eF) ∧ FactsOk k fs ∧ rdP k (st + i) fs (ls.drop (st + i)) = rdP k st [] (ls.drop st)) ⟨none, none, [], rfl, s1, ⟨[], upd_same, .nil⟩, .nil, rfl⟩ ?_ ?_
    · rintro i σ H1 hi ⟨x4, x5, fs, rfl, s2, ⟨xs, ep, fx⟩, ok, hrd⟩
      have hlt : st + i < ls.length := by omega
      have hline : ls[st + i]? = some ls[st + i] := List.getElem?_eq_getElem hlt
      have edrop : ls.drop (st + i) = ls[st + i] :: ls.drop (st + i + 1) := List.drop_eq_getElem_cons hlt
      generalize ls[st + i] = y at hline edrop
      have hyl := hll y (List.mem_of_getElem? hline)
      rw [edrop, rdP] at hrd
      have lws := wsOf_le y
      have lfs := ok.len
      refine ⟨_, rfl, _, rfl, l, _, _, V.str y, rfl, rfl, SqL.of (s2 _ _ hl), (by rw [show (st : Int) + (i : Nat) = ((st + i : Nat) : Int) by omega]; exact at_str hline), rfl, ?_⟩
      refine ⟨_, _, rfl, rfl, rfl, small_len (by omega), fun pw npw => ?_⟩
      have sw := same_new (o := .lst ((Txt.split y " ").map V.str)) npw
      have ew : (upd H1 pw (.lst ((Txt.split y " ").map V.str))) pw = some (.lst ((wsOf y).map V.str)) := upd_same
      generalize upd H1 pw (.lst ((Txt.split y " ").map V.str)) = H2 at sw ew ⊢
      refine ⟨_, rfl, pw, wsOf y, k, rfl, ew, by omega, by omega, fun x hx => ?_, fun v H3 s3 fz => ?_⟩
      · have z := wsOf_short hx
        exact small_len (by omega)
      have s13 := sw.trans s3
      have lst3 : LstAt H3 p (fs.map eF) := ⟨xs, s13 _ _ ep, fx.same s13⟩
      have bad : ∀ {σ : L2.St} {H' : Hp} {D : Ends} {ta : TE}, rdP k st [] (ls.drop st) = (st + i + 1, []) → Same H H' → (∀ R : VK, R (.int (((st : Int) + (i : Nat)) + 1)) H' → ta σ H' R) → (fun (_ : Ends) σ H => tMkO CJ (spInit K) [] (tCons ta tNil) σ H fun cls d H' => E cls d H') D σ H' :=
        @fun σ H0 D ta n s hta => raise_any BB.T hta D fun e H2 z n2 x2 => q2 (st + i) n e H2 (s.trans z) (s.free n2) (by rw [show ((st + i + 1 : Nat) : Int) = ((st : Int) + (i : Nat)) + 1 by omega]; exact x2)
      refine ⟨_, rfl, _, rfl, v, rdF k (wsOf y), k, rfl, fz.sh, by omega, fun H4 s4 => ?_⟩
      rw [factR_rd hk1]
      cases cf : factR k (wsOf y) with
      | none =>
        rw [cf] at hrd
        exact ⟨_, rfl, iteT (iteT (bad (D := { nx := fun _ _ => True, rt := fun _ _ => True }) hrd.symm ((s2.trans s13).trans s4) fun R q => ⟨_, rfl, _, _, rfl, rfl, q⟩))⟩
      | some f0 =>
      rw [cf] at hrd
      dsimp only at hrd
      obtain ⟨erd, hb0⟩ := factR_b hk1 cf
      rw [erd] at fz
      refine ⟨_, rfl, iteF ?_⟩
      have lst4 := lst3.same s4
      have fz4 := fz.same s4
      refine ⟨_, rfl, _, rfl, eF f0, fs.map eF, fz4.dp, lst4.dp, shape_eF f0, shape_eFs _, ?_⟩
      by_cases cin : f0 ∈ fs
      · rw [any_in.mpr cin]
        rw [if_pos (show Shut fs f0 from .inl cin)] at hrd
        exact ⟨_, rfl, iteT (iteT (bad (D := { nx := fun _ _ => True, rt := fun _ _ => True }) hrd.symm ((s2.trans s13).trans s4) fun R q => ⟨_, rfl, _, _, rfl, rfl, q⟩))⟩
      rw [Bool.eq_false_iff.mpr (fun z => cin (any_in.mp z))]
      refine ⟨_, rfl, iteF ?_⟩
      obtain ⟨b, r, rfl, eb⟩ := fz4.fact
      obtain ⟨ys, ey, fy⟩ := lst4
      refine ⟨_, rfl, _, rfl, b, _, 0, _, rfl, rfl, SqT.of eb, at0, p, kindS f0, fs, rfl, ⟨ys, .inl ey, fy⟩, by omega, kindS_is f0, fun H5 s5 => ?_⟩
      by_cases cl : lim (kindS f0) ≤ GD.cnt (kindS f0) fs
      · rw [decide_eq_true cl]
        rw [if_pos (show Shut fs f0 from .inr cl)] at hrd
        exact ⟨_, rfl, iteT (bad (D := { nx := fun _ _ => True, rt := fun _ _ => True }) hrd.symm (((s2.trans s13).trans s4).trans s5) fun R q => ⟨_, rfl, _, _, rfl, rfl, q⟩)⟩
      rw [decide_eq_false cl]
      refine ⟨_, rfl, iteF ?_⟩
      have ns : ¬ Shut fs f0 := fun z => z.elim cin cl
      rw [if_neg ns] at hrd
      have e5 := s5 _ _ ey
      refine ⟨_, rfl, .inl ⟨rfl, _, SqL.of e5⟩, ?_⟩
      have ly : ys.length ≤ 34 := by
        rw [fy.len, List.length_map]
        omega
      refine ⟨_, rfl, p, ys, _, rfl, rfl, e5, Nat.lt_of_lt_of_le (show ys.length < 35 by omega) (by decide), ?_⟩
      refine ⟨_, _, fs ++ [f0], rfl, same_upd ((s2.trans s13).trans (s4.trans s5)) np, ⟨ys ++ [.ref b], upd_same, FzAll.mv (tups_lst e5) ?_⟩, ok.more hb0 ns, hrd⟩
      rw [List.map_append]
      exact (fy.same s5).snoc (fz4.same s5)
    · rintro σ H1 ⟨x4, x5, fs, rfl, s2, ⟨xs, ep, fx⟩, ok, hrd⟩
      rw [show st + (ls.length - st) = ls.length by omega, List.drop_length, rdP] at hrd
      refine ⟨_, rfl, p, xs, rfl, .inl ⟨SqL.of ep, fun t ht => ?_⟩⟩
      have st := same_new (o := .tup xs) ht
      exact q1 fs hrd.symm ok _ _ (s2.trans st) (.tup upd_same (fx.same st))
end
end K01
namespace GD
open PySem PySem.Spec PyProof.Rows L2
theorem keep_free {b e : Addr} {H H' : Hp} {o : HO} (k : Keep b H H') (hb : H' b = some o) (n : H' e = none) : H e = none := by
  cases c : H e with
  | none => rfl
  | some p =>
    have ne : e ≠ b := fun z => by
      rw [z, hb] at n
      cases n
    rw [k e p ne c] at n
    cases n
theorem lnsOf_pos (x : Str) : 1 ≤ (lnsOf x).length := split_pos x "\n"
theorem rdP_form {k i : Nat} {ls : List Str} (h : (rdP k i [] ls).1 ≠ 0) : ∃ n, rdP k i [] ls = (n + 1, []) := by
  refine ⟨(rdP k i [] ls).1 - 1, Prod.ext ?_ (rdP_pos ls i [] h)⟩
  show _ = (rdP k i [] ls).1 - 1 + 1
  omega
end GD
namespace K01
open PySem PySem.Spec PyProof.Rows L2 GD
section
variable {P : Program} {w : World} {K : PySem.W.Frag} {mg : Str → Option Value} {base : Heap}
theorem okx_init {f C fJ fM fA CJ fE : Addr} {fd fdJ fdM fdA fdE : FuncData} (F : Fun K "__init__" "Book.__init__" pInit f fd) (B : BookC K mg C) (S : Reads1 mg) (BB : BadB P w K mg base CJ fE fdE)
    (gJ : mg "read_jobs" = some (.ref fJ)) (bJ : Binds K fdJ ["line"] []) (kJ : PySem.W.keepIn K (.ref fJ) = true) (GJ : FnOk P w K mg base (L2.CX P w) 3 fJ fdJ ["line"] (spRdJobsX CJ))
    (gM : mg "read_manners" = some (.ref fM)) (bM : Binds K fdM ["lines", "jobs"] []) (kM : PySem.W.keepIn K (.ref fM) = true) (GM : FnOk P w K mg base CX0 1 fM fdM ["lines", "jobs"] spRdManX)
    (gA : mg "read_facts" = some (.ref fA)) (bA : Binds K fdA ["lines", "start", "many"] []) (kA : PySem.W.keepIn K (.ref fA) = true) (GA : FnOk P w K mg base (L2.CX P w) 5 fA fdA ["lines", "start", "many"] (spRdFsX CJ)) :
    FnOk P w K mg base (L2.CX P w) 6 f fd ["self", "text"] (spInitX K C CJ) := by
  refine F.okX scIn (fun vs H Q E h => ?_) (fun cdv A outer s H vs Q E hr h => ?_)
  · obtain ⟨b, dx, v, d, rfl, _⟩ := h
    rfl
  · obtain ⟨b, dx, v, d, rfl, hb, sh, hT, qS, qE, q⟩ := h
    have hr1 : Room 1 _ := hr.mono (by decide)
    have hr2 : Room 2 _ := hr.mono (by decide)
    have hr3 : Room 3 _ := hr.mono (by decide)
    refine ⟨_, pss_cons (ps_if (pt_not (pt_val (pe_callB call_isi (by rfl) S.f.isi (by decide +kernel) (pa_cons (pv 1) (pa_cons (pe_bltn (v := .ty "str") (by rfl) S.f.str PyProof.Rows.Boot.«str» rfl) pa_nil)))))
        (pss_one (ps_raise rfl (takes_of (E := E) rfl rfl rfl rfl) (pmk_oex BB.T.ox BB.T.ini BB.tI BB.G hr2 BB.b .nil pass0 (by rfl) BB.g (pa_cons pe_int pa_nil)))) pss_nil)
      (pss_cons (ps_set (i := 2) scIn.nd rfl (.inl rfl) (pe_bm PySem.F.plainAttrs_str PySem.F.slot_str_split PySem.F.type_str_split mt_split (pv 1) (pa_cons pe_str pa_nil)))
      (pss_cons (ps_fld (pv 0) (pv 1) rfl)
      (pss_cons (ps_fld (pv 0) (pe_call GJ hr3 (by rfl) gJ kJ bJ .nil (passes_call (takes_of (E := E) rfl rfl rfl rfl) fun _ _ _ _ h => h) (pa_cons (pe_ix ix_list (pv 2) pe_int (fun _ _ => rfl)) pa_nil)) rfl)
      (pss_cons (ps_set (i := 3) scIn.nd rfl (.inr rfl) (pe_call GM hr1 (by rfl) gM kM bM .nil pass0 (pa_cons (pv 2) (pa_cons (pe_fld (pv 0) rfl) pa_nil))))
      (pss_cons (ps_fld (pv 0) (pe_bm PySem.F.plainAttrs_str PySem.F.slot_str_join PySem.F.type_str_join mt_join pe_str (pa_cons (pe_slice sl_list (pv 2) po_none (po_some (pe_op op_add pe_int (pe_callB call_lenD (by rfl) S.f.len PySem.boot_len (pa_cons (pv 3) pa_nil))))) pa_nil)) rfl)
      (pss_cons (ps_fld (pv 0) (pe_callTy call_tuple_of (by rfl) S.f.tup (by decide +kernel) (pa_cons (pe_lc (own := [("job", 4)]) (g := gName 4) (tt := tYes) rfl scIn.nd (pi_tup (pe_fld (pv 0) rfl)) (blkOk_by (N := NIn) (sc := defScope pInit) (by decide +kernel))
          (fun _ _ _ _ _ => pg_name (i := 4) scIn.nd rfl (.inl rfl)) (fun _ _ _ _ _ => pts_nil) (fun _ _ _ _ _ => pe_dget2 (u1 hr) (pv 3) (pv 4) pe_str ⟨rfl, rfl, rfl, rfl⟩)) pa_nil)) rfl)
      (pss_cons (ps_fld (pv 0) (pe_op op_repU (pe_tup (pa_cons (pe_tup (pa_cons pe_int (pa_cons pe_int pa_nil))) pa_nil)) (pe_callB call_len_seq (by rfl) S.f.len PySem.boot_len (pa_cons (pe_fld (pv 0) rfl) pa_nil))) rfl)
      (pss_one (ps_fld (pv 0) (pe_call GA hr (by rfl) gA kA bA .nil (passes_call (takes_of (E := E) rfl rfl rfl rfl) fun _ _ _ _ h => h) (pa_cons (pv 2) (pa_cons (pe_op op_add pe_int (pe_callB call_lenD (by rfl) S.f.len PySem.boot_len (pa_cons (pv 3) pa_nil))) (pa_cons (pe_callB call_len_seq (by rfl) S.f.len PySem.boot_len (pa_cons (pe_fld (pv 0) rfl) pa_nil)) pa_nil)))) rfl))))))))), ?_⟩
    refine ⟨_, rfl, _, _, _, _, isStr d, rfl, .ty _, sh, kit_str d, _, rfl, ?_⟩
    have bad0 : ∀ {σ : L2.St} {D : Ends} {ta : TE}, (∀ x, d ≠ .str x) → (∀ R : VK, R (.int 0) H → ta σ H R) → (fun (_ : Ends) σ H => tMkO CJ (spInit K) [] (tCons ta tNil) σ H fun cls d H' => E cls d H') D σ H :=
      @fun σ D ta n hta => raise_any BB.T hta D fun e H2 z n2 x2 => qS n e H2 (sKeep z) n2 x2
    cases d with
    | none => exact iteT (bad0 (D := { nx := fun _ _ => True, rt := fun _ _ => True }) (fun _ z => nomatch z) fun R q => q)
    | bool b => exact iteT (bad0 (D := { nx := fun _ _ => True, rt := fun _ _ => True }) (fun _ z => nomatch z) fun R q => q)
    | int i => exact iteT (bad0 (D := { nx := fun _ _ => True, rt := fun _ _ => True }) (fun _ z => nomatch z) fun R q => q)
    | list ds => exact iteT (bad0 (D := { nx := fun _ _ => True, rt := fun _ _ => True }) (fun _ z => nomatch z) fun R q => q)
    | tuple ds => exact iteT (bad0 (D := { nx := fun _ _ => True, rt := fun _ _ => True }) (fun _ z => nomatch z) fun R q => q)
    | dict ds => exact iteT (bad0 (D := { nx := fun _ _ => True, rt := fun _ _ => True }) (fun _ z => nomatch z) fun R q => q)
    | str x =>
    obtain ⟨rfl, tn, tl, tw⟩ := hT x rfl
    refine iteF ?_
    obtain ⟨l0, rest, els⟩ : ∃ l0 rest, lnsOf x = l0 :: rest := by
      cases e : lnsOf x with
      | nil => exact absurd (lnsOf_pos x) (by rw [e]; decide)
      | cons a r => exact ⟨a, r, rfl⟩
    rw [els] at tn tl
    have hl0 := tl l0 List.mem_cons_self
    have hlr : ∀ y ∈ rest, y.length ≤ 400 := fun y hy => tl y (List.mem_cons_of_mem _ hy)
    rw [List.length_cons] at tn
    generalize enames : (wsOf l0).drop 1 = names at *
    have er0 : ¬ HeadOk (wsOf l0) → readT x = (1, []) := fun h => readT_bad (by rw [els]; exact h)
    have er1 : HeadOk (wsOf l0) → readT x = rdP names.length (1 + (rdM names [] rest).length) [] ((l0 :: rest).drop (1 + (rdM names [] rest).length)) := fun h => by
      have z := readT_good (x := x) (by rw [els]; exact h)
      rw [els, List.headD_cons, enames] at z
      exact z
    obtain ⟨nm, hnm, hnm2⟩ := rdM_pre (names := names) rest []
    rw [List.length_nil, Nat.zero_add] at hnm2
    generalize eml : rdM names [] rest = ml at *
    generalize ehd : Txt.join "\n" (l0 :: rest.take ml.length) = hd
    have bl := b_len hd x
    refine ⟨_, rfl, rfl, _, _, rfl, rfl, rfl, small_len (by omega), fun l nl => ?_⟩
    have s1 := same_new (o := .lst ((Txt.split x "\n").map V.str)) nl
    have el : (upd H l (.lst ((Txt.split x "\n").map V.str))) l = some (.lst ((l0 :: rest).map V.str)) := by rw [upd_same, ← els]; rfl
    generalize upd H l (.lst ((Txt.split x "\n").map V.str)) = H1 at s1 el ⊢
    have hb1 := s1 _ _ hb
    have nlb : l ≠ b := ne_of el hb1 (fun z => by cases z)
    refine ⟨_, rfl, _, rfl, b, C, dx, [], rfl, hb1, B.cl, B.nT, (by show 0 < 1000; decide), ?_⟩
    have k2 : Keep b H (upd H1 b (.ins C dx (b1 x))) := (sKeep s1).trans keep_at
    have el2 := keep_at (o := .ins C dx (b1 x)) _ _ nlb el
    have hb2 : (upd H1 b (.ins C dx (b1 x))) b = some (.ins C dx (b1 x)) := upd_same
    show tSeq _ _ _ _ (upd H1 b (.ins C dx (b1 x)))
    generalize upd H1 b (.ins C dx (b1 x)) = H2 at k2 el2 hb2 ⊢
    have n02 : ∀ {e : Addr}, H2 e = none → H e = none := fun n => keep_free k2 hb2 n
    refine ⟨_, rfl, l, _, 0, _, rfl, rfl, SqL.of el2, at0, l0, rfl, hl0, fun hh j H3 nj s3 ej => ?_, fun hh e H3 s3 n3 x3 => qE x 0 rfl (er0 hh) e H3 (k2.trans (sKeep s3)) (n02 n3) x3⟩
    rw [enames] at ej
    have okn := hh.2
    rw [enames] at okn
    have er := er1 hh
    obtain ⟨oj, doj, ej⟩ := ej
    have hb3 := s3 _ _ hb2
    have njb : j ≠ b := ne_of ej hb3 (fun z => by cases z)
    refine ⟨_, rfl, b, C, dx, _, rfl, hb3, B.cl, B.nJ, (bl j j j j).1, ?_⟩
    have k4 : Keep b H2 (upd H3 b (.ins C dx (b2 x j))) := (sKeep s3).trans keep_at
    have ej4 := keep_at (o := .ins C dx (b2 x j)) _ _ njb ej
    have hb4 : (upd H3 b (.ins C dx (b2 x j))) b = some (.ins C dx (b2 x j)) := upd_same
    show tSeq _ _ _ _ (upd H3 b (.ins C dx (b2 x j)))
    generalize upd H3 b (.ins C dx (b2 x j)) = H4 at k4 ej4 hb4 ⊢
    have el4 := k4 _ _ nlb el2
    refine ⟨_, rfl, _, rfl, b, C, dx, _, _, rfl, hb4, B.cl, B.nJ, b2_jobs _ _, l, j, l0, names, rest, rfl, el4, ⟨oj, doj, ej4⟩, hlr, by omega, fun d H5 nd s5 ed => ?_⟩
    rw [eml] at ed
    have hb5 := s5 _ _ hb4
    have ej5 := s5 _ _ ej4
    have ndb : d ≠ b := ne_of ed hb5 (fun z => by cases z)
    have lkv0 : (mKv ml).length = ml.length := List.length_map ..
    refine ⟨rfl, _, rfl, _, rfl, d, _, rfl, ed, _, _, rfl, rfl, _, rfl, l, _, rfl, SqL.of (s5 _ _ el4), fun ph nph => ?_⟩
    have ecut : cutV ((l0 :: rest).map V.str) none (some (1 + ((mKv ml).length : Int))) = ((l0 :: rest.take ml.length).map V.str) := by
      rw [lkv0, show (1 + (ml.length : Int)) = ((1 + ml.length : Nat) : Int) by omega, cut_strs_to, Nat.add_comm, List.take_succ_cons]
    rw [ecut]
    have sh := same_new (o := .lst ((l0 :: rest.take ml.length).map V.str)) nph
    have eh : (upd H5 ph (.lst ((l0 :: rest.take ml.length).map V.str))) ph = some (.lst ((l0 :: rest.take ml.length).map V.str)) := upd_same
    generalize upd H5 ph (.lst ((l0 :: rest.take ml.length).map V.str)) = H5a at sh eh ⊢
    refine ⟨_, ph, _, rfl, rfl, .inl (SqL.of eh), ?_, ?_⟩
    · have z := sum_len (ys := l0 :: rest.take ml.length) (k := 400) fun y hy => by
        rcases List.mem_cons.mp hy with e | e
        · rw [e]
          exact hl0
        · exact hlr y (List.mem_of_mem_take e)
      have z2 : (rest.take ml.length).length ≤ 200 := by
        rw [List.length_take]
        omega
      rw [List.length_cons] at z ⊢
      rw [show ("\n" : Str).length = 1 from rfl]
      omega
    rw [ehd]
    have hb5a := sh _ _ hb5
    refine ⟨_, rfl, b, C, dx, _, rfl, hb5a, B.cl, B.nH, (bl j j j j).2.1, ?_⟩
    have k4b : Keep b H4 (upd H5a b (.ins C dx (bh hd x j))) := ((sKeep s5).trans (sKeep sh)).trans keep_at
    have ej5b := keep_at (o := .ins C dx (bh hd x j)) _ _ njb (sh _ _ ej5)
    have ed5b := keep_at (o := .ins C dx (bh hd x j)) _ _ ndb (sh _ _ ed)
    have hb5b : (upd H5a b (.ins C dx (bh hd x j))) b = some (.ins C dx (bh hd x j)) := upd_same
    show tSeq _ _ _ _ (upd H5a b (.ins C dx (bh hd x j)))
    clear ed hb5 ej5
    generalize upd H5a b (.ins C dx (bh hd x j)) = H5b at k4b ej5b ed5b hb5b ⊢
    have hb5 := hb5b
    have ej5 := ej5b
    have ed := ed5b
    refine ⟨_, rfl, b, C, dx, _, _, rfl, hb5, B.cl, B.nJ, bh_jobs _ _, j, rfl, ⟨_, sqT_fz ej5⟩, fun D hD => ?_⟩
    have nl4 := okn.l4
    have nl1 := okn.l1
    refine lc_tup (K := K) (a := j) (xs := names.map V.str) (fun i H' => Same H5b H' ∧ H' D = some (.lst (((names.take i).map (manOf ml)).map V.str))) ⟨same_new hD, upd_same⟩ (fun i H' _ ⟨s6, _⟩ => sqT_fz (s6 _ _ ej5)) ?_ ?_
    · rintro i v H' hx ⟨s6, eD⟩
      rw [List.getElem?_map] at hx
      cases c : names[i]? with
      | none =>
        rw [c] at hx
        cases hx
      | some y =>
        rw [c] at hx
        obtain rfl : V.str y = v := Option.some.inj hx
        have hi : i < names.length := (List.getElem?_eq_some_iff.mp c).1
        have ed6 := s6 _ _ ed
        refine ⟨rfl, _, rfl, d, rfl, .inl ⟨_, .inl ed6⟩, _, rfl, _, DGet.k (k := .inr y) ed6, ?_⟩
        rw [valV_mKv]
        refine ⟨_, eD, ?_, same_upd s6 hD, ?_⟩
        · rw [List.length_map, List.length_map, List.length_take]
          exact Nat.lt_of_le_of_lt (Nat.min_le_left _ _) (Nat.lt_of_lt_of_le (show i < 5 by omega) (by decide))
        · rw [upd_same, take_next c, List.map_append, List.map_append]
          rfl
    · rintro H6 ⟨s6, eD⟩
      rw [List.length_map, List.take_length] at eD
      refine ⟨D, _, rfl, .inl ⟨SqL.of eD, fun m hm => ?_⟩⟩
      have s7 := same_new (o := .tup ((names.map (manOf ml)).map V.str)) hm
      have em : (upd H6 m (.tup ((names.map (manOf ml)).map V.str))) m = some (.tup ((names.map (manOf ml)).map V.str)) := upd_same
      generalize upd H6 m (.tup ((names.map (manOf ml)).map V.str)) = H7 at s7 em ⊢
      have s57 := s6.trans s7
      have hb7 := s57 _ _ hb5
      have nmb : m ≠ b := ne_of em hb7 (fun z => by cases z)
      refine ⟨_, rfl, b, C, dx, _, rfl, hb7, B.cl, B.nM, (bl j j j j).2.2.1, ?_⟩
      have k8 : Keep b H4 (upd H7 b (.ins C dx (b3 hd x j m))) := (k4b.trans (sKeep s57)).trans keep_at
      have em8 := keep_at (o := .ins C dx (b3 hd x j m)) _ _ nmb em
      have ed8 := keep_at (o := .ins C dx (b3 hd x j m)) _ _ ndb (s57 _ _ ed)
      have hb8 : (upd H7 b (.ins C dx (b3 hd x j m))) b = some (.ins C dx (b3 hd x j m)) := upd_same
      show tSeq _ _ _ _ (upd H7 b (.ins C dx (b3 hd x j m)))
      generalize upd H7 b (.ins C dx (b3 hd x j m)) = H8 at k8 em8 ed8 hb8 ⊢
      have ej8 := k8 _ _ njb ej4
      have el8 := k8 _ _ nlb el4
      refine ⟨(by show 2 ≤ sizeLine; decide), fun t0 ht0 => ⟨(by show 1 ≤ sizeLine; decide), fun t1 ht1 => ?_⟩⟩
      have sa := same_new (o := .tup [.int 0, .int 0]) ht0
      have ea : (upd H8 t0 (.tup [.int 0, .int 0])) t0 = some (.tup [.int 0, .int 0]) := upd_same
      generalize upd H8 t0 (.tup [.int 0, .int 0]) = H9 at sa ea ht1 ⊢
      have sb := same_new (o := .tup [.ref t0]) ht1
      have eb : (upd H9 t1 (.tup [.ref t0])) t1 = some (.tup [.ref t0]) := upd_same
      have ea2 := sb _ _ ea
      generalize upd H9 t1 (.tup [.ref t0]) = H10 at sb eb ea2 ⊢
      have sab := sa.trans sb
      have hb10 := sab _ _ hb8
      refine ⟨_, rfl, b, C, dx, _, _, rfl, hb10, B.cl, B.nJ, b3_jobs _ _ _, j, _, rfl, .inr (sqT_fz (sab _ _ ej8)), ?_⟩
      refine ⟨t1, names.length, [.ref t0], rfl, by rw [List.length_map], eb, (fun z => by cases z), nl1, by omega, (by show 1 ≤ 1000; decide), fun f H11 s11 ef => ?_⟩
      have hb11 := s11 _ _ hb10
      have s811 := sab.trans s11
      have nfb : f ≠ b := ne_of ef hb11 (fun z => by cases z)
      have ff : Fz H11 (.ref f) (eS (List.replicate names.length (0, 0))) := by
        refine .tup ef ?_
        have e0 : Fz H11 (.ref t0) (eP (0, 0)) := .tup (s11 _ _ ea2) (.cons (.int 0) (.cons (.int 0) .nil))
        generalize names.length = nn
        induction nn with
        | zero => exact .nil
        | succ nn ih => exact .cons e0 ih
      refine ⟨_, rfl, b, C, dx, _, rfl, hb11, B.cl, B.nF, (bl j m j j).2.2.2.1, ?_⟩
      have k12 : Keep b H8 (upd H11 b (.ins C dx (b4 hd x j m f))) := (sKeep s811).trans keep_at
      have ff12 := ff.mv (Keep.tupsI hb11 (keep_at (o := .ins C dx (b4 hd x j m f))))
      have hb12 : (upd H11 b (.ins C dx (b4 hd x j m f))) b = some (.ins C dx (b4 hd x j m f)) := upd_same
      show Ends.nx _ _ (upd H11 b (.ins C dx (b4 hd x j m f)))
      generalize upd H11 b (.ins C dx (b4 hd x j m f)) = H12 at k12 ff12 hb12 ⊢
      have ej12 := k12 _ _ njb ej8
      have el12 := k12 _ _ nlb el8
      have ed12 := k12 _ _ ndb ed8
      have em12 := k12 _ _ nmb em8
      have lkv : (mKv ml).length = ml.length := List.length_map ..
      have n012 : ∀ {e : Addr}, H12 e = none → H e = none := fun n => keep_free (((k2.trans k4).trans k8).trans k12) hb12 n
      refine ⟨_, rfl, _, rfl, d, _, rfl, ed12, _, _, rfl, rfl, _, rfl, b, C, dx, _, _, rfl, hb12, B.cl, B.nJ, b4_jobs _ _ _ _, j, _, rfl, .inr (sqT_fz ej12), ?_⟩
      refine ⟨l, l0 :: rest, 1 + ml.length, names.length, ?_, el12, ?_, ?_, ?_, nl1, nl4, fun fs hfs ok v H13 s13 fz => ?_, fun n hn e H13 s13 n13 x13 => qE x n rfl (er.trans hn) e H13 ((((k2.trans k4).trans k8).trans k12).trans (sKeep s13)) (n012 n13) x13⟩
      · rw [lkv, List.length_map]
        show [V.ref l, V.int (1 + (ml.length : Int)), V.int (names.length : Int)] = _
        rw [show (1 + (ml.length : Int)) = ((1 + ml.length : Nat) : Int) by omega]
      · rw [List.length_cons]
        omega
      · rw [List.length_cons]
        omega
      · exact tl
      obtain ⟨a, xs, rfl, ha, fa⟩ := fz.t
      have hb13 := s13 _ _ hb12
      refine ⟨_, rfl, b, C, dx, _, rfl, hb13, B.cl, B.nA, (bl j m f j).2.2.2.2.1, ?_⟩
      have tF := Keep.tupsI hb13 (keep_at (o := .ins C dx (b5 hd x j m f a)))
      have kF : Keep b H12 (upd H13 b (.ins C dx (b5 hd x j m f a))) := (sKeep s13).trans keep_at
      exact q x fs rfl (er.trans hfs) names.length ok nl4 _ ((((k2.trans k4).trans k8).trans k12).trans kF) ⟨dx, hd, j, m, f, a, upd_same, fz.mv tF⟩
end
end K01
namespace GD
open PySem PySem.Spec PyProof.Rows L2 LamX
/-! walkTG of K10T4 with any number of tables: built, not used yet -/
section
open PySem.W PySem.W.OpenLaw in
theorem walkTGs {l : PySem.W.OpenLaw} {n k : Nat} {q : Program} {loose : List Str} {XP : (Str → Option Value) → Heap → Prop} {YP : World → Heap → Prop} {d : DefRec} {K : Params → PySem.W.Frag} {sp : PySem.W.Frag → List Addr → Sp} {x : Str} {ts : List Addr}
    (hn : l.most = some n) (hn2 : n ≤ sizeLine) (hdf : d.params.defaults = []) (hr : Room k callerA)
    (hY : ∀ (w : World) (h : Heap), YP w h → (K w.params).In h) (hYt : ∀ (w : World) (h : Heap), YP w h → ∀ P ∈ ts, h.get? P = some (tabObj #[]))
    (F : ∀ (w : World) (mg : Str → Option Value) (fa : Addr) (h : Heap), (K w.params).In h → h.Ns mainGlobals mg → mg d.name = some (.ref fa) →
      ∃ (fd : FuncData) (cs : List (Addr × Addr)), (∀ p ∈ cs, p.2 ∈ ts ∧ (K w.params).lookup p.2 = none ∧ codeHdIn (K w.params) p.1 p.2 = true) ∧ (∀ (s : Shared) (u : Value), BindsTo s fd ⟨[u], []⟩ [(x, u)]) ∧
        ∀ base : Heap, (K w.params).In base → base.Ns mainGlobals mg → (∀ p ∈ cs, TabB base mg p.1 p.2) → FnG l.prog w (K w.params) mg base k fa fd [x] (sp (K w.params) (cs.map (·.2))))
    (hsp : ∀ (K : PySem.W.Frag) (H : Hp) (a : Addr) (Ps : List Addr) (ns : List Int), ns.length ≤ n → SqL K H a (ns.map V.int) → (∀ P ∈ Ps, H P = some (.tbl #[])) → sp K Ps [.ref a] H (fun v _ => v = .bl true) E0) :
    PySem.W.WalkO q loose XP YP l.row.toRowW d [] (fun f vs => PySem.call f vs) := by
  refine Att.attach_call hn hdf fun w s₀ s₁ mg mb fa o pm cd doc a vs ns G Y ho hd hcd hmg ha hi hlen hg => ?_
  have KX := hY w _ Y
  obtain ⟨fd, cs, hcs, hb, hF⟩ := F w mg fa _ KX G.T.g hmg
  let Ps := cs.map (·.2)
  have inP : ∀ P ∈ Ps, ∃ c, (c, P) ∈ cs := fun P hP => by
    obtain ⟨p, hp, e⟩ := List.mem_map.mp hP
    exact ⟨p.1, by rw [← e]; exact hp⟩
  have hPo : ∀ P ∈ Ps, s₁.heap.get? P = some { cls := .none, data := .fields #[] } := fun P hP => by
    obtain ⟨c, hc⟩ := inP P hP
    exact hYt w _ Y P (hcs _ hc).1
  have aP : a ∉ Ps := fun e => by
    rw [hPo a e] at ha
    cases ha
  have rv := vals_ints hi
  have hl : (ns.map V.int).length ≤ sizeLine := by
    rw [List.length_map]
    exact Nat.le_trans hlen hn2
  let ob : Obj := { cls := .type "list", data := .seq vs.toArray }
  let H : Hp := fun b => if b ∈ Ps then some (.tbl #[]) else if b = a ∧ (K w.params).lookup a = none then some (.frz ob (.lst (ns.map V.int))) else none
  have HP : ∀ P ∈ Ps, H P = some (.tbl #[]) := fun P hP => if_pos hP
  have hH : ∀ b u, H b = some u → (b ∈ Ps ∧ u = .tbl #[]) ∨ (b ∉ Ps ∧ (b = a ∧ (K w.params).lookup a = none) ∧ u = .frz ob (.lst (ns.map V.int))) := fun b u e => by
    by_cases p : b ∈ Ps
    · have z : some (HO.tbl #[]) = some u := (if_pos p).symm.trans e
      exact .inl ⟨p, (Option.some.inj z).symm⟩
    · have e2 : (if b = a ∧ (K w.params).lookup a = none then some (HO.frz ob (.lst (ns.map V.int))) else none) = some u := (if_neg p).symm.trans e
      by_cases c : b = a ∧ (K w.params).lookup a = none
      · have z : some (HO.frz ob (.lst (ns.map V.int))) = some u := (if_pos c).symm.trans e2
        exact .inr ⟨p, c, (Option.some.inj z).symm⟩
      · have z : (none : Option HO) = some u := (if_neg c).symm.trans e2
        cases z
  have hok : HOk l.prog w H s₁.heap := fun b u e => by
    rcases hH b u e with ⟨hb, rfl⟩ | ⟨_, ⟨rfl, _⟩, rfl⟩
    · exact hPo b hb
    · exact ⟨ha, hl, vs, _, rv, ha⟩
  have hS : SqL (K w.params) H a (ns.map V.int) := by
    cases c : (K w.params).lookup a with
    | none => exact .inl (.inr ⟨ob, (if_neg aP).trans (if_pos ⟨rfl, c⟩)⟩)
    | some o2 =>
      have e := KX a o2 c
      rw [ha] at e
      cases e
      exact .inr ⟨_, vs.toArray, _, c, rfl, rfl, rfl, by rw [List.size_toArray, ← rv.length]; exact hl, rv⟩
  have free : ∀ {b : Addr} {o : Obj}, s₁.heap.get? b = some o → o.data ≠ .fields #[] → (∀ vs n, o.data ≠ .seq vs n) → H b = none := fun {b o} e n1 n2 => by
    cases c : H b with
    | none => rfl
    | some u =>
      rcases hH b u c with ⟨hb, _⟩ | ⟨_, ⟨rfl, _⟩, _⟩
      · rw [hPo b hb] at e
        cases e
        exact (n1 rfl).elim
      · rw [ha] at e
        cases e
        exact (n2 _ _ rfl).elim
  have nsB : ∀ {b : Addr} {m : Str → Option Value}, s₁.heap.Ns b m → (hidT s₁.heap H).Ns b m := fun {b m} z => by
    obtain ⟨o, es, ep, e, d, r⟩ := z
    exact ⟨o, es, ep, hidT_get e (free e (by rw [d]; exact fun z => nomatch z) (by rw [d]; exact fun _ _ z => nomatch z)), d, r⟩
  have KB : (K w.params).In (hidT s₁.heap H) := fun b o e => hidT_get (KX b o e) (by
    cases c : H b with
    | none => rfl
    | some u =>
      rcases hH b u c with ⟨hb, _⟩ | ⟨_, ⟨rfl, z⟩, _⟩
      · obtain ⟨c2, hc2⟩ := inP b hb
        rw [(hcs _ hc2).2.1] at e
        cases e
      · rw [z] at e
        cases e)
  obtain ⟨mc, lim1, lim2⟩ := G.T.nolimit
  have gP : ∀ P ∈ Ps, mainGlobals ≠ P := fun P hP z => by
    obtain ⟨o, es, ep, e, d, _⟩ := G.T.g
    rw [z, hPo P hP] at e
    cases e
    cases d
  have tb : ∀ p ∈ cs, TabB (hidT s₁.heap H) mg p.1 p.2 := fun p hp => by
    have hP : p.2 ∈ Ps := List.mem_map_of_mem hp
    refine ⟨codeHd_of_K KB (hcs p hp).2.2, ?_, gP _ hP⟩
    obtain ⟨bm, ob2, b1, b2, b3, b4, b5, b6⟩ := G.T.bmain
    refine ⟨bm, ob2, b1, b2, fun z => ?_, fun z => ?_, hidT_get b3 (free b3 (by rw [b6]; exact fun z => nomatch z) (by rw [b6]; exact fun _ _ z => nomatch z)), b4, b5, b6⟩
    · obtain ⟨o, es, ep, e, d, _⟩ := G.T.g
      rw [z, e] at b3
      cases b3
      rw [d] at b6
      cases b6
    · rw [z, hPo _ hP] at b3
      cases b3
      cases b6
  have e0 : Env0 l.prog w (K w.params) mg (hidT s₁.heap H) callerA [] s₁ H :=
    ⟨rfl, ⟨KB, nsB G.T.g, ⟨mb, nsB G.T.b, G.T.builtins⟩, ⟨mc, nsB lim1, lim2⟩⟩, fun b o e => of_hidT e, Nat.le_of_eq (hidT_size _ _), trivial, fun b hb => (nomatch hb), hok, .of_eq hg⟩
  refine codeAny_mono ((hF _ KB (nsB G.T.g) tb).run callerA [] s₁ H [.ref a] [.ref a] (fun v _ => v = .bl true) rfl hr e0 (hb s₁ (.ref a)) (.cons rfl .nil) (hsp _ H a Ps ns hlen hS HP)) fun r s' h => ?_
  cases r with
  | error e => exact False.elim h
  | ok fl =>
    cases fl with
    | next => exact False.elim h
    | brk => exact False.elim h
    | cont => exact False.elim h
    | ret u =>
      obtain ⟨v, H', os, bare, un, hok', r', rfl⟩ := h
      obtain rfl : u = Value.bool true := r'
      have stays : ∀ b o, b ∉ Ps → s₁.heap.get? b = some o → s'.heap.get? b = some o := fun b o nb e => by
        cases c : H b with
        | none => exact un.keep b o e c (fun z => nomatch z) (fun z => nomatch z)
        | some u =>
          rcases hH b u c with ⟨z, _⟩ | ⟨_, ⟨rfl, _⟩, rfl⟩
          · exact (nb z).elim
          · obtain ⟨e2, _⟩ := hok' b _ (un.frzs b _ _ c)
            rw [ha] at e
            cases e
            exact e2
      have grown : ∀ P ∈ Ps, ∃ more : Array Value, s'.heap.get? P = some { cls := .none, data := .fields (#[] ++ more) } := fun P hP => by
        obtain ⟨more, hm⟩ := un.tbls P #[] (HP P hP)
        exact ⟨more, hok' P _ hm⟩
      refine ⟨rfl, ⟨fun b o e => ?_, fun b o e => ?_⟩, os, bare⟩
      · by_cases p : b ∈ Ps
        · obtain ⟨c2, hc2⟩ := inP b p
          obtain ⟨more, hP'⟩ := grown b p
          rw [hPo b p] at e
          cases e
          exact .inr (.inl ⟨((codeHd_of_K KX (hcs _ hc2).2.2).tab (hPo b p)).isCodeTable, rfl, #[], #[] ++ more, rfl, by rw [Array.empty_append, hP', Array.empty_append]⟩)
        · exact .inl (stays b o p e)
      · by_cases p : b ∈ Ps
        · obtain ⟨more, hP'⟩ := grown b p
          exact ⟨_, hP'⟩
        · exact ⟨o, stays b o p e⟩
end
end GD
namespace GD
open PySem PySem.Spec PyProof.Rows L2
def digS : Str := "0123456789"
def letS : Str := "abcdefghijklmnopqrstuvwxyz"
theorem in_dig (c : Nat) : decide (c ∈ digS.cps.toList) = (decide (48 ≤ c) && decide (c ≤ 57)) := by
  show decide (c ∈ [48, 49, 50, 51, 52, 53, 54, 55, 56, 57]) = _
  rw [Bool.eq_iff_iff, Bool.and_eq_true, decide_eq_true_iff, decide_eq_true_iff, decide_eq_true_iff]
  simp only [List.mem_cons, List.not_mem_nil, or_false]
  omega
theorem in_let (c : Nat) : decide (c ∈ letS.cps.toList) = letB c := by
  show decide (c ∈ [97, 98, 99, 100, 101, 102, 103, 104, 105, 106, 107, 108, 109, 110, 111, 112, 113, 114, 115, 116, 117, 118, 119, 120, 121, 122]) = _
  unfold letB
  rw [Bool.eq_iff_iff, Bool.and_eq_true, decide_eq_true_iff, decide_eq_true_iff, decide_eq_true_iff]
  simp only [List.mem_cons, List.not_mem_nil, or_false]
  omega
def digC (c : Nat) : Bool := decide (c ∈ digS.cps.toList)
theorem isNum_all (x : Str) : isNum x = (!decide (x.length = 0) && (TL.tl x).all digC) := by
  rw [Bool.eq_iff_iff]
  constructor
  · intro h
    obtain ⟨dg, ne⟩ := isNum_digits h
    rw [Bool.and_eq_true, Bool.not_eq_true', decide_eq_false_iff_not]
    refine ⟨fun z => ne (List.eq_nil_of_length_eq_zero (by rw [← TL.len_tl]; exact z)), List.all_eq_true.mpr fun c hc => ?_⟩
    have := dg c hc
    rw [digC, in_dig, decide_eq_true this.1, decide_eq_true this.2]
    rfl
  · intro h
    rw [Bool.and_eq_true, Bool.not_eq_true', decide_eq_false_iff_not] at h
    refine digits_isNum (fun c hc => ?_) fun z => h.1 (by rw [TL.len_tl, z]; rfl)
    have z := List.all_eq_true.mp h.2 c hc
    rw [digC, in_dig, Bool.and_eq_true, decide_eq_true_iff, decide_eq_true_iff] at z
    exact z
/-- what count_in tells -/
def cntV (x : Str) : V := if isNumeral x = true then .int (valN x) else .non
def spCntL : Sp := fun vs H Q _ => ∃ x : Str, vs = [.str x] ∧ x.length ≤ 400 ∧ ∀ H', Same H H' → Q (cntV x) H'
def optS : Option Stn → PyData
  | none => .none
  | some s => eS s
def spStnW : Sp := fun vs H Q _ => ∃ (l : Addr) (ws : List Str) (k : Nat), vs = [.ref l, .int k] ∧ H l = some (.lst (ws.map V.str)) ∧ ws.length ≤ 500 ∧ k ≤ 100 ∧ (∀ x ∈ ws, x.length ≤ 400) ∧ ∀ v H', Same H H' → Fz H' v (optS (stnL k ws)) → Q v H'
def okL (p : Int × Int) : Bool := decide (p.2 ≤ p.1) && decide (p.1 ≤ 40)
theorem okL_Q : ∀ ws : List Str, (prs (ws.map valN)).all okL = (prs (ws.map valN)).all okQ
  | [] => rfl
  | [_] => rfl
  | a :: b :: r => by
    show ((valN a, valN b) :: prs (r.map valN)).all okL = ((valN a, valN b) :: prs (r.map valN)).all okQ
    rw [List.all_cons, List.all_cons, okL_Q r]
    congr 1

theorem inV_non {ws : List Str} : inV .non (ws.map cntV) = !ws.all isNumeral := by
  unfold inV
  induction ws with
  | nil => rfl
  | cons x r ih =>
    rw [List.map_cons, List.any_cons, ih, List.all_cons, cntV]
    cases isNumeral x with
    | true => rfl
    | false => rfl
theorem cntV_flat {ws : List Str} : (ws.map cntV).all flatV = true := by
  rw [List.all_map]
  refine List.all_eq_true.mpr fun x _ => ?_
  show flatV (cntV x) = true
  unfold cntV
  split <;> rfl
end GD
namespace K01
open PySem PySem.Spec PyProof.Rows L2 GD
abbrev sCountIn : Stmt := top 61
abbrev sIsName : Stmt := top 62
abbrev sStnIn : Stmt := top 63
section
variable {P : Program} {w : World} {K : PySem.W.Frag} {mg : Str → Option Value} {base : Heap}
abbrev NCi : List Str := ["_law_word", "_law_sign"]
theorem scCi : FnScope NCi ["_law_word"] (defScope sCountIn) := ⟨rfl, rfl, rfl, by decide +kernel, rfl, by decide +kernel, by decide +kernel⟩
theorem scNi : FnScope NCi ["_law_word"] (defScope sIsName) := ⟨rfl, rfl, rfl, by decide +kernel, rfl, by decide +kernel, by decide +kernel⟩
theorem ok_cntL {f : Addr} {fd : FuncData} (F : Fun K "_law_count_in" "_law_count_in" sCountIn f fd) (S : Forms1 mg) : FnOk P w K mg base CX0 1 f fd ["_law_word"] spCntL := by
  refine F.ok scCi (fun vs H Q E h => ?_) (fun cdv A outer s H vs Q E hr h => ?_)
  · obtain ⟨x, rfl, _⟩ := h
    rfl
  · obtain ⟨x, rfl, hx, q⟩ := h
    refine ⟨_, pss_cons (ps_if (pw_or (pt_cmpR op_eq (pv 0) pe_str (nomark _)) (pw_or (pt_not (pt_val (pe_callB (cr_all rfl) (by rfl) S.all (by decide +kernel) (pa_cons (pe_lc (own := [("_law_sign", 1)]) (g := gName 1) (tt := tYes) rfl scCi.nd (pi_str (pv 0)) (blkOk_by (N := NCi) (sc := defScope sCountIn) (by decide +kernel))
          (fun _ _ _ _ _ => pg_name (i := 1) scCi.nd rfl (.inl rfl)) (fun _ _ _ _ _ => pts_nil) (fun _ _ _ _ _ => pe_cmpR op_in_sign (pv 1) pe_str (by rfl))) pa_nil))))
        (pw_or1 (pw_and (pt_cmpR op_eq (pe_ix ix_str (pv 0) pe_int (fun _ _ => rfl)) pe_str (nomark _)) (pw_and1 (pt_cmpR op_ne (pv 0) pe_str (nomark _)))).pt))).pt (pss_one (ps_ret pe_non)) pss_nil)
      (pss_one (ps_ret (pe_callTy call_int_str (by rfl) S.int (by decide +kernel) (pa_cons (pv 0) pa_nil)))), ?_⟩
    refine ⟨_, rfl, rfl, _, rfl, ?_⟩
    have no : isNumeral x = false → ∀ H', Same H H' → Q .non H' := fun e H' s' => by
      have z := q H' s'
      rw [cntV, e] at z
      exact z
    by_cases c0 : x = ""
    · subst c0
      exact iteT (iteT (no (by decide +kernel) H (Same.refl H)))
    rw [decide_eq_false (show ¬ V.str x = V.str "" from fun z => c0 (V.str.inj z))]
    have hx0 : x.length ≠ 0 := fun z => c0 (TL.ext_tl (by
      rw [TL.len_tl] at z
      rw [List.eq_nil_of_length_eq_zero z]
      rfl))
    refine iteF ?_
    refine ⟨_, rfl, x, rfl, fun D hD => ?_⟩
    refine lc_it (walk_str (z := x)) (fun i H' => Same H H' ∧ H' D = some (.lst ((((TL.tl x).take i).map digC).map V.bl))) ⟨same_new hD, upd_same⟩ (fun _ _ _ _ => True.intro) ?_ ?_
    · rintro i v Hx H' hi ⟨s1, eD⟩ ⟨rfl, c, hc, rfl⟩
      have hc2 : (TL.tl x)[i]? = some c := by
        rw [← hc]
        exact Array.getElem?_toList
      refine ⟨rfl, _, rfl, c, _, rfl, rfl, _, eD, ?_, same_upd s1 hD, ?_⟩
      · rw [List.length_map, List.length_map, List.length_take]
        exact Nat.lt_of_le_of_lt (Nat.min_le_right _ _) (by rw [← TL.len_tl]; exact Nat.lt_of_lt_of_le (show x.length < 401 by omega) (by decide))
      · rw [upd_same, take_next hc2, List.map_append, List.map_append]
        rfl
    · rintro H' ⟨s1, eD⟩
      rw [List.take_of_length_le (by rw [← TL.len_tl]; exact Nat.le_refl _)] at eD
      refine ⟨D, _, rfl, SqL.of eD, ?_⟩
      have nm := isNum_all x
      rw [decide_eq_false hx0, Bool.not_false, Bool.true_and] at nm
      rw [show ((TL.tl x).map digC).all id = (TL.tl x).all digC by rw [List.all_map]; rfl]
      refine ⟨_, rfl, ?_⟩
      cases ha : (TL.tl x).all digC with
      | false =>
        rw [ha] at nm
        refine iteT (iteT (no ?_ H' s1))
        rw [isNumeral, nm, Bool.false_and]
      | true =>
        rw [ha] at nm
        obtain ⟨dg, ne⟩ := isNum_digits nm
        have yes : isNumeral x = true → tRet (tCB (fun xs H Q => ∃ a n, xs = [V.str a] ∧ intText? a = some n ∧ a.length ≤ 640 ∧ Q (V.int n) H) (tCons (tVar 0) tNil)) { nx := fun x H' => Q V.non H', rt := Q } (L2.start NCi [V.str x]) H' := fun e => by
          refine ⟨_, rfl, x, _, rfl, intText_digits dg ne (by omega), by omega, ?_⟩
          have z := q H' s1
          rw [cntV, if_pos e] at z
          exact z
        have hc : ∃ c r, TL.tl x = c :: r := by
          cases e : TL.tl x with
          | nil => exact absurd e ne
          | cons c r => exact ⟨c, r, rfl⟩
        obtain ⟨c, r, ec⟩ := hc
        refine iteF ⟨_, rfl, x, 0, c, rfl, rfl, small_len (by omega), ?_, rfl, _, rfl, ?_⟩
        · show atI (TL.tl x) 0 = some c
          rw [ec]
          exact atI_nat (j := 0) rfl
        by_cases h48 : c = 48
        · rw [decide_eq_true (show V.str ⟨#[c]⟩ = V.str "0" by rw [h48]; rfl)]
          refine iteT ⟨_, rfl, rfl, _, rfl, ?_⟩
          by_cases h0 : x = "0"
          · rw [decide_eq_true (show V.str x = V.str "0" by rw [h0])]
            refine iteF (yes ?_)
            rw [isNumeral, nm, decide_eq_true h0]
            rfl
          · rw [decide_eq_false (show ¬ V.str x = V.str "0" from fun z => h0 (V.str.inj z))]
            refine iteT (no ?_ H' s1)
            rw [isNumeral, nm, decide_eq_false h0, ec, h48]
            rfl
        · rw [decide_eq_false (show ¬ V.str ⟨#[c]⟩ = V.str "0" from fun z => h48 (List.cons.inj (congrArg TL.tl (V.str.inj z))).1)]
          refine iteF (iteF (yes ?_))
          rw [isNumeral, nm, ec, decide_eq_false (show ¬ (c :: r).head? = some 48 from fun z => h48 (Option.some.inj z)), Bool.not_false, Bool.or_true]
          rfl
theorem ok_nameL {f : Addr} {fd : FuncData} (F : Fun K "_law_is_name" "_law_is_name" sIsName f fd) (S : Forms1 mg) : FnOk P w K mg base CX0 1 f fd ["_law_word"] spName1 := by
  refine F.ok scNi (fun vs H Q E h => ?_) (fun cdv A outer s H vs Q E hr h => ?_)
  · obtain ⟨x, rfl, _⟩ := h
    rfl
  · obtain ⟨x, rfl, hx, q⟩ := h
    have xl : x.length ≤ sizeLine := small_len hx
    refine ⟨_, pss_one (ps_ret (pe_and (pe_chain op_lt op_lt pe_int (pe_callB call_len_str (by rfl) S.len PySem.boot_len (pa_cons (pv 0) pa_nil)) pe_int)
      (pe_one (pe_callB (cr_all rfl) (by rfl) S.all (by decide +kernel) (pa_cons (pe_lc (own := [("_law_sign", 1)]) (g := gName 1) (tt := tYes) rfl scNi.nd (pi_str (pv 0)) (blkOk_by (N := NCi) (sc := defScope sIsName) (by decide +kernel))
        (fun _ _ _ _ _ => pg_name (i := 1) scNi.nd rfl (.inl rfl)) (fun _ _ _ _ _ => pts_nil) (fun _ _ _ _ _ => pe_cmpR op_in_sign (pv 1) pe_str (by rfl))) pa_nil))))), ?_⟩
    refine ⟨_, rfl, x, rfl, xl, _, _, rfl, rfl, _, rfl, ?_⟩
    have bad : ¬ (1 ≤ x.length ∧ x.length ≤ 8) → Q (.bl false) H := fun e => by
      have z := q H (Same.refl H)
      rw [nameB, decide_eq_false e, Bool.false_and] at z
      exact z
    by_cases h1 : (0 : Int) < (x.length : Int)
    · rw [decide_eq_true h1]
      refine iteT ⟨_, _, rfl, rfl, _, rfl, ?_⟩
      by_cases h2 : (x.length : Int) < 9
      · rw [decide_eq_true h2]
        refine iteT ?_
        refine ⟨_, rfl, x, rfl, fun D hD => ?_⟩
        refine lc_it (walk_str (z := x)) (fun i H' => Same H H' ∧ H' D = some (.lst ((((TL.tl x).take i).map letB).map V.bl))) ⟨same_new hD, upd_same⟩ (fun _ _ _ _ => True.intro) ?_ ?_
        · rintro i v Hx H' hi ⟨s1, eD⟩ ⟨rfl, c, hc, rfl⟩
          have hc2 : (TL.tl x)[i]? = some c := by
            rw [← hc]
            exact Array.getElem?_toList
          refine ⟨rfl, _, rfl, c, _, rfl, rfl, ?_⟩
          rw [show decide (c ∈ (("abcdefghijklmnopqrstuvwxyz" : Str)).cps.toList) = letB c from in_let c]
          refine ⟨_, eD, ?_, same_upd s1 hD, ?_⟩
          · rw [List.length_map, List.length_map, List.length_take]
            exact Nat.lt_of_le_of_lt (Nat.min_le_right _ _) (by rw [← TL.len_tl]; exact Nat.lt_of_lt_of_le (show x.length < 9 by omega) (by decide))
          · rw [upd_same, take_next hc2, List.map_append, List.map_append]
            rfl
        · rintro H' ⟨s1, eD⟩
          rw [List.take_of_length_le (by rw [← TL.len_tl]; exact Nat.le_refl _)] at eD
          refine ⟨D, _, rfl, SqL.of eD, ?_⟩
          rw [List.all_map]
          have z := q H' s1
          rw [nameB, decide_eq_true (show 1 ≤ x.length ∧ x.length ≤ 8 by omega), Bool.true_and] at z
          exact z
      · rw [decide_eq_false h2]
        refine iteF ?_
        exact bad fun z => h2 (by omega)
    · rw [decide_eq_false h1]
      refine iteF ⟨_, rfl, iteF ?_⟩
      exact bad fun z => h1 (by omega)
abbrev NStL : List Str := ["_law_words", "_law_many", "_law_numbers", "_law_pairs", "_law_word", "_law_at", "_law_begun", "_law_ended"]
theorem scStL : FnScope NStL ["_law_words", "_law_many"] (defScope sStnIn) := ⟨rfl, rfl, rfl, by decide +kernel, rfl, by decide +kernel, by decide +kernel⟩
theorem ok_stnW {f fC : Addr} {fd fdC : FuncData} (F : Fun K "_law_standing_in" "_law_standing_in" sStnIn f fd) (S : Reads1 mg) (AC : At K mg "_law_count_in" sCountIn ["_law_word"] fC fdC) : FnOk P w K mg base CX0 2 f fd ["_law_words", "_law_many"] spStnW := by
  have GC : FnOk P w K mg base CX0 1 fC fdC ["_law_word"] spCntL := ok_cntL AC.F S.f
  refine F.ok scStL (fun vs H Q E h => ?_) (fun cdv A outer s H vs Q E hr h => ?_)
  · obtain ⟨l, ws, k, rfl, _⟩ := h
    rfl
  · obtain ⟨l, ws, k, rfl, hl, hw, hk, hwl, q⟩ := h
    refine ⟨_, pss_cons (ps_set (i := 2) scStL.nd rfl (.inr rfl) (pe_lc (own := [("_law_word", 4)]) (g := gName 4) (tt := tYes) rfl scStL.nd (pi_list (pv 0)) (blkOk_by (N := NStL) (sc := defScope sStnIn) (by decide +kernel))
        (fun _ _ _ _ _ => pg_name (i := 4) scStL.nd rfl (.inl rfl)) (fun _ _ _ _ _ => pts_nil) (fun _ _ _ _ _ => pe_call GC hr rfl AC.g AC.F.kp AC.b .nil pass0 (pa_cons (pv 4) pa_nil))))
      (pss_cons (ps_if (pw_or (pt_cmpR op_ne (pe_callB call_len_seq (by rfl) S.f.len PySem.boot_len (pa_cons (pv 2) pa_nil)) (pe_op op_mul pe_int (pv 1)) (nomark _)) (pw_or1 (pt_cmpR op_in_seq pe_non (pv 2) (by with_unfolding_all rfl)))).pt (pss_one (ps_ret pe_non)) pss_nil)
      (pss_cons (ps_set (i := 3) scStL.nd rfl (.inl rfl) (pe_callTy call_tuple_of (by rfl) S.f.tup (by decide +kernel) (pa_cons (pe_lc (own := [("_law_at", 5)]) (g := gName 5) (tt := tYes) rfl scStL.nd
        (pi_range1 (by rfl) S.rng (pa_cons (pv 1) pa_nil)) (blkOk_by (N := NStL) (sc := defScope sStnIn) (by decide +kernel))
        (fun _ _ _ _ _ => pg_name (i := 5) scStL.nd rfl (.inl rfl)) (fun _ _ _ _ _ => pts_nil) (fun _ _ _ _ _ => pe_tup (pa_cons (pe_ix (r := rIxL K) ix_list (pv 2) (pe_op op_mul pe_int (pv 5)) (fun _ _ => rfl)) (pa_cons (pe_ix (r := rIxL K) ix_list (pv 2) (pe_op op_add (pe_op op_mul pe_int (pv 5)) pe_int) (fun _ _ => rfl)) pa_nil)))) pa_nil)))
      (pss_one (ps_ret (pe_ifExp (pt_val (pe_callB (cr_all rfl) (by rfl) S.f.all (by decide +kernel) (pa_cons (pe_lc (own := [("_law_begun", 6), ("_law_ended", 7)]) (g := gTup K 2 (gCons (gName 6) (gCons (gName 7) gNil))) (tt := tYes) rfl scStL.nd (pi_tup (pv 3)) (blkOk_by (N := NStL) (sc := defScope sStnIn) (by decide +kernel))
          (fun _ _ _ _ _ => pg_tup rfl (pgs_cons (pg_name (i := 6) scStL.nd rfl (.inl rfl)) (pgs_cons (pg_name (i := 7) scStL.nd rfl (.inl rfl)) pgs_nil))) (fun _ _ _ _ _ => pts_nil) (fun _ _ _ _ _ => pe_chain op_le op_le (pv 7) (pv 6) pe_int)) pa_nil))) (pv 3) pe_non))))), ?_⟩
    refine ⟨_, rfl, l, rfl, ⟨_, SqL.of hl⟩, fun D hD => ?_⟩
    refine lc_list (K := K) (a := l) (xs := ws.map V.str) (fun i H' => Same H H' ∧ H' D = some (.lst ((ws.take i).map cntV))) ⟨same_new hD, upd_same⟩ (fun i H' _ ⟨s1, _⟩ => SqL.of (s1 _ _ hl)) ?_ ?_
    · rintro i x H' hx ⟨s1, eD⟩
      rw [List.getElem?_map] at hx
      cases c : ws[i]? with
      | none =>
        rw [c] at hx
        cases hx
      | some y =>
        rw [c] at hx
        obtain rfl : V.str y = x := Option.some.inj hx
        have hi : i < ws.length := (List.getElem?_eq_some_iff.mp c).1
        refine ⟨rfl, _, rfl, y, rfl, hwl y (List.mem_of_getElem? c), fun H2 s2 => ?_⟩
        refine ⟨_, s2 _ _ eD, ?_, same_upd (s1.trans s2) hD, ?_⟩
        · rw [List.length_map, List.length_take]
          exact Nat.lt_of_le_of_lt (Nat.min_le_left _ _) (Nat.lt_of_lt_of_le (show i < 1001 by omega) (by decide))
        · rw [upd_same, take_next c, List.map_append]
          rfl
    rintro H1 ⟨s1, eD⟩
    rw [List.length_map, List.take_length] at eD
    have lc : (ws.map cntV).length = ws.length := List.length_map ..
    have no : stnL k ws = none → Q .non H1 := fun e => by
      refine q .non H1 s1 ?_
      rw [e]
      exact .non
    refine ⟨_, rfl, D, _, rfl, .inl (SqL.of eD), _, rfl, _, _, rfl, rfl, .inl ⟨by decide, by decide⟩, rfl, _, rfl, ?_⟩
    by_cases c1 : ws.length = 2 * k
    rotate_left
    · rw [show (!decide (V.int ((ws.map cntV).length : Int) = V.int (2 * (k : Int)))) = true by
        rw [decide_eq_false fun z => c1 (by have := V.int.inj z; rw [lc] at this; omega)]
        rfl]
      exact iteT (iteT (no (stnL_no c1)))
    rw [show (!decide (V.int ((ws.map cntV).length : Int) = V.int (2 * (k : Int)))) = false by
      rw [decide_eq_true (show V.int ((ws.map cntV).length : Int) = V.int (2 * (k : Int)) by rw [lc, c1]; congr 1)]
      rfl]
    refine iteF ?_
    refine ⟨_, rfl, D, _, rfl, .inl (SqL.of eD), rfl, cntV_flat, _, rfl, ?_⟩
    rw [if_neg (by decide), inV_non]
    cases c2 : ws.all isNumeral with
    | false => exact iteT (no (if_neg fun z => by rw [List.all_eq_true.mpr z.2.1] at c2; cases c2))
    | true =>
    refine iteF ?_
    have hnum := List.all_eq_true.mp c2
    have en : ws.map cntV = (ws.map valN).map V.int := by
      rw [List.map_map]
      refine List.map_congr_left fun x hx => ?_
      rw [cntV, if_pos (hnum x hx)]
      rfl
    rw [en] at eD
    refine ⟨_, rfl, (k : Int), rfl, by omega, by omega, fun D2 hD2 => ?_⟩
    rw [Int.toNat_natCast]
    refine lc_range (lo := 0) (n := k) (fun i H' => Same H1 H' ∧ ∃ acc, H' D2 = some (.lst acc) ∧ FzAll H' acc (((prs (ws.map valN)).take i).map eP)) ⟨same_new hD2, [], upd_same, .nil⟩ ?_ ?_
    · rintro i H' hi ⟨s2, acc, eA, fA⟩
      have b1 : 2 * i < ws.length := by omega
      have b2 : 2 * i + 1 < ws.length := by omega
      have g1 : (ws.map valN)[2 * i]? = some (valN ws[2 * i]) := by rw [List.getElem?_map, List.getElem?_eq_getElem b1]; rfl
      have g2 : (ws.map valN)[2 * i + 1]? = some (valN ws[2 * i + 1]) := by rw [List.getElem?_map, List.getElem?_eq_getElem b2]; rfl
      have a1 : atI ((ws.map valN).map V.int) (2 * (0 + ((i : Nat) : Int))) = some (.int (valN ws[2 * i])) := by
        rw [show (2 * (0 + ((i : Nat) : Int))) = ((2 * i : Nat) : Int) by omega]
        exact atI_nat (by rw [List.getElem?_map, g1]; rfl)
      have a2 : atI ((ws.map valN).map V.int) (2 * (0 + ((i : Nat) : Int)) + 1) = some (.int (valN ws[2 * i + 1])) := by
        rw [show (2 * (0 + ((i : Nat) : Int)) + 1) = ((2 * i + 1 : Nat) : Int) by omega]
        exact atI_nat (by rw [List.getElem?_map, g2]; rfl)
      refine ⟨rfl, _, rfl, _, rfl, _, _, rfl, rfl, .inl ⟨by decide, by decide⟩, D, _, _, _, rfl, rfl, SqL.of (s2 _ _ eD), a1, _, rfl, _, rfl, _, _, rfl, rfl, .inl ⟨by decide, by decide⟩, _, _, rfl, rfl, D, _, _, _, rfl, rfl, SqL.of (s2 _ _ eD), a2, ?_⟩
      refine ⟨(by show 2 ≤ sizeLine; decide), fun t ht => ?_⟩
      have st := same_new (o := .tup [.int (valN ws[2 * i]), .int (valN ws[2 * i + 1])]) ht
      have la : acc.length ≤ 1000 := by
        rw [fA.len, List.length_map, List.length_take]
        exact Nat.le_trans (Nat.min_le_left _ _) (by omega)
      refine ⟨acc, st _ _ eA, Nat.lt_of_lt_of_le (show acc.length < 1001 by omega) (by decide), same_upd (s2.trans st) hD2, acc ++ [.ref t], upd_same, FzAll.mv (tups_lst (st _ _ eA)) ?_⟩
      rw [take_next (prs_get _ _ _ _ g1 g2), List.map_append]
      exact (fA.same st).snoc (.tup upd_same (.cons (.int _) (.cons (.int _) .nil)))
    rintro H2 ⟨s2, acc, eA, fA⟩
    rw [List.take_of_length_le (by rw [prs_len, List.length_map]; omega)] at fA
    refine ⟨D2, _, rfl, .inl ⟨SqL.of eA, fun t ht => ?_⟩⟩
    have st := same_new (o := .tup acc) ht
    have et : (upd H2 t (.tup acc)) t = some (.tup acc) := upd_same
    have fA2 := fA.same st
    have s12 := (s1.trans s2).trans st
    generalize upd H2 t (.tup acc) = H3 at st et fA2 s12 ⊢
    have lp : (prs (ws.map valN)).length = k := by rw [prs_len, List.length_map]; omega
    generalize eps : prs (ws.map valN) = ps at *
    refine ⟨_, rfl, t, rfl, ⟨_, SqT.of et⟩, fun D3 hD3 => ?_⟩
    refine lc_tup (K := K) (a := t) (xs := acc) (fun i H' => Same H3 H' ∧ H' D3 = some (.lst (((ps.take i).map okL).map V.bl))) ⟨same_new hD3, upd_same⟩ (fun i H' _ ⟨z, _⟩ => SqT.of (z _ _ et)) ?_ ?_
    · rintro i v H' hx ⟨z, eD3⟩
      obtain ⟨p0, hp0, fp⟩ := fA2.atM hx
      obtain ⟨b9, y1, y2, rfl, hb9, f1, f2⟩ := (fp.same z).t2
      cases f1
      cases f2
      have hi : i < ps.length := (List.getElem?_eq_some_iff.mp hp0).1
      have fin : ∀ b : Bool, b = okL p0 → ∃ acc, H' D3 = some (.lst acc) ∧ acc.length < sizeLine ∧ Same H3 (upd H' D3 (.lst (acc ++ [.bl b]))) ∧ (upd H' D3 (.lst (acc ++ [.bl b]))) D3 = some (.lst (((ps.take (i + 1)).map okL).map V.bl)) := by
        rintro b rfl
        refine ⟨_, eD3, ?_, same_upd z hD3, ?_⟩
        · rw [List.length_map, List.length_map, List.length_take]
          exact Nat.lt_of_le_of_lt (Nat.min_le_left _ _) (Nat.lt_of_lt_of_le (show i < 1001 by omega) (by decide))
        · rw [upd_same, take_next hp0, List.map_append, List.map_append]
          rfl
      refine ⟨b9, _, rfl, SqT.of hb9, rfl, _, _, rfl, _, _, rfl, rfl, rfl, _, rfl, _, rfl, _, _, rfl, rfl, _, rfl, ?_⟩
      by_cases d1 : p0.2 ≤ p0.1
      · rw [decide_eq_true d1]
        refine iteT ⟨_, _, rfl, rfl, fin _ ?_⟩
        rw [okL, decide_eq_true d1, Bool.true_and]
      · rw [decide_eq_false d1]
        refine iteF (fin false ?_)
        rw [okL, decide_eq_false d1, Bool.false_and]
    rintro H4 ⟨z, eD3⟩
    rw [List.take_of_length_le (by have := fA.len; rw [List.length_map] at this; omega)] at eD3
    refine ⟨D3, _, rfl, SqL.of eD3, ?_⟩
    have e1 := okL_Q ws
    rw [eps] at e1
    rw [show (ps.map okL).all id = ps.all okQ by rw [← e1, List.all_map]; rfl]
    refine ⟨_, rfl, ?_⟩
    cases c3 : ps.all okQ with
    | false =>
      refine iteF (q .non H4 (s12.trans z) ?_)
      rw [stnL, eps, if_neg fun y => by rw [y.2.2] at c3; cases c3]
      exact .non
    | true =>
      refine iteT ⟨_, rfl, q _ H4 (s12.trans z) ?_⟩
      rw [stnL, eps, if_pos ⟨c1, hnum, c3⟩]
      exact .tup (z _ _ et) (fA2.same z)
end
end K01
namespace GD
open PySem PySem.Spec PyProof.Rows L2
def optF : Option Fact → PyData
  | none => .none
  | some f => eF f
def spFactW : Sp := fun vs H Q _ => ∃ (l : Addr) (ws : List Str) (k : Nat), vs = [.ref l, .int k] ∧ H l = some (.lst (ws.map V.str)) ∧ 1 ≤ ws.length ∧ ws.length ≤ 500 ∧ k ≤ 10 ∧ (∀ x ∈ ws, x.length ≤ 400) ∧ ∀ v H', Same H H' → Fz H' v (optF (factR k ws)) → Q v H'
theorem stnL_len {k : Nat} {ws : List Str} {s : Stn} (h : stnL k ws = some s) : s.length = k ∧ s.length ≤ 1000 → s.length ≤ 1000 := fun h => h.2
end GD
namespace K01
open PySem PySem.Spec PyProof.Rows L2 GD
abbrev sFactIn : Stmt := top 64
section
variable {P : Program} {w : World} {K : PySem.W.Frag} {mg : Str → Option Value} {base : Heap}
abbrev NFi : List Str := ["_law_words", "_law_many", "_law_standing", "_law_one", "_law_other"]
theorem scFi : FnScope NFi ["_law_words", "_law_many"] (defScope sFactIn) := ⟨rfl, rfl, rfl, by decide +kernel, rfl, by decide +kernel, by decide +kernel⟩
theorem ok_factW {f fC fS : Addr} {fd fdC fdS : FuncData} (F : Fun K "_law_fact_in" "_law_fact_in" sFactIn f fd) (S : Reads1 mg) (AC : At K mg "_law_count_in" sCountIn ["_law_word"] fC fdC) (AS : At K mg "_law_standing_in" sStnIn ["_law_words", "_law_many"] fS fdS) : FnOk P w K mg base CX0 3 f fd ["_law_words", "_law_many"] spFactW := by
  have GS : FnOk P w K mg base CX0 2 fS fdS ["_law_words", "_law_many"] spStnW := ok_stnW AS.F S AC
  refine F.ok scFi (fun vs H Q E h => ?_) (fun cdv A outer s H vs Q E hr h => ?_)
  · obtain ⟨l, ws, k, rfl, _⟩ := h
    rfl
  · obtain ⟨l, ws, k, rfl, hl, hw1, hw, hk, hwl, q⟩ := h
    refine ⟨_, pss_cons (ps_if (pt_cmpR op_in_seq (pe_ix ix_list (pv 0) pe_int (fun _ _ => rfl)) (pe_tup (pa_cons pe_str (pa_cons pe_str pa_nil))) (by with_unfolding_all rfl))
        (pss_cons (ps_set (i := 2) scFi.nd rfl (.inl rfl) (pe_call GS hr rfl AS.g AS.F.kp AS.b .nil pass0 (pa_cons (pe_slice sl_list (pv 0) (po_some pe_int) po_none) (pa_cons (pv 1) pa_nil))))
        (pss_one (ps_ret (pe_ifExp (pt_cmpR op_isN (pv 2) pe_non (nomark _)) pe_non (pe_tup (pa_cons (pe_ix ix_list (pv 0) pe_int (fun _ _ => rfl)) (pa_cons (pv 2) pa_nil))))))) pss_nil)
      (pss_cons (ps_if (pw_or (pt_cmpR op_ne (pe_ix ix_list (pv 0) pe_int (fun _ _ => rfl)) pe_str (nomark _)) (pw_or (pt_cmpR op_ne (pe_callB call_len_seq (by rfl) S.f.len PySem.boot_len (pa_cons (pv 0) pa_nil)) (pe_op op_add (pe_op op_mul pe_int (pv 1)) pe_int) (nomark _))
          (pw_or1 (pt_cmpR op_ne (pe_ix ix_list (pv 0) (pe_op op_add (pe_op op_mul pe_int (pv 1)) pe_int) (fun _ _ => rfl)) pe_str (nomark _))))).pt (pss_one (ps_ret pe_non)) pss_nil)
      (pss_cons (ps_par (i := 3) (j := 4) rfl scFi.nd rfl rfl (by decide) rfl rfl (pa_cons (pe_call GS hr rfl AS.g AS.F.kp AS.b .nil pass0 (pa_cons (pe_slice sl_list (pv 0) (po_some pe_int) (po_some (pe_op op_add (pe_op op_mul pe_int (pv 1)) pe_int))) (pa_cons (pv 1) pa_nil)))
          (pa_cons (pe_call GS hr rfl AS.g AS.F.kp AS.b .nil pass0 (pa_cons (pe_slice sl_list (pv 0) (po_some (pe_op op_add (pe_op op_mul pe_int (pv 1)) pe_int)) po_none) (pa_cons (pv 1) pa_nil))) pa_nil)) (by rfl))
      (pss_one (ps_ret (pe_ifExp (pw_or (pt_cmpR op_isN (pv 3) pe_non (nomark _)) (pw_or (pt_cmpR op_isN (pv 4) pe_non (nomark _)) (pw_or1 (pt_cmpR (op_eqD hr.units) (pv 3) (pv 4) (nomark _))))).pt pe_non (pe_tup (pa_cons pe_str (pa_cons (pv 3) (pa_cons (pv 4) pa_nil))))))))), ?_⟩
    obtain ⟨w0, r, rfl⟩ : ∃ w0 r, ws = w0 :: r := by
      cases ws with
      | nil => exact absurd hw1 (by decide)
      | cons a r => exact ⟨a, r, rfl⟩
    have lw : ((w0 :: r).map V.str).length = (w0 :: r).length := List.length_map ..
    have no : factR k (w0 :: r) = none → ∀ H', Same H H' → Q .non H' := fun e H' s' => by
      refine q .non H' s' ?_
      rw [e]
      exact .non
    refine ⟨_, rfl, l, _, 0, _, rfl, rfl, SqL.of hl, at0, (by show 2 ≤ sizeLine; decide), fun tw ntw => ?_⟩
    have sw := same_new (o := .tup [.str "let", .str "not"]) ntw
    have etw : (upd H tw (.tup [.str "let", .str "not"])) tw = some (.tup ((["let", "not"] : List Str).map V.str)) := upd_same
    generalize upd H tw (.tup [.str "let", .str "not"]) = H1 at sw etw ⊢
    have hl1 := sw _ _ hl
    refine ⟨tw, _, rfl, .inr (SqT.of etw), rfl, rfl, _, rfl, ?_⟩
    rw [if_neg (by decide), inV_strs]
    by_cases c0 : w0 ∈ (["let", "not"] : List Str)
    · rw [decide_eq_true c0]
      refine iteT ?_
      refine ⟨_, rfl, _, rfl, l, _, rfl, SqL.of hl1, fun p hp => ?_⟩
      rw [show (some (1 : Int)) = some ((1 : Nat) : Int) from rfl, cut_strs_end]
      have sp := same_new (o := .lst (((w0 :: r).drop 1).map V.str)) hp
      have ep : (upd H1 p (.lst (((w0 :: r).drop 1).map V.str))) p = some (.lst (((w0 :: r).drop 1).map V.str)) := upd_same
      generalize upd H1 p (.lst (((w0 :: r).drop 1).map V.str)) = H2 at sp ep ⊢
      refine ⟨_, rfl, p, _, k, rfl, ep, ?_, by omega, fun x hx => hwl x (List.mem_of_mem_drop hx), fun v H3 s3 fz => ?_⟩
      · rw [List.length_drop]
        omega
      have s13 := (sw.trans sp).trans s3
      refine ⟨_, rfl, rfl, _, rfl, ?_⟩
      cases e : stnL k ((w0 :: r).drop 1) with
      | none =>
        rw [e] at fz
        obtain rfl := fz_non fz
        refine iteT (no ?_ H3 s13)
        unfold factR
        rw [List.headD_cons, e]
        simp only [List.mem_cons, List.not_mem_nil, or_false] at c0
        rcases c0 with rfl | rfl
        · rw [if_pos rfl]
          rfl
        · rw [if_neg (by decide +kernel), if_pos rfl]
          rfl
      | some sn =>
        rw [e] at fz
        obtain ⟨a, xs, rfl, ha, fa⟩ := Fz.t (show Fz H3 v (.tuple (sn.map eP)) from fz)
        refine iteF ?_
        refine ⟨_, rfl, l, _, 0, _, rfl, rfl, SqL.of ((sp.trans s3) _ _ hl1), at0, _, rfl, (by show 2 ≤ sizeLine; decide), fun t ht => ?_⟩
        have st := same_new (o := .tup [.str w0, .ref a]) ht
        refine q _ _ (s13.trans st) ?_
        have ft : Fz (upd H3 t (.tup [.str w0, .ref a])) (.ref t) (.tuple [.str w0, eS sn]) := .tup upd_same (.cons (.str _) (.cons (Fz.same st fz) .nil))
        unfold factR
        rw [List.headD_cons, e]
        simp only [List.mem_cons, List.not_mem_nil, or_false] at c0
        rcases c0 with rfl | rfl
        · rw [if_pos rfl]
          exact ft
        · rw [if_neg (by decide +kernel), if_pos rfl]
          exact ft
    rw [decide_eq_false c0]
    refine iteF ?_
    have n1 : ¬ w0 = "let" := fun z => c0 (by rw [z]; exact List.mem_cons_self)
    have n2 : ¬ w0 = "not" := fun z => c0 (by rw [z]; exact List.mem_cons_of_mem _ List.mem_cons_self)
    have ef : factR k (w0 :: r) = if w0 = "as" ∧ (w0 :: r).length = 4 * k + 2 ∧ (w0 :: r)[2 * k + 1]? = some ("to" : Str) then
        (match stnL k (((w0 :: r).drop 1).take (2 * k)), stnL k ((w0 :: r).drop (2 * k + 2)) with
        | some s, some t => if s = t then none else some (Fact.as_ s t)
        | _, _ => none) else none := by
      unfold factR
      rw [List.headD_cons, if_neg n1, if_neg n2] <;> rfl
    refine ⟨_, rfl, l, _, 0, _, rfl, rfl, SqL.of hl1, at0, rfl, _, rfl, ?_⟩
    by_cases c1 : w0 = "as"
    rotate_left
    · rw [show (!decide (V.str w0 = V.str "as")) = true by
        rw [decide_eq_false fun z => c1 (V.str.inj z)]
        rfl]
      exact iteT (iteT (no (by rw [ef, if_neg fun z => c1 z.1]) H1 sw))
    subst c1
    refine iteF ?_
    refine ⟨_, rfl, l, _, rfl, .inl (SqL.of hl1), _, rfl, _, _, rfl, rfl, .inl ⟨by decide, by decide⟩, _, _, rfl, rfl, rfl, _, rfl, ?_⟩
    by_cases c2 : ((("as" : Str)) :: r).length = 4 * k + 2
    rotate_left
    · rw [show (!decide (V.int (((("as" : Str) :: r).map V.str).length : Int) = V.int (4 * (k : Int) + 2))) = true by
        rw [decide_eq_false fun z => c2 (by have := V.int.inj z; rw [lw] at this; omega)]
        rfl]
      exact iteT (iteT (no (by rw [ef, if_neg fun z => c2 z.2.1]) H1 sw))
    rw [show (!decide (V.int (((("as" : Str) :: r).map V.str).length : Int) = V.int (4 * (k : Int) + 2))) = false by
      rw [decide_eq_true (show V.int (((("as" : Str) :: r).map V.str).length : Int) = V.int (4 * (k : Int) + 2) by rw [lw, c2]; congr 1)]
      rfl]
    refine iteF ?_
    have hlt : 2 * k + 1 < ((("as" : Str)) :: r).length := by omega
    have ga : ((("as" : Str)) :: r)[2 * k + 1]? = some ((("as" : Str)) :: r)[2 * k + 1] := List.getElem?_eq_getElem hlt
    have em : (2 * (k : Int) + 1) = ((2 * k + 1 : Nat) : Int) := by omega
    refine ⟨_, rfl, _, rfl, _, _, rfl, rfl, .inl ⟨by decide, by decide⟩, _, _, rfl, rfl, l, _, _, _, rfl, rfl, SqL.of hl1, (by rw [em]; exact at_str ga), rfl, _, rfl, ?_⟩
    by_cases c3 : ((("as" : Str)) :: r)[2 * k + 1] = ("to" : Str)
    rotate_left
    · rw [show (!decide (V.str ((("as" : Str)) :: r)[2 * k + 1] = V.str "to")) = true by
        rw [decide_eq_false fun z => c3 (V.str.inj z)]
        rfl]
      exact iteT (no (by rw [ef, if_neg fun z => c3 (by rw [ga] at z; exact Option.some.inj z.2.2)]) H1 sw)
    rw [show (!decide (V.str ((("as" : Str)) :: r)[2 * k + 1] = V.str "to")) = false by
      rw [decide_eq_true (show V.str ((("as" : Str)) :: r)[2 * k + 1] = V.str "to" by rw [c3])]
      rfl]
    refine iteF ?_
    rw [if_pos ⟨rfl, c2, by rw [ga, c3]⟩] at ef
    generalize ewsl : (("as" : Str)) :: r = wsl at *
    refine ⟨_, rfl, _, rfl, _, rfl, _, _, rfl, rfl, .inl ⟨by decide, by decide⟩, _, _, rfl, rfl, _, rfl, ?_⟩
    rw [em]
    refine ⟨l, _, rfl, SqL.of hl1, fun p hp => ?_⟩
    rw [show (some (1 : Int)) = some ((1 : Nat) : Int) from rfl, cut_strs, Nat.add_sub_cancel]
    have sp := same_new (o := .lst (((wsl.drop 1).take (2 * k)).map V.str)) hp
    have ep : (upd H1 p (.lst (((wsl.drop 1).take (2 * k)).map V.str))) p = some (.lst (((wsl.drop 1).take (2 * k)).map V.str)) := upd_same
    generalize upd H1 p (.lst (((wsl.drop 1).take (2 * k)).map V.str)) = H2 at sp ep ⊢
    refine ⟨_, rfl, p, _, k, rfl, ep, ?_, by omega, fun x hx => hwl x (List.mem_of_mem_drop (List.mem_of_mem_take hx)), fun v1 H3 s3 f1 => ?_⟩
    · rw [List.length_take]
      exact Nat.le_trans (Nat.min_le_left _ _) (by omega)
    have s13 := sp.trans s3
    refine ⟨_, rfl, _, rfl, _, _, rfl, rfl, .inl ⟨by decide, by decide⟩, _, _, rfl, rfl, _, rfl, ?_⟩
    dsimp only [tNoPart]
    refine ⟨l, _, rfl, SqL.of (s13 _ _ hl1), fun p2 hp2 => ?_⟩
    rw [show (2 * (k : Int) + 2) = ((2 * k + 2 : Nat) : Int) by omega, cut_strs_end]
    have sp2 := same_new (o := .lst ((wsl.drop (2 * k + 2)).map V.str)) hp2
    have ep2 : (upd H3 p2 (.lst ((wsl.drop (2 * k + 2)).map V.str))) p2 = some (.lst ((wsl.drop (2 * k + 2)).map V.str)) := upd_same
    generalize upd H3 p2 (.lst ((wsl.drop (2 * k + 2)).map V.str)) = H4 at sp2 ep2 ⊢
    refine ⟨_, rfl, p2, _, k, rfl, ep2, ?_, by omega, fun x hx => hwl x (List.mem_of_mem_drop hx), fun v2 H5 s5 f2 => ?_⟩
    · rw [List.length_drop]
      omega
    have s35 := sp2.trans s5
    have s05 : Same H H5 := (sw.trans s13).trans s35
    have f1 := f1.same s35
    refine ⟨v1, v2, rfl, _, rfl, rfl, _, rfl, ?_⟩
    cases e1 : stnL k ((wsl.drop 1).take (2 * k)) with
    | none =>
      rw [e1] at f1 ef
      obtain rfl := fz_non f1
      exact iteT (iteT (no ef H5 s05))
    | some sn =>
    rw [e1] at f1 ef
    obtain ⟨a1, xs1, rfl, ha1, fa1⟩ := Fz.t (show Fz H5 v1 (.tuple (sn.map eP)) from f1)
    refine iteF ⟨_, rfl, rfl, _, rfl, ?_⟩
    cases e2 : stnL k (wsl.drop (2 * k + 2)) with
    | none =>
      rw [e2] at f2 ef
      obtain rfl := fz_non f2
      exact iteT (iteT (no ef H5 s05))
    | some tn =>
    rw [e2] at f2 ef
    obtain ⟨a2, xs2, rfl, ha2, fa2⟩ := Fz.t (show Fz H5 v2 (.tuple (tn.map eP)) from f2)
    refine iteF ⟨_, rfl, _, rfl, eS sn, eS tn, f1.dp, f2.dp, shapeN sn, shapeN tn, _, rfl, ?_⟩
    dsimp only at ef
    by_cases c4 : sn = tn
    · rw [if_pos c4] at ef
      rw [show PyData.eqv (eS sn) (eS tn) = true by rw [c4]; exact eqv_self (shapeN tn)]
      exact iteT (no ef H5 s05)
    · rw [if_neg c4] at ef
      rw [Bool.eq_false_iff.mpr fun z => c4 (eqv_eS z)]
      refine iteF ⟨_, rfl, _, rfl, (by show 3 ≤ sizeLine; decide), fun t ht => ?_⟩
      have st := same_new (o := .tup [.str "as", .ref a1, .ref a2]) ht
      refine q _ _ (s05.trans st) ?_
      rw [ef]
      exact .tup upd_same (.cons (.str _) (.cons (Fz.same st f1) (.cons (Fz.same st f2) .nil)))
end
end K01
namespace GD
open PySem PySem.Spec PyProof.Rows L2
/-- the law reads a text -/
def spReadL : Sp := fun vs H Q _ => ∃ x : Str, vs = [.str x] ∧ TextL x ∧
  ∀ t lf H', Same H H' → H' t = some (.tup [.int ((readT x).1 : Nat), .ref lf]) → LstAt H' lf ((readT x).2.map eF) → ((readT x).1 = 0 → ∃ k, FactsOk k (readT x).2 ∧ k ≤ 4) → Q (.ref t) H'
/-- how far the law's reader is -/
def Stg (ls : List Str) (x : Str) (i : Nat) (x1 : Option V) (kn : List (Str × Str)) (fs : List Fact) (H' : Hp) (p2 p3 : Addr) : Prop :=
  (i = 0 ∧ kn = [] ∧ fs = []) ∨ (∃ pn names, x1 = some (.ref pn) ∧ H' pn = some (.lst (names.map V.str)) ∧ names = (wsOf (ls.headD "")).drop 1 ∧ HeadOk (wsOf (ls.headD "")) ∧ FactsOk names.length fs ∧ rdR names i kn fs (ls.drop i) = readT x ∧ kn.length ≤ i ∧ 1 ≤ i ∧ pn ≠ p2 ∧ pn ≠ p3)
theorem lim_sel (f : Fact) : sel3 f 24 6 4 = ((lim (kindS f) : Nat) : Int) := by cases f <;> rfl
theorem lnsOf_one (x : Str) : 1 ≤ (lnsOf x).length := split_pos x "\n"
theorem eqv_nilL (fs : List Fact) : PyData.eqv (.list (fs.map eF)) (.list []) = decide (fs = []) := by
  cases fs with
  | nil => simp [PyData.eqv, PyData.eqvAll]
  | cons f r => simp [PyData.eqv, PyData.eqvAll]
end GD
namespace K01
open PySem PySem.Spec PyProof.Rows L2 GD
abbrev sRead : Stmt := top 65
section
variable {P : Program} {w : World} {K : PySem.W.Frag} {mg : Str → Option Value} {base : Heap}
abbrev NRe : List Str := ["_law_text", "_law_names_here", "_law_known", "_law_facts", "_law_at", "_law_line", "_law_words", "_law_fact", "_law_name", "_law_one"]
theorem scRe : FnScope NRe ["_law_text"] (defScope sRead) := ⟨rfl, rfl, rfl, by decide +kernel, rfl, by decide +kernel, by decide +kernel⟩
theorem ok_readL {f fC fS fN fF : Addr} {fd fdC fdS fdN fdF : FuncData} (F : Fun K "_law_read" "_law_read" sRead f fd) (S : Reads1 mg) (nE : mg "enumerate" = none) (gs : mg "set" = none) (AC : At K mg "_law_count_in" sCountIn ["_law_word"] fC fdC) (AS : At K mg "_law_standing_in" sStnIn ["_law_words", "_law_many"] fS fdS)
    (AN : At K mg "_law_is_name" sIsName ["_law_word"] fN fdN) (AF : At K mg "_law_fact_in" sFactIn ["_law_words", "_law_many"] fF fdF) : FnOk P w K mg base CX0 4 f fd ["_law_text"] spReadL := by
  have GN : FnOk P w K mg base CX0 1 fN fdN ["_law_word"] spName1 := ok_nameL AN.F S.f
  have GF : FnOk P w K mg base CX0 3 fF fdF ["_law_words", "_law_many"] spFactW := ok_factW AF.F S AC AS
  refine F.ok scRe (fun vs H Q E h => ?_) (fun cdv A outer s H vs Q E hr h => ?_)
  · obtain ⟨x, rfl, _⟩ := h
    rfl
  · obtain ⟨x, rfl, hT, q⟩ := h
    have hr1 : Room 1 _ := hr.mono (by decide)
    refine ⟨_, pss_cons (ps_par3 (i := 1) (j := 2) (l := 3) rfl scRe.nd rfl rfl rfl (by decide) (by decide) (by decide) rfl rfl rfl (pa_cons (pe_lst pa_nil) (pa_cons (pe_lst pa_nil) (pa_cons (pe_lst pa_nil) pa_nil))) (by rfl))
      (pss_cons (ps_for PassesOwn.never rfl (pi_enum (by rfl) nE (pa_cons (pe_bm PySem.F.plainAttrs_str PySem.F.slot_str_split PySem.F.type_str_split mt_split (pv 0) (pa_cons pe_str pa_nil)) pa_nil)) (pg_tup rfl (pgs_cons (pg_name (i := 4) scRe.nd rfl (.inl rfl)) (pgs_cons (pg_name (i := 5) scRe.nd rfl (.inl rfl)) pgs_nil)))
        (pss_cons (ps_set (i := 6) scRe.nd rfl (.inl rfl) (pe_bm PySem.F.plainAttrs_str PySem.F.slot_str_split PySem.F.type_str_split mt_split (pv 5) (pa_cons pe_str pa_nil)))
        (pss_one (ps_if (pt_cmpR op_eq (pv 4) pe_int (nomark _))
          (pss_cons (ps_set (i := 1) scRe.nd rfl (.inl rfl) (pe_slice sl_list (pv 6) (po_some pe_int) po_none))
          (pss_cons (ps_if (pw_or (pt_cmpR op_ne (pe_ix ix_list (pv 6) pe_int (fun _ _ => rfl)) pe_str (nomark _)) (pw_or (pt_not (pt_chain op_lt op_lt pe_int (pe_callB call_len_seq (by rfl) S.f.len PySem.boot_len (pa_cons (pv 1) pa_nil)) pe_int))
              (pw_or1 (pt_cmpR op_lt (pe_lenSetT rfl (by rfl) S.f.len (by rfl) gs (pv 1)) (pe_callB call_len_seq (by rfl) S.f.len PySem.boot_len (pa_cons (pv 1) pa_nil)) (nomark _))))).pt (pss_one (ps_ret (pe_tup (pa_cons pe_int (pa_cons (pe_lst pa_nil) pa_nil))))) pss_nil)
          (pss_one (ps_if (pt_not (pt_val (pe_callB (cr_all rfl) (by rfl) S.f.all (by decide +kernel) (pa_cons (pe_lc (own := [("_law_name", 8)]) (g := gName 8) (tt := tYes) rfl scRe.nd (pi_list (pv 1)) (blkOk_by (N := NRe) (sc := defScope sRead) (by decide +kernel))
            (fun _ _ _ _ _ => pg_name (i := 8) scRe.nd rfl (.inl rfl)) (fun _ _ _ _ _ => pts_nil) (fun _ _ _ _ _ => pe_call GN hr1 (by rfl) AN.g AN.F.kp AN.b .nil pass0 (pa_cons (pv 8) pa_nil))) pa_nil)))) (pss_one (ps_ret (pe_tup (pa_cons pe_int (pa_cons (pe_lst pa_nil) pa_nil))))) pss_nil))))
          (pss_one (ps_if (pt_cmpR op_in_seq (pe_ix ix_list (pv 6) pe_int (fun _ _ => rfl)) (pe_tup (pa_cons pe_str (pa_cons pe_str (pa_cons pe_str pa_nil)))) (by with_unfolding_all rfl))
            (pss_cons (ps_if (pw_or (pt_cmpR (op_neD hr.units) (pv 3) (pe_lst pa_nil) (nomark _)) (pw_or (pt_cmpR op_ne (pe_callB call_len_seq (by rfl) S.f.len PySem.boot_len (pa_cons (pv 6) pa_nil)) pe_int (nomark _))
                (pw_or (pt_cmpR op_notIn_seq (pe_ix ix_list (pv 6) pe_int (fun _ _ => rfl)) (pv 1) (by with_unfolding_all rfl)) (pw_or1 (pt_cmpR op_in_seq (pe_ix ix_list (pv 6) pe_int (fun _ _ => rfl)) (pv 2) (by with_unfolding_all rfl)))))).pt
                (pss_one (ps_ret (pe_tup (pa_cons (pe_op op_add (pv 4) pe_int) (pa_cons (pe_lst pa_nil) pa_nil))))) pss_nil)
            (pss_one (ps_expr (pe_bm PySem.F.plainAttrs_list PySem.F.slot_list_append PySem.F.type_list_append mt_append (pv 2) (pa_cons (pe_ix ix_list (pv 6) pe_int (fun _ _ => rfl)) pa_nil)))))
            (pss_cons (ps_set (i := 7) scRe.nd rfl (.inr rfl) (pe_call GF hr (by rfl) AF.g AF.F.kp AF.b .nil pass0 (pa_cons (pv 6) (pa_cons (pe_callB call_len_seq (by rfl) S.f.len PySem.boot_len (pa_cons (pv 1) pa_nil)) pa_nil))))
            (pss_cons (ps_if (pw_or (pt_cmpR op_isN (pv 7) pe_non (nomark _)) (pw_or1 (pt_cmpR (op_inD (u65 hr)) (pv 7) (pv 3) (by rfl)))).pt (pss_one (ps_ret (pe_tup (pa_cons (pe_op op_add (pv 4) pe_int) (pa_cons (pe_lst pa_nil) pa_nil))))) pss_nil)
            (pss_cons (ps_if (pt_cmpR op_eq (pe_callB call_len_seq (by rfl) S.f.len PySem.boot_len (pa_cons (pe_lc (own := [("_law_one", 9)]) (g := gName 9) rfl scRe.nd (pi_list (pv 3)) (blkOk_by (N := NRe) (sc := defScope sRead) (by decide +kernel))
                (fun _ _ _ _ _ => pg_name (i := 9) scRe.nd rfl (.inl rfl)) (fun _ _ _ _ _ => pts_one (pt_cmpR op_eq (pe_ix (r := rIxT K) ix_tup (pv 9) pe_int (fun _ _ => rfl)) (pe_ix (r := rIxT K) ix_tup (pv 7) pe_int (fun _ _ => rfl)) (nomark _))) (fun _ _ _ _ _ => pv 9)) pa_nil))
                (pe_dget (u1 hr) (pe_disp (pps_cons pe_str pe_int (pps_cons pe_str pe_int (pps_cons pe_str pe_int pps_nil))) (by rfl) (by rfl) (fun z => by cases z) (by show 3 ≤ 15; decide)) (pe_ix ix_tup (pv 7) pe_int (fun _ _ => rfl)) (fun _ _ => rfl)) (nomark _))
                (pss_one (ps_ret (pe_tup (pa_cons (pe_op op_add (pv 4) pe_int) (pa_cons (pe_lst pa_nil) pa_nil))))) pss_nil)
            (pss_one (ps_expr (pe_bm PySem.F.plainAttrs_list PySem.F.slot_list_append PySem.F.type_list_append mt_append (pv 3) (pa_cons (pv 7) pa_nil)))))))))))))
      (pss_one (ps_ret (pe_tup (pa_cons pe_int (pa_cons (pv 3) pa_nil)))))), ?_⟩
    obtain ⟨tn, tl, tw⟩ := hT
    have lpos := lnsOf_one x
    refine ⟨by decide, fun p1 n1 => ?_⟩
    have s1 := same_new (o := .lst []) n1
    generalize upd H p1 (.lst []) = G1 at s1 ⊢
    refine ⟨by decide, fun p2 n2 => ?_⟩
    have s2 := same_new (o := .lst []) n2
    have e2 : (upd G1 p2 (.lst [])) p2 = some (.lst []) := upd_same
    have f2 : H p2 = none := s1.free n2
    generalize upd G1 p2 (.lst []) = G2 at s2 e2 ⊢
    refine ⟨by decide, fun p3 n3 => ?_⟩
    have s3 := same_new (o := .lst []) n3
    have e3 : (upd G2 p3 (.lst [])) p3 = some (.lst []) := upd_same
    have f3 : H p3 = none := (s1.trans s2).free n3
    have d23 : p2 ≠ p3 := ne_of_none e2 n3
    have e2' := s3 _ _ e2
    generalize upd G2 p3 (.lst []) = G3 at s3 e3 e2' ⊢
    have s03 := (s1.trans s2).trans s3
    refine ⟨_, _, _, rfl, ?_⟩
    refine ⟨_, rfl, rfl, _, _, rfl, rfl, rfl, small_len (by omega), fun l nl => ?_⟩
    have s4 := same_new (o := .lst ((Txt.split x "\n").map V.str)) nl
    have el : (upd G3 l (.lst ((Txt.split x "\n").map V.str))) l = some (.lst ((lnsOf x).map V.str)) := upd_same
    have dl2 : l ≠ p2 := (ne_of_none e2' nl).symm
    have dl3 : l ≠ p3 := (ne_of_none e3 nl).symm
    have e2l := s4 _ _ e2'
    have e3l := s4 _ _ e3
    generalize upd G3 l (.lst ((Txt.split x "\n").map V.str)) = G4 at s4 el e2l e3l ⊢
    have s04 := s03.trans s4
    generalize els : lnsOf x = ls at *
    have lls : (ls.map V.str).length = ls.length := List.length_map ..
    have ret1 : ∀ {n : Nat}, readT x = (n + 1, []) → ∀ {H' : Hp}, Same H H' → ∀ pl, H' pl = none → ∀ t, (upd H' pl (.lst [])) t = none → Q (.ref t) (upd (upd H' pl (.lst [])) t (.tup [.int ((n + 1 : Nat) : Int), .ref pl])) := fun {n} e {H'} s pl npl t nt => by
      have sa := same_new (o := .lst []) npl
      have st := same_new (o := .tup [.int ((n + 1 : Nat) : Int), .ref pl]) nt
      refine q t pl _ ((s.trans sa).trans st) ?_ ?_ ?_
      · rw [e]
        exact upd_same
      · rw [e]
        exact ⟨[], st _ _ upd_same, .nil⟩
      · rw [e]
        exact fun z => absurd z (Nat.succ_ne_zero n)
    refine ⟨l, _, rfl, SqL.of el, ?_⟩
    refine for_it (walk_enum (K := K) (a := l) (xs := ls.map V.str)) (fun i σ H' => ∃ (x1 x4 x5 x6 x7 : Option V) (kn : List (Str × Str)) (fs : List Fact), σ = [some (.str x), x1, some (.ref p2), some (.ref p3), x4, x5, x6, x7, none, none] ∧ Same H H' ∧ H' l = some (.lst (ls.map V.str)) ∧ H' p2 = some (.lst ((kn.map (·.1)).map V.str)) ∧ LstAt H' p3 (fs.map eF) ∧ Stg ls x i x1 kn fs H' p2 p3)
      ⟨_, none, none, none, none, [], [], rfl, s04, el, e2l, ⟨[], e3l, .nil⟩, .inl ⟨rfl, rfl, rfl⟩⟩ (fun i σ H' _ ⟨_, _, _, _, _, _, _, _, _, e, _⟩ => SqL.of e) ?_ ?_
    · rintro i v σ H' H'' hi ⟨x1, x4, x5, x6, x7, kn, fs, rfl, z, eL, eK, eFs, stg⟩ ⟨T', u, v2, rfl, hT', rfl, hu, hv2⟩
      obtain rfl : V.int (i : Nat) = u := Option.some.inj hu
      rw [lls] at hi
      have hline : ls[i]? = some ls[i] := List.getElem?_eq_getElem hi
      have edrop : ls.drop i = ls[i] :: ls.drop (i + 1) := List.drop_eq_getElem_cons hi
      generalize ls[i] = y at hline edrop
      replace hv2 : (ls.map V.str)[i]? = some v2 := hv2
      rw [List.getElem?_map, hline] at hv2
      obtain rfl : V.str y = v2 := Option.some.inj hv2
      have hyl := tl y (List.mem_of_getElem? hline)
      have lws := wsOf_le y
      have wl : ∀ a ∈ wsOf y, a.length ≤ 400 := fun a ha => Nat.le_trans (wsOf_short ha) hyl
      have sT := same_new (o := .tup [.int (i : Nat), .str y]) hT'
      refine ⟨T', _, rfl, SqT.of upd_same, rfl, _, _, rfl, _, _, rfl, rfl, ?_⟩
      generalize upd H' T' (.tup [.int (i : Nat), .str y]) = H1 at sT ⊢
      refine ⟨_, rfl, rfl, _, _, rfl, rfl, rfl, small_len (by omega), fun pw npw => ?_⟩
      have sw := same_new (o := .lst ((Txt.split y " ").map V.str)) npw
      have ew : (upd H1 pw (.lst ((Txt.split y " ").map V.str))) pw = some (.lst ((wsOf y).map V.str)) := upd_same
      generalize upd H1 pw (.lst ((Txt.split y " ").map V.str)) = H2 at sw ew ⊢
      have s12 := sT.trans sw
      have z2 := z.trans s12
      have eL := s12 _ _ eL
      have eK := s12 _ _ eK
      have eFs := eFs.same s12
      obtain ⟨w0, r, ews⟩ : ∃ w0 r, wsOf y = w0 :: r := by
        cases e : wsOf y with
        | nil => exact absurd (wsOf_pos y) (by rw [e]; decide)
        | cons a r => exact ⟨a, r, rfl⟩
      refine ⟨_, rfl, rfl, _, rfl, ?_⟩
      rcases stg with ⟨rfl, rfl, rfl⟩ | ⟨pn, names, rfl, eN, enm, hh, ok, hrd, hkl, hi1, dn2, dn3⟩
      · -- the first line
        rw [decide_eq_true (show V.int ((0 : Nat) : Int) = V.int 0 from rfl)]
        refine iteT ?_
        have el0 : ls.headD "" = y := by
          cases ls with
          | nil => cases hline
          | cons a b => exact Option.some.inj hline
        rw [ews] at ew
        refine ⟨_, rfl, _, rfl, pw, _, rfl, SqL.of ew, fun pn npn => ?_⟩
        have e1 := cut_strs_end (w0 :: r) 1
        rw [List.drop_one, List.tail_cons] at e1
        rw [show (some (1 : Int)) = some ((1 : Nat) : Int) from rfl, e1]
        have sn := same_new (o := .lst (r.map V.str)) npn
        have en : (upd H2 pn (.lst (r.map V.str))) pn = some (.lst (r.map V.str)) := upd_same
        have dn2 : pn ≠ p2 := (ne_of_none eK npn).symm
        have dn3 : pn ≠ p3 := by
          obtain ⟨_, e, _⟩ := id eFs
          exact (ne_of_none e npn).symm
        generalize upd H2 pn (.lst (r.map V.str)) = H3 at sn en ⊢
        have ew := sn _ _ ew
        have eL := sn _ _ eL
        have eK := sn _ _ eK
        have eFs := eFs.same sn
        have z3 := z2.trans sn
        have ln : (r.map V.str).length = r.length := List.length_map ..
        have lr : r.length ≤ 401 := by
          rw [ews, List.length_cons] at lws
          omega
        have rbad : ¬ HeadOk (w0 :: r) → readT x = (0 + 1, []) := fun n => readT_bad (by rw [els, el0, ews]; exact n)
        refine ⟨_, rfl, pw, _, 0, _, rfl, rfl, SqL.of ew, at0, rfl, _, rfl, ?_⟩
        by_cases c0 : w0 = "jobs"
        rotate_left
        · rw [show (!decide (V.str w0 = V.str "jobs")) = true by
            rw [decide_eq_false fun z => c0 (V.str.inj z)]
            rfl]
          exact iteT (iteT ⟨by decide, fun pl npl => ⟨(by show 2 ≤ sizeLine; decide), fun t nt => ret1 (n := 0) (rbad fun h => c0 h.1) z3 pl npl t nt⟩⟩)
        subst c0
        refine iteF ?_
        refine ⟨_, rfl, pn, _, rfl, .inl (SqL.of en), _, _, rfl, rfl, _, rfl, ?_⟩
        rw [ln]
        by_cases c1 : (0 : Int) < ((r.length : Nat) : Int)
        rotate_left
        · rw [decide_eq_false c1]
          exact iteF ⟨_, rfl, iteT (iteT ⟨by decide, fun pl npl => ⟨(by show 2 ≤ sizeLine; decide), fun t nt => ret1 (n := 0) (rbad fun h => c1 (by have := h.2.l1; rw [List.drop_one, List.tail_cons] at this; omega)) z3 pl npl t nt⟩⟩)⟩
        rw [decide_eq_true c1]
        refine iteT ⟨_, _, rfl, rfl, _, rfl, ?_⟩
        by_cases c2 : ((r.length : Nat) : Int) < 5
        rotate_left
        · rw [decide_eq_false c2]
          exact iteT (iteT ⟨by decide, fun pl npl => ⟨(by show 2 ≤ sizeLine; decide), fun t nt => ret1 (n := 0) (rbad fun h => c2 (by have := h.2.l4; rw [List.drop_one, List.tail_cons] at this; omega)) z3 pl npl t nt⟩⟩)
        rw [decide_eq_true c2]
        refine iteF ?_
        refine ⟨_, rfl, pn, r, rfl, en, by omega, _, rfl, pn, _, rfl, .inl (SqL.of en), _, _, rfl, rfl, _, rfl, ?_⟩
        rw [ln]
        by_cases c3 : r.Nodup
        rotate_left
        · rw [decide_eq_true (show ((difN r : Nat) : Int) < ((r.length : Nat) : Int) by have := difN_lt.mpr c3; omega)]
          exact iteT ⟨by decide, fun pl npl => ⟨(by show 2 ≤ sizeLine; decide), fun t nt => ret1 (n := 0) (rbad fun h => c3 h.2.nd) z3 pl npl t nt⟩⟩
        rw [difN_nodup c3, decide_eq_false (show ¬ ((r.length : Nat) : Int) < ((r.length : Nat) : Int) by omega)]
        refine iteF ?_
        refine ⟨_, rfl, pn, rfl, ⟨_, SqL.of en⟩, fun D hD => ?_⟩
        refine lc_list (K := K) (a := pn) (xs := r.map V.str) (fun i H' => Same H3 H' ∧ H' D = some (.lst (((r.take i).map nameB).map V.bl))) ⟨same_new hD, upd_same⟩ (fun i H' _ ⟨s1, _⟩ => SqL.of (s1 _ _ en)) ?_ ?_
        · rintro i v H' hx ⟨s1, eD⟩
          rw [List.getElem?_map] at hx
          cases c : r[i]? with
          | none =>
            rw [c] at hx
            cases hx
          | some nm =>
            rw [c] at hx
            obtain rfl : V.str nm = v := Option.some.inj hx
            have hi : i < r.length := (List.getElem?_eq_some_iff.mp c).1
            have hnl := wl nm (by rw [ews]; exact List.mem_cons_of_mem _ (List.mem_of_getElem? c))
            refine ⟨rfl, _, rfl, nm, rfl, by omega, fun H4 s4 => ?_⟩
            refine ⟨_, s4 _ _ eD, ?_, same_upd (s1.trans s4) hD, ?_⟩
            · rw [List.length_map, List.length_map, List.length_take]
              exact Nat.lt_of_le_of_lt (Nat.min_le_left _ _) (Nat.lt_of_lt_of_le (show i < 500 by omega) (by decide))
            · rw [upd_same, take_next c, List.map_append, List.map_append]
              rfl
        · rintro H4 ⟨s4, eD⟩
          rw [ln, List.take_length] at eD
          refine ⟨D, _, rfl, SqL.of eD, ?_⟩
          cases c4 : r.all nameB with
          | false =>
            rw [show (r.map nameB).all id = false by rw [List.all_map]; exact c4]
            exact ⟨_, rfl, iteT ⟨by decide, fun pl npl => ⟨(by show 2 ≤ sizeLine; decide), fun t nt => ret1 (n := 0) (rbad fun h => by have z := List.all_eq_true.mpr h.2.nm; rw [List.drop_one, List.tail_cons, c4] at z; cases z) (z3.trans s4) pl npl t nt⟩⟩⟩
          | true =>
            rw [show (r.map nameB).all id = true by rw [List.all_map]; exact c4]
            refine ⟨_, rfl, iteF ?_⟩
            have hh : HeadOk (wsOf (ls.headD "")) := by
              rw [el0, ews]
              refine ⟨rfl, ?_⟩
              rw [List.drop_one, List.tail_cons]
              exact ⟨by omega, by omega, c3, List.all_eq_true.mp c4⟩
            refine ⟨_, _, _, _, _, [], [], rfl, z3.trans s4, s4 _ _ eL, s4 _ _ eK, eFs.same s4, .inr ⟨pn, r, rfl, s4 _ _ en, ?_, hh, .nil, ?_, Nat.zero_le _, Nat.le_refl _, dn2, dn3⟩⟩
            · rw [el0, ews]
              rfl
            · unfold readT
              rw [els, if_pos hh, el0, ews]
              rfl
      · -- the other lines
        rw [decide_eq_false (show ¬ V.int ((i : Nat) : Int) = V.int 0 from fun e => by have := V.int.inj e; omega)]
        refine iteF ?_
        have eN := s12 _ _ eN
        have lN4 : names.length ≤ 4 := by
          rw [enm]
          exact hh.2.l4
        have lfs := ok.len
        have lnm : (names.map V.str).length = names.length := List.length_map ..
        rw [edrop, rdR] at hrd
        rw [ews] at ew hrd lws wl
        have ret : readT x = (i + 1, []) → ∀ {H' : Hp}, Same H H' → ∀ pl, H' pl = none → ∀ t, (upd H' pl (.lst [])) t = none → Q (.ref t) (upd (upd H' pl (.lst [])) t (.tup [.int (((i : Nat) : Int) + 1), .ref pl])) := fun e {H'} s pl npl t nt => by
          have z := ret1 (n := i) e s pl npl t
          rw [show ((i + 1 : Nat) : Int) = ((i : Nat) : Int) + 1 by omega] at z
          exact z nt
        have retG : readT x = (i + 1, []) → ∀ {σ : L2.St} {H' : Hp}, σ[4]? = some (some (.int (i : Nat))) → Same H H' → tTup (tCons (tOp (rI0 fun i j => .int (i + j)) (tVar 4) (tC (.int 1))) (tCons (tLst tNil) tNil)) σ H' Q := fun e {σ H'} h4 s =>
          ⟨_, h4, _, _, rfl, rfl, by decide, fun pl npl => ⟨(by show 2 ≤ sizeLine; decide), fun t nt => ret e s pl npl t nt⟩⟩
        refine ⟨_, rfl, pw, _, 0, _, rfl, rfl, SqL.of ew, at0, (by show 3 ≤ sizeLine; decide), fun tw ntw => ?_⟩
        have stw := same_new (o := .tup [.str "clean", .str "spent", .str "free"]) ntw
        have etw : (upd H2 tw (.tup [.str "clean", .str "spent", .str "free"])) tw = some (.tup (lined3.map V.str)) := upd_same
        generalize upd H2 tw (.tup [.str "clean", .str "spent", .str "free"]) = H3 at stw etw ⊢
        have ew := stw _ _ ew
        have eL := stw _ _ eL
        have eK := stw _ _ eK
        have eN := stw _ _ eN
        have eFs := eFs.same stw
        have z3 := z2.trans stw
        refine ⟨tw, _, rfl, .inr (SqT.of etw), rfl, rfl, _, rfl, ?_⟩
        rw [if_neg (by decide), inV_strs]
        rw [List.headD_cons] at hrd
        by_cases c0 : w0 ∈ lined3
        · rw [decide_eq_true c0]
          rw [if_pos c0] at hrd
          refine iteT ?_
          refine ⟨_, rfl, by decide, fun pe npe => ?_⟩
          have se := same_new (o := .lst []) npe
          have ee : LstAt (upd H3 pe (.lst [])) pe [] := ⟨[], upd_same, .nil⟩
          generalize upd H3 pe (.lst []) = H4 at se ee ⊢
          have ew := se _ _ ew
          have eL := se _ _ eL
          have eK := se _ _ eK
          have eN := se _ _ eN
          have eFs := eFs.same se
          have z4 := z3.trans se
          refine ⟨_, _, eFs.dp, ee.dp, shape_eFs _, by decide +kernel, _, rfl, ?_⟩
          rw [eqv_nilL]
          have bad : ¬ (fs = [] ∧ IsMan names kn (w0 :: r)) → readT x = (i + 1, []) := fun n => by
            rw [if_neg n] at hrd
            exact hrd.symm
          by_cases c1 : fs = []
          rotate_left
          · rw [decide_eq_false c1]
            exact iteT (iteT (retG (bad fun h => c1 h.1) rfl z4))
          rw [decide_eq_true c1]
          refine iteF ⟨_, rfl, pw, _, rfl, .inl (SqL.of ew), rfl, _, rfl, ?_⟩
          by_cases c2 : (w0 :: r).length = 2
          rotate_left
          · rw [show (!decide (V.int (((w0 :: r).map V.str).length : Int) = V.int 2)) = true by
              rw [decide_eq_false fun z => c2 (by have := V.int.inj z; rw [List.length_map] at this; omega)]
              rfl]
            exact iteT (iteT (retG (bad fun h => c2 h.2.1) rfl z4))
          obtain ⟨b, rfl⟩ : ∃ b, r = [b] := by
            match r, c2 with
            | [b], _ => exact ⟨b, rfl⟩
          refine iteF ?_
          refine ⟨_, rfl, pw, _, 1, _, rfl, rfl, SqL.of ew, at1, _, rfl, pn, _, rfl, .inl (SqL.of eN), rfl, ?_, _, rfl, ?_⟩
          · rw [List.all_map]
            exact List.all_eq_true.mpr fun _ _ => rfl
          rw [if_pos rfl, inV_strs]
          by_cases c4 : b ∈ names
          rotate_left
          · rw [decide_eq_false c4]
            exact iteT (iteT (retG (bad fun h => c4 h.2.2.2.1) rfl z4))
          rw [decide_eq_true c4]
          refine iteF ?_
          refine ⟨_, rfl, pw, _, 1, _, rfl, rfl, SqL.of ew, at1, _, rfl, p2, _, rfl, .inl (SqL.of eK), rfl, ?_, _, rfl, ?_⟩
          · rw [List.all_map]
            exact List.all_eq_true.mpr fun _ _ => rfl
          rw [if_neg (by decide), inV_strs]
          by_cases c5 : b ∈ kn.map (·.1)
          · rw [decide_eq_true c5]
            exact iteT (retG (bad fun h => h.2.2.2.2 c5) rfl z4)
          rw [decide_eq_false c5]
          refine iteF ?_
          rw [if_pos ⟨c1, rfl, c0, c4, c5⟩] at hrd
          refine ⟨_, rfl, .inl ⟨rfl, _, SqL.of eK⟩, ?_⟩
          refine ⟨_, rfl, pw, _, 1, _, rfl, rfl, SqL.of ew, at1, p2, _, _, rfl, rfl, eK, ?_, ?_⟩
          · rw [List.length_map, List.length_map]
            exact Nat.lt_of_lt_of_le (show kn.length < 201 by omega) (by decide)
          have t5 := tups_lst (o := .lst ((kn.map (·.1)).map V.str ++ [V.str b])) eK
          refine ⟨_, _, _, _, _, kn ++ [manIn [w0, b]], fs, rfl, same_upd z4 f2, (upd_ne dl2).trans eL, ?_, ?_, .inr ⟨pn, names, rfl, (upd_ne dn2).trans eN, enm, hh, ok, hrd, ?_, by omega, dn2, dn3⟩⟩
          · rw [upd_same, List.map_append, List.map_append]
            rfl
          · obtain ⟨ys, ey, fy⟩ := eFs
            exact ⟨ys, (upd_ne d23.symm).trans ey, fy.mv t5⟩
          · rw [List.length_append, List.length_singleton]
            omega
        rw [decide_eq_false c0]
        rw [if_neg c0] at hrd
        refine iteF ?_
        refine ⟨_, rfl, _, rfl, pn, _, rfl, .inl (SqL.of eN), pw, w0 :: r, names.length, by rw [lnm]; rfl, ew, ?_, by omega, by omega, wl, fun v H4 s4 fz => ?_⟩
        · rw [List.length_cons]
          omega
        have eL := s4 _ _ eL
        have eK := s4 _ _ eK
        have eN := s4 _ _ eN
        have eFs := eFs.same s4
        have z4 := z3.trans s4
        refine ⟨_, rfl, rfl, _, rfl, ?_⟩
        cases cf : factR names.length (w0 :: r) with
        | none =>
          rw [cf] at fz hrd
          obtain rfl := fz_non fz
          exact iteT (iteT (retG hrd.symm rfl z4))
        | some f0 =>
        rw [cf] at fz hrd
        dsimp only at hrd
        obtain ⟨_, hb0⟩ := factR_b (by rw [enm]; exact hh.2.l1) cf
        replace fz : Fz H4 v (eF f0) := fz
        obtain ⟨b, rr, rfl, eb⟩ := id fz.fact
        refine iteF ⟨_, rfl, _, rfl, eF f0, fs.map eF, fz.dp, eFs.dp, shape_eF f0, shape_eFs _, _, rfl, ?_⟩
        by_cases cin : f0 ∈ fs
        · rw [any_in.mpr cin]
          rw [if_pos (show Shut fs f0 from .inl cin)] at hrd
          exact iteT (retG hrd.symm rfl z4)
        rw [Bool.eq_false_iff.mpr (fun z => cin (any_in.mp z))]
        refine iteF ?_
        obtain ⟨ys, ey, fy⟩ := id eFs
        have ly : ys.length = fs.length := by rw [fy.len, List.length_map]
        refine ⟨_, rfl, p3, rfl, ⟨_, SqL.of ey⟩, fun D hD => ?_⟩
        refine lc_it (walk_list (K := K) (a := p3) (xs := ys)) (fun i H' => Same H4 H' ∧ ∃ acc, H' D = some (.lst acc) ∧ acc.length = GD.cnt (kindS f0) (fs.take i)) ⟨same_new hD, [], upd_same, rfl⟩ (fun i H' _ ⟨s1, _⟩ => SqL.of (s1 _ _ ey)) ?_ ?_
        · rintro j v Hx H' hj ⟨z5, acc, eA, la⟩ ⟨rfl, hv⟩
          obtain ⟨f9, hf9, fz9⟩ := (fy.same z5).atM hv
          obtain ⟨b9, r9, rfl, hb9⟩ := fz9.fact
          have ct : GD.cnt (kindS f0) (fs.take j) ≤ j := by
            unfold GD.cnt
            exact Nat.le_trans (List.length_filter_le _ _) (by rw [List.length_take]; exact Nat.min_le_left _ _)
          refine ⟨rfl, _, rfl, b9, _, 0, _, rfl, rfl, SqT.of hb9, at0, _, rfl, b, _, 0, _, rfl, rfl, SqT.of (z5 _ _ eb), at0, rfl, _, rfl, ?_⟩
          by_cases e : kindS f9 = kindS f0
          · rw [decide_eq_true (show V.str (kindS f9) = V.str (kindS f0) by rw [e])]
            refine iteT ⟨_, rfl, acc, eA, Nat.lt_of_lt_of_le (show acc.length < 1001 by omega) (by decide), same_upd z5 hD, _, upd_same, ?_⟩
            rw [cnt_take hf9, List.length_append, la, one3, if_pos e]
            rfl
          · rw [decide_eq_false (show ¬ V.str (kindS f9) = V.str (kindS f0) from fun z => e (V.str.inj z))]
            refine iteF ⟨z5, acc, eA, ?_⟩
            rw [cnt_take hf9, la, one3, if_neg e]
            rfl
        rintro H5 ⟨z5, acc, eA, la⟩
        rw [ly, List.take_length] at la
        refine ⟨D, acc, rfl, .inl (SqL.of eA), ?_⟩
        intro pd npd
        refine ⟨upd_same, dk3 24 6 4, rfl, (by show 3 ≤ 15; decide), ?_⟩
        show tOp _ _ _ _ (upd (upd H5 pd (.dK [])) pd (.dK (dk3 24 6 4))) _
        rw [upd_upd]
        have s6 := same_new (o := .dK (dk3 24 6 4)) npd
        have dg := DGet.k (k := .inr (kindS f0)) (show (upd H5 pd (.dK (dk3 24 6 4))) pd = some (.dK (dk3 24 6 4)) from upd_same)
        rw [dk3_get, lim_sel] at dg
        generalize upd H5 pd (.dK (dk3 24 6 4)) = H6 at s6 dg ⊢
        have z56 := z5.trans s6
        refine ⟨_, rfl, b, _, 0, _, rfl, rfl, SqT.of (z56 _ _ eb), at0, pd, _, rfl, dg, rfl, _, rfl, ?_⟩
        have lm := ok.lm (kindS f0) (kindS_is f0)
        by_cases cl : lim (kindS f0) ≤ GD.cnt (kindS f0) fs
        · rw [decide_eq_true (show V.int ((acc.length : Nat) : Int) = V.int ((lim (kindS f0) : Nat) : Int) by rw [la, Nat.le_antisymm lm cl])]
          rw [if_pos (show Shut fs f0 from .inr cl)] at hrd
          exact iteT (retG hrd.symm rfl (z4.trans z56))
        rw [decide_eq_false (show ¬ V.int ((acc.length : Nat) : Int) = V.int ((lim (kindS f0) : Nat) : Int) from fun e => cl (by have := V.int.inj e; omega))]
        refine iteF ?_
        have ns : ¬ Shut fs f0 := fun e => e.elim cin cl
        rw [if_neg ns] at hrd
        have ey6 := z56 _ _ ey
        refine ⟨_, rfl, .inl ⟨rfl, _, SqL.of ey6⟩, ?_⟩
        refine ⟨_, rfl, p3, ys, _, rfl, rfl, ey6, Nat.lt_of_lt_of_le (show ys.length < 35 by omega) (by decide), ?_⟩
        refine ⟨_, _, _, _, _, kn, fs ++ [f0], rfl, same_upd (z4.trans z56) f3, (upd_ne dl3).trans (z56 _ _ eL), (upd_ne d23).trans (z56 _ _ eK), ⟨ys ++ [.ref b], upd_same, FzAll.mv (tups_lst ey6) ?_⟩, .inr ⟨pn, names, rfl, (upd_ne dn3).trans (z56 _ _ eN), enm, hh, ok.more hb0 ns, hrd, by omega, by omega, dn2, dn3⟩⟩
        rw [List.map_append]
        exact (fy.same z56).snoc (fz.same z56)
    · rintro σ H' ⟨x1, x4, x5, x6, x7, kn, fs, rfl, z, eL, eK, eFs, stg⟩
      rw [lls] at stg
      rcases stg with ⟨h0, _⟩ | ⟨pn, names, rfl, eN, enm, hh, ok, hrd, hkl, hi1, dn2, dn3⟩
      · omega
      · rw [List.drop_length, rdR] at hrd
        refine ⟨_, rfl, (by show 2 ≤ sizeLine; decide), fun t nt => ?_⟩
        have st := same_new (o := .tup [.int 0, .ref p3]) nt
        refine q t p3 _ (z.trans st) ?_ ?_ fun _ => ⟨names.length, ?_, ?_⟩
        · rw [← hrd]
          exact upd_same
        · rw [← hrd]
          exact eFs.same st
        · rw [← hrd]
          exact ok
        · rw [enm]
          exact hh.2.l4
end
end K01
namespace GD
open PySem PySem.Spec PyProof.Rows L2 LamX
/-- a def that may raise, where its promise rules raising out -/
theorem fnOk_noX {P : Program} {w : World} {K : PySem.W.Frag} {mg : Str → Option Value} {base : Heap} {k : Nat} {f : Addr} {fd : FuncData} {ps : List Str} {sp : Sp} (F : FnOk P w K mg base (L2.CX P w) k f fd ps sp) : FnOk P w K mg base CX0 k f fd ps (fun vs H Q _ => sp vs H Q E0) := by
  refine ⟨fun vs H Q E h => F.len _ _ _ _ h, fun A outer s H args us vs Q E hr e0 hb r h => ?_⟩
  refine codeAny_mono (F.run A outer s H args us vs Q E0 hr e0 hb r h) fun r s' z => ?_
  cases r with
  | error e =>
    obtain ⟨_, _, _, _, _, _, _, _, _, _, _, _, z2⟩ := z
    exact False.elim z2
  | ok fl => cases fl <;> exact z
mutual
theorem Sh.ext {H H' : Hp} (x : ExtN H H') : ∀ {v : V} {d : PyData}, Sh H v d → Sh H' v d
  | _, _, .non => .non
  | _, _, .bl b => .bl b
  | _, _, .int i => .int i
  | _, _, .str y => .str y
  | _, _, .lst h n t => .lst (x _ _ h (fun ps z => by cases z)) n (ShAll.ext x t)
  | _, _, .tup h t => .tup (x _ _ h (fun ps z => by cases z)) (ShAll.ext x t)
  | _, _, .dct h a b => .dct (x _ _ h (fun ps z => by cases z)) (ShAll.ext x a) (ShAll.ext x b)
theorem ShAll.ext {H H' : Hp} (x : ExtN H H') : ∀ {v : List V} {d : List PyData}, ShAll H v d → ShAll H' v d
  | _, _, .nil => .nil
  | _, _, .cons a b => .cons (Sh.ext x a) (ShAll.ext x b)
end
/-! all but the pot and the tables stay -/
def KeepN (a : Addr) (H H' : Hp) : Prop := ∀ b o, b ≠ a → H b = some o → (∀ ps, o ≠ .tbl ps) → H' b = some o
theorem keepN_of {a : Addr} {H H' : Hp} (k : Keep a H H') : KeepN a H H' := fun b o n e _ => k b o n e
theorem keepN_ext {a : Addr} {H H' : Hp} (x : ExtN H H') : KeepN a H H' := fun b o _ e n => x b o e n
theorem keepN_same {a : Addr} {H H' : Hp} (s : Same H H') : KeepN a H H' := fun b o _ e _ => s b o e
theorem KeepN.trans {a : Addr} {H H1 H2 : Hp} (x : KeepN a H H1) (y : KeepN a H1 H2) : KeepN a H H2 := fun b o n e t => y b o n (x b o n e t) t
theorem tabs_keep {T : List (Addr × Str)} {a : Addr} {H H' : Hp} {z : Int} (p : PotAt H a z) (k : Keep a H H') (h : Tabs T H) : Tabs T H' := fun q hq => by
  obtain ⟨x, y, c, e, _⟩ := p
  obtain ⟨ps, h1, h2, h3⟩ := h q hq
  refine ⟨ps, k _ _ (ne_of h1 e (fun z => by cases z)) h1, h2, fun pos cv hc => ?_⟩
  obtain ⟨c, ec, h4⟩ := h3 pos cv hc
  exact ⟨c, ec, k _ _ (ne_of h4 e (fun z => by unfold CodeO at z; cases z)) h4⟩
theorem pot_ext {a : Addr} {H H' : Hp} {z : Int} (x : ExtN H H') (p : PotAt H a z) : PotAt H' a z := by
  obtain ⟨u, v, c, e, h⟩ := p
  exact ⟨u, v, c, x _ _ e (fun ps z => by cases z), h⟩
theorem Bes.keepN {a : Addr} {H H' : Hp} {v : V} {d : PyData} (k : KeepN a H H') (h : Bes a H v d) : Bes a H' v d := Sh.ext (fun b o e t => by
  obtain ⟨n, e1⟩ := del_some.mp e
  exact del_some.mpr ⟨n, k b o n e1 t⟩) h
theorem KeepN.tups {a : Addr} {H H' : Hp} {z : Int} (p : PotAt H a z) (k : KeepN a H H') : Tups H H' := by
  obtain ⟨_, _, _, ea, _⟩ := p
  exact fun b xs e => k b _ (ne_of e ea (fun z => by cases z)) e (fun ps z => by cases z)
theorem LstAt.keepN {a l : Addr} {H H' : Hp} {z : Int} {ds : List PyData} (p : PotAt H a z) (n : l ≠ a) (k : KeepN a H H') (h : LstAt H l ds) : LstAt H' l ds := by
  obtain ⟨xs, e, f⟩ := h
  exact ⟨xs, k _ _ n e (fun ps z => by cases z), f.mv (KeepN.tups p k)⟩
theorem TupF.keepN {a j : Addr} {H H' : Hp} {z : Int} {xs : List V} (p : PotAt H a z) (k : KeepN a H H') (h : TupF H j xs) : TupF H' j xs := by
  obtain ⟨o, d, e⟩ := h
  obtain ⟨_, _, _, ea, _⟩ := p
  exact ⟨o, d, k _ _ (ne_of e ea (fun z => by cases z)) e (fun ps z => by cases z)⟩
theorem BookAt.keepN {C a : Addr} {H H' : Hp} {z : Int} {b : Addr} {t : Str} {names : List Str} {ml : List (Str × Str)} {fs : List Fact} (p : PotAt H a z) (k : KeepN a H H') (h : BookAt C H b t names ml fs) : BookAt C H' b t names ml fs := by
  have tk := KeepN.tups p k
  obtain ⟨dx, j, m, f, a', h1, h2, h3, h4, h5⟩ := h
  have j2 := h2.keepN p k
  obtain ⟨_, _, _, ea, _⟩ := p
  exact ⟨dx, j, m, f, a', k _ _ (ne_of h1 ea (fun z => by cases z)) h1 (fun ps z => by cases z), j2, tk _ _ h3, h4.mv tk, h5.mv tk⟩
theorem ShopB.keepN {CB CS a : Addr} {H H' : Hp} {z : Int} {s : Addr} {names : List Str} {ml : List (Str × Str)} {sts : List Stk} (p : PotAt H a z) (k : KeepN a H H') (h : ShopB CB CS H s names ml sts) : ShopB CB CS H' s names ml sts := by
  have tk := KeepN.tups p k
  obtain ⟨dx, b, j, m, a', t, fs, h1, h2, h3, h4, h5⟩ := h
  have j2 := h2.keepN p k
  have b2 := h5.keepN p k
  obtain ⟨_, _, _, ea, _⟩ := p
  exact ⟨dx, b, j, m, a', t, fs, k _ _ (ne_of h1 ea (fun z => by cases z)) h1 (fun ps z => by cases z), j2, tk _ _ h3, h4.mv tk, b2⟩
theorem ShopB.same {CB CS : Addr} {H H' : Hp} {s : Addr} {names : List Str} {ml : List (Str × Str)} {sts : List Stk} (x : Same H H') (h : ShopB CB CS H s names ml sts) : ShopB CB CS H' s names ml sts := h.ext (ext_same x)
/-! levels, shown -/
theorem shown_natB {k : Nat} (n : Nat) (hk : 0 < k) (h : n < 10 ^ k) : (PyData.int (n : Int)).shown.length ≤ k := by
  rw [PyData.shown]
  show (Str.ofString (toString ((n : Nat) : Int))).length ≤ k
  rw [TL.len_tl, TL.tl_num]
  exact TL.numL_len hk h
theorem shown_intB {i : Int} (h1 : -(10 ^ 17) < i) (h2 : i < 10 ^ 17) : (PyData.int i).shown.length ≤ 18 := by
  cases i with
  | ofNat n => exact Nat.le_trans (shown_natB (k := 17) n (by decide) (by have : ((n : Nat) : Int) < 10 ^ 17 := h2; omega)) (by decide)
  | negSucc n =>
    have e : (PyData.int (Int.negSucc n)).shown.length = 1 + (PyData.int ((n + 1 : Nat) : Int)).shown.length := by
      rw [PyData.shown, PyData.shown]
      show (Str.ofString ("-" ++ toString (n + 1))).length = 1 + (Str.ofString (toString (n + 1))).length
      rw [PySem.ofString_length, PySem.ofString_length, String.length_append]
      rfl
    rw [e]
    have := shown_natB (k := 17) (n + 1) (by decide) (by omega)
    omega
theorem int_parts {i : Int} (h1 : -(10 ^ 17) < i) (h2 : i < 10 ^ 17) : (PyData.int i).showable = true ∧ PyData.intsShort 18 (.int i) = true ∧ (PyData.int i).weight ≤ 100 ∧ (PyData.int i).canLay0 = true := by
  have hn : i.natAbs < 2 ^ 57 := by
    have : (2 : Nat) ^ 57 = 144115188075855872 := by decide
    omega
  have hl : i.natAbs.log2 < 57 := by
    by_cases z : i.natAbs = 0
    · rw [z]
      decide
    · exact (Nat.log2_lt z).mpr hn
  refine ⟨by rw [PyData.showable]; exact decide_eq_true (by omega), by rw [PyData.intsShort]; exact decide_eq_true (shown_intB h1 h2), ?_, by rw [PyData.canLay0]⟩
  rw [PyData.weight]
  split <;> omega
theorem ints_all : ∀ {is : List Int}, (∀ i ∈ is, -(10 ^ 17) < i ∧ i < 10 ^ 17) → PyData.showableAll (is.map .int) = true ∧ PyData.intsShortAll 18 (is.map .int) = true ∧ PyData.weightAll (is.map .int) ≤ 101 * is.length ∧ PyData.canLayAll0 (is.map .int) = true ∧ PyData.depthAll (is.map .int) = 0
  | [], _ => ⟨by rw [List.map_nil, PyData.showableAll], by rw [List.map_nil, PyData.intsShortAll], by rw [List.map_nil, PyData.weightAll]; exact Nat.zero_le _, by rw [List.map_nil, PyData.canLayAll0], by rw [List.map_nil, PyData.depthAll]⟩
  | i :: r, h => by
    obtain ⟨a1, a2, a3, a4, a5⟩ := ints_all (is := r) fun x hx => h x (List.mem_cons_of_mem _ hx)
    obtain ⟨h1, h2⟩ := h i List.mem_cons_self
    obtain ⟨b1, b2, b3, b4⟩ := int_parts h1 h2
    refine ⟨by rw [List.map_cons, PyData.showableAll, b1, a1]; rfl, by rw [List.map_cons, PyData.intsShortAll, b2, a2]; rfl, ?_, by rw [List.map_cons, PyData.canLayAll0, b4, a4]; rfl, by rw [List.map_cons, PyData.depthAll, a5, PyData.depth]; rfl⟩
    rw [List.map_cons, PyData.weightAll, List.length_cons]
    omega
theorem nice_ints {is : List Int} (h : ∀ i ∈ is, -(10 ^ 17) < i ∧ i < 10 ^ 17) (l : is.length ≤ 100) : NiceD (.list (is.map .int)) := by
  obtain ⟨a1, a2, a3, a4, a5⟩ := ints_all h
  have d1 : (PyData.list (is.map .int)).depth ≤ 1 := by rw [PyData.depth, a5]; exact Nat.le_refl _
  have w1 : (PyData.list (is.map .int)).weight ≤ 10100 := by rw [PyData.weight]; omega
  have c1 : (PyData.list (is.map .int)).canLay0 = true := by rw [PyData.canLay0]; exact a4
  refine ⟨by rw [PyData.showable]; exact a1, by omega, ?_⟩
  have z := PyData.shown_le 18 (by decide) (.list (is.map .int)) (PyData.leavesShort_of_canLay0 18 _ c1 (by rw [PyData.intsShort]; exact a2))
  exact Nat.le_trans z (Nat.le_trans (show (18 + 2) * _ + 18 ≤ 300000 by omega) (by decide))
end GD
namespace GD
open PySem PySem.Spec PyProof.Rows L2 LamX
theorem rowOk_in {names : List Str} : ∀ {es : List (Str × Str)} {s : Stn}, RowOk names s es → ∀ e ∈ es, e.2 ∈ names := fun {es s} h e he => by
  have z := rowS_ev (names := names) (ds := es.map eE) (s := s) (by rw [show rowS names s (es.map eE) = some (rowE names s es) from h]; rfl) (eE e) (List.mem_map_of_mem he)
  obtain ⟨x, hx⟩ := Option.isSome_iff_exists.mp z
  obtain ⟨e1, _, h3⟩ := evD_eE hx
  have e2 : e = x := by
    unfold eE at e1
    injection e1 with e1
    injection e1 with a b
    injection b with b _
    injection a with a
    injection b with b
    exact Prod.ext a b
  rw [e2]
  exact h3
theorem rowOk_bd {names : List Str} {es : List (Str × Str)} (h : RowOk names (List.replicate names.length (0, 0)) es) (l : es.length ≤ 24) : ∀ t ∈ rowE names (List.replicate names.length (0, 0)) es, Bd 40 t ∧ t.length = names.length :=
  rowS_all h List.length_replicate bd_first (by rw [List.length_map]; omega)
end GD
namespace GD
open PySem PySem.Spec PyProof.Rows L2 LamX
def lamQ (x : Str) : Str := (x ++ ".<locals>.") ++ "<lambda>"
theorem noDict_ints : ∀ is : List Int, PyData.hasDictAll (is.map .int) = false
  | [] => by rw [List.map_nil, PyData.hasDictAll]
  | i :: r => by rw [List.map_cons, PyData.hasDictAll, PyData.hasDict, noDict_ints r]; rfl
theorem sh_ints {H : Hp} : ∀ is : List Int, ShAll H (is.map V.int) (is.map .int)
  | [] => .nil
  | i :: r => .cons (.int i) (sh_ints r)
/-- repr of a list of ints, wherever it lies -/
theorem call_reprI {X : Cx} (hgu : X.A.guards = some []) (hu : X.A.units + 64 < cLine) : CallR X (.builtin "repr") (fun xs H Q => ∃ (a : Addr) (is : List Int), xs = [.ref a] ∧ H a = some (.lst (is.map V.int)) ∧ NiceD (.list (is.map .int)) ∧ Q (.str (PyData.list (is.map .int)).shown) H) := by
  intro pins s σ H xs us Q I r h
  obtain ⟨a, is, rfl, e, ⟨hs, hd, hz⟩, q⟩ := h
  obtain ⟨u, rfl, ru⟩ := vals1 r
  cases ru
  obtain ⟨_, its, m, rv, ho⟩ := (show ObjOk X.prog X.w H s.heap a (.lst (is.map V.int)) from I.hok a _ e)
  obtain ⟨as, h1, h2⟩ := readsAll_of I.hok (sh_ints is) rv
  exact repr_of_reads' (.list ho rfl rfl h1) hs (fun z => by rw [PyData.hasDict, noDict_ints] at z; cases z) hgu (by omega) (fun _ _ e => e) (fun h' t tk k => ⟨.str _, H, I.kept (t' := tk) k, ⟨_, rfl⟩, q⟩) hz
/-- stocks as the law draws them -/
structure Stocked (js : List (Str × Str)) (sts : List Stk) : Prop where
  l1 : 1 ≤ js.length
  l4 : js.length ≤ 4
  l12 : sts.length ≤ 12
  b : ∀ st ∈ sts, st.2.length = js.length ∧ 0 ≤ st.1 ∧ st.1 ≤ 1000000000000 ∧ ∀ c ∈ st.2, -1000000000000 ≤ c.1 ∧ c.1 ≤ 1000000000000 ∧ -1000000000000 ≤ c.2 ∧ c.2 ≤ 1000000000000
theorem mul_bd {p c : Int} (h1 : 0 ≤ p) (h2 : p ≤ 40) (h3 : -1000000000000 ≤ c) (h4 : c ≤ 1000000000000) : -40000000000000 ≤ p * c ∧ p * c ≤ 40000000000000 := by
  constructor
  · have a := Int.mul_le_mul_of_nonneg_left h3 h1
    have b := Int.mul_le_mul_of_nonneg_right h2 (show (0 : Int) ≤ 1000000000000 by decide)
    omega
  · have a := Int.mul_le_mul_of_nonneg_left h4 h1
    have b := Int.mul_le_mul_of_nonneg_right h2 (show (0 : Int) ≤ 1000000000000 by decide)
    omega
theorem sum_bd : ∀ {cs s : List (Int × Int)}, (∀ c ∈ cs, -1000000000000 ≤ c.1 ∧ c.1 ≤ 1000000000000 ∧ -1000000000000 ≤ c.2 ∧ c.2 ≤ 1000000000000) → Bd 40 s →
    -(80000000000000 * (cs.length : Int)) ≤ (List.zipWith (fun c p => p.1 * c.1 + p.2 * c.2) cs s).sum ∧ (List.zipWith (fun c p : Int × Int => p.1 * c.1 + p.2 * c.2) cs s).sum ≤ 80000000000000 * (cs.length : Int)
  | [], s, _, _ => by simp
  | c :: cs, [], h, _ => by
    rw [List.zipWith_nil_right, List.sum_nil, List.length_cons]
    omega
  | c :: cs, p :: s, h, hs => by
    obtain ⟨a1, a2⟩ := sum_bd (cs := cs) (s := s) (fun x hx => h x (List.mem_cons_of_mem _ hx)) fun x hx => hs x (List.mem_cons_of_mem _ hx)
    obtain ⟨c1, c2, c3, c4⟩ := h c List.mem_cons_self
    obtain ⟨p1, p2, p3⟩ := hs p List.mem_cons_self
    obtain ⟨m1, m2⟩ := mul_bd (p := p.1) (c := c.1) (by omega) p3 c1 c2
    obtain ⟨m3, m4⟩ := mul_bd (p := p.2) (c := c.2) p1 (by omega) c3 c4
    rw [List.zipWith_cons_cons, List.sum_cons, List.length_cons]
    omega
theorem level_bd {js : List (Str × Str)} {sts : List Stk} {st : Stk} {s : Stn} (h : Stocked js sts) (hst : st ∈ sts) (hs : Bd 40 s) : -(10 ^ 17) < levelS st s ∧ levelS st s < 10 ^ 17 := by
  obtain ⟨l, b1, b2, b3⟩ := h.b st hst
  obtain ⟨a1, a2⟩ := sum_bd b3 hs
  have := h.l4
  unfold levelS
  rw [l] at a1 a2
  constructor
  · omega
  · omega
theorem pl_stn {s : Stn} (h : Bd 40 s) (l : s.length ≤ 10) : Pl 3 (eS s) := by
  refine .tup (by rw [List.length_map]; omega) fun d hd => ?_
  obtain ⟨p, hp, rfl⟩ := List.mem_map.mp hd
  obtain ⟨p1, p2, p3⟩ := h p hp
  refine .tup (by show 2 ≤ 100; decide) fun e he => ?_
  simp only [List.mem_cons, List.not_mem_nil, or_false] at he
  rcases he with rfl | rfl
  · exact .int (by omega) (by omega)
  · exact .int (by omega) (by omega)
theorem wt_pair {p : Int × Int} (h : -1 ≤ p.2 ∧ p.2 ≤ 100 ∧ -1 ≤ p.1 ∧ p.1 ≤ 100) : (eP p).weight ≤ 102 := by
  have a := (mild_int (i := p.1) (by omega) (by omega)).s.wt
  have b := (mild_int (i := p.2) (by omega) (by omega)).s.wt
  unfold eP
  rw [PyData.weight, PyData.weightAll, PyData.weightAll, PyData.weightAll]
  omega
theorem wt_pairs : ∀ {s : Stn}, (∀ p ∈ s, -1 ≤ p.2 ∧ p.2 ≤ 100 ∧ -1 ≤ p.1 ∧ p.1 ≤ 100) → PyData.weightAll (s.map eP) ≤ 103 * s.length
  | [], _ => by
    rw [List.map_nil, PyData.weightAll]
    exact Nat.zero_le _
  | p :: r, h => by
    have a := wt_pairs (s := r) fun q hq => h q (List.mem_cons_of_mem _ hq)
    have b := wt_pair (h p List.mem_cons_self)
    rw [List.map_cons, PyData.weightAll, List.length_cons]
    omega
theorem wt_stn {s : Stn} (h : ∀ p ∈ s, -1 ≤ p.2 ∧ p.2 ≤ 100 ∧ -1 ≤ p.1 ∧ p.1 ≤ 100) (l : s.length ≤ 12) : (eS s).weight ≤ 1300 := by
  have := wt_pairs h
  unfold eS
  rw [PyData.weight]
  omega
theorem mild_stn {s : Stn} (h : ∀ p ∈ s, -1 ≤ p.2 ∧ p.2 ≤ 100 ∧ -1 ≤ p.1 ∧ p.1 ≤ 100) (l : s.length ≤ 12) : Mild 2 1300 (eS s) ∧ Mild 2 1300 (.list (s.map eP)) := by
  refine mild_all (n := 1) (fun d hd => ⟨102, ?_⟩) (by have := wt_pairs h; omega)
  obtain ⟨p, hp, rfl⟩ := List.mem_map.mp hd
  have hp' := h p hp
  refine (mild_all (n := 0) (ds := [.int p.1, .int p.2]) (fun e he => ?_) ?_).1
  · simp only [List.mem_cons, List.not_mem_nil, or_false] at he
    rcases he with rfl | rfl
    · exact ⟨_, mild_int (by omega) (by omega)⟩
    · exact ⟨_, mild_int (by omega) (by omega)⟩
  · have a := (mild_int (i := p.1) (by omega) (by omega)).s.wt
    have b := (mild_int (i := p.2) (by omega) (by omega)).s.wt
    rw [PyData.weightAll, PyData.weightAll, PyData.weightAll]
    omega
theorem allD_of : ∀ {s : Stn}, Bd 40 s → allD pairI (s.map eP) = some s
  | [], _ => rfl
  | p :: r, h => by
    have hp := h p List.mem_cons_self
    rw [List.map_cons, allD, allD_of (s := r) fun q hq => h q (List.mem_cons_of_mem _ hq)]
    have e : pairI (eP p) = some p := by
      show (if 0 ≤ p.2 ∧ p.2 ≤ p.1 ∧ p.1 ≤ 40 then some (p.1, p.2) else none) = some p
      rw [if_pos hp]
    rw [e]
theorem stnD_of {k : Nat} {s : Stn} (h : Bd 40 s) (l : s.length = k) : stnD k (eS s) = some s := by
  show (if (s.map eP).length = k then allD pairI (s.map eP) else none) = some s
  rw [List.length_map, if_pos l, allD_of h]
theorem inR_of {i n : Nat} (h : i < n) : inR (some (i : Int)) (n : Nat) = true := decide_eq_true ⟨by omega, by omega⟩
/-- a value that may be asked: data beside the pot -/
def VOk (a : Addr) (H : Hp) (v : V) : Prop := ∃ d, Bes a H v d ∧ NiceD d ∧ d.weight ≤ 1000000
theorem VOk.keepN {a : Addr} {H H' : Hp} {v : V} (k : KeepN a H H') (h : VOk a H v) : VOk a H' v := by
  obtain ⟨d, b, n, w⟩ := h
  exact ⟨d, b.keepN k, n, w⟩
theorem vok_mild {a : Addr} {H : Hp} {v : V} {d : PyData} {n w : Nat} (b : Bes a H v d) (m : Mild n w d) (hn : n ≤ 20) (hw : w ≤ 1000000) : VOk a H v := ⟨d, b, mild_nice m hn hw, Nat.le_trans m.s.wt hw⟩
theorem fz_besP {H : Hp} {a : Addr} {z : Int} {v : V} {d : PyData} (p : PotAt H a z) (h : Fz H v d) : Bes a H v d := by
  obtain ⟨_, _, _, e, _⟩ := p
  exact fz_bes e h
theorem fzAll_bes {H : Hp} {a : Addr} {xs : List V} (ha : H a = some (.lst xs)) : ∀ {vs : List V} {ds : List PyData}, FzAll H vs ds → ShAll (del H a) vs ds
  | _, _, .nil => .nil
  | _, _, .cons f r => .cons (fz_bes ha f) (fzAll_bes ha r)
theorem odd_wt : ∀ d ∈ oddD, d.weight ≤ 1000000 := fun d hd => of_decide_eq_true (List.all_eq_true.mp (show (oddD.all fun d => decide (d.weight ≤ 1000000)) = true by decide +kernel) d hd)
/-- a number that may be asked -/
def NOk (v : V) : Prop := ∃ d, (∀ H, Sh H v d) ∧ NiceD d
theorem nok_int {i : Int} (h1 : -50 ≤ i) (h2 : i ≤ 50) : NOk (.int i) := by
  have sI := short_int h1 h2
  exact ⟨_, fun _ => .int _, nice_short ⟨sI.sh, sI.is, Nat.le_trans sI.wt (by decide), sI.ly⟩ (by rw [PyData.depth]; decide)⟩
theorem nok_rg {n : Nat} (h : n ≤ 12) : ∀ v ∈ rgV 0 n, NOk v := fun v hv => by
  unfold rgV at hv
  obtain ⟨i, hi, rfl⟩ := List.mem_map.mp hv
  have := List.mem_range.mp hi
  exact nok_int (by omega) (by omega)
/-- what was caught of a standing that is none -/
def COk (H : Hp) (CT : Addr) (v : V) (fine : Bool) (c : V) : Prop := (fine = true ∧ c = .non) ∨ (fine = false ∧ ∃ ae, c = .ref ae ∧ CgtAt H ae CT v)
theorem COk.ext {H H' : Hp} {CT : Addr} {v : V} {fine : Bool} {c : V} (x : ExtN H H') (h : COk H CT v fine c) : COk H' CT v fine c := by
  rcases h with h | ⟨e, ae, ec, h⟩
  · exact .inl h
  · exact .inr ⟨e, ae, ec, h.ext x⟩
theorem COk.same {H H' : Hp} {CT : Addr} {v : V} {fine : Bool} {c : V} (x : Same H H') (h : COk H CT v fine c) : COk H' CT v fine c := h.ext (ext_same x)
theorem inLH_inR (o : Option Int) (n : Nat) : inLH o 0 ((n : Nat) - 1 : Int) = inR o (n : Nat) := by
  cases o with
  | none => rfl
  | some i => exact decide_eq_decide.mpr ⟨fun z => by omega, fun z => by omega⟩
/-- told(lambda: ..)[0]: what was caught, or None -/
theorem told0 {K : PySem.W.Frag} {CE : Addr} {T : List (Addr × Str)} {t : XK → TE} {σ : L2.St} {H : Hp} {Q : VK} (R : V → Hp → Prop) (hT : Tabs T H) (key : ∀ c H', R c H' → Q c H')
    (h : ∀ (H1 : Hp) (E : XK) (Q1 : VK), ExtN H H1 → Tabs T H1 → (∀ cls d H', PySem.W.exmOne K cls (.ref CE) = some true → (∀ ae H'', Same H' H'' → H'' ae = some (exk ae cls d) → R (.ref ae) H'') → E cls d H') → (∀ v H', (∀ H'', Same H' H'' → R .non H'') → Q1 v H') → t E σ H1 Q1) :
    tOp (rIxT K) (tLam T (TPair K CE) t) (tC (.int 0)) σ H Q := by
  refine ⟨hT, fun H1 x1 T1 H2 s2 => h H2 _ _ (x1.trans (ext_same s2)) (tabs_same s2 T1) (fun cls d H' hx hr => ⟨hx, fun ae na tt nt => ?_⟩) (fun v H' hr tt nt => ?_)⟩
  · have sa := same_new (o := exk ae cls d) na
    have st := same_new (o := .tup [.ref ae, .non]) nt
    exact ⟨tt, _, 0, _, rfl, rfl, SqT.of upd_same, at0, key _ _ (hr ae _ (sa.trans st) (st _ _ upd_same))⟩
  · exact ⟨tt, _, 0, _, rfl, rfl, SqT.of upd_same, at0, key _ _ (hr _ (same_new nt))⟩
def spLevR (T : List (Addr × Str)) (CB CS : Addr) : Sp := fun vs H Q _ => ∃ (a l ta s : Addr) (z : Int) (js : List (Str × Str)) (sts : List Stk), vs = [.ref a, .ref l, .ref ta, .ref s] ∧ PotAt H a z ∧ z ≤ 9000 ∧ l ≠ a ∧ LstAt H l (js.map eE) ∧ Fz H (.ref ta) (.tuple (sts.map eK)) ∧
  ShopB CB CS H s (js.map (·.1)) (mlOf js) sts ∧ Stocked js sts ∧ Tabs T H ∧ ∀ H', PotAt H' a (z + 200) → KeepN a H H' → Tabs T H' → Q (.bl true) H'
end GD
namespace GD
open PySem PySem.Spec PyProof.Rows L2 LamX
theorem pool_short : ∀ x ∈ pool21, (∀ c ∈ TL.tl x, c < 128) ∧ x.length ≤ 20 := fun x hx => by
  have z := List.all_eq_true.mp (show (pool21.all fun x => (TL.tl x).all (fun c => decide (c < 128)) && decide (x.length ≤ 20)) = true by decide +kernel) x hx
  rw [Bool.and_eq_true, decide_eq_true_iff] at z
  exact ⟨fun c hc => of_decide_eq_true (List.all_eq_true.mp z.1 c hc), z.2⟩
theorem kinds_short {x : Str} (h : x = "begin" ∨ x = "end") : (∀ c ∈ TL.tl x, c < 128) ∧ x.length ≤ 20 := by
  have z := List.all_eq_true.mp (show ((["begin", "end"] : List Str).all fun x => (TL.tl x).all (fun c => decide (c < 128)) && decide (x.length ≤ 20)) = true by decide +kernel) x (by simpa using h)
  rw [Bool.and_eq_true, decide_eq_true_iff] at z
  exact ⟨fun c hc => of_decide_eq_true (List.all_eq_true.mp z.1 c hc), z.2⟩
/-- an event of short texts -/
def EvS (e : Str × Str) : Prop := ((∀ c ∈ TL.tl e.1, c < 128) ∧ e.1.length ≤ 20) ∧ ((∀ c ∈ TL.tl e.2, c < 128) ∧ e.2.length ≤ 20)
theorem evS_of {names : List Str} (hn : ∀ x ∈ names, x ∈ pool21) {e : Str × Str} (h1 : e.1 = "begin" ∨ e.1 = "end") (h2 : e.2 ∈ names) : EvS e := ⟨kinds_short h1, pool_short _ (hn _ h2)⟩
theorem rowOk_evs {names : List Str} (hn : ∀ x ∈ names, x ∈ pool21) {es : List (Str × Str)} {s : Stn} (h : RowOk names s es) : ∀ e ∈ es, EvS e := fun e he => by
  have z := rowS_ev (names := names) (ds := es.map eE) (s := s) (by rw [show rowS names s (es.map eE) = some (rowE names s es) from h]; rfl) (eE e) (List.mem_map_of_mem he)
  obtain ⟨x, hx⟩ := Option.isSome_iff_exists.mp z
  obtain ⟨e1, h2, h3⟩ := evD_eE hx
  have e2 : e = x := by
    unfold eE at e1
    injection e1 with e1
    injection e1 with a b
    injection b with b _
    injection a with a
    injection b with b
    exact Prod.ext a b
  rw [e2]
  exact evS_of hn h2 h3
theorem pl_ev {e : Str × Str} (h : EvS e) : Pl 2 (eE e) := by
  refine .tup (by show 2 ≤ 100; decide) fun d hd => ?_
  simp only [List.mem_cons, List.not_mem_nil, or_false] at hd
  rcases hd with rfl | rfl
  · exact .str h.1.1 (by have := h.1.2; omega)
  · exact .str h.2.1 (by have := h.2.2; omega)
theorem pl_row {es : List (Str × Str)} (h : ∀ e ∈ es, EvS e) (l : es.length ≤ 100) : Pl 3 (.tuple (es.map eE)) := by
  refine .tup (by rw [List.length_map]; omega) fun d hd => ?_
  obtain ⟨e, he, rfl⟩ := List.mem_map.mp hd
  exact pl_ev (h e he)
theorem wt_ev {e : Str × Str} (h : EvS e) : (eE e).weight ≤ 42 := by
  have a := h.1.2
  have b := h.2.2
  unfold eE
  rw [PyData.weight, PyData.weightAll, PyData.weightAll, PyData.weightAll, PyData.weight, PyData.weight]
  show e.1.length + 1 + (e.2.length + 1 + 0) ≤ 42
  omega
theorem wt_evs : ∀ {es : List (Str × Str)}, (∀ e ∈ es, EvS e) → PyData.weightAll (es.map eE) ≤ 43 * es.length
  | [], _ => by
    rw [List.map_nil, PyData.weightAll]
    exact Nat.zero_le _
  | e :: r, h => by
    have a := wt_evs (es := r) fun q hq => h q (List.mem_cons_of_mem _ hq)
    have b := wt_ev (h e List.mem_cons_self)
    rw [List.map_cons, PyData.weightAll, List.length_cons]
    omega
theorem mild_row {es : List (Str × Str)} (h : ∀ e ∈ es, EvS e) (l : es.length ≤ 100) : Mild 3 4300 (.tuple (es.map eE)) ∧ Mild 3 4300 (.list (es.map eE)) := by
  refine mild_all (n := 2) (fun d hd => ?_) (by have := wt_evs h; omega)
  obtain ⟨e, he, rfl⟩ := List.mem_map.mp hd
  exact ⟨_, (pl_ev (h e he)).mild⟩
theorem jsok_of {js : List (Str × Str)} {fs : List Fact} (h : JobsOk 4 man6 js) (hf : FactsOk js.length fs) : JsOk js fs := by
  obtain ⟨h1, h2, h3, h4⟩ := h
  refine ⟨⟨by rw [List.length_map]; exact h1, by rw [List.length_map]; exact h2, h3, fun x hx => ?_⟩, fun j hj => ?_, hf⟩
  · obtain ⟨j, hj, rfl⟩ := List.mem_map.mp hx
    exact pool_names _ (h4 j hj).1
  · exact man6_4 _ (h4 j hj).2
theorem fzAll_rep {H : Hp} {v : V} {e : Str × Str} (h : Fz H v (eE e)) : ∀ n : Nat, FzAll H (List.replicate n v) ((List.replicate n e).map eE)
  | 0 => .nil
  | n + 1 => .cons h (fzAll_rep h n)
theorem rowD_row {names : List Str} {es : List (Str × Str)} (h : RowOk names (List.replicate names.length (0, 0)) es) (l : es.length ≤ 24) : rowD names (.tuple (es.map eE)) = some (rowE names (List.replicate names.length (0, 0)) es) := by
  show (if (es.map eE).length ≤ 24 then rowS names (List.replicate names.length (0, 0)) (es.map eE) else none) = _
  rw [if_pos (by rw [List.length_map]; exact l)]
  exact h
def spRight9 (T : List (Addr × Str)) : Sp := fun vs H Q _ => ∃ (a : Addr) (z : Int), vs = [.ref a] ∧ PotAt H a z ∧ z ≤ 5000 ∧ Tabs T H ∧ ∀ H', PotAt H' a (z + 1500) → KeepN a H H' → Tabs T H' → Q (.bl true) H'
end GD
namespace GD
open PySem PySem.Spec PyProof.Rows L2 LamX
/-- the memory without the pot and without a list that grows -/
def de2 (a l : Addr) (H : Hp) : Hp := del (del H a) l
theorem de2_some {a l b : Addr} {H : Hp} {o : HO} : de2 a l H b = some o ↔ b ≠ l ∧ b ≠ a ∧ H b = some o := by
  unfold de2
  rw [del_some, del_some]
/-- data that may be asked, beside both -/
def VL (a l : Addr) (H : Hp) (v : V) : Prop := ∃ d, Sh (de2 a l H) v d ∧ NiceD d ∧ d.weight ≤ 1000000
theorem sh_de2 {a l : Addr} {H H' : Hp} {v : V} {d : PyData} (k : ∀ b o, b ≠ a → b ≠ l → H b = some o → H' b = some o) (h : Sh (de2 a l H) v d) : Sh (de2 a l H') v d := h.same fun b o e => by
  obtain ⟨h1, h2, h3⟩ := de2_some.mp e
  exact de2_some.mpr ⟨h1, h2, k b o h2 h1 h3⟩
theorem VL.mv {a l : Addr} {H H' : Hp} {v : V} (k : ∀ b o, b ≠ a → b ≠ l → H b = some o → H' b = some o) (h : VL a l H v) : VL a l H' v := by
  obtain ⟨d, s, n, w⟩ := h
  exact ⟨d, sh_de2 k s, n, w⟩
theorem VL.vok {a l : Addr} {H : Hp} {v : V} (h : VL a l H v) : VOk a H v := by
  obtain ⟨d, s, n, w⟩ := h
  exact ⟨d, s.same fun b o e => by
    obtain ⟨_, h2, h3⟩ := de2_some.mp e
    exact del_some.mpr ⟨h2, h3⟩, n, w⟩
theorem vl_mild {a l : Addr} {H : Hp} {v : V} {d : PyData} {n w : Nat} (b : Sh (de2 a l H) v d) (m : Mild n w d) (hn : n ≤ 20) (hw : w ≤ 1000000) : VL a l H v := ⟨d, b, mild_nice m hn hw, Nat.le_trans m.s.wt hw⟩
theorem tups_de2 {a l : Addr} {H : Hp} {zs ws : List V} (ha : H a = some (.lst zs)) (hl : H l = some (.lst ws)) : Tups H (de2 a l H) := fun b ys e => de2_some.mpr ⟨ne_of e hl (fun z => by cases z), ne_of e ha (fun z => by cases z), e⟩
theorem fz_de2 {a l : Addr} {H : Hp} {zs ws : List V} {v : V} {d : PyData} (ha : H a = some (.lst zs)) (hl : H l = some (.lst ws)) (f : Fz H v d) : Sh (de2 a l H) v d := (f.mv (tups_de2 ha hl)).sh
theorem fzAll_de2 {a l : Addr} {H : Hp} {zs ws : List V} (ha : H a = some (.lst zs)) (hl : H l = some (.lst ws)) : ∀ {vs : List V} {ds : List PyData}, FzAll H vs ds → ShAll (de2 a l H) vs ds
  | _, _, .nil => .nil
  | _, _, .cons f r => .cons (fz_de2 ha hl f) (fzAll_de2 ha hl r)
theorem shAll_de2 {a l : Addr} {H H' : Hp} {v : List V} {d : List PyData} (k : Same H H') (h : ShAll (de2 a l H) v d) : ShAll (de2 a l H') v d := h.same fun b o e => by
  obtain ⟨h1, h2, h3⟩ := de2_some.mp e
  exact de2_some.mpr ⟨h1, h2, k b o h3⟩
/-- tuples of data, joined, beside both -/
theorem cat_de2 {K : PySem.W.Frag} {H : Hp} {a l x y : Addr} {zs ws xs ys : List V} {ds es : List PyData} {Q : VK} (ha : H a = some (.lst zs)) (hl : H l = some (.lst ws)) (hx : H x = some (.tup xs)) (hy : H y = some (.tup ys)) (bx : ShAll (de2 a l H) xs ds) (bY : ShAll (de2 a l H) ys es) (hn : xs.length + ys.length ≤ 1000)
    (k : ∀ p zs' H', Same H H' → H' p = some (.tup zs') → ShAll (de2 a l H') zs' (ds ++ es) → zs'.length = xs.length + ys.length → Q (.ref p) H') : rCatA K (.ref x) (.ref y) H Q := by
  refine ⟨x, y, xs, ys, rfl, rfl, SqT.of hx, SqT.of hy, Nat.le_of_lt (small1000 hn), fun e => ?_, fun _ e => ?_, fun _ _ p hp => ?_⟩
  · subst e
    cases bx
    exact k _ _ _ (Same.refl H) hy bY (by rw [List.length_nil, Nat.zero_add])
  · subst e
    cases bY
    refine k _ _ _ (Same.refl H) hx ?_ rfl
    rw [List.append_nil]
    exact bx
  · have s := same_new (o := .tup (xs ++ ys)) hp
    exact k _ _ _ s upd_same (shAll_de2 s (bx.append bY)) List.length_append
theorem cut_fromG {ds : List PyData} {i : Nat} : cutD ds (some (i : Int)) none = ds.drop i := by
  unfold cutD
  rw [HT.sIx_none, HT.sIx_nat, List.take_of_length_le (by rw [List.length_drop]; exact Nat.le_refl _)]
  by_cases h : i ≤ ds.length
  · rw [Nat.min_eq_left h]
  · rw [Nat.min_eq_right (by omega), List.drop_length, List.drop_of_length_le (by omega)]
theorem cut_oneG {ds : List PyData} {i : Nat} (h : i ≤ ds.length) : cutD ds (some (i : Int)) (some ((i : Int) + 1)) = (ds.drop i).take 1 := by
  unfold cutD
  rw [show ((i : Int) + 1) = ((i + 1 : Nat) : Int) by omega, HT.sIx_nat, HT.sIx_nat, Nat.min_eq_left h]
  by_cases g : i + 1 ≤ ds.length
  · rw [Nat.min_eq_left g, show i + 1 - i = 1 by omega]
  · have e : i = ds.length := by omega
    rw [e, List.drop_length]
    simp
theorem mild_ins {es : List (Str × Str)} (h : ∀ e ∈ es, EvS e) (l : es.length ≤ 30) {de : PyData} (m : Mild 3 200 de) (i : Nat) : Mild 4 5000 (.tuple ((es.map eE).take i ++ [de] ++ (es.map eE).drop i)) := by
  have w := wt_evs h
  have wt := wAll_take (es.map eE) i
  refine (mild_all (n := 3) (fun d hd => ?_) ?_).1
  · have ev : d ∈ es.map eE → ∃ v, Mild 3 v d := fun hd => by
      obtain ⟨e, he, rfl⟩ := List.mem_map.mp hd
      exact ⟨_, (pl_ev (h e he)).mild.le (by decide) (Nat.le_refl _)⟩
    rcases List.mem_append.mp hd with hd | hd
    · rcases List.mem_append.mp hd with hd | hd
      · exact ev (List.mem_of_mem_take hd)
      · rw [List.mem_singleton.mp hd]
        exact ⟨_, m⟩
    · exact ev (List.mem_of_mem_drop hd)
  · have z := m.s.wt
    rw [wAll_append, wAll_append, PyData.weightAll, PyData.weightAll]
    omega
mutual
theorem Sh.nofrz {M : Hp} {D : Addr} {o : Obj} {u : HO} (hD : M D = some (.frz o u)) : ∀ {v : V} {d : PyData}, Sh M v d → Sh (del M D) v d
  | _, _, .non => .non
  | _, _, .bl b => .bl b
  | _, _, .int i => .int i
  | _, _, .str y => .str y
  | _, _, .lst h n t => .lst (del_some.mpr ⟨fun z => (by rw [z, hD] at h; cases h), h⟩) n (ShAll.nofrz hD t)
  | _, _, .tup h t => .tup (del_some.mpr ⟨fun z => (by rw [z, hD] at h; cases h), h⟩) (ShAll.nofrz hD t)
  | _, _, .dct h a b => .dct (del_some.mpr ⟨fun z => (by rw [z, hD] at h; cases h), h⟩) (ShAll.nofrz hD a) (ShAll.nofrz hD b)
theorem ShAll.nofrz {M : Hp} {D : Addr} {o : Obj} {u : HO} (hD : M D = some (.frz o u)) : ∀ {v : List V} {d : List PyData}, ShAll M v d → ShAll (del M D) v d
  | _, _, .nil => .nil
  | _, _, .cons a b => .cons (Sh.nofrz hD a) (ShAll.nofrz hD b)
end
/-- a list is held fast while something else is reckoned -/
def tHeld (te : TE) : TE := fun σ H Q => ∃ (D : Addr) (acc : List V), H D = some (.lst acc) ∧ ∀ od : Obj, te σ (upd H D (.frz od (.lst acc))) fun v H' => H' D = some (.frz od (.lst acc)) ∧ Q v (upd H' D (.lst acc))
theorem pe_held {X : Cx} {e : Expr} {te : TE} (he : PE X e te) : PE X e (tHeld te) := by
  refine ⟨fun pins s σ H Q I h => ?_⟩
  obtain ⟨D, acc, e0, h⟩ := h
  obtain ⟨od, I1⟩ := I.lock e0 trivial
  have hn := I.nofrz e0 trivial
  exact thn (he.run pins s σ _ _ I1 (h od)) fun v s1 ⟨x, H1, I2, r1, q1, q2⟩ => ⟨x, _, I2.unlock q1 hn, r1, q2⟩
def StrS (x : Str) : Prop := (∀ c ∈ TL.tl x, c < 128) ∧ x.length ≤ 20
theorem strS_of {x : Str} (h : ((TL.tl x).all (fun c => decide (c < 128)) && decide (x.length ≤ 20)) = true) : StrS x := by
  rw [Bool.and_eq_true, decide_eq_true_iff] at h
  exact ⟨fun c hc => of_decide_eq_true (List.all_eq_true.mp h.1 c hc), h.2⟩
theorem wt_strs : ∀ {xs : List Str}, (∀ x ∈ xs, StrS x) → PyData.weightAll (xs.map PyData.str) ≤ 21 * xs.length
  | [], _ => by
    rw [List.map_nil, PyData.weightAll]
    exact Nat.zero_le _
  | x :: r, h => by
    have a := wt_strs (xs := r) fun q hq => h q (List.mem_cons_of_mem _ hq)
    have b := (h x List.mem_cons_self).2
    rw [List.map_cons, PyData.weightAll, PyData.weight, List.length_cons]
    show x.length + 1 + _ ≤ _
    omega
theorem mild_strs {xs : List Str} (h : ∀ x ∈ xs, StrS x) (l : xs.length ≤ 4) : Mild 1 100 (.tuple (xs.map PyData.str)) ∧ Mild 1 100 (.list (xs.map PyData.str)) := by
  refine mild_all (n := 0) (fun d hd => ?_) (by have := wt_strs h; omega)
  obtain ⟨x, hx, rfl⟩ := List.mem_map.mp hd
  exact ⟨_, mild_str fun c hc => Nat.lt_trans ((h x hx).1 c hc) (by decide)⟩
theorem sh_strs {M : Hp} : ∀ xs : List Str, ShAll M (xs.map V.str) (xs.map PyData.str)
  | [] => .nil
  | x :: r => .cons (.str x) (sh_strs r)
end GD
/-! repr of a tuple that holds a known tuple of texts -/
namespace GD
open PySem PySem.Spec PyProof.Rows L2 LamX
inductive ShF (H : Hp) : V → PyData → Prop
  | sh {v : V} {d : PyData} : Sh H v d → ShF H v d
  | fz {j : Addr} {ys : List Str} : TupF H j (ys.map V.str) → ShF H (.ref j) (.tuple (ys.map PyData.str))
inductive ShFAll (H : Hp) : List V → List PyData → Prop
  | nil : ShFAll H [] []
  | cons {x : V} {d : PyData} {xs : List V} {ds : List PyData} : ShF H x d → ShFAll H xs ds → ShFAll H (x :: xs) (d :: ds)
section
variable {P : Program} {w : World} {H : Hp} {h : Heap}
theorem readsF (ok : HOk P w H h) {v : V} {d : PyData} {u : Value} (s : ShF H v d) (r : RelV v u) : ∃ as, Reads h u d as ∧ sysModules ∉ as := by
  cases s with
  | sh s => exact reads_of ok s r
  | @fz j ys s =>
    cases r
    obtain ⟨o, dn, e⟩ := s
    obtain ⟨g1, hz, its, rv, o', ho, hc, m, hd⟩ := (show ObjOk P w H h j (.frz o (.tup (ys.map V.str))) from ok j _ e)
    obtain ⟨as, h1, h2⟩ := readsAll_of ok (sh_strs (M := H) ys) rv
    exact ⟨_, .tuple ho hc hd h1, h2⟩
theorem readsFAll (ok : HOk P w H h) : ∀ {vs : List V} {ds : List PyData} {us : List Value}, ShFAll H vs ds → Vals vs us → ∃ as, ReadsAll h us ds as ∧ sysModules ∉ as
  | _, _, _, .nil, r => by
    cases r
    exact ⟨_, .nil, fun z => nomatch z⟩
  | _, _, _, .cons a b, r => by
    cases r with
    | cons r1 r2 =>
      obtain ⟨as, h1, h2⟩ := readsF ok a r1
      obtain ⟨bs, h3, h4⟩ := readsFAll ok b r2
      exact ⟨_, .cons h1 h3, fun z => (List.mem_append.mp z).elim h2 h4⟩
end
def rReprT : List V → Hp → VK → Prop := fun xs H Q => ∃ (t : Addr) (ys : List V) (ds : List PyData), xs = [.ref t] ∧ H t = some (.tup ys) ∧ ShFAll H ys ds ∧ NiceD (.tuple ds) ∧ Q (.str (PyData.tuple ds).shown) H
theorem call_reprT {X : Cx} (hgu : X.A.guards = some []) (hu : X.A.units + 64 < cLine) : CallR X (.builtin "repr") rReprT := by
  intro pins s σ H xs us Q I r h
  obtain ⟨t, ys, ds, rfl, et, sh, ⟨hs, hd, hz⟩, q⟩ := h
  obtain ⟨u, rfl, ru⟩ := vals1 r
  cases ru
  obtain ⟨_, its, rv, o, ho, hc, m, hdt⟩ := (show ObjOk X.prog X.w H s.heap t (.tup ys) from I.hok t _ et)
  obtain ⟨as, h1, h2⟩ := readsFAll I.hok sh rv
  have rd : Reads s.heap (.ref t) (.tuple ds) as := .tuple ho hc hdt h1
  exact repr_of_reads' rd hs (fun _ => h2) hgu (by omega) (fun _ _ e => e) (fun h' t tk k => ⟨.str (PyData.tuple ds).shown, H, I.kept (t' := tk) k, ⟨_, rfl⟩, q⟩) hz
def rReprS : List V → Hp → VK → Prop := fun xs H Q => ∃ v d, xs = [v] ∧ Sh H v d ∧ NiceD d ∧ Q (.str d.shown) H
theorem call_reprR {X : Cx} (hgu : X.A.guards = some []) (hu : X.A.units + 64 < cLine) : CallR X (.builtin "repr") rReprS := call_reprS hgu hu
end GD
/-! what repr shows of facts is shown of nothing else -/
namespace GD
open PySem PySem.Spec PyProof.Rows L2
def tls (d : PyData) : List Nat := TL.tl d.shown
/-- nothing, or a comma, or the end of a tuple -/
def Del (r : List Nat) : Prop := r = [] ∨ ∃ t, r = 44 :: t ∨ r = 41 :: t
def NumC (c : Nat) : Prop := c = 45 ∨ (48 ≤ c ∧ c ≤ 57)
theorem tl_cat (x y : Str) : TL.tl (x ++ y) = TL.tl x ++ TL.tl y := TL.tl_append x y
theorem tl_os (s : String) : TL.tl (Str.ofString s) = s.toList.map Char.toNat := TL.tl_ofString s
/-- whole numbers -/
def intL (i : Int) : List Nat := match i with
  | .ofNat n => TL.numL n
  | .negSucc n => 45 :: TL.numL (n + 1)
theorem tls_int (i : Int) : tls (.int i) = intL i := by
  unfold tls
  rw [PyData.shown]
  cases i with
  | ofNat n => exact TL.tl_num n
  | negSucc n =>
    show TL.tl (Str.ofString ("-" ++ toString (n + 1))) = 45 :: TL.numL (n + 1)
    have h := TL.tl_num (n + 1)
    rw [← h, tl_os, tl_os, String.toList_append, List.map_append]
    rfl
theorem numL_c {n c : Nat} (h : c ∈ TL.numL n) : 48 ≤ c ∧ c ≤ 57 := TL.numL_digits n c h
theorem intL_c {i : Int} {c : Nat} (h : c ∈ intL i) : NumC c := by
  cases i with
  | ofNat n => exact .inr (numL_c h)
  | negSucc n =>
    rcases List.mem_cons.mp h with rfl | h
    · exact .inl rfl
    · exact .inr (numL_c h)
theorem intL_inj {i j : Int} (h : intL i = intL j) : i = j := by
  have no : ∀ {m n : Nat}, TL.numL m ≠ 45 :: TL.numL n := fun {m n} e => by
    have := numL_c (n := m) (c := 45) (by rw [e]; exact List.mem_cons_self)
    omega
  cases i with
  | ofNat m =>
    cases j with
    | ofNat n => rw [TL.numL_inj h]
    | negSucc n => exact absurd h no
  | negSucc m =>
    cases j with
    | ofNat n => exact absurd h.symm no
    | negSucc n =>
      have := TL.numL_inj (List.cons.inj h).2
      rw [show m = n by omega]
theorem span_eq {p : Nat → Prop} : ∀ {a b r s : List Nat}, (∀ c ∈ a, p c) → (∀ c ∈ b, p c) → (∀ c t, r = c :: t → ¬ p c) → (∀ c t, s = c :: t → ¬ p c) → a ++ r = b ++ s → a = b ∧ r = s
  | [], [], r, s, _, _, _, _, e => ⟨rfl, e⟩
  | [], y :: b, r, s, _, hb, hr, _, e => absurd (hb y List.mem_cons_self) (hr y _ e)
  | x :: a, [], r, s, ha, _, _, hs, e => absurd (ha x List.mem_cons_self) (hs x _ e.symm)
  | x :: a, y :: b, r, s, ha, hb, hr, hs, e => by
    obtain ⟨rfl, e2⟩ := List.cons.inj e
    obtain ⟨rfl, rfl⟩ := span_eq (fun c h => ha c (List.mem_cons_of_mem _ h)) (fun c h => hb c (List.mem_cons_of_mem _ h)) hr hs e2
    exact ⟨rfl, rfl⟩
theorem Del.noNum {r : List Nat} (h : Del r) : ∀ c t, r = c :: t → ¬ NumC c := fun c t e n => by
  rcases h with rfl | ⟨u, rfl | rfl⟩
  · cases e
  · cases e
    rcases n with n | n <;> omega
  · cases e
    rcases n with n | n <;> omega
/-- texts -/
def escL (q : Nat) (x : List Nat) : List Nat := x.flatMap (Builtin.Str.reprChar q)
theorem foldl_esc (q : Nat) : ∀ (l : List Nat) (acc : Array Nat), (l.foldl (fun out c => out ++ (Builtin.Str.reprChar q c).toArray) acc).toList = acc.toList ++ escL q l
  | [], acc => by
    show acc.toList = acc.toList ++ []
    rw [List.append_nil]
  | c :: r, acc => by
    rw [List.foldl_cons, foldl_esc q r, Array.toList_append]
    show acc.toList ++ Builtin.Str.reprChar q c ++ escL q r = acc.toList ++ (Builtin.Str.reprChar q c ++ escL q r)
    rw [List.append_assoc]
theorem tls_str (x : Str) : ∃ q, tls (.str x) = q :: (escL q (TL.tl x) ++ [q]) ∧ (q = 34 ∨ q = 39) := by
  refine ⟨PySem.reprQuote x, ?_, ?_⟩
  · unfold tls
    rw [PyData.shown]
    show (Array.push _ _).toList = _
    rw [Array.toList_push, ← Array.foldl_toList, foldl_esc]
    rfl
  · unfold PySem.reprQuote
    split
    · exact .inl rfl
    · exact .inr rfl
/-- small letters -/
def LetL (x : Str) : Prop := ∀ c ∈ TL.tl x, 97 ≤ c ∧ c ≤ 122
theorem esc_head {c : Nat} : ∃ u t, Builtin.Str.reprChar 39 c = u :: t ∧ ((97 ≤ u ∧ u ≤ 122) → u = c ∧ t = []) ∧ u ≠ 39 := by
  unfold Builtin.Str.reprChar
  dsimp only
  split
  · exact ⟨92, [c], rfl, fun h => by omega, by decide⟩
  rename_i h1
  split
  · exact ⟨92, _, rfl, fun h => by omega, by decide⟩
  split
  · exact ⟨92, _, rfl, fun h => by omega, by decide⟩
  split
  · exact ⟨92, _, rfl, fun h => by omega, by decide⟩
  split
  · refine ⟨c, [], rfl, fun _ => ⟨rfl, rfl⟩, fun z => ?_⟩
    rw [z] at h1
    exact h1 rfl
  split
  · exact ⟨92, _, rfl, fun h => by omega, by decide⟩
  split
  · exact ⟨92, _, rfl, fun h => by omega, by decide⟩
  · exact ⟨92, _, rfl, fun h => by omega, by decide⟩
theorem esc_let {c : Nat} (h : 97 ≤ c ∧ c ≤ 122) : Builtin.Str.reprChar 39 c = [c] := by
  have z : ∀ k, k < 26 → Builtin.Str.reprChar 39 (97 + k) = [97 + k] := by decide +kernel
  have e := z (c - 97) (by omega)
  rw [show 97 + (c - 97) = c by omega] at e
  exact e
theorem escL_let : ∀ {y : List Nat}, (∀ c ∈ y, 97 ≤ c ∧ c ≤ 122) → escL 39 y = y
  | [], _ => rfl
  | c :: r, h => by
    show Builtin.Str.reprChar 39 c ++ escL 39 r = c :: r
    rw [esc_let (h c List.mem_cons_self), escL_let fun d hd => h d (List.mem_cons_of_mem _ hd)]
    rfl
theorem esc_eq : ∀ {x y r s : List Nat}, (∀ c ∈ y, 97 ≤ c ∧ c ≤ 122) → escL 39 x ++ 39 :: r = y ++ 39 :: s → x = y ∧ r = s
  | [], [], r, s, _, e => ⟨rfl, (List.cons.inj e).2⟩
  | [], d :: y, r, s, hy, e => by
    have z := (List.cons.inj e).1
    have := hy d List.mem_cons_self
    omega
  | c :: x, [], r, s, hy, e => by
    obtain ⟨u, t, e1, _, e3⟩ := esc_head (c := c)
    have e' : (Builtin.Str.reprChar 39 c ++ escL 39 x) ++ 39 :: r = 39 :: s := e
    rw [e1] at e'
    exact absurd (List.cons.inj e').1 e3
  | c :: x, d :: y, r, s, hy, e => by
    obtain ⟨u, t, e1, e2, e3⟩ := esc_head (c := c)
    have e' : (Builtin.Str.reprChar 39 c ++ escL 39 x) ++ 39 :: r = d :: (y ++ 39 :: s) := e
    rw [e1] at e'
    obtain ⟨rfl, e4⟩ := List.cons.inj e'
    obtain ⟨rfl, rfl⟩ := e2 (hy u List.mem_cons_self)
    obtain ⟨rfl, rfl⟩ := esc_eq (fun c h => hy c (List.mem_cons_of_mem _ h)) (show escL 39 x ++ 39 :: r = y ++ 39 :: s from e4)
    exact ⟨rfl, rfl⟩
/-- tuples -/
def restL : List PyData → List Nat
  | [] => [41]
  | d :: r => 44 :: 32 :: (tls d ++ restL r)
theorem tl_join : ∀ (d : PyData) (r : List PyData), TL.tl (Str.join ", " (PyData.shownAll (d :: r))) ++ [41] = tls d ++ restL r
  | d, [] => by
    rw [PyData.shownAll, PyData.shownAll]
    rfl
  | d, e :: r => by
    have ih := tl_join e r
    rw [PyData.shownAll] at ih ⊢
    rw [PyData.shownAll]
    show TL.tl (d.shown ++ ", " ++ Str.join ", " (e.shown :: PyData.shownAll r)) ++ [41] = _
    rw [tl_cat, tl_cat, List.append_assoc, List.append_assoc, ih]
    rfl
theorem tls_nil : tls (.tuple []) = [40, 41] := by
  unfold tls
  rw [PyData.shown, PyData.shownAll]
  rfl
theorem tls_one (d : PyData) : tls (.tuple [d]) = 40 :: (tls d ++ [44, 41]) := by
  unfold tls
  rw [PyData.shown, PyData.shownAll, PyData.shownAll]
  show TL.tl ("(" ++ d.shown ++ (",)" : String)) = _
  rw [tl_cat, tl_cat]
  rfl
theorem tls_more (d e : PyData) (r : List PyData) : tls (.tuple (d :: e :: r)) = 40 :: (tls d ++ restL (e :: r)) := by
  have h := tl_join d (e :: r)
  rw [← h]
  unfold tls
  rw [PyData.shown]
  unfold PyData.shownAll
  unfold PyData.shownAll
  show TL.tl ("(" ++ Str.join ", " (d.shown :: e.shown :: PyData.shownAll r) ++ (")" : String)) = _
  rw [tl_cat, tl_cat, List.append_assoc]
  rfl
theorem tls_list (ds : List PyData) : ∃ t, tls (.list ds) = 91 :: t := by
  unfold tls
  rw [PyData.shown]
  unfold listText
  have z : ∀ (ts : List Str) (k : Nat) (acc : Str) (u : List Nat), TL.tl acc = 91 :: u → ∃ t, TL.tl (textFrom k acc ts) = 91 :: t := by
    intro ts
    induction ts with
    | nil => exact fun k acc u h => ⟨u, h⟩
    | cons t r ih =>
      intro k acc u h
      refine ih (k + 1) _ (u ++ TL.tl (if k > 0 then (", " : String) else "" : String) ++ TL.tl t) ?_
      rw [tl_cat, tl_cat, h]
      rfl
  obtain ⟨t, e⟩ := z (PyData.shownAll ds) 0 "[" [] rfl
  exact ⟨t ++ TL.tl "]", by rw [tl_cat, e]; rfl⟩
theorem tls_dict (ds : List (PyData × PyData)) : ∃ t, tls (.dict ds) = 123 :: t := by
  unfold tls
  rw [PyData.shown]
  unfold dictText
  exact ⟨TL.tl (Str.join ", " (PyData.shownKv ds)) ++ TL.tl "}", by rw [tl_cat, tl_cat]; rfl⟩
/-- shown, what is shown so, ahead of a delimiter -/
def PU (e : PyData) : Prop := ∀ d r s, Del r → Del s → tls d ++ r = tls e ++ s → d = e ∧ r = s
def HdOk (c : Nat) : Prop := c = 45 ∨ (48 ≤ c ∧ c ≤ 57) ∨ c = 39 ∨ c = 40
def Hd (e : PyData) : Prop := ∃ c t, tls e = c :: t ∧ HdOk c
theorem tls_none : tls .none = [78, 111, 110, 101] := by
  unfold tls
  rw [PyData.shown]
  decide +kernel
theorem tls_bl (b : Bool) : ∃ c t, tls (.bool b) = c :: t ∧ (c = 84 ∨ c = 70) := by
  unfold tls
  rw [PyData.shown]
  cases b
  · exact ⟨70, [97, 108, 115, 101], by decide +kernel, .inr rfl⟩
  · exact ⟨84, [114, 117, 101], by decide +kernel, .inl rfl⟩
theorem intL_hd (i : Int) : ∃ c t, intL i = c :: t ∧ NumC c := by
  have ne : intL i ≠ [] := by
    cases i with
    | ofNat n => exact TL.numL_ne n
    | negSucc n => exact fun z => by cases z
  cases e : intL i with
  | nil => exact absurd e ne
  | cons c t => exact ⟨c, t, rfl, intL_c (by rw [e]; exact List.mem_cons_self)⟩
/-- a value whose repr begins so is of this kind -/
theorem kind_int {d : PyData} {c : Nat} {t : List Nat} (h : tls d = c :: t) (n : NumC c) : ∃ i, d = .int i := by
  cases d with
  | int i => exact ⟨i, rfl⟩
  | none =>
    rw [tls_none] at h
    cases h
    rcases n with n | n <;> omega
  | bool b =>
    obtain ⟨c', t', e, hc⟩ := tls_bl b
    rw [e] at h
    cases h
    rcases n with n | n <;> omega
  | str x =>
    obtain ⟨q, e, hq⟩ := tls_str x
    rw [e] at h
    cases h
    rcases n with n | n <;> omega
  | list ds =>
    obtain ⟨t', e⟩ := tls_list ds
    rw [e] at h
    cases h
    rcases n with n | n <;> omega
  | tuple ds =>
    match ds with
    | [] =>
      rw [tls_nil] at h
      cases h
      rcases n with n | n <;> omega
    | [x] =>
      rw [tls_one] at h
      cases h
      rcases n with n | n <;> omega
    | x :: y :: r =>
      rw [tls_more] at h
      cases h
      rcases n with n | n <;> omega
  | dict ds =>
    obtain ⟨t', e⟩ := tls_dict ds
    rw [e] at h
    cases h
    rcases n with n | n <;> omega
theorem kind_str {d : PyData} {t : List Nat} (h : tls d = 39 :: t) : ∃ x, d = .str x := by
  cases d with
  | str x => exact ⟨x, rfl⟩
  | none =>
    rw [tls_none] at h
    cases h
  | bool b =>
    obtain ⟨c', t', e, hc⟩ := tls_bl b
    rw [e] at h
    cases h
    omega
  | int i =>
    rw [tls_int] at h
    obtain ⟨c, t', e, n⟩ := intL_hd i
    rw [e] at h
    cases h
    rcases n with n | n <;> omega
  | list ds =>
    obtain ⟨t', e⟩ := tls_list ds
    rw [e] at h
    cases h
  | tuple ds =>
    match ds with
    | [] =>
      rw [tls_nil] at h
      cases h
    | [x] =>
      rw [tls_one] at h
      cases h
    | x :: y :: r =>
      rw [tls_more] at h
      cases h
  | dict ds =>
    obtain ⟨t', e⟩ := tls_dict ds
    rw [e] at h
    cases h
theorem kind_tup {d : PyData} {t : List Nat} (h : tls d = 40 :: t) : ∃ ds, d = .tuple ds := by
  cases d with
  | tuple ds => exact ⟨ds, rfl⟩
  | none =>
    rw [tls_none] at h
    cases h
  | bool b =>
    obtain ⟨c', t', e, hc⟩ := tls_bl b
    rw [e] at h
    cases h
    omega
  | int i =>
    rw [tls_int] at h
    obtain ⟨c, t', e, n⟩ := intL_hd i
    rw [e] at h
    cases h
    rcases n with n | n <;> omega
  | str x =>
    obtain ⟨q, e, hq⟩ := tls_str x
    rw [e] at h
    cases h
    omega
  | list ds =>
    obtain ⟨t', e⟩ := tls_list ds
    rw [e] at h
    cases h
  | dict ds =>
    obtain ⟨t', e⟩ := tls_dict ds
    rw [e] at h
    cases h
theorem tls_ne (d : PyData) : ∃ c t, tls d = c :: t := by
  cases d with
  | none => exact ⟨_, _, tls_none⟩
  | bool b =>
    obtain ⟨c', t', e, hc⟩ := tls_bl b
    exact ⟨_, _, e⟩
  | int i =>
    obtain ⟨c, t', e, n⟩ := intL_hd i
    exact ⟨c, t', by rw [tls_int, e]⟩
  | str x =>
    obtain ⟨q, e, hq⟩ := tls_str x
    exact ⟨_, _, e⟩
  | list ds =>
    obtain ⟨t', e⟩ := tls_list ds
    exact ⟨_, _, e⟩
  | tuple ds =>
    match ds with
    | [] => exact ⟨_, _, tls_nil⟩
    | [x] => exact ⟨_, _, tls_one x⟩
    | x :: y :: r => exact ⟨_, _, tls_more x y r⟩
  | dict ds =>
    obtain ⟨t', e⟩ := tls_dict ds
    exact ⟨_, _, e⟩
/-- the first sign of what begins with a shown value -/
theorem hd_of {d : PyData} {c : Nat} {r s : List Nat} (e : tls d ++ r = c :: s) : ∃ t, tls d = c :: t := by
  obtain ⟨c', t', h⟩ := tls_ne d
  rw [h] at e
  exact ⟨t', by rw [h, (List.cons.inj e).1]⟩
theorem pu_int (i : Int) : PU (.int i) := fun d r s hr hs e => by
  rw [tls_int] at e
  obtain ⟨c, t, e1, n⟩ := intL_hd i
  have e2 := e
  rw [e1] at e2
  obtain ⟨t2, e3⟩ := hd_of e2
  obtain ⟨j, rfl⟩ := kind_int e3 n
  rw [tls_int] at e
  obtain ⟨h1, h2⟩ := span_eq (p := NumC) (fun c h => intL_c h) (fun c h => intL_c h) hr.noNum hs.noNum e
  exact ⟨by rw [intL_inj h1], h2⟩
theorem pu_str {y : Str} (hy : LetL y) (q : tls (.str y) = 39 :: (TL.tl y ++ [39])) : PU (.str y) := fun d r s hr hs e => by
  rw [q] at e
  obtain ⟨t2, e3⟩ := hd_of e
  obtain ⟨x, rfl⟩ := kind_str e3
  obtain ⟨q', ex, hq⟩ := tls_str x
  rw [ex] at e3
  obtain rfl := (List.cons.inj e3).1
  rw [ex] at e
  rw [List.cons_append, List.cons_append] at e
  have e4 := (List.cons.inj e).2
  rw [List.append_assoc, List.append_assoc] at e4
  obtain ⟨h1, h2⟩ := esc_eq hy e4
  exact ⟨by rw [TL.ext_tl h1], h2⟩
theorem quote_let {y : Str} (hy : LetL y) : tls (.str y) = 39 :: (TL.tl y ++ [39]) := by
  have qe : PySem.reprQuote y = 39 := by
    unfold PySem.reprQuote
    have z : y.cps.contains 39 = false := by
      rw [Bool.eq_false_iff]
      intro h
      have := hy 39 (Array.mem_toList_iff.mpr (Array.contains_iff_mem.mp h))
      omega
    rw [z]
    rfl
  unfold tls
  rw [PyData.shown]
  show (Array.push _ _).toList = _
  rw [Array.toList_push, ← Array.foldl_toList, foldl_esc, qe]
  show [39] ++ escL 39 (TL.tl y) ++ [39] = _
  rw [escL_let hy]
  rfl
theorem restL_del (ds : List PyData) : ∀ r, Del (restL ds ++ r) := fun r => by
  cases ds with
  | nil => exact .inr ⟨_, .inr rfl⟩
  | cons d t => exact .inr ⟨_, .inl rfl⟩
theorem pu_rest : ∀ {es ds : List PyData} {r s : List Nat}, (∀ e ∈ es, PU e) → Del r → Del s → restL ds ++ r = restL es ++ s → ds = es ∧ r = s
  | [], [], r, s, _, _, _, e => ⟨rfl, (List.cons.inj e).2⟩
  | [], d :: ds, r, s, _, _, _, e => absurd (List.cons.inj e).1 (by decide)
  | x :: es, [], r, s, _, _, _, e => absurd (List.cons.inj e).1 (by decide)
  | x :: es, d :: ds, r, s, h, hr, hs, e => by
    have e1 : tls d ++ restL ds ++ r = tls x ++ restL es ++ s := (List.cons.inj (List.cons.inj (show 44 :: 32 :: (tls d ++ restL ds ++ r) = 44 :: 32 :: (tls x ++ restL es ++ s) from e)).2).2
    rw [List.append_assoc, List.append_assoc] at e1
    obtain ⟨rfl, e2⟩ := h x List.mem_cons_self d _ _ (restL_del ds r) (restL_del es s) e1
    obtain ⟨rfl, rfl⟩ := pu_rest (fun y hy => h y (List.mem_cons_of_mem _ hy)) hr hs e2
    exact ⟨rfl, rfl⟩
theorem pu_tup {es : List PyData} (h : ∀ e ∈ es, PU e ∧ Hd e) (ne : es ≠ []) : PU (.tuple es) := fun d r s hr hs e => by
  obtain ⟨x, es, rfl⟩ : ∃ x r, es = x :: r := by
    cases es with
    | nil => exact absurd rfl ne
    | cons a b => exact ⟨a, b, rfl⟩
  have hx := h x List.mem_cons_self
  have hn : ∀ {t u : List Nat}, 41 :: t ≠ tls x ++ u := fun {t u} z => by
    obtain ⟨c, t', e1, hc⟩ := hx.2
    rw [e1] at z
    obtain rfl := (List.cons.inj z).1
    rcases hc with z | z | z | z <;> omega
  have top : ∃ t, tls (.tuple (x :: es)) = 40 :: t := by
    cases es with
    | nil => exact ⟨_, tls_one x⟩
    | cons a b => exact ⟨_, tls_more x a b⟩
  obtain ⟨t, et⟩ := top
  have e2 := e
  rw [et] at e2
  obtain ⟨t2, e3⟩ := hd_of e2
  obtain ⟨ds, rfl⟩ := kind_tup e3
  have d44 : ∀ u : List Nat, Del ([44, 41] ++ u) := fun u => .inr ⟨_, .inl rfl⟩
  match ds with
  | [] =>
    rw [tls_nil] at e
    cases es with
    | nil =>
      rw [tls_one] at e
      exact absurd (show 41 :: r = tls x ++ ([44, 41] ++ s) by rw [← List.append_assoc]; exact (List.cons.inj e).2) hn
    | cons a b =>
      rw [tls_more] at e
      exact absurd (show 41 :: r = tls x ++ (restL (a :: b) ++ s) by rw [← List.append_assoc]; exact (List.cons.inj e).2) hn
  | [d] =>
    rw [tls_one] at e
    cases es with
    | nil =>
      rw [tls_one] at e
      rw [List.cons_append, List.cons_append] at e
      have e4 := (List.cons.inj e).2
      rw [List.append_assoc, List.append_assoc] at e4
      obtain ⟨rfl, e5⟩ := hx.1 d _ _ (d44 r) (d44 s) e4
      exact ⟨rfl, (List.cons.inj (List.cons.inj e5).2).2⟩
    | cons a b =>
      rw [tls_more] at e
      rw [List.cons_append, List.cons_append] at e
      have e4 := (List.cons.inj e).2
      rw [List.append_assoc, List.append_assoc] at e4
      obtain ⟨rfl, e5⟩ := hx.1 d _ _ (d44 r) (restL_del (a :: b) s) e4
      have z := (List.cons.inj (List.cons.inj e5).2).1
      exact absurd z (by decide)
  | d :: d2 :: ds =>
    rw [tls_more] at e
    cases es with
    | nil =>
      rw [tls_one] at e
      rw [List.cons_append, List.cons_append] at e
      have e4 := (List.cons.inj e).2
      rw [List.append_assoc, List.append_assoc] at e4
      obtain ⟨rfl, e5⟩ := hx.1 d _ _ (restL_del (d2 :: ds) r) (d44 s) e4
      have z := (List.cons.inj (List.cons.inj e5).2).1
      exact absurd z (by decide)
    | cons a b =>
      rw [tls_more] at e
      rw [List.cons_append, List.cons_append] at e
      have e4 := (List.cons.inj e).2
      rw [List.append_assoc, List.append_assoc] at e4
      obtain ⟨rfl, e5⟩ := hx.1 d _ _ (restL_del (d2 :: ds) r) (restL_del (a :: b) s) e4
      obtain ⟨e6, e7⟩ := pu_rest (fun y hy => (h y (List.mem_cons_of_mem _ hy)).1) hr hs e5
      rw [e6]
      exact ⟨rfl, e7⟩
theorem hd_int (i : Int) : Hd (.int i) := by
  obtain ⟨c, t, e, n⟩ := intL_hd i
  exact ⟨c, t, by rw [tls_int, e], n.elim .inl (fun z => .inr (.inl z))⟩
theorem hd_tup {es : List PyData} (ne : es ≠ []) : Hd (.tuple es) := by
  match es, ne with
  | [x], _ => exact ⟨_, _, tls_one x, .inr (.inr (.inr rfl))⟩
  | x :: y :: r, _ => exact ⟨_, _, tls_more x y r, .inr (.inr (.inr rfl))⟩
theorem hd_let {y : Str} (hy : LetL y) : Hd (.str y) := ⟨_, _, quote_let hy, .inr (.inr (.inl rfl))⟩
theorem pu_pair (p : Int × Int) : PU (eP p) := pu_tup (es := [.int p.1, .int p.2]) (fun e he => by
  simp only [List.mem_cons, List.not_mem_nil, or_false] at he
  rcases he with rfl | rfl
  · exact ⟨pu_int _, hd_int _⟩
  · exact ⟨pu_int _, hd_int _⟩) (fun z => by cases z)
theorem pu_stn {s : Stn} (ne : s ≠ []) : PU (eS s) := pu_tup (fun e he => by
  obtain ⟨p, _, rfl⟩ := List.mem_map.mp he
  exact ⟨pu_pair p, hd_tup (fun z => by cases z)⟩) (fun z => ne (List.map_eq_nil_iff.mp z))
theorem hd_stn {s : Stn} (ne : s ≠ []) : Hd (eS s) := hd_tup fun z => ne (List.map_eq_nil_iff.mp z)
theorem let_let : LetL "let" := by
  intro c hc
  have z : (TL.tl "let").all (fun c => decide (97 ≤ c ∧ c ≤ 122)) = true := by decide +kernel
  exact of_decide_eq_true (List.all_eq_true.mp z c hc)
theorem let_not : LetL "not" := by
  intro c hc
  have z : (TL.tl "not").all (fun c => decide (97 ≤ c ∧ c ≤ 122)) = true := by decide +kernel
  exact of_decide_eq_true (List.all_eq_true.mp z c hc)
theorem let_as : LetL "as" := by
  intro c hc
  have z : (TL.tl "as").all (fun c => decide (97 ≤ c ∧ c ≤ 122)) = true := by decide +kernel
  exact of_decide_eq_true (List.all_eq_true.mp z c hc)
def FactNe : Fact → Prop
  | .let_ s => s ≠ []
  | .not_ s => s ≠ []
  | .as_ s t => s ≠ [] ∧ t ≠ []
theorem pu_fact {f : Fact} (h : FactNe f) : PU (eF f) := by
  cases f with
  | let_ s =>
    refine pu_tup (es := [.str "let", eS s]) (fun e he => ?_) (fun z => by cases z)
    simp only [List.mem_cons, List.not_mem_nil, or_false] at he
    rcases he with rfl | rfl
    · exact ⟨pu_str let_let (quote_let let_let), hd_let let_let⟩
    · exact ⟨pu_stn h, hd_stn h⟩
  | not_ s =>
    refine pu_tup (es := [.str "not", eS s]) (fun e he => ?_) (fun z => by cases z)
    simp only [List.mem_cons, List.not_mem_nil, or_false] at he
    rcases he with rfl | rfl
    · exact ⟨pu_str let_not (quote_let let_not), hd_let let_not⟩
    · exact ⟨pu_stn h, hd_stn h⟩
  | as_ s t =>
    refine pu_tup (es := [.str "as", eS s, eS t]) (fun e he => ?_) (fun z => by cases z)
    simp only [List.mem_cons, List.not_mem_nil, or_false] at he
    rcases he with rfl | rfl | rfl
    · exact ⟨pu_str let_as (quote_let let_as), hd_let let_as⟩
    · exact ⟨pu_stn h.1, hd_stn h.1⟩
    · exact ⟨pu_stn h.2, hd_stn h.2⟩
theorem shown_fact {d : PyData} {f : Fact} (h : FactNe f) (e : d.shown = (eF f).shown) : d = eF f := by
  refine (pu_fact h d [] [] (.inl rfl) (.inl rfl) ?_).1
  unfold tls
  rw [e]
end GD
/-! facts and texts of books, shown -/
namespace GD
open PySem PySem.Spec PyProof.Rows L2 LamX
theorem strS_as : StrS "as" := strS_of (by decide +kernel)
theorem strS_no : StrS "no" := strS_of (by decide +kernel)
theorem strS_b : StrS "begin" := strS_of (by decide +kernel)
theorem strS_e : StrS "end" := strS_of (by decide +kernel)
theorem mild_fact {k : Nat} {f : Fact} (h : FactB k 40 f) (hk : k ≤ 10) : Mild 3 3000 (eF f) := by
  have st : ∀ {s : Stn}, s.length = k → Bd 40 s → Mild 2 1300 (eS s) := fun {s} l b => (mild_stn (fun p hp => by have := b p hp; omega) (by omega)).1
  have ks : ∀ {x : Str}, StrS x → Mild 2 20 (.str x) := fun {x} hx => (mild_str fun c hc => Nat.lt_trans (hx.1 c hc) (by decide)).le (by decide) hx.2
  cases f with
  | let_ s =>
    have a := st h.1 h.2
    have b := ks (x := "let") (strS_of (by decide +kernel))
    refine (mild_all (n := 2) (ds := [.str "let", eS s]) (fun d hd => ?_) ?_).1
    · simp only [List.mem_cons, List.not_mem_nil, or_false] at hd
      rcases hd with rfl | rfl
      · exact ⟨_, b⟩
      · exact ⟨_, a⟩
    · have z1 := a.s.wt
      have z2 := b.s.wt
      rw [PyData.weightAll, PyData.weightAll, PyData.weightAll]
      omega
  | not_ s =>
    have a := st h.1 h.2
    have b := ks (x := "not") (strS_of (by decide +kernel))
    refine (mild_all (n := 2) (ds := [.str "not", eS s]) (fun d hd => ?_) ?_).1
    · simp only [List.mem_cons, List.not_mem_nil, or_false] at hd
      rcases hd with rfl | rfl
      · exact ⟨_, b⟩
      · exact ⟨_, a⟩
    · have z1 := a.s.wt
      have z2 := b.s.wt
      rw [PyData.weightAll, PyData.weightAll, PyData.weightAll]
      omega
  | as_ s u =>
    have a := st h.1 h.2.1
    have c := st h.2.2.1 h.2.2.2.1
    have b := ks (x := "as") strS_as
    refine (mild_all (n := 2) (ds := [.str "as", eS s, eS u]) (fun d hd => ?_) ?_).1
    · simp only [List.mem_cons, List.not_mem_nil, or_false] at hd
      rcases hd with rfl | rfl | rfl
      · exact ⟨_, b⟩
      · exact ⟨_, a⟩
      · exact ⟨_, c⟩
    · have z1 := a.s.wt
      have z2 := b.s.wt
      have z3 := c.s.wt
      rw [PyData.weightAll, PyData.weightAll, PyData.weightAll, PyData.weightAll]
      omega

theorem pl_fact {k : Nat} {f : Fact} (h : FactB k 40 f) (hk : k ≤ 10) : Pl 4 (eF f) := by
  have ks : ∀ {x : Str}, StrS x → Pl 3 (.str x) := fun {x} hx => .str hx.1 (by have := hx.2; omega)
  cases f with
  | let_ s =>
    refine .tup (ds := [.str "let", eS s]) (by show 2 ≤ 100; decide) fun d hd => ?_
    simp only [List.mem_cons, List.not_mem_nil, or_false] at hd
    rcases hd with rfl | rfl
    · exact ks (strS_of (by decide +kernel))
    · exact pl_stn h.2 (by have := h.1; omega)
  | not_ s =>
    refine .tup (ds := [.str "not", eS s]) (by show 2 ≤ 100; decide) fun d hd => ?_
    simp only [List.mem_cons, List.not_mem_nil, or_false] at hd
    rcases hd with rfl | rfl
    · exact ks (strS_of (by decide +kernel))
    · exact pl_stn h.2 (by have := h.1; omega)
  | as_ s u =>
    refine .tup (ds := [.str "as", eS s, eS u]) (by show 3 ≤ 100; decide) fun d hd => ?_
    simp only [List.mem_cons, List.not_mem_nil, or_false] at hd
    rcases hd with rfl | rfl | rfl
    · exact ks strS_as
    · exact pl_stn h.2.1 (by have := h.1; omega)
    · exact pl_stn h.2.2.2.1 (by have := h.2.2.1; omega)
def Asc (x : Str) : Prop := ∀ c ∈ TL.tl x, c < 128
theorem asc_app {x y : Str} (a : Asc x) (b : Asc y) : Asc (x ++ y) := fun c hc => by
  rw [TL.tl_append] at hc
  exact (List.mem_append.mp hc).elim (a c) (b c)
theorem asc_of {x : Str} (h : (TL.tl x).all (fun c => decide (c < 128)) = true) : Asc x := fun c hc => of_decide_eq_true (List.all_eq_true.mp h c hc)
theorem asc_join {y : Str} (hy : Asc y) : ∀ {xs : List Str}, (∀ x ∈ xs, Asc x) → Asc (Txt.join y xs)
  | [], _ => fun c hc => by
    rw [TL.join_eq] at hc
    cases hc
  | [x], h => by
    rw [join_one]
    exact h x List.mem_cons_self
  | x :: z :: r, h => by
    rw [join_cons (by simp)]
    exact asc_app (asc_app (h x List.mem_cons_self) hy) (asc_join hy fun u hu => h u (List.mem_cons_of_mem _ hu))
theorem asc_num {i : Int} (h : 0 ≤ i) : Asc (nT i) := fun c hc => by
  obtain ⟨n, rfl⟩ := Int.eq_ofNat_of_zero_le h
  have e : TL.tl (nT (n : Int)) = TL.numL n := TL.tl_num n
  rw [e] at hc
  have := numL_c hc
  omega
theorem asc_stn {s : Stn} (h : Bd 40 s) : Asc (sT s) := asc_join (asc_of (by decide +kernel)) fun x hx => by
  obtain ⟨p, hp, rfl⟩ := List.mem_map.mp hx
  have b := h p hp
  exact asc_app (asc_app (asc_num (by omega)) (asc_of (by decide +kernel))) (asc_num (by omega))
theorem asc_fact {k : Nat} {f : Fact} (h : FactB k 40 f) : Asc (fT f) := by
  cases f with
  | let_ s => exact asc_app (asc_app (asc_of (by decide +kernel)) (asc_of (by decide +kernel))) (asc_stn h.2)
  | not_ s => exact asc_app (asc_app (asc_of (by decide +kernel)) (asc_of (by decide +kernel))) (asc_stn h.2)
  | as_ s u => exact asc_app (asc_app (asc_app (asc_of (by decide +kernel)) (asc_stn h.2.1)) (asc_of (by decide +kernel))) (asc_stn h.2.2.2.1)
theorem asc_book {names : List Str} {ml : List (Str × Str)} {fs : List Fact} (hn : ∀ x ∈ names, Asc x) (h1 : ∀ p ∈ ml, p.1 ∈ names) (h2 : ∀ p ∈ ml, Asc p.2) (hf : ∀ f ∈ fs, FactB names.length 40 f) : Asc (bN names ml fs) := by
  refine asc_join (asc_of (by decide +kernel)) fun x hx => ?_
  rcases List.mem_cons.mp hx with rfl | hx
  · exact asc_app (asc_of (by decide +kernel)) (asc_join (asc_of (by decide +kernel)) hn)
  · rcases List.mem_append.mp hx with hx | hx
    · obtain ⟨p, hp, rfl⟩ := List.mem_map.mp hx
      exact asc_app (asc_app (h2 p hp) (asc_of (by decide +kernel))) (hn _ (h1 p hp))
    · obtain ⟨f, hf', rfl⟩ := List.mem_map.mp hx
      exact asc_fact (hf f hf')
theorem lined_asc : ∀ x ∈ lined3, Asc x := fun x hx => asc_of (by
  have z : (lined3.all fun x => (TL.tl x).all (fun c => decide (c < 128))) = true := by decide +kernel
  exact List.all_eq_true.mp z x hx)
/-- what a book tells, shown -/
theorem nice_told {names : List Str} {x : Str} {fs : List Fact} (hx : Asc x) (lx : x.length ≤ 90000) (hn : ∀ y ∈ names, StrS y) (ln : names.length ≤ 10) (hf : ∀ f ∈ fs, FactB names.length 40 f) (lf : fs.length ≤ 40) :
    NiceD (.tuple [.str x, .tuple (names.map PyData.str), eS (List.replicate names.length (0, 0)), .tuple (fs.map eF), .int (fs.length : Nat)]) := by
  have m0 : Mild 4 90000 (.str x) := (mild_str fun c hc => Nat.lt_trans (hx c hc) (by decide)).le (by decide) lx
  have m1 : Mild 4 1000 (.tuple (names.map PyData.str)) := ((mild_all (n := 0) (w := 1000) (fun d hd => by
    obtain ⟨y, hy, rfl⟩ := List.mem_map.mp hd
    exact ⟨_, mild_str fun c hc => Nat.lt_trans ((hn y hy).1 c hc) (by decide)⟩) (by have := wt_strs hn; omega)).1).le (by decide) (Nat.le_refl _)
  have m2 : Mild 4 1300 (eS (List.replicate names.length (0, 0))) := ((mild_stn (s := List.replicate names.length (0, 0)) (fun p hp => by
    rw [(List.mem_replicate.mp hp).2]
    decide) (by rw [List.length_replicate]; omega)).1).le (by decide) (Nat.le_refl _)
  have w : ∀ gs : List Fact, (∀ f ∈ gs, FactB names.length 40 f) → PyData.weightAll (gs.map eF) ≤ 3001 * gs.length := fun gs => by
    induction gs with
    | nil =>
      intro _
      rw [List.map_nil, PyData.weightAll]
      exact Nat.zero_le _
    | cons g r ih =>
      intro hm
      have a := ih fun x hx => hm x (List.mem_cons_of_mem _ hx)
      have b := (mild_fact (hm g List.mem_cons_self) ln).s.wt
      rw [List.map_cons, PyData.weightAll, List.length_cons]
      omega
  have m3 : Mild 4 130000 (.tuple (fs.map eF)) := (mild_all (n := 3) (fun d hd => by
    obtain ⟨f, hf', rfl⟩ := List.mem_map.mp hd
    exact ⟨_, mild_fact (hf f hf') ln⟩) (by have := w fs hf; omega)).1
  have m4 : Mild 4 50 (.int (fs.length : Nat)) := (mild_int (by omega) (by omega)).le (by decide) (Nat.le_refl _)
  refine mild_nice (n := 5) (w := 300000) (mild_all (n := 4) (fun d hd => ?_) ?_).1 (by decide) (by decide)
  · simp only [List.mem_cons, List.not_mem_nil, or_false] at hd
    rcases hd with rfl | rfl | rfl | rfl | rfl
    · exact ⟨_, m0⟩
    · exact ⟨_, m1⟩
    · exact ⟨_, m2⟩
    · exact ⟨_, m3⟩
    · exact ⟨_, m4⟩
  · have z0 := m0.s.wt
    have z1 := m1.s.wt
    have z2 := m2.s.wt
    have z3 := m3.s.wt
    have z4 := m4.s.wt
    rw [PyData.weightAll, PyData.weightAll, PyData.weightAll, PyData.weightAll, PyData.weightAll, PyData.weightAll]
    omega
theorem factNe {k : Nat} {f : Fact} (h : FactB k 40 f) (hk : 0 < k) : FactNe f := by
  have z : ∀ {s : Stn}, s.length = k → s ≠ [] := fun {s} l e => by
    rw [e] at l
    change 0 = k at l
    omega
  cases f with
  | let_ s => exact z h.1
  | not_ s => exact z h.1
  | as_ s u => exact ⟨z h.1, z h.2.2.1⟩
/-- a value is one of the facts just if it is shown like one -/
theorem inF_shown {k : Nat} {fs : List Fact} {d : PyData} (h : ∀ f ∈ fs, FactB k 40 f) (hk : 0 < k) : inF fs d = decide (d.shown ∈ fs.map fun f => (eF f).shown) := by
  rw [Bool.eq_iff_iff, inF_true, decide_eq_true_iff]
  constructor
  · rintro ⟨f, hf, rfl⟩
    exact List.mem_map_of_mem (f := fun f => (eF f).shown) hf
  · intro hm
    obtain ⟨f, hf, e⟩ := List.mem_map.mp hm
    exact ⟨f, hf, shown_fact (factNe (h f hf) hk) e.symm⟩
def rListT (K : PySem.W.Frag) : List V → Hp → VK → Prop := fun xs H Q => ∃ p ys, xs = [.ref p] ∧ SqT K H p ys ∧ ∀ l, H l = none → l ≠ sysModules → Q (.ref l) (upd H l (.lst ys))
theorem call_listR {X : Cx} : CallR X (.type "list") (rListT X.K) := call_listT
/-! data beside the pot and two lists -/
def VL3 (a p D : Addr) (H : Hp) (v : V) : Prop := ∃ d, Sh (del (de2 a p H) D) v d ∧ NiceD d ∧ d.weight ≤ 1000000
theorem VL3.mv {a p D : Addr} {H H' : Hp} {v : V} (k : ∀ b o, b ≠ a → b ≠ p → b ≠ D → H b = some o → H' b = some o) (h : VL3 a p D H v) : VL3 a p D H' v := by
  obtain ⟨d, s, n, w⟩ := h
  refine ⟨d, s.same fun b o e => ?_, n, w⟩
  obtain ⟨h1, h2⟩ := del_some.mp e
  obtain ⟨h3, h4, h5⟩ := de2_some.mp h2
  exact del_some.mpr ⟨h1, de2_some.mpr ⟨h3, h4, k b o h4 h3 h1 h5⟩⟩
theorem VL3.vl {a p D : Addr} {H : Hp} {v : V} (h : VL3 a p D H v) : VL a p H v := by
  obtain ⟨d, s, n, w⟩ := h
  exact ⟨d, s.same fun b o e => (del_some.mp e).2, n, w⟩
theorem vl_new {a p : Addr} {H : Hp} {o : HO} {v : V} (n : H p = none) (h : VOk a H v) : VL a p (upd H p o) v := by
  obtain ⟨d, s, nc, w⟩ := h
  refine ⟨d, s.same fun b u e => ?_, nc, w⟩
  obtain ⟨h1, h2⟩ := del_some.mp e
  have nb : b ≠ p := fun z => by
    rw [z, n] at h2
    cases h2
  exact de2_some.mpr ⟨nb, h1, by rw [upd_ne nb]; exact h2⟩
theorem mild_list_of {n w : Nat} {ds : List PyData} (h : Mild n w (.tuple ds)) : Mild n w (.list ds) := by
  refine ⟨⟨?_, ?_, ?_, ?_⟩, ?_⟩
  · have z := h.s.sh
    rw [PyData.showable] at z
    rw [PyData.showable]
    exact z
  · have z := h.s.is
    rw [PyData.intsShort] at z
    rw [PyData.intsShort]
    exact z
  · have z := h.s.wt
    rw [PyData.weight] at z
    rw [PyData.weight]
    exact z
  · have z := h.s.ly
    rw [PyData.canLay0] at z
    rw [PyData.canLay0]
    exact z
  · have z := h.dep
    rw [PyData.depth] at z
    rw [PyData.depth]
    exact z
theorem fz_factT {H : Hp} {v : V} {f : Fact} (h : Fz H v (eF f)) : ∃ b ys ds, v = .ref b ∧ H b = some (.tup ys) ∧ eF f = .tuple ds ∧ FzAll H ys ds := by
  cases f <;> (obtain ⟨b, ys, rfl, hb, t⟩ := Fz.t h; exact ⟨b, ys, _, rfl, hb, rfl, t⟩)
theorem tups_de3 {a p D : Addr} {H : Hp} {zs ws us : List V} (ha : H a = some (.lst zs)) (hp : H p = some (.lst ws)) (hD : H D = some (.lst us)) : Tups H (del (de2 a p H) D) := fun b ys e => del_some.mpr ⟨ne_of e hD (fun z => by cases z), de2_some.mpr ⟨ne_of e hp (fun z => by cases z), ne_of e ha (fun z => by cases z), e⟩⟩
theorem fzAll_mv_sh {H H' : Hp} (t : Tups H H') : ∀ {vs : List V} {ds : List PyData}, FzAll H vs ds → ShAll H' vs ds
  | _, _, .nil => .nil
  | _, _, .cons f r => .cons (f.mv t).sh (fzAll_mv_sh t r)
theorem cutV_take (ws : List V) (b : Nat) : cutV ws none (some (b : Int)) = ws.take b := by
  unfold cutV
  rw [HT.sIx_nat, HT.sIx_none, List.drop_zero, Nat.sub_zero]
  by_cases h : b ≤ ws.length
  · rw [Nat.min_eq_left h]
  · rw [Nat.min_eq_right (by omega), List.take_of_length_le (Nat.le_refl _), List.take_of_length_le (by omega)]
theorem fzAll_take {H : Hp} {f : Fact → PyData} : ∀ {xs : List V} {fs : List Fact} (n : Nat), FzAll H xs (fs.map f) → FzAll H (xs.take n) ((fs.take n).map f)
  | _, _, 0, _ => by
    rw [List.take_zero, List.take_zero]
    exact .nil
  | xs, [], n + 1, h => by
    cases h
    exact .nil
  | xs, g :: r, n + 1, h => by
    cases h with
    | cons a t => exact .cons a (fzAll_take n t)
end GD
namespace GD
open PySem PySem.Spec PyProof.Rows L2 LamX
/-- told, its pair as it is -/
theorem toldP {K : PySem.W.Frag} {CE : Addr} {T : List (Addr × Str)} {t : XK → TE} {σ : L2.St} {H : Hp} {Q : VK} (R : V → Hp → Prop) (hT : Tabs T H) (key : ∀ c H', R c H' → Q c H')
    (h : ∀ (H1 : Hp) (E : XK) (Q1 : VK), ExtN H H1 → Tabs T H1 → (∀ cls d H', PySem.W.exmOne K cls (.ref CE) = some true → (∀ ae tt H'', Same H' H'' → H'' ae = some (exk ae cls d) → H'' tt = some (.tup [.ref ae, .non]) → R (.ref tt) H'') → E cls d H') → (∀ v H', (∀ tt H'', Same H' H'' → H'' tt = some (.tup [.non, v]) → R (.ref tt) H'') → Q1 v H') → t E σ H1 Q1) :
    tLam T (TPair K CE) t σ H Q := by
  refine ⟨hT, fun H1 x1 T1 H2 s2 => h H2 _ _ (x1.trans (ext_same s2)) (tabs_same s2 T1) (fun cls d H' hx hr => ⟨hx, fun ae na tt nt => ?_⟩) (fun v H' hr tt nt => ?_)⟩
  · have sa := same_new (o := exk ae cls d) na
    have st := same_new (o := .tup [.ref ae, .non]) nt
    exact key _ _ (hr ae tt _ (sa.trans st) (st _ _ upd_same) upd_same)
  · exact key _ _ (hr tt _ (same_new nt) upd_same)
/-- what comes of Book(x) -/
def JOut (C CJ : Addr) (H : Hp) (x : Str) (c bk : V) : Prop :=
  (∃ n ae, readT x = (n + 1, []) ∧ c = .ref ae ∧ CgtAt H ae CJ (.int ((n + 1 : Nat) : Int))) ∨ (∃ fs b, readT x = (0, fs) ∧ c = .non ∧ bk = .ref b ∧ BookX C H b x fs)
def spJudged (T : List (Addr × Str)) : Sp := fun vs H Q _ => ∃ x : Str, vs = [.str x] ∧ TextL x ∧ Tabs T H ∧ ∀ H', ExtN H H' → Tabs T H' → Q (.bl true) H'
theorem rdR_le {names : List Str} : ∀ (ls : List Str) (i : Nat) (kn : List (Str × Str)) (fs : List Fact), (rdR names i kn fs ls).1 ≤ i + ls.length
  | [], i, kn, fs => Nat.zero_le _
  | l :: r, i, kn, fs => by
    have ih := fun kn fs => rdR_le (names := names) r (i + 1) kn fs
    rw [rdR, List.length_cons]
    split
    · split
      · have := ih (kn ++ [manIn (wsOf l)]) fs
        omega
      · show i + 1 ≤ _
        omega
    · split
      · show i + 1 ≤ _
        omega
      · split
        · show i + 1 ≤ _
          omega
        · rename_i f _ _
          have := ih kn (fs ++ [f])
          omega
theorem readT_le {x : Str} (h : TextL x) : (readT x).1 ≤ 300 := by
  unfold readT
  split
  · have z := rdR_le (names := (wsOf ((lnsOf x).headD "")).drop 1) ((lnsOf x).drop 1) 1 [] []
    have := h.n
    rw [List.length_drop] at z
    omega
  · show 1 ≤ 300
    decide
theorem nice_facts {k : Nat} {fs : List Fact} (h : FactsOk k fs) (hk : k ≤ 10) : NiceD (.tuple (fs.map eF)) := by
  have wt : ∀ gs : List Fact, (∀ f ∈ gs, FactB k 40 f) → PyData.weightAll (gs.map eF) ≤ 3001 * gs.length := by
    intro gs
    induction gs with
    | nil =>
      intro _
      rw [List.map_nil, PyData.weightAll]
      exact Nat.zero_le _
    | cons g r ih =>
      intro hg
      have a := (mild_fact (hg g List.mem_cons_self) hk).s.wt
      have b := ih fun f hf => hg f (List.mem_cons_of_mem _ hf)
      rw [List.map_cons, PyData.weightAll, List.length_cons]
      omega
  have w := wt fs h.b
  have l := h.len
  refine mild_nice (n := 4) (w := 110000) (mild_all (n := 3) (fun d hd => ?_) (by omega)).1 (by decide) (by decide)
  obtain ⟨f, hf, rfl⟩ := List.mem_map.mp hd
  exact ⟨_, mild_fact (h.b f hf) hk⟩
end GD
namespace K01
open PySem PySem.Spec PyProof.Rows L2 GD LamX
abbrev sJudged : Stmt := top 67
section
variable {P : Program} {w : World} {K : PySem.W.Frag} {mg : Str → Option Value} {base : Heap}
abbrev NJd : List Str := ["_law_text", "_law_number", "_law_facts", "_law_caught", "_law_book"]
theorem scJd : FnScope NJd ["_law_text"] (defScope sJudged) := ⟨rfl, rfl, rfl, by decide +kernel, rfl, by decide +kernel, by decide +kernel⟩
theorem ok_judged {f c Pt CB CJ CE fT fI fIJ fRd : Addr} {fdT fdI fdRd : FuncData} {oc kV doc pm ct : Value} {od an : Option Addr} {osl : Array (Option Value)} {T : List (Addr × Str)}
    (lk : K.lookup f = some ⟨oc, od, .func (PySem.W.fnOf "_law_is_judged" "_law_is_judged" (defArgs sJudged) (defBody sJudged) (defScope sJudged) .none kV doc pm an (.ref c) ct), osl⟩) (hcd : PySem.W.codeIn K (.ref c) "_law_is_judged" = true)
    (TB : TabB base mg c Pt) (hmT : (Pt, lamQ "_law_is_judged") ∈ T) (hu : ∀ p ∈ T, p.1 = Pt → p.2 = lamQ "_law_is_judged") (B : BookC K mg CB)
    (nI : mg "isinstance" = none) (nR : mg "repr" = none) (nT : mg "tuple" = none) (gSE : mg "StockError" = some (.ref CE))
    (gJ : mg "BadBook" = some (.ref CJ)) (EJ : EC K CJ fIJ) (kJ : PySem.W.kitOne K (.ref CJ) (.ref CJ) = some true) (xJ : PySem.W.exmOne K (.ref CJ) (.ref CE) = some true)
    (AT : At K mg "_law_told" sTold ["_law_look"] fT fdT) (MK : Mk K CB fI) (bI : Binds K fdI ["self", "text"] []) (GI : FnOk P w K mg base (L2.CX P w) 6 fI fdI ["self", "text"] (spInitX K CB CJ))
    (gRd : mg "_law_read" = some (.ref fRd)) (bRd : Binds K fdRd ["_law_text"] []) (kRd : PySem.W.keepIn K (.ref fRd) = true) (GRd : FnOk P w K mg base CX0 4 fRd fdRd ["_law_text"] spReadL) :
    FnG P w K mg base 10 f (PySem.W.fnOf "_law_is_judged" "_law_is_judged" (defArgs sJudged) (defBody sJudged) (defScope sJudged) .none kV doc pm an (.ref c) ct) ["_law_text"] (spJudged T) := by
  obtain ⟨ocT, odT, kVT, docT, pmT, anT, cdT, ctT, oslT, rfl, lkT, hcT⟩ := AT.F.ex
  refine fnG_lk lk hcd scJd (fun vs H Q E h => ?_) (fun A outer s H vs Q hgu hr h => ?_)
  · obtain ⟨x, rfl, _⟩ := h
    rfl
  · obtain ⟨x, rfl, hx, hT, k⟩ := h
    have hu' := hr.units
    have hr4 : Room 4 _ := hr.mono (by decide)
    have hr9 : Room 9 _ := hr.mono (by decide)
    refine ⟨_, pss_cons (ps_asg (pe_tup (pa_cons (pe_call GRd hr4 (by rfl) gRd kRd bRd .nil pass0 (pa_cons (pv 0) pa_nil))
          (pa_cons (pe_lamS (k := 7) (T := T) (TT := TPair K CE) (Ng := NTd) (by rfl) AT.g AT.F.kp lkT hcT AT.b scTd rfl (.inl rfl) (told_pair gSE) TB rfl hmT hu hr9 (show LamS (defScope sJudged) _ from lamS_by (by decide +kernel)) rfl (fun _ _ _ _ _ => rfl)
              (fun A outer s H E f c' hr' => pe_make (E := E) MK GI hr' (by rfl) B.mgC bI .nil (passes_call (takes_of (E := E) rfl rfl rfl rfl) fun _ _ _ _ h => h) (pa_cons (pv 0) pa_nil))) pa_nil)))
          (pg_tup rfl (pgs_cons (pg_tup rfl (pgs_cons (pg_name (i := 1) scJd.nd rfl (.inl rfl)) (pgs_cons (pg_name (i := 2) scJd.nd rfl (.inl rfl)) pgs_nil))) (pgs_cons (pg_tup rfl (pgs_cons (pg_name (i := 3) scJd.nd rfl (.inl rfl)) (pgs_cons (pg_name (i := 4) scJd.nd rfl (.inl rfl)) pgs_nil))) pgs_nil))))
      (pss_cons (ps_if (pt_cmpR op_eq (pv 1) pe_int (nomark _))
        (pss_one (ps_ret (pe_and (pe_cmpR op_isN (pv 3) pe_non (nomark _)) (pe_and (pe_cmpR op_eq (pe_fld (pv 4) rfl) (pv 0) (nomark _))
          (pe_one (pe_cmpR op_eq (pe_callB (call_reprS hgu hu') (by rfl) nR (by decide +kernel) (pa_cons (pe_fld (pv 4) rfl) pa_nil)) (pe_callB (call_reprS hgu hu') (by rfl) nR (by decide +kernel) (pa_cons (pe_callTy call_tuple_of (by rfl) nT (by decide +kernel) (pa_cons (pv 2) pa_nil)) pa_nil)) (nomark _))))))) pss_nil)
      (pss_one (ps_ret (pe_and (pe_callB call_isCgt (by rfl) nI (by decide +kernel) (pa_cons (pv 3) (pa_cons (pe_glob (v := .ref CJ) (by rfl) gJ rfl) pa_nil)))
        (pe_one (pe_cmpR op_eq (pe_callB (call_reprS hgu hu') (by rfl) nR (by decide +kernel) (pa_cons (pe_valC (pv 3)) pa_nil)) (pe_callB (call_reprS hgu hu') (by rfl) nR (by decide +kernel) (pa_cons (pv 1) pa_nil)) (nomark _))))))), ?_⟩
    refine ⟨_, rfl, x, rfl, hx, fun t1 lf H1 s1 et1 elf hok => ?_⟩
    have T1 := tabs_same s1 hT
    refine toldP (fun u H' => ∃ (tt : Addr) (c0 bk : V), u = .ref tt ∧ H' tt = some (.tup [c0, bk]) ∧ ExtN H1 H' ∧ Tabs T H' ∧ JOut CB CJ H' x c0 bk) T1 (fun u H2 ⟨tt, c0, bk, eu, ett, x12, T2, out⟩ => ?_) (fun H2 E1 Q1 x12 T2 kE kQ => ?_)
    rotate_left
    · refine ⟨_, rfl, fun y dy ny ndy ne => ?_⟩
      refine ⟨y, dy, .str x, .str x, rfl, upd_same, .base (.str _), fun x' e => by cases e; exact ⟨rfl, hx⟩, fun n => absurd rfl (n x), fun x' n e er e1 H' kk n1 x1 => ?_, fun x' fs e er k4 ok hk H' kk bx => ⟨rfl, ?_⟩⟩
      · cases e
        have sm := made_same ny ndy kk
        refine kE _ _ _ xJ fun ae tt H'' s'' eae ett => ?_
        have s2 := sm.trans s''
        exact ⟨tt, _, _, rfl, ett, x12.trans (ext_same s2), tabs_same s2 T2, .inl ⟨n, ae, er, rfl, e1, eae, s'' _ _ x1⟩⟩
      · cases e
        have sm := made_same ny ndy kk
        refine kQ _ _ fun tt H'' s'' ett => ?_
        have s2 := sm.trans s''
        obtain ⟨dx, h, j, m, f, a, eb, fa⟩ := bx
        exact ⟨tt, _, _, rfl, ett, x12.trans (ext_same s2), tabs_same s2 T2, .inr ⟨fs, y, er, rfl, rfl, dx, h, j, m, f, a, s'' _ _ eb, fa.same s''⟩⟩
    subst eu
    have nt : ∀ {o : List V}, ∀ ps, HO.tup o ≠ .tbl ps := fun ps z => by cases z
    have et1 := x12 _ _ et1 (fun ps z => by cases z)
    obtain ⟨lx, elx, flx⟩ := elf
    have tu12 : Tups H1 H2 := fun b xs e => x12 _ _ e (fun ps z => by cases z)
    have elx := x12 _ _ elx (fun ps z => by cases z)
    have flx := flx.mv tu12
    refine ⟨(by show 2 ≤ sizeLine; decide), fun t3 nt3 => ?_⟩
    have s3 := same_new (o := .tup [.ref t1, .ref tt]) nt3
    have et3 : (upd H2 t3 (.tup [.ref t1, .ref tt])) t3 = some (.tup [.ref t1, .ref tt]) := upd_same
    generalize upd H2 t3 (.tup [.ref t1, .ref tt]) = H3 at s3 et3 ⊢
    have et1 := s3 _ _ et1
    have ett := s3 _ _ ett
    have elx := s3 _ _ elx
    have flx := flx.same s3
    have x03 : ExtN H H3 := (ext_same s1).trans (x12.trans (ext_same s3))
    have T3 := tabs_same s3 T2
    refine ⟨t3, _, rfl, SqT.of et3, rfl, _, _, rfl, ?_⟩
    refine ⟨t1, _, rfl, SqT.of et1, rfl, _, _, rfl, _, _, rfl, rfl, _, _, rfl, ?_⟩
    refine ⟨tt, _, rfl, SqT.of ett, rfl, _, _, rfl, _, _, rfl, rfl, rfl, ?_⟩
    rcases out with ⟨n, ae, er, rfl, ca⟩ | ⟨fs, b, er, rfl, rfl, dx, hd, j, m, fi, a, eb, fa⟩
    · -- it is refused
      have ca := ca.same s3
      have rng := readT_le hx
      rw [er] at rng
      replace rng : n + 1 ≤ 300 := rng
      have nd : NiceD (.int ((n + 1 : Nat) : Int)) := mild_nice (mild_int (by omega) (by omega)) (by decide) (by decide)
      rw [er]
      refine ⟨_, rfl, rfl, _, rfl, ?_⟩
      rw [decide_eq_false (show ¬ V.int (((n + 1, ([] : List Fact)).1 : Nat) : Int) = V.int 0 from fun e => by have := V.int.inj e; dsimp only at this; omega)]
      refine iteF ?_
      refine ⟨_, rfl, ae, CJ, fIJ, _, .ref CJ, _, true, rfl, EJ, ca, .own CJ, kJ, _, rfl, iteT ?_⟩
      refine ⟨_, rfl, ae, CJ, fIJ, _, rfl, EJ, ca, _, _, rfl, .int _, nd, _, rfl, _, _, rfl, .int _, nd, rfl, ?_⟩
      rw [decide_eq_true rfl]
      exact k H3 x03 T3
    · -- it is made
      obtain ⟨kk, ok, hkk⟩ := hok (by rw [er])
      rw [er] at ok flx
      have nd := nice_facts ok (by omega)
      have eb := s3 _ _ eb
      have fa := fa.same s3
      rw [er]
      refine ⟨_, rfl, rfl, _, rfl, ?_⟩
      rw [decide_eq_true (show V.int (((0, fs) : Nat × List Fact).1 : Nat) = V.int 0 from rfl)]
      refine iteT ?_
      refine ⟨_, rfl, rfl, _, rfl, ?_⟩
      rw [decide_eq_true (show V.non = V.non from rfl)]
      refine iteT ?_
      refine ⟨_, rfl, b, CB, dx, _, _, rfl, eb, B.cl, B.nT, b5_text _ _ _ _ _, _, rfl, rfl, _, rfl, ?_⟩
      rw [decide_eq_true (show V.str x = V.str x from rfl)]
      refine iteT ?_
      refine ⟨_, rfl, b, CB, dx, _, _, rfl, eb, B.cl, B.nA, b5_facts _ _ _ _ _, _, _, rfl, fa.sh, nd, ?_⟩
      refine ⟨_, rfl, lf, _, rfl, .inl ⟨SqL.of elx, fun t nt => ?_⟩⟩
      have s4 := same_new (o := .tup lx) nt
      refine ⟨_, _, rfl, Fz.sh (.tup upd_same (flx.same s4)), nd, rfl, ?_⟩
      rw [decide_eq_true rfl]
      exact k _ (x03.trans (ext_same s4)) (tabs_same s4 T3)
end
end K01
namespace GD
open PySem PySem.Spec PyProof.Rows L2
/-! rows of a text: how long, how many words -/
/-- plain signs, no new line -/
def Gd (x : Str) : Prop := ∀ c ∈ TL.tl x, c ≠ 10 ∧ c < 128
theorem Gd.f {x : Str} (h : Gd x) : Free 10 x := fun m => (h 10 m).1 rfl
theorem gd_of {x : Str} (h : ((TL.tl x).all fun c => decide (c ≠ 10) && decide (c < 128)) = true) : Gd x := fun c hc => by
  have z := List.all_eq_true.mp h c hc
  rw [Bool.and_eq_true, decide_eq_true_iff, decide_eq_true_iff] at z
  exact z
theorem gd_app {x y : Str} (h1 : Gd x) (h2 : Gd y) : Gd (x ++ y) := fun c hc => by
  rw [TL.tl_append] at hc
  exact (List.mem_append.mp hc).elim (h1 c) (h2 c)
theorem gd_join {y : Str} (hy : Gd y) : ∀ {xs : List Str}, (∀ x ∈ xs, Gd x) → Gd (Txt.join y xs)
  | [], _ => fun c hc => by
    rw [show TL.tl (Txt.join y []) = [] from by rw [TL.join_eq]; rfl] at hc
    cases hc
  | [x], h => by
    rw [join_one]
    exact h x List.mem_cons_self
  | x :: z :: r, h => by
    rw [join_cons (by simp)]
    exact gd_app (gd_app (h x List.mem_cons_self) hy) (gd_join hy fun w hw => h w (List.mem_cons_of_mem _ hw))
theorem gd_nT {i : Int} (h : 0 ≤ i) : Gd (nT i) := by
  obtain ⟨n, rfl⟩ := Int.eq_ofNat_of_zero_le h
  intro c hc
  rw [nT, TL.tl_num] at hc
  have := TL.numL_digits n c hc
  omega
theorem gd_sp : Gd (" " : Str) := gd_of (by decide +kernel)
theorem shape_strsL {xs : List Str} (h : Sh100 xs) : SeqAt.shaped (.list (xs.map PyData.str)) = true := by
  refine shape_of ?_ ?_
  · rw [PyData.canLay0]
    exact can_all fun d hd => by
      obtain ⟨i, hi, e⟩ := List.mem_map.mp hd
      rw [← e]
      simp only [PyData.canLay0]
      exact h i hi
  · rw [PyData.depth]
    have z := depth_all (n := 1) (ds := xs.map PyData.str) fun d hd => by
      obtain ⟨i, _, e⟩ := List.mem_map.mp hd
      rw [← e]
      show PyData.depth (.str _) ≤ 1
      rw [PyData.depth]
      decide
    omega
theorem gd_ok {x : Str} (h : Gd x) : PyData.strOk x = true := Array.all_eq_true'.mpr fun c hc => decide_eq_true (by
  have := h c (Array.mem_toList_iff.mpr hc)
  omega)
theorem w_len (x : Str) : ((wsOf x).length : Int) = 1 + PyProof.Rows.cnt 32 (TL.tl x) := PyProof.Rows.split_len x 32
theorem w_app (x y : Str) : (wsOf (x ++ y)).length + 1 = (wsOf x).length + (wsOf y).length := by
  have a := w_len (x ++ y)
  have b := w_len x
  have c := w_len y
  rw [TL.tl_append, PyProof.Rows.cnt_append] at a
  omega
theorem w_free {x : Str} (h : Free 32 x) : (wsOf x).length = 1 := by
  have a := w_len x
  rw [PyProof.Rows.cnt_none 32 _ h] at a
  omega
theorem w_sp : (wsOf (" " : Str)).length = 2 := by
  have a := w_len " "
  rw [show TL.tl (" " : Str) = [32] from rfl, PyProof.Rows.cnt_cons, PyProof.Rows.cnt_nil, if_pos rfl] at a
  omega
theorem w_join {ws : List Str} : (∀ x ∈ ws, Free 32 x) → (wsOf (Txt.join " " ws)).length ≤ max 1 ws.length := by
  induction ws with
  | nil =>
    intro _
    have a := w_free (x := Txt.join " " []) (by unfold Free; decide +kernel)
    omega
  | cons x r ih =>
    intro h
    have ih := ih fun y hy => h y (List.mem_cons_of_mem _ hy)
    have hx := w_free (h x List.mem_cons_self)
    cases r with
    | nil =>
      rw [join_one, hx]
      exact Nat.le_max_left _ _
    | cons y r =>
      rw [join_cons (by simp)]
      have a := w_app (x ++ " ") (Txt.join " " (y :: r))
      have b := w_app x " "
      have c := w_sp
      rw [List.length_cons] at ih ⊢
      rw [List.length_cons]
      omega
def wt (ws : List Str) : Nat := (ws.map (·.length)).sum + ws.length
theorem wt_app (a b : List Str) : wt (a ++ b) = wt a + wt b := by
  unfold wt
  rw [List.map_append, List.sum_append, List.length_append]
  omega
theorem wt_drop_le (ws : List Str) (i j : Nat) (h : i ≤ j) : wt (ws.take i) + wt (ws.drop j) ≤ wt ws := by
  have e : wt ws = wt (ws.take i) + (wt ((ws.drop i).take (j - i)) + wt ((ws.drop i).drop (j - i))) := by
    rw [← wt_app, List.take_append_drop, ← wt_app, List.take_append_drop]
  rw [List.drop_drop, show i + (j - i) = j by omega] at e
  omega
theorem len_joinS {ws : List Str} : (Txt.join " " ws).length + 1 ≤ max 1 (wt ws) := by
  induction ws with
  | nil =>
    show _ ≤ max 1 0
    have : (Txt.join " " []).length = 0 := by decide +kernel
    omega
  | cons x r ih =>
    cases r with
    | nil =>
      rw [join_one]
      unfold wt
      simp
    | cons y r =>
      have e : wt (x :: y :: r) = x.length + 1 + wt (y :: r) := by
        unfold wt
        rw [List.map_cons, List.sum_cons, List.length_cons]
        omega
      have e2 : 1 ≤ wt (y :: r) := by
        unfold wt
        rw [List.length_cons]
        omega
      rw [join_cons (by simp), len_app, len_app, show (" " : Str).length = 1 from rfl, e]
      omega
theorem wt_words (x : Str) : wt (wsOf x) ≤ x.length + 1 := split_weight x " " (by decide)
theorem words_free {x : Str} : ∀ y ∈ wsOf x, Free 32 y := StrLaws.split_free x 32
theorem words_gd {x : Str} (h : Gd x) : ∀ y ∈ wsOf x, Gd y := by
  have e : Txt.join " " (wsOf x) = x := by
    rw [TL.join_eq]
    exact StrLaws.join_split x " "
  intro y hy c m
  refine h c ?_
  rw [← e]
  clear e h
  revert hy
  induction wsOf x with
  | nil => exact fun z => nomatch z
  | cons a r ih =>
    intro hy
    cases r with
    | nil =>
      rw [join_one, ← List.mem_singleton.mp hy]
      exact m
    | cons b r =>
      rw [join_cons (by simp), TL.tl_append, TL.tl_append]
      rcases List.mem_cons.mp hy with rfl | hy
      · exact List.mem_append_left _ (List.mem_append_left _ m)
      · exact List.mem_append_right _ (ih hy)
structure RwOk (L W : Nat) (r : Str) : Prop where
  nl : Gd r
  l : r.length ≤ L
  w : (wsOf r).length ≤ W
theorem RwOk.le {L W L' W' : Nat} {r : Str} (h : RwOk L W r) (a : L ≤ L') (b : W ≤ W') : RwOk L' W' r := ⟨h.nl, Nat.le_trans h.l a, Nat.le_trans h.w b⟩
structure Rows (n L W : Nat) (rows : List Str) : Prop where
  n : rows.length ≤ n
  r : ∀ r ∈ rows, RwOk L W r
theorem Rows.le {n L W n' L' W' : Nat} {rows : List Str} (h : Rows n L W rows) (a : n ≤ n') (b : L ≤ L') (c : W ≤ W') : Rows n' L' W' rows := ⟨Nat.le_trans h.n a, fun r hr => (h.r r hr).le b c⟩
theorem row_words {L W : Nat} {ws : List Str} (f10 : ∀ x ∈ ws, Gd x) (f32 : ∀ x ∈ ws, Free 32 x) (hl : wt ws ≤ L + 1) (hw : ws.length ≤ W) (h1 : 1 ≤ W) : RwOk L W (Txt.join " " ws) := by
  have a := len_joinS (ws := ws)
  have b := w_join f32
  exact ⟨gd_join gd_sp f10, by omega, by omega⟩
/-- an item goes in, others stay or go -/
theorem rows_mix {n L W L' W' i j : Nat} {rows : List Str} {x : Str} (h : Rows n L W rows) (hL : L ≤ L') (hW : W ≤ W') (hx : RwOk L' W' x) (hij : i ≤ j) : Rows (n + 1) L' W' (rows.take i ++ [x] ++ rows.drop j) := by
  refine ⟨?_, fun r hr => ?_⟩
  · have := h.n
    rw [List.length_append, List.length_append, List.length_take, List.length_drop, List.length_singleton]
    omega
  · rcases List.mem_append.mp hr with hr | hr
    · rcases List.mem_append.mp hr with hr | hr
      · exact (h.r r (List.mem_of_mem_take hr)).le hL hW
      · rw [List.mem_singleton.mp hr]
        exact hx
    · exact (h.r r (List.mem_of_mem_drop hr)).le hL hW
theorem lns_rows {rows : List Str} (h : ∀ r ∈ rows, Free 10 r) (h0 : rows ≠ []) : lnsOf (Txt.join "\n" rows) = rows := split_nl h0 h
theorem len_joinN {ws : List Str} {L : Nat} (h : ∀ x ∈ ws, x.length ≤ L) : (Txt.join "\n" ws).length ≤ (L + 1) * ws.length := by
  induction ws with
  | nil =>
    rw [List.length_nil, Nat.mul_zero]
    exact Nat.le_of_eq (by decide +kernel)
  | cons x r ih =>
    have ih := ih fun y hy => h y (List.mem_cons_of_mem _ hy)
    have hx := h x List.mem_cons_self
    rw [List.length_cons, Nat.mul_succ]
    cases r with
    | nil =>
      rw [join_one]
      omega
    | cons y r =>
      rw [join_cons (by simp), len_app, len_app, show ("\n" : Str).length = 1 from rfl]
      omega
theorem text_rows {n L W : Nat} {rows : List Str} (h : Rows n L W rows) (hn : n ≤ 100) (hL : L ≤ 400) : TextL (Txt.join "\n" rows) := by
  by_cases h0 : rows = []
  · subst h0
    have e : lnsOf (Txt.join "\n" []) = [("" : Str)] := by decide +kernel
    refine ⟨by rw [e]; decide, fun y hy => ?_, Nat.le_trans (Nat.le_of_eq (show (Txt.join "\n" []).length = 0 by decide +kernel)) (by decide)⟩
    rw [e] at hy
    rw [List.mem_singleton.mp hy]
    decide
  · have e := lns_rows (fun r hr => (h.r r hr).nl.f) h0
    have z := len_joinN (ws := rows) (L := L) fun r hr => (h.r r hr).l
    have hn' := h.n
    refine ⟨by rw [e]; omega, fun y hy => ?_, ?_⟩
    · rw [e] at hy
      exact Nat.le_trans (h.r y hy).l hL
    · have m : (L + 1) * rows.length ≤ 401 * 100 := Nat.mul_le_mul (by omega) (by omega)
      omega
/-- zeros of k jobs -/
def zeroS (k : Nat) : Str := Txt.join " " (List.replicate k "0 0")
theorem zero_w (k : Nat) : (wsOf (zeroS k)).length ≤ max 1 (2 * k) ∧ (zeroS k).length ≤ 4 * k ∧ Gd (zeroS k) := by
  have z2 : (wsOf ("0 0" : Str)).length = 2 := by
    have a := w_len "0 0"
    rw [show TL.tl ("0 0" : Str) = [48, 32, 48] from rfl, PyProof.Rows.cnt_cons, PyProof.Rows.cnt_cons, PyProof.Rows.cnt_cons, PyProof.Rows.cnt_nil, if_neg (by decide), if_pos rfl] at a
    omega
  refine ⟨?_, ?_, gd_join gd_sp fun x hx => ?_⟩
  · unfold zeroS
    induction k with
    | zero =>
      have a := w_free (x := Txt.join " " []) (by unfold Free; decide +kernel)
      show (wsOf (Txt.join " " [])).length ≤ _
      omega
    | succ k ih =>
      cases k with
      | zero =>
        show (wsOf (Txt.join " " ["0 0"])).length ≤ _
        rw [join_one, z2]
        exact Nat.le_max_right _ _
      | succ k =>
        rw [List.replicate_succ, join_cons (by rw [List.replicate_succ]; simp)]
        have a := w_app ("0 0" ++ " ") (Txt.join " " (List.replicate (k + 1) "0 0"))
        have b := w_app "0 0" " "
        have c := w_sp
        omega
  · have a := len_joinS (ws := List.replicate k "0 0")
    have b : wt (List.replicate k "0 0") = 4 * k := by
      unfold wt
      rw [List.map_replicate, List.sum_replicate_nat, List.length_replicate, show ("0 0" : Str).length = 3 from rfl]
      omega
    unfold zeroS
    omega
  · rw [(List.mem_replicate.mp hx).2]
    exact gd_of (by decide +kernel)
end GD
namespace GD
open PySem PySem.Spec PyProof.Rows L2
def spSpoilt : Sp := fun vs H Q _ => ∃ (a l : Addr) (rows : List Str) (n L W W0 : Nat) (z : Int), vs = [.ref a, .ref l] ∧ PotAt H a z ∧ z ≤ 90000 ∧ l ≠ a ∧ H l = some (.lst (rows.map V.str)) ∧ rows ≠ [] ∧ Rows n L W rows ∧ (wsOf (rows.headD "")).length ≤ W0 ∧ n ≤ 100 ∧ 20 ≤ L ∧ L ≤ 300 ∧ 5 ≤ W0 ∧ W0 ≤ 100 ∧ W ≤ 300 ∧
  ∀ l' rows' H', PotAt H' a (z + 5) → Keep a H H' → l' ≠ a → H' l' = some (.lst (rows'.map V.str)) → Rows (n + 1) (max (2 * L + 1) (8 * W0 + 7)) (max (W + 1) (4 * W0)) rows' → Q (.ref l') H'
theorem w_as : (wsOf ("as " : Str)).length = 2 ∧ (wsOf (" to " : Str)).length = 3 ∧ (wsOf ("let " : Str)).length = 2 ∧ (wsOf ("not " : Str)).length = 2 := by
  have a := w_len "as "
  have b := w_len " to "
  have c := w_len "let "
  have d := w_len "not "
  rw [show TL.tl ("as " : Str) = [97, 115, 32] from rfl, PyProof.Rows.cnt_cons, PyProof.Rows.cnt_cons, PyProof.Rows.cnt_cons, PyProof.Rows.cnt_nil, if_neg (by decide), if_neg (by decide), if_pos rfl] at a
  rw [show TL.tl (" to " : Str) = [32, 116, 111, 32] from rfl, PyProof.Rows.cnt_cons, PyProof.Rows.cnt_cons, PyProof.Rows.cnt_cons, PyProof.Rows.cnt_cons, PyProof.Rows.cnt_nil, if_pos rfl, if_neg (by decide), if_neg (by decide)] at b
  rw [show TL.tl ("let " : Str) = [108, 101, 116, 32] from rfl, PyProof.Rows.cnt_cons, PyProof.Rows.cnt_cons, PyProof.Rows.cnt_cons, PyProof.Rows.cnt_cons, PyProof.Rows.cnt_nil, if_neg (by decide), if_neg (by decide), if_neg (by decide), if_pos rfl] at c
  rw [show TL.tl ("not " : Str) = [110, 111, 116, 32] from rfl, PyProof.Rows.cnt_cons, PyProof.Rows.cnt_cons, PyProof.Rows.cnt_cons, PyProof.Rows.cnt_cons, PyProof.Rows.cnt_nil, if_neg (by decide), if_neg (by decide), if_neg (by decide), if_pos rfl] at d
  omega
/-- a short fixed row -/
theorem rw_const {L W : Nat} {x : Str} (h : Gd x) (l : x.length ≤ 18) (hL : 20 ≤ L) (hW : 20 ≤ W) : RwOk L W x := ⟨h, by omega, by have := wsOf_le x; omega⟩
theorem rw_one {L W n : Nat} {x y : Str} (hx : Gd x) (l : x.length ≤ 7) (hy : Gd y) (hs : Free 32 y) (ly : y.length ≤ n) (hL : n + 7 ≤ L) (hW : 20 ≤ W) : RwOk L W (x ++ y) := by
  refine ⟨gd_app hx hy, by rw [len_app]; omega, ?_⟩
  have a := w_app x y
  have b := wsOf_le x
  have c := w_free hs
  omega
theorem rw_zero {L W k : Nat} {x : Str} (hx : Gd x) (l : x.length = 4) (hw : (wsOf x).length = 2) (hL : 4 * k + 4 ≤ L) (hW : 4 * (k + 1) ≤ W) : RwOk L W (x ++ zeroS k) := by
  obtain ⟨z1, z2, z3⟩ := zero_w k
  refine ⟨gd_app hx z3, by rw [len_app]; omega, ?_⟩
  have a := w_app x (zeroS k)
  omega
theorem rw_asz {L W k : Nat} (hL : 8 * k + 7 ≤ L) (hW : 4 * (k + 1) ≤ W) : RwOk L W ((("as " : Str) ++ zeroS k ++ " to ") ++ zeroS k) := by
  obtain ⟨z1, z2, z3⟩ := zero_w k
  obtain ⟨w1, w2, _⟩ := w_as
  refine ⟨gd_app (gd_app (gd_app (by first | exact gd_of (by decide +kernel) | (unfold Free; decide +kernel)) z3) (by first | exact gd_of (by decide +kernel) | (unfold Free; decide +kernel))) z3, ?_, ?_⟩
  · rw [len_app, len_app, len_app, show ("as " : Str).length = 3 from rfl, show (" to " : Str).length = 4 from rfl]
    omega
  · have a := w_app ((("as " : Str) ++ zeroS k) ++ " to ") (zeroS k)
    have b := w_app (("as " : Str) ++ zeroS k) " to "
    have c := w_app ("as " : Str) (zeroS k)
    omega
theorem if_kv {tA : L2.St → Hp → (Bool → Hp → Prop) → Prop} {ta tb : TE} {σ : L2.St} {H : Hp} {Q : VK} (R : V → Hp → Prop) (key : ∀ v H', R v H' → Q v H') (h : (∀ v H', R v H' → Q v H') → tIf tA ta tb σ H Q) : tIf tA ta tb σ H Q := h key
theorem take_strs (rows : List Str) (i : Nat) : (rows.map V.str).take i = (rows.take i).map V.str := List.map_take.symm
end GD
namespace K01
open PySem PySem.Spec PyProof.Rows L2 GD
abbrev sSpoilt : Stmt := top 66
section
variable {P : Program} {w : World} {K : PySem.W.Frag} {mg : Str → Option Value} {base : Heap}
abbrev NSp : List Str := ["_law_pot_here", "_law_rows", "_law_way", "_law_at", "_law_words", "_law_spot", "_law_names_here", "_law_one", "_law_zeros", "_law_more", "_law_some_here", "_law_new"]
theorem scSp : FnScope NSp ["_law_pot_here", "_law_rows"] (defScope sSpoilt) := ⟨rfl, rfl, rfl, by decide +kernel, rfl, by decide +kernel, by decide +kernel⟩
theorem ok_spoilt {f fT fO : Addr} {fd fdT fdO : FuncData} (F : Fun K "_law_spoilt" "_law_spoilt" sSpoilt f fd) (S : TxtA mg) (FT : Fun K "_law_take" "_law_take" sTake fT fdT) (gT : mg "_law_take" = some (.ref fT)) (bT : Binds K fdT ["_law_pot_here", "_law_upto"] [])
    (FO : Fun K "_law_of" "_law_of" sOf fO fdO) (gO : mg "_law_of" = some (.ref fO)) (bO : Binds K fdO ["_law_pot_here", "_law_some_here"] []) : FnOk P w K mg base CX0 3 f fd ["_law_pot_here", "_law_rows"] spSpoilt := by
  have GT : FnOk P w K mg base CX0 1 fT fdT ["_law_pot_here", "_law_upto"] spTake := ok_take FT S
  have GO : FnOk P w K mg base CX0 2 fO fdO ["_law_pot_here", "_law_some_here"] (spOf K) := ok_of FO S FT gT bT
  refine F.ok scSp (fun vs H Q E h => ?_) (fun cdv A outer s H vs Q E hr h => ?_)
  · obtain ⟨a, l, rows, n, L, W, W0, z, rfl, _⟩ := h
    rfl
  · obtain ⟨a, l, rows, n, L, W, W0, z, rfl, hp, hz, dl, hl, hne, hR, hw0, hn, hL1, hL2, hW1, hW2, hW3, q⟩ := h
    have hr1 : Room 1 _ := hr.mono (by decide)
    refine ⟨_, pss_cons (ps_par (i := 2) (j := 3) rfl scSp.nd rfl rfl (by decide) rfl rfl (pa_cons (pe_call GT hr1 (by rfl) gT FT.kp bT .nil pass0 (pa_cons (pv 0) (pa_cons pe_int pa_nil))) (pa_cons (pe_call GT hr1 (by rfl) gT FT.kp bT .nil pass0 (pa_cons (pv 0) (pa_cons (pe_callB call_len_seq (by rfl) S.len PySem.boot_len (pa_cons (pv 1) pa_nil)) pa_nil))) pa_nil)) (by rfl))
      (pss_cons (ps_set (i := 4) scSp.nd rfl (.inl rfl) (pe_bm PySem.F.plainAttrs_str PySem.F.slot_str_split PySem.F.type_str_split mt_split (pe_ix ix_list (pv 1) (pv 3) (fun _ _ => rfl)) (pa_cons pe_str pa_nil)))
      (pss_cons (ps_set (i := 5) scSp.nd rfl (.inl rfl) (pe_call GT hr1 (by rfl) gT FT.kp bT .nil pass0 (pa_cons (pv 0) (pa_cons (pe_callB call_len_seq (by rfl) S.len PySem.boot_len (pa_cons (pv 4) pa_nil)) pa_nil))))
      (pss_cons (ps_if (pt_cmpR op_lt (pv 2) pe_int (nomark _)) (pss_one (ps_ret (pe_ix ix_list (pe_lst (pa_cons (pe_op op_cat (pe_slice sl_list (pv 1) po_none (po_some (pv 3))) (pe_slice sl_list (pv 1) (po_some (pe_op op_add (pv 3) pe_int)) po_none))
          (pa_cons (pe_op op_cat (pe_slice sl_list (pv 1) po_none (po_some (pe_op op_add (pv 3) pe_int))) (pe_slice sl_list (pv 1) (po_some (pv 3)) po_none)) pa_nil))) (pv 2) (fun _ _ => rfl)))) pss_nil)
      (pss_cons (ps_if (pt_cmpR op_eq (pv 2) pe_int (nomark _)) (pss_one (ps_ret (pe_op op_cat (pe_op op_cat (pe_slice sl_list (pv 1) po_none (po_some (pv 3))) (pe_revL (pe_slice sl_list (pv 1) (po_some (pv 3)) (po_some (pe_op op_add (pv 3) pe_int))))) (pe_slice sl_list (pv 1) (po_some (pe_op op_add (pv 3) pe_int)) po_none)))) pss_nil)
      (pss_cons (ps_set (i := 6) scSp.nd rfl (.inl rfl) (pe_op op_cat (pe_slice sl_list (pe_bm PySem.F.plainAttrs_str PySem.F.slot_str_split PySem.F.type_str_split mt_split (pe_ix ix_list (pv 1) pe_int (fun _ _ => rfl)) (pa_cons pe_str pa_nil)) (po_some pe_int) po_none) (pe_lst (pa_cons pe_str pa_nil))))
      (pss_cons (ps_par (i := 7) (j := 8) rfl scSp.nd rfl rfl (by decide) rfl rfl (pa_cons (pe_call GO hr (by rfl) gO FO.kp bO .nil pass0 (pa_cons (pv 0) (pa_cons (pv 6) pa_nil)))
          (pa_cons (pe_bm PySem.F.plainAttrs_str PySem.F.slot_str_join PySem.F.type_str_join mt_join pe_str (pa_cons (pe_op op_rep (pe_lst (pa_cons pe_str pa_nil)) (pe_op op_sub (pe_callB call_len_seq (by rfl) S.len PySem.boot_len (pa_cons (pv 6) pa_nil)) pe_int)) pa_nil)) pa_nil)) (by rfl))
      (pss_cons (ps_if (pt_cmpR op_eq (pv 2) pe_int (nomark _))
        (pss_cons (ps_set (i := 9) scSp.nd rfl (.inl rfl) (pe_lst (pa_cons (pe_op op_add_str pe_str (pv 8)) (pa_cons (pe_op op_add_str pe_str (pv 8)) (pa_cons pe_str (pa_cons (pe_op op_add_str (pe_op op_add_str (pe_op op_add_str pe_str (pv 8)) pe_str) (pv 8)) (pa_cons (pe_op op_add_str pe_str (pv 7)) (pa_cons pe_str pa_nil))))))))
        (pss_cons (ps_set (i := 9) scSp.nd rfl (.inl rfl) (pe_op op_cat (pv 9) (pe_lst (pa_cons (pe_op op_add_str pe_str (pv 7)) (pa_cons (pe_op op_add_str pe_str (pv 7)) (pa_cons (pe_op op_add_str pe_str (pv 7)) (pa_cons pe_str (pa_cons pe_str (pa_cons pe_str (pa_cons pe_str (pa_cons pe_str (pa_cons pe_str pa_nil))))))))))))
        (pss_cons (ps_expr (pe_bm PySem.F.plainAttrs_list PySem.F.slot_list_append PySem.F.type_list_append mt_append (pv 9) (pa_cons pe_str pa_nil)))
        (pss_one (ps_ret (pe_op op_cat (pe_op op_cat (pe_slice sl_list (pv 1) po_none (po_some (pv 3))) (pe_lst (pa_cons (pe_call GO hr (by rfl) gO FO.kp bO .nil pass0 (pa_cons (pv 0) (pa_cons (pv 9) pa_nil))) pa_nil))) (pe_slice sl_list (pv 1) (po_some (pv 3)) po_none))))))) pss_nil)
      (pss_cons (ps_set (i := 10) scSp.nd rfl (.inl rfl) (pe_lst (pa_cons pe_str (pa_cons pe_str (pa_cons pe_str (pa_cons pe_str (pa_cons pe_str (pa_cons pe_str (pa_cons pe_str (pa_cons pe_str (pa_cons pe_str (pa_cons pe_str (pa_cons pe_str (pa_cons pe_str (pa_cons pe_str (pa_cons pe_str (pa_cons (pv 7) (pa_cons pe_str (pa_cons (pe_ix ix_list (pv 4) pe_int (fun _ _ => rfl)) pa_nil)))))))))))))))))))
      (pss_cons (ps_set (i := 11) scSp.nd rfl (.inl rfl) (pe_ifExp (pt_cmpR op_eq (pv 2) pe_int (nomark _)) (pe_lst pa_nil) (pe_lst (pa_cons (pe_call GO hr (by rfl) gO FO.kp bO .nil pass0 (pa_cons (pv 0) (pa_cons (pv 10) pa_nil))) pa_nil))))
      (pss_cons (ps_set (i := 4) scSp.nd rfl (.inl rfl) (pe_op op_cat (pe_op op_cat (pe_slice sl_list (pv 4) po_none (po_some (pv 5))) (pv 11)) (pe_slice sl_list (pv 4) (po_some (pe_op op_add (pv 5) (pe_callTy call_int1 (by rfl) S.int (by decide +kernel) (pa_cons (pe_cmpR op_ne (pv 2) pe_int (nomark _)) pa_nil)))) po_none)))
      (pss_one (ps_ret (pe_op op_cat (pe_op op_cat (pe_slice sl_list (pv 1) po_none (po_some (pv 3))) (pe_lst (pa_cons (pe_bm PySem.F.plainAttrs_str PySem.F.slot_str_join PySem.F.type_str_join mt_join pe_str (pa_cons (pv 4) pa_nil)) pa_nil))) (pe_slice sl_list (pv 1) (po_some (pe_op op_add (pv 3) pe_int)) po_none)))))))))))))), ?_⟩
    have lR : (rows.map V.str).length = rows.length := List.length_map ..
    have hpos : 0 < rows.length := List.length_pos_iff.mpr hne
    have hrn := hR.n
    refine ⟨_, rfl, a, 8, z, rfl, hp, by omega, by decide, by decide, fun j1 H1 j10 j11 p1 k1 => ?_⟩
    have hl1 := k1 _ _ dl hl
    refine ⟨_, rfl, _, rfl, l, _, rfl, .inl (SqL.of hl1), a, _, z + 1, rfl, p1, by omega, by omega, by omega, fun j2 H2 j20 j21 p2 k2 => ?_⟩
    have hl2 := k2 _ _ dl hl1
    have k02 := k1.trans k2
    obtain ⟨i, rfl⟩ := Int.eq_ofNat_of_zero_le j20
    rw [lR] at j21
    have hi : i < rows.length := by omega
    refine ⟨_, _, rfl, ?_⟩
    have hline : rows[i]? = some rows[i] := List.getElem?_eq_getElem hi
    generalize ey : rows[i] = y at hline
    have hy := hR.r y (List.mem_of_getElem? hline)
    have hyl := hy.l
    refine ⟨_, rfl, _, rfl, l, _, _, V.str y, rfl, rfl, SqL.of hl2, at_str hline, rfl, ?_⟩
    refine ⟨_, _, rfl, rfl, rfl, small_len (by omega), fun pw npw => ?_⟩
    have sw := same_new (o := .lst ((Txt.split y " ").map V.str)) npw
    have ew : (upd H2 pw (.lst ((Txt.split y " ").map V.str))) pw = some (.lst ((wsOf y).map V.str)) := upd_same
    have dwa : pw ≠ a := p2.ne npw
    have p3 := p2.same sw
    generalize upd H2 pw (.lst ((Txt.split y " ").map V.str)) = H3 at sw ew p3 ⊢
    have hl3 := sw _ _ hl2
    have lw : ((wsOf y).map V.str).length = (wsOf y).length := List.length_map ..
    have wpos := wsOf_pos y
    have wle := wsOf_le y
    refine ⟨_, rfl, _, rfl, pw, _, rfl, .inl (SqL.of ew), a, _, z + 1 + 1, rfl, p3, by omega, by omega, by omega, fun j3 H4 j30 j31 p4 k4 => ?_⟩
    have k04 := (k02.trans (sKeep sw)).trans k4
    have hl4 := k4 _ _ dl hl3
    have ew4 := k4 _ _ dwa ew
    obtain ⟨spt, rfl⟩ := Int.eq_ofNat_of_zero_le j30
    have e1 : ((i : Nat) : Int) + 1 = ((i + 1 : Nat) : Int) := by omega
    have e2 : ((i : Nat) : Int) + 2 = ((i + 2 : Nat) : Int) := by omega
    have whole : ∀ {rs : List Str}, (∀ r ∈ rs, r ∈ rows) → rs.length ≤ n + 1 → Rows (n + 1) (max (2 * L + 1) (8 * W0 + 7)) (max (W + 1) (4 * W0)) rs := fun m c => ⟨c, fun r hr => (hR.r r (m r hr)).le (by omega) (by omega)⟩
    refine ⟨_, rfl, _, _, rfl, rfl, _, rfl, ?_⟩
    by_cases c1 : j1 < 2
    · rw [decide_eq_true c1]
      refine iteT ?_
      refine ⟨_, rfl, _, rfl, _, rfl, l, _, rfl, SqL.of hl4, fun q1 nq1 => ?_⟩
      rw [cut_strs_to]
      have s5 := same_new (o := .lst ((rows.take i).map V.str)) nq1
      have f1 : (upd H4 q1 (.lst ((rows.take i).map V.str))) q1 = some (.lst ((rows.take i).map V.str)) := upd_same
      generalize upd H4 q1 (.lst ((rows.take i).map V.str)) = H5 at s5 f1 ⊢
      refine ⟨_, rfl, _, rfl, _, _, rfl, rfl, _, rfl, l, _, rfl, SqL.of (s5 _ _ hl4), fun q2 nq2 => ?_⟩
      rw [e1, cut_strs_end]
      have s6 := same_new (o := .lst ((rows.drop (i + 1)).map V.str)) nq2
      have f2 : (upd H5 q2 (.lst ((rows.drop (i + 1)).map V.str))) q2 = some (.lst ((rows.drop (i + 1)).map V.str)) := upd_same
      have f1 := s6 _ _ f1
      generalize upd H5 q2 (.lst ((rows.drop (i + 1)).map V.str)) = H6 at s6 f1 f2 ⊢
      refine ⟨q1, q2, _, _, rfl, rfl, f1, f2, small_len (by rw [List.length_map, List.length_map, List.length_take, List.length_drop]; omega), fun q3 nq3 => ?_⟩
      rw [← List.map_append]
      have s7 := same_new (o := .lst ((rows.take i ++ rows.drop (i + 1)).map V.str)) nq3
      have f3 : (upd H6 q3 (.lst ((rows.take i ++ rows.drop (i + 1)).map V.str))) q3 = some (.lst ((rows.take i ++ rows.drop (i + 1)).map V.str)) := upd_same
      generalize upd H6 q3 (.lst ((rows.take i ++ rows.drop (i + 1)).map V.str)) = H7 at s7 f3 ⊢
      have s47 := (s5.trans s6).trans s7
      refine ⟨_, rfl, _, rfl, _, _, rfl, rfl, _, rfl, l, _, rfl, SqL.of (s47 _ _ hl4), fun q4 nq4 => ?_⟩
      rw [e1, cut_strs_to]
      have s8 := same_new (o := .lst ((rows.take (i + 1)).map V.str)) nq4
      have f4 : (upd H7 q4 (.lst ((rows.take (i + 1)).map V.str))) q4 = some (.lst ((rows.take (i + 1)).map V.str)) := upd_same
      have f3 := s8 _ _ f3
      generalize upd H7 q4 (.lst ((rows.take (i + 1)).map V.str)) = H8 at s8 f3 f4 ⊢
      refine ⟨_, rfl, _, rfl, _, rfl, l, _, rfl, SqL.of ((s47.trans s8) _ _ hl4), fun q5 nq5 => ?_⟩
      rw [cut_strs_end]
      have s9 := same_new (o := .lst ((rows.drop i).map V.str)) nq5
      have f5 : (upd H8 q5 (.lst ((rows.drop i).map V.str))) q5 = some (.lst ((rows.drop i).map V.str)) := upd_same
      have f3 := s9 _ _ f3
      have f4 := s9 _ _ f4
      generalize upd H8 q5 (.lst ((rows.drop i).map V.str)) = H9 at s9 f3 f4 f5 ⊢
      refine ⟨q4, q5, _, _, rfl, rfl, f4, f5, small_len (by rw [List.length_map, List.length_map, List.length_take, List.length_drop]; omega), fun q6 nq6 => ?_⟩
      rw [← List.map_append]
      have s10 := same_new (o := .lst ((rows.take (i + 1) ++ rows.drop i).map V.str)) nq6
      have f6 : (upd H9 q6 (.lst ((rows.take (i + 1) ++ rows.drop i).map V.str))) q6 = some (.lst ((rows.take (i + 1) ++ rows.drop i).map V.str)) := upd_same
      have f3 := s10 _ _ f3
      generalize upd H9 q6 (.lst ((rows.take (i + 1) ++ rows.drop i).map V.str)) = H10 at s10 f3 f6 ⊢
      refine ⟨(by show 2 ≤ sizeLine; decide), fun q7 nq7 => ?_⟩
      have s11 := same_new (o := .lst [.ref q3, .ref q6]) nq7
      have f7 : (upd H10 q7 (.lst [.ref q3, .ref q6])) q7 = some (.lst [.ref q3, .ref q6]) := upd_same
      have f3 := s11 _ _ f3
      have f6 := s11 _ _ f6
      generalize upd H10 q7 (.lst [.ref q3, .ref q6]) = H11 at s11 f3 f6 f7 ⊢
      have s411 : Same H4 H11 := (s47.trans (s8.trans s9)).trans (s10.trans s11)
      have p11 := p4.same s411
      obtain ⟨_, _, _, epa, _⟩ := id p11
      refine ⟨_, rfl, ?_⟩
      have j01 : j1 = 0 ∨ j1 = 1 := by omega
      rcases j01 with rfl | rfl
      · refine ⟨q7, _, 0, _, rfl, rfl, SqL.of f7, at0, q q3 _ H11 (p11.le (by omega)) (k04.trans (sKeep s411)) (p4.same (s5.trans s6) |>.ne nq3) f3 (whole (fun r hr => ?_) ?_)⟩
        · rcases List.mem_append.mp hr with hr | hr
          · exact List.mem_of_mem_take hr
          · exact List.mem_of_mem_drop hr
        · rw [List.length_append, List.length_take, List.length_drop]
          omega
      · refine ⟨q7, _, 1, _, rfl, rfl, SqL.of f7, at1, q q6 _ H11 (p11.le (by omega)) (k04.trans (sKeep s411)) (p4.same (s47.trans (s8.trans s9)) |>.ne nq6) f6 (whole (fun r hr => ?_) ?_)⟩
        · rcases List.mem_append.mp hr with hr | hr
          · exact List.mem_of_mem_take hr
          · exact List.mem_of_mem_drop hr
        · rw [List.length_append, List.length_take, List.length_drop]
          omega
    rw [decide_eq_false c1]
    refine iteF ?_
    refine ⟨_, rfl, rfl, _, rfl, ?_⟩
    by_cases c2 : j1 = 2
    · rw [decide_eq_true (show V.int j1 = V.int 2 by rw [c2])]
      refine iteT ?_
      refine ⟨_, rfl, _, rfl, _, rfl, l, _, rfl, SqL.of hl4, fun q1 nq1 => ?_⟩
      rw [cut_strs_to]
      have s5 := same_new (o := .lst ((rows.take i).map V.str)) nq1
      have f1 : (upd H4 q1 (.lst ((rows.take i).map V.str))) q1 = some (.lst ((rows.take i).map V.str)) := upd_same
      generalize upd H4 q1 (.lst ((rows.take i).map V.str)) = H5 at s5 f1 ⊢
      refine ⟨_, rfl, _, rfl, _, rfl, _, rfl, _, _, rfl, rfl, _, rfl, l, _, rfl, SqL.of (s5 _ _ hl4), fun q2 nq2 => ?_⟩
      rw [e2, cut_strs]
      have s6 := same_new (o := .lst (((rows.drop i).take (i + 2 - i)).map V.str)) nq2
      have f2 : (upd H5 q2 (.lst (((rows.drop i).take (i + 2 - i)).map V.str))) q2 = some (.lst (((rows.drop i).take (i + 2 - i)).map V.str)) := upd_same
      have f1 := s6 _ _ f1
      generalize upd H5 q2 (.lst (((rows.drop i).take (i + 2 - i)).map V.str)) = H6 at s6 f1 f2 ⊢
      refine ⟨q2, _, rfl, SqL.of f2, fun q3 nq3 => ?_⟩
      rw [← List.map_reverse]
      generalize emid : ((rows.drop i).take (i + 2 - i)).reverse = mid
      have s7 := same_new (o := .lst (mid.map V.str)) nq3
      have f3 : (upd H6 q3 (.lst (mid.map V.str))) q3 = some (.lst (mid.map V.str)) := upd_same
      have f1 := s7 _ _ f1
      generalize upd H6 q3 (.lst (mid.map V.str)) = H7 at s7 f1 f3 ⊢
      have lmid : mid.length ≤ 2 ∧ mid.length ≤ rows.length - i := by
        rw [← emid, List.length_reverse, List.length_take, List.length_drop]
        omega
      refine ⟨q1, q3, _, _, rfl, rfl, f1, f3, small_len (by rw [List.length_map, List.length_map, List.length_take]; omega), fun q4 nq4 => ?_⟩
      rw [← List.map_append]
      have s8 := same_new (o := .lst ((rows.take i ++ mid).map V.str)) nq4
      have f4 : (upd H7 q4 (.lst ((rows.take i ++ mid).map V.str))) q4 = some (.lst ((rows.take i ++ mid).map V.str)) := upd_same
      generalize upd H7 q4 (.lst ((rows.take i ++ mid).map V.str)) = H8 at s8 f4 ⊢
      have s48 := ((s5.trans s6).trans s7).trans s8
      refine ⟨_, rfl, _, rfl, _, _, rfl, rfl, _, rfl, l, _, rfl, SqL.of (s48 _ _ hl4), fun q5 nq5 => ?_⟩
      rw [e2, cut_strs_end]
      have s9 := same_new (o := .lst ((rows.drop (i + 2)).map V.str)) nq5
      have f5 : (upd H8 q5 (.lst ((rows.drop (i + 2)).map V.str))) q5 = some (.lst ((rows.drop (i + 2)).map V.str)) := upd_same
      have f4 := s9 _ _ f4
      generalize upd H8 q5 (.lst ((rows.drop (i + 2)).map V.str)) = H9 at s9 f4 f5 ⊢
      refine ⟨q4, q5, _, _, rfl, rfl, f4, f5, small_len (by rw [List.length_map, List.length_map, List.length_append, List.length_take, List.length_drop]; omega), fun q6 nq6 => ?_⟩
      rw [← List.map_append]
      have s10 := same_new (o := .lst ((rows.take i ++ mid ++ rows.drop (i + 2)).map V.str)) nq6
      have s410 := (s48.trans s9).trans s10
      refine q q6 _ _ ((p4.same s410).le (by omega)) (k04.trans (sKeep s410)) ((p4.same (s48.trans s9)).ne nq6) upd_same (whole (fun r hr => ?_) ?_)
      · rcases List.mem_append.mp hr with hr | hr
        · rcases List.mem_append.mp hr with hr | hr
          · exact List.mem_of_mem_take hr
          · rw [← emid] at hr
            exact List.mem_of_mem_drop (List.mem_of_mem_take (List.mem_reverse.mp hr))
        · exact List.mem_of_mem_drop hr
      · rw [List.length_append, List.length_append, List.length_take, List.length_drop]
        omega
    rw [decide_eq_false (show ¬ V.int j1 = V.int 2 from fun e => c2 (V.int.inj e))]
    refine iteF ?_
    -- the names, one of them, and zeros
    have hh0 : rows[0]? = some (rows.headD "") := by
      cases rows with
      | nil => exact absurd rfl hne
      | cons b r => rfl
    generalize rows.headD "" = r0 at hh0 hw0
    have hr0 := hR.r r0 (List.mem_of_getElem? hh0)
    have hr0l := hr0.l
    refine ⟨_, rfl, l, _, 0, V.str r0, rfl, rfl, SqL.of hl4, at_str (j := 0) hh0, rfl, ?_⟩
    refine ⟨_, _, rfl, rfl, rfl, small_len (by omega), fun m1 nm1 => ?_⟩
    have s5 := same_new (o := .lst ((Txt.split r0 " ").map V.str)) nm1
    have g1 : (upd H4 m1 (.lst ((Txt.split r0 " ").map V.str))) m1 = some (.lst ((wsOf r0).map V.str)) := upd_same
    generalize upd H4 m1 (.lst ((Txt.split r0 " ").map V.str)) = H5 at s5 g1 ⊢
    refine ⟨_, rfl, m1, _, rfl, SqL.of g1, fun m2 nm2 => ?_⟩
    rw [show (some (1 : Int)) = some ((1 : Nat) : Int) from rfl, cut_strs_end]
    have s6 := same_new (o := .lst (((wsOf r0).drop 1).map V.str)) nm2
    have g2 : (upd H5 m2 (.lst (((wsOf r0).drop 1).map V.str))) m2 = some (.lst (((wsOf r0).drop 1).map V.str)) := upd_same
    generalize upd H5 m2 (.lst (((wsOf r0).drop 1).map V.str)) = H6 at s6 g2 ⊢
    refine ⟨(by show 1 ≤ sizeLine; decide), fun m3 nm3 => ?_⟩
    have s7 := same_new (o := .lst [V.str "nosuch"]) nm3
    have g3 : (upd H6 m3 (.lst [V.str "nosuch"])) m3 = some (.lst ((["nosuch"] : List Str).map V.str)) := upd_same
    have g2 := s7 _ _ g2
    generalize upd H6 m3 (.lst [V.str "nosuch"]) = H7 at s7 g2 g3 ⊢
    have w0le := wsOf_le r0
    have w0pos := wsOf_pos r0
    refine ⟨m2, m3, _, _, rfl, rfl, g2, g3, small_len (by rw [List.length_map, List.length_map, List.length_drop, List.length_singleton]; omega), fun m4 nm4 => ?_⟩
    rw [← List.map_append]
    generalize enh : (wsOf r0).drop 1 ++ (["nosuch"] : List Str) = nh
    have lnh : nh.length = (wsOf r0).length := by
      rw [← enh, List.length_append, List.length_drop, List.length_singleton]
      omega
    have s8 := same_new (o := .lst (nh.map V.str)) nm4
    have g4 : (upd H7 m4 (.lst (nh.map V.str))) m4 = some (.lst (nh.map V.str)) := upd_same
    have s48 : Same H4 (upd H7 m4 (.lst (nh.map V.str))) := ((s5.trans s6).trans s7).trans s8
    have d4a : m4 ≠ a := (p4.same ((s5.trans s6).trans s7)).ne nm4
    generalize upd H7 m4 (.lst (nh.map V.str)) = H8 at s8 g4 s48 ⊢
    have p8 := p4.same s48
    have lnv : (nh.map V.str).length = nh.length := List.length_map ..
    refine ⟨_, rfl, _, rfl, a, m4, _, z + 1 + 1 + 1, rfl, p8, by omega, d4a, g4, ?_, by omega, fun vo H9 hvo p9 k9 => ?_⟩
    · intro e
      have := congrArg List.length e
      rw [lnv, lnh] at this
      change _ = 0 at this
      omega
    obtain ⟨one, hone, rfl⟩ := List.mem_map.mp hvo
    have hone3 : Gd one ∧ Free 32 one ∧ one.length ≤ L := by
      rw [← enh] at hone
      rcases List.mem_append.mp hone with ho | ho
      · have ho := List.mem_of_mem_drop ho
        exact ⟨words_gd hr0.nl one ho, words_free one ho, Nat.le_trans (wsOf_short ho) hr0l⟩
      · rw [List.mem_singleton.mp ho]
        exact ⟨by first | exact gd_of (by decide +kernel) | (unfold Free; decide +kernel), by first | exact gd_of (by decide +kernel) | (unfold Free; decide +kernel), by show 6 ≤ L; omega⟩
    have k49 : Keep a H4 H9 := (sKeep s48).trans k9
    have g4 := k9 _ _ d4a g4
    refine ⟨rfl, (by show 1 ≤ sizeLine; decide), fun m5 nm5 => ?_⟩
    have s10 := same_new (o := .lst [V.str "0 0"]) nm5
    have g5 : (upd H9 m5 (.lst [V.str "0 0"])) m5 = some (.lst [V.str "0 0"]) := upd_same
    have g4 := s10 _ _ g4
    generalize upd H9 m5 (.lst [V.str "0 0"]) = H10 at s10 g4 g5 ⊢
    refine ⟨_, rfl, m4, _, rfl, .inl (SqL.of g4), _, _, rfl, rfl, m5, _, _, rfl, rfl, g5, by omega, by omega, ?_, fun m6 nm6 => ?_⟩
    · rw [List.length_singleton]
      exact small_len (by omega)
    have ekz : (((nh.map V.str).length : Nat) : Int) - 1 = (((wsOf r0).length - 1 : Nat) : Int) := by omega
    rw [ekz, Int.toNat_natCast]
    generalize ekk : (wsOf r0).length - 1 = kz
    have hkz : kz + 1 ≤ W0 := by omega
    have erep : (List.replicate kz [V.str "0 0"]).flatten = (List.replicate kz ("0 0" : Str)).map V.str := by
      rw [List.map_replicate]
      clear ekk hkz nm6 ekz
      induction kz with
      | zero => rfl
      | succ kz ih => rw [List.replicate_succ, List.flatten_cons, ih, List.replicate_succ]; rfl
    rw [erep]
    have s11 := same_new (o := .lst ((List.replicate kz ("0 0" : Str)).map V.str)) nm6
    have g6 : (upd H10 m6 (.lst ((List.replicate kz ("0 0" : Str)).map V.str))) m6 = some (.lst ((List.replicate kz ("0 0" : Str)).map V.str)) := upd_same
    generalize upd H10 m6 (.lst ((List.replicate kz ("0 0" : Str)).map V.str)) = H11 at s11 g6 ⊢
    refine ⟨_, m6, _, rfl, rfl, .inl (SqL.of g6), ?_, ?_⟩
    · rw [List.map_replicate, List.sum_replicate_nat, List.length_replicate, show ("0 0" : Str).length = 3 from rfl, show (" " : Str).length = 1 from rfl]
      omega
    refine ⟨_, _, rfl, ?_⟩
    have s911 := s10.trans s11
    have k411 : Keep a H4 H11 := k49.trans (sKeep s911)
    have p11 := p9.same s911
    have hl11 := k411 _ _ dl hl4
    have ew11 := k411 _ _ dwa ew4
    obtain ⟨z1, z2, z3⟩ := zero_w kz
    have hLL : 8 * kz + 7 ≤ max (2 * L + 1) (8 * W0 + 7) := by omega
    have hWW : 4 * (kz + 1) ≤ max (W + 1) (4 * W0) := by omega
    have hL20 : 20 ≤ max (2 * L + 1) (8 * W0 + 7) := by omega
    have hW20 : 20 ≤ max (W + 1) (4 * W0) := by omega
    have hL7 : L + 7 ≤ max (2 * L + 1) (8 * W0 + 7) := by omega
    obtain ⟨h10, h32, hol⟩ := hone3
    have ezs : Txt.join " " (List.replicate kz ("0 0" : Str)) = zeroS kz := rfl
    rw [ezs]
    refine ⟨_, rfl, rfl, _, rfl, ?_⟩
    generalize hL' : max (2 * L + 1) (8 * W0 + 7) = L' at *
    generalize hW' : max (W + 1) (4 * W0) = W' at *
    by_cases c3 : j1 = 3
    · rw [decide_eq_true (show V.int j1 = V.int 3 by rw [c3])]
      refine iteT ?_
      refine ⟨_, rfl, _, _, rfl, rfl, small_len (by show 4 + (zeroS kz).length ≤ _; omega), _, rfl, _, _, rfl, rfl, small_len (by show 4 + (zeroS kz).length ≤ _; omega), _, rfl, _, _, rfl, rfl, small_len (by show 3 + (zeroS kz).length ≤ _; omega), _, _, rfl, rfl, small_len (by rw [len_app]; show 3 + (zeroS kz).length + 4 ≤ _; omega), _, rfl, _, _, rfl, rfl, small_len (by rw [len_app, len_app]; show 3 + (zeroS kz).length + 4 + (zeroS kz).length ≤ _; omega), _, rfl, _, _, rfl, rfl, small_len (by show 6 + one.length ≤ _; omega), (by show 6 ≤ sizeLine; decide), fun m7 nm7 => ?_⟩
      generalize emo1 : ([("let " : Str) ++ zeroS kz, ("not " : Str) ++ zeroS kz, "let", ((("as " : Str) ++ zeroS kz) ++ " to ") ++ zeroS kz, ("clean " : Str) ++ one, "free"] : List Str) = mo1
      have s12 := same_new (o := .lst (mo1.map V.str)) nm7
      have g7 : (upd H11 m7 (.lst (mo1.map V.str))) m7 = some (.lst (mo1.map V.str)) := upd_same
      rw [show ([V.str (("let " : Str) ++ zeroS kz), V.str (("not " : Str) ++ zeroS kz), V.str "let", V.str (((("as " : Str) ++ zeroS kz) ++ " to ") ++ zeroS kz), V.str (("clean " : Str) ++ one), V.str "free"] : List V) = mo1.map V.str by rw [← emo1]; rfl]
      generalize upd H11 m7 (.lst (mo1.map V.str)) = H12 at s12 g7 ⊢
      have lmo1 : mo1.length = 6 := by rw [← emo1]; rfl
      refine ⟨_, rfl, _, rfl, _, _, rfl, rfl, small_len (by show 6 + one.length ≤ _; omega), _, rfl, _, _, rfl, rfl, small_len (by show 5 + one.length ≤ _; omega), _, rfl, _, _, rfl, rfl, small_len (by show 6 + one.length ≤ _; omega), (by show 9 ≤ sizeLine; decide), fun m8 nm8 => ?_⟩
      generalize emo2 : ([("spent " : Str) ++ one, ("free " : Str) ++ one, ("plain " : Str) ++ one, "jobs a", "", "let 1", "as", "to", "let 1 2"] : List Str) = mo2
      have s13 := same_new (o := .lst (mo2.map V.str)) nm8
      have g8 : (upd H12 m8 (.lst (mo2.map V.str))) m8 = some (.lst (mo2.map V.str)) := upd_same
      rw [show ([V.str (("spent " : Str) ++ one), V.str (("free " : Str) ++ one), V.str (("plain " : Str) ++ one), V.str "jobs a", V.str "", V.str "let 1", V.str "as", V.str "to", V.str "let 1 2"] : List V) = mo2.map V.str by rw [← emo2]; rfl]
      have g7 := s13 _ _ g7
      generalize upd H12 m8 (.lst (mo2.map V.str)) = H13 at s13 g7 g8 ⊢
      have lmo2 : mo2.length = 9 := by rw [← emo2]; rfl
      refine ⟨m7, m8, _, _, rfl, rfl, g7, g8, small_len (by rw [List.length_map, List.length_map]; omega), fun m9 nm9 => ?_⟩
      rw [← List.map_append]
      have s14 := same_new (o := .lst ((mo1 ++ mo2).map V.str)) nm9
      have g9 : (upd H13 m9 (.lst ((mo1 ++ mo2).map V.str))) m9 = some (.lst ((mo1 ++ mo2).map V.str)) := upd_same
      have s1114 : Same H11 (upd H13 m9 (.lst ((mo1 ++ mo2).map V.str))) := (s12.trans s13).trans s14
      have n9 : H11 m9 = none := (s12.trans s13).free nm9
      have d9a : m9 ≠ a := p11.ne n9
      have d9l : l ≠ m9 := ne_of_none hl11 n9
      generalize upd H13 m9 (.lst ((mo1 ++ mo2).map V.str)) = H14 at s14 g9 s1114 ⊢
      refine ⟨_, rfl, .inl ⟨rfl, _, SqL.of g9⟩, ?_⟩
      refine ⟨m9, _, _, rfl, rfl, g9, ?_, ?_⟩
      · rw [List.length_map, List.length_append, lmo1, lmo2]
        decide
      rw [show (mo1 ++ mo2).map V.str ++ [V.str "as 1 0 to 0 0"] = ((mo1 ++ mo2) ++ (["as 1 0 to 0 0"] : List Str)).map V.str by rw [List.map_append (l₂ := (["as 1 0 to 0 0"] : List Str))]; rfl]
      generalize emo : (mo1 ++ mo2) ++ (["as 1 0 to 0 0"] : List Str) = mo
      have s1115 : Same H11 (upd H14 m9 (.lst (mo.map V.str))) := same_upd s1114 n9
      have g9 : (upd H14 m9 (.lst (mo.map V.str))) m9 = some (.lst (mo.map V.str)) := upd_same
      have lmo : mo.length = 16 := by rw [← emo, List.length_append, List.length_append, lmo1, lmo2]; rfl
      have okmo : ∀ r ∈ mo, RwOk L' W' r := by
        intro r hr
        obtain ⟨wa, wb, wc, wd⟩ := w_as
        rw [← emo, ← emo1, ← emo2] at hr
        have cst : ∀ {x : Str}, Gd x → x.length ≤ 18 → RwOk L' W' x := fun a b => rw_const a b hL20 hW20
        simp only [List.cons_append, List.nil_append, List.mem_cons, List.not_mem_nil, or_false] at hr
        rcases hr with rfl | rfl | rfl | rfl | rfl | rfl | rfl | rfl | rfl | rfl | rfl | rfl | rfl | rfl | rfl | rfl
        · exact rw_zero (by first | exact gd_of (by decide +kernel) | (unfold Free; decide +kernel)) rfl wc (by omega) hWW
        · exact rw_zero (by first | exact gd_of (by decide +kernel) | (unfold Free; decide +kernel)) rfl wd (by omega) hWW
        · exact cst (by first | exact gd_of (by decide +kernel) | (unfold Free; decide +kernel)) (by decide +kernel)
        · exact rw_asz hLL hWW
        · exact rw_one (n := L) (by first | exact gd_of (by decide +kernel) | (unfold Free; decide +kernel)) (by decide +kernel) h10 h32 hol hL7 hW20
        · exact cst (by first | exact gd_of (by decide +kernel) | (unfold Free; decide +kernel)) (by decide +kernel)
        · exact rw_one (n := L) (by first | exact gd_of (by decide +kernel) | (unfold Free; decide +kernel)) (by decide +kernel) h10 h32 hol hL7 hW20
        · exact rw_one (n := L) (by first | exact gd_of (by decide +kernel) | (unfold Free; decide +kernel)) (by decide +kernel) h10 h32 hol hL7 hW20
        · exact rw_one (n := L) (by first | exact gd_of (by decide +kernel) | (unfold Free; decide +kernel)) (by decide +kernel) h10 h32 hol hL7 hW20
        all_goals exact cst (by first | exact gd_of (by decide +kernel) | (unfold Free; decide +kernel)) (by decide +kernel)
      clear g7 g8 s12 s13 s14 s1114 emo emo1 emo2 nm9 nm8 nm7
      generalize upd H14 m9 (.lst (mo.map V.str)) = H15 at s1115 g9 ⊢
      have p15 := p11.same s1115
      have hl15 := s1115 _ _ hl11
      refine ⟨_, rfl, _, rfl, _, rfl, l, _, rfl, SqL.of hl15, fun q1 nq1 => ?_⟩
      rw [cut_strs_to]
      have s16 := same_new (o := .lst ((rows.take i).map V.str)) nq1
      have f1 : (upd H15 q1 (.lst ((rows.take i).map V.str))) q1 = some (.lst ((rows.take i).map V.str)) := upd_same
      have dq1 : q1 ≠ a := p15.ne nq1
      generalize upd H15 q1 (.lst ((rows.take i).map V.str)) = H16 at s16 f1 ⊢
      have p16 := p15.same s16
      refine ⟨_, rfl, _, rfl, a, m9, _, z + 1 + 1 + 1 + 1, rfl, p16, by omega, d9a, s16 _ _ g9, ?_, by rw [List.length_map]; omega, fun vr H17 hvr p17 k17 => ?_⟩
      · intro e
        have := congrArg List.length e
        rw [List.length_map, lmo] at this
        cases this
      obtain ⟨ro, hro, rfl⟩ := List.mem_map.mp hvr
      have f1 := k17 _ _ dq1 f1
      have hl17 := k17 _ _ dl (s16 _ _ hl15)
      refine ⟨(by show 1 ≤ sizeLine; decide), fun q2 nq2 => ?_⟩
      have s18 := same_new (o := .lst [V.str ro]) nq2
      have f2 : (upd H17 q2 (.lst [V.str ro])) q2 = some (.lst (([ro] : List Str).map V.str)) := upd_same
      have f1 := s18 _ _ f1
      generalize upd H17 q2 (.lst [V.str ro]) = H18 at s18 f1 f2 ⊢
      refine ⟨q1, q2, _, _, rfl, rfl, f1, f2, small_len (by rw [List.length_map, List.length_map, List.length_take, List.length_singleton]; omega), fun q3 nq3 => ?_⟩
      rw [← List.map_append]
      have s19 := same_new (o := .lst ((rows.take i ++ [ro]).map V.str)) nq3
      have f3 : (upd H18 q3 (.lst ((rows.take i ++ [ro]).map V.str))) q3 = some (.lst ((rows.take i ++ [ro]).map V.str)) := upd_same
      generalize upd H18 q3 (.lst ((rows.take i ++ [ro]).map V.str)) = H19 at s19 f3 ⊢
      refine ⟨_, rfl, _, rfl, _, rfl, l, _, rfl, SqL.of ((s18.trans s19) _ _ hl17), fun q4 nq4 => ?_⟩
      rw [cut_strs_end]
      have s20 := same_new (o := .lst ((rows.drop i).map V.str)) nq4
      have f4 : (upd H19 q4 (.lst ((rows.drop i).map V.str))) q4 = some (.lst ((rows.drop i).map V.str)) := upd_same
      have f3 := s20 _ _ f3
      generalize upd H19 q4 (.lst ((rows.drop i).map V.str)) = H20 at s20 f3 f4 ⊢
      refine ⟨q3, q4, _, _, rfl, rfl, f3, f4, small_len (by rw [List.length_map, List.length_map, List.length_append, List.length_take, List.length_drop, List.length_singleton]; omega), fun q5 nq5 => ?_⟩
      rw [← List.map_append]
      have s21 := same_new (o := .lst ((rows.take i ++ [ro] ++ rows.drop i).map V.str)) nq5
      have s1721 := ((s18.trans s19).trans s20).trans s21
      have dq5 := (p17.same ((s18.trans s19).trans s20)).ne nq5
      refine q q5 _ _ ((p17.same s1721).le (by omega)) (((k04.trans k411).trans (sKeep (s1115.trans s16))).trans (k17.trans (sKeep s1721))) dq5 upd_same ?_
      exact rows_mix hR (by omega) (by omega) (okmo ro hro) (Nat.le_refl i)
    rw [decide_eq_false (show ¬ V.int j1 = V.int 3 from fun e => c3 (V.int.inj e))]
    refine iteF ?_
    obtain ⟨w0, wr, ews⟩ : ∃ w0 wr, wsOf y = w0 :: wr := by
      cases e : wsOf y with
      | nil =>
        rw [e] at wpos
        exact absurd wpos (by decide)
      | cons b r => exact ⟨b, r, rfl⟩
    refine ⟨_, rfl, _, rfl, pw, _, 0, _, rfl, rfl, SqL.of ew11, (by rw [ews]; exact at0), (by show 17 ≤ sizeLine; decide), fun m7 nm7 => ?_⟩
    generalize eso : (["0", "1", "2", "40", "41", "00", "01", "-1", "", "to", "let", "not", "as", "clean", one, "A", w0] : List Str) = so
    rw [show ([V.str "0", V.str "1", V.str "2", V.str "40", V.str "41", V.str "00", V.str "01", V.str "-1", V.str "", V.str "to", V.str "let", V.str "not", V.str "as", V.str "clean", V.str one, V.str "A", V.str w0] : List V) = so.map V.str by rw [← eso]; rfl]
    have hw0m : w0 ∈ wsOf y := by rw [ews]; exact List.mem_cons_self
    have okso : ∀ t ∈ so, Gd t ∧ Free 32 t ∧ t.length ≤ L := by
      intro t ht
      rw [← eso] at ht
      have cst : ∀ {x : Str}, Gd x → Free 32 x → x.length ≤ 5 → Gd x ∧ Free 32 x ∧ x.length ≤ L := fun u v c => ⟨u, v, by omega⟩
      simp only [List.mem_cons, List.not_mem_nil, or_false] at ht
      rcases ht with rfl | rfl | rfl | rfl | rfl | rfl | rfl | rfl | rfl | rfl | rfl | rfl | rfl | rfl | rfl | rfl | rfl
      case inr.inr.inr.inr.inr.inr.inr.inr.inr.inr.inr.inr.inr.inr.inl => exact ⟨h10, h32, hol⟩
      case inr.inr.inr.inr.inr.inr.inr.inr.inr.inr.inr.inr.inr.inr.inr.inr => exact ⟨words_gd hy.nl _ hw0m, words_free _ hw0m, Nat.le_trans (wsOf_short hw0m) hyl⟩
      all_goals exact cst (by first | exact gd_of (by decide +kernel) | (unfold Free; decide +kernel)) (by first | exact gd_of (by decide +kernel) | (unfold Free; decide +kernel)) (by decide +kernel)
    have lso : so.length = 17 := by rw [← eso]; rfl
    have s12 := same_new (o := .lst (so.map V.str)) nm7
    have g7 : (upd H11 m7 (.lst (so.map V.str))) m7 = some (.lst (so.map V.str)) := upd_same
    have d7a : m7 ≠ a := p11.ne nm7
    clear eso nm7
    generalize upd H11 m7 (.lst (so.map V.str)) = H12 at s12 g7 ⊢
    have p12 := p11.same s12
    unfold gName
    dsimp only [tSeq]
    unfold tAsg
    refine if_kv (fun v H' => ∃ (mN : Addr) (nw : List Str), v = .ref mN ∧ H' mN = some (.lst (nw.map V.str)) ∧ nw.length ≤ 1 ∧ (∀ t ∈ nw, Gd t ∧ Free 32 t ∧ t.length ≤ L) ∧ Keep a H12 H' ∧ PotAt H' a (z + 5)) (fun v H13 ⟨mN, nw, ev, gN, lnw, oknw, k13, p13⟩ => ?_) (fun key => ?_)
    rotate_left
    · refine ⟨_, rfl, rfl, _, rfl, ?_⟩
      by_cases c4 : j1 = 4
      · rw [decide_eq_true (show V.int j1 = V.int 4 by rw [c4])]
        refine iteT ⟨by decide, fun mN nN => key _ _ ⟨mN, [], rfl, upd_same, by decide, fun _ h => (nomatch h), sKeep (same_new nN), ((p12.same (same_new nN)).le (by omega))⟩⟩
      · rw [decide_eq_false (show ¬ V.int j1 = V.int 4 from fun e => c4 (V.int.inj e))]
        refine iteF ⟨_, rfl, _, rfl, a, m7, _, z + 1 + 1 + 1 + 1, rfl, p12, by omega, d7a, g7, ?_, by rw [List.length_map]; omega, fun vt H13 hvt p13 k13 => ?_⟩
        · intro e
          have := congrArg List.length e
          rw [List.length_map, lso] at this
          cases this
        obtain ⟨t, ht, rfl⟩ := List.mem_map.mp hvt
        refine ⟨(by show 1 ≤ sizeLine; decide), fun mN nN => key _ _ ⟨mN, [t], rfl, upd_same, Nat.le_refl 1, fun u hu => by rw [List.mem_singleton.mp hu]; exact okso t ht, k13.trans (sKeep (same_new nN)), ((p13.same (same_new nN)).le (by omega))⟩⟩
    subst ev
    have hl13 := k13 _ _ dl (s12 _ _ hl11)
    have ew13 := k13 _ _ dwa (s12 _ _ ew11)
    have k413 : Keep a H4 H13 := (k411.trans (sKeep s12)).trans k13
    have lwle : (wsOf y).length ≤ L + 2 := by omega
    refine ⟨_, rfl, _, rfl, _, rfl, pw, _, rfl, SqL.of ew13, fun q1 nq1 => ?_⟩
    rw [cut_strs_to]
    have s14 := same_new (o := .lst (((wsOf y).take spt).map V.str)) nq1
    have f1 : (upd H13 q1 (.lst (((wsOf y).take spt).map V.str))) q1 = some (.lst (((wsOf y).take spt).map V.str)) := upd_same
    generalize upd H13 q1 (.lst (((wsOf y).take spt).map V.str)) = H14 at s14 f1 ⊢
    have gN := s14 _ _ gN
    refine ⟨_, rfl, q1, mN, _, _, rfl, rfl, f1, gN, small_len (by rw [List.length_map, List.length_map, List.length_take]; omega), fun q2 nq2 => ?_⟩
    rw [← List.map_append]
    have s15 := same_new (o := .lst (((wsOf y).take spt ++ nw).map V.str)) nq2
    have f2 : (upd H14 q2 (.lst (((wsOf y).take spt ++ nw).map V.str))) q2 = some (.lst (((wsOf y).take spt ++ nw).map V.str)) := upd_same
    generalize upd H14 q2 (.lst (((wsOf y).take spt ++ nw).map V.str)) = H15 at s15 f2 ⊢
    refine ⟨_, rfl, _, rfl, _, rfl, rfl, .inr ⟨_, rfl, _, _, rfl, rfl, _, rfl, ?_⟩⟩
    dsimp only [tNoPart]
    have ede : ∃ de : Nat, ((spt : Nat) : Int) + (if (!decide (V.int j1 = V.int 5)) = true then 1 else 0) = ((spt + de : Nat) : Int) := by
      cases (!decide (V.int j1 = V.int 5)) with
      | true => exact ⟨1, by rw [if_pos rfl]; omega⟩
      | false => exact ⟨0, by rw [if_neg (by decide)]; omega⟩
    obtain ⟨de, ede⟩ := ede
    rw [ede]
    refine ⟨pw, _, rfl, SqL.of ((s14.trans s15) _ _ ew13), fun q3 nq3 => ?_⟩
    rw [cut_strs_end]
    have s16 := same_new (o := .lst (((wsOf y).drop (spt + de)).map V.str)) nq3
    have f3 : (upd H15 q3 (.lst (((wsOf y).drop (spt + de)).map V.str))) q3 = some (.lst (((wsOf y).drop (spt + de)).map V.str)) := upd_same
    have f2 := s16 _ _ f2
    generalize upd H15 q3 (.lst (((wsOf y).drop (spt + de)).map V.str)) = H16 at s16 f2 f3 ⊢
    refine ⟨q2, q3, _, _, rfl, rfl, f2, f3, small_len (by rw [List.length_map, List.length_map, List.length_append, List.length_take, List.length_drop]; omega), fun q4 nq4 => ?_⟩
    rw [← List.map_append]
    generalize enws : (wsOf y).take spt ++ nw ++ (wsOf y).drop (spt + de) = nws
    have s17 := same_new (o := .lst (nws.map V.str)) nq4
    have f4 : (upd H16 q4 (.lst (nws.map V.str))) q4 = some (.lst (nws.map V.str)) := upd_same
    generalize upd H16 q4 (.lst (nws.map V.str)) = H17 at s17 f4 ⊢
    have s1317 : Same H13 H17 := ((s14.trans s15).trans s16).trans s17
    have hl17 := s1317 _ _ hl13
    have inws : ∀ t ∈ nws, Gd t ∧ Free 32 t ∧ t.length ≤ L := by
      intro t ht
      have wd : ∀ u ∈ wsOf y, Gd u ∧ Free 32 u ∧ u.length ≤ L := fun u hu => ⟨words_gd hy.nl u hu, words_free u hu, Nat.le_trans (wsOf_short hu) hyl⟩
      rw [← enws] at ht
      rcases List.mem_append.mp ht with ht | ht
      · rcases List.mem_append.mp ht with ht | ht
        · exact wd t (List.mem_of_mem_take ht)
        · exact oknw t ht
      · exact wd t (List.mem_of_mem_drop ht)
    have lnws : nws.length ≤ (wsOf y).length + 1 := by
      rw [← enws, List.length_append, List.length_append, List.length_take, List.length_drop]
      omega
    have wnws : wt nws ≤ 2 * L + 1 + 1 := by
      rw [← enws, wt_app, wt_app]
      have a := wt_drop_le (wsOf y) spt (spt + de) (by omega)
      have b := wt_words y
      have c : wt nw ≤ L + 1 := by
        match nw, lnw, oknw with
        | [], _, _ => exact Nat.zero_le _
        | [t], _, ok => 
          have := (ok t List.mem_cons_self).2.2
          show (t.length + 0) + 1 ≤ _
          omega
      omega
    have rok : RwOk L' W' (Txt.join " " nws) := by
      have := hy.w
      exact row_words (fun t ht => (inws t ht).1) (fun t ht => (inws t ht).2.1) (by omega) (by omega) (by omega)
    have sumle : (nws.map (·.length)).sum + nws.length * (" " : Str).length ≤ 16777216 := by
      rw [show (" " : Str).length = 1 from rfl]
      unfold wt at wnws
      omega
    refine ⟨_, rfl, _, rfl, _, rfl, l, _, rfl, SqL.of hl17, fun q5 nq5 => ?_⟩
    rw [cut_strs_to]
    have s18 := same_new (o := .lst ((rows.take i).map V.str)) nq5
    have f5 : (upd H17 q5 (.lst ((rows.take i).map V.str))) q5 = some (.lst ((rows.take i).map V.str)) := upd_same
    have f4 := s18 _ _ f4
    generalize upd H17 q5 (.lst ((rows.take i).map V.str)) = H18 at s18 f4 f5 ⊢
    refine ⟨rfl, _, rfl, _, q4, nws, rfl, rfl, .inl (SqL.of f4), sumle, (by show 1 ≤ sizeLine; decide), fun q6 nq6 => ?_⟩
    generalize Txt.join " " nws = ro at rok nq6 ⊢
    have s19 := same_new (o := .lst [V.str ro]) nq6
    have f6 : (upd H18 q6 (.lst [V.str ro])) q6 = some (.lst (([ro] : List Str).map V.str)) := upd_same
    have f5 := s19 _ _ f5
    generalize upd H18 q6 (.lst [V.str ro]) = H19 at s19 f5 f6 ⊢
    refine ⟨q5, q6, _, _, rfl, rfl, f5, f6, small_len (by rw [List.length_map, List.length_map, List.length_take, List.length_singleton]; omega), fun q7 nq7 => ?_⟩
    rw [← List.map_append]
    have s20 := same_new (o := .lst ((rows.take i ++ [ro]).map V.str)) nq7
    have f7 : (upd H19 q7 (.lst ((rows.take i ++ [ro]).map V.str))) q7 = some (.lst ((rows.take i ++ [ro]).map V.str)) := upd_same
    generalize upd H19 q7 (.lst ((rows.take i ++ [ro]).map V.str)) = H20 at s20 f7 ⊢
    refine ⟨_, rfl, _, rfl, _, _, rfl, rfl, _, rfl, l, _, rfl, SqL.of (((s18.trans s19).trans s20) _ _ hl17), fun q8 nq8 => ?_⟩
    rw [e1, cut_strs_end]
    have s21 := same_new (o := .lst ((rows.drop (i + 1)).map V.str)) nq8
    have f8 : (upd H20 q8 (.lst ((rows.drop (i + 1)).map V.str))) q8 = some (.lst ((rows.drop (i + 1)).map V.str)) := upd_same
    have f7 := s21 _ _ f7
    generalize upd H20 q8 (.lst ((rows.drop (i + 1)).map V.str)) = H21 at s21 f7 f8 ⊢
    refine ⟨q7, q8, _, _, rfl, rfl, f7, f8, small_len (by rw [List.length_map, List.length_map, List.length_append, List.length_take, List.length_drop, List.length_singleton]; omega), fun q9 nq9 => ?_⟩
    rw [← List.map_append]
    have s22 := same_new (o := .lst ((rows.take i ++ [ro] ++ rows.drop (i + 1)).map V.str)) nq9
    have s1321 : Same H13 H21 := s1317.trans (((s18.trans s19).trans s20).trans s21)
    have dq9 := (p13.same s1321).ne nq9
    refine q q9 _ _ (p13.same (s1321.trans s22)) (((k04.trans k413)).trans (sKeep (s1321.trans s22))) dq9 upd_same ?_
    exact rows_mix hR (by omega) (by omega) rok (Nat.le_succ i)
end
end K01
namespace GD
open PySem PySem.Spec PyProof.Rows L2 LamX
/-- a text so many times -/
def repS (x : Str) (n : Nat) : Str := ⟨(List.replicate n x.cps).foldl (· ++ ·) #[]⟩
def rMulS : R2 := fun x y H Q => ∃ (i : Str) (n : Nat), x = .str i ∧ y = .int (n : Nat) ∧ 2 ≤ n ∧ n ≤ 100 ∧ 1 ≤ i.length ∧ i.length ≤ 100 ∧ (repS i n).length ≤ 10000 ∧ Q (.str (repS i n)) H
theorem op_mulS {X : Cx} : OpR X (binaryOp .Mult) rMulS := by
  intro pins s σ H x y v u Q I rx ry h
  obtain ⟨i, n, rfl, rfl, h2, h100, l1, l100, lr, q⟩ := h
  obtain ⟨t, rfl⟩ := rx
  obtain ⟨t', rfl⟩ := ry
  have m : i.length * n ≤ 100 * 100 := Nat.mul_le_mul l100 h100
  refine PySem.P.mul_str ?_ (fun _ _ => ?_) (fun _ _ => ?_) ?_
  · rw [decide_eq_false (show ¬ ((n : Nat) : Int) < -(2 ^ 63 : Int) by omega), decide_eq_false (show ¬ ((n : Nat) : Int) ≥ 2 ^ 63 by omega)]
    rfl
  · have e : (i.length : Int) ≤ (2 ^ 63 - 1) / ((n : Nat) : Int) := Int.le_ediv_of_mul_le (by omega) (by
      have : ((i.length * n : Nat) : Int) ≤ 10000 := by omega
      rw [Int.natCast_mul] at this
      omega)
    omega
  · rw [Int.toNat_natCast]
    exact decide_eq_false (Nat.not_lt.mpr (small_len (by omega)))
  · have c : ¬ (((n : Nat) : Int) == 1 || i.length == 0) = true := by
      rw [Bool.or_eq_true, beq_iff_eq, beq_iff_eq]
      omega
    rw [if_neg (by omega), if_neg c, Int.toNat_natCast]
    exact ⟨small_len (show (repS i n).length ≤ _ by omega), .str (repS i n), H, I.tok _, ⟨_, rfl⟩, q⟩
/-- a list of short rows -/
def LRn (n : Nat) (H : Hp) (x : Addr) : Prop := ∃ rows : List Str, H x = some (.lst (rows.map V.str)) ∧ Rows n 100 102 rows
theorem LRn.same {n : Nat} {H H' : Hp} {x : Addr} (s : Same H H') (h : LRn n H x) : LRn n H' x := by
  obtain ⟨r, e, o⟩ := h
  exact ⟨r, s _ _ e, o⟩
theorem LRn.le {n m : Nat} {H : Hp} {x : Addr} (l : n ≤ m) (h : LRn n H x) : LRn m H x := by
  obtain ⟨r, e, o⟩ := h
  exact ⟨r, e, o.le l (Nat.le_refl _) (Nat.le_refl _)⟩
def Row1 (x : Str) : Prop := Gd x ∧ x.length ≤ 100
theorem Row1.ok {x : Str} (h : Row1 x) : RwOk 100 102 x := ⟨h.1, h.2, by have := wsOf_le x; have := h.2; omega⟩
theorem lrn_new {n : Nat} {H : Hp} {x : Addr} {rows : List Str} {vs : List V} (ev : vs = rows.map V.str) (l : rows.length ≤ n) (h : ∀ r ∈ rows, Row1 r) (e : H x = some (.lst vs)) : LRn n H x := ⟨rows, by rw [e, ev], l, fun r hr => (h r hr).ok⟩
theorem cut_rows {K : PySem.W.Frag} {n : Nat} {H : Hp} {x : Addr} {lo hi : Option Int} {Q : VK} (h : LRn n H x) (q : ∀ p H', H p = none → Same H H' → LRn n H' p → Q (.ref p) H') : rSlL K (.ref x) lo hi H Q := by
  obtain ⟨rows, e, o⟩ := h
  refine ⟨x, _, rfl, SqL.of e, fun p hp => q p _ hp (same_new hp) ?_⟩
  obtain ⟨a, b, ec⟩ : ∃ a b, cutV (rows.map V.str) lo hi = (((rows.drop a).take b).map V.str) := ⟨_, _, by unfold cutV; rw [List.map_take, List.map_drop]⟩
  refine ⟨(rows.drop a).take b, by rw [upd_same, ec], ?_, fun r hr => o.r r (List.mem_of_mem_drop (List.mem_of_mem_take hr))⟩
  have := o.n
  rw [List.length_take, List.length_drop]
  omega
theorem cat_rows {n m : Nat} {H : Hp} {x y : Addr} {Q : VK} (hx : LRn n H x) (hy : LRn m H y) (l : n + m ≤ 1000) (q : ∀ p H', H p = none → Same H H' → LRn (n + m) H' p → Q (.ref p) H') : rCat (.ref x) (.ref y) H Q := by
  obtain ⟨r1, e1, o1⟩ := hx
  obtain ⟨r2, e2, o2⟩ := hy
  have l1 := o1.n
  have l2 := o2.n
  refine ⟨x, y, _, _, rfl, rfl, e1, e2, small_len (by rw [List.length_map, List.length_map]; omega), fun p hp => q p _ hp (same_new hp) ⟨r1 ++ r2, by rw [upd_same, List.map_append], ?_, fun r hr => ?_⟩⟩
  · rw [List.length_append]
    omega
  · rcases List.mem_append.mp hr with hr | hr
    · exact o1.r r hr
    · exact o2.r r hr
theorem row1_c {x : Str} (h : Gd x) (l : x.length ≤ 100) : Row1 x := ⟨h, l⟩
theorem LRn.upd {n : Nat} {H : Hp} {x l : Addr} {o : HO} (ne : x ≠ l) (h : LRn n H x) : LRn n (upd H l o) x := by
  obtain ⟨r, e, k⟩ := h
  exact ⟨r, by rw [upd_ne ne]; exact e, k⟩
/-- a list of such lists -/
structure LLAt (H : Hp) (LL : Addr) (xs : List V) : Prop where
  e : H LL = some (.lst xs)
  l : xs.length ≤ 30
  r : ∀ v ∈ xs, ∃ x, v = .ref x ∧ x ≠ LL ∧ LRn 80 H x
theorem LLAt.same {H H' : Hp} {LL : Addr} {xs : List V} (s : Same H H') (h : LLAt H LL xs) : LLAt H' LL xs := ⟨s _ _ h.e, h.l, fun v hv => by
  obtain ⟨x, e, n, r⟩ := h.r v hv
  exact ⟨x, e, n, r.same s⟩⟩
theorem LLAt.more {H : Hp} {LL : Addr} {xs zs : List V} (h : LLAt H LL xs) (lz : xs.length + zs.length ≤ 30) (hz : ∀ v ∈ zs, ∃ x, v = .ref x ∧ x ≠ LL ∧ LRn 80 H x) : LLAt (upd H LL (.lst (xs ++ zs))) LL (xs ++ zs) := by
  refine ⟨upd_same, by rw [List.length_append]; exact lz, fun v hv => ?_⟩
  rcases List.mem_append.mp hv with hv | hv
  · obtain ⟨x, e, n, r⟩ := h.r v hv
    exact ⟨x, e, n, r.upd n⟩
  · obtain ⟨x, e, n, r⟩ := hz v hv
    exact ⟨x, e, n, r.upd n⟩
def rJoinK (K : PySem.W.Frag) : V → List V → Hp → VK → Prop := fun x xs H Q => ∃ a p, ∃ ys : List Str, x = .str a ∧ xs = [.ref p] ∧ (SqL K H p (ys.map V.str) ∨ SqT K H p (ys.map V.str)) ∧
    (ys.map (·.length)).sum + ys.length * a.length ≤ 16777216 ∧ Q (.str (Txt.join a ys)) H
def spBounds (T : List (Addr × Str)) : Sp := fun vs H Q _ => ∃ (a : Addr) (z : Int), vs = [.ref a] ∧ PotAt H a z ∧ z ≤ 9000 ∧ Tabs T H ∧ ∀ H', PotAt H' a (z + 2) → KeepN a H H' → Tabs T H' → Q (.bl true) H'
end GD
namespace K01
open PySem PySem.Spec PyProof.Rows L2 GD LamX
abbrev sBounds : Stmt := top 68
section
variable {P : Program} {w : World} {K : PySem.W.Frag} {mg : Str → Option Value} {base : Heap}
abbrev NBo : List Str := ["_law_pot_here", "_law_name", "_law_head", "_law_far", "_law_lets_here", "_law_nots", "_law_ases", "_law_whole", "_law_lines_here", "_law_at", "_law_rows"]
theorem scBo : FnScope NBo ["_law_pot_here"] (defScope sBounds) := ⟨rfl, rfl, rfl, by decide +kernel, rfl, by decide +kernel, by decide +kernel⟩
theorem ok_bounds {f fN fT fJd : Addr} {fd fdN fdT fdJd : FuncData} {T : List (Addr × Str)} (F : Fun K "_law_are_bounds_right" "_law_are_bounds_right" sBounds f fd) (S : Forms1 mg) (nS : mg "str" = none) (nR : mg "range" = none)
    (gN : mg "_law_names" = some (.ref fN)) (bN : Binds K fdN ["_law_pot_here", "_law_many"] []) (kN : PySem.W.keepIn K (.ref fN) = true) (GN : FnOk P w K mg base CX0 3 fN fdN ["_law_pot_here", "_law_many"] spNames)
    (gT : mg "_law_take" = some (.ref fT)) (bT : Binds K fdT ["_law_pot_here", "_law_upto"] []) (kT : PySem.W.keepIn K (.ref fT) = true) (GT : FnOk P w K mg base CX0 1 fT fdT ["_law_pot_here", "_law_upto"] spTake)
    (gJ : mg "_law_is_judged" = some (.ref fJd)) (bJ : Binds K fdJd ["_law_text"] []) (kJ : PySem.W.keepIn K (.ref fJd) = true) (GJ : FnG P w K mg base 10 fJd fdJd ["_law_text"] (spJudged T)) :
    FnG P w K mg base 11 f fd ["_law_pot_here"] (spBounds T) := by
  refine fnG_of F scBo (fun vs H Q E h => ?_) (fun cdv A outer s H vs Q hgu hr h => ?_)
  · obtain ⟨a, z, rfl, _⟩ := h
    rfl
  · obtain ⟨a, z, rfl, hp, hz, hT, q⟩ := h
    have hr1 : Room 1 _ := hr.mono (by decide)
    have hr3 : Room 3 _ := hr.mono (by decide)
    refine ⟨_, pss_cons (ps_set (i := 1) scBo.nd rfl (.inl rfl) (pe_ix ix_list (pe_call GN hr3 (by rfl) gN kN bN .nil pass0 (pa_cons (pv 0) (pa_cons pe_int pa_nil))) pe_int (fun _ _ => rfl)))
      (pss_cons (ps_asg (pe_tup (pa_cons (pe_op op_add_str pe_str (pv 1)) (pa_cons (pe_call GT hr1 (by rfl) gT kT bT .nil pass0 (pa_cons (pv 0) (pa_cons pe_int pa_nil))) pa_nil))) (pg_tup rfl (pgs_cons (pg_name (i := 2) scBo.nd rfl (.inl rfl)) (pgs_cons (pg_name (i := 3) scBo.nd rfl (.inr rfl)) pgs_nil))))
      (pss_cons (ps_setLc (i := 4) (own := [("_law_at", 9)]) (g := gName 9) (tt := tYes) rfl scBo.nd rfl rfl (sw_true rfl rfl rfl (by decide +kernel)) (pi_range1 (by rfl) nR (pa_cons pe_int pa_nil)) (blkOk_by (N := NBo) (sc := defScope sBounds) (by decide +kernel))
          (fun _ _ _ _ _ => pg_name (i := 9) scBo.nd rfl (.inl rfl)) (fun _ _ _ _ _ => pts_nil) (fun _ _ _ _ _ => pe_op op_add_str (pe_op op_add_str (pe_op op_add_str pe_str (pe_callTy call_str_int (by rfl) nS (by decide +kernel) (pa_cons (pe_op op_add (pv 3) (pv 9)) pa_nil))) pe_str) (pe_callTy call_str_int (by rfl) nS (by decide +kernel) (pa_cons (pv 9) pa_nil))))
      (pss_cons (ps_setLc (i := 5) (own := [("_law_at", 9)]) (g := gName 9) (tt := tYes) rfl scBo.nd rfl rfl (sw_true rfl rfl rfl (by decide +kernel)) (pi_range1 (by rfl) nR (pa_cons pe_int pa_nil)) (blkOk_by (N := NBo) (sc := defScope sBounds) (by decide +kernel))
          (fun _ _ _ _ _ => pg_name (i := 9) scBo.nd rfl (.inl rfl)) (fun _ _ _ _ _ => pts_nil) (fun _ _ _ _ _ => pe_op op_add_str (pe_op op_add_str (pe_op op_add_str pe_str (pe_callTy call_str_int (by rfl) nS (by decide +kernel) (pa_cons (pe_op op_sub pe_int (pv 9)) pa_nil))) pe_str) (pe_callTy call_str_int (by rfl) nS (by decide +kernel) (pa_cons (pv 3) pa_nil))))
      (pss_cons (ps_setLc (i := 6) (own := [("_law_at", 9)]) (g := gName 9) (tt := tYes) rfl scBo.nd rfl rfl (sw_true rfl rfl rfl (by decide +kernel)) (pi_range1 (by rfl) nR (pa_cons pe_int pa_nil)) (blkOk_by (N := NBo) (sc := defScope sBounds) (by decide +kernel))
          (fun _ _ _ _ _ => pg_name (i := 9) scBo.nd rfl (.inl rfl)) (fun _ _ _ _ _ => pts_nil) (fun _ _ _ _ _ => pe_op op_add_str (pe_op op_add_str (pe_op op_add_str (pe_op op_add_str pe_str (pe_callTy call_str_int (by rfl) nS (by decide +kernel) (pa_cons (pe_op op_add (pv 9) pe_int) pa_nil))) pe_str) (pe_callTy call_str_int (by rfl) nS (by decide +kernel) (pa_cons (pv 9) pa_nil))) pe_str))
      (pss_cons (ps_set (i := 7) scBo.nd rfl (.inl rfl) (pe_op op_cat (pe_op op_cat (pe_op op_cat (pe_lst (pa_cons (pv 2) pa_nil)) (pe_slice sl_list (pv 5) po_none (po_some pe_int))) (pe_slice sl_list (pv 4) po_none (po_some pe_int))) (pe_slice sl_list (pv 6) po_none (po_some pe_int))))
      (pss_cons (ps_set (i := 8) scBo.nd rfl (.inl rfl) (pe_lst (pa_cons (pv 7) (pa_cons (pe_op op_cat (pv 7) (pe_slice sl_list (pv 4) (po_some pe_int) po_none)) (pa_cons (pe_op op_cat (pv 7) (pe_slice sl_list (pv 5) (po_some pe_int) po_none)) (pa_cons (pe_op op_cat (pv 7) (pe_slice sl_list (pv 6) (po_some pe_int) po_none))
          (pa_cons (pe_lst (pa_cons (pv 2) (pa_cons pe_str pa_nil))) (pa_cons (pe_lst (pa_cons (pv 2) (pa_cons pe_str pa_nil))) pa_nil))))))))
      (pss_cons (ps_expr (pe_bm PySem.F.plainAttrs_list PySem.F.slot_list_extend PySem.F.type_list_extend mt_extend (pv 8) (pa_cons (pe_lst (pa_cons (pe_lst (pa_cons (pv 2) (pa_cons pe_str pa_nil))) (pa_cons (pe_lst (pa_cons pe_str (pa_cons (pe_op op_add_str pe_str (pe_op op_mulS pe_str pe_int)) pa_nil))) (pa_cons (pe_lst (pa_cons pe_str pa_nil)) pa_nil)))) pa_nil)))
      (pss_cons (ps_expr (pe_bm PySem.F.plainAttrs_list PySem.F.slot_list_extend PySem.F.type_list_extend mt_extend (pv 8) (pa_cons (pe_lst (pa_cons (pe_lst (pa_cons pe_str pa_nil)) (pa_cons (pe_lst (pa_cons pe_str pa_nil)) (pa_cons (pe_lst (pa_cons (pv 2) (pa_cons pe_str (pa_cons pe_str pa_nil)))) pa_nil)))) pa_nil)))
      (pss_cons (ps_expr (pe_bm PySem.F.plainAttrs_list PySem.F.slot_list_append PySem.F.type_list_append mt_append (pv 8) (pa_cons (pe_lst (pa_cons (pv 2) (pa_cons pe_str (pa_cons (pe_op op_add_str pe_str (pv 1)) pa_nil)))) pa_nil)))
      (pss_one (ps_ret (pe_callB (cr_all rfl) (by rfl) S.all (by decide +kernel) (pa_cons (pe_lc (own := [("_law_rows", 10)]) (g := gName 10) (tt := tYes) rfl scBo.nd (pi_list (pv 8)) (blkOk_by (N := NBo) (sc := defScope sBounds) (by decide +kernel))
          (fun _ _ _ _ _ => pg_name (i := 10) scBo.nd rfl (.inl rfl)) (fun _ _ _ _ _ => pts_nil) (fun _ _ _ _ _ => pe_callG GJ hgu hr (by rfl) gJ kJ bJ (pa_cons (te := tBM K "str" (rJoinK K) (tC (.str "\n")) (tCons (tVar 10) tNil)) (pe_bm PySem.F.plainAttrs_str PySem.F.slot_str_join PySem.F.type_str_join mt_join pe_str (pa_cons (pv 10) pa_nil)) pa_nil))) pa_nil))))))))))))), ?_⟩
    refine ⟨_, rfl, a, 1, z, rfl, hp, by omega, by decide, fun pn ns H1 npn p1 k1 en lns nd hin => ?_⟩
    obtain ⟨nm, rfl⟩ : ∃ nm, ns = [nm] := by
      match ns, lns with
      | [x], _ => exact ⟨x, rfl⟩
    have hnm := hin nm List.mem_cons_self
    have hns := pool_short nm hnm
    have hn10 : Gd nm := gd_of (List.all_eq_true.mp (show (pool21.all fun x => (TL.tl x).all fun c => decide (c ≠ 10) && decide (c < 128)) = true by decide +kernel) nm hnm)
    have hnl := hns.2
    refine ⟨pn, _, 0, _, rfl, rfl, SqL.of en, at0, ?_⟩
    generalize ehe : ("jobs " : Str) ++ nm = hd
    have rhd : Row1 hd := by
      rw [← ehe]
      exact ⟨gd_app (by first | exact gd_of (by decide +kernel) | (unfold Free; decide +kernel)) hn10, by rw [len_app]; show 5 + nm.length ≤ 100; omega⟩
    have T1 := tabs_keep hp k1 hT
    refine ⟨_, rfl, _, _, rfl, rfl, small_len (by show 5 + nm.length ≤ _; omega), _, rfl, a, 15, z + (1 : Nat), rfl, p1, by omega, by decide, by decide, fun far H2 f0 f15 p2 k2 => ?_⟩
    rw [ehe]
    have T2 := tabs_keep p1 k2 T1
    have K2 : Keep a H H2 := k1.trans k2
    refine ⟨(by show 2 ≤ sizeLine; decide), fun tt ntt => ?_⟩
    have s3 := same_new (o := .tup [.str hd, .int far]) ntt
    refine ⟨tt, _, rfl, SqT.of upd_same, rfl, _, _, rfl, _, _, rfl, rfl, ?_⟩
    generalize upd H2 tt (.tup [.str hd, .int far]) = H3 at s3 ⊢
    -- the lists of lines
    have d1 : ∀ {i : Nat}, i ≤ 30 → (nT (0 + (i : Nat))).length ≤ 4 ∧ Gd (nT (0 + (i : Nat))) := fun h => ⟨len_nT (by omega) (by omega), gd_nT (by omega)⟩
    have dF : (nT far).length ≤ 4 ∧ Gd (nT far) := ⟨len_nT (by omega) (by omega), gd_nT (by omega)⟩
    refine ⟨25, rfl, by decide, by decide, fun D1 hD1 => ?_⟩
    refine lc_range (lo := 0) (n := 25) (fun i H' => Same H3 H' ∧ H' D1 = some (.lst (((List.range i).map fun i => (("let " : Str) ++ nT (far + (0 + (i : Nat))) ++ " ") ++ nT (0 + (i : Nat))).map V.str))) ⟨same_new hD1, upd_same⟩ ?_ ?_
    · rintro i H' hi ⟨s4, eD⟩
      have a1 := d1 (i := i) (by omega)
      have a2 : (nT (far + (0 + (i : Nat)))).length ≤ 4 := len_nT (by omega) (by omega)
      refine ⟨rfl, _, rfl, _, rfl, _, _, rfl, rfl, _, rfl, log_small (by omega) (by omega), _, _, rfl, rfl, small_len (by show 4 + (nT _).length ≤ _; omega), _, _, rfl, rfl, small_len (by rw [len_app]; show 4 + (nT _).length + 1 ≤ _; omega), _, rfl, _, rfl, log_small (by omega) (by omega), _, _, rfl, rfl, small_len (by rw [len_app, len_app]; show 4 + (nT _).length + 1 + (nT _).length ≤ _; omega), ?_⟩
      refine ⟨_, eD, ?_, same_upd s4 hD1, ?_⟩
      · rw [List.length_map, List.length_map, List.length_range]
        exact Nat.lt_of_lt_of_le (show i < 1001 by omega) (by decide)
      · rw [upd_same, List.range_succ, List.map_append, List.map_append]
        rfl
    rintro H4 ⟨s4, eD1⟩
    have r1 : LRn 25 H4 D1 := by
      refine lrn_new rfl (by rw [List.length_map, List.length_range]; exact Nat.le_refl _) (fun r hr => ?_) eD1
      obtain ⟨i, hi, rfl⟩ := List.mem_map.mp hr
      have hi := List.mem_range.mp hi
      have a1 := d1 (i := i) (by omega)
      have a2 : (nT (far + (0 + (i : Nat)))).length ≤ 4 := len_nT (by omega) (by omega)
      have a3 : Gd (nT (far + (0 + (i : Nat)))) := gd_nT (by omega)
      exact ⟨gd_app (gd_app (gd_app (by first | exact gd_of (by decide +kernel) | (unfold Free; decide +kernel)) a3) (by first | exact gd_of (by decide +kernel) | (unfold Free; decide +kernel))) a1.2, by rw [len_app, len_app, len_app]; show 4 + (nT _).length + 1 + (nT _).length ≤ _; omega⟩
    clear eD1
    refine ⟨7, rfl, by decide, by decide, fun D2 hD2 => ?_⟩
    refine lc_range (lo := 0) (n := 7) (fun i H' => Same H4 H' ∧ H' D2 = some (.lst (((List.range i).map fun i => (("not " : Str) ++ nT (40 - (0 + (i : Nat))) ++ " ") ++ nT far).map V.str))) ⟨same_new hD2, upd_same⟩ ?_ ?_
    · rintro i H' hi ⟨s5, eD⟩
      have a2 : (nT (40 - (0 + (i : Nat)))).length ≤ 4 := len_nT (by omega) (by omega)
      refine ⟨rfl, _, rfl, _, _, rfl, rfl, _, rfl, log_small (by omega) (by omega), _, _, rfl, rfl, small_len (by show 4 + (nT _).length ≤ _; omega), _, _, rfl, rfl, small_len (by rw [len_app]; show 4 + (nT _).length + 1 ≤ _; omega), _, rfl, _, rfl, log_small (by omega) (by omega), _, _, rfl, rfl, small_len (by rw [len_app, len_app]; show 4 + (nT _).length + 1 + (nT _).length ≤ _; omega), ?_⟩
      refine ⟨_, eD, ?_, same_upd s5 hD2, ?_⟩
      · rw [List.length_map, List.length_map, List.length_range]
        exact Nat.lt_of_lt_of_le (show i < 1001 by omega) (by decide)
      · rw [upd_same, List.range_succ, List.map_append, List.map_append]
        rfl
    rintro H5 ⟨s5, eD2⟩
    have r2 : LRn 7 H5 D2 := by
      refine lrn_new rfl (by rw [List.length_map, List.length_range]; exact Nat.le_refl _) (fun r hr => ?_) eD2
      obtain ⟨i, hi, rfl⟩ := List.mem_map.mp hr
      have hi := List.mem_range.mp hi
      have a2 : (nT (40 - (0 + (i : Nat)))).length ≤ 4 := len_nT (by omega) (by omega)
      have a3 : Gd (nT (40 - (0 + (i : Nat)))) := gd_nT (by omega)
      exact ⟨gd_app (gd_app (gd_app (by first | exact gd_of (by decide +kernel) | (unfold Free; decide +kernel)) a3) (by first | exact gd_of (by decide +kernel) | (unfold Free; decide +kernel))) dF.2, by rw [len_app, len_app, len_app]; show 4 + (nT _).length + 1 + (nT _).length ≤ _; omega⟩
    clear eD2
    have r1 := r1.same s5
    refine ⟨5, rfl, by decide, by decide, fun D3 hD3 => ?_⟩
    refine lc_range (lo := 0) (n := 5) (fun i H' => Same H5 H' ∧ H' D3 = some (.lst (((List.range i).map fun i => ((("as " : Str) ++ nT ((0 + (i : Nat)) + 1) ++ " 0 to ") ++ nT (0 + (i : Nat))) ++ " 0").map V.str))) ⟨same_new hD3, upd_same⟩ ?_ ?_
    · rintro i H' hi ⟨s6, eD⟩
      have a1 := d1 (i := i) (by omega)
      have a2 : (nT ((0 + (i : Nat)) + 1)).length ≤ 4 := len_nT (by omega) (by omega)
      refine ⟨rfl, _, rfl, _, _, rfl, rfl, _, rfl, log_small (by omega) (by omega), _, _, rfl, rfl, small_len (by show 3 + (nT _).length ≤ _; omega), _, _, rfl, rfl, small_len (by rw [len_app]; show 3 + (nT _).length + 6 ≤ _; omega), _, rfl, _, rfl, log_small (by omega) (by omega), _, _, rfl, rfl, small_len (by rw [len_app, len_app]; show 3 + (nT _).length + 6 + (nT _).length ≤ _; omega), _, _, rfl, rfl, small_len (by rw [len_app, len_app, len_app]; show 3 + (nT _).length + 6 + (nT _).length + 2 ≤ _; omega), ?_⟩
      refine ⟨_, eD, ?_, same_upd s6 hD3, ?_⟩
      · rw [List.length_map, List.length_map, List.length_range]
        exact Nat.lt_of_lt_of_le (show i < 1001 by omega) (by decide)
      · rw [upd_same, List.range_succ, List.map_append, List.map_append]
        rfl
    rintro H6 ⟨s6, eD3⟩
    have r3 : LRn 5 H6 D3 := by
      refine lrn_new rfl (by rw [List.length_map, List.length_range]; exact Nat.le_refl _) (fun r hr => ?_) eD3
      obtain ⟨i, hi, rfl⟩ := List.mem_map.mp hr
      have hi := List.mem_range.mp hi
      have a1 := d1 (i := i) (by omega)
      have a2 : (nT ((0 + (i : Nat)) + 1)).length ≤ 4 := len_nT (by omega) (by omega)
      have a3 : Gd (nT ((0 + (i : Nat)) + 1)) := gd_nT (by omega)
      exact ⟨gd_app (gd_app (gd_app (gd_app (by first | exact gd_of (by decide +kernel) | (unfold Free; decide +kernel)) a3) (by first | exact gd_of (by decide +kernel) | (unfold Free; decide +kernel))) a1.2) (by first | exact gd_of (by decide +kernel) | (unfold Free; decide +kernel)), by rw [len_app, len_app, len_app, len_app]; show 3 + (nT _).length + 6 + (nT _).length + 2 ≤ _; omega⟩
    clear eD3
    have r1 := r1.same s6
    have r2 := r2.same s6
    have s36 := (s4.trans s5).trans s6
    -- the whole
    refine ⟨_, rfl, (by show 1 ≤ sizeLine; decide), fun h1 nh1 => ?_⟩
    have s7 := same_new (o := .lst [V.str hd]) nh1
    have rh : LRn 1 (upd H6 h1 (.lst [V.str hd])) h1 := lrn_new (rows := [hd]) rfl (Nat.le_refl 1) (fun r hr => by rw [List.mem_singleton.mp hr]; exact rhd) upd_same
    generalize upd H6 h1 (.lst [V.str hd]) = H7 at s7 rh ⊢
    refine ⟨_, rfl, _, rfl, cut_rows (r2.same s7) fun q1 H8 _ s8 x1 => ?_⟩
    refine cat_rows (rh.same s8) x1 (by decide) fun q2 H9 _ s9 x2 => ?_
    have s79 := (s7.trans s8).trans s9
    refine ⟨_, rfl, _, rfl, cut_rows (r1.same s79) fun q3 H10 _ s10 x3 => ?_⟩
    refine cat_rows (x2.same s10) x3 (by decide) fun q4 H11 _ s11 x4 => ?_
    have s711 := (s79.trans s10).trans s11
    refine ⟨_, rfl, _, rfl, cut_rows (r3.same s711) fun q5 H12 _ s12 x5 => ?_⟩
    refine cat_rows (x4.same s12) x5 (by decide) fun wh H13 _ s13 xw => ?_
    have s713 := (s711.trans s12).trans s13
    have r1 := r1.same s713
    have r2 := r2.same s713
    have r3 := r3.same s713
    have rw3 : ∀ {x : Str}, Gd x → x.length ≤ 100 → Row1 x := fun a b => ⟨a, b⟩
    refine ⟨_, rfl, _, rfl, _, rfl, _, rfl, ?_⟩
    dsimp only [tNoPart]
    refine cut_rows r1 fun q6 H14 _ s14 x6 => ?_
    refine cat_rows (xw.same s14) x6 (by decide) fun b1 H15 _ s15 xb1 => ?_
    have s1315 := s14.trans s15
    refine ⟨_, rfl, _, rfl, _, rfl, ?_⟩
    dsimp only [tNoPart]
    refine cut_rows (r2.same s1315) fun q7 H16 _ s16 x7 => ?_
    refine cat_rows ((xw.same s1315).same s16) x7 (by decide) fun b2 H17 _ s17 xb2 => ?_
    have s1317 := (s1315.trans s16).trans s17
    refine ⟨_, rfl, _, rfl, _, rfl, ?_⟩
    dsimp only [tNoPart]
    refine cut_rows (r3.same s1317) fun q8 H18 _ s18 x8 => ?_
    refine cat_rows ((xw.same s1317).same s18) x8 (by decide) fun b3 H19 _ s19 xb3 => ?_
    have s1319 := (s1317.trans s18).trans s19
    refine ⟨_, rfl, (by show 2 ≤ sizeLine; decide), fun b4 nb4 => ?_⟩
    have s20 := same_new (o := .lst [V.str hd, V.str "let 40 40"]) nb4
    have xb4 : LRn 80 (upd H19 b4 (.lst [V.str hd, V.str "let 40 40"])) b4 := lrn_new (rows := [hd, "let 40 40"]) rfl (by show 2 ≤ 80; decide) (fun r hr => by
      simp only [List.mem_cons, List.not_mem_nil, or_false] at hr
      rcases hr with rfl | rfl
      · exact rhd
      · exact rw3 (by first | exact gd_of (by decide +kernel) | (unfold Free; decide +kernel)) (by decide +kernel)) upd_same
    generalize upd H19 b4 (.lst [V.str hd, V.str "let 40 40"]) = H20 at s20 xb4 ⊢
    refine ⟨_, rfl, (by show 2 ≤ sizeLine; decide), fun b5 nb5 => ?_⟩
    have s21 := same_new (o := .lst [V.str hd, V.str "let 41 0"]) nb5
    have xb5 : LRn 80 (upd H20 b5 (.lst [V.str hd, V.str "let 41 0"])) b5 := lrn_new (rows := [hd, "let 41 0"]) rfl (by show 2 ≤ 80; decide) (fun r hr => by
      simp only [List.mem_cons, List.not_mem_nil, or_false] at hr
      rcases hr with rfl | rfl
      · exact rhd
      · exact rw3 (by first | exact gd_of (by decide +kernel) | (unfold Free; decide +kernel)) (by decide +kernel)) upd_same
    generalize upd H20 b5 (.lst [V.str hd, V.str "let 41 0"]) = H21 at s21 xb5 ⊢
    have s2021 := s20.trans s21
    refine ⟨(by show 6 ≤ sizeLine; decide), fun LL nLL => ?_⟩
    have s22 := same_new (o := .lst [.ref wh, .ref b1, .ref b2, .ref b3, .ref b4, .ref b5]) nLL
    have neL : ∀ {n : Nat} {x : Addr}, LRn n H21 x → x ≠ LL := fun ⟨r, e, _⟩ => ne_of_none e nLL
    have L0 : LLAt (upd H21 LL (.lst [.ref wh, .ref b1, .ref b2, .ref b3, .ref b4, .ref b5])) LL [.ref wh, .ref b1, .ref b2, .ref b3, .ref b4, .ref b5] := by
      refine ⟨upd_same, by show 6 ≤ 30; decide, fun v hv => ?_⟩
      have u1 := xw.same (s1319.trans s2021)
      have u2 := xb1.same (((((s16.trans s17).trans s18).trans s19).trans s2021))
      have u3 := xb2.same ((s18.trans s19).trans s2021)
      have u4 := xb3.same s2021
      simp only [List.mem_cons, List.not_mem_nil, or_false] at hv
      rcases hv with rfl | rfl | rfl | rfl | rfl | rfl
      · exact ⟨_, rfl, neL u1, (u1.le (by decide)).same s22⟩
      · exact ⟨_, rfl, neL u2, (u2.le (by decide)).same s22⟩
      · exact ⟨_, rfl, neL u3, (u3.le (by decide)).same s22⟩
      · exact ⟨_, rfl, neL u4, (u4.le (by decide)).same s22⟩
      · exact ⟨_, rfl, neL (xb4.same s21), ((xb4.same s21).le (by decide)).same s22⟩
      · exact ⟨_, rfl, neL xb5, (xb5.le (by decide)).same s22⟩
    have s322 : Same H3 (upd H21 LL (.lst [.ref wh, .ref b1, .ref b2, .ref b3, .ref b4, .ref b5])) := (((s36.trans s713).trans s1319).trans s2021).trans s22
    have nL3 : H3 LL = none := (((s36.trans s713).trans s1319).trans s2021).free nLL
    clear xw xb1 xb2 xb3 xb4 xb5 x1 x2 x3 x4 x5 x6 x7 x8 neL r1 r2 r3
    generalize upd H21 LL (.lst [.ref wh, .ref b1, .ref b2, .ref b3, .ref b4, .ref b5]) = H22 at L0 s322 ⊢
    generalize exs : ([.ref wh, .ref b1, .ref b2, .ref b3, .ref b4, .ref b5] : List V) = xs0 at L0
    have lx0 : xs0.length = 6 := by rw [← exs]; rfl
    clear exs
    -- more of them
    have two : ∀ {H' : Hp} {b : Addr} {x y : Str}, Row1 x → Row1 y → LRn 80 (upd H' b (.lst [V.str x, V.str y])) b := fun {H' b x y} hx hy => lrn_new (rows := [x, y]) rfl (by show 2 ≤ 80; decide) (fun r hr => by
      simp only [List.mem_cons, List.not_mem_nil, or_false] at hr
      rcases hr with rfl | rfl
      · exact hx
      · exact hy) upd_same
    have one1 : ∀ {H' : Hp} {b : Addr} {x : Str}, Row1 x → LRn 80 (upd H' b (.lst [V.str x])) b := fun {H' b x} hx => lrn_new (rows := [x]) rfl (by show 1 ≤ 80; decide) (fun r hr => by rw [List.mem_singleton.mp hr]; exact hx) upd_same
    have three : ∀ {H' : Hp} {b : Addr} {x y w : Str}, Row1 x → Row1 y → Row1 w → LRn 80 (upd H' b (.lst [V.str x, V.str y, V.str w])) b := fun {H' b x y w} hx hy hw => lrn_new (rows := [x, y, w]) rfl (by show 3 ≤ 80; decide) (fun r hr => by
      simp only [List.mem_cons, List.not_mem_nil, or_false] at hr
      rcases hr with rfl | rfl | rfl
      · exact hx
      · exact hy
      · exact hw) upd_same
    refine ⟨_, rfl, .inl ⟨rfl, _, SqL.of L0.e⟩, _, rfl, (by show 2 ≤ sizeLine; decide), fun c1 nc1 => ?_⟩
    have s23 := same_new (o := .lst [V.str hd, V.str "let 40 41"]) nc1
    have y1 := two (H' := H22) (b := c1) rhd (rw3 (x := "let 40 41") (by first | exact gd_of (by decide +kernel) | (unfold Free; decide +kernel)) (by decide +kernel))
    have nc1L : c1 ≠ LL := (ne_of_none L0.e nc1).symm
    generalize upd H22 c1 (.lst [V.str hd, V.str "let 40 41"]) = H23 at s23 y1 ⊢
    refine ⟨_, 4, rfl, rfl, by decide, by decide, by decide +kernel, by decide +kernel, by decide +kernel, _, _, rfl, rfl, by decide +kernel, (by show 2 ≤ sizeLine; decide), fun c2 nc2 => ?_⟩
    have s24 := same_new (o := .lst [V.str "jobs a b c d", V.str (("let" : Str) ++ repS " 40 0" 4)]) nc2
    have y2 := two (H' := H23) (b := c2) (rw3 (x := "jobs a b c d") (by first | exact gd_of (by decide +kernel) | (unfold Free; decide +kernel)) (by decide +kernel)) (rw3 (x := ("let" : Str) ++ repS " 40 0" 4) (by first | exact gd_of (by decide +kernel) | (unfold Free; decide +kernel)) (by decide +kernel))
    have nc2L : c2 ≠ LL := (ne_of_none (s23 _ _ L0.e) nc2).symm
    generalize upd H23 c2 (.lst [V.str "jobs a b c d", V.str (("let" : Str) ++ repS " 40 0" 4)]) = H24 at s24 y2 ⊢
    refine ⟨(by show 1 ≤ sizeLine; decide), fun c3 nc3 => ?_⟩
    have s25 := same_new (o := .lst [V.str "jobs a b c d e"]) nc3
    have y3 := one1 (H' := H24) (b := c3) (rw3 (x := "jobs a b c d e") (by first | exact gd_of (by decide +kernel) | (unfold Free; decide +kernel)) (by decide +kernel))
    have nc3L : c3 ≠ LL := (ne_of_none ((s23.trans s24) _ _ L0.e) nc3).symm
    generalize upd H24 c3 (.lst [V.str "jobs a b c d e"]) = H25 at s25 y3 ⊢
    refine ⟨(by show 3 ≤ sizeLine; decide), fun c4 nc4 => ?_⟩
    have s26 := same_new (o := .lst [.ref c1, .ref c2, .ref c3]) nc4
    have g4 : (upd H25 c4 (.lst [.ref c1, .ref c2, .ref c3])) c4 = some (.lst [.ref c1, .ref c2, .ref c3]) := upd_same
    generalize upd H25 c4 (.lst [.ref c1, .ref c2, .ref c3]) = H26 at s26 g4 ⊢
    have s2226 := ((s23.trans s24).trans s25).trans s26
    have L1 := L0.same s2226
    refine ⟨LL, c4, _, _, rfl, rfl, L1.e, g4, small_len (by rw [lx0]; show 6 + 3 ≤ _; decide), ?_⟩
    have L2 := L1.more (zs := [.ref c1, .ref c2, .ref c3]) (by rw [lx0]; show 6 + 3 ≤ _; decide) (fun v hv => by
      simp only [List.mem_cons, List.not_mem_nil, or_false] at hv
      rcases hv with rfl | rfl | rfl
      · exact ⟨_, rfl, nc1L, y1.same ((s24.trans s25).trans s26)⟩
      · exact ⟨_, rfl, nc2L, y2.same (s25.trans s26)⟩
      · exact ⟨_, rfl, nc3L, y3.same s26⟩)
    have s327 := same_upd (o := .lst (xs0 ++ [.ref c1, .ref c2, .ref c3])) (s322.trans s2226) nL3
    have lx1 : (xs0 ++ [V.ref c1, .ref c2, .ref c3]).length = 9 := by rw [List.length_append, lx0]; rfl
    generalize xs0 ++ [V.ref c1, .ref c2, .ref c3] = xs1 at L2 s327 lx1 ⊢
    clear y1 y2 y3 L0 L1 s2226 s26 s25 s24 s23 nc1 nc2 nc3 nc4 g4
    generalize upd H26 LL (.lst xs1) = H27 at L2 s327 ⊢
    refine ⟨_, rfl, .inl ⟨rfl, _, SqL.of L2.e⟩, (by show 1 ≤ sizeLine; decide), fun c1 nc1 => ?_⟩
    have s23 := same_new (o := .lst [V.str "jobs abcdefgh"]) nc1
    have y1 := one1 (H' := H27) (b := c1) (rw3 (x := "jobs abcdefgh") (by first | exact gd_of (by decide +kernel) | (unfold Free; decide +kernel)) (by decide +kernel))
    have nc1L : c1 ≠ LL := (ne_of_none L2.e nc1).symm
    generalize upd H27 c1 (.lst [V.str "jobs abcdefgh"]) = H28 at s23 y1 ⊢
    refine ⟨(by show 1 ≤ sizeLine; decide), fun c2 nc2 => ?_⟩
    have s24 := same_new (o := .lst [V.str "jobs abcdefghi"]) nc2
    have y2 := one1 (H' := H28) (b := c2) (rw3 (x := "jobs abcdefghi") (by first | exact gd_of (by decide +kernel) | (unfold Free; decide +kernel)) (by decide +kernel))
    have nc2L : c2 ≠ LL := (ne_of_none (s23 _ _ L2.e) nc2).symm
    generalize upd H28 c2 (.lst [V.str "jobs abcdefghi"]) = H29 at s24 y2 ⊢
    refine ⟨_, rfl, (by show 3 ≤ sizeLine; decide), fun c3 nc3 => ?_⟩
    have s25 := same_new (o := .lst [V.str hd, V.str "as 1 0 to 0 0", V.str "as 0 0 to 1 0"]) nc3
    have y3 := three (H' := H29) (b := c3) rhd (rw3 (x := "as 1 0 to 0 0") (by first | exact gd_of (by decide +kernel) | (unfold Free; decide +kernel)) (by decide +kernel)) (rw3 (x := "as 0 0 to 1 0") (by first | exact gd_of (by decide +kernel) | (unfold Free; decide +kernel)) (by decide +kernel))
    have nc3L : c3 ≠ LL := (ne_of_none ((s23.trans s24) _ _ L2.e) nc3).symm
    generalize upd H29 c3 (.lst [V.str hd, V.str "as 1 0 to 0 0", V.str "as 0 0 to 1 0"]) = H30 at s25 y3 ⊢
    refine ⟨(by show 3 ≤ sizeLine; decide), fun c4 nc4 => ?_⟩
    have s26 := same_new (o := .lst [.ref c1, .ref c2, .ref c3]) nc4
    have g4 : (upd H30 c4 (.lst [.ref c1, .ref c2, .ref c3])) c4 = some (.lst [.ref c1, .ref c2, .ref c3]) := upd_same
    generalize upd H30 c4 (.lst [.ref c1, .ref c2, .ref c3]) = H31 at s26 g4 ⊢
    have s2731 := ((s23.trans s24).trans s25).trans s26
    have L3 := L2.same s2731
    refine ⟨LL, c4, _, _, rfl, rfl, L3.e, g4, small_len (by rw [lx1]; show 9 + 3 ≤ _; decide), ?_⟩
    have L4 := L3.more (zs := [.ref c1, .ref c2, .ref c3]) (by rw [lx1]; show 9 + 3 ≤ _; decide) (fun v hv => by
      simp only [List.mem_cons, List.not_mem_nil, or_false] at hv
      rcases hv with rfl | rfl | rfl
      · exact ⟨_, rfl, nc1L, y1.same ((s24.trans s25).trans s26)⟩
      · exact ⟨_, rfl, nc2L, y2.same (s25.trans s26)⟩
      · exact ⟨_, rfl, nc3L, y3.same s26⟩)
    have s332 := same_upd (o := .lst (xs1 ++ [.ref c1, .ref c2, .ref c3])) (s327.trans s2731) nL3
    have lx2 : (xs1 ++ [V.ref c1, .ref c2, .ref c3]).length = 12 := by rw [List.length_append, lx1]; rfl
    generalize xs1 ++ [V.ref c1, .ref c2, .ref c3] = xs2 at L4 s332 lx2 ⊢
    clear y1 y2 y3 L2 L3 s2731 s26 s25 s24 s23 nc1 nc2 nc3 nc4 g4 nc1L nc2L nc3L
    generalize upd H31 LL (.lst xs2) = H32 at L4 s332 ⊢
    refine ⟨_, rfl, .inl ⟨rfl, _, SqL.of L4.e⟩, ?_⟩
    refine ⟨_, rfl, _, rfl, _, _, rfl, rfl, small_len (by show 6 + nm.length ≤ _; omega), (by show 3 ≤ sizeLine; decide), fun c1 nc1 => ?_⟩
    have s23 := same_new (o := .lst [V.str hd, V.str "let 1 0", V.str (("clean " : Str) ++ nm)]) nc1
    have y1 := three (H' := H32) (b := c1) rhd (rw3 (x := "let 1 0") (by first | exact gd_of (by decide +kernel) | (unfold Free; decide +kernel)) (by decide +kernel)) (rw3 (x := ("clean " : Str) ++ nm) (gd_app (by first | exact gd_of (by decide +kernel) | (unfold Free; decide +kernel)) hn10) (by rw [len_app]; show 6 + nm.length ≤ 100; omega))
    have nc1L : c1 ≠ LL := (ne_of_none L4.e nc1).symm
    generalize upd H32 c1 (.lst [V.str hd, V.str "let 1 0", V.str (("clean " : Str) ++ nm)]) = H33 at s23 y1 ⊢
    have L5 := L4.same s23
    refine ⟨LL, xs2, _, rfl, rfl, L5.e, by rw [lx2]; decide, ?_⟩
    have L6 := L5.more (zs := [.ref c1]) (by rw [lx2]; show 12 + 1 ≤ _; decide) (fun v hv => by
      rw [List.mem_singleton.mp hv]
      exact ⟨_, rfl, nc1L, y1⟩)
    have s334 := same_upd (o := .lst (xs2 ++ [.ref c1])) (s332.trans s23) nL3
    have lx3 : (xs2 ++ [V.ref c1]).length = 13 := by rw [List.length_append, lx2]; rfl
    generalize xs2 ++ [V.ref c1] = xs3 at L6 s334 lx3 ⊢
    clear y1 L4 L5 s23 nc1 nc1L
    generalize upd H33 LL (.lst xs3) = H34 at L6 s334 ⊢
    have s234 := s3.trans s334
    have p34 := p2.same s234
    have T34 := tabs_same s234 T2
    -- all judged
    refine ⟨_, rfl, LL, rfl, ⟨_, SqL.of L6.e⟩, fun D hD => ?_⟩
    refine lc_list (K := K) (a := LL) (xs := xs3) (fun i H' => ExtN H34 H' ∧ Tabs T H' ∧ H' D = some (.lst ((List.replicate i true).map V.bl))) ⟨ext_same (same_new hD), tabs_same (same_new hD) T34, upd_same⟩ (fun i H' _ ⟨x, _⟩ => SqL.of (x _ _ L6.e (fun ps z => by cases z))) ?_ ?_
    · rintro i v H' hv ⟨x, T', eD⟩
      have hi : i < xs3.length := (List.getElem?_eq_some_iff.mp hv).1
      obtain ⟨y, rfl, ny, rows, ey, hrows⟩ := L6.r v (List.mem_of_getElem? hv)
      have ey' := x _ _ ey (fun ps z => by cases z)
      have hn := hrows.n
      refine ⟨rfl, rfl, _, rfl, _, y, rows, rfl, rfl, .inl (SqL.of ey'), ?_, ?_⟩
      · have z := sum_len (ys := rows) (k := 100) fun y hy => (hrows.r y hy).l
        rw [show ("\n" : Str).length = 1 from rfl]
        have : 100 * rows.length ≤ 100 * 80 := Nat.mul_le_mul_left _ hn
        omega
      refine ⟨_, rfl, text_rows hrows (by decide) (by decide), T', fun H5 x5 T5 => ?_⟩
      have eD5 := x5 _ _ eD (fun ps z => by cases z)
      refine ⟨_, eD5, ?_, fun c o e nt => ?_, tabs_lst eD5 T5, ?_⟩
      · rw [List.length_map, List.length_replicate]
        exact Nat.lt_of_lt_of_le (show i < 100 by omega) (by decide)
      · have nc : c ≠ D := fun z => by
          rw [z, hD] at e
          cases e
        rw [upd_ne nc]
        exact x5 _ _ (x _ _ e nt) nt
      · rw [upd_same, List.replicate_succ', List.map_append]
        rfl
    · rintro H' ⟨x, T', eD⟩
      refine ⟨D, _, rfl, SqL.of eD, ?_⟩
      rw [show (List.replicate xs3.length true).all id = true from List.all_eq_true.mpr fun b hb => by rw [(List.mem_replicate.mp hb).2]; rfl]
      exact q H' ((pot_ext x p34).le (by omega)) (((keepN_of K2).trans (keepN_same s234)).trans (keepN_ext x)) T'
end
end K01
namespace GD
open PySem PySem.Spec PyProof.Rows L2 LamX
theorem gd_name {x : Str} (h : nameB x = true) : Gd x := fun c hc => by
  unfold nameB at h
  rw [Bool.and_eq_true] at h
  have z := List.all_eq_true.mp h.2 c hc
  unfold letB at z
  rw [Bool.and_eq_true, decide_eq_true_iff, decide_eq_true_iff] at z
  omega
theorem gd_wS {n : Int} {s : Stn} (h : Bd n s) : ∀ x ∈ wS s, Gd x := fun x hx => by
  obtain ⟨p, hp, hm⟩ := List.mem_flatMap.mp hx
  have z := h p hp
  rcases List.mem_cons.mp hm with e | e
  · rw [e]
    exact gd_nT (by omega)
  · rw [List.mem_singleton.mp e]
    exact gd_nT (by omega)
theorem gd_wF {k : Nat} {n : Int} {f : Fact} (h : FactB k n f) : ∀ x ∈ wF f, Gd x := fun x hx => by
  cases f with
  | let_ s =>
    rcases List.mem_cons.mp hx with rfl | hx
    · exact gd_of (by decide +kernel)
    · exact gd_wS h.2 x hx
  | not_ s =>
    rcases List.mem_cons.mp hx with rfl | hx
    · exact gd_of (by decide +kernel)
    · exact gd_wS h.2 x hx
  | as_ s t =>
    rcases List.mem_append.mp hx with hx | hx
    · rcases List.mem_cons.mp hx with rfl | hx
      · exact gd_of (by decide +kernel)
      · exact gd_wS h.2.1 x hx
    · rcases List.mem_cons.mp hx with rfl | hx
      · exact gd_of (by decide +kernel)
      · exact gd_wS h.2.2.2.1 x hx
theorem good_rows {js : List (Str × Str)} {fs : List Fact} (ok : JsOk js fs) : Rows 40 90 18 (lT js fs) ∧ (wsOf ((lT js fs).headD "")).length ≤ 5 ∧ lT js fs ≠ [] := by
  have g := ok.good
  have l1 := ok.nm.l1
  have l4 := ok.nm.l4
  have lf := ok.f.len
  rw [List.length_map] at l1 l4
  have lml : (mlOf js).length ≤ js.length := List.length_filter_le _ _
  have wj : wsOf (jT js) = ("jobs" : Str) :: js.map (·.1) := split_jN ok.nm
  have lj : (jT js).length ≤ 41 := (good_text g).ln.2.2.1
  have hw5 : (wsOf (jT js)).length ≤ 5 := by
    rw [wj, List.length_cons, List.length_map]
    omega
  refine ⟨⟨?_, fun r hr => ?_⟩, hw5, fun z => by cases z⟩
  · show ((jT js :: mT js) ++ fs.map fT).length ≤ 40
    rw [List.length_append, List.length_cons, List.length_map]
    have : (mT js).length = (mlOf js).length := List.length_map ..
    omega
  · rcases List.mem_append.mp (show r ∈ (jT js :: mT js) ++ fs.map fT from hr) with hr | hr
    · rcases List.mem_cons.mp hr with rfl | hr
      · exact ⟨gd_app (gd_of (by decide +kernel)) (gd_join gd_sp fun x hx => gd_name (ok.nm.nm x hx)), by omega, by omega⟩
      · obtain ⟨p, hp, rfl⟩ := List.mem_map.mp hr
        have hp2 := g.m2 p hp
        have hp1 := ok.nm.nm _ (g.m1 p hp)
        have a := (free_lined hp2).2
        have b := nameB_len hp1
        have gm : Gd p.2 := by
          unfold lined3 at hp2
          simp only [List.mem_cons, List.not_mem_nil, or_false] at hp2
          rcases hp2 with e | e | e <;> (rw [e]; exact gd_of (by decide +kernel))
        refine ⟨gd_app (gd_app gm gd_sp) (gd_name hp1), ?_, ?_⟩
        · rw [len_app, len_app, show (" " : Str).length = 1 from rfl]
          omega
        · show (wsOf (mLine p)).length ≤ 18
          rw [show wsOf (mLine p) = [p.2, p.1] from split_mLine (nameB_free hp1 (by decide)) (free_lined hp2).1]
          show 2 ≤ 18
          decide
    · obtain ⟨f, hf, rfl⟩ := List.mem_map.mp hr
      have hb := ok.f.b f hf
      have a := len_fT hb (by decide)
      have b := len_wF hb
      refine ⟨?_, by omega, ?_⟩
      · rw [fT_words hb l1]
        exact gd_join gd_sp (gd_wF hb)
      · rw [show wsOf (fT f) = wF f from split_fT hb l1]
        omega
theorem text_more {n L W : Nat} {rows : List Str} (h : Rows n L W rows) (hn : n ≤ 99) (hL : L ≤ 400) (h0 : rows ≠ []) : TextL (Txt.join "\n" rows ++ "\n") := by
  have e : Txt.join "\n" rows ++ "\n" = Txt.join "\n" (rows ++ [("" : Str)]) := by
    clear h
    induction rows with
    | nil => exact absurd rfl h0
    | cons a r ih =>
      cases r with
      | nil =>
        show Txt.join "\n" [a] ++ "\n" = Txt.join "\n" [a, ""]
        rw [join_one, join_cons (by simp), join_one]
        exact TL.ext_tl (by rw [TL.tl_append, TL.tl_append, TL.tl_append, show TL.tl ("" : Str) = [] from rfl, List.append_nil])
      | cons b r =>
        have ih := ih (by simp)
        show Txt.join "\n" (a :: b :: r) ++ "\n" = Txt.join "\n" (a :: (b :: r ++ [("" : Str)]))
        rw [join_cons (zs := b :: r) (by simp), join_cons (zs := b :: r ++ [("" : Str)]) (by simp), ← ih]
        exact TL.ext_tl (by simp only [TL.tl_append, List.append_assoc])
  rw [e]
  refine text_rows (n := n + 1) (L := L) (W := max W 2) ⟨?_, fun r hr => ?_⟩ (by omega) hL
  · rw [List.length_append]
    have := h.n
    show _ + 1 ≤ _
    omega
  · rcases List.mem_append.mp hr with hr | hr
    · exact (h.r r hr).le (Nat.le_refl _) (by omega)
    · rw [List.mem_singleton.mp hr]
      exact ⟨gd_of (by decide +kernel), Nat.zero_le _, by have := wsOf_le ""; show _ ≤ max W 2; have : (("" : Str)).length = 0 := rfl; omega⟩
theorem eqv_nilS (xs : List Str) : PyData.eqv (.list (xs.map PyData.str)) (.list []) = decide (xs = []) := by
  cases xs with
  | nil => simp [PyData.eqv, PyData.eqvAll]
  | cons f r => simp [PyData.eqv, PyData.eqvAll]
theorem sumOk {n L W : Nat} {rows : List Str} (h : Rows n L W rows) (hn : n ≤ 100) (hL : L ≤ 400) : (rows.map (·.length)).sum + rows.length * ("\n" : Str).length ≤ 16777216 := by
  have z := sum_len (ys := rows) (k := 400) fun y hy => Nat.le_trans (h.r y hy).l hL
  have := h.n
  rw [show ("\n" : Str).length = 1 from rfl]
  have m : 400 * rows.length ≤ 400 * 100 := Nat.mul_le_mul_left _ (by omega)
  omega
theorem ifs_kv {c : TT} {t u : TS} {D : Ends} {σ : L2.St} {H : Hp} (R : L2.St → Hp → Prop) (key : ∀ σ' H', R σ' H' → D.nx σ' H') (h : (∀ σ' H', R σ' H' → D.nx σ' H') → tIfS c t u D σ H) : tIfS c t u D σ H := h key
theorem text_nil : TextL "" := by
  have e : lnsOf ("" : Str) = [("" : Str)] := by decide +kernel
  refine ⟨by rw [e]; decide, fun y hy => ?_, by decide⟩
  rw [e] at hy
  rw [List.mem_singleton.mp hy]
  decide
def spRight1 (T : List (Addr × Str)) : Sp := fun vs H Q _ => ∃ (a : Addr) (z : Int), vs = [.ref a] ∧ PotAt H a z ∧ z ≤ 5000 ∧ Tabs T H ∧ ∀ H', PotAt H' a (z + 3000) → KeepN a H H' → Tabs T H' → Q (.bl true) H'
end GD
namespace K01
open PySem PySem.Spec PyProof.Rows L2 GD LamX
abbrev sRight1 : Stmt := top 69
section
variable {P : Program} {w : World} {K : PySem.W.Frag} {mg : Str → Option Value} {base : Heap}
abbrev NR1 : List Str := ["_law_pot_here", "_law_rows", "_law_lap", "_law_some_here", "_law_caught", "_law_value"]
theorem scR1z : FnScope NR1 ["_law_pot_here"] (defScope sRight1) := ⟨rfl, rfl, rfl, by decide +kernel, rfl, by decide +kernel, by decide +kernel⟩
theorem ok_right1 {f c Pt CB CJ CE fT fI fIJ fLo fAn fLi fSp fTk fJd fBo : Addr} {fdT fdI fdLo fdAn fdLi fdSp fdTk fdJd fdBo : FuncData} {oc kV doc pm ct : Value} {od an : Option Addr} {osl : Array (Option Value)} {T : List (Addr × Str)}
    (lk : K.lookup f = some ⟨oc, od, .func (PySem.W.fnOf "_law_right" "_law_right" (defArgs sRight1) (defBody sRight1) (defScope sRight1) .none kV doc pm an (.ref c) ct), osl⟩) (hcd : PySem.W.codeIn K (.ref c) "_law_right" = true)
    (TB : TabB base mg c Pt) (hmT : (Pt, lamQ "_law_right") ∈ T) (hu : ∀ p ∈ T, p.1 = Pt → p.2 = lamQ "_law_right") (B : BookC K mg CB)
    (nI : mg "isinstance" = none) (nR : mg "repr" = none) (nT : mg "tuple" = none) (nRg : mg "range" = none) (gSE : mg "StockError" = some (.ref CE))
    (gJ : mg "BadBook" = some (.ref CJ)) (EJ : EC K CJ fIJ) (kJ : PySem.W.kitOne K (.ref CJ) (.ref CJ) = some true) (xJ : PySem.W.exmOne K (.ref CJ) (.ref CE) = some true)
    (AT : At K mg "_law_told" sTold ["_law_look"] fT fdT) (MK : Mk K CB fI) (bI : Binds K fdI ["self", "text"] []) (GI : FnOk P w K mg base (L2.CX P w) 6 fI fdI ["self", "text"] (spInitX K CB CJ))
    (gLo : mg "_law_lore" = some (.ref fLo)) (bLo : Binds K fdLo ["_law_pot_here", "_law_most", "_law_manners", "_law_sizes"] []) (kLo : PySem.W.keepIn K (.ref fLo) = true) (GLo : FnOk P w K mg base CX0 5 fLo fdLo ["_law_pot_here", "_law_most", "_law_manners", "_law_sizes"] spLore)
    (gAn : mg "_law_any_manners" = some (.ref fAn)) (bAn : Binds K fdAn [] []) (kAn : PySem.W.keepIn K (.ref fAn) = true) (GAn : FnOk P w K mg base CX0 1 fAn fdAn [] spAny)
    (gLi : mg "_law_lines" = some (.ref fLi)) (bLi : Binds K fdLi ["_law_lore_here"] []) (kLi : PySem.W.keepIn K (.ref fLi) = true) (GLi : FnOk P w K mg base CX0 3 fLi fdLi ["_law_lore_here"] spLines)
    (gSp : mg "_law_spoilt" = some (.ref fSp)) (bSp : Binds K fdSp ["_law_pot_here", "_law_rows"] []) (kSp : PySem.W.keepIn K (.ref fSp) = true) (GSp : FnOk P w K mg base CX0 3 fSp fdSp ["_law_pot_here", "_law_rows"] spSpoilt)
    (gTk : mg "_law_take" = some (.ref fTk)) (bTk : Binds K fdTk ["_law_pot_here", "_law_upto"] []) (kTk : PySem.W.keepIn K (.ref fTk) = true) (GTk : FnOk P w K mg base CX0 1 fTk fdTk ["_law_pot_here", "_law_upto"] spTake)
    (gJd : mg "_law_is_judged" = some (.ref fJd)) (bJd : Binds K fdJd ["_law_text"] []) (kJd : PySem.W.keepIn K (.ref fJd) = true) (GJd : FnG P w K mg base 10 fJd fdJd ["_law_text"] (spJudged T))
    (gBo : mg "_law_are_bounds_right" = some (.ref fBo)) (bBo : Binds K fdBo ["_law_pot_here"] []) (kBo : PySem.W.keepIn K (.ref fBo) = true) (GBo : FnG P w K mg base 11 fBo fdBo ["_law_pot_here"] (spBounds T)) :
    FnG P w K mg base 12 f (PySem.W.fnOf "_law_right" "_law_right" (defArgs sRight1) (defBody sRight1) (defScope sRight1) .none kV doc pm an (.ref c) ct) ["_law_pot_here"] (spRight1 T) := by
  obtain ⟨ocT, odT, kVT, docT, pmT, anT, cdT, ctT, oslT, rfl, lkT, hcT⟩ := AT.F.ex
  refine fnG_lk lk hcd scR1z (fun vs H Q E h => ?_) (fun A outer s H vs Q hgu hr h => ?_)
  · obtain ⟨a, z, rfl, _⟩ := h
    rfl
  · obtain ⟨a, z, rfl, hp, hz, hT, q⟩ := h
    have hu' := hr.units
    have hr1 : Room 1 _ := hr.mono (by decide)
    have hr3 : Room 3 _ := hr.mono (by decide)
    have hr5 : Room 5 _ := hr.mono (by decide)
    have hr9 : Room 9 _ := hr.mono (by decide)
    have hr10 : Room 10 _ := hr.mono (by decide)
    refine ⟨_, pss_cons (ps_set (i := 1) scR1z.nd rfl (.inl rfl) (pe_call GLi hr3 (by rfl) gLi kLi bLi .nil pass0 (pa_cons (pe_call GLo hr5 (by rfl) gLo kLo bLo .nil pass0 (pa_cons (pv 0) (pa_cons pe_int (pa_cons (pe_call0 GAn hr1 (by rfl) gAn kAn bAn .nil pass0) (pa_cons (pe_tup (pa_cons pe_int (pa_cons pe_int (pa_cons pe_int (pa_cons pe_int (pa_cons pe_int (pa_cons pe_int pa_nil))))))) pa_nil))))) pa_nil)))
      (pss_cons (ps_if (pw_or (pt_not (pt_val (pe_callG GJd hgu hr10 (by rfl) gJd kJd bJd (pa_cons (pe_bm PySem.F.plainAttrs_str PySem.F.slot_str_join PySem.F.type_str_join mt_join pe_str (pa_cons (pv 1) pa_nil)) pa_nil)))) (pw_or1 (pt_not (pt_val (pe_callG GBo hgu hr (by rfl) gBo kBo bBo (pa_cons (pv 0) pa_nil)))))).pt (pss_one (ps_ret pe_bl)) pss_nil)
      (pss_cons (ps_for PassesOwn.never rfl (pi_range1 (by rfl) nRg (pa_cons pe_int pa_nil)) (pg_name (i := 2) scR1z.nd rfl (.inl rfl))
        (pss_cons (ps_set (i := 3) scR1z.nd rfl (.inl rfl) (pe_call GSp hr3 (by rfl) gSp kSp bSp .nil pass0 (pa_cons (pv 0) (pa_cons (pv 1) pa_nil))))
        (pss_cons (ps_if (pw_and (pt_cmpR (op_neD hu') (pv 3) (pe_lst pa_nil) (nomark _)) (pw_and1 (pt_cmpR op_eq (pe_call GTk hr1 (by rfl) gTk kTk bTk .nil pass0 (pa_cons (pv 0) (pa_cons pe_int pa_nil))) pe_int (nomark _)))).pt
            (pss_one (ps_set (i := 3) scR1z.nd rfl (.inl rfl) (pe_call GSp hr3 (by rfl) gSp kSp bSp .nil pass0 (pa_cons (pv 0) (pa_cons (pv 3) pa_nil))))) pss_nil)
        (pss_one (ps_if (pt_not (pt_val (pe_callG GJd hgu hr10 (by rfl) gJd kJd bJd (pa_cons (pe_bm PySem.F.plainAttrs_str PySem.F.slot_str_join PySem.F.type_str_join mt_join pe_str (pa_cons (pv 3) pa_nil)) pa_nil)))) (pss_one (ps_ret pe_bl)) pss_nil)))))
      (pss_cons (ps_for PassesOwn.never rfl (pi_tup (pe_tup (pa_cons pe_non (pa_cons pe_int (pa_cons pe_bl (pa_cons (pv 1) (pa_cons (pe_callTy call_tuple_of (by rfl) nT (by decide +kernel) (pa_cons (pv 1) pa_nil)) (pa_cons pe_dnewK pa_nil)))))))) (pg_name (i := 5) scR1z.nd rfl (.inr rfl))
        (pss_cons (ps_set (i := 4) scR1z.nd rfl (.inl rfl) (pe_ix ix_tup (pe_lamS (k := 7) (T := T) (TT := TPair K CE) (Ng := NTd) (by rfl) AT.g AT.F.kp lkT hcT AT.b scTd rfl (.inl rfl) (told_pair gSE) TB rfl hmT hu hr9 (show LamS (defScope sRight1) _ from lamS_by (by decide +kernel)) rfl (fun _ _ _ _ _ => rfl)
              (fun A outer s H E f c' hr' => pe_make (E := E) MK GI hr' (by rfl) B.mgC bI .nil (passes_call (takes_of (E := E) rfl rfl rfl rfl) fun _ _ _ _ h => h) (pa_cons (pv 5) pa_nil))) pe_int (fun _ _ => rfl)))
        (pss_one (ps_if (pw_or (pt_not (pt_val (pe_callB call_isCgt (by rfl) nI (by decide +kernel) (pa_cons (pv 4) (pa_cons (pe_glob (v := .ref CJ) (by rfl) gJ rfl) pa_nil)))))
            (pw_or1 (pt_cmpR op_ne (pe_callB (call_reprS hgu hu') (by rfl) nR (by decide +kernel) (pa_cons (pe_valC (pv 4)) pa_nil)) pe_str (nomark _)))).pt (pss_one (ps_ret pe_bl)) pss_nil))))
      (pss_one (ps_ret (pe_and (pe_callG GJd hgu hr10 (by rfl) gJd kJd bJd (pa_cons pe_str pa_nil)) (pe_one (pe_callG GJd hgu hr10 (by rfl) gJd kJd bJd (pa_cons (pe_op op_add_str (pe_bm PySem.F.plainAttrs_str PySem.F.slot_str_join PySem.F.type_str_join mt_join pe_str (pa_cons (pv 1) pa_nil)) pe_str) pa_nil))))))))), ?_⟩
    refine ⟨_, rfl, rfl, fun lm nlm => ?_⟩
    have sm := same_new (o := .lst (man6.map V.str)) nlm
    have em : (upd H lm (.lst (man6.map V.str))) lm = some (.lst (man6.map V.str)) := upd_same
    generalize upd H lm (.lst (man6.map V.str)) = H1 at sm em ⊢
    refine ⟨(by show 6 ≤ sizeLine; decide), fun sz nsz => ?_⟩
    have ss := same_new (o := .tup [.int ((2 : Nat) : Int), .int ((2 : Nat) : Int), .int ((6 : Nat) : Int), .int ((24 : Nat) : Int), .int ((6 : Nat) : Int), .int ((4 : Nat) : Int)]) nsz
    have s01 := sm.trans ss
    refine ⟨a, lm, sz, 4, man6, z, 2, 2, 6, 24, 6, 4, rfl, hp.same s01, by omega, by decide, by decide, hp.ne nlm, ss _ _ em, (fun z => by cases z), by decide, upd_same, by decide, by decide, by decide, by decide, by decide, by decide, by decide, fun d lj lf ls js fs sts H2 nd nlj nlf nls p2 k2 lore lok => ?_⟩
    have K2 : Keep a H H2 := (sKeep s01).trans k2
    have ok := lok.js (by decide) (by decide) (by decide) (by decide)
    have T2 := tabs_keep hp K2 hT
    obtain ⟨ed, hj, hf, hst⟩ := id lore
    refine ⟨d, js, fs, js.length, 40, rfl, ⟨_, lj, lf, ed, rfl, rfl, hj, hf⟩, ok.lines, fun l H3 nl s3 el => ?_⟩
    obtain ⟨hR, hw0, hne⟩ := good_rows ok
    generalize lT js fs = rows at el hR hw0 hne
    have p3 := p2.same s3
    have T3 := tabs_same s3 T2
    have dl : l ≠ a := p2.ne nl
    have KN3 : KeepN a H H3 := (keepN_of K2).trans (keepN_same s3)
    clear lore lok ed hj hf hst ok nl T2 K2 k2 s01 ss sm em nsz nlm nd nlj nlf nls
    have nt : ∀ {xs : List V} ps, HO.lst xs ≠ .tbl ps := fun ps z => by cases z
    refine ⟨rfl, _, rfl, _, l, rows, rfl, rfl, .inl (SqL.of el), sumOk hR (by decide) (by decide), _, rfl, text_rows hR (by decide) (by decide), T3, fun H4 x4 T4 => ⟨_, rfl, iteF ?_⟩⟩
    have p4 := pot_ext x4 p3
    refine ⟨_, rfl, a, _, rfl, p4, by omega, T4, fun H5 p5 k5 T5 => ⟨_, rfl, iteF ?_⟩⟩
    have el5 := k5 _ _ dl (x4 _ _ el nt) nt
    have KN5 : KeepN a H H5 := (KN3.trans (keepN_ext x4)).trans k5
    refine ⟨14, rfl, by decide, by decide, ?_⟩
    refine for_range (lo := 0) (n := 14) (fun i σ H' => ∃ x2 x3 : Option V, σ = [some (.ref a), some (.ref l), x2, x3, none, none] ∧ PotAt H' a (z + 2510 + 11 * (i : Nat)) ∧ KeepN a H5 H' ∧ Tabs T H') ⟨none, none, rfl, p5.le (by omega), keepN_same (Same.refl _), T5⟩ ?_ ?_
    · rintro i σ H6 hi ⟨x2, x3, rfl, p6, k6, T6⟩
      have el6 := k6 _ _ dl el5 nt
      refine ⟨_, rfl, _, rfl, a, l, rows, 40, 90, 18, 5, _, rfl, p6, by omega, dl, el6, hne, hR, hw0, by decide, by decide, by decide, by decide, by decide, by decide, fun l2 rows2 H7 p7 k7 d2a e7 hR2 => ?_⟩
      have T7 := tabs_keep p6 k7 T6
      unfold gName
      dsimp only [tSeq]
      refine ifs_kv (fun σ' H' => ∃ (l3 : Addr) (rows3 : List Str), σ' = [some (.ref a), some (.ref l), some (.int (0 + (i : Nat))), some (.ref l3), none, none] ∧ PotAt H' a (z + 2510 + 11 * (i : Nat) + 11) ∧ KeepN a H5 H' ∧ Tabs T H' ∧ H' l3 = some (.lst (rows3.map V.str)) ∧ Rows 42 363 80 rows3) (fun σ' H8 ⟨l3, rows3, eσ, p8, k8, T8, e8, hR8⟩ => ?_) (fun key => ?_)
      rotate_left
      · refine ⟨_, rfl, by decide, fun pe npe => ?_⟩
        have se := same_new (o := .lst []) npe
        have ee : LstAt (upd H7 pe (.lst [])) pe [] := ⟨[], upd_same, .nil⟩
        generalize upd H7 pe (.lst []) = H8 at se ee ⊢
        have e8 := se _ _ e7
        have p8 := p7.same se
        have T8 := tabs_same se T7
        have k68 : KeepN a H6 H8 := (keepN_of k7).trans (keepN_same se)
        refine ⟨.list (rows2.map PyData.str), _, LstAt.dp ⟨_, e8, fz_strs rows2⟩, ee.dp, shape_strsL fun x hx => gd_ok (hR2.r x hx).nl, by decide +kernel, _, rfl, ?_⟩
        rw [eqv_nilS]
        by_cases c0 : rows2 = []
        · rw [decide_eq_true c0]
          exact iteF (key _ _ ⟨l2, rows2, rfl, p8.le (by omega), k6.trans k68, T8, e8, hR2.le (by decide) (by decide) (by decide)⟩)
        · rw [decide_eq_false c0]
          refine iteT ⟨_, rfl, a, 3, _, rfl, p8, by omega, by decide, by decide, fun j H9 j0 j3 p9 k9 => ⟨rfl, _, rfl, ?_⟩⟩
          have e9 := k9 _ _ d2a e8
          have T9 := tabs_keep p8 k9 T8
          have k69 : KeepN a H6 H9 := k68.trans (keepN_of k9)
          by_cases cj : j = 0
          · rw [decide_eq_true (show V.int j = V.int 0 by rw [cj])]
            have hw2 : (wsOf (rows2.headD "")).length ≤ 20 := by
              cases rows2 with
              | nil => exact absurd rfl c0
              | cons b r => exact (hR2.r b List.mem_cons_self).w
            refine iteT ⟨_, rfl, _, rfl, a, l2, rows2, 41, 181, 20, 20, _, rfl, p9, by omega, d2a, e9, c0, hR2.le (by decide) (by decide) (by decide), hw2, by decide, by decide, by decide, by decide, by decide, by decide, fun l3 rows3 H10 p10 k10 d3a e10 hR3 => ?_⟩
            exact key _ _ ⟨l3, rows3, rfl, p10.le (by omega), k6.trans (k69.trans (keepN_of k10)), tabs_keep p9 k10 T9, e10, hR3.le (by decide) (by decide) (by decide)⟩
          · rw [decide_eq_false (show ¬ V.int j = V.int 0 from fun e => cj (V.int.inj e))]
            exact iteF (key _ _ ⟨l2, rows2, rfl, p9.le (by omega), k6.trans k69, T9, e9, hR2.le (by decide) (by decide) (by decide)⟩)
      subst eσ
      refine ⟨rfl, _, rfl, _, l3, rows3, rfl, rfl, .inl (SqL.of e8), sumOk hR8 (by decide) (by decide), _, rfl, text_rows hR8 (by decide) (by decide), T8, fun H9 x9 T9 => ⟨_, rfl, iteF ?_⟩⟩
      exact ⟨_, _, rfl, (pot_ext x9 p8).le (by omega), k8.trans (keepN_ext x9), T9⟩
    rintro σ H6 ⟨x2, x3, rfl, p6, k6, T6⟩
    have el6 := k6 _ _ dl el5 nt
    -- the values that are no text
    refine ⟨_, rfl, _, rfl, l, _, rfl, .inl ⟨SqL.of el6, fun tp ntp => ?_⟩⟩
    have s7 := same_new (o := .tup (rows.map V.str)) ntp
    have e7 : (upd H6 tp (.tup (rows.map V.str))) tp = some (.tup (rows.map V.str)) := upd_same
    generalize upd H6 tp (.tup (rows.map V.str)) = H7 at s7 e7 ⊢
    intro dd ndd
    have s8 := same_new (o := .dK []) ndd
    have e8 : (upd H7 dd (.dK [])) dd = some (.dK []) := upd_same
    have e7 := s8 _ _ e7
    generalize upd H7 dd (.dK []) = H8 at s8 e7 e8 ⊢
    have el8 := (s7.trans s8) _ _ el6
    refine ⟨(by show 6 ≤ sizeLine; decide), fun tv ntv => ?_⟩
    have s9 := same_new (o := .tup [.non, .int 0, .bl true, .ref l, .ref tp, .ref dd]) ntv
    have e9 : (upd H8 tv (.tup [.non, .int 0, .bl true, .ref l, .ref tp, .ref dd])) tv = some (.tup [.non, .int 0, .bl true, .ref l, .ref tp, .ref dd]) := upd_same
    have e7 := s9 _ _ e7
    have e8 := s9 _ _ e8
    have el9 := s9 _ _ el8
    have s69 := (s7.trans s8).trans s9
    have nos : ∀ v ∈ ([.non, .int 0, .bl true, .ref l, .ref tp, .ref dd] : List V), ∀ H', ExtN (upd H8 tv (.tup [.non, .int 0, .bl true, .ref l, .ref tp, .ref dd])) H' → ∃ d, TyX K H' v (.type (kindD d)) ∧ ∀ x, d ≠ .str x := by
      intro v hv H' x
      simp only [List.mem_cons, List.not_mem_nil, or_false] at hv
      rcases hv with rfl | rfl | rfl | rfl | rfl | rfl
      · exact ⟨.none, .base .non, fun _ z => by cases z⟩
      · exact ⟨.int 0, .base (.int 0), fun _ z => by cases z⟩
      · exact ⟨.bool true, .base (.bl true), fun _ z => by cases z⟩
      · exact ⟨.list [], .base (.lst (x _ _ el9 (fun ps z => by cases z))), fun _ z => by cases z⟩
      · exact ⟨.tuple [], .base (.tup (x _ _ e7 (fun ps z => by cases z))), fun _ z => by cases z⟩
      · exact ⟨.dict [], .base (.dK (x _ _ e8 (fun ps z => by cases z))), fun _ z => by cases z⟩
    generalize ([.non, .int 0, .bl true, .ref l, .ref tp, .ref dd] : List V) = vals at s9 e9 nos s69 el9 ⊢
    clear e7 e8
    generalize upd H8 tv (.tup vals) = H9 at s9 e9 nos s69 el9 ⊢
    have p9 := p6.same s69
    have T9 := tabs_same s69 T6
    have nice0 : NiceD (.int 0) := mild_nice (mild_int (by decide) (by decide)) (by decide) (by decide)
    refine ⟨tv, rfl, ⟨_, SqT.of e9⟩, for_tup (K := K) (a := tv) (xs := vals) (fun i σ H' => ∃ x4 x5 : Option V, σ = [some (.ref a), some (.ref l), x2, x3, x4, x5] ∧ ExtN H9 H' ∧ Tabs T H') ⟨none, none, rfl, ExtN.refl _, T9⟩ (fun i σ H' _ ⟨_, _, _, x, _⟩ => SqT.of (x _ _ e9 (fun ps z => by cases z))) ?_ ?_⟩
    · rintro i v σ H10 hv ⟨x4, x5, rfl, x10, T10⟩
      have hvm := List.mem_of_getElem? hv
      show tOp (rIxT K) (tLam T (TPair K CE) _) (tC (.int 0)) _ _ _
      refine told0 (fun c0 H' => ExtN H9 H' ∧ Tabs T H' ∧ ∃ ae, c0 = .ref ae ∧ CgtAt H' ae CJ (.int 0)) T10 (fun c0 H11 ⟨x11, T11, ae, ec, ca⟩ => ?_) (fun H11 E1 Q1 x1011 T11 kE kQ => ?_)
      rotate_left
      · refine ⟨_, rfl, fun y dy ny ndy ne => ?_⟩
        have x11 := x10.trans x1011
        have sm0 : Same H11 (upd (upd H11 dy (.own y)) y (.ins CB dy [])) := made_same ny ndy fun b o _ e => e
        have smk : Same H11 (upd (upd H11 dy (.own y)) y (.ins CB dy [])) := sm0
        obtain ⟨dv, ty, nd⟩ := nos v hvm _ (x11.trans (ext_same smk))
        refine ⟨y, dy, v, dv, rfl, upd_same, ty, fun x e => absurd e (nd x), fun _ e H' kk n1 x1 => ?_, fun x n e => absurd e (nd x), fun x fs e => absurd e (nd x)⟩
        have sm := made_same ny ndy kk
        refine kE _ _ _ xJ fun ae H'' s'' eae => ?_
        have s2 := sm.trans s''
        exact ⟨x11.trans (ext_same s2), tabs_same s2 T11, ae, rfl, e, eae, s'' _ _ x1⟩
      subst ec
      refine ⟨_, rfl, ae, CJ, fIJ, .int 0, .ref CJ, _, true, rfl, EJ, ca, .own CJ, kJ, _, rfl, iteF ?_⟩
      refine ⟨_, rfl, ae, CJ, fIJ, .int 0, rfl, EJ, ca, .int 0, .int 0, rfl, .int _, nice0, rfl, _, rfl, ?_⟩
      rw [show (!decide (V.str (PyData.int 0).shown = V.str "0")) = false by rw [show (PyData.int 0).shown = ("0" : Str) by rw [PyData.shown_int]; rfl]; rfl]
      exact iteF ⟨_, _, rfl, x11, T11⟩
    rintro σ H10 ⟨x4, x5, rfl, x10, T10⟩
    have el10 := x10 _ _ el9 (fun ps z => by cases z)
    refine ⟨"", rfl, text_nil, T10, fun H11 x11 T11 => ⟨_, rfl, iteT ?_⟩⟩
    have el11 := x11 _ _ el10 (fun ps z => by cases z)
    have tm := text_more hR (by decide) (by decide) hne
    refine ⟨rfl, _, rfl, _, l, rows, rfl, rfl, .inl (SqL.of el11), sumOk hR (by decide) (by decide), _, _, rfl, rfl, ?_, _, rfl, tm, T11, fun H12 x12 T12 => ?_⟩
    · have := tm.w
      rw [len_app] at this
      exact small_len (by omega)
    have x912 := (x10.trans x11).trans x12
    exact q H12 ((pot_ext x912 p9).le (by omega)) ((KN5.trans k6).trans ((keepN_same s69).trans (keepN_ext x912))) T12
end
end K01
namespace K01
open PySem PySem.Spec PyProof.Rows L2 GD LamX
abbrev sLaw0 : Stmt := top 70
def tq01 (Ps : List Addr) : List (Addr × Str) := Ps.zip [lamQ "_law_is_judged", lamQ "_law_right"]
def spLaw0 (K : PySem.W.Frag) (T : List (Addr × Str)) : Sp := fun vs H Q _ => ∃ (s : Addr) (ns : List Int), vs = [.ref s] ∧ SqL K H s (ns.map V.int) ∧ Tabs T H ∧ ∀ H', Q (.bl true) H'
theorem seq_ext {K : PySem.W.Frag} {H H' : Hp} {a : Addr} {xs : List V} (e : ExtN H H') (h : SqL K H a xs) : SqL K H' a xs := by
  rcases h with (h | ⟨o, h⟩) | h
  · exact .inl (.inl (e _ _ h (fun ps z => by cases z)))
  · exact .inl (.inr ⟨o, e _ _ h (fun ps z => by cases z)⟩)
  · exact .inr h
section
variable {P : Program} {w : World} {K : PySem.W.Frag} {mg : Str → Option Value} {base : Heap}
abbrev NLw0 : List Str := ["_law_script", "_law_place", "_law_pot_here", "_law_lap"]
theorem scLw0 : FnScope NLw0 ["_law_script"] (defScope sLaw0) := ⟨rfl, rfl, rfl, by decide +kernel, rfl, by decide +kernel, by decide +kernel⟩
theorem ok_law0 {f fR fP fC : Addr} {fd fdR fdP fdC : FuncData} {T : List (Addr × Str)} (F : Fun K "law" "law" sLaw0 f fd) (S : Small1 K mg)
    (gR : mg "_law_right" = some (.ref fR)) (bR : Binds K fdR ["_law_pot_here"] []) (kR : PySem.W.keepIn K (.ref fR) = true) (GR : FnG P w K mg base 12 fR fdR ["_law_pot_here"] (spRight1 T))
    (AP : At K mg "_law_pot" sPot ["_law_script", "_law_place"] fP fdP) (AC : At K mg "_law_cells" sCells ["_law_script", "_law_most"] fC fdC) : FnG P w K mg base 13 f fd ["_law_script"] (spLaw0 K T) := by
  have GP : FnOk P w K mg base CX0 1 fP fdP ["_law_script", "_law_place"] (spPot K) := ok_pot AP.F S.ta
  have GC : FnOk P w K mg base CX0 1 fC fdC ["_law_script", "_law_most"] (spCells K) := ok_cells AC.F S.ta
  refine fnG_of F scLw0 (fun vs H Q E h => ?_) (fun cdv A outer s H vs Q hgu hr h => ?_)
  · obtain ⟨a, ns, rfl, _⟩ := h
    rfl
  · obtain ⟨a, ns, rfl, hs, hT, k⟩ := h
    have hr1 : Room 1 _ := hr.mono (by decide)
    refine ⟨_, pss_cons (ps_for PassesOwn.never rfl (pi_list (pe_call GC hr1 (by rfl) AC.g AC.F.kp AC.b .nil pass0 (pa_cons (pv 0) (pa_cons pe_int pa_nil)))) (pg_name (i := 1) scLw0.nd rfl (.inl rfl))
        (pss_cons (ps_set (i := 2) scLw0.nd rfl (.inr rfl) (pe_call GP hr1 (by rfl) AP.g AP.F.kp AP.b .nil pass0 (pa_cons (pv 0) (pa_cons (pv 1) pa_nil))))
        (pss_one (ps_if (pt_not (pt_val (pe_callB (cr_all rfl) (by rfl) S.all (by decide +kernel) (pa_cons (pe_lc (own := [("_law_lap", 3)]) (g := gName 3) (tt := tYes) rfl scLw0.nd (pi_range1 (by rfl) S.ta.range (pa_cons pe_int pa_nil)) (blkOk_by (N := NLw0) (sc := defScope sLaw0) (by decide +kernel))
          (fun _ _ _ _ _ => pg_name (i := 3) scLw0.nd rfl (.inl rfl)) (fun _ _ _ _ _ => pts_nil) (fun _ _ _ _ _ => pe_callG GR hgu hr (by rfl) gR kR bR (pa_cons (pv 2) pa_nil))) pa_nil)))) (pss_one (ps_ret pe_bl)) pss_nil))))
      (pss_one (ps_ret pe_bl)), ?_⟩
    refine ⟨_, rfl, a, ns, 4, rfl, hs, by decide, by decide, fun p n hp h0 h4 => ?_⟩
    have sp := same_new (o := .lst (rgV 0 n)) hp
    have ep : (upd H p (.lst (rgV 0 n))) p = some (.lst (rgV 0 n)) := upd_same
    have hT1 := tabs_same sp hT
    generalize upd H p (.lst (rgV 0 n)) = H1 at sp ep hT1 ⊢
    refine ⟨p, rfl, ⟨_, SqL.of ep⟩, for_list (K := K) (a := p) (xs := rgV 0 n) (fun i σ H' => ∃ x1 x2 : Option V, σ = [some (.ref a), x1, x2, none] ∧ ExtN H1 H' ∧ Tabs T H') ⟨none, none, rfl, ExtN.refl _, hT1⟩ (fun i σ H' _ ⟨_, _, _, s, _⟩ => SqL.of (s _ _ ep (fun ps z => by cases z))) ?_ ?_⟩
    · rintro i v σ H2 hi ⟨x1, x2, rfl, s2, T2⟩
      have hlt := (List.getElem?_eq_some_iff.mp hi).1
      obtain ⟨pl, rfl, p0, p1⟩ : ∃ pl : Int, v = .int pl ∧ 0 ≤ pl ∧ pl ≤ 1000 := by
        have zl := rgV_length 0 n
        unfold rgV at hi
        rw [zl] at hlt
        rw [List.getElem?_map, List.getElem?_range (by omega)] at hi
        exact ⟨0 + (i : Nat), (Option.some.inj hi).symm, by omega, by omega⟩
      refine ⟨_, rfl, _, rfl, a, ns, pl, rfl, seq_ext s2 (sp.seq hs), p0, p1, fun q H3 nq pq s3 => ?_⟩
      have nq2 : H2 q = none := nq
      refine ⟨2, rfl, by decide, by decide, fun D hD => ?_⟩
      have dDq : D ≠ q := pq.ne hD
      have D0 : H2 D = none := s3.free hD
      refine lc_range (lo := 0) (n := 2) (fun j H' => PotAt H' q (0 + 3000 * (j : Nat)) ∧ ExtN H2 H' ∧ Tabs T H' ∧ H' D = some (.lst ((List.replicate j true).map V.bl))) ⟨(pq.upd_ne dDq).le (by omega), ext_same (same_upd s3 D0), tabs_same (s3.trans (same_new hD)) T2, upd_same⟩ ?_ ?_
      · rintro j H4 hj ⟨p4, s4, T4, eD⟩
        refine ⟨rfl, _, rfl, q, _, rfl, p4, by omega, T4, fun H5 p5 k5 T5 => ?_⟩
        have eD5 := k5 _ _ dDq eD (fun ps z => by cases z)
        refine ⟨_, eD5, ?_, (p5.upd_ne dDq).le (by omega), fun c o e nt => ?_, tabs_lst eD5 T5, ?_⟩
        · rw [List.length_map, List.length_replicate]
          exact Nat.lt_of_lt_of_le (show j < 10 by omega) (by decide)
        · have nc : c ≠ D := fun z => by
            rw [z, D0] at e
            cases e
          have ncq : c ≠ q := fun z => by
            rw [z, nq2] at e
            cases e
          rw [upd_ne nc]
          exact k5 _ _ ncq (s4 _ _ e nt) nt
        · rw [upd_same, List.replicate_succ', List.map_append]
          rfl
      · rintro H4 ⟨p4, s4, T4, eD⟩
        refine ⟨D, _, rfl, SqL.of eD, ?_⟩
        refine ⟨_, rfl, iteF ?_⟩
        exact ⟨_, _, rfl, s2.trans s4, T4⟩
    · rintro σ H2 ⟨x1, x2, rfl, s2, T2⟩
      exact k H2
end
end K01
namespace K01
open PySem PySem.Spec PyProof.Rows L2 GD LamX
def spLaw0t (K : PySem.W.Frag) (Ps : List Addr) : Sp := spLaw0 K (tq01 Ps)
theorem tabs0 {H : Hp} {Ps : List Addr} (h : ∀ P ∈ Ps, H P = some (.tbl #[])) : Tabs (tq01 Ps) H := fun p hp => LamX.TabS.nil (h p.1 (List.of_mem_zip hp).1)
end K01
namespace K01
open PySem PySem.Spec PyProof.Rows L2 GD LamX
def Df (K : PySem.W.Frag) (x : Str) (st : Stmt) : Prop := ∃ f oc od an osl kV doc pm cdv ct, PySem.W.nsIn K mainGlobals x = some (some (.ref f)) ∧
  K.lookup f = some ⟨oc, od, .func (PySem.W.fnOf x x (defArgs st) (defBody st) (defScope st) .none kV doc pm an cdv ct), osl⟩ ∧ PySem.W.codeIn K cdv x = true ∧ PySem.W.keepIn K (.ref f) = true
/-- a def that makes lambdas: c its code object, Pt the table of it -/
def DfT (K : PySem.W.Frag) (ts : List Addr) (x : Str) (st : Stmt) (Pt : Addr) : Prop := ∃ f oc od an osl kV doc pm c ct oc2 od2 vs sl2, PySem.W.nsIn K mainGlobals x = some (some (.ref f)) ∧
  K.lookup f = some ⟨oc, od, .func (PySem.W.fnOf x x (defArgs st) (defBody st) (defScope st) .none kV doc pm an (.ref c) ct), osl⟩ ∧ PySem.W.codeIn K (.ref c) x = true ∧ PySem.W.keepIn K (.ref f) = true ∧
  K.lookup c = some ⟨oc2, od2, .fields vs, sl2⟩ ∧ (vs[11]? : Option Value) = some (.ref Pt) ∧ PySem.W.codeHdIn K c Pt = true ∧ K.lookup Pt = none ∧ Pt ∈ ts
def Dm (K : PySem.W.Frag) (C : Addr) (x y : Str) (st : Stmt) : Prop := ∃ f oc od an osl kV doc pm cdv ct, PySem.W.findIn K (.ref C) x = some (some (.ref f)) ∧ PySem.W.isFn K (.ref f) = true ∧
  K.lookup f = some ⟨oc, od, .func (PySem.W.fnOf x y (defArgs st) (defBody st) (defScope st) .none kV doc pm an cdv ct), osl⟩ ∧ PySem.W.codeIn K cdv y = true ∧ PySem.W.keepIn K (.ref f) = true
/-- the error: its __init__ is StockError's -/
def De (K : PySem.W.Frag) (C : Addr) : Prop := ∃ f oc od an osl kV doc pm cdv ct, EC K C f ∧ PySem.W.typeIn K (.ref f) = some (.type "function") ∧
  K.lookup f = some ⟨oc, od, .func (PySem.W.fnOf "__init__" "StockError.__init__" (defArgs sInit) (defBody sInit) (defScope sInit) .none kV doc pm an cdv ct), osl⟩ ∧ PySem.W.codeIn K cdv "StockError.__init__" = true ∧ PySem.W.keepIn K (.ref f) = true
theorem told_of {K : PySem.W.Frag} {w : World} {mg : Str → Option Value} {p : Addr} (g : mg "MOST_TOLD" = some (.ref p)) (h1 : KDct K w p "let" (.int 24)) (h2 : KDct K w p "not" (.int 6)) (h3 : KDct K w p "as" (.int 4)) : Told K w mg := ⟨p, g, fun x hx => by
  rcases hx with rfl | rfl | rfl
  · exact h1
  · exact h2
  · exact h3⟩
theorem exm_of {K : PySem.W.Frag} {t C : Addr} (h1 : PySem.W.subIn K (.ref C) (.type "BaseException") = some true) (hd : PySem.W.hasDictIn K C = true) (ht : PySem.W.typeIn K (.ref C) = some (.type "type")) (hs : PySem.W.subIn K (.ref t) (.ref C) = some true) : PySem.W.exmOne K (.ref t) (.ref C) = some true := by
  unfold PySem.W.exmOne
  rw [if_pos (by rw [h1]; rfl)]
  obtain ⟨cd, hc, _⟩ := PySem.W.any_some hd
  show (if ((PySem.W.clsIn K C).isSome && PySem.W.typeIn K (.ref C) == some (.type "type")) = true then PySem.W.subIn K (.ref t) (.ref C) else none) = _
  rw [if_pos (by rw [hc, ht]; rfl)]
  exact hs
theorem kit_meE {K : PySem.W.Frag} {C : Addr} : PySem.W.kitOne K (.ref C) (.ref C) = some true := by
  unfold PySem.W.kitOne
  rw [if_pos (beq_self_eq_true _)]
theorem kit_noE {K : PySem.W.Frag} {C : Addr} {t : Value} (hn : (t == Value.ref C) = false) (hd : PySem.W.hasDictIn K C = true) (ht : PySem.W.typeIn K (.ref C) = some (.type "type")) (hs : PySem.W.subIn K t (.ref C) = some false) : PySem.W.kitOne K t (.ref C) = some false ∧ PySem.W.notFirst K C t = true := by
  constructor
  · unfold PySem.W.kitOne
    rw [if_neg (by rw [hn]; decide)]
    obtain ⟨cd, hc, _⟩ := PySem.W.any_some hd
    show (if ((PySem.W.clsIn K C).isSome && PySem.W.typeIn K (.ref C) == some (.type "type")) = true then PySem.W.subIn K t (.ref C) else none) = _
    rw [if_pos (by rw [hc, ht]; rfl)]
    exact hs
  · unfold PySem.W.notFirst
    rw [hs]
    simp

theorem fin_mk {P : Program} {w : World} {K : PySem.W.Frag} {h : Heap} {mg : Str → Option Value} {fa C CE CJ : Addr} {ts : List Addr} (X : K.In h) (G : h.Ns mainGlobals mg) (hfa : mg "law" = some (.ref fa))
    (aC : PySem.W.nsIn K mainGlobals "Book" = some (some (.ref C)))
    (aCE : PySem.W.nsIn K mainGlobals "StockError" = some (some (.ref CE)))
    (aCJ : PySem.W.nsIn K mainGlobals "BadBook" = some (some (.ref CJ)))
    (dT_pot : Df K "_law_pot" sPot)
    (dT_take : Df K "_law_take" sTake)
    (dT_of : Df K "_law_of" sOf)
    (dT_some : Df K "_law_some" sSome)
    (dT_cells : Df K "_law_cells" sCells)
    (dT_told : Df K "_law_told" sTold)
    (dT_names : Df K "_law_names" sNames)
    (dT_jobs : Df K "_law_jobs" sJobs)
    (dT_any : Df K "_law_any_manners" sAnyManners)
    (dT_first : Df K "_law_first" sFirst)
    (dT_behind : Df K "_law_behind" sBehind)
    (dT_cancome : Df K "_law_can_come" sCanCome)
    (dT_events : Df K "_law_events" sEvents)
    (dT_change : Df K "_law_change" sChange)
    (dT_stock : Df K "_law_stock" sStock)
    (dT_level : Df K "_law_level" sLevel)
    (dT_lets : Df K "_law_lets" sLets)
    (dT_heard : Df K "_law_heard_facts" sHeardFacts)
    (dT_alike : Df K "_law_alike_facts" sAlikeFacts)
    (dT_few : Df K "_law_few" sFew)
    (dT_lore : Df K "_law_lore" sLore)
    (dT_stext : Df K "_law_standing_text" sStandingText)
    (dT_fline : Df K "_law_fact_line" sFactLine)
    (dT_lines : Df K "_law_lines" sLines)
    (dT_cntl : Df K "_law_count_in" sCountIn)
    (dT_namel : Df K "_law_is_name" sIsName)
    (dT_stnw : Df K "_law_standing_in" sStnIn)
    (dT_factw : Df K "_law_fact_in" sFactIn)
    (dT_read : Df K "_law_read" sRead)
    (dT_spoilt : Df K "_law_spoilt" sSpoilt)
    (dT_bounds : Df K "_law_are_bounds_right" sBounds)
    (dT_law : Df K "law" sLaw0)
    (dP_isint : Df K "is_integer" pIsInt)
    (dP_isnumb : Df K "is_number" pIsNumb)
    (dP_isword : Df K "is_word" pIsWord)
    (dP_isname : Df K "is_name" pIsName)
    (dP_ispair : Df K "is_pair" pIsPair)
    (dP_isstn : Df K "is_standing" pIsStn)
    (dP_isfact : Df K "is_fact" pIsFact)
    (dP_isfull : Df K "is_full" pIsFull)
    (dP_rdjobs : Df K "read_jobs" pReadJobs)
    (dP_rdman : Df K "read_manners" pReadManners)
    (dP_rdfacts : Df K "read_facts" pReadFacts)
    (dP_rdfact : Df K "read_fact" pReadFact)
    (dP_rdstn : Df K "read_standing" pReadStn)
    (dP_rdcount : Df K "read_count" pReadCount)
    (dP_isnumeral : Df K "is_numeral" pIsNumeral)
    (dLam : ∃ P0 P1, DfT K ts "_law_is_judged" sJudged P0 ∧ DfT K ts "_law_right" sRight1 P1 ∧ P0 ≠ P1)
    (dM_init : Dm K C "__init__" "Book.__init__" pInit)
    (dErJ : De K CJ)
    (xErJ : PySem.W.subIn K (.ref CJ) (.ref CE) = some true)
    (n_len : PySem.W.nsIn K mainGlobals "len" = some none)
    (n_abs : PySem.W.nsIn K mainGlobals "abs" = some none)
    (n_int : PySem.W.nsIn K mainGlobals "int" = some none)
    (n_max : PySem.W.nsIn K mainGlobals "max" = some none)
    (n_min : PySem.W.nsIn K mainGlobals "min" = some none)
    (n_list : PySem.W.nsIn K mainGlobals "list" = some none)
    (n_range : PySem.W.nsIn K mainGlobals "range" = some none)
    (n_all : PySem.W.nsIn K mainGlobals "all" = some none)
    (n_tuple : PySem.W.nsIn K mainGlobals "tuple" = some none)
    (n_sum : PySem.W.nsIn K mainGlobals "sum" = some none)
    (n_zip : PySem.W.nsIn K mainGlobals "zip" = some none)
    (n_isinstance : PySem.W.nsIn K mainGlobals "isinstance" = some none)
    (n_bool : PySem.W.nsIn K mainGlobals "bool" = some none)
    (n_str : PySem.W.nsIn K mainGlobals "str" = some none)
    (n_set : PySem.W.nsIn K mainGlobals "set" = some none)
    (n_repr : PySem.W.nsIn K mainGlobals "repr" = some none)
    (n_enumerate : PySem.W.nsIn K mainGlobals "enumerate" = some none)
    (c40 : ∃ u, PySem.W.nsIn K mainGlobals "MOST_COUNTED" = some (some u) ∧ RelV (.int 40) u)
    (c8 : ∃ u, PySem.W.nsIn K mainGlobals "LONGEST_NAME" = some (some u) ∧ RelV (.int 8) u)
    (c4 : ∃ u, PySem.W.nsIn K mainGlobals "MOST_JOBS" = some (some u) ∧ RelV (.int 4) u)
    (cm : ∃ u, PySem.W.nsIn K mainGlobals "NO_COUNT" = some (some u) ∧ RelV (.int (-1)) u)
    (cT : ∃ p, PySem.W.nsIn K mainGlobals "MOST_TOLD" = some (some (.ref p)) ∧ KDct K w p "let" (.int 24) ∧ KDct K w p "not" (.int 6) ∧ KDct K w p "as" (.int 4))
    (cL : ∃ p, PySem.W.nsIn K mainGlobals "LINED_MANNERS" = some (some (.ref p)) ∧ ∀ H, SqT K H p (lined3.map V.str))
    (cl : Cls K C)
    (nT : NoAttr K C "text")
    (nJ : NoAttr K C "jobs")
    (nM : NoAttr K C "manners")
    (nF : NoAttr K C "first")
    (nH : NoAttr K C "head")
    (nA : NoAttr K C "facts")
    (mk : PySem.W.makesIn K C = true)
    (kc : PySem.W.keepIn K (.ref C) = true)
    (e1 : PySem.W.subIn K (.ref CE) (.type "BaseException") = some true)
    (e2 : PySem.W.hasDictIn K CE = true)
    (e3 : PySem.W.typeIn K (.ref CE) = some (.type "type")) :
    ∃ (fd : FuncData) (cs : List (Addr × Addr)), (∀ p ∈ cs, p.2 ∈ ts ∧ K.lookup p.2 = none ∧ PySem.W.codeHdIn K p.1 p.2 = true) ∧ (∀ (s : Shared) (u : Value), BindsTo s fd ⟨[u], []⟩ [("_law_script", u)]) ∧
      ∀ base : Heap, K.In base → base.Ns mainGlobals mg → (∀ p ∈ cs, TabB base mg p.1 p.2) → FnG P w K mg base 13 fa fd ["_law_script"] (spLaw0t K (cs.map (·.2))) := by
  have Z : ∀ {x : Str}, PySem.W.nsIn K mainGlobals x = some none → mg x = none := fun e => PySem.W.mg_none_of X G e
  have O : ∀ {x : Str} {u : Value}, PySem.W.nsIn K mainGlobals x = some (some u) → mg x = some u := fun e => PySem.W.mg_of X G e
  obtain ⟨fT_pot, _, _, _, _, _, _, _, _, _, gT_pot, lT_pot, cT_pot, kT_pot⟩ := dT_pot
  have FT_pot := fun_mk (st := sPot) lT_pot cT_pot kT_pot
  have bT_pot := FT_pot.binds (ps := ["_law_script", "_law_place"]) fun _ _ _ _ _ _ us hl => match us, hl with | [_, _], _ => rfl
  have AT_pot : At K mg "_law_pot" sPot ["_law_script", "_law_place"] fT_pot _ := ⟨FT_pot, O gT_pot, bT_pot⟩
  obtain ⟨fT_take, _, _, _, _, _, _, _, _, _, gT_take, lT_take, cT_take, kT_take⟩ := dT_take
  have FT_take := fun_mk (st := sTake) lT_take cT_take kT_take
  have bT_take := FT_take.binds (ps := ["_law_pot_here", "_law_upto"]) fun _ _ _ _ _ _ us hl => match us, hl with | [_, _], _ => rfl
  have AT_take : At K mg "_law_take" sTake ["_law_pot_here", "_law_upto"] fT_take _ := ⟨FT_take, O gT_take, bT_take⟩
  obtain ⟨fT_of, _, _, _, _, _, _, _, _, _, gT_of, lT_of, cT_of, kT_of⟩ := dT_of
  have FT_of := fun_mk (st := sOf) lT_of cT_of kT_of
  have bT_of := FT_of.binds (ps := ["_law_pot_here", "_law_some_here"]) fun _ _ _ _ _ _ us hl => match us, hl with | [_, _], _ => rfl
  have AT_of : At K mg "_law_of" sOf ["_law_pot_here", "_law_some_here"] fT_of _ := ⟨FT_of, O gT_of, bT_of⟩
  obtain ⟨fT_some, _, _, _, _, _, _, _, _, _, gT_some, lT_some, cT_some, kT_some⟩ := dT_some
  have FT_some := fun_mk (st := sSome) lT_some cT_some kT_some
  have bT_some := FT_some.binds (ps := ["_law_pot_here", "_law_pool", "_law_many"]) fun _ _ _ _ _ _ us hl => match us, hl with | [_, _, _], _ => rfl
  have AT_some : At K mg "_law_some" sSome ["_law_pot_here", "_law_pool", "_law_many"] fT_some _ := ⟨FT_some, O gT_some, bT_some⟩
  obtain ⟨fT_cells, _, _, _, _, _, _, _, _, _, gT_cells, lT_cells, cT_cells, kT_cells⟩ := dT_cells
  have FT_cells := fun_mk (st := sCells) lT_cells cT_cells kT_cells
  have bT_cells := FT_cells.binds (ps := ["_law_script", "_law_most"]) fun _ _ _ _ _ _ us hl => match us, hl with | [_, _], _ => rfl
  have AT_cells : At K mg "_law_cells" sCells ["_law_script", "_law_most"] fT_cells _ := ⟨FT_cells, O gT_cells, bT_cells⟩
  obtain ⟨fT_told, _, _, _, _, _, _, _, _, _, gT_told, lT_told, cT_told, kT_told⟩ := dT_told
  have FT_told := fun_mk (st := sTold) lT_told cT_told kT_told
  have bT_told := FT_told.binds (ps := ["_law_look"]) fun _ _ _ _ _ _ us hl => match us, hl with | [_], _ => rfl
  have AT_told : At K mg "_law_told" sTold ["_law_look"] fT_told _ := ⟨FT_told, O gT_told, bT_told⟩
  obtain ⟨fT_names, _, _, _, _, _, _, _, _, _, gT_names, lT_names, cT_names, kT_names⟩ := dT_names
  have FT_names := fun_mk (st := sNames) lT_names cT_names kT_names
  have bT_names := FT_names.binds (ps := ["_law_pot_here", "_law_many"]) fun _ _ _ _ _ _ us hl => match us, hl with | [_, _], _ => rfl
  have AT_names : At K mg "_law_names" sNames ["_law_pot_here", "_law_many"] fT_names _ := ⟨FT_names, O gT_names, bT_names⟩
  obtain ⟨fT_jobs, _, _, _, _, _, _, _, _, _, gT_jobs, lT_jobs, cT_jobs, kT_jobs⟩ := dT_jobs
  have FT_jobs := fun_mk (st := sJobs) lT_jobs cT_jobs kT_jobs
  have bT_jobs := FT_jobs.binds (ps := ["_law_pot_here", "_law_most", "_law_manners"]) fun _ _ _ _ _ _ us hl => match us, hl with | [_, _, _], _ => rfl
  have AT_jobs : At K mg "_law_jobs" sJobs ["_law_pot_here", "_law_most", "_law_manners"] fT_jobs _ := ⟨FT_jobs, O gT_jobs, bT_jobs⟩
  obtain ⟨fT_any, _, _, _, _, _, _, _, _, _, gT_any, lT_any, cT_any, kT_any⟩ := dT_any
  have FT_any := fun_mk (st := sAnyManners) lT_any cT_any kT_any
  have bT_any := FT_any.binds (ps := []) fun _ _ _ _ _ _ us hl => match us, hl with | [], _ => rfl
  have AT_any : At K mg "_law_any_manners" sAnyManners [] fT_any _ := ⟨FT_any, O gT_any, bT_any⟩
  obtain ⟨fT_first, _, _, _, _, _, _, _, _, _, gT_first, lT_first, cT_first, kT_first⟩ := dT_first
  have FT_first := fun_mk (st := sFirst) lT_first cT_first kT_first
  have bT_first := FT_first.binds (ps := ["_law_jobs_here"]) fun _ _ _ _ _ _ us hl => match us, hl with | [_], _ => rfl
  have AT_first : At K mg "_law_first" sFirst ["_law_jobs_here"] fT_first _ := ⟨FT_first, O gT_first, bT_first⟩
  obtain ⟨fT_behind, _, _, _, _, _, _, _, _, _, gT_behind, lT_behind, cT_behind, kT_behind⟩ := dT_behind
  have FT_behind := fun_mk (st := sBehind) lT_behind cT_behind kT_behind
  have bT_behind := FT_behind.binds (ps := ["_law_jobs_here", "_law_standing", "_law_event"]) fun _ _ _ _ _ _ us hl => match us, hl with | [_, _, _], _ => rfl
  have AT_behind : At K mg "_law_behind" sBehind ["_law_jobs_here", "_law_standing", "_law_event"] fT_behind _ := ⟨FT_behind, O gT_behind, bT_behind⟩
  obtain ⟨fT_cancome, _, _, _, _, _, _, _, _, _, gT_cancome, lT_cancome, cT_cancome, kT_cancome⟩ := dT_cancome
  have FT_cancome := fun_mk (st := sCanCome) lT_cancome cT_cancome kT_cancome
  have bT_cancome := FT_cancome.binds (ps := ["_law_jobs_here", "_law_standing", "_law_event"]) fun _ _ _ _ _ _ us hl => match us, hl with | [_, _, _], _ => rfl
  have AT_cancome : At K mg "_law_can_come" sCanCome ["_law_jobs_here", "_law_standing", "_law_event"] fT_cancome _ := ⟨FT_cancome, O gT_cancome, bT_cancome⟩
  obtain ⟨fT_events, _, _, _, _, _, _, _, _, _, gT_events, lT_events, cT_events, kT_events⟩ := dT_events
  have FT_events := fun_mk (st := sEvents) lT_events cT_events kT_events
  have bT_events := FT_events.binds (ps := ["_law_jobs_here", "_law_standing"]) fun _ _ _ _ _ _ us hl => match us, hl with | [_, _], _ => rfl
  have AT_events : At K mg "_law_events" sEvents ["_law_jobs_here", "_law_standing"] fT_events _ := ⟨FT_events, O gT_events, bT_events⟩
  obtain ⟨fT_change, _, _, _, _, _, _, _, _, _, gT_change, lT_change, cT_change, kT_change⟩ := dT_change
  have FT_change := fun_mk (st := sChange) lT_change cT_change kT_change
  have bT_change := FT_change.binds (ps := ["_law_pot_here", "_law_manner", "_law_size"]) fun _ _ _ _ _ _ us hl => match us, hl with | [_, _, _], _ => rfl
  have AT_change : At K mg "_law_change" sChange ["_law_pot_here", "_law_manner", "_law_size"] fT_change _ := ⟨FT_change, O gT_change, bT_change⟩
  obtain ⟨fT_stock, _, _, _, _, _, _, _, _, _, gT_stock, lT_stock, cT_stock, kT_stock⟩ := dT_stock
  have FT_stock := fun_mk (st := sStock) lT_stock cT_stock kT_stock
  have bT_stock := FT_stock.binds (ps := ["_law_pot_here", "_law_jobs_here", "_law_size"]) fun _ _ _ _ _ _ us hl => match us, hl with | [_, _, _], _ => rfl
  have AT_stock : At K mg "_law_stock" sStock ["_law_pot_here", "_law_jobs_here", "_law_size"] fT_stock _ := ⟨FT_stock, O gT_stock, bT_stock⟩
  obtain ⟨fT_level, _, _, _, _, _, _, _, _, _, gT_level, lT_level, cT_level, kT_level⟩ := dT_level
  have FT_level := fun_mk (st := sLevel) lT_level cT_level kT_level
  have bT_level := FT_level.binds (ps := ["_law_stock_here", "_law_standing"]) fun _ _ _ _ _ _ us hl => match us, hl with | [_, _], _ => rfl
  have AT_level : At K mg "_law_level" sLevel ["_law_stock_here", "_law_standing"] fT_level _ := ⟨FT_level, O gT_level, bT_level⟩
  obtain ⟨fT_lets, _, _, _, _, _, _, _, _, _, gT_lets, lT_lets, cT_lets, kT_lets⟩ := dT_lets
  have FT_lets := fun_mk (st := sLets) lT_lets cT_lets kT_lets
  have bT_lets := FT_lets.binds (ps := ["_law_stocks", "_law_standing"]) fun _ _ _ _ _ _ us hl => match us, hl with | [_, _], _ => rfl
  have AT_lets : At K mg "_law_lets" sLets ["_law_stocks", "_law_standing"] fT_lets _ := ⟨FT_lets, O gT_lets, bT_lets⟩
  obtain ⟨fT_heard, _, _, _, _, _, _, _, _, _, gT_heard, lT_heard, cT_heard, kT_heard⟩ := dT_heard
  have FT_heard := fun_mk (st := sHeardFacts) lT_heard cT_heard kT_heard
  have bT_heard := FT_heard.binds (ps := ["_law_pot_here", "_law_jobs_here", "_law_stocks", "_law_days", "_law_most"]) fun _ _ _ _ _ _ us hl => match us, hl with | [_, _, _, _, _], _ => rfl
  have AT_heard : At K mg "_law_heard_facts" sHeardFacts ["_law_pot_here", "_law_jobs_here", "_law_stocks", "_law_days", "_law_most"] fT_heard _ := ⟨FT_heard, O gT_heard, bT_heard⟩
  obtain ⟨fT_alike, _, _, _, _, _, _, _, _, _, gT_alike, lT_alike, cT_alike, kT_alike⟩ := dT_alike
  have FT_alike := fun_mk (st := sAlikeFacts) lT_alike cT_alike kT_alike
  have bT_alike := FT_alike.binds (ps := ["_law_pot_here", "_law_stocks", "_law_met", "_law_many"]) fun _ _ _ _ _ _ us hl => match us, hl with | [_, _, _, _], _ => rfl
  have AT_alike : At K mg "_law_alike_facts" sAlikeFacts ["_law_pot_here", "_law_stocks", "_law_met", "_law_many"] fT_alike _ := ⟨FT_alike, O gT_alike, bT_alike⟩
  obtain ⟨fT_few, _, _, _, _, _, _, _, _, _, gT_few, lT_few, cT_few, kT_few⟩ := dT_few
  have FT_few := fun_mk (st := sFew) lT_few cT_few kT_few
  have bT_few := FT_few.binds (ps := ["_law_facts", "_law_lets_here", "_law_nots", "_law_ases"]) fun _ _ _ _ _ _ us hl => match us, hl with | [_, _, _, _], _ => rfl
  have AT_few : At K mg "_law_few" sFew ["_law_facts", "_law_lets_here", "_law_nots", "_law_ases"] fT_few _ := ⟨FT_few, O gT_few, bT_few⟩
  obtain ⟨fT_lore, _, _, _, _, _, _, _, _, _, gT_lore, lT_lore, cT_lore, kT_lore⟩ := dT_lore
  have FT_lore := fun_mk (st := sLore) lT_lore cT_lore kT_lore
  have bT_lore := FT_lore.binds (ps := ["_law_pot_here", "_law_most", "_law_manners", "_law_sizes"]) fun _ _ _ _ _ _ us hl => match us, hl with | [_, _, _, _], _ => rfl
  have AT_lore : At K mg "_law_lore" sLore ["_law_pot_here", "_law_most", "_law_manners", "_law_sizes"] fT_lore _ := ⟨FT_lore, O gT_lore, bT_lore⟩
  obtain ⟨fT_stext, _, _, _, _, _, _, _, _, _, gT_stext, lT_stext, cT_stext, kT_stext⟩ := dT_stext
  have FT_stext := fun_mk (st := sStandingText) lT_stext cT_stext kT_stext
  have bT_stext := FT_stext.binds (ps := ["_law_standing"]) fun _ _ _ _ _ _ us hl => match us, hl with | [_], _ => rfl
  have AT_stext : At K mg "_law_standing_text" sStandingText ["_law_standing"] fT_stext _ := ⟨FT_stext, O gT_stext, bT_stext⟩
  obtain ⟨fT_fline, _, _, _, _, _, _, _, _, _, gT_fline, lT_fline, cT_fline, kT_fline⟩ := dT_fline
  have FT_fline := fun_mk (st := sFactLine) lT_fline cT_fline kT_fline
  have bT_fline := FT_fline.binds (ps := ["_law_fact"]) fun _ _ _ _ _ _ us hl => match us, hl with | [_], _ => rfl
  have AT_fline : At K mg "_law_fact_line" sFactLine ["_law_fact"] fT_fline _ := ⟨FT_fline, O gT_fline, bT_fline⟩
  obtain ⟨fT_lines, _, _, _, _, _, _, _, _, _, gT_lines, lT_lines, cT_lines, kT_lines⟩ := dT_lines
  have FT_lines := fun_mk (st := sLines) lT_lines cT_lines kT_lines
  have bT_lines := FT_lines.binds (ps := ["_law_lore_here"]) fun _ _ _ _ _ _ us hl => match us, hl with | [_], _ => rfl
  have AT_lines : At K mg "_law_lines" sLines ["_law_lore_here"] fT_lines _ := ⟨FT_lines, O gT_lines, bT_lines⟩
  obtain ⟨fT_cntl, _, _, _, _, _, _, _, _, _, gT_cntl, lT_cntl, cT_cntl, kT_cntl⟩ := dT_cntl
  have FT_cntl := fun_mk (st := sCountIn) lT_cntl cT_cntl kT_cntl
  have bT_cntl := FT_cntl.binds (ps := ["_law_word"]) fun _ _ _ _ _ _ us hl => match us, hl with | [_], _ => rfl
  have AT_cntl : At K mg "_law_count_in" sCountIn ["_law_word"] fT_cntl _ := ⟨FT_cntl, O gT_cntl, bT_cntl⟩
  obtain ⟨fT_namel, _, _, _, _, _, _, _, _, _, gT_namel, lT_namel, cT_namel, kT_namel⟩ := dT_namel
  have FT_namel := fun_mk (st := sIsName) lT_namel cT_namel kT_namel
  have bT_namel := FT_namel.binds (ps := ["_law_word"]) fun _ _ _ _ _ _ us hl => match us, hl with | [_], _ => rfl
  have AT_namel : At K mg "_law_is_name" sIsName ["_law_word"] fT_namel _ := ⟨FT_namel, O gT_namel, bT_namel⟩
  obtain ⟨fT_stnw, _, _, _, _, _, _, _, _, _, gT_stnw, lT_stnw, cT_stnw, kT_stnw⟩ := dT_stnw
  have FT_stnw := fun_mk (st := sStnIn) lT_stnw cT_stnw kT_stnw
  have bT_stnw := FT_stnw.binds (ps := ["_law_words", "_law_many"]) fun _ _ _ _ _ _ us hl => match us, hl with | [_, _], _ => rfl
  have AT_stnw : At K mg "_law_standing_in" sStnIn ["_law_words", "_law_many"] fT_stnw _ := ⟨FT_stnw, O gT_stnw, bT_stnw⟩
  obtain ⟨fT_factw, _, _, _, _, _, _, _, _, _, gT_factw, lT_factw, cT_factw, kT_factw⟩ := dT_factw
  have FT_factw := fun_mk (st := sFactIn) lT_factw cT_factw kT_factw
  have bT_factw := FT_factw.binds (ps := ["_law_words", "_law_many"]) fun _ _ _ _ _ _ us hl => match us, hl with | [_, _], _ => rfl
  have AT_factw : At K mg "_law_fact_in" sFactIn ["_law_words", "_law_many"] fT_factw _ := ⟨FT_factw, O gT_factw, bT_factw⟩
  obtain ⟨fT_read, _, _, _, _, _, _, _, _, _, gT_read, lT_read, cT_read, kT_read⟩ := dT_read
  have FT_read := fun_mk (st := sRead) lT_read cT_read kT_read
  have bT_read := FT_read.binds (ps := ["_law_text"]) fun _ _ _ _ _ _ us hl => match us, hl with | [_], _ => rfl
  have AT_read : At K mg "_law_read" sRead ["_law_text"] fT_read _ := ⟨FT_read, O gT_read, bT_read⟩
  obtain ⟨fT_spoilt, _, _, _, _, _, _, _, _, _, gT_spoilt, lT_spoilt, cT_spoilt, kT_spoilt⟩ := dT_spoilt
  have FT_spoilt := fun_mk (st := sSpoilt) lT_spoilt cT_spoilt kT_spoilt
  have bT_spoilt := FT_spoilt.binds (ps := ["_law_pot_here", "_law_rows"]) fun _ _ _ _ _ _ us hl => match us, hl with | [_, _], _ => rfl
  have AT_spoilt : At K mg "_law_spoilt" sSpoilt ["_law_pot_here", "_law_rows"] fT_spoilt _ := ⟨FT_spoilt, O gT_spoilt, bT_spoilt⟩
  obtain ⟨fT_bounds, _, _, _, _, _, _, _, _, _, gT_bounds, lT_bounds, cT_bounds, kT_bounds⟩ := dT_bounds
  have FT_bounds := fun_mk (st := sBounds) lT_bounds cT_bounds kT_bounds
  have bT_bounds := FT_bounds.binds (ps := ["_law_pot_here"]) fun _ _ _ _ _ _ us hl => match us, hl with | [_], _ => rfl
  have AT_bounds : At K mg "_law_are_bounds_right" sBounds ["_law_pot_here"] fT_bounds _ := ⟨FT_bounds, O gT_bounds, bT_bounds⟩
  obtain ⟨fT_law, oc0, od0, an0, osl0, kV0, doc0, pm0, cdv0, ct0, gT_law, lT_law, cT_law, kT_law⟩ := dT_law
  have e := hfa.symm.trans (O gT_law)
  cases e
  have FT_law := fun_mk (st := sLaw0) lT_law cT_law kT_law
  have bT_law := FT_law.binds (ps := ["_law_script"]) fun _ _ _ _ _ _ us hl => match us, hl with | [_], _ => rfl
  obtain ⟨fP_isint, _, _, _, _, _, _, _, _, _, gP_isint, lP_isint, cP_isint, kP_isint⟩ := dP_isint
  have FP_isint := fun_mk (st := pIsInt) lP_isint cP_isint kP_isint
  have bP_isint := FP_isint.binds (ps := ["value"]) fun _ _ _ _ _ _ us hl => match us, hl with | [_], _ => rfl
  have AP_isint : At K mg "is_integer" pIsInt ["value"] fP_isint _ := ⟨FP_isint, O gP_isint, bP_isint⟩
  obtain ⟨fP_isnumb, _, _, _, _, _, _, _, _, _, gP_isnumb, lP_isnumb, cP_isnumb, kP_isnumb⟩ := dP_isnumb
  have FP_isnumb := fun_mk (st := pIsNumb) lP_isnumb cP_isnumb kP_isnumb
  have bP_isnumb := FP_isnumb.binds (ps := ["value", "many"]) fun _ _ _ _ _ _ us hl => match us, hl with | [_, _], _ => rfl
  have AP_isnumb : At K mg "is_number" pIsNumb ["value", "many"] fP_isnumb _ := ⟨FP_isnumb, O gP_isnumb, bP_isnumb⟩
  obtain ⟨fP_isword, _, _, _, _, _, _, _, _, _, gP_isword, lP_isword, cP_isword, kP_isword⟩ := dP_isword
  have FP_isword := fun_mk (st := pIsWord) lP_isword cP_isword kP_isword
  have bP_isword := FP_isword.binds (ps := ["value", "words"]) fun _ _ _ _ _ _ us hl => match us, hl with | [_, _], _ => rfl
  have AP_isword : At K mg "is_word" pIsWord ["value", "words"] fP_isword _ := ⟨FP_isword, O gP_isword, bP_isword⟩
  obtain ⟨fP_isname, _, _, _, _, _, _, _, _, _, gP_isname, lP_isname, cP_isname, kP_isname⟩ := dP_isname
  have FP_isname := fun_mk (st := pIsName) lP_isname cP_isname kP_isname
  have bP_isname := FP_isname.binds (ps := ["text"]) fun _ _ _ _ _ _ us hl => match us, hl with | [_], _ => rfl
  have AP_isname : At K mg "is_name" pIsName ["text"] fP_isname _ := ⟨FP_isname, O gP_isname, bP_isname⟩
  obtain ⟨fP_ispair, _, _, _, _, _, _, _, _, _, gP_ispair, lP_ispair, cP_ispair, kP_ispair⟩ := dP_ispair
  have FP_ispair := fun_mk (st := pIsPair) lP_ispair cP_ispair kP_ispair
  have bP_ispair := FP_ispair.binds (ps := ["value"]) fun _ _ _ _ _ _ us hl => match us, hl with | [_], _ => rfl
  have AP_ispair : At K mg "is_pair" pIsPair ["value"] fP_ispair _ := ⟨FP_ispair, O gP_ispair, bP_ispair⟩
  obtain ⟨fP_isstn, _, _, _, _, _, _, _, _, _, gP_isstn, lP_isstn, cP_isstn, kP_isstn⟩ := dP_isstn
  have FP_isstn := fun_mk (st := pIsStn) lP_isstn cP_isstn kP_isstn
  have bP_isstn := FP_isstn.binds (ps := ["value", "many"]) fun _ _ _ _ _ _ us hl => match us, hl with | [_, _], _ => rfl
  have AP_isstn : At K mg "is_standing" pIsStn ["value", "many"] fP_isstn _ := ⟨FP_isstn, O gP_isstn, bP_isstn⟩
  obtain ⟨fP_isfact, _, _, _, _, _, _, _, _, _, gP_isfact, lP_isfact, cP_isfact, kP_isfact⟩ := dP_isfact
  have FP_isfact := fun_mk (st := pIsFact) lP_isfact cP_isfact kP_isfact
  have bP_isfact := FP_isfact.binds (ps := ["value", "many"]) fun _ _ _ _ _ _ us hl => match us, hl with | [_, _], _ => rfl
  have AP_isfact : At K mg "is_fact" pIsFact ["value", "many"] fP_isfact _ := ⟨FP_isfact, O gP_isfact, bP_isfact⟩
  obtain ⟨fP_isfull, _, _, _, _, _, _, _, _, _, gP_isfull, lP_isfull, cP_isfull, kP_isfull⟩ := dP_isfull
  have FP_isfull := fun_mk (st := pIsFull) lP_isfull cP_isfull kP_isfull
  have bP_isfull := FP_isfull.binds (ps := ["facts", "kind"]) fun _ _ _ _ _ _ us hl => match us, hl with | [_, _], _ => rfl
  have AP_isfull : At K mg "is_full" pIsFull ["facts", "kind"] fP_isfull _ := ⟨FP_isfull, O gP_isfull, bP_isfull⟩
  obtain ⟨fP_rdjobs, _, _, _, _, _, _, _, _, _, gP_rdjobs, lP_rdjobs, cP_rdjobs, kP_rdjobs⟩ := dP_rdjobs
  have FP_rdjobs := fun_mk (st := pReadJobs) lP_rdjobs cP_rdjobs kP_rdjobs
  have bP_rdjobs := FP_rdjobs.binds (ps := ["line"]) fun _ _ _ _ _ _ us hl => match us, hl with | [_], _ => rfl
  have AP_rdjobs : At K mg "read_jobs" pReadJobs ["line"] fP_rdjobs _ := ⟨FP_rdjobs, O gP_rdjobs, bP_rdjobs⟩
  obtain ⟨fP_rdman, _, _, _, _, _, _, _, _, _, gP_rdman, lP_rdman, cP_rdman, kP_rdman⟩ := dP_rdman
  have FP_rdman := fun_mk (st := pReadManners) lP_rdman cP_rdman kP_rdman
  have bP_rdman := FP_rdman.binds (ps := ["lines", "jobs"]) fun _ _ _ _ _ _ us hl => match us, hl with | [_, _], _ => rfl
  have AP_rdman : At K mg "read_manners" pReadManners ["lines", "jobs"] fP_rdman _ := ⟨FP_rdman, O gP_rdman, bP_rdman⟩
  obtain ⟨fP_rdfacts, _, _, _, _, _, _, _, _, _, gP_rdfacts, lP_rdfacts, cP_rdfacts, kP_rdfacts⟩ := dP_rdfacts
  have FP_rdfacts := fun_mk (st := pReadFacts) lP_rdfacts cP_rdfacts kP_rdfacts
  have bP_rdfacts := FP_rdfacts.binds (ps := ["lines", "start", "many"]) fun _ _ _ _ _ _ us hl => match us, hl with | [_, _, _], _ => rfl
  have AP_rdfacts : At K mg "read_facts" pReadFacts ["lines", "start", "many"] fP_rdfacts _ := ⟨FP_rdfacts, O gP_rdfacts, bP_rdfacts⟩
  obtain ⟨fP_rdfact, _, _, _, _, _, _, _, _, _, gP_rdfact, lP_rdfact, cP_rdfact, kP_rdfact⟩ := dP_rdfact
  have FP_rdfact := fun_mk (st := pReadFact) lP_rdfact cP_rdfact kP_rdfact
  have bP_rdfact := FP_rdfact.binds (ps := ["words", "many"]) fun _ _ _ _ _ _ us hl => match us, hl with | [_, _], _ => rfl
  have AP_rdfact : At K mg "read_fact" pReadFact ["words", "many"] fP_rdfact _ := ⟨FP_rdfact, O gP_rdfact, bP_rdfact⟩
  obtain ⟨fP_rdstn, _, _, _, _, _, _, _, _, _, gP_rdstn, lP_rdstn, cP_rdstn, kP_rdstn⟩ := dP_rdstn
  have FP_rdstn := fun_mk (st := pReadStn) lP_rdstn cP_rdstn kP_rdstn
  have bP_rdstn := FP_rdstn.binds (ps := ["words"]) fun _ _ _ _ _ _ us hl => match us, hl with | [_], _ => rfl
  have AP_rdstn : At K mg "read_standing" pReadStn ["words"] fP_rdstn _ := ⟨FP_rdstn, O gP_rdstn, bP_rdstn⟩
  obtain ⟨fP_rdcount, _, _, _, _, _, _, _, _, _, gP_rdcount, lP_rdcount, cP_rdcount, kP_rdcount⟩ := dP_rdcount
  have FP_rdcount := fun_mk (st := pReadCount) lP_rdcount cP_rdcount kP_rdcount
  have bP_rdcount := FP_rdcount.binds (ps := ["word"]) fun _ _ _ _ _ _ us hl => match us, hl with | [_], _ => rfl
  have AP_rdcount : At K mg "read_count" pReadCount ["word"] fP_rdcount _ := ⟨FP_rdcount, O gP_rdcount, bP_rdcount⟩
  obtain ⟨fP_isnumeral, _, _, _, _, _, _, _, _, _, gP_isnumeral, lP_isnumeral, cP_isnumeral, kP_isnumeral⟩ := dP_isnumeral
  have FP_isnumeral := fun_mk (st := pIsNumeral) lP_isnumeral cP_isnumeral kP_isnumeral
  have bP_isnumeral := FP_isnumeral.binds (ps := ["text"]) fun _ _ _ _ _ _ us hl => match us, hl with | [_], _ => rfl
  have AP_isnumeral : At K mg "is_numeral" pIsNumeral ["text"] fP_isnumeral _ := ⟨FP_isnumeral, O gP_isnumeral, bP_isnumeral⟩
  obtain ⟨fM_init, _, _, _, _, _, _, _, _, _, gM_init, iM_init, lM_init, cM_init, kM_init⟩ := dM_init
  have FM_init := fun_mk (st := pInit) lM_init cM_init kM_init
  have bM_init := FM_init.binds (ps := ["self", "text"]) fun _ _ _ _ _ _ us hl => match us, hl with | [_, _], _ => rfl
  obtain ⟨fErJ, _, _, _, _, _, _, _, _, _, EErJ, tErJ, lErJ, cErJ, kErJ⟩ := dErJ
  have FErJ := fun_mk (st := sInit) lErJ cErJ kErJ
  have bErJ := FErJ.binds (ps := ["self", "value"]) fun _ _ _ _ _ _ us hl => match us, hl with | [_, _], _ => rfl
  have mErJ := exm_of e1 e2 e3 xErJ
  obtain ⟨P0, P1, hJd, hRt, n01⟩ := dLam
  obtain ⟨fJd, _, _, _, _, _, _, _, jJd, _, _, _, _, _, gJd, lJd, cJd, kJd, _, _, hdJd, noJd, inJd⟩ := hJd
  have FJd := fun_mk (st := sJudged) lJd cJd kJd
  have bJd := FJd.binds (ps := ["_law_text"]) fun _ _ _ _ _ _ us hl => match us, hl with | [_], _ => rfl
  obtain ⟨fRt, _, _, _, _, _, _, _, jRt, _, _, _, _, _, gRt, lRt, cRt, kRt, _, _, hdRt, noRt, inRt⟩ := hRt
  have FRt := fun_mk (st := sRight1) lRt cRt kRt
  have bRt := FRt.binds (ps := ["_law_pot_here"]) fun _ _ _ _ _ _ us hl => match us, hl with | [_], _ => rfl
  obtain ⟨u40, e40, r40⟩ := c40
  obtain ⟨u8, e8, r8⟩ := c8
  obtain ⟨u4, e4', r4⟩ := c4
  obtain ⟨um, em, rm⟩ := cm
  obtain ⟨pT, eT, t1, t2, t3⟩ := cT
  obtain ⟨pL, eL, tL⟩ := cL
  have TA : TxtA mg := ⟨Z n_len, Z n_abs, Z n_int, Z n_max, Z n_min, Z n_list, Z n_range⟩
  have S : Small1 K mg := ⟨TA, Z n_all, Z n_tuple, Z n_sum, Z n_zip⟩
  have FS : Forms1 mg := ⟨Z n_isinstance, Z n_int, Z n_bool, Z n_str, Z n_tuple, Z n_len, Z n_all, ⟨u40, O e40, r40⟩⟩
  have RS : Reads1 mg := ⟨FS, ⟨um, O em, rm⟩, Z n_range⟩
  have TT : Told K w mg := told_of (O eT) t1 t2 t3
  have LL : Lined K mg := ⟨pL, O eL, tL⟩
  have BC : BookC K mg C := ⟨cl, nT, nJ, nM, nF, nH, nA, O aC⟩
  have RD : Reader K mg _ _ _ _ _ _ _ _ _ _ _ _ _ _ _ _ _ _ _ _ := ⟨AP_isint, AP_isnumb, AP_isword, AP_ispair, AP_isstn, AP_isfact, AP_isfull, AP_rdfact, AP_rdstn, ⟨AP_rdcount, ⟨_, _, AP_isnumeral⟩⟩⟩
  refine ⟨PySem.W.fnOf "law" "law" (defArgs sLaw0) (defBody sLaw0) (defScope sLaw0) .none kV0 doc0 pm0 an0 cdv0 ct0, [(jJd, P0), (jRt, P1)], fun p hp => ?_, fun s v => .of_eq rfl, fun base _ _ TBs => ?_⟩
  · simp only [List.mem_cons, List.not_mem_nil, or_false] at hp
    rcases hp with rfl | rfl
    · exact ⟨inJd, noJd, hdJd⟩
    · exact ⟨inRt, noRt, hdRt⟩
  have TBJd : TabB base mg jJd P0 := TBs (jJd, P0) (by simp)
  have TBRt : TabB base mg jRt P1 := TBs (jRt, P1) (by simp)
  have GXJ := ok_einit (P := P) (w := w) (mg := mg) (base := base) FErJ
  have BB : BadB P w K mg base CJ _ _ := ⟨EErJ, tErJ, O aCJ, bErJ, GXJ⟩
  have GI := okx_init (P := P) (w := w) (base := base) FM_init BC RS BB (O gP_rdjobs) bP_rdjobs kP_rdjobs (okx_rdjobs FP_rdjobs RS BB AP_isname ⟨u8, O e8, r8⟩ ⟨u4, O e4', r4⟩ (Z n_set)) (O gP_rdman) bP_rdman kP_rdman (okx_rdman FP_rdman RS LL) (O gP_rdfacts) bP_rdfacts kP_rdfacts (okx_rdfacts FP_rdfacts RS TT BB RD)
  have MK : Mk K C fM_init := ⟨mk, gM_init, iM_init, kc⟩
  have GLi := ok_lines (P := P) (w := w) (base := base) FT_lines (Z n_str) AT_stext AT_fline
  have GTk := ok_take (P := P) (w := w) (base := base) FT_take TA
  have DR : Drawer K mg _ _ _ _ _ _ _ _ _ _ _ _ _ _ _ _ _ _ _ _ _ _ _ _ _ _ _ _ _ _ _ _ := ⟨AT_take, AT_of, AT_some, AT_names, AT_jobs, AT_first, AT_behind, AT_cancome, AT_events, AT_change, AT_stock, AT_level, AT_lets, AT_heard, AT_alike, AT_few⟩
  have GLo := ok_lore (P := P) (w := w) (base := base) FT_lore S DR
  have GNm := ok_names (P := P) (w := w) (base := base) FT_names TA FT_take (O gT_take) bT_take FT_some (O gT_some) bT_some
  have GSp := ok_spoilt (P := P) (w := w) (base := base) FT_spoilt TA FT_take (O gT_take) bT_take FT_of (O gT_of) bT_of
  have GRd := ok_readL (P := P) (w := w) (base := base) FT_read RS (Z n_enumerate) (Z n_set) AT_cntl AT_stnw AT_namel AT_factw
  have mJ : (P0, lamQ "_law_is_judged") ∈ tq01 [P0, P1] := by simp [tq01]
  have uJ : ∀ p ∈ tq01 [P0, P1], p.1 = P0 → p.2 = lamQ "_law_is_judged" := fun p hp e => by
    simp only [tq01, List.zip_cons_cons, List.zip_nil_right, List.mem_cons, List.not_mem_nil, or_false] at hp
    rcases hp with rfl | rfl
    · rfl
    · exact absurd e.symm n01
  have mR : (P1, lamQ "_law_right") ∈ tq01 [P0, P1] := by simp [tq01]
  have uR : ∀ p ∈ tq01 [P0, P1], p.1 = P1 → p.2 = lamQ "_law_right" := fun p hp e => by
    simp only [tq01, List.zip_cons_cons, List.zip_nil_right, List.mem_cons, List.not_mem_nil, or_false] at hp
    rcases hp with rfl | rfl
    · exact absurd e n01
    · rfl
  have GJd := ok_judged (P := P) (w := w) (base := base) (CB := C) lJd cJd TBJd mJ uJ BC (Z n_isinstance) (Z n_repr) (Z n_tuple) (O aCE) (O aCJ) EErJ kit_meE mErJ AT_told MK bM_init GI (O gT_read) bT_read kT_read GRd
  have GBo := ok_bounds (P := P) (w := w) (base := base) FT_bounds FS (Z n_str) (Z n_range) (O gT_names) bT_names kT_names GNm (O gT_take) bT_take kT_take GTk (O gJd) bJd kJd GJd
  have GRt := ok_right1 (P := P) (w := w) (base := base) (CB := C) lRt cRt TBRt mR uR BC (Z n_isinstance) (Z n_repr) (Z n_tuple) (Z n_range) (O aCE) (O aCJ) EErJ kit_meE mErJ AT_told MK bM_init GI
    (O gT_lore) bT_lore kT_lore GLo (O gT_any) bT_any kT_any (ok_any FT_any) (O gT_lines) bT_lines kT_lines GLi (O gT_spoilt) bT_spoilt kT_spoilt GSp (O gT_take) bT_take kT_take GTk (O gJd) bJd kJd GJd (O gT_bounds) bT_bounds kT_bounds GBo
  exact ok_law0 FT_law S (O gRt) bRt kRt GRt AT_pot AT_cells
end K01
open PySem PySem.W PyProof.Rows in
set_option maxRecDepth 100000 in
set_option maxHeartbeats 0 in
open_top hd for PySem.Challenge.rw_unseenstocks_k01_whole_texts_of_no_book
open PySem PySem.W PyProof.Rows in
set_option maxRecDepth 100000 in
set_option maxHeartbeats 0 in
theorem PySem.Challenge.cw_unseenstocks_k01_whole_texts_of_no_book_holds : PySem.Challenge.rw_unseenstocks_k01_whole_texts_of_no_book.Holds := by
  refine hd ?_
  k_fill
  refine GD.walkTGs (l := PySem.Challenge.rw_unseenstocks_k01_whole_texts_of_no_book) (n := 63) (k := 13) (x := "_law_script") (sp := K01.spLaw0t) rfl (by decide) rfl ⟨rfl, by decide, by decide⟩ (fun w h Y => PySem.W.km_in_of Y) (fun w h Y => PySem.W.km_tabs_of Y) ?F (fun K H a Ps ns hl hS hP => ⟨a, ns, rfl, hS, K01.tabs0 hP, fun _ => rfl⟩)
  case F =>
    intro w mg fa h KX G hmg
    refine' K01.fin_mk KX G hmg ?aC ?aCE ?aCJ ?dT_pot ?dT_take ?dT_of ?dT_some ?dT_cells ?dT_told ?dT_names ?dT_jobs ?dT_any ?dT_first ?dT_behind ?dT_cancome ?dT_events ?dT_change ?dT_stock ?dT_level ?dT_lets ?dT_heard ?dT_alike ?dT_few ?dT_lore ?dT_stext ?dT_fline ?dT_lines ?dT_cntl ?dT_namel ?dT_stnw ?dT_factw ?dT_read ?dT_spoilt ?dT_bounds ?dT_law ?dP_isint ?dP_isnumb ?dP_isword ?dP_isname ?dP_ispair ?dP_isstn ?dP_isfact ?dP_isfull ?dP_rdjobs ?dP_rdman ?dP_rdfacts ?dP_rdfact ?dP_rdstn ?dP_rdcount ?dP_isnumeral ?dLam ?dM_init ?dErJ ?xErJ ?n_len ?n_abs ?n_int ?n_max ?n_min ?n_list ?n_range ?n_all ?n_tuple ?n_sum ?n_zip ?n_isinstance ?n_bool ?n_str ?n_set ?n_repr ?n_enumerate ?c40 ?c8 ?c4 ?cm ?cT ?cL ?cl ?nT ?nJ ?nM ?nF ?nH ?nA ?mk ?kc ?e1 ?e2 ?e3
    (case aC => k_is)
    (case aCE => k_is)
    (case aCJ => k_is)
    (case dT_pot => exact ⟨_, _, _, _, _, _, _, _, _, _, by k_is, by k_is, by k_is, by k_is⟩)
    (case dT_take => exact ⟨_, _, _, _, _, _, _, _, _, _, by k_is, by k_is, by k_is, by k_is⟩)
    (case dT_of => exact ⟨_, _, _, _, _, _, _, _, _, _, by k_is, by k_is, by k_is, by k_is⟩)
    (case dT_some => exact ⟨_, _, _, _, _, _, _, _, _, _, by k_is, by k_is, by k_is, by k_is⟩)
    (case dT_cells => exact ⟨_, _, _, _, _, _, _, _, _, _, by k_is, by k_is, by k_is, by k_is⟩)
    (case dT_told => exact ⟨_, _, _, _, _, _, _, _, _, _, by k_is, by k_is, by k_is, by k_is⟩)
    (case dT_names => exact ⟨_, _, _, _, _, _, _, _, _, _, by k_is, by k_is, by k_is, by k_is⟩)
    (case dT_jobs => exact ⟨_, _, _, _, _, _, _, _, _, _, by k_is, by k_is, by k_is, by k_is⟩)
    (case dT_any => exact ⟨_, _, _, _, _, _, _, _, _, _, by k_is, by k_is, by k_is, by k_is⟩)
    (case dT_first => exact ⟨_, _, _, _, _, _, _, _, _, _, by k_is, by k_is, by k_is, by k_is⟩)
    (case dT_behind => exact ⟨_, _, _, _, _, _, _, _, _, _, by k_is, by k_is, by k_is, by k_is⟩)
    (case dT_cancome => exact ⟨_, _, _, _, _, _, _, _, _, _, by k_is, by k_is, by k_is, by k_is⟩)
    (case dT_events => exact ⟨_, _, _, _, _, _, _, _, _, _, by k_is, by k_is, by k_is, by k_is⟩)
    (case dT_change => exact ⟨_, _, _, _, _, _, _, _, _, _, by k_is, by k_is, by k_is, by k_is⟩)
    (case dT_stock => exact ⟨_, _, _, _, _, _, _, _, _, _, by k_is, by k_is, by k_is, by k_is⟩)
    (case dT_level => exact ⟨_, _, _, _, _, _, _, _, _, _, by k_is, by k_is, by k_is, by k_is⟩)
    (case dT_lets => exact ⟨_, _, _, _, _, _, _, _, _, _, by k_is, by k_is, by k_is, by k_is⟩)
    (case dT_heard => exact ⟨_, _, _, _, _, _, _, _, _, _, by k_is, by k_is, by k_is, by k_is⟩)
    (case dT_alike => exact ⟨_, _, _, _, _, _, _, _, _, _, by k_is, by k_is, by k_is, by k_is⟩)
    (case dT_few => exact ⟨_, _, _, _, _, _, _, _, _, _, by k_is, by k_is, by k_is, by k_is⟩)
    (case dT_lore => exact ⟨_, _, _, _, _, _, _, _, _, _, by k_is, by k_is, by k_is, by k_is⟩)
    (case dT_stext => exact ⟨_, _, _, _, _, _, _, _, _, _, by k_is, by k_is, by k_is, by k_is⟩)
    (case dT_fline => exact ⟨_, _, _, _, _, _, _, _, _, _, by k_is, by k_is, by k_is, by k_is⟩)
    (case dT_lines => exact ⟨_, _, _, _, _, _, _, _, _, _, by k_is, by k_is, by k_is, by k_is⟩)
    (case dT_cntl => exact ⟨_, _, _, _, _, _, _, _, _, _, by k_is, by k_is, by k_is, by k_is⟩)
    (case dT_namel => exact ⟨_, _, _, _, _, _, _, _, _, _, by k_is, by k_is, by k_is, by k_is⟩)
    (case dT_stnw => exact ⟨_, _, _, _, _, _, _, _, _, _, by k_is, by k_is, by k_is, by k_is⟩)
    (case dT_factw => exact ⟨_, _, _, _, _, _, _, _, _, _, by k_is, by k_is, by k_is, by k_is⟩)
    (case dT_read => exact ⟨_, _, _, _, _, _, _, _, _, _, by k_is, by k_is, by k_is, by k_is⟩)
    (case dT_spoilt => exact ⟨_, _, _, _, _, _, _, _, _, _, by k_is, by k_is, by k_is, by k_is⟩)
    (case dT_bounds => exact ⟨_, _, _, _, _, _, _, _, _, _, by k_is, by k_is, by k_is, by k_is⟩)
    (case dT_law => exact ⟨_, _, _, _, _, _, _, _, _, _, by k_is, by k_is, by k_is, by k_is⟩)
    (case dP_isint => exact ⟨_, _, _, _, _, _, _, _, _, _, by k_is, by k_is, by k_is, by k_is⟩)
    (case dP_isnumb => exact ⟨_, _, _, _, _, _, _, _, _, _, by k_is, by k_is, by k_is, by k_is⟩)
    (case dP_isword => exact ⟨_, _, _, _, _, _, _, _, _, _, by k_is, by k_is, by k_is, by k_is⟩)
    (case dP_isname => exact ⟨_, _, _, _, _, _, _, _, _, _, by k_is, by k_is, by k_is, by k_is⟩)
    (case dP_ispair => exact ⟨_, _, _, _, _, _, _, _, _, _, by k_is, by k_is, by k_is, by k_is⟩)
    (case dP_isstn => exact ⟨_, _, _, _, _, _, _, _, _, _, by k_is, by k_is, by k_is, by k_is⟩)
    (case dP_isfact => exact ⟨_, _, _, _, _, _, _, _, _, _, by k_is, by k_is, by k_is, by k_is⟩)
    (case dP_isfull => exact ⟨_, _, _, _, _, _, _, _, _, _, by k_is, by k_is, by k_is, by k_is⟩)
    (case dP_rdjobs => exact ⟨_, _, _, _, _, _, _, _, _, _, by k_is, by k_is, by k_is, by k_is⟩)
    (case dP_rdman => exact ⟨_, _, _, _, _, _, _, _, _, _, by k_is, by k_is, by k_is, by k_is⟩)
    (case dP_rdfacts => exact ⟨_, _, _, _, _, _, _, _, _, _, by k_is, by k_is, by k_is, by k_is⟩)
    (case dP_rdfact => exact ⟨_, _, _, _, _, _, _, _, _, _, by k_is, by k_is, by k_is, by k_is⟩)
    (case dP_rdstn => exact ⟨_, _, _, _, _, _, _, _, _, _, by k_is, by k_is, by k_is, by k_is⟩)
    (case dP_rdcount => exact ⟨_, _, _, _, _, _, _, _, _, _, by k_is, by k_is, by k_is, by k_is⟩)
    (case dP_isnumeral => exact ⟨_, _, _, _, _, _, _, _, _, _, by k_is, by k_is, by k_is, by k_is⟩)
    (case dLam => exact ⟨_, _, ⟨_, _, _, _, _, _, _, _, _, _, _, _, _, _, by k_is, by k_is, by k_is, by k_is, by k_is, rfl, by kernel_rfl, by kernel_rfl, by decide⟩, ⟨_, _, _, _, _, _, _, _, _, _, _, _, _, _, by k_is, by k_is, by k_is, by k_is, by k_is, rfl, by kernel_rfl, by kernel_rfl, by decide⟩, by decide⟩)
    (case dM_init => exact ⟨_, _, _, _, _, _, _, _, _, _, by k_is, by k_is, by k_is, by k_is, by k_is⟩)
    (case dErJ => exact ⟨_, _, _, _, _, _, _, _, _, _, ⟨⟨⟨_, _, _, _, _, _, _, _, _, _, _, _, _, _, _, by k_is, by decide +kernel⟩, by k_is, by k_is, by k_is, by k_is⟩, by k_is, by k_is, by k_is, by k_is, by k_is, by k_is, by k_is, by k_is, by k_is⟩, by k_is, by k_is, by k_is, by k_is⟩)
    (case xErJ => k_is)
    (case n_len => k_is)
    (case n_abs => k_is)
    (case n_int => k_is)
    (case n_max => k_is)
    (case n_min => k_is)
    (case n_list => k_is)
    (case n_range => k_is)
    (case n_all => k_is)
    (case n_tuple => k_is)
    (case n_sum => k_is)
    (case n_zip => k_is)
    (case n_isinstance => k_is)
    (case n_bool => k_is)
    (case n_str => k_is)
    (case n_set => k_is)
    (case n_repr => k_is)
    (case n_enumerate => k_is)
    (case c40 => exact ⟨_, by k_is, ⟨_, rfl⟩⟩)
    (case c8 => exact ⟨_, by k_is, ⟨_, rfl⟩⟩)
    (case c4 => exact ⟨_, by k_is, ⟨_, rfl⟩⟩)
    (case cm => exact ⟨_, by k_is, ⟨_, rfl⟩⟩)
    (case cT => exact ⟨_, by k_is, ⟨_, _, _, by k_is, by exact ⟨⟨_, _, rfl, rfl⟩, ⟨_, _, rfl, rfl⟩, ⟨_, _, rfl, rfl⟩, trivial⟩, by k_is, ⟨_, rfl⟩⟩, ⟨_, _, _, by k_is, by exact ⟨⟨_, _, rfl, rfl⟩, ⟨_, _, rfl, rfl⟩, ⟨_, _, rfl, rfl⟩, trivial⟩, by k_is, ⟨_, rfl⟩⟩, ⟨_, _, _, by k_is, by exact ⟨⟨_, _, rfl, rfl⟩, ⟨_, _, rfl, rfl⟩, ⟨_, _, rfl, rfl⟩, trivial⟩, by k_is, ⟨_, rfl⟩⟩⟩)
    (case cL => exact ⟨_, by k_is, fun H => .inr ⟨_, _, _, by k_is, rfl, rfl, by decide, .cons ⟨_, rfl⟩ (.cons ⟨_, rfl⟩ (.cons ⟨_, rfl⟩ .nil))⟩⟩)
    (case cl => exact ⟨by k_is, by k_is, by k_is, by k_is⟩)
    (case nT => unfold L2.NoAttr; k_is)
    (case nJ => unfold L2.NoAttr; k_is)
    (case nM => unfold L2.NoAttr; k_is)
    (case nF => unfold L2.NoAttr; k_is)
    (case nH => unfold L2.NoAttr; k_is)
    (case nA => unfold L2.NoAttr; k_is)
    (case mk => k_is)
    (case kc => k_is)
    (case e1 => k_is)
    (case e2 => k_is)
    (case e3 => k_is)
