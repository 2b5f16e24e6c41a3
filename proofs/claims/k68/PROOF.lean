import PyProof.Rows.All
import Wide.All
import OpenK.AllK
import Wide.FinOn
import PyProof.ReprRoads
import PyProof.EqAt
import PyProof.EqKinds
import PyProof.TupleCall
import HandS.ForMost
import HandS.Wide
import PyProof.NeKinds
import PyProof.FactsAll.dict_1
import HandS.ClsMeth
import HandS.Defaults
import PySem.Challenge.RW_oncepost_k68_account_by_walking
import HandS.IsInst
import HandS.Style
import HandS.ListItems
import HandS.TupAny
import HandS.TupMul
import PyProof.StrBlock2
import HandS.Conv
import KE.KeyNested
import KE.KDictKeyed
import PyProof.Rows.TupTab
set_option Elab.async false
set_option linter.all false
set_option maxRecDepth 100000
/-! Promises of defs where no repr runs around (A.guards = some []); repr of data; the law's end by such a promise. -/
namespace RG
open PySem PySem.Spec PyProof.Rows L2
/-- a def's promise, to be used where nothing of repr runs around -/
structure FnG (P : Program) (w : World) (K : PySem.W.Frag) (mg : Str → Option Value) (base : Heap) (CX : CXT) (n : Nat) (fn : Addr) (data : FuncData) (pars : List Str) (sp : Sp) : Prop where
  count : ∀ ys G Want Err, sp ys G Want Err → ys.length = pars.length
  go : ∀ (B : Around) (up : List Env) (st : Shared) (G : Hp) (given : Args) (ws : List Value) (ys : List V) (Want : VK) (Err : XK),
    B.guards = some [] → Room n B → Env0 P w K mg base B up st G → BindsTo st data given (pars.zip ws) → Vals ys ws → sp ys G Want Err →
      codeAny (model P w) B (.call (.ref fn) given) (CR CX up P w G st Want Err) st
section
variable {P : Program} {w : World} {K : PySem.W.Frag} {mg : Str → Option Value} {base : Heap} {CX : CXT} {n m : Nat} {fn : Addr} {data : FuncData} {pars : List Str} {sp : Sp}
theorem FnG.of (F : FnOk P w K mg base CX n fn data pars sp) : FnG P w K mg base CX n fn data pars sp :=
  ⟨F.len, fun B up st G given ws ys Want Err _ => F.run B up st G given ws ys Want Err⟩
theorem FnG.mono (F : FnG P w K mg base CX n fn data pars sp) (h : n ≤ m) : FnG P w K mg base CX m fn data pars sp :=
  ⟨F.count, fun B up st G given ws ys Want Err hg hr => F.go B up st G given ws ys Want Err hg (hr.mono h)⟩
/-- the rule for a def of the text: its body, run where nothing of repr is around -/
theorem okG {x qual : Str} {text : Stmt} {N : List Str} (F : Fun K x qual text fn data) (S : FnScope N pars (defScope text)) (count : ∀ ys G Want Err, sp ys G Want Err → ys.length = pars.length)
    (body : ∀ (cd : Value) (B : Around) (up : List Env) (st : Shared) (G : Hp) (ys : List V) (Want : VK) (Err : XK),
      (B.deeper (envOfC qual (defScope text) st.heap.objs.size fn cd)).guards = some [] → Room n (B.deeper (envOfC qual (defScope text) st.heap.objs.size fn cd)) → sp ys G Want Err →
      ∃ t, PSs (cxOf CX P w K mg base N qual (defScope text) fn cd B up st G Err).nox (defBody text) t ∧ t { nx := fun _ G' => Want .non G', rt := Want } (start N ys) G) :
    FnG P w K mg base CX (n + 1) fn data pars sp := by
  obtain ⟨oc, od, kV, doc, pm, an, cd, ct, osl, rfl, at_, hcd⟩ := F.ex
  constructor
  · exact count
  intro B up st G given ws ys Want Err hg hr e0 hb rel told
  have inK : K.In st.heap := e0.mod.kin.keeps (fun b o e => And.left (e0.bs b o e))
  have lim : st.heap.NoLimit := e0.mod.nolimit.keeps (fun b o e => And.left (e0.bs b o e))
  have kinds : ∀ y ∈ pars.zip ws, (defScope text).names.lookup y.1 = some .local ∨ ((defScope text).names.lookup y.1 = some .cell ∧ ((cellsFrom (st.heap.objs.size + 1) (defScope text).names []).lookup y.1).isSome = true) := by
    intro ⟨name, val⟩ hy
    refine (S.par name (List.of_mem_zip hy).1).imp id fun q => ?_
    exact ⟨q, PySem.W.cellsFrom_some _ _ _ (.inl q)⟩
  apply codeAny_call_function hr.depth (inK _ _ at_) rfl S.co S.gen rfl (PySem.W.codeRec_of inK hcd)
  apply hb
  refine wpAny_newFunctionEnv_cells S.kind kinds fun env same s1 inside => ?_
  cases same
  refine ⟨lim.keeps inside.toInCall.keep, codeAny_func ?_⟩
  obtain ⟨t, derived, reading⟩ := body cd B up st G ys Want Err hg (hr.deeper _) told
  have I0 := inv_start (CX := CX) (E := Err) (w := w) (P := P) S hr.hd e0 (count _ _ _ _ told) rel inside
  have back : ∀ {σ1 : L2.St} {G1 : Hp} {y : V} {u : Value} {st1 : Shared}, Inv (cxOf CX P w K mg base N qual (defScope text) fn cd B up st G Err) [] σ1 G1 st1 → RelV y u → Want y G1 → CE up P w G st Want u st1 := by
    intro σ1 G1 y u st1 J ry q
    exact ⟨y, G1, J.os, J.bare, J.base, J.hok, ry, q⟩
  refine wpAny_mono (derived.nox.run [] s1 (start N ys) G _ I0 reading) (fun flow st1 told1 => ?_) (fun _ _ z => z)
  match flow, told1 with
  | .ret u, ⟨y, σ1, G1, J, ry, q⟩ => exact back J ry q
  | .next, ⟨σ1, G1, J, q⟩ => exact back (y := V.non) (u := Value.none) J rfl q
  | .brk, ⟨_, _, _, q⟩ => exact q.elim
  | .cont, ⟨_, _, _, q⟩ => exact q.elim
end
section
variable {X : Cx} {CX : CXT} {n : Nat} {fn : Addr} {data : FuncData} {pars : List Str} {sp : Sp} {dvs : List V} {ds : List Value} {Err : XK}
theorem runG {pins : List (Addr × Obj)} {σ : L2.St} {G : Hp} {st : Shared} {Want : VK} {ws : List Value} {ys : List V} (F : FnG X.prog X.w X.K X.mg X.base CX n fn data pars sp) (hg : X.A.guards = some []) (hr : Room n X.A) (hb : Binds X.K data pars ds) (hd : Vals dvs ds)
    (hx : Passes CX X Err) (I : Inv X pins σ G st) (rel : Vals ys ws) (told : sp (ys ++ dvs) G Want Err) : wpAny (model X.prog X.w) X.A (call (.ref fn) ws) (EP X pins σ Want) X.xe st := by
  have both : Vals (ys ++ dvs) (ws ++ ds) := rel.append hd
  have size : (ws ++ ds).length = pars.length := (Vals.length both).symm.trans (F.count _ _ _ _ told)
  apply wpAny_call
  apply codeAny_mono (F.go X.A X.stack st G ⟨ws, []⟩ (ws ++ ds) (ys ++ dvs) Want Err hg hr I.env0 (hb st ws I.kIn size) both told)
  intro res st1 hq
  match res, hq with
  | .ok (.ret u), hq => exact I.after hq
  | .error e, hq => exact hx pins σ G st e st1 I hq
  | .ok .next, hq => exact hq.elim
  | .ok .brk, hq => exact hq.elim
  | .ok .cont, hq => exact hq.elim
/-- f(..), f by such a promise -/
theorem pe_callg {x : Str} {p pos : Pos} {e : Expr} {es : List Expr} {t : TA} (F : FnG X.prog X.w X.K X.mg X.base CX n fn data pars sp) (gd : X.A.guards = some []) (hr : Room n X.A) (hg : Gl X x) (hm : X.mg x = some (.ref fn)) (hk : PySem.W.keepIn X.K (.ref fn) = true)
    (hb : Binds X.K data pars ds) (hd : Vals dvs ds) (hx : Passes CX X Err) (ha : PA X (e :: es) t) (hdb : (x == ("__debug__" : Str)) = false := by decide)
    (he : starEach (e :: es) X.env = (false, eval e X.env) :: starEach es X.env := by rfl) (hpl : (backTo pos (starEach es X.env)).any (·.1) = false := by rfl) :
    PE X (.Call (.Name x p) (e :: es) [] pos) (tCall sp dvs Err t) := by
  constructor
  intro pins st σ G Want I told
  refine wpAny_Call_Name_kw (ld_glob I hg hm (PySem.W.callWith_K (h₀ := X.base) I.ok.mod.kin hk ?_ he hpl) hdb)
  refine thn (ha.run pos pins st σ G _ I told) fun ws st1 behind => ?_
  obtain ⟨ys, G1, I1, rel, q⟩ := behind
  exact ⟨I1.kIn, runG F gd hr hb hd hx I1 rel q⟩
end
end RG
namespace RG
open PySem PySem.Spec PyProof.Rows L2
section
variable {P : Program} {w : World} {K : PySem.W.Frag} {mg mb : Str → Option Value} {CX : CXT} {n : Nat} {fn script : Addr} {data : FuncData} {x : Str} {sp : Sp} {st : Shared} {items : List Value} {ns : List Int}
/-- only the script is tracked -/
def scriptAt (a : Addr) (items : List Value) (ns : List Int) : Hp := fun b => if b = a then some (.frz { cls := .type "list", data := .seq items.toArray } (.lst (ns.map V.int))) else none
theorem scriptAt_same {a : Addr} {items : List Value} {ns : List Int} : scriptAt a items ns a = some (.frz { cls := .type "list", data := .seq items.toArray } (.lst (ns.map V.int))) := if_pos rfl
theorem scriptAt_ne {a b : Addr} {items : List Value} {ns : List Int} (h : b ≠ a) : scriptAt a items ns b = none := if_neg h
/-- the law's call, from a heap in which nothing but the script may be tracked -/
theorem lawG_at (G : Hp) (inK : K.In st.heap) (glob : st.heap.Ns mainGlobals mg) (blt : st.heap.Ns builtinsNs mb) (are : ∀ y : Str, y ≠ "__name__" → mb y = bootBuiltins y) (lim : st.heap.NoLimit) (nogen : st.gens = #[])
    (there : st.heap.get? script = some { cls := .type "list", data := .seq items.toArray }) (room : Room n callerA)
    (F : ∀ base : Heap, K.In base → base.Ns mainGlobals mg → FnG P w K mg base CX n fn data [x] sp) (binds : ∀ (s : Shared) (u : Value), BindsTo s data ⟨[u], []⟩ [(x, u)])
    (told : sp [.ref script] G (fun v _ => v = .bl true) fun _ _ _ => False) (quiet : ∀ e s', CX [] G st (fun _ _ _ => False) e s' → False)
    (only : Only G) (held : HOk P w G st.heap) (one : ∀ b, G b ≠ none → b = script) (apart : G script ≠ none → K.lookup script = none) :
    codeAny (model P w) callerA (.call (.ref fn) ⟨[.ref script], []⟩) (fun r s' => r = .ok (.ret (.bool true)) ∧ OldK st.heap s'.heap ∧ s'.os = st.os ∧ AllBare s'.gens) st := by
  have free_of : ∀ {b : Addr}, b ≠ script → G b = none := by
    intro b hb
    apply Classical.byContradiction
    intro q
    exact hb (one b q)
  have dict_free : ∀ {b : Addr} {o : Obj} {es : Array DictEntry} {ep : Nat}, st.heap.get? b = some o → o.data = .dict es ep → G b = none := by
    intro b o es ep e d
    apply free_of
    intro z
    subst z
    rw [there] at e
    injection e with e
    subst e
    exact nomatch d
  have ns_in : ∀ {b : Addr} {m : Str → Option Value}, st.heap.Ns b m → (hidT st.heap G).Ns b m := by
    intro b m h
    obtain ⟨o, es, ep, e, d, more⟩ := h
    exact ⟨o, es, ep, hidT_get e (dict_free e d), d, more⟩
  have inB : K.In (hidT st.heap G) := by
    intro b o e
    refine hidT_get (inK b o e) ?_
    by_cases hb : b = script
    · subst hb
      apply Classical.byContradiction
      intro q
      rw [apart q] at e
      exact nomatch e
    · exact free_of hb
  have ground : Mod K mg (hidT st.heap G) := by
    obtain ⟨mc, l1, l2⟩ := lim
    exact ⟨inB, ns_in glob, ⟨mb, ns_in blt, are⟩, ⟨mc, ns_in l1, l2⟩⟩
  have e0 : Env0 P w K mg (hidT st.heap G) callerA [] st G :=
    ⟨rfl, ground, fun b o => of_hidT, Nat.le_of_eq (hidT_size _ _), True.intro, fun b z => (List.not_mem_nil z).elim, held, .of_eq nogen⟩
  apply codeAny_mono ((F _ inB (ns_in glob)).go callerA [] st G ⟨[.ref script], []⟩ [.ref script] [.ref script] _ _ rfl room e0 (binds st (.ref script)) (.cons rfl .nil) told)
  intro r s' h
  match r, h with
  | .error e, h => exact (quiet e s' h).elim
  | .ok .next, h => exact h.elim
  | .ok .brk, h => exact h.elim
  | .ok .cont, h => exact h.elim
  | .ok (.ret u), ⟨v, G', sameOs, bare, un, held', rv, yes⟩ =>
    subst yes
    cases (show u = Value.bool true from rv)
    refine ⟨rfl, OldK.of_keep ?_, sameOs, bare⟩
    intro b o e
    rcases only b with q | ⟨ob, xs, q⟩
    · exact un.keep b o e q List.not_mem_nil List.not_mem_nil
    · have h1 := (held b _ q).1
      have h2 := (held' b _ (un.frzs b ob _ q)).1
      rw [h2]
      exact h1.symm.trans e
theorem lawG (inK : K.In st.heap) (glob : st.heap.Ns mainGlobals mg) (blt : st.heap.Ns builtinsNs mb) (are : ∀ y : Str, y ≠ "__name__" → mb y = bootBuiltins y) (lim : st.heap.NoLimit) (nogen : st.gens = #[])
    (there : st.heap.get? script = some { cls := .type "list", data := .seq items.toArray }) (wholes : IntsAre items ns) (line : ns.length ≤ sizeLine) (room : Room n callerA)
    (F : ∀ base : Heap, K.In base → base.Ns mainGlobals mg → FnG P w K mg base CX n fn data [x] sp) (binds : ∀ (s : Shared) (u : Value), BindsTo s data ⟨[u], []⟩ [(x, u)])
    (told : ∀ G : Hp, Only G → SqL K G script (ns.map V.int) → sp [.ref script] G (fun v _ => v = .bl true) fun _ _ _ => False) (quiet : ∀ G e s', CX [] G st (fun _ _ _ => False) e s' → False) :
    codeAny (model P w) callerA (.call (.ref fn) ⟨[.ref script], []⟩) (fun r s' => r = .ok (.ret (.bool true)) ∧ OldK st.heap s'.heap ∧ s'.os = st.os ∧ AllBare s'.gens) st := by
  have rel := vals_ints wholes
  cases own : K.lookup script with
  | none =>
    have only : Only (scriptAt script items ns) := by
      intro b
      by_cases hb : b = script
      · rw [hb]
        exact .inr ⟨_, _, scriptAt_same⟩
      · exact .inl (scriptAt_ne hb)
    refine lawG_at _ inK glob blt are lim nogen there room F binds (told _ only (.inl (.inr ⟨_, scriptAt_same⟩))) (quiet _) only ?_ ?_ (fun _ => own)
    · intro b u z
      by_cases hb : b = script
      · rw [hb, scriptAt_same] at z
        cases z
        rw [hb]
        exact ⟨there, by rw [List.length_map]; exact line, items, _, rel, there⟩
      · exact nomatch (scriptAt_ne hb).symm.trans z
    · intro b z
      apply Classical.byContradiction
      intro hb
      exact z (scriptAt_ne hb)
  | some o =>
    cases (inK script o own).symm.trans there
    have only : Only (fun _ => none) := fun _ => .inl rfl
    refine lawG_at _ inK glob blt are lim nogen there room F binds (told _ only (.inr ?_)) (quiet _) only (fun _ _ z => nomatch z) (fun _ z => (z rfl).elim) (fun z => (z rfl).elim)
    have size := wholes.length
    exact ⟨_, items.toArray, _, own, rfl, rfl, rfl, by rw [List.size_toArray, size]; exact line, by simpa using rel⟩
end
/-- the goal that the head leaves, from the law's promise -/
theorem walkG {l : PySem.W.OpenLaw} {most n : Nat} {q : Program} {loose : List Str} {XP : (Str → Option Value) → Heap → Prop} {YP : World → Heap → Prop} {d : DefRec} {K : Params → PySem.W.Frag} {CX : CXT} {sp : PySem.W.Frag → Sp} {x : Str}
    (hm : l.most = some most) (hl : most ≤ sizeLine) (hdf : d.params.defaults = []) (room : Room n callerA) (hY : ∀ (w : World) (h : Heap), YP w h → (K w.params).In h)
    (F : ∀ (w : World) (mg : Str → Option Value) (fn : Addr) (h : Heap), (K w.params).In h → h.Ns mainGlobals mg → mg d.name = some (.ref fn) →
      ∃ data : FuncData, (∀ (s : Shared) (u : Value), BindsTo s data ⟨[u], []⟩ [(x, u)]) ∧ ∀ base : Heap, (K w.params).In base → base.Ns mainGlobals mg → FnG l.prog w (K w.params) mg base CX n fn data [x] (sp (K w.params)))
    (told : ∀ (K : PySem.W.Frag) (G : Hp) (a : Addr) (ns : List Int), ns.length ≤ most → Only G → SqL K G a (ns.map V.int) → sp K [.ref a] G (fun v _ => v = .bl true) fun _ _ _ => False)
    (quiet : ∀ (G : Hp) (s : Shared) (e : Value) (s' : Shared), CX [] G s (fun _ _ _ => False) e s' → False) : PySem.W.WalkO q loose XP YP l.row.toRowW d [] (fun f vs => PySem.call f vs) := by
  apply Att.attach_call hm hdf
  intro w s₀ st mg mb fn o pm cd doc a items ns ground more _ _ _ named there wholes short nogen
  obtain ⟨data, binds, ok⟩ := F w mg fn _ (hY w _ more) ground.T.g named
  exact lawG (hY w _ more) ground.T.g ground.T.b ground.T.builtins ground.T.nolimit nogen there wholes (Nat.le_trans short hl) room ok binds (fun G => told _ G a ns short) (fun G e s' => quiet G st e s')
end RG
namespace RG
open PySem PySem.Spec PyProof.Rows L2
/-! ### repr of data -/
def keyD : Key → PyData
  | .inl i => .int i
  | .inr x => .str x
mutual
/-- v is data, as repr reads it -/
inductive Rp (K : PySem.W.Frag) (G : Hp) : V → PyData → Prop
  | non : Rp K G .non .none
  | bl (b : Bool) : Rp K G (.bl b) (.bool b)
  | int (i : Int) : Rp K G (.int i) (.int i)
  | str (x : Str) : Rp K G (.str x) (.str x)
  | lst {a : Addr} {xs : List V} {ds : List PyData} : SqL K G a xs → RpAll K G xs ds → a ≠ sysModules → Rp K G (.ref a) (.list ds)
  | tup {a : Addr} {xs : List V} {ds : List PyData} : SqT K G a xs → RpAll K G xs ds → Rp K G (.ref a) (.tuple ds)
  | dic {a : Addr} {kvs : List (Key × V)} {ps : List (PyData × PyData)} : G a = some (.dK kvs) → ps.map (·.1) = kvs.map (fun p => keyD p.1) → RpAll K G (kvs.map (·.2)) (ps.map (·.2)) → Rp K G (.ref a) (.dict ps)
inductive RpAll (K : PySem.W.Frag) (G : Hp) : List V → List PyData → Prop
  | nil : RpAll K G [] []
  | cons {v : V} {vs : List V} {d : PyData} {ds : List PyData} : Rp K G v d → RpAll K G vs ds → RpAll K G (v :: vs) (d :: ds)
end
section
variable {X : Cx} {pins : List (Addr × Obj)} {σ : L2.St} {G : Hp} {st : Shared}
theorem key_reads {h : Heap} {k : Key} {u : Value} (q : keyIs k u = true) : Reads h u (keyD k) [] := by
  rcases keyIs_shape q with ⟨i, t, rfl, rfl⟩ | ⟨x, t, rfl, rfl⟩
  · exact .int i t
  · exact .str x t
theorem keys_read {P : Program} {w : World} {h : Heap} : ∀ {es : List DictEntry} {kvs : List (Key × V)} {vs : List (Key × Value)}, KV kvs vs → Pairs (mixKind P w) es vs → ReadsAll h (es.map (·.key)) (kvs.map fun p => keyD p.1) []
  | [], _, _, r, .nil => by
    cases r
    exact .nil
  | e :: es, _, _, r, .cons hk _ more => by
    cases r with
    | cons r0 r1 =>
      rename_i kv kvs'
      have q := keys_read (h := h) r1 more
      have q0 : Reads h e.key (keyD kv.1) [] := by
        rw [r0.1]
        exact key_reads hk
      exact ReadsAll.cons q0 q
theorem vals_read {P : Program} {w : World} : ∀ {es : List DictEntry} {kvs : List (Key × V)} {vs : List (Key × Value)}, KV kvs vs → Pairs (mixKind P w) es vs → Vals (kvs.map (·.2)) (es.map (·.val))
  | [], _, _, r, .nil => by
    cases r
    exact .nil
  | e :: es, _, _, r, .cons _ hv more => by
    cases r with
    | cons r0 r1 =>
      refine .cons ?_ (vals_read r1 more)
      show L2.RelV _ e.val
      rw [hv]
      exact r0.2
mutual
theorem Rp.reads (I : Inv X pins σ G st) : ∀ (d : PyData) (v : V) (u : Value), Rp X.K G v d → RelV v u → ∃ as, Reads st.heap u d as ∧ sysModules ∉ as
  | .none, _, _, h, r => by
    cases h
    cases r
    exact ⟨_, .none, List.not_mem_nil⟩
  | .bool b, _, _, h, r => by
    cases h
    cases r
    exact ⟨_, .bool b, List.not_mem_nil⟩
  | .int i, _, _, h, r => by
    cases h
    obtain ⟨t, rfl⟩ := r
    exact ⟨_, .int i t, List.not_mem_nil⟩
  | .str x, _, _, h, r => by
    cases h
    obtain ⟨t, rfl⟩ := r
    exact ⟨_, .str x t, List.not_mem_nil⟩
  | .list ds, _, _, h, r => by
    cases h with
    | lst hs ha hn =>
      cases r
      obtain ⟨its, rv, ⟨o, n, ho, hc, _, hd⟩, _⟩ := I.list hs
      obtain ⟨as, q, out⟩ := Rp.readsAll I ds _ its ha rv
      refine ⟨_, .list ho hc hd q, fun m => ?_⟩
      rcases List.mem_cons.mp m with e | m
      · exact hn e.symm
      · exact out m
  | .tuple ds, _, _, h, r => by
    cases h with
    | tup hs ha =>
      cases r
      obtain ⟨its, rv, ⟨o, ho, hc, n, hd⟩, _⟩ := I.tuple hs
      obtain ⟨as, q, out⟩ := Rp.readsAll I ds _ its ha rv
      exact ⟨_, .tuple ho hc hd q, out⟩
  | .dict ps, _, _, h, r => by
    cases h with
    | dic hs hk ha =>
      rename_i a kvs
      cases r
      obtain ⟨_, low, vs, rel, o, es, ep, ho, hc, hd, _, prs, _⟩ := dk_of I.hok hs
      obtain ⟨bs, q, out⟩ := Rp.readsVals I ps _ _ ha (vals_read rel prs)
      have q1 := keys_read (h := st.heap) rel prs
      rw [← hk] at q1
      refine ⟨_, .dict ho hc.1 hd q1 q, fun m => ?_⟩
      have m' : sysModules = a ∨ sysModules ∈ bs := by simpa using m
      rcases m' with e | m'
      · rw [e] at low
        simp at low
      · exact out m'
theorem Rp.readsAll (I : Inv X pins σ G st) : ∀ (ds : List PyData) (vs : List V) (us : List Value), RpAll X.K G vs ds → Vals vs us → ∃ as, ReadsAll st.heap us ds as ∧ sysModules ∉ as
  | [], _, _, h, r => by
    cases h
    cases r
    exact ⟨_, .nil, List.not_mem_nil⟩
  | d :: ds, _, _, h, r => by
    cases h with
    | cons h1 h2 =>
      cases r with
      | cons r1 r2 =>
        obtain ⟨as, q1, o1⟩ := Rp.reads I d _ _ h1 r1
        obtain ⟨bs, q2, o2⟩ := Rp.readsAll I ds _ _ h2 r2
        refine ⟨_, .cons q1 q2, fun m => ?_⟩
        rcases List.mem_append.mp m with m | m
        · exact o1 m
        · exact o2 m
theorem Rp.readsVals (I : Inv X pins σ G st) : ∀ (ps : List (PyData × PyData)) (vs : List V) (us : List Value), RpAll X.K G vs (ps.map (·.2)) → Vals vs us → ∃ as, ReadsAll st.heap us (ps.map (·.2)) as ∧ sysModules ∉ as
  | [], _, _, h, r => by
    cases h
    cases r
    exact ⟨_, .nil, List.not_mem_nil⟩
  | (k, d) :: ps, _, _, h, r => by
    cases h with
    | cons h1 h2 =>
      cases r with
      | cons r1 r2 =>
        obtain ⟨as, q1, o1⟩ := Rp.reads I d _ _ h1 r1
        obtain ⟨bs, q2, o2⟩ := Rp.readsVals I ps _ _ h2 r2
        refine ⟨_, .cons q1 q2, fun m => ?_⟩
        rcases List.mem_append.mp m with m | m
        · exact o1 m
        · exact o2 m
end
end
section
variable {X : Cx} {k : Nat}
/-- repr(x), x data, where nothing of repr runs around -/
theorem call_repr (hg : X.A.guards = some []) (hr : Room k X.A) : CallR X (.builtin "repr") (fun xs G Want => ∃ v d, xs = [v] ∧ Rp X.K G v d ∧ d.showable = true ∧ d.depth ≤ 64 ∧ d.shown.length ≤ sizeLine ∧ Want (.str d.shown) G) := by
  intro pins st σ G ys ws Want I rel told
  obtain ⟨v, d, rfl, hd, sh, dp, sz, q⟩ := told
  obtain ⟨u, rfl, ru⟩ := vals1 rel
  have room := hr.un
  cases hd with
  | non =>
    cases ru
    refine PySem.P.repr_of_none ⟨.str _, G, I.tok _, ⟨_, rfl⟩, ?_⟩
    simpa only [PyData.shown] using q
  | bl b =>
    cases ru
    refine PySem.P.repr_of_bool ⟨.str _, G, I.tok _, ⟨_, rfl⟩, ?_⟩
    simpa only [PyData.shown] using q
  | int i =>
    obtain ⟨t, rfl⟩ := ru
    have small : i.natAbs.log2 < 1920 := by simpa [PyData.showable] using sh
    refine PySem.P.repr_of_int small ⟨.str _, G, I.tok _, ⟨_, rfl⟩, ?_⟩
    simpa only [PyData.shown] using q
  | str x =>
    obtain ⟨t, rfl⟩ := ru
    have short : (reprText x).length ≤ sizeLine := by simpa only [PyData.shown] using sz
    refine PySem.P.repr_of_str ⟨.str _, G, I.tok _, ⟨_, rfl⟩, ?_⟩ short
    simpa only [PyData.shown] using q
  | lst a b c =>
    cases ru
    obtain ⟨as, rd, out⟩ := Rp.reads I _ _ _ (.lst a b c) rfl
    exact repr_of_reads' rd sh (fun _ => out) hg (by omega) (fun _ _ z => z) (fun h' t tk keep => ⟨.str _, G, I.kept keep, ⟨_, rfl⟩, q⟩) sz
  | tup a b =>
    cases ru
    obtain ⟨as, rd, out⟩ := Rp.reads I _ _ _ (.tup a b) rfl
    exact repr_of_reads' rd sh (fun _ => out) hg (by omega) (fun _ _ z => z) (fun h' t tk keep => ⟨.str _, G, I.kept keep, ⟨_, rfl⟩, q⟩) sz
  | dic a b c =>
    cases ru
    obtain ⟨as, rd, out⟩ := Rp.reads I _ _ _ (.dic a b c) rfl
    exact repr_of_reads' rd sh (fun _ => out) hg (by omega) (fun _ _ z => z) (fun h' t tk keep => ⟨.str _, G, I.kept keep, ⟨_, rfl⟩, q⟩) sz
/-- a list that is laid stands behind the modules' dict -/
def tLstB (t : TA) : TE := fun σ G Want => t σ G fun xs G1 => xs.length ≤ sizeLine ∧ ∀ p, G1 p = none → p ≠ sysModules → Want (.ref p) (upd G1 p (.lst xs))
theorem pe_lstB {es : List Expr} {t : TA} {pos : Pos} (h : PA X es t) : PE X (.List es pos) (tLstB t) := by
  constructor
  intro pins st σ G Want I told
  apply wpAny_List_spliced
  refine thn (h.run pos pins st σ G _ I told) fun ws s1 behind => ?_
  obtain ⟨xs, G1, I1, rel, line, q⟩ := behind
  refine ⟨by rw [← rel.length]; exact line, ?_⟩
  have free := I1.hok.fresh (Nat.le_refl s1.heap.objs.size)
  have laid : ObjOk X.prog X.w (upd G1 s1.heap.objs.size (.lst xs)) (s1.heap.push { cls := .type "list", data := .seq ws.toArray }) s1.heap.objs.size (.lst xs) := ⟨line, ws, 0, rel, Heap.get?_push_size _ rfl⟩
  exact ⟨.ref s1.heap.objs.size, _, I1.laid (t' := s1.toks) (fun _ _ z => Heap.get?_push_of_some _ z) (Nat.le_refl _) laid, rfl, q _ free (Nat.ne_of_gt I1.big)⟩
end
end RG

set_option Elab.async false
set_option linter.all false
set_option maxRecDepth 100000
/-! New lists and tuples over a heap that is not written out. -/
namespace Ab
open PySem PySem.Spec L2
/-- (e, ..), [e, ..], a + b: what is laid stands at p, all else as before -/
def tTupA (ta : TA) : TE := fun σ G Want => ta σ G fun xs G1 => xs.length ≤ sizeLine ∧ ∀ p G2, G1 p = none → Same G1 G2 → G2 p = some (.tup xs) → Want (.ref p) G2
def tLstA (ta : TA) : TE := fun σ G Want => ta σ G fun xs G1 => xs.length ≤ sizeLine ∧ ∀ p G2, G1 p = none → p ≠ sysModules → Same G1 G2 → G2 p = some (.lst xs) → Want (.ref p) G2
theorem same_up {G : Hp} {p : Addr} {o : HO} (h : G p = none) : Same G (upd G p o) := fun b u q => by
  rw [upd_ne (ne_of_none q h)]
  exact q
section
variable {X : Cx} {es : List Expr} {ta : TA} {pos : Pos}
theorem pe_tupA {k} (h : PA X es ta) : PE X (.Tuple es k pos) (tTupA ta) := by
  constructor
  intro pins st σ G Want I told
  apply wpAny_Tuple_spliced
  refine thn (h.run pos pins st σ G _ I told) fun ws s1 behind => ?_
  obtain ⟨xs, G1, I1, rel, line, q⟩ := behind
  refine ⟨by rw [← rel.length]; exact line, ?_⟩
  have free := I1.hok.fresh (Nat.le_refl s1.heap.objs.size)
  have laid : ObjOk X.prog X.w (upd G1 s1.heap.objs.size (.tup xs)) (s1.heap.push { cls := .type "tuple", data := .seq ws.toArray }) s1.heap.objs.size (.tup xs) := ⟨line, ws, rel, ⟨_, Heap.get?_push_size _ rfl, rfl, _, rfl⟩⟩
  exact ⟨.ref s1.heap.objs.size, _, I1.laid (t' := s1.toks) (fun _ _ z => Heap.get?_push_of_some _ z) (Nat.le_refl _) laid, rfl, q _ _ free (same_up free) upd_same⟩
theorem pe_lstA (h : PA X es ta) : PE X (.List es pos) (tLstA ta) := by
  constructor
  intro pins st σ G Want I told
  apply wpAny_List_spliced
  refine thn (h.run pos pins st σ G _ I told) fun ws s1 behind => ?_
  obtain ⟨xs, G1, I1, rel, line, q⟩ := behind
  refine ⟨by rw [← rel.length]; exact line, ?_⟩
  have free := I1.hok.fresh (Nat.le_refl s1.heap.objs.size)
  have laid : ObjOk X.prog X.w (upd G1 s1.heap.objs.size (.lst xs)) (s1.heap.push { cls := .type "list", data := .seq ws.toArray }) s1.heap.objs.size (.lst xs) := ⟨line, ws, 0, rel, Heap.get?_push_size _ rfl⟩
  exact ⟨.ref s1.heap.objs.size, _, I1.laid (t' := s1.toks) (fun _ _ z => Heap.get?_push_of_some _ z) (Nat.le_refl _) laid, rfl, q _ _ free (Nat.ne_of_gt I1.big) (same_up free) upd_same⟩
end
/-- {}: abstract -/
def tDicA : TE := fun _ G Want => ∀ p G2, G p = none → Same G G2 → G2 p = some (.dK []) → Want (.ref p) G2
theorem pe_dicA {X : Cx} {pos : Pos} : PE X (.Dict [] [] pos) tDicA := ⟨fun pins st σ G Want I told => (pe_dnewK (X := X) (pos := pos)).run pins st σ G Want I fun p h => told p _ h (same_up h) upd_same⟩
/-- xs + ys, two lists -/
def rCatA : R2 := fun x y G Want => ∃ l b xs zs, x = .ref l ∧ y = .ref b ∧ G l = some (.lst xs) ∧ G b = some (.lst zs) ∧ xs.length + zs.length ≤ sizeLine ∧ ∀ p G2, G p = none → Same G G2 → G2 p = some (.lst (xs ++ zs)) → Want (.ref p) G2
theorem op_catA {X : Cx} : OpR X (binaryOp .Add) rCatA := fun pins st σ G x y v u Want I rx ry ⟨l, b, xs, zs, ex, ey, hl, hb, hz, q⟩ =>
  op_cat pins st σ G x y v u Want I rx ry ⟨l, b, xs, zs, ex, ey, hl, hb, hz, fun p h => q p _ h (same_up h) upd_same⟩
end Ab

set_option Elab.async false
set_option linter.all false
set_option maxRecDepth 100000
/-! The pen: a dict of a list, a place and a rest; a draw is some int from 0 to many - 1. -/
namespace Pen
open PySem L2
/-! ### the pen's pairs -/
abbrev kC : Key := Sum.inr ("cells" : Str)
abbrev kA : Key := Sum.inr ("begun" : Str)
abbrev kR : Key := Sum.inr ("rest" : Str)
def pk (c : Addr) (a r : Int) : List (Key × V) := [(kC, .ref c), (kA, .int a), (kR, .int r)]
theorem nCA : ¬ (kC = kA) := by decide +kernel
theorem nCR : ¬ (kC = kR) := by decide +kernel
theorem nAR : ¬ (kA = kR) := by decide +kernel
theorem nAC : ¬ (kA = kC) := by decide +kernel
theorem nRC : ¬ (kR = kC) := by decide +kernel
theorem nRA : ¬ (kR = kA) := by decide +kernel
theorem pk_c (c : Addr) (a r : Int) : valV (pk c a r) kC = some (.ref c) := valV_pos rfl
theorem pk_a (c : Addr) (a r : Int) : valV (pk c a r) kA = some (.int a) := (valV_neg nCA).trans (valV_pos rfl)
theorem pk_r (c : Addr) (a r : Int) : valV (pk c a r) kR = some (.int r) := ((valV_neg nCR).trans (valV_neg nAR)).trans (valV_pos rfl)
theorem sCA : ¬ (("cells" : Str) = "begun") := by decide +kernel
theorem sCR : ¬ (("cells" : Str) = "rest") := by decide +kernel
theorem sRA : ¬ (("rest" : Str) = "begun") := by decide +kernel
theorem sAR : ¬ (("begun" : Str) = "rest") := by decide +kernel
theorem pk_putA (c : Addr) (a r x : Int) : putK (pk c a r) kA (.int x) = pk c x r := by
  unfold putK pk
  simp [sCA, sRA]
theorem pk_putR (c : Addr) (a r x : Int) : putK (pk c a r) kR (.int x) = pk c a x := by
  unfold putK pk
  simp [sCR, sAR]
theorem pk_len (c : Addr) (a r : Int) : (pk c a r).length < sizeLine := by show 3 < sizeLine; decide
structure PenAt (H : Hp) (p c : Addr) (ns : List Int) (b : Nat) : Prop where
  ex : ∃ a r : Int, H p = some (.dK (pk c a r)) ∧ 0 ≤ a ∧ a ≤ b ∧ 0 ≤ r
  ce : H c = some (.lst (ns.map V.int))
/-- all but p is as it was -/
def SameX (p : Addr) (H H' : Hp) : Prop := ∀ x o, x ≠ p → H x = some o → H' x = some o
theorem SameX.refl {p : Addr} {H : Hp} : SameX p H H := fun _ _ _ h => h
theorem SameX.trans {p : Addr} {H H1 H2 : Hp} (a : SameX p H H1) (b : SameX p H1 H2) : SameX p H H2 := fun x o n h => b x o n (a x o n h)
theorem Same.X {p : Addr} {H H' : Hp} (a : Same H H') : SameX p H H' := fun x o _ h => a x o h
theorem SameX.upd {p : Addr} {H H' : Hp} {o : HO} (a : SameX p H H') : SameX p H (upd H' p o) := fun x u n h => by
  rw [upd_ne n]
  exact a x u n h
theorem same_new {H : Hp} {l : Addr} {o : HO} (h : H l = none) : Same H (L2.upd H l o) := fun x u e => by
  rw [upd_ne (ne_of_none e h)]
  exact e
theorem PenAt.same {H H' : Hp} {p c : Addr} {ns : List Int} {b : Nat} (P : PenAt H p c ns b) (s : Same H H') : PenAt H' p c ns b := by
  obtain ⟨⟨a, r, h, q⟩, ce⟩ := P
  exact ⟨⟨a, r, s _ _ h, q⟩, s _ _ ce⟩
theorem PenAt.mono {H : Hp} {p c : Addr} {ns : List Int} {b b' : Nat} (P : PenAt H p c ns b) (h : b ≤ b') : PenAt H p c ns b' := by
  obtain ⟨⟨a, r, h0, h1, h2, h3⟩, ce⟩ := P
  exact ⟨⟨a, r, h0, h1, by omega, h3⟩, ce⟩
theorem PenAt.ne {H : Hp} {p c : Addr} {ns : List Int} {b : Nat} (P : PenAt H p c ns b) : p ≠ c := by
  obtain ⟨⟨a, r, h0, _⟩, ce⟩ := P
  exact ne_of h0 ce (by intro z; cases z)
/-! ### promises -/
def spPen (K : PySem.W.Frag) : Sp := fun vs H Q _ => ∃ (a : Addr) (ns : List Int), vs = [.ref a] ∧ SqL K H a (ns.map V.int) ∧ ns.length ≤ 63 ∧
  ∀ (p c : Addr) (H' : Hp), H p = none → PenAt H' p c ns 0 → Same H H' → Q (.ref p) H'
def spDraw : Sp := fun vs H Q _ => ∃ (p c : Addr) (ns : List Int) (b : Nat) (m : Int), vs = [.ref p, .int m] ∧ PenAt H p c ns b ∧ ns.length ≤ 63 ∧ b < 2 ^ 40 ∧ 0 < m ∧ m < 2 ^ 200 ∧
  ∀ (r : Int) (H' : Hp), 0 ≤ r → r < m → PenAt H' p c ns (b + 1) → SameX p H H' → Q (.int r) H'
def spPick (K : PySem.W.Frag) : Sp := fun vs H Q _ => ∃ (p c : Addr) (ns : List Int) (b : Nat) (l : Addr) (xs : List V), vs = [.ref p, .ref l] ∧ PenAt H p c ns b ∧ ns.length ≤ 63 ∧ b < 2 ^ 40 ∧
  H l = some (.lst xs) ∧ 0 < xs.length ∧ xs.length ≤ 1000 ∧
  ∀ (v : V) (H' : Hp), v ∈ xs → PenAt H' p c ns (b + 1) → SameX p H H' → Q v H'
/-! ### numbers -/
theorem fmod_lo {i m : Int} (h : 0 < m) : 0 ≤ i.fmod m := by rw [Int.fmod_eq_emod_of_nonneg i (by omega)]; exact Int.emod_nonneg _ (by omega)
theorem fmod_hi {i m : Int} (h : 0 < m) : i.fmod m < m := by rw [Int.fmod_eq_emod_of_nonneg i (by omega)]; exact Int.emod_lt_of_pos _ h
theorem fdiv_lo {i m : Int} (h : 0 < m) (hi : 0 ≤ i) : 0 ≤ i / m := Int.ediv_nonneg hi (by omega)
theorem div_ok {i m : Int} (h : 0 < m) (h2 : m < 2 ^ 200) : CDivW i m := wide_div h (b := 200) (by omega) (by decide) (by decide)
theorem atI_mod {ns : List Int} {a : Int} (h : ns ≠ []) : ∃ z, atI (ns.map V.int) (a.fmod (ns.length : Int)) = some (.int z) := by
  have hl : 0 < ns.length := List.length_pos_iff.mpr h
  have h1 := fmod_lo (i := a) (m := (ns.length : Int)) (by omega)
  have h2 := fmod_hi (i := a) (m := (ns.length : Int)) (by omega)
  have h3 : (a.fmod (ns.length : Int)).toNat < ns.length := by omega
  refine ⟨ns[(a.fmod (ns.length : Int)).toNat], ?_⟩
  have e : a.fmod (ns.length : Int) = ((a.fmod (ns.length : Int)).toNat : Int) := by omega
  refine at_of e ?_
  rw [List.getElem?_map, List.getElem?_eq_getElem h3]
  rfl
theorem at_mem {xs : List V} {r : Int} (h0 : 0 ≤ r) (h : r < (xs.length : Int)) : ∃ v, v ∈ xs ∧ atI xs r = some v := by
  have h3 : r.toNat < xs.length := by omega
  refine ⟨xs[r.toNat], List.getElem_mem _, ?_⟩
  have e : r = ((r.toNat : Nat) : Int) := by omega
  exact at_of e (List.getElem?_eq_getElem h3)
/-- the names that the pen's defs read -/
structure TxtP (mg : Str → Option Value) : Prop where
  int : mg "int" = none
  len : mg "len" = none
  abs : mg "abs" = none
  list : mg "list" = none
end Pen
namespace Pen
open PySem L2
/-! ### the pen read and written -/
theorem getC {H : Hp} {p c : Addr} {a r : Int} (h : H p = some (.dK (pk c a r))) : DGet H p (.str "cells") (some (.ref c)) := by
  have q := DGet.k (k := kC) h
  rw [pk_c] at q
  exact q
theorem getA {H : Hp} {p c : Addr} {a r : Int} (h : H p = some (.dK (pk c a r))) : DGet H p (.str "begun") (some (.int a)) := by
  have q := DGet.k (k := kA) h
  rw [pk_a] at q
  exact q
theorem getR {H : Hp} {p c : Addr} {a r : Int} (h : H p = some (.dK (pk c a r))) : DGet H p (.str "rest") (some (.int r)) := by
  have q := DGet.k (k := kR) h
  rw [pk_r] at q
  exact q
theorem putA {H : Hp} {p c : Addr} {a r x : Int} (h : H p = some (.dK (pk c a r))) : DPut H p (.str "begun") (.int x) (upd H p (.dK (pk c x r))) := by
  have q := DPut.k (k := kA) (v := .int x) h (pk_len c a r)
  rw [pk_putA] at q
  exact q
theorem putR {H : Hp} {p c : Addr} {a r x : Int} (h : H p = some (.dK (pk c a r))) : DPut H p (.str "rest") (.int x) (upd H p (.dK (pk c a x))) := by
  have q := DPut.k (k := kR) (v := .int x) h (pk_len c a r)
  rw [pk_putR] at q
  exact q
theorem dps {K : PySem.W.Frag} {H : Hp} : ∀ ns : List Int, DpAll K H (ns.map V.int) (ns.map PyData.int)
  | [] => .nil
  | _ :: ns => .cons (.int _) (dps ns)
theorem dp_ints {K : PySem.W.Frag} {H : Hp} {c : Addr} {ns : List Int} (h : H c = some (.lst (ns.map V.int))) : Dp K H (.ref c) (.list (ns.map PyData.int)) := .lst (SqL.of h) (dps ns)
end Pen
namespace Pen
open PySem L2
theorem cut63 {ns : List Int} (h : ns.length ≤ 63) : cutV (ns.map V.int) none (some 63) = ns.map V.int := by
  unfold cutV
  rw [HT.sIx_none, show (some (63 : Int)) = some (((63 : Nat) : Int)) from rfl, HT.sIx_nat]
  rw [List.drop_zero, List.length_map, Nat.min_eq_right h, Nat.sub_zero]
  exact List.take_of_length_le (by rw [List.length_map]; exact Nat.le_refl _)
theorem merge_pk (c : Addr) : mergeK [] [(kC, .ref c), (kA, .int 0), (kR, .int 0)] = pk c 0 0 := by
  have e1 : putK [] kC (V.ref c) = [(kC, V.ref c)] := putK_new _ rfl
  have e2 : putK [(kC, V.ref c)] kA (V.int 0) = [(kC, V.ref c), (kA, V.int 0)] := putK_new _ (valV_neg nCA)
  have e3 : putK [(kC, V.ref c), (kA, V.int 0)] kR (V.int 0) = [(kC, V.ref c), (kA, V.int 0), (kR, V.int 0)] := putK_new _ ((valV_neg nCR).trans (valV_neg nAR))
  show putK (putK (putK [] kC (V.ref c)) kA (V.int 0)) kR (V.int 0) = _
  rw [e1, e2, e3]
  rfl
theorem canLay_ints : ∀ ns : List Int, PyData.canLay0 (.list (ns.map PyData.int)) = true := by
  intro ns
  induction ns with
  | nil => rfl
  | cons n ns ih =>
    simp only [List.map_cons, PyData.canLay0, PyData.canLayAll0] at ih ⊢
    first | exact ih | simpa using ih
theorem depth_ints : ∀ ns : List Int, PyData.depth (.list (ns.map PyData.int)) ≤ 64 := by
  have h : ∀ ns : List Int, PyData.depthAll (ns.map PyData.int) ≤ 1 := by
    intro ns
    induction ns with
    | nil => simp [PyData.depthAll]
    | cons n ns ih => simp only [List.map_cons, PyData.depthAll, PyData.depth]; omega
  intro ns
  have := h ns
  simp only [PyData.depth]
  omega
theorem shaped_ints (ns : List Int) : SeqAt.shaped (.list (ns.map PyData.int)) = true := by
  unfold SeqAt.shaped
  rw [canLay_ints, decide_eq_true (depth_ints ns)]
  rfl
end Pen

set_option Elab.async false
set_option linter.all false
set_option maxRecDepth 100000
/-! Data that stand beside the pen. -/
namespace Dat
open PySem PySem.Spec L2 RG Pen
theorem sz {n : Nat} (h : n ≤ 99) : n ≤ sizeLine := Nat.le_trans h (by decide)
theorem szl {n : Nat} (h : n ≤ 99) : n < sizeLine := Nat.lt_of_le_of_lt h (by decide)
def delp (p : Addr) (G : Hp) : Hp := fun b => if b = p then none else G b
theorem delp_ne {p b : Addr} {G : Hp} (h : b ≠ p) : delp p G b = G b := if_neg h
theorem delp_same {p : Addr} {G G1 : Hp} (s : SameX p G G1) : Same (delp p G) (delp p G1) := fun b o h => by
  by_cases hb : b = p
  · subst hb
    have h' : (if b = b then none else G b) = some o := h
    rw [if_pos rfl] at h'
    cases h'
  · rw [delp_ne hb] at h ⊢
    exact s b o hb h
theorem delp_le {p : Addr} {G : Hp} : Same (delp p G) G := fun b o h => by
  by_cases hb : b = p
  · have h' : (if b = p then none else G b) = some o := h
    rw [if_pos hb] at h'
    cases h'
  · rw [delp_ne hb] at h
    exact h
theorem sqT_same {K : PySem.W.Frag} {G G1 : Hp} {a : Addr} {xs : List V} (s : Same G G1) (h : SqT K G a xs) : SqT K G1 a xs := by
  rcases h with (h | ⟨o, h⟩) | h
  · exact .inl (.inl (s _ _ h))
  · exact .inl (.inr ⟨o, s _ _ h⟩)
  · exact .inr h
mutual
theorem Rp.same {K : PySem.W.Frag} {G G1 : Hp} (s : Same G G1) : ∀ {d : PyData} {v : V}, Rp K G v d → Rp K G1 v d
  | .none, _, .non => .non
  | .bool _, _, .bl b => .bl b
  | .int _, _, .int i => .int i
  | .str _, _, .str x => .str x
  | .list _, _, .lst h r n => .lst (s.seq h) (RpAll.same s r) n
  | .tuple _, _, .tup h r => .tup (sqT_same s h) (RpAll.same s r)
  | .dict ps, _, .dic h k r => .dic (s _ _ h) k (RpAll.sameV s (ps := ps) r)
theorem RpAll.same {K : PySem.W.Frag} {G G1 : Hp} (s : Same G G1) : ∀ {ds : List PyData} {vs : List V}, RpAll K G vs ds → RpAll K G1 vs ds
  | [], _, .nil => .nil
  | _ :: _, _, .cons h r => .cons (Rp.same s h) (RpAll.same s r)
theorem RpAll.sameV {K : PySem.W.Frag} {G G1 : Hp} (s : Same G G1) : ∀ {ps : List (PyData × PyData)} {vs : List V}, RpAll K G vs (ps.map (·.2)) → RpAll K G1 vs (ps.map (·.2))
  | [], _, .nil => .nil
  | (_, _) :: _, _, .cons h r => .cons (Rp.same s h) (RpAll.sameV s r)
end
theorem RpAll.append {K : PySem.W.Frag} {G : Hp} : ∀ {vs ws : List V} {ds es : List PyData}, RpAll K G vs ds → RpAll K G ws es → RpAll K G (vs ++ ws) (ds ++ es)
  | _, _, _, _, .nil, r => r
  | _, _, _, _, .cons h t, r => .cons h (RpAll.append t r)
theorem RpAll.mem {K : PySem.W.Frag} {G : Hp} {v : V} : ∀ {vs : List V} {ds : List PyData}, RpAll K G vs ds → v ∈ vs → ∃ d, d ∈ ds ∧ Rp K G v d
  | _, _, .nil, h => by cases h
  | _, _, .cons h t, m => by
    rcases List.mem_cons.mp m with e | m
    · subst e
      exact ⟨_, List.mem_cons_self .., h⟩
    · obtain ⟨d, hd, r⟩ := RpAll.mem t m
      exact ⟨d, List.mem_cons_of_mem _ hd, r⟩
end Dat

set_option Elab.async false
set_option linter.all false
set_option maxRecDepth 100000
set_option maxHeartbeats 1000000
/-! Any data beside a text: ==, !=, in. -/
namespace KEq
open PySem PySem.Spec L2 RG Pen Dat PySem.SeqAt PySem.MeetsSeq
open AutoSeq1 (wpAny_loadPart')
theorem dict_eq_no (l : Addr) (es : Array DictEntry) (ep : Nat) (dd : Option Addr) (sl : Array (Option Value)) (b : Str) (u : Tok) :
    Meets (Builtin.«dict.__eq__» ⟨[.ref l, .str b u], []⟩) (fun _ R s => s.heap.get? l = some { cls := .type "dict", dict := dd, data := .dict es ep, slots := sl } ∧ R (.ok (.ret .notImplemented)) s) :=
  .of_wp fun prog w A R s h => by
    obtain ⟨hp, g, d, tk, os⟩ := s
    obtain ⟨hl, h⟩ := h
    have f1 := F.sub_str_dict
    wp_walk using wpAny_loadPart' hl, wpAny_load hl
    exact ⟨_, rfl, h⟩
theorem str_eq_dict (b : Str) (u : Tok) (l : Addr) (es : Array DictEntry) (ep : Nat) (dd : Option Addr) (sl : Array (Option Value)) :
    Meets (Builtin.«str.__eq__» ⟨[.str b u, .ref l], []⟩) (fun _ R s => s.heap.get? l = some { cls := .type "dict", dict := dd, data := .dict es ep, slots := sl } ∧ R (.ok (.ret .notImplemented)) s) :=
  .of_wp fun prog w A R s h => by
    obtain ⟨hp, g, d, tk, os⟩ := s
    obtain ⟨hl, h⟩ := h
    wp_walk using wpAny_loadPart' hl, wpAny_load hl
    exact ⟨_, rfl, h⟩
theorem dict_ne_no (l : Addr) (es : Array DictEntry) (ep : Nat) (dd : Option Addr) (sl : Array (Option Value)) (b : Str) (u : Tok) :
    Meets (Builtin.«dict.__ne__» ⟨[.ref l, .str b u], []⟩) (fun _ R s => s.heap.get? l = some { cls := .type "dict", dict := dd, data := .dict es ep, slots := sl } ∧ R (.ok (.ret .notImplemented)) s) :=
  .of_wp fun prog w A R s h => by
    obtain ⟨hp, g, d, tk, os⟩ := s
    obtain ⟨hl, h⟩ := h
    have f1 := F.sub_str_dict
    wp_walk using wpAny_loadPart' hl, wpAny_load hl
    exact ⟨_, rfl, h⟩
theorem str_ne_dict (b : Str) (u : Tok) (l : Addr) (es : Array DictEntry) (ep : Nat) (dd : Option Addr) (sl : Array (Option Value)) :
    Meets (Builtin.«str.__ne__» ⟨[.str b u, .ref l], []⟩) (fun _ R s => s.heap.get? l = some { cls := .type "dict", dict := dd, data := .dict es ep, slots := sl } ∧ R (.ok (.ret .notImplemented)) s) :=
  .of_wp fun prog w A R s h => by
    obtain ⟨hp, g, d, tk, os⟩ := s
    obtain ⟨hl, h⟩ := h
    wp_walk using wpAny_loadPart' hl, wpAny_load hl
    exact ⟨_, rfl, h⟩
section
variable {A : Around} {s : Shared} {l : Addr} {es : Array DictEntry} {ep : Nat} {dd : Option Addr} {sl : Array (Option Value)}
theorem rc_dict_str (b : Str) (u : Tok) (ho : s.heap.get? l = some { cls := .type "dict", dict := dd, data := .dict es ep, slots := sl }) (hu : A.units < cLine) : RcAt A s (.ref l) (.str b u) false := fun prog w E Q h =>
  rc_eq_decline_or (k := false) ⟨_, ho, rfl⟩ (typeIs_str s b u) (by decide) F.sub_str_dict F.slot_dict_eq F.slot_str_eq_refl
    (fun _ hq => call_meets F.slot_dict_eq ⟨_, ho, rfl⟩ F.entry_dict_eq (F.args_dict_eq_2 _ _) (dict_eq_no l es ep dd sl b u) ⟨ho, hq⟩)
    (fun _ hq => call_meets F.slot_str_eq_refl (typeIs_str s b u) F.entry_str_eq (F.args_str_eq_2 _ _) (str_eq_dict b u l es ep dd sl) ⟨ho, hq⟩)
    (fun _ hq => wpAny_of_eq (rfl : isSame (.ref l) (.str b u) = pure false) hq) (.inr hu) h
theorem rc_str_dict (b : Str) (u : Tok) (ho : s.heap.get? l = some { cls := .type "dict", dict := dd, data := .dict es ep, slots := sl }) (hu : A.units < cLine) : RcAt A s (.str b u) (.ref l) false := fun prog w E Q h =>
  rc_eq_decline_or (k := false) (typeIs_str s b u) ⟨_, ho, rfl⟩ (by decide) F.sub_dict_str F.slot_str_eq F.slot_dict_eq_refl
    (fun _ hq => call_meets F.slot_str_eq (typeIs_str s b u) F.entry_str_eq (F.args_str_eq_2 _ _) (str_eq_dict b u l es ep dd sl) ⟨ho, hq⟩)
    (fun _ hq => call_meets F.slot_dict_eq_refl ⟨_, ho, rfl⟩ F.entry_dict_eq (F.args_dict_eq_2 _ _) (dict_eq_no l es ep dd sl b u) ⟨ho, hq⟩)
    (fun _ hq => wpAny_of_eq (rfl : isSame (.str b u) (.ref l) = pure false) hq) (.inr hu) h
theorem at_str_dict (b : Str) (u : Tok) (ho : s.heap.get? l = some { cls := .type "dict", dict := dd, data := .dict es ep, slots := sl }) (hu : A.units < cLine) : EqAt A s (.str b u) (.ref l) false := fun prog w E Q h => by
  unfold eqBool
  refine wpAny_holding ?_
  refine wpAny_ite_split (fun hab => absurd (eq_of_beq hab) nofun) (fun _ => ?_)
  exact wpAny_bind (rc_str_dict b u ho hu prog w E _ (wpAny_truthy_bool h))
theorem ne_dict_str (b : Str) (u : Tok) (ho : s.heap.get? l = some { cls := .type "dict", dict := dd, data := .dict es ep, slots := sl }) (hu : A.units < cLine) : RcNeAt A s (.ref l) (.str b u) true := fun prog w E Q h =>
  rc_ne_decline_or (k := false) ⟨_, ho, rfl⟩ (typeIs_str s b u) (by decide) F.sub_str_dict F.slot_dict_ne F.slot_str_ne_refl
    (fun _ hq => call_meets F.slot_dict_ne ⟨_, ho, rfl⟩ F.entry_dict_ne (F.args_dict_ne_2 _ _) (dict_ne_no l es ep dd sl b u) ⟨ho, hq⟩)
    (fun _ hq => call_meets F.slot_str_ne_refl (typeIs_str s b u) F.entry_str_ne (F.args_str_ne_2 _ _) (str_ne_dict b u l es ep dd sl) ⟨ho, hq⟩)
    (fun _ hq => wpAny_of_eq (rfl : isSame (.ref l) (.str b u) = pure false) hq) (.inr hu) h
end
/-- the text z -/
def isS : PyData → Str → Bool
  | .str x, z => x == z
  | _, _ => false
section
variable {X : Cx} {pins : List (Addr × Obj)} {σ : L2.St} {G : Hp} {st : Shared}
theorem dict_at {a : Addr} {kvs : List (Key × V)} (I : Inv X pins σ G st) (e : G a = some (.dK kvs)) : ∃ dd es ep sl, st.heap.get? a = some { cls := .type "dict", dict := dd, data := .dict es ep, slots := sl } := by
  obtain ⟨_, _, vs, _, o, es, ep, h1, h2, h3, _⟩ := (show ObjOk X.prog X.w G st.heap a (.dK kvs) from I.hok a _ e)
  obtain ⟨oc, od, dt, sl⟩ := o
  have h4 : oc = .type "dict" := h2.1
  have h5 : dt = .dict es ep := h3
  subst h4 h5
  exact ⟨_, _, _, _, h1⟩
theorem rp_rc {A : Around} (hu : A.units < cLine) (I : Inv X pins σ G st) {v : V} {u : Value} {d : PyData} (r : Rp X.K G v d) (ru : RelV v u) (z : Str) (t : Tok) : RcAt A st u (.str z t) (isS d z) := by
  cases r with
  | non =>
    cases ru
    exact RcAt.none_str z t
  | bl b =>
    cases ru
    exact RcAt.bool_str b z t
  | int i =>
    obtain ⟨t2, rfl⟩ := ru
    exact RcAt.int_str i t2 z t
  | str x =>
    obtain ⟨t2, rfl⟩ := ru
    exact RcAt.str_str x t2 z t
  | lst a b c =>
    cases ru
    obtain ⟨its, r, pl, hz⟩ := I.list a
    exact RcAt.list_str z t pl.isList hu
  | tup a b =>
    cases ru
    obtain ⟨its, r, pl, hz⟩ := I.tuple a
    exact RcAt.tuple_str z t pl hu
  | dic a b c =>
    cases ru
    obtain ⟨dd, es, ep, sl, o⟩ := dict_at I a
    exact rc_dict_str z t o hu
theorem rp_ne {A : Around} (hu : A.units < cLine) (I : Inv X pins σ G st) {v : V} {u : Value} {d : PyData} (r : Rp X.K G v d) (ru : RelV v u) (z : Str) (t : Tok) : RcNeAt A st u (.str z t) (!isS d z) := by
  cases r with
  | non =>
    cases ru
    exact RcNeAt.none_str z t
  | bl b =>
    cases ru
    exact RcNeAt.bool_str b z t
  | int i =>
    obtain ⟨t2, rfl⟩ := ru
    exact RcNeAt.int_str i t2 z t
  | str x =>
    obtain ⟨t2, rfl⟩ := ru
    exact RcNeAt.str_str x t2 z t
  | lst a b c =>
    cases ru
    obtain ⟨its, r, pl, hz⟩ := I.list a
    exact RcNeAt.list_str z t pl.isList hu
  | tup a b =>
    cases ru
    obtain ⟨its, r, pl, hz⟩ := I.tuple a
    exact RcNeAt.tuple_str z t pl hu
  | dic a b c =>
    cases ru
    obtain ⟨dd, es, ep, sl, o⟩ := dict_at I a
    exact ne_dict_str z t o hu
theorem beq_swap (x z : Str) : (z == x) = (x == z) := by
  rw [Bool.eq_iff_iff, beq_iff_eq, beq_iff_eq]
  exact eq_comm
theorem rp_at {A : Around} (hu : A.units < cLine) (I : Inv X pins σ G st) {v : V} {u : Value} {d : PyData} (r : Rp X.K G v d) (ru : RelV v u) (z : Str) (t : Tok) : EqAt A st (.str z t) u (isS d z) := by
  cases r with
  | non =>
    cases ru
    exact EqAt.str_none z t
  | bl b =>
    cases ru
    exact EqAt.str_bool z t b
  | int i =>
    obtain ⟨t2, rfl⟩ := ru
    exact EqAt.str_int z t i t2
  | str x =>
    obtain ⟨t2, rfl⟩ := ru
    have := EqAt.str_str (A := A) (s := st) z t x t2
    rw [beq_swap] at this
    exact this
  | lst a b c =>
    cases ru
    obtain ⟨its, r, pl, hz⟩ := I.list a
    exact EqAt.str_list z t pl.isList hu
  | tup a b =>
    cases ru
    obtain ⟨its, r, pl, hz⟩ := I.tuple a
    exact EqAt.str_tuple z t pl hu
  | dic a b c =>
    cases ru
    obtain ⟨dd, es, ep, sl, o⟩ := dict_at I a
    exact at_str_dict z t o hu
end
/-- d == 'z', d != 'z' -/
def rEqS (K : PySem.W.Frag) : R2 := fun x y G Want => ∃ d z, Rp K G x d ∧ y = .str z ∧ Want (.bl (isS d z)) G
def rNeS (K : PySem.W.Frag) : R2 := fun x y G Want => ∃ d z, Rp K G x d ∧ y = .str z ∧ Want (.bl (!isS d z)) G
theorem op_eqS {X : Cx} (hu : X.A.units + 1 < cLine) : OpR X (compareOp .Eq) (rEqS X.K) := by
  intro pins st σ G x y v u Want I rx ry h
  obtain ⟨d, z, r, rfl, q⟩ := h
  obtain ⟨t, rfl⟩ := ry
  exact rp_rc (Nat.lt_of_succ_lt hu) I r rx z t _ _ _ _ ⟨.bl _, G, I, rfl, q⟩
theorem op_neS {X : Cx} (hu : X.A.units + 1 < cLine) : OpR X (compareOp .NotEq) (rNeS X.K) := by
  intro pins st σ G x y v u Want I rx ry h
  obtain ⟨d, z, r, rfl, q⟩ := h
  obtain ⟨t, rfl⟩ := ry
  exact rp_ne (Nat.lt_of_succ_lt hu) I r rx z t _ _ _ _ ⟨.bl _, G, I, rfl, q⟩
/-- d in a tuple of texts -/
def rInS (K : PySem.W.Frag) : R2 := fun x y G Want => ∃ (d : PyData) (p : Addr) (zs : List Str), Rp K G x d ∧ y = .ref p ∧ SqT K G p (zs.map V.str) ∧ Want (.bl (zs.any fun z => isS d z)) G
theorem any_texts {d : PyData} : ∀ {zs : List Str} {us : List Value}, Vals (zs.map V.str) us → (us.any fun u => match u with | .str z _ => isS d z | _ => false) = zs.any fun z => isS d z
  | [], _, .nil => rfl
  | z :: zs, _, .cons r t => by
    obtain ⟨k, rfl⟩ := r
    rw [List.any_cons, List.any_cons, any_texts t]
theorem texts_are : ∀ {zs : List Str} {us : List Value}, Vals (zs.map V.str) us → ∀ u ∈ us, ∃ z t, u = .str z t
  | [], _, .nil => fun u hu => by cases hu
  | z :: zs, _, .cons r t => fun u hu => by
    obtain ⟨k, rfl⟩ := r
    rcases List.mem_cons.mp hu with e | m
    · exact ⟨z, k, e⟩
    · exact texts_are t u m
theorem op_inS {X : Cx} (hu : X.A.units + 1 < cLine) : OpR X (compareOp .In) (rInS X.K) := by
  intro pins st σ G x y v u Want I rx ry h
  obtain ⟨d, p, zs, r, rfl, hq, q⟩ := h
  cases ry
  obtain ⟨its, rl, pl, hz⟩ := I.tuple hq
  refine SeqAt.in_tupleAt (fun u => match u with | .str z _ => isS d z | _ => false) pl (fun w hw => ?_) ⟨.bl _, G, I, rfl, ?_⟩
  · obtain ⟨z, t, rfl⟩ := texts_are rl w (by simpa using hw)
    exact rp_at (A := X.A.in1) (show X.A.units + 1 < cLine from hu) I r rx z t
  · rw [show its.toArray.any (fun u => match u with | .str z _ => isS d z | _ => false) = its.any (fun u => match u with | .str z _ => isS d z | _ => false) by simp, any_texts rl]
    exact q

end KEq

set_option Elab.async false
set_option linter.all false
set_option maxRecDepth 100000
set_option maxHeartbeats 2000000
/-! C.m() of a staticmethod; f(k = v, ..) without a positional argument. -/
namespace SC
open PySem PySem.Spec PyProof.Rows L2
/-- C.m is a staticmethod: its record at p, its def at g -/
structure SMet (K : PySem.W.Frag) (C : Addr) (mc : Value) (m : Str) (p g : Addr) : Prop where
  at_ : PySem.W.findCls K (.ref C) mc m = some (.get (.builtin "staticmethod.__get__") (.ref p) .none (.ref C))
  rc : ∃ rest, PySem.W.recIn K p "staticmethod" = some (.ref g :: rest)
  kp : PySem.W.keepIn K (.ref g) = true
def tSMeth0 (C : Addr) (sp : Sp) (E : XK) (ta : TE) : TE := fun σ H Q => ta σ H fun x H1 => x = .ref C ∧ sp [] H1 Q E
def tCallK (m : Nat) (sp : Sp) (gV : List V → List V) (E : XK) (tk : TA) : TE := fun σ H Q => tk σ H fun zs H2 => zs.length = m ∧ sp (gV zs) H2 Q E
section
variable {X : Cx} {CX : CXT} {k : Nat} {C p g f : Addr} {mc : Value} {fd : FuncData} {ps ks : List Str} {sp : Sp} {E : XK} {o : Expr} {m x : Str} {pos apos pn : Pos} {ta : TE} {tk : TA} {kws : List Keyword} {gg : List Value → List Value → List Value} {gV : List V → List V → List V}
theorem pe_smeth0 {pl : Sem Bool} (he : PE X o ta) (r : ClX.CRead X.K C mc) (c : SMet X.K C mc m p g) (F : FnOk X.prog X.w X.K X.mg X.base CX k g fd ps sp) (hr : Room k X.A) (hb : Binds X.K fd ps []) (hx : Passes CX X E)
    (ht : eval (.Call (.Attribute o m apos) [] [] pos) X.env = (eval o X.env >>= fun ov => standAt apos.atName >>= fun _ => holding [ov] (getMethod ov m pl) >>= fun z => callWith pos z.1 z.2 (backTo pos (starEach [] X.env)) (backToKw pos (keywordEach [] X.env))) := by rfl) :
    PE X (.Call (.Attribute o m apos) [] [] pos) (tSMeth0 C sp E ta) := by
  refine ⟨fun pins s σ H Q I h => ?_⟩
  refine PySem.W.methodCall_KW (pl := pl) (thn (he.run pins s σ H _ I h) fun u s1 z => ?_) ht
  obtain ⟨x, H1, I1, rx, ex, q⟩ := z
  subst ex
  obtain rfl : u = Value.ref C := rx
  obtain ⟨rest, hp⟩ := c.rc
  refine PySem.W.method_cls I1.kIn r.ga (PySem.W.cls_bind I1.kIn r.rd c.at_ (wpAny_call (PySem.W.sm_get (s := { s1 with toks := s1.toks + 1 }) I1.kIn hp (PySem.W.handed_on rfl ?_))))
  have I2 := I1.tok (s1.toks + 1)
  exact PySem.W.callWith_K0 I2.kIn c.kp (run_fn (us := []) (vs := []) (dvs := []) F hr hb .nil hx I2 .nil q)
theorem pe_callK0 (F : FnOk X.prog X.w X.K X.mg X.base CX k f fd ps sp) (hr : Room k X.A) (hg : Gl X x) (hm : X.mg x = some (.ref f)) (hk : PySem.W.keepIn X.K (.ref f) = true) (hb : KBn X.K fd ps 0 ks gg gV) (hx : Passes CX X E)
    (hkw : PK X kws tk) (hall : (backToKw pos (keywordEach kws X.env)).all (·.1.isSome) = true := by rfl) (hks : (backToKw pos (keywordEach kws X.env)).filterMap (·.1) = ks := by rfl) (hdb : (x == ("__debug__" : Str)) = false := by decide)
    (hpl : ((backTo pos (starEach [] X.env)).any (·.1) || (backToKw pos (keywordEach kws X.env)).any (·.1.isNone)) = false := by rfl) : PE X (.Call (.Name x pn) [] kws pos) (tCallK ks.length sp (gV []) E tk) := by
  refine ⟨fun pins s σ H Q I h => wpAny_Call_Name_kw (ld_glob I hg hm ?_ hdb)⟩
  refine PySem.W.callWith_KW0 (h₀ := X.base) I.ok.mod.kin hk hall (thn (hkw.run pos pins s σ H _ I h) fun ws s2 z => ?_) hpl
  obtain ⟨zs, H2, I2, rz, l1, q2⟩ := z
  refine ⟨I2.kIn, ?_⟩
  rw [hks]
  exact run_fnN (us := []) (vs := []) F hr hb hx I2 .nil rz rfl l1 q2
end
end SC

set_option Elab.async false
set_option linter.all false
set_option maxRecDepth 100000
set_option maxHeartbeats 2000000
/-! A list comprehension of any number of clauses. -/
namespace CN
open PySem PySem.Spec PyProof.Rows L2
/-- what stands behind the tests of a clause: the next clause's source and start, or the element's way into the list -/
def act (elt : Expr) (cs : List Comprehension) (scope : Scope) (pos : Pos) (k : Nat) (acc : Value) (env : Env) : Sem Unit :=
  match cs[k]? with
  | some c => do
    let x ← eval c.iter env
    standAt c.iter.pos
    let y ← foldedSetIterable c.iter env x
    let _ ← runOwn (.compStart (.ListComp elt cs scope pos) k (← holding [y] (pyIter y)) acc env) env
  | none => do let _ ← call (.builtin "list.append") [acc, ← eval elt env]
def testsOf (ifs : List Expr) (env : Env) : Sem Bool := forIn ifs true fun c r => if r = true then do let ok ← isTrue c env (eval c env); pure (ForInStep.yield ok) else pure (ForInStep.yield r)
def turnAt (elt : Expr) (cs : List Comprehension) (scope : Scope) (pos : Pos) (k : Nat) (c : Comprehension) (it acc : Value) (env : Env) : Sem Fin := do
  standAt c.iter.pos
  match ← pyNext it with
  | none => pure (.done .next)
  | some v =>
    letOwnedTupleGo c.target it v
    assign c.target env v
    let ok ← testsOf c.ifs env
    if ok then act elt cs scope pos (k + 1) acc env
    again (.compLoop (.ListComp elt cs scope pos) k it acc env)
theorem turn_at (elt : Expr) (cs : List Comprehension) (scope : Scope) (pos : Pos) (k : Nat) (c : Comprehension) (it acc : Value) (env : Env) (hk : cs[k]? = some c) (ha : c.is_async = 0) (hn : ∀ d, cs[k + 1]? = some d → d.is_async = 0) :
    compTurn (.ListComp elt cs scope pos) k it acc env = turnAt elt cs scope pos k c it acc env := by
  unfold compTurn turnAt act testsOf
  simp only [hk, ha]
  cases e : cs[k + 1]? with
  | none =>
    simp only [bne_self_eq_false, Bool.false_eq_true, if_false, bind_assoc, pure_bind]
    rfl
  | some d =>
    simp only [hn d e, bne_self_eq_false, Bool.false_eq_true, if_false, bind_assoc, pure_bind]
    rfl
/-! ### one clause's loop -/
/-- what is reached from clause k on: of the list's place, slots, heap -/
abbrev TN := Addr → L2.St → Hp → (Hp → Prop) → Prop
structure PIn (B : Cx) (elt : Expr) (cs : List Comprehension) (scope : Scope) (pos : Pos) (k : Nat) (vs : List Nat) (t : TN) : Prop where
  run : ∀ (pins : List (Addr × Obj)) (s : Shared) (σ : L2.St) (H : Hp) (D : Addr) (Nx : Hp → Prop), Inv B pins σ H s → t D σ H Nx →
    wpAny (model B.prog B.w) B.A (act elt cs scope pos k (.ref D) B.env) (fun _ z => ∃ Hz, Inv B pins (wipe σ vs) Hz z ∧ Nx Hz) (fun _ _ => False) s
def tEmit (te : TE) : TN := fun D σ H Nx => te σ H fun y H1 => ∃ acc, H1 D = some (.lst acc) ∧ acc.length < sizeLine ∧ Nx (upd H1 D (.lst (acc ++ [y])))
/-- a walk J with its measure W: it stops and Nx holds, or a turn runs the target's store, the tests, and what is within -/
def Goes (J : It) (W : Nat → Nat → Hp → Prop) (g : TG) (tt : TT) (vs : List Nat) (ti : TN) (D : Addr) (σ : L2.St) (Nx : Hp → Prop) : Prop := ∀ i m H, W i m H →
  (J.stop i H ∧ Nx H) ∨ (J.go i H ∧ ∃ N1 : Hp → Prop, (∀ Hz, N1 Hz → ∃ mz, mz < m ∧ W (i + 1) mz Hz) ∧ ∀ x Hy, J.yld i H x Hy → g x (wipe σ vs) Hy fun σ2 H2 => wipe σ2 vs = wipe σ vs ∧ tt σ2 H2 fun b H3 => if b = true then ti D σ2 H3 N1 else N1 H3)
def tNext (wi : TI) (g : TG) (tt : TT) (vs : List Nat) (ti : TN) : TN := fun D σ H Nx => wi σ H fun J H1 => ∃ W : Nat → Nat → Hp → Prop, (∃ m, W 0 m H1) ∧ Goes J W g tt vs ti D σ Nx
section
variable {B : Cx} {elt : Expr} {cs : List Comprehension} {scope : Scope} {pos : Pos} {k : Nat} {c : Comprehension} {vs vs2 : List Nat} {te : TE} {wi : TI} {g : TG} {tt : TT} {ti : TN}
theorem pin_emit (hx : B.xe = fun _ _ => False) (hk : cs[k]? = none) (he : PE B elt te) : PIn B elt cs scope pos k [] (tEmit te) := by
  refine ⟨fun pins s σ H D Nx I h => ?_⟩
  unfold act
  rw [hk]
  have q := he.run pins s σ H _ I h
  rw [hx] at q
  refine wpAny_bind (wpAny_mono q (fun x s1 z => ?_) (fun _ _ z => z))
  obtain ⟨y, H1, I1, r, acc, hD, hz, nx⟩ := z
  exact wpAny_bind (app_ok I1 hD hz r fun s2 I2 => wpAny_pure ⟨_, I2, nx⟩)
theorem loop_ok {pins : List (Addr × Obj)} {fp : List Addr} {it D : Addr} {tn : Nat → Heap → Prop} {J : It} {σ : L2.St} {W : Nat → Nat → Hp → Prop} {Nx : Hp → Prop} (hx : B.xe = fun _ _ => False) (hc : B.calm = true)
    (hk : cs[k]? = some c) (ha : c.is_async = 0) (hn : ∀ d, cs[k + 1]? = some d → d.is_async = 0) (pg : PG B c.target g) (pt : PTs B c.ifs tt) (pn : PIn B elt cs scope pos (k + 1) vs2 ti) (hv : ∀ i ∈ vs2, i ∈ vs)
    (T : Turn B.prog B.w B.K c.target J fp it tn) {H0 : Hp} (fs : ∀ b ∈ fp, FpOk B pins H0 b) (turn : Goes J W g tt vs ti D σ Nx) {m : Nat} {s : Shared} {H : Hp} (I : Inv B pins (wipe σ vs) H s) (st : tn 0 s.heap) (n0 : ∀ b ∈ fp, H b = none) (w0 : W 0 m H) :
    codeAny (model B.prog B.w) B.A (.compLoop (.ListComp elt cs scope pos) k (.ref it) (.ref D) B.env) (fun r z => match r with
      | .ok f => f = .next ∧ ∃ Hz, Inv B pins (wipe σ vs) Hz z ∧ Nx Hz
      | .error _ => False) s := by
  have stat : ∀ {Hz : Hp}, (∀ b ∈ fp, Hz b = none) → ∀ b ∈ fp, FpOk B pins Hz b := fun n b hb => ⟨n b hb, (fs b hb).2⟩
  refine codeAny_loop rfl (fun n z => ∃ i Hz, Inv B pins (wipe σ vs) Hz z ∧ tn i z.heap ∧ (∀ b ∈ fp, Hz b = none) ∧ W i n Hz) (fun n s1 hI => ?_) m ⟨0, H, I, st, n0, w0⟩
  obtain ⟨i, H1, I1, st1, n1, w1⟩ := hI
  show wpAny _ _ ((compTurn (.ListComp elt cs scope pos) k (.ref it) (.ref D) B.env).onRaise _) _ _ s1
  refine wpAny_noted (wpAny_mono (E := fun _ _ => False) (Q := fun fin z => match fin with
    | .done f => f = .next ∧ ∃ Hz, Inv B pins (wipe σ vs) Hz z ∧ Nx Hz
    | .again cc => cc = .compLoop (.ListComp elt cs scope pos) k (.ref it) (.ref D) B.env ∧ ∃ mz, mz < n ∧ ∃ i Hz, Inv B pins (wipe σ vs) Hz z ∧ tn i z.heap ∧ (∀ b ∈ fp, Hz b = none) ∧ W i mz Hz) ?_ (fun fin z q => ?_) (fun _ _ z => z.elim))
  case refine_2 =>
    cases fin with
    | done f => exact q
    | again cc => exact q
  rw [turn_at elt cs scope pos k c _ _ _ hk ha hn]
  unfold turnAt
  refine wpAny_bind (wpAny_standAt (wpAny_bind ?_))
  rcases turn i n H1 w1 with ⟨stop, nx⟩ | ⟨go, N1, hN, step⟩
  · refine thn (T.done B rfl rfl rfl hc i pins s1 _ H1 (fun _ _ => False) I1 (stat n1) st1 stop) fun r s2 z => ?_
    obtain ⟨hr, I2⟩ := z
    subst hr
    exact wpAny_pure ⟨rfl, H1, I2, nx⟩
  · refine thn (T.item B rfl rfl rfl hc i pins s1 _ H1 (fun _ _ => False) I1 (stat n1) st1 go) fun r s2 z => ?_
    obtain ⟨u, hr, h2⟩ := z
    subst hr
    refine wpAny_bind (thn h2 fun _ s3 z => ?_)
    obtain ⟨x, H3, I3, r3, y3, st3, n3⟩ := z
    have qg := pg.run _ s3 _ H3 x u _ (I3.pinned (stat n3) (T.obj _ _ st3)) r3 (step x H3 y3)
    rw [hx] at qg
    refine wpAny_bind (thn qg fun _ s4 z => ?_)
    obtain ⟨σ4, H4, I4, hw4, q4⟩ := z
    have qt := pt.run _ s4 σ4 H4 _ I4 q4
    rw [hx] at qt
    refine wpAny_bind (thn qt fun b s5 z => ?_)
    obtain ⟨H5, I5, q5⟩ := z
    have fin : ∀ {σz : L2.St} {z : Shared} {Hz : Hp}, Inv B (pins ++ pinsAt fp s3.heap) σz Hz z → (wipe σ vs).length = σz.length → (∀ (j : Nat) v, (wipe σ vs)[j]? = some (some v) → σz[j]? = some (some v)) → N1 Hz →
        ∃ mz, mz < n ∧ ∃ i Hy, Inv B pins (wipe σ vs) Hy z ∧ tn i z.heap ∧ (∀ b ∈ fp, Hy b = none) ∧ W i mz Hy := by
      intro σz z Hz Iz hl hw nz
      obtain ⟨mz, hm, wz⟩ := hN Hz nz
      have pin : ∀ b ∈ fp, ∀ o, s3.heap.get? b = some o → z.heap.get? b = some o ∧ Hz b = none := by
        intro b hb o e
        have a := Iz.pin (b, o) (List.mem_append_right _ (List.mem_append_right _ (mem_pinsAt hb e)))
        exact ⟨a.1, a.2.1⟩
      refine ⟨mz, hm, i + 1, Hz, Iz.unpinned.weak hl hw, T.keep _ _ _ st3 (fun b hb o e => (pin b hb o e).1), fun b hb => ?_, wz⟩
      obtain ⟨o, e, _⟩ := T.obj _ _ st3 b hb
      exact (pin b hb o e).2
    have hl4 : (wipe σ vs).length = σ4.length := by rw [← hw4, wipe_length]
    cases b with
    | false => exact wpAny_pure ⟨rfl, fin I5 hl4 (fun j v e => (wipe_some (by rw [hw4]; exact e)).1) q5⟩
    | true =>
      refine wpAny_bind (thn (pn.run _ s5 σ4 H5 D N1 I5 q5) fun _ s6 z => ?_)
      obtain ⟨H6, I6, nz⟩ := z
      refine wpAny_pure ⟨rfl, fin I6 (hl4.trans (wipe_length σ4 vs2).symm) (fun j v e => ?_) nz⟩
      obtain ⟨e1, e2⟩ := wipe_some (σ := σ4) (vs := vs) (by rw [hw4]; exact e)
      rw [wipe_out fun z => e2 (hv j z)]
      exact e1
theorem start_ok {prog : Program} {w : World} {A : Around} {R : Result → Shared → Prop} {s : Shared} {it : Addr} {acc : Value} {env : Env} (hk : cs[k]? = some c) (ha : c.is_async = 0)
    (self : ∀ (Q E : Value → Shared → Prop), Q (.ref it) s → wpAny (model prog w) A (pyIter (.ref it)) Q E s) (h : codeAny (model prog w) A (.compLoop (.ListComp elt cs scope pos) k (.ref it) acc env) R s) :
    codeAny (model prog w) A (.compStart (.ListComp elt cs scope pos) k (.ref it) acc env) R s := by
  refine codeAny_of_tree (M := model prog w) ?_
  show wpAny _ _ ((compStart (.ListComp elt cs scope pos) k (.ref it) acc env).onRaise _) _ _ s
  refine wpAny_notedAt (M := model prog w) ?_
  have e : clausesOf (.ListComp elt cs scope pos) = cs := rfl
  unfold compStart
  simp only [e, hk, ha, Option.elim, bne_self_eq_false, Bool.false_eq_true, if_false]
  refine wpAny_bind (wpAny_askSetting (wpAny_ite ?_))
  split
  · exact wpAny_pure (And.intro rfl h)
  · exact wpAny_bind (wpAny_rule (wpAny_bind (wpAny_standAt (wpAny_bind (self _ _ (wpAny_pure (And.intro rfl h)))))))
theorem pin_next (hx : B.xe = fun _ _ => False) (hc : B.calm = true) (hk : cs[k]? = some c) (ha : c.is_async = 0) (hn : ∀ d, cs[k + 1]? = some d → d.is_async = 0) (hi : PI B c.target c.iter wi) (pg : PG B c.target g) (pt : PTs B c.ifs tt)
    (pn : PIn B elt cs scope pos (k + 1) vs2 ti) (hv : ∀ i ∈ vs2, i ∈ vs) (hs : ∀ env x, foldedSetIterable c.iter env x = pure x) : PIn B elt cs scope pos k vs (tNext wi g tt vs ti) := by
  refine ⟨fun pins s σ H D Nx I h => ?_⟩
  unfold act
  rw [hk]
  have q := hi.run pins s σ H _ I h
  rw [hx] at q
  refine wpAny_bind (thn q fun x s1 q1 => wpAny_bind (wpAny_standAt (wpAny_bind (wpAny_of_eq (hs _ x) (wpAny_bind (wpAny_holding (thn q1 fun z s2 q2 => ?_)))))))
  obtain ⟨it, fp, tn, J, H2, e, I2, T, st2, f2, W, ⟨m, w0⟩, turn⟩ := q2
  subst e
  have lp := loop_ok hx hc hk ha hn pg pt pn hv T f2 turn (I2.weak (wipe_length σ vs) fun j v e => (wipe_some e).1) st2 (fun b hb => (f2 b hb).1) w0
  rw [← Around.mark_none (A := B.A)] at lp
  refine wpAny_bind (wpAny_runOwn (codeAny_mono (start_ok hk ha (fun Q E hq => T.self _ 0 _ Q E st2 hq) lp) fun r s3 hr => ?_))
  cases r with
  | ok f => exact wpAny_pure hr.2
  | error e => exact hr.elim
end
/-! ### the whole -/
section
variable {X : Cx} {elt tg iter : Expr} {ifs : List Expr} {rest : List Comprehension} {scope : Scope} {pos : Pos} {own : List (Str × Nat)} {vs2 : List Nat} {wi : TI} {g : TG} {tt : TT} {ti : TN}
/-- D: the new list -/
def tLcN (wi : TI) (g : TG) (tt : TT) (vs : List Nat) (ti : TN) : TE := fun σ H Q => wi σ H fun J H1 => ∀ D, H1 D = none → ∃ W : Nat → Nat → Hp → Prop, (∃ m, W 0 m (upd H1 D (.lst []))) ∧ Goes J W g tt vs ti D σ (Q (.ref D))
theorem lcN_core {pins : List (Addr × Obj)} {s : Shared} {σ : L2.St} {H : Hp} {Q : VK} {pos' : Pos} {use : Option (Value → Sem Unit)} {Qf : Value → Shared → Prop} (hc : X.calm = true) (hN : X.N.Nodup) (I : Inv X pins σ H s) (hi : PI X tg iter wi) (ok : BlkOk X.N X.env.scope scope own)
    (hg : ∀ (s : Shared) (H : Hp) (C : Addr) (cl : List (Str × Addr)) (fp : List Addr), PG (X.blk s H scope (compEnvC scope cl C X.env) fp) tg g ∧ PTs (X.blk s H scope (compEnvC scope cl C X.env) fp) ifs tt ∧ PIn (X.blk s H scope (compEnvC scope cl C X.env) fp) elt (⟨tg, iter, ifs, 0⟩ :: rest) scope pos 1 vs2 ti)
    (hv : ∀ i ∈ vs2, i ∈ own.map (·.2)) (hn : ∀ d, rest[0]? = some d → d.is_async = 0) (hs : ∀ x, foldedSetIterable iter X.env x = pure x)
    (h : tLcN wi g tt (own.map (·.2)) ti σ H Q)
    (hRR : ∀ D C s' m H', Inv X pins σ H' s' → Q (.ref D) H' → s'.heap.Ns C m → FpOk X pins H' C → compPost (model X.prog X.w) X.A X.xe use Qf (.ref D) C (.ok .next) s') :
    wpAny (model X.prog X.w) X.A (comprehension (.ListComp elt (⟨tg, iter, ifs, 0⟩ :: rest) scope pos) scope X.env pos' (newList []) false (eval iter X.env) use) Qf X.xe s := by
  have hf : ∀ y ∈ scope.names, y.2 = .free → ∃ c, X.env.cells.lookup y.1 = some c := fun y hy e => (ok.free y hy e).elim (fun z => I.ok.has _ (.inl z)) fun z => I.ok.has _ (.inr z)
  refine wpAny_comprehension_free (use := use) rfl hs (closure_ok hf) ok.kind (fun y hy e => by rw [ok.uniq y hy, e]) (thn (hi.run pins s σ H _ I h) fun xv s1 q1 => thn q1 fun itv s2 q2 => ?_)
  obtain ⟨it, fp, tn, J, H2, e, I2, T, st2, f2, q⟩ := q2
  subst e
  refine wpAny_newObj_type (newEnv_comp ?_) (show 0 ≤ sizeLine by decide)
  generalize hD : s2.heap.objs.size = D
  have fresh := I2.hok.fresh (Nat.le_of_eq hD)
  obtain ⟨W, ⟨m0, w0⟩, turn⟩ := q D fresh
  generalize hs3 : ({ s2 with heap := s2.heap.push { cls := .type "list", data := .seq ([] : List Value).toArray } } : Shared) = s3
  have h3 : s3.heap = s2.heap.push { cls := .type "list", data := .seq ([] : List Value).toArray } := by subst hs3; rfl
  have k3 : ∀ b o, s2.heap.get? b = some o → s3.heap.get? b = some o := fun b o z => by rw [h3]; exact Heap.get?_push_of_some _ z
  have I3 : Inv X pins σ (upd H2 D (.lst [])) s3 := by
    subst hs3
    exact I2.laid (t' := s2.toks) k3 (Nat.le_of_eq hD) ⟨Nat.zero_le _, [], 0, .nil, by rw [← hD]; exact Heap.get?_push_size _ rfl⟩
  have lt2 : ∀ b ∈ fp, b < s2.heap.objs.size := fun b hb => (T.obj _ _ st2 b hb).elim fun o z => Heap.lt_size z.1
  have f3 : ∀ b ∈ fp, FpOk X pins (upd H2 D (.lst [])) b ∧ b < s3.heap.objs.size := fun b hb => by
    have l := lt2 b hb
    exact ⟨⟨(upd_ne (by rw [← hD]; exact Nat.ne_of_lt l)).trans (f2 b hb).1, (f2 b hb).2⟩, by rw [h3, Heap.size_push]; exact Nat.lt_succ_of_lt l⟩
  have I4 := block_start I3 ok hN f3
  obtain ⟨pg, pt, pn⟩ := hg s3 (upd H2 D (.lst [])) s3.heap.objs.size (cellsFrom (s3.heap.objs.size + 1) scope.names (cloFrom X.env.cells scope.names [])) fp
  show codeAny _ _ (.compStart (.ListComp elt (⟨tg, iter, ifs, 0⟩ :: rest) scope pos) 0 (.ref it) (.ref D) (compEnvC scope (cellsFrom (s3.heap.objs.size + 1) scope.names (cloFrom X.env.cells scope.names [])) s3.heap.objs.size X.env)) _ { s3 with heap := pushCells (s3.heap.push { cls := .type "dict", data := .dict #[] }) scope.names }
  generalize hce : compEnvC scope (cellsFrom (s3.heap.objs.size + 1) scope.names (cloFrom X.env.cells scope.names [])) s3.heap.objs.size X.env = ce at I4 pg pt pn ⊢
  have cL : ce.locals = s3.heap.objs.size := by subst hce; rfl
  generalize hH3 : upd H2 D (.lst []) = H3 at I3 I4 pg pt pn w0 f3
  generalize hs4 : ({ s3 with heap := pushCells (s3.heap.push { cls := .type "dict", data := .dict #[] }) scope.names } : Shared) = s4 at I4 ⊢
  have st4 : tn 0 s4.heap := T.keep _ _ _ st2 fun b _ o z => by subst hs4; exact pushCells_keeps _ _ _ _ (Heap.get?_push_of_some _ (k3 b o z))
  have fB : ∀ b ∈ fp, FpOk (X.blk s3 H3 scope ce fp) [] H3 b := fun b hb =>
    ⟨(f3 b hb).1.1, (I4.ok.exf b hb).1, I4.ok.exfs b hb, .inl hb, fun x c z => (I4.ok.exf b hb).2 x c z, fun p hp => absurd (show p ∈ ([] : List (Addr × Obj)) ++ [] from hp) (by simp)⟩
  have lp := codeAny_mono (loop_ok (B := X.blk s3 H3 scope ce fp) (k := 0) (c := ⟨tg, iter, ifs, 0⟩) rfl hc rfl rfl (fun d z => hn d z) pg pt pn hv T fB turn I4 st4 (fun b hb => (f3 b hb).1.1) w0) (R' := compPost (model X.prog X.w) X.A X.xe use Qf (.ref D) s3.heap.objs.size) fun r s6 z => ?_
  · exact codeAny_compStart_list lp (T.self X.A 0 _ _ _ st4 lp)
  · cases r with
    | error e => exact z.elim
    | ok f =>
      obtain ⟨e, Hz, I6, qq⟩ := z
      subst e
      have I7 : Inv X pins σ Hz s6 := I3.call' (ch := fp) I6.os I6.base I6.hok I6.bare fun b hb => ⟨(f3 b hb).1.2.2.2.1, (f3 b hb).1.2.1, (f3 b hb).1.2.2.2.2.1, (f3 b hb).1.2.2.2.2.2⟩
      have nC : Hz s3.heap.objs.size = none := by rw [← cL]; exact I6.free
      obtain ⟨mm, hnn, _⟩ := I6.loc
      have hnn : s6.heap.Ns s3.heap.objs.size mm := by rw [← cL]; exact hnn
      exact hRR D _ s6 mm Hz I7 qq hnn (I3.fpOk (Nat.le_refl _) nC)
theorem pe_lcN (hc : X.calm = true) (hN : X.N.Nodup) (hi : PI X tg iter wi) (ok : BlkOk X.N X.env.scope scope own)
    (hg : ∀ (s : Shared) (H : Hp) (C : Addr) (cl : List (Str × Addr)) (fp : List Addr), PG (X.blk s H scope (compEnvC scope cl C X.env) fp) tg g ∧ PTs (X.blk s H scope (compEnvC scope cl C X.env) fp) ifs tt ∧ PIn (X.blk s H scope (compEnvC scope cl C X.env) fp) elt (⟨tg, iter, ifs, 0⟩ :: rest) scope pos 1 vs2 ti)
    (hv : ∀ i ∈ vs2, i ∈ own.map (·.2)) (hn : ∀ d, rest[0]? = some d → d.is_async = 0) (hs : ∀ x, foldedSetIterable iter X.env x = pure x) : PE X (.ListComp elt (⟨tg, iter, ifs, 0⟩ :: rest) scope pos) (tLcN wi g tt (own.map (·.2)) ti) := by
  refine ⟨fun pins s σ H Q I h => ?_⟩
  rw [eval_ListComp]
  refine lcN_core hc hN I hi ok hg hv hn hs h fun D C s' m H' I' q hn f => ⟨m, hn, fun h'' sb => ?_⟩
  obtain ⟨f0, f1, f2, f3, f4, f5⟩ := f
  exact ⟨.ref D, H', I'.turned (t' := s'.toks) (fun b o hb e => (sb.2 b hb).trans e) f0 f1 f3 f4 f5, rfl, q⟩
theorem ps_setLcN {i : Nat} {y : Str} {py spos : Pos} (hc : X.calm = true) (hN : X.N.Nodup) (hy : X.N[i]? = some y) (hyl : X.env.scope.names.lookup y = some .local)
    (hsw : swapsWith (.ListComp elt (⟨tg, iter, ifs, 0⟩ :: rest) scope pos) (some (.Name y py)) spos.line X.env = pure true) (hi : PI X tg iter wi) (ok : BlkOk X.N X.env.scope scope own)
    (hg : ∀ (s : Shared) (H : Hp) (C : Addr) (cl : List (Str × Addr)) (fp : List Addr), PG (X.blk s H scope (compEnvC scope cl C X.env) fp) tg g ∧ PTs (X.blk s H scope (compEnvC scope cl C X.env) fp) ifs tt ∧ PIn (X.blk s H scope (compEnvC scope cl C X.env) fp) elt (⟨tg, iter, ifs, 0⟩ :: rest) scope pos 1 vs2 ti)
    (hv : ∀ i ∈ vs2, i ∈ own.map (·.2)) (hn : ∀ d, rest[0]? = some d → d.is_async = 0) (hs : ∀ x, foldedSetIterable iter X.env x = pure x) :
    PS X (.Assign [.Name y py] (.ListComp elt (⟨tg, iter, ifs, 0⟩ :: rest) scope pos) spos) (tAsg (tLcN wi g tt (own.map (·.2)) ti) (gName i)) := by
  refine ⟨fun pins s σ H D I h => ?_⟩
  rw [exec_Assign_Name_used _ _ _ _ hsw]
  refine wpAny_bind (wpAny_standAt (wpAny_bind ?_))
  show wpAny _ X.A (do let _ ← comprehension (.ListComp elt (⟨tg, iter, ifs, 0⟩ :: rest) scope pos) scope X.env (firstIterPos (⟨tg, iter, ifs, 0⟩ :: rest) pos) (newList []) false (eval iter X.env) (some (assign (.Name y py) X.env))) _ _ s
  have h : tLcN wi g tt (own.map (·.2)) ti σ H (fun x H1 => gName i x σ H1 D.nx) := h
  refine wpAny_bind (thn (lcN_core (Qf := fun _ s' => SP X pins D .next s') hc hN I hi ok hg hv hn hs h fun L C s' m H' I' q hn f => ?_) fun _ s' hq => wpAny_pure (wpAny_pure hq))
  show wpAny _ _ (assign (.Name y py) X.env (.ref L)) _ _ _
  refine wpAny_assign_Name (store_ok2 (v := V.ref L) I' hN hy (.inl hyl) rfl (fun s2 I2 ⟨a, sb, ha⟩ => ?_) (.inr hyl))
  obtain ⟨f0, f1, f2, f3, f4, f5⟩ := f
  have haC : C ≠ a := by
    rcases ha with z | z
    · rw [z]; exact f1
    · exact fun e => f4 y a z e.symm
  refine ⟨m, hn.sameBut sb haC, fun h3 sb3 => ?_⟩
  exact ⟨_, H', I2.turned (t' := s2.toks) (fun b o hb e => (sb3.2 b hb).trans e) f0 f1 f3 f4 f5, q⟩
end
end CN

set_option Elab.async false
set_option linter.all false
set_option maxRecDepth 100000
namespace K69
open PySem L2 Pen
def top (i : Nat) : Stmt := PySem.Challenge.pw_oncepost_k68_account_by_walking.main.body.getD i (.Pass ⟨0, 0, 0, 0⟩)
def inClass (s : Stmt) (i : Nat) : Stmt := match s with
  | .ClassDef (body := b) .. => b.getD i (.Pass ⟨0, 0, 0, 0⟩)
  | _ => .Pass ⟨0, 0, 0, 0⟩
structure DefT (K : PySem.W.Frag) (mg : Str → Option Value) (x : Str) (f : Addr) : Prop where
  mg : mg x = some (.ref f)
  kp : PySem.W.keepIn K (.ref f) = true
/-- the built-in names that the defs read -/
structure Txt (mg : Str → Option Value) : Prop where
  int : mg "int" = none
  len : mg "len" = none
  abs : mg "abs" = none
  list : mg "list" = none
  dict : mg "dict" = none
  min : mg "min" = none
  max : mg "max" = none
  range : mg "range" = none
  repr : mg "repr" = none
abbrev sTape : Stmt := top 12
abbrev sDraw : Stmt := top 13
abbrev sPick : Stmt := top 14
abbrev sTodo : Stmt := top 15
abbrev sWkd : Stmt := top 16
abbrev sMv : Stmt := top 17
abbrev sExt : Stmt := top 18
abbrev sLaw : Stmt := top 19
abbrev cWays : Stmt := top 6
abbrev sAcc : Stmt := top 9
abbrev sIsWay : Stmt := top 7
abbrev sIsNum : Stmt := top 4
abbrev sRuns : Stmt := top 10
abbrev sEvery : Stmt := inClass cWays 5
end K69

set_option Elab.async false
set_option linter.all false
set_option maxRecDepth 100000
set_option maxHeartbeats 4000000
namespace K69
open PySem L2 Pen
section
variable {P : Program} {w : World} {K : PySem.W.Frag} {mg : Str → Option Value} {base : Heap}
theorem scTape : FnScope ["_law_script"] ["_law_script"] (defScope sTape) := ⟨rfl, rfl, rfl, by decide +kernel, rfl, by decide +kernel, by decide +kernel⟩
theorem ok_tape {f : Addr} {fd : FuncData} (F : Fun K "_law_tape" "_law_tape" sTape f fd) (T : Txt mg) : FnOk P w K mg base CX0 1 f fd ["_law_script"] (spPen K) := by
  refine F.ok scTape (fun vs H Q E h => ?_) (fun cdv A outer s H vs Q E hr h => ?_)
  · obtain ⟨a, ns, rfl, _⟩ := h
    rfl
  · obtain ⟨a, ns, rfl, hS, hl, k⟩ := h
    have hu := hu_of hr
    refine ⟨_, (pss_one (ps_ret (pe_disp (pps_cons pe_str (pe_callTy call_list_of (by rfl) T.list PyProof.Rows.boot_list (pa_cons (pe_slice sl_list (pv 0) po_none (po_some pe_int)) pa_nil)) (pps_cons pe_str pe_int (pps_cons pe_str pe_int pps_nil))) (by decide +kernel) rfl (by simp) (by decide)))), ?_⟩
    intro p hp
    refine ⟨_, rfl, 63, rfl, a, _, rfl, (same_new hp).seq hS, fun l1 h1 => ⟨l1, _, rfl, .inl (SqL.of upd_same), fun l h2 => ?_⟩⟩
    have n1 : l1 ≠ p := fun e => by rw [e, upd_same] at h1; cases h1
    have n2 : l ≠ l1 := fun e => by rw [e, upd_same] at h2; cases h2
    have n3 : l ≠ p := fun e => by rw [e, upd_ne n1.symm, upd_same] at h2; cases h2
    have hp' : (upd (upd (upd H p (.dK [])) l1 (.lst (cutV (ns.map V.int) none (some 63)))) l (.lst (cutV (ns.map V.int) none (some 63)))) p = some (.dK []) := by
      rw [upd_ne n3.symm, upd_ne n1.symm, upd_same]
    refine ⟨hp', [(kC, .ref l), (kA, .int 0), (kR, .int 0)], rfl, (by simp), ?_⟩
    rw [merge_pk, cut63 hl]
    refine k p l _ hp ⟨⟨0, 0, upd_same, by decide, by decide, by decide⟩, by rw [upd_ne n3, upd_same]⟩ fun b o e => ?_
    have b1 : b ≠ p := ne_of_none e hp
    rw [upd_ne b1]
    have e1 : (upd H p (.dK [])) b = some o := by rw [upd_ne b1]; exact e
    have b2 : b ≠ l1 := ne_of_none e1 h1
    have e2 : (upd (upd H p (.dK [])) l1 (.lst (cutV (ns.map V.int) none (some 63)))) b = some o := by rw [upd_ne b2]; exact e1
    have b3 : b ≠ l := ne_of_none e2 h2
    rw [upd_ne b3, upd_ne b2, upd_ne b1]
    exact e
theorem scDraw : FnScope ["_law_tape_here", "_law_many", "_law_digit", "_law_begun", "_law_size", "_law_cell", "_law_blend"] ["_law_tape_here", "_law_many"] (defScope sDraw) := ⟨rfl, rfl, rfl, by decide +kernel, rfl, by decide +kernel, by decide +kernel⟩
theorem mod_lt {m : Int} (h : 0 < m) (i : Int) : 0 ≤ i % m ∧ i % m < m := ⟨Int.emod_nonneg i (by omega), Int.emod_lt_of_pos i h⟩
theorem ok_draw {f : Addr} {fd : FuncData} (F : Fun K "_law_draw" "_law_draw" sDraw f fd) (T : Txt mg) : FnOk P w K mg base CX0 1 f fd ["_law_tape_here", "_law_many"] spDraw := by
  refine F.ok scDraw (fun vs H Q E h => ?_) (fun cdv A outer s H vs Q E hr h => ?_)
  · obtain ⟨p, c, ns, b, m, rfl, _⟩ := h
    rfl
  · obtain ⟨p, c, ns, b, m, rfl, Pn, hl, hb, hm, hm2, k⟩ := h
    have hu := hu_of hr
    obtain ⟨⟨a, r, hp, ha0, ha, hr0⟩, hc⟩ := id Pn
    have npc : p ≠ c := Pn.ne
    have cp : ∀ o, (upd H p o) c = some (.lst (ns.map V.int)) := fun o => by rw [upd_ne npc.symm]; exact hc
    refine ⟨_, (pss_cons (ps_if (pt_cmpR op_gt (pe_dget hu (pv 0) pe_str (fun _ _ => rfl)) pe_int (nomark _)) (pss_cons (ps_set (i := 2) scDraw.nd rfl (Or.inl rfl) (pe_op op_modN (pe_callTy call_int1 (by rfl) T.int PyProof.Rows.boot_int (pa_cons (pe_dget hu (pv 0) pe_str (fun _ _ => rfl)) pa_nil)) (pv 1)))
      (pss_cons (ps_dput hu (pv 0) pe_str (pe_op op_fdivW (pe_dget hu (pv 0) pe_str (fun _ _ => rfl)) (pv 1)) rfl)
      (pss_one (ps_ret (pv 2))))) pss_nil)
      (pss_cons (ps_par (i := 3) (j := 4) (by rfl) scDraw.nd rfl rfl (by decide) rfl rfl (pa_cons (pe_dget hu (pv 0) pe_str (fun _ _ => rfl)) (pa_cons (pe_callB call_len_seq (by rfl) T.len PySem.boot_len (pa_cons (pe_dget hu (pv 0) pe_str (fun _ _ => rfl)) pa_nil)) pa_nil)) (by rfl))
      (pss_cons (ps_dput hu (pv 0) pe_str (pe_op op_add (pv 3) pe_int) rfl)
      (pss_cons (ps_set (i := 5) scDraw.nd rfl (Or.inl rfl) (pe_ifExp (pt_cmpR op_gt (pv 4) pe_int (nomark _)) (pe_ix ix_list (pe_dget hu (pv 0) pe_str (fun _ _ => rfl)) (pe_op op_modN (pe_callTy call_int1 (by rfl) T.int PyProof.Rows.boot_int (pa_cons (pv 3) pa_nil)) (pv 4)) (fun _ _ => rfl)) (pe_op op_add (pe_op op_mul pe_int (pv 3)) pe_int)))
      (pss_cons (ps_if (PW.pt (pw_and (pt_cmpR op_lt (pv 3) (pv 4) (nomark _)) (pw_and1 (pt_cmpR op_ge (pe_callB call_abs (by rfl) T.abs PyProof.Rows.boot_abs (pa_cons (pv 5) pa_nil)) (pe_op op_pow pe_int pe_int) (nomark _))))) (pss_cons (ps_dput hu (pv 0) pe_str (pe_op op_fdivW (pe_op op_sub (pe_callB call_abs (by rfl) T.abs PyProof.Rows.boot_abs (pa_cons (pv 5) pa_nil)) (pe_op op_pow pe_int pe_int)) (pv 1)) rfl)
      (pss_one (ps_ret (pe_op op_modN (pe_callTy call_int1 (by rfl) T.int PyProof.Rows.boot_int (pa_cons (pe_op op_sub (pe_callB call_abs (by rfl) T.abs PyProof.Rows.boot_abs (pa_cons (pv 5) pa_nil)) (pe_op op_pow pe_int pe_int)) pa_nil)) (pv 1))))) pss_nil)
      (pss_cons (ps_set (i := 6) scDraw.nd rfl (Or.inl rfl) (pe_op op_mod (pe_callTy call_int1 (by rfl) T.int PyProof.Rows.boot_int (pa_cons (pe_op op_add (pe_op op_add (pe_op op_add (pe_op op_mul (pe_op op_mod (pe_callTy call_int1 (by rfl) T.int PyProof.Rows.boot_int (pa_cons (pv 5) pa_nil)) pe_int) pe_int) (pe_op op_mul (pe_op op_mul pe_int (pv 3)) (pv 3))) (pe_op op_mul pe_int (pv 3))) pe_int) pa_nil)) pe_int))
      (pss_cons (ps_set (i := 6) scDraw.nd rfl (Or.inl rfl) (pe_op op_mod (pe_callTy call_int1 (by rfl) T.int PyProof.Rows.boot_int (pa_cons (pe_op op_add (pe_op op_add (pe_op op_add (pe_op op_mul (pv 6) (pv 6)) (pe_op op_mul pe_int (pv 6))) (pe_op op_mul pe_int (pv 3))) pe_int) pa_nil)) pe_int))
      (pss_one (ps_ret (pe_op op_modN (pe_callTy call_int1 (by rfl) T.int PyProof.Rows.boot_int (pa_cons (pe_op op_fdiv (pe_op op_mod (pe_callTy call_int1 (by rfl) T.int PyProof.Rows.boot_int (pa_cons (pe_op op_mul (pv 6) (pe_op op_add (pv 6) pe_int)) pa_nil)) pe_int) pe_int) pa_nil)) (pv 1))))))))))), ?_⟩
    refine ⟨_, rfl, p, _, rfl, getR hp, _, _, rfl, rfl, _, rfl, ite2 (fun h => ?_) (fun _ => ?_)⟩
    · -- the rest's next digit
      refine ⟨_, rfl, p, _, rfl, getR hp, .inl ⟨_, rfl, _, rfl, _, _, rfl, rfl, (by omega), ?_⟩⟩
      refine ⟨_, rfl, p, _, rfl, getR hp, _, rfl, _, _, rfl, rfl, div_ok hm hm2, _, rfl, p, _, rfl, putR hp, _, rfl, ?_⟩
      exact k _ _ (fmod_lo hm) (fmod_hi hm) ⟨⟨a, _, upd_same, ha0, by omega, fdiv_lo hm hr0⟩, cp _⟩ (SameX.upd SameX.refl)
    · refine ⟨_, rfl, p, _, rfl, getA hp, _, rfl, p, _, rfl, getC hp, c, _, rfl, .inl (SqL.of hc), _, _, rfl, ?_⟩
      refine ⟨_, rfl, _, _, rfl, rfl, _, rfl, p, _, rfl, putA hp, ?_⟩
      have c1 := cp (.dK (pk c (a + 1) r))
      have x1 : (upd H p (.dK (pk c (a + 1) r))) p = some (.dK (pk c (a + 1) r)) := upd_same
      have s1 : SameX p H (upd H p (.dK (pk c (a + 1) r))) := SameX.upd (H' := H) SameX.refl
      have s3 : ∀ x : Int, SameX p H (upd (upd H p (.dK (pk c (a + 1) r))) p (.dK (pk c (a + 1) x))) := fun x => SameX.upd s1
      have c3 : ∀ x : Int, (upd (upd H p (.dK (pk c (a + 1) r))) p (.dK (pk c (a + 1) x))) c = some (.lst (ns.map V.int)) := fun x => by rw [upd_ne npc.symm]; exact c1
      refine ⟨_, rfl, _, _, rfl, rfl, _, rfl, ite2 (fun h0 => ?ix) (fun _ => ?bl)⟩
      case ix =>
        have hne : ns ≠ [] := fun e => by
          rw [e] at h0
          have h9 : decide ((0 : Int) < (0 : Nat)) = true := h0
          exact absurd (of_decide_eq_true h9) (by decide)
        obtain ⟨z, hz⟩ := atI_mod (ns := ns) (a := a) hne
        have hz' : atI (ns.map V.int) (a.fmod ((ns.map V.int).length : Int)) = some (.int z) := by rw [List.length_map]; exact hz
        have h8 : ((ns.map V.int).length : Int) ≠ 0 := fun e => hne (by
          rw [List.length_map] at e
          exact List.length_eq_zero_iff.mp (by omega))
        refine ⟨_, rfl, p, _, rfl, getC x1, _, rfl, .inl ⟨_, rfl, _, rfl, _, _, rfl, rfl, h8, c, _, _, _, rfl, rfl, SqL.of c1, hz', ?_⟩⟩
        refine ⟨_, rfl, _, rfl, _, _, rfl, rfl, _, rfl, ite2 (fun h1 => ⟨_, rfl, _, rfl, _, _, rfl, rfl, ⟨by decide, by decide, by decide⟩, _, _, rfl, rfl, _, rfl, ite2 (fun h2 => ?bb) (fun _ => ?rr1)⟩) (fun _ => iteF ?rr2)⟩
        case bb =>
          refine ⟨_, rfl, _, rfl, _, _, rfl, rfl, ⟨by decide, by decide, by decide⟩, _, _, rfl, rfl, _, rfl, _, _, rfl, rfl, div_ok hm hm2, _, rfl, p, _, rfl, putR x1, _, rfl, _, rfl, _, _, rfl, rfl, ⟨by decide, by decide, by decide⟩, _, _, rfl, rfl, .inl ⟨_, rfl, _, rfl, _, _, rfl, rfl, (by omega), ?_⟩⟩
          exact k _ _ (fmod_lo hm) (fmod_hi hm) ⟨⟨a + 1, _, upd_same, by omega, by omega, fdiv_lo hm (by have := of_decide_eq_true h2; omega)⟩, c3 _⟩ (s3 _)
        all_goals
          refine ⟨_, rfl, .inl ⟨_, rfl, _, _, rfl, rfl, (by show (0 : Int) < 4294967291; decide), ?_⟩⟩
          have m1 := mod_lt (m := 4294967291) (by decide) z
          refine ⟨_, _, rfl, rfl, .inl ⟨by omega, by omega⟩, _, rfl, _, _, rfl, rfl, .inl ⟨by decide, by decide⟩, _, rfl, _, _, rfl, rfl, .inl ⟨by omega, by omega⟩, _, _, rfl, rfl, _, rfl, _, _, rfl, rfl, .inl ⟨by decide, by decide⟩, _, _, rfl, rfl, _, _, rfl, rfl, ?_⟩
          refine .inl ⟨_, rfl, _, _, rfl, rfl, (by show (0 : Int) < 4294967279; decide), ?_⟩
          have m2 := mod_lt (m := 4294967279) (by decide)
          refine ⟨_, rfl, _, rfl, _, _, rfl, rfl, .inl ⟨Int.lt_of_lt_of_le (by decide) (m2 _).1, Int.lt_trans (m2 _).2 (by decide)⟩, _, rfl, _, _, rfl, rfl, .inl ⟨by decide, by decide⟩, _, _, rfl, rfl, _, rfl, _, _, rfl, rfl, .inl ⟨by decide, by decide⟩, _, _, rfl, rfl, _, _, rfl, rfl, ?_⟩
          refine .inl ⟨_, rfl, _, _, rfl, rfl, (by show (0 : Int) < 4294967231; decide), ?_⟩
          have m3 := mod_lt (m := 4294967231) (by decide)
          refine ⟨_, rfl, _, rfl, _, _, rfl, rfl, _, _, rfl, rfl, .inl ⟨Int.lt_of_lt_of_le (by decide) (m3 _).1, Int.lt_trans (m3 _).2 (by decide)⟩, ?_⟩
          refine .inl ⟨_, rfl, _, _, rfl, rfl, (by show (0 : Int) < 4294967197; decide), _, _, rfl, rfl, ⟨by decide, by decide⟩, ?_⟩
          refine .inl ⟨_, rfl, _, rfl, _, _, rfl, rfl, (by omega), ?_⟩
          exact k _ _ (fmod_lo hm) (fmod_hi hm) ⟨⟨a + 1, r, x1, by omega, by omega, hr0⟩, c1⟩ s1
      case bl =>
        refine ⟨_, rfl, _, _, rfl, rfl, .inl ⟨by decide, by decide⟩, _, _, rfl, rfl, ?_⟩
        generalize hzz : 59 * a + 31 = z
        refine ⟨_, rfl, _, rfl, _, _, rfl, rfl, _, rfl, ite2 (fun h1 => ⟨_, rfl, _, rfl, _, _, rfl, rfl, ⟨by decide, by decide, by decide⟩, _, _, rfl, rfl, _, rfl, ite2 (fun h2 => ?bb2) (fun _ => ?rr3)⟩) (fun _ => iteF ?rr4)⟩
        case bb2 =>
          refine ⟨_, rfl, _, rfl, _, _, rfl, rfl, ⟨by decide, by decide, by decide⟩, _, _, rfl, rfl, _, rfl, _, _, rfl, rfl, div_ok hm hm2, _, rfl, p, _, rfl, putR x1, _, rfl, _, rfl, _, _, rfl, rfl, ⟨by decide, by decide, by decide⟩, _, _, rfl, rfl, .inl ⟨_, rfl, _, rfl, _, _, rfl, rfl, (by omega), ?_⟩⟩
          exact k _ _ (fmod_lo hm) (fmod_hi hm) ⟨⟨a + 1, _, upd_same, by omega, by omega, fdiv_lo hm (by have := of_decide_eq_true h2; omega)⟩, c3 _⟩ (s3 _)
        all_goals
          refine ⟨_, rfl, .inl ⟨_, rfl, _, _, rfl, rfl, (by show (0 : Int) < 4294967291; decide), ?_⟩⟩
          have m1 := mod_lt (m := 4294967291) (by decide) z
          refine ⟨_, _, rfl, rfl, .inl ⟨by omega, by omega⟩, _, rfl, _, _, rfl, rfl, .inl ⟨by decide, by decide⟩, _, rfl, _, _, rfl, rfl, .inl ⟨by omega, by omega⟩, _, _, rfl, rfl, _, rfl, _, _, rfl, rfl, .inl ⟨by decide, by decide⟩, _, _, rfl, rfl, _, _, rfl, rfl, ?_⟩
          refine .inl ⟨_, rfl, _, _, rfl, rfl, (by show (0 : Int) < 4294967279; decide), ?_⟩
          have m2 := mod_lt (m := 4294967279) (by decide)
          refine ⟨_, rfl, _, rfl, _, _, rfl, rfl, .inl ⟨Int.lt_of_lt_of_le (by decide) (m2 _).1, Int.lt_trans (m2 _).2 (by decide)⟩, _, rfl, _, _, rfl, rfl, .inl ⟨by decide, by decide⟩, _, _, rfl, rfl, _, rfl, _, _, rfl, rfl, .inl ⟨by decide, by decide⟩, _, _, rfl, rfl, _, _, rfl, rfl, ?_⟩
          refine .inl ⟨_, rfl, _, _, rfl, rfl, (by show (0 : Int) < 4294967231; decide), ?_⟩
          have m3 := mod_lt (m := 4294967231) (by decide)
          refine ⟨_, rfl, _, rfl, _, _, rfl, rfl, _, _, rfl, rfl, .inl ⟨Int.lt_of_lt_of_le (by decide) (m3 _).1, Int.lt_trans (m3 _).2 (by decide)⟩, ?_⟩
          refine .inl ⟨_, rfl, _, _, rfl, rfl, (by show (0 : Int) < 4294967197; decide), _, _, rfl, rfl, ⟨by decide, by decide⟩, ?_⟩
          refine .inl ⟨_, rfl, _, rfl, _, _, rfl, rfl, (by omega), ?_⟩
          exact k _ _ (fmod_lo hm) (fmod_hi hm) ⟨⟨a + 1, r, x1, by omega, by omega, hr0⟩, c1⟩ s1
theorem scPick : FnScope ["_law_tape_here", "_law_options"] ["_law_tape_here", "_law_options"] (defScope sPick) := ⟨rfl, rfl, rfl, by decide +kernel, rfl, by decide +kernel, by decide +kernel⟩
theorem ok_pick {f fD : Addr} {fd fdD : FuncData} (F : Fun K "_law_pick" "_law_pick" sPick f fd) (T : Txt mg) (GD : FnOk P w K mg base CX0 1 fD fdD ["_law_tape_here", "_law_many"] spDraw) (TD : DefT K mg "_law_draw" fD) (bD : Binds K fdD ["_law_tape_here", "_law_many"] []) :
    FnOk P w K mg base CX0 2 f fd ["_law_tape_here", "_law_options"] (spPick K) := by
  refine F.ok scPick (fun vs H Q E h => ?_) (fun cdv A outer s H vs Q E hr h => ?_)
  · obtain ⟨p, c, ns, b, l, xs, rfl, _⟩ := h
    rfl
  · obtain ⟨p, c, ns, b, l, xs, rfl, Pn, hn, hb, hl, h0, h1, k⟩ := h
    refine ⟨_, (pss_one (ps_ret (pe_ix ix_list (pv 1) (pe_call GD (hr.mono (by decide)) rfl TD.mg TD.kp bD .nil pass0 (pa_cons (pv 0) (pa_cons (pe_callB call_len_seq (by rfl) T.len PySem.boot_len (pa_cons (pv 1) pa_nil)) pa_nil))) (fun _ _ => rfl)))), ?_⟩
    have big : ((xs.length : Nat) : Int) < 2 ^ 200 := Int.lt_of_le_of_lt (Int.ofNat_le.mpr h1) (by decide +kernel)
    refine ⟨_, rfl, _, rfl, _, rfl, l, xs, rfl, .inl (SqL.of hl), p, c, ns, b, _, rfl, Pn, hn, hb, by omega, big, fun r H' r0 r1 P' sx => ?_⟩
    have hp : l ≠ p := by
      obtain ⟨⟨a, r, hp, _⟩, _⟩ := Pn
      exact ne_of hl hp (by intro z; cases z)
    obtain ⟨v, hv, ha⟩ := at_mem r0 r1
    exact ⟨l, xs, r, v, rfl, rfl, SqL.of (sx l _ hp hl), ha, k v H' hv P' sx⟩
end
end K69

set_option Elab.async false
set_option linter.all false
set_option maxRecDepth 100000
set_option maxHeartbeats 1000000
namespace KEq
open PySem PySem.Spec L2 RG Pen Dat
/-! ### what kind a value is -/
def typeD : PyData → String
  | .none => "NoneType" | .bool _ => "bool" | .int _ => "int" | .str _ => "str" | .list _ => "list" | .tuple _ => "tuple" | .dict _ => "dict"
def isTup : PyData → Bool
  | .tuple _ => true
  | _ => false
def isStr : PyData → Bool
  | .str _ => true
  | _ => false
def isInt : PyData → Bool
  | .int _ => true | .bool _ => true
  | _ => false
def isBool : PyData → Bool
  | .bool _ => true
  | _ => false
theorem kit_tup {K : PySem.W.Frag} : ∀ d, PySem.W.kitOne K (.type (typeD d)) (.type "tuple") = some (isTup d)
  | .none => kit_ty (show kitB "NoneType" "tuple" = some false by decide +kernel)
  | .bool _ => kit_ty (show kitB "bool" "tuple" = some false by decide +kernel)
  | .int _ => kit_ty (show kitB "int" "tuple" = some false by decide +kernel)
  | .str _ => kit_ty (show kitB "str" "tuple" = some false by decide +kernel)
  | .list _ => kit_ty (show kitB "list" "tuple" = some false by decide +kernel)
  | .tuple _ => kit_ty (show kitB "tuple" "tuple" = some true by decide +kernel)
  | .dict _ => kit_ty (show kitB "dict" "tuple" = some false by decide +kernel)
theorem kit_str {K : PySem.W.Frag} : ∀ d, PySem.W.kitOne K (.type (typeD d)) (.type "str") = some (isStr d)
  | .none => kit_ty (show kitB "NoneType" "str" = some false by decide +kernel)
  | .bool _ => kit_ty (show kitB "bool" "str" = some false by decide +kernel)
  | .int _ => kit_ty (show kitB "int" "str" = some false by decide +kernel)
  | .str _ => kit_ty (show kitB "str" "str" = some true by decide +kernel)
  | .list _ => kit_ty (show kitB "list" "str" = some false by decide +kernel)
  | .tuple _ => kit_ty (show kitB "tuple" "str" = some false by decide +kernel)
  | .dict _ => kit_ty (show kitB "dict" "str" = some false by decide +kernel)
theorem kit_int {K : PySem.W.Frag} : ∀ d, PySem.W.kitOne K (.type (typeD d)) (.type "int") = some (isInt d)
  | .none => kit_ty (show kitB "NoneType" "int" = some false by decide +kernel)
  | .bool _ => kit_ty (show kitB "bool" "int" = some true by decide +kernel)
  | .int _ => kit_ty (show kitB "int" "int" = some true by decide +kernel)
  | .str _ => kit_ty (show kitB "str" "int" = some false by decide +kernel)
  | .list _ => kit_ty (show kitB "list" "int" = some false by decide +kernel)
  | .tuple _ => kit_ty (show kitB "tuple" "int" = some false by decide +kernel)
  | .dict _ => kit_ty (show kitB "dict" "int" = some false by decide +kernel)
theorem kit_bool {K : PySem.W.Frag} : ∀ d, PySem.W.kitOne K (.type (typeD d)) (.type "bool") = some (isBool d)
  | .none => kit_ty (show kitB "NoneType" "bool" = some false by decide +kernel)
  | .bool _ => kit_ty (show kitB "bool" "bool" = some true by decide +kernel)
  | .int _ => kit_ty (show kitB "int" "bool" = some false by decide +kernel)
  | .str _ => kit_ty (show kitB "str" "bool" = some false by decide +kernel)
  | .list _ => kit_ty (show kitB "list" "bool" = some false by decide +kernel)
  | .tuple _ => kit_ty (show kitB "tuple" "bool" = some false by decide +kernel)
  | .dict _ => kit_ty (show kitB "dict" "bool" = some false by decide +kernel)
theorem rp_ty {K : PySem.W.Frag} {G : Hp} {v : V} {d : PyData} (r : Rp K G v d) : TyX K G v (.type (typeD d)) := by
  cases r with
  | non => exact .base .non
  | bl b => exact .base (.bl b)
  | int i => exact .base (.int i)
  | str x => exact .base (.str x)
  | lst a b c =>
    rcases a with (a | ⟨o, a⟩) | ⟨o, _, _, a, b, _⟩
    · exact .base (.lst a)
    · exact .base (.frz a)
    · exact .kList a b
  | tup a b =>
    rcases a with (a | ⟨o, a⟩) | ⟨o, _, _, a, b, _⟩
    · exact .base (.tup a)
    · exact .fTuple a
    · exact .kTuple a b
  | dic a b c => exact .base (.dK a)
/-! ### [.. for c in a text] -/
theorem lc_txt {x : Str} {g : TG} {tt : TT} {te : TE} {vs : List Nat} {σ : L2.St} {H1 : Hp} {D : Addr} {Qd : Hp → Prop} (Pv : Nat → Hp → Prop) (h0 : Pv 0 (upd H1 D (.lst [])))
    (hs : ∀ i c H, x.cps[i]? = some c → Pv i H → g (.str ⟨#[c]⟩) (wipe σ vs) H fun σ2 H2 => wipe σ2 vs = wipe σ vs ∧ tt σ2 H2 fun b H3 =>
      if b = true then te σ2 H3 fun y H4 => ∃ acc, H4 D = some (.lst acc) ∧ acc.length < sizeLine ∧ Pv (i + 1) (upd H4 D (.lst (acc ++ [y]))) else Pv (i + 1) H3) (hd : ∀ H, Pv x.cps.size H → Qd H) :
    ∃ W : Nat → Nat → Hp → Prop, (∃ m, W 0 m (upd H1 D (.lst []))) ∧ ∀ i m H, W i m H →
      ((Its x).stop i H ∧ Qd H) ∨ ((Its x).go i H ∧ ∃ Nx : Hp → Prop, (∀ H', Nx H' → ∃ m', m' < m ∧ W (i + 1) m' H') ∧ ∀ y H', (Its x).yld i H y H' → g y (wipe σ vs) H' fun σ2 H2 => wipe σ2 vs = wipe σ vs ∧ tt σ2 H2 fun b H3 =>
        if b = true then te σ2 H3 fun y H4 => ∃ acc, H4 D = some (.lst acc) ∧ acc.length < sizeLine ∧ Nx (upd H4 D (.lst (acc ++ [y]))) else Nx H3) := by
  refine ⟨fun i m H => m = x.cps.size - i ∧ i ≤ x.cps.size ∧ Pv i H, ⟨x.cps.size, by simp, Nat.zero_le _, h0⟩, ?_⟩
  rintro i m H ⟨rfl, hi, p⟩
  by_cases hlt : i < x.cps.size
  · refine .inr ⟨hlt, Pv (i + 1), fun H' p' => ⟨x.cps.size - (i + 1), by omega, rfl, hlt, p'⟩, fun y H' q => ?_⟩
    obtain ⟨e, c, hc, rfl⟩ := q
    subst e
    exact hs i c _ hc p
  · have e : i = x.cps.size := by omega
    subst e
    exact .inl ⟨Nat.le_refl _, hd H p⟩
end KEq

set_option Elab.async false
set_option linter.all false
set_option maxRecDepth 100000
set_option maxHeartbeats 8000000
namespace K69
open PySem L2 Pen RG KEq
theorem sz {n : Nat} (h : n ≤ 99) : n ≤ sizeLine := Nat.le_trans h (by decide)
def great : Int := 10 ^ 100
def mx (i j : Int) : Int := if j > i then j else i
def mn (i j : Int) : Int := if j < i then j else i
structure IsRoad (p k a m : Str) : Prop where
  p : p = "outbox" ∨ p = "after" ∨ p = "before"
  k : k = "inbox" ∨ k = "late" ∨ k = "plain"
  a : a = "behind" ∨ a = "ahead"
  m : m = "behind" ∨ m = "ahead"
/-- a new tuple of two ints -/
def Two (K : PySem.W.Frag) (H : Hp) (v : V) (z : Int × Int) : Prop := ∃ t, v = .ref t ∧ SqT K H t [.int z.1, .int z.2]
/-- road: the tuple of the four words at r -/
def Road (K : PySem.W.Frag) (H : Hp) (r : Addr) (p k a m : Str) : Prop := SqT K H r [.str p, .str k, .str a, .str m] ∧ IsRoad p k a m
theorem same_put {H : Hp} {p : Addr} {o : HO} (h : H p = none) {G : Hp} {o2 : HO} (s : Same (upd H p o) G) : Same H (upd G p o2) := fun b u e => by
  have n : b ≠ p := ne_of_none e h
  rw [upd_ne n]
  exact s b u (by rw [upd_ne n]; exact e)
def cls : List Comprehension := match defBody sEvery with
  | [.Return (some (.ListComp _ cs _ _)) _] => cs
  | _ => []
def cl (i : Nat) : Comprehension := cls.getD i ⟨.Constant .none 0 ⟨0, 0, 0, 0⟩, .Constant .none 0 ⟨0, 0, 0, 0⟩, [], 0⟩
/-- the class Ways: its constants -/
structure WaysT (K : PySem.W.Frag) (mg : Str → Option Value) (C : Addr) (mc : Value) (t0 t1 t2 t3 : Addr) : Prop where
  at_ : mg "Ways" = some (.ref C)
  rd : ClX.CRead K C mc
  c0 : ClX.CVal K C mc "POSTING" (.ref t0) (.ref t0)
  c1 : ClX.CVal K C mc "KEEPING" (.ref t1) (.ref t1)
  c2 : ClX.CVal K C mc "ANSWERING" (.ref t2) (.ref t2)
  c3 : ClX.CVal K C mc "MARKING" (.ref t3) (.ref t3)
  h0 : ∀ H, SqT K H t0 [.str "outbox", .str "after", .str "before"]
  h1 : ∀ H, SqT K H t1 [.str "inbox", .str "late", .str "plain"]
  h2 : ∀ H, SqT K H t2 [.str "behind", .str "ahead"]
  h3 : ∀ H, SqT K H t3 [.str "behind", .str "ahead"]
/-- roads alone -/
def Rds (H : Hp) (xs : List V) : Prop := ∀ v ∈ xs, ∃ t p k a m, v = .ref t ∧ H t = some (.tup [.str p, .str k, .str a, .str m]) ∧ IsRoad p k a m
def spEvery : Sp := fun vs H Q _ => vs = [] ∧ ∀ l xs H', Same H H' → H l = none → H' l = some (.lst xs) → xs.length = 36 → Rds H' xs → Q (.ref l) H'
/-- the list at D grows; all else stays -/
def Gr (H0 : Hp) (D : Addr) (n : Nat) (H : Hp) : Prop := ∃ acc, H D = some (.lst acc) ∧ acc.length = n ∧ (∀ b o, H0 b = some o → H b = some o) ∧ Rds H acc
theorem goes_tup {K : PySem.W.Frag} {a D : Addr} {xs : List V} {g : TG} {tt : TT} {vs : List Nat} {ti : CN.TN} {σ : L2.St} {Nx : Hp → Prop} (Pv : Nat → Hp → Prop) (hl : ∀ H, SqT K H a xs)
    (hs : ∀ i x H, xs[i]? = some x → Pv i H → g x (wipe σ vs) H fun σ2 H2 => wipe σ2 vs = wipe σ vs ∧ tt σ2 H2 fun b H3 => if b = true then ti D σ2 H3 (Pv (i + 1)) else Pv (i + 1) H3) (hd : ∀ H, Pv xs.length H → Nx H) :
    CN.Goes (Itt K a) (fun i m H => m = xs.length - i ∧ i ≤ xs.length ∧ Pv i H) g tt vs ti D σ Nx := by
  rintro i m H ⟨rfl, hi, p⟩
  by_cases lt : i < xs.length
  · refine .inr ⟨⟨xs, xs[i], hl H, List.getElem?_eq_getElem lt⟩, Pv (i + 1), fun Hz pz => ⟨xs.length - (i + 1), by omega, rfl, lt, pz⟩, fun x Hy y => ?_⟩
    obtain ⟨e, y⟩ := y
    subst e
    exact hs i x _ (y xs (hl _)) p
  · have e : i = xs.length := by omega
    subst e
    exact .inl ⟨⟨xs, hl H, Nat.le_refl _⟩, hd H p⟩
theorem Gr.start {H : Hp} {D : Addr} (h : H D = none) : Gr H D 0 (upd H D (.lst [])) := ⟨[], upd_same, rfl, fun b o e => by rw [upd_ne (ne_of_none e h)]; exact e, fun v hv => by cases hv⟩
theorem Gr.step {H G G1 : Hp} {D t : Addr} {n : Nat} {p k a m : Str} (g : Gr H D n G) (s : Same G G1) (h : H D = none) (e : G1 t = some (.tup [.str p, .str k, .str a, .str m])) (r : IsRoad p k a m) :
    ∃ acc, G1 D = some (.lst acc) ∧ acc.length = n ∧ Gr H D (n + 1) (upd G1 D (.lst (acc ++ [.ref t]))) := by
  obtain ⟨acc, e1, l, fr, rd⟩ := g
  have e2 := s _ _ e1
  have off : ∀ {u : Addr} {xs : List V}, G1 u = some (.tup xs) → (upd G1 D (.lst (acc ++ [.ref t]))) u = some (.tup xs) := fun {u xs} z => by
    have n : u ≠ D := fun y => by
      rw [y, e2] at z
      cases z
    rw [upd_ne n]
    exact z
  refine ⟨acc, e2, l, acc ++ [.ref t], upd_same, by rw [List.length_append, l]; rfl, fun b o z => ?_, fun v hv => ?_⟩
  · rw [upd_ne (ne_of_none z h)]
    exact s _ _ (fr b o z)
  · rcases List.mem_append.mp hv with hv | hv
    · obtain ⟨u, p', k', a', m', ev, eu, ru⟩ := rd v hv
      exact ⟨u, p', k', a', m', ev, off (s _ _ eu), ru⟩
    · have ev : v = .ref t := by simpa using hv
      exact ⟨t, p, k, a, m, ev, off e, r⟩
theorem pick3 {a b c : Str} {i : Nat} {x : V} (h : [V.str a, V.str b, V.str c][i]? = some x) : ∃ p, x = .str p ∧ (p = a ∨ p = b ∨ p = c) := by
  match i, h with
  | 0, h => exact ⟨a, (Option.some.inj h).symm, .inl rfl⟩
  | 1, h => exact ⟨b, (Option.some.inj h).symm, .inr (.inl rfl)⟩
  | 2, h => exact ⟨c, (Option.some.inj h).symm, .inr (.inr rfl)⟩
theorem pick2 {a b : Str} {i : Nat} {x : V} (h : [V.str a, V.str b][i]? = some x) : ∃ p, x = .str p ∧ (p = a ∨ p = b) := by
  match i, h with
  | 0, h => exact ⟨a, (Option.some.inj h).symm, .inl rfl⟩
  | 1, h => exact ⟨b, (Option.some.inj h).symm, .inr rfl⟩
section
variable {P : Program} {w : World} {K : PySem.W.Frag} {mg : Str → Option Value} {base : Heap}
theorem scEv : FnScope ["posting", "keeping", "answering", "marking"] [] (defScope sEvery) := ⟨rfl, rfl, rfl, by decide +kernel, rfl, by decide +kernel, by decide +kernel⟩
theorem pi_w {B : Cx} {tg : Expr} {n : Str} {p1 p2 : Pos} {C : Addr} (hg : Gl B "Ways") (hm : B.mg "Ways" = some (.ref C)) (hb : attributeBase (.Name "Ways" p1) n B.env (eval (.Name "Ways" p1) B.env) = eval (.Name "Ways" p1) B.env) :
    PI B tg (.Attribute (.Name "Ways" p1) n p2) (iTup B.K (ClX.tCVal B.K (tC (.ref C)) n)) := pi_tup (ClX.pe_cval (pe_glob (v := V.ref C) hg hm rfl) hb)
theorem ok_every {f C t0 t1 t2 t3 : Addr} {mc : Value} {fd : FuncData} (F : Fun K "every" "Ways.every" sEvery f fd) (T : WaysT K mg C mc t0 t1 t2 t3) : FnOk P w K mg base CX0 1 f fd [] spEvery := by
  refine F.ok scEv (fun vs H Q E h => ?_) (fun cdv A outer s H vs Q E hr h => ?_)
  · obtain ⟨rfl, _⟩ := h
    rfl
  · obtain ⟨rfl, kQ⟩ := h
    refine ⟨_, (pss_one (ps_ret (CN.pe_lcN (own := [("posting", 0), ("keeping", 1), ("answering", 2), ("marking", 3)]) (g := gName 0) (tt := tYes) (vs2 := [1, 2, 3]) (ti := (CN.tNext (iTup K (ClX.tCVal K (tC (.ref C)) "KEEPING")) (gName 1) tYes [1, 2, 3] (CN.tNext (iTup K (ClX.tCVal K (tC (.ref C)) "ANSWERING")) (gName 2) tYes [2, 3] (CN.tNext (iTup K (ClX.tCVal K (tC (.ref C)) "MARKING")) (gName 3) tYes [3] (CN.tEmit (Ab.tTupA (tCons (tVar 0) (tCons (tVar 1) (tCons (tVar 2) (tCons (tVar 3) tNil)))))))))) rfl scEv.nd (pi_w (n := "POSTING") (by rfl) T.at_ (by rfl)) (blkOk_by (N := ["posting", "keeping", "answering", "marking"]) (sc := defScope sEvery) (by decide +kernel)) (fun _ _ _ _ _ => by exact ⟨pg_name (i := 0) scEv.nd rfl (Or.inl rfl), pts_nil, (CN.pin_next (c := cl 1) (vs := [1, 2, 3]) (g := gName 1) (tt := tYes) rfl rfl rfl rfl (by intro d z; cases z <;> rfl) (pi_w (n := "KEEPING") (by rfl) T.at_ (by rfl)) (pg_name (i := 1) scEv.nd rfl (Or.inl rfl)) pts_nil (CN.pin_next (c := cl 2) (vs := [2, 3]) (g := gName 2) (tt := tYes) rfl rfl rfl rfl (by intro d z; cases z <;> rfl) (pi_w (n := "ANSWERING") (by rfl) T.at_ (by rfl)) (pg_name (i := 2) scEv.nd rfl (Or.inl rfl)) pts_nil (CN.pin_next (c := cl 3) (vs := [3]) (g := gName 3) (tt := tYes) rfl rfl rfl rfl (by intro d z; cases z <;> rfl) (pi_w (n := "MARKING") (by rfl) T.at_ (by rfl)) (pg_name (i := 3) scEv.nd rfl (Or.inl rfl)) pts_nil (CN.pin_emit rfl rfl (Ab.pe_tupA (pa_cons (pv 0) (pa_cons (pv 1) (pa_cons (pv 2) (pa_cons (pv 3) pa_nil)))))) (by decide) (fun _ _ => rfl)) (by decide) (fun _ _ => rfl)) (by decide) (fun _ _ => rfl))⟩) (by decide) (by intro d z; cases z <;> rfl) (fun _ => rfl)))), ?_⟩
    refine ⟨C, mc, _, _, rfl, T.rd, T.c0, t0, rfl, ⟨_, T.h0 _⟩, fun D hD => ?_⟩
    refine ⟨_, ⟨_, rfl, Nat.zero_le _, Gr.start hD⟩, goes_tup (xs := [.str "outbox", .str "after", .str "before"]) (fun i G => Gr H D (12 * i) G) T.h0 (fun i x G hx g0 => ?_) (fun G g0 => ?_)⟩
    · have b0 : i < 3 := (List.getElem?_eq_some_iff.mp hx).1
      obtain ⟨p, rfl, hp⟩ := pick3 hx
      refine ⟨rfl, ⟨C, mc, _, _, rfl, T.rd, T.c1, t1, rfl, ⟨_, T.h1 _⟩, _, ⟨_, rfl, Nat.zero_le _, g0⟩, goes_tup (xs := [.str "inbox", .str "late", .str "plain"]) (fun j G => Gr H D (12 * i + 4 * j) G) T.h1 (fun j x G hx g0 => ?_) (fun G g0 => g0)⟩⟩
      have b1 : j < 3 := (List.getElem?_eq_some_iff.mp hx).1
      obtain ⟨k, rfl, hk⟩ := pick3 hx
      refine ⟨rfl, ⟨C, mc, _, _, rfl, T.rd, T.c2, t2, rfl, ⟨_, T.h2 _⟩, _, ⟨_, rfl, Nat.zero_le _, g0⟩, goes_tup (xs := [.str "behind", .str "ahead"]) (fun l G => Gr H D (12 * i + 4 * j + 2 * l) G) T.h2 (fun l x G hx g0 => ?_) (fun G g0 => g0)⟩⟩
      have b2 : l < 2 := (List.getElem?_eq_some_iff.mp hx).1
      obtain ⟨a, rfl, ha⟩ := pick2 hx
      refine ⟨rfl, ⟨C, mc, _, _, rfl, T.rd, T.c3, t3, rfl, ⟨_, T.h3 _⟩, _, ⟨_, rfl, Nat.zero_le _, g0⟩, goes_tup (xs := [.str "behind", .str "ahead"]) (fun y G => Gr H D (12 * i + 4 * j + 2 * l + y) G) T.h3 (fun y x G hx g0 => ?_) (fun G g0 => g0)⟩⟩
      obtain ⟨m, rfl, hm⟩ := pick2 hx
      have b3 : y < 2 := (List.getElem?_eq_some_iff.mp hx).1
      refine ⟨rfl, _, rfl, _, rfl, _, rfl, _, rfl, sz (by simp), fun t G1 n1 s1 e1 => ?_⟩
      obtain ⟨acc, ea, la, g1⟩ := g0.step s1 hD e1 ⟨hp, hk, ha, hm⟩
      exact ⟨acc, ea, by rw [la]; exact Nat.lt_of_lt_of_le (m := 100) (by omega) (by decide), g1⟩
    · obtain ⟨acc, e1, l, fr, rd⟩ := g0
      exact kQ D acc G fr hD e1 l rd
end

/-- the fewest and the most runs -/
def lr (k a : Str) (n f : Int) : Int × Int :=
  if a = "behind" then (if k = "plain" then n else 1, (if k = "plain" then n else 1) + f)
  else if k = "plain" then (mx 0 (n - f), n) else (if f ≥ n then 0 else 1, mn n (f + 1))
/-- the commits, and all four numbers -/
def cmP (k a : Str) (n f : Int) : Int := if k = "inbox" then 1 else (lr k a n f).2
def accP (p k a m : Str) (n f l : Int) : List V :=
  if p = "before" then [.int (lr k a n f).1, .int (cmP k a n f), .int (lr k a n f).1, .int ((lr k a n f).2 + l)]
  else if p = "after" then [.int (lr k a n f).1, .int (cmP k a n f), .int (if k = "inbox" then mx 0 (1 - f) else (lr k a n f).1), .int (cmP k a n f + l)]
  else if m = "behind" then [.int (lr k a n f).1, .int (cmP k a n f), .int (lr k a n f).1, .int (cmP k a n f + f + l)]
  else [.int (lr k a n f).1, .int (cmP k a n f), .int (mx 0 ((lr k a n f).1 - f)), .int (cmP k a n f + l)]
def spAcc (K : PySem.W.Frag) : Sp := fun vs H Q _ => ∃ (r : Addr) (p k a m : Str) (c f l : Int), vs = [.ref r, .int c, .int f, .int l] ∧ Road K H r p k a m ∧ (0 ≤ c ∧ c ≤ great) ∧ (0 ≤ f ∧ f ≤ great) ∧ (0 ≤ l ∧ l ≤ great) ∧
  ∀ t H', Same H H' → SqT K H' t (accP p k a m (c + 1) f l) → Q (.ref t) H'
def spLaw (K : PySem.W.Frag) : Sp := fun vs H Q _ => ∃ (a : Addr) (ns : List Int), vs = [.ref a] ∧ SqL K H a (ns.map V.int) ∧ ns.length ≤ 63 ∧ ∀ G', Q (.bl true) G'
theorem tup_off {H : Hp} {p c t : Addr} {ns : List Int} {b : Nat} {xs : List V} (Pn : PenAt H p c ns b) (h : H t = some (.tup xs)) : t ≠ p := by
  obtain ⟨⟨a, r, hp, _⟩, _⟩ := Pn
  exact ne_of h hp (by intro z; cases z)
theorem great_lt : 4 * great + 2 < 2 ^ 400 := by decide +kernel
def dat (x y z u : Int) : PyData := .tuple [.int x, .int y, .int z, .int u]
theorem int_sh {x : Int} (h0 : 0 ≤ x) (h : x ≤ 4 * great + 2) : x.natAbs.log2 < 400 := by
  have g := great_lt
  have e : ((2 : Int) ^ 400) = ((2 ^ 400 : Nat) : Int) := by norm_cast
  exact PySem.Flt.log2_lt_of (by decide) (by omega)
theorem int_len {x : Int} (h0 : 0 ≤ x) (h : x ≤ 4 * great + 2) : (PyData.int x).shown.length ≤ 401 := by
  have e := int_text_length_le (k := 400) (by decide) (int_sh h0 h)
  show (Str.ofString (toString x)).length ≤ 401
  rw [ofString_length]
  exact e
theorem dat_ok {x y z u : Int} (x0 : 0 ≤ x) (x1 : x ≤ 4 * great + 2) (y0 : 0 ≤ y) (y1 : y ≤ 4 * great + 2) (z0 : 0 ≤ z) (z1 : z ≤ 4 * great + 2) (u0 : 0 ≤ u) (u1 : u ≤ 4 * great + 2) :
    (dat x y z u).showable = true ∧ (dat x y z u).depth ≤ 64 ∧ (dat x y z u).shown.length ≤ sizeLine := by
  have sh : ∀ {i : Int}, 0 ≤ i → i ≤ 4 * great + 2 → (PyData.int i).showable = true := fun a b => decide_eq_true (Nat.lt_trans (int_sh a b) (by decide))
  refine ⟨?_, by simp [dat, PyData.depth, PyData.depthAll], ?_⟩
  · show ((PyData.int x).showable && ((PyData.int y).showable && ((PyData.int z).showable && ((PyData.int u).showable && true)))) = true
    rw [sh x0 x1, sh y0 y1, sh z0 z1, sh u0 u1]
    rfl
  · have q := tupleText_len_le [(PyData.int x).shown, (PyData.int y).shown, (PyData.int z).shown, (PyData.int u).shown]
    have a1 := int_len x0 x1
    have a2 := int_len y0 y1
    have a3 := int_len z0 z1
    have a4 := int_len u0 u1
    have e : (dat x y z u).shown.length ≤ 5000 := by
      refine Nat.le_trans q ?_
      simp only [List.map_cons, List.map_nil, List.sum_cons, List.sum_nil, List.length_cons, List.length_nil]
      omega
    exact Nat.le_trans e (by decide)
theorem rp_four {K : PySem.W.Frag} {H : Hp} {t : Addr} {x y z u : Int} (h : SqT K H t [.int x, .int y, .int z, .int u]) : Rp K H (.ref t) (dat x y z u) := .tup h (.cons (.int x) (.cons (.int y) (.cons (.int z) (.cons (.int u) .nil))))
structure TxtI (mg : Str → Option Value) : Prop where
  isinstance : mg "isinstance" = none
  tuple : mg "tuple" = none
  int : mg "int" = none
  bool : mg "bool" = none
def spWay (K : PySem.W.Frag) : Sp := fun vs H Q _ => ∃ (r : Addr) (p k a m : Str), vs = [.ref r] ∧ Road K H r p k a m ∧ Q (.bl true) H
section
variable {P : Program} {w : World} {K : PySem.W.Frag} {mg : Str → Option Value} {base : Heap}
theorem scWay : FnScope ["value", "posting", "keeping", "answering", "marking"] ["value"] (defScope sIsWay) := ⟨rfl, rfl, rfl, by decide +kernel, rfl, by decide +kernel, by decide +kernel⟩
theorem ok_way {f C t0 t1 t2 t3 : Addr} {mc : Value} {fd : FuncData} (F : Fun K "is_way" "is_way" sIsWay f fd) (T : Txt mg) (TI : TxtI mg) (TW : WaysT K mg C mc t0 t1 t2 t3) : FnOk P w K mg base CX0 1 f fd ["value"] (spWay K) := by
  refine F.ok scWay (fun vs H Q E h => ?_) (fun cdv A outer s H vs Q E hr h => ?_)
  · obtain ⟨r, p, k, a, m, rfl, _⟩ := h
    rfl
  · obtain ⟨r, p, k, a, m, rfl, ⟨hR, iR⟩, kQ⟩ := h
    refine ⟨_, (pss_cons (ps_if (PW.pt (pw_or (pt_not (pt_val (pe_callB call_isi (by rfl) TI.isinstance (by decide +kernel) (pa_cons (pv 0) (pa_cons (pe_bltn (v := V.ty "tuple") (by rfl) TI.tuple (by decide +kernel) rfl) pa_nil))))) (pw_or1 (pt_cmpR op_ne (pe_callB call_len_seq (by rfl) T.len PySem.boot_len (pa_cons (pv 0) pa_nil)) pe_int (nomark _))))) (pss_one (ps_ret pe_bl)) pss_nil)
      (pss_cons (ps_asg (pv 0) (pg_tup (by rfl) (pgs_cons (pg_name (i := 1) scWay.nd rfl (Or.inl rfl)) (pgs_cons (pg_name (i := 2) scWay.nd rfl (Or.inl rfl)) (pgs_cons (pg_name (i := 3) scWay.nd rfl (Or.inl rfl)) (pgs_cons (pg_name (i := 4) scWay.nd rfl (Or.inl rfl)) pgs_nil))))))
      (pss_cons (ps_if (PW.pt (pw_or (pt_cmpR op_notIn_seq (pv 1) (ClX.pe_cval (f := "POSTING") (pe_glob (v := V.ref C) (by rfl) TW.at_ rfl)) rfl) (pw_or1 (pt_cmpR op_notIn_seq (pv 2) (ClX.pe_cval (f := "KEEPING") (pe_glob (v := V.ref C) (by rfl) TW.at_ rfl)) rfl)))) (pss_one (ps_ret pe_bl)) pss_nil)
      (pss_one (ps_ret (pe_and (pe_cmpR op_in_seq (pv 3) (ClX.pe_cval (f := "ANSWERING") (pe_glob (v := V.ref C) (by rfl) TW.at_ rfl)) rfl) (pe_one (pe_cmpR op_in_seq (pv 4) (ClX.pe_cval (f := "MARKING") (pe_glob (v := V.ref C) (by rfl) TW.at_ rfl)) rfl)))))))), ?_⟩
    have i1 : inV (.str p) [.str "outbox", .str "after", .str "before"] = true := by rcases iR.p with e | e | e <;> subst e <;> decide +kernel
    have i2 : inV (.str k) [.str "inbox", .str "late", .str "plain"] = true := by rcases iR.k with e | e | e <;> subst e <;> decide +kernel
    have i3 : inV (.str a) [.str "behind", .str "ahead"] = true := by rcases iR.a with e | e <;> subst e <;> decide +kernel
    have i4 : inV (.str m) [.str "behind", .str "ahead"] = true := by rcases iR.m with e | e <;> subst e <;> decide +kernel
    have rp : Rp K H (.ref r) (.tuple [.str p, .str k, .str a, .str m]) := .tup hR (.cons (.str p) (.cons (.str k) (.cons (.str a) (.cons (.str m) .nil))))
    refine ⟨_, rfl, .ref r, .ty "tuple", _, _, _, rfl, .ty _, rp_ty rp, kit_tup _, _, rfl, iteF ?_⟩
    refine ⟨_, rfl, r, _, rfl, .inr hR, rfl, false, by simp, iteF ?_⟩
    refine ⟨_, rfl, r, _, rfl, hR, rfl, _, _, rfl, _, _, rfl, _, _, rfl, _, _, rfl, rfl, ?_⟩
    refine ⟨_, rfl, C, mc, _, _, rfl, TW.rd, TW.c0, t0, _, rfl, .inr (TW.h0 _), rfl, rfl, false, by simp [i1], iteF ?_⟩
    refine ⟨_, rfl, C, mc, _, _, rfl, TW.rd, TW.c1, t1, _, rfl, .inr (TW.h1 _), rfl, rfl, false, by simp [i2], iteF ?_⟩
    refine ⟨_, rfl, C, mc, _, _, rfl, TW.rd, TW.c2, t2, _, rfl, .inr (TW.h2 _), rfl, rfl, true, by simp [i3], iteT ?_⟩
    refine ⟨_, rfl, C, mc, _, _, rfl, TW.rd, TW.c3, t3, _, rfl, .inr (TW.h3 _), rfl, rfl, ?_⟩
    have e4 : V.bl (if false = true then !inV (.str m) [.str "behind", .str "ahead"] else inV (.str m) [.str "behind", .str "ahead"]) = .bl true := by simp [i4]
    rw [e4]
    exact kQ
end

theorem ps_no {X : Cx} {st : Stmt} : PS X st (fun _ _ _ => False) := ⟨fun _ _ _ _ _ _ h => h.elim⟩
def spIsNum (K : PySem.W.Frag) : Sp := fun vs H Q _ => ∃ i : Int, vs = [.int i] ∧ Q (.bl true) H
def spRuns (K : PySem.W.Frag) : Sp := fun vs H Q _ => ∃ (r : Addr) (p k a m : Str) (n f : Int), vs = [.ref r, .int n, .int f] ∧ Road K H r p k a m ∧ ∀ v H', Same H H' → Two K H' v (lr k a n f) → Q v H'
theorem iteT' {b : Bool} {A B : Prop} (h : b = true) (a : A) : if b = true then A else B := by rw [if_pos h]; exact a
theorem iteF' {b : Bool} {A B : Prop} (h : ¬ b = true) (a : B) : if b = true then A else B := by rw [if_neg h]; exact a
section
variable {P : Program} {w : World} {K : PySem.W.Frag} {mg : Str → Option Value} {base : Heap}
theorem scIsNum : FnScope ["value"] ["value"] (defScope sIsNum) := ⟨rfl, rfl, rfl, by decide +kernel, rfl, by decide +kernel, by decide +kernel⟩
theorem ok_isnum {f : Addr} {fd : FuncData} (F : Fun K "is_number" "is_number" sIsNum f fd) (TI : TxtI mg) : FnOk P w K mg base CX0 1 f fd ["value"] (spIsNum K) := by
  refine F.ok scIsNum (fun vs H Q E h => ?_) (fun cdv A outer s H vs Q E hr h => ?_)
  · obtain ⟨i, rfl, _⟩ := h
    rfl
  · obtain ⟨i, rfl, k⟩ := h
    refine ⟨_, (pss_one (ps_ret (pe_and (pe_callB call_isi (by rfl) TI.isinstance (by decide +kernel) (pa_cons (pv 0) (pa_cons (pe_bltn (v := V.ty "int") (by rfl) TI.int (by decide +kernel) rfl) pa_nil))) (pe_one (pe_not (pe_callB call_isi (by rfl) TI.isinstance (by decide +kernel) (pa_cons (pv 0) (pa_cons (pe_bltn (v := V.ty "bool") (by rfl) TI.bool (by decide +kernel) rfl) pa_nil)))))))), ?_⟩
    have r : Rp K H (.int i) (.int i) := .int i
    refine ⟨_, rfl, .int i, .ty "int", _, _, _, rfl, .ty _, rp_ty r, kit_int _, _, rfl, iteT ?_⟩
    exact ⟨_, rfl, .int i, .ty "bool", _, _, _, rfl, .ty _, rp_ty r, kit_bool _, _, rfl, k⟩
theorem scRuns : FnScope ["way", "entries", "crashes", "_", "keeping", "answering", "least"] ["way", "entries", "crashes"] (defScope sRuns) := ⟨rfl, rfl, rfl, by decide +kernel, rfl, by decide +kernel, by decide +kernel⟩
theorem ok_runs {f : Addr} {fd : FuncData} (F : Fun K "runs_of" "runs_of" sRuns f fd) (T : Txt mg) : FnOk P w K mg base CX0 1 f fd ["way", "entries", "crashes"] (spRuns K) := by
  refine F.ok scRuns (fun vs H Q E h => ?_) (fun cdv A outer s H vs Q E hr h => ?_)
  · obtain ⟨r, p, k, a, m, n, f, rfl, _⟩ := h
    rfl
  · obtain ⟨r, p, k, a, m, n, f, rfl, ⟨hR, iR⟩, kQ⟩ := h
    refine ⟨_, (pss_cons (ps_asg (pv 0) (pg_tup (by rfl) (pgs_cons (pg_name (i := 3) scRuns.nd rfl (Or.inl rfl)) (pgs_cons (pg_name (i := 4) scRuns.nd rfl (Or.inl rfl)) (pgs_cons (pg_name (i := 5) scRuns.nd rfl (Or.inl rfl)) (pgs_cons (pg_name (i := 3) scRuns.nd rfl (Or.inl rfl)) pgs_nil))))))
      (pss_cons (ps_if (pt_cmpR op_eq (pv 5) pe_str (nomark _)) (pss_cons (ps_set (i := 6) scRuns.nd rfl (Or.inl rfl) (pe_ifExp (pt_cmpR op_eq (pv 4) pe_str (nomark _)) (pv 1) pe_int))
      (pss_one (ps_ret (Ab.pe_tupA (pa_cons (pv 6) (pa_cons (pe_op op_add (pv 6) (pv 2)) pa_nil)))))) pss_nil)
      (pss_cons (ps_if (pt_cmpR op_eq (pv 4) pe_str (nomark _)) (pss_one (ps_ret (Ab.pe_tupA (pa_cons (pe_callB (call_max2 rfl) (by rfl) T.max (by decide +kernel) (pa_cons pe_int (pa_cons (pe_op op_sub (pv 1) (pv 2)) pa_nil))) (pa_cons (pv 1) pa_nil))))) pss_nil)
      (pss_one (ps_ret (Ab.pe_tupA (pa_cons (pe_ifExp (pt_cmpR op_ge (pv 2) (pv 1) (nomark _)) pe_int pe_int) (pa_cons (pe_callB (call_min2 rfl) (by rfl) T.min (by decide +kernel) (pa_cons (pv 1) (pa_cons (pe_op op_add (pv 2) pe_int) pa_nil))) pa_nil)))))))), ?_⟩
    have fin : ∀ {t : Addr} {G : Hp} {x y : Int}, Same H G → G t = some (.tup [.int x, .int y]) → lr k a n f = (x, y) → Q (.ref t) G := fun sg eg el => kQ _ _ sg ⟨_, rfl, by rw [el]; exact .of eg⟩
    have str : ∀ {x y : Str}, decide (V.str x = V.str y) = true → x = y := fun h => V.str.inj (of_decide_eq_true h)
    have nstr : ∀ {x y : Str}, ¬ decide (V.str x = V.str y) = true → ¬ x = y := fun h e => h (decide_eq_true (congrArg V.str e))
    refine ⟨_, rfl, r, _, rfl, hR, rfl, _, _, rfl, _, _, rfl, _, _, rfl, _, _, rfl, rfl, ?_⟩
    refine ⟨_, rfl, rfl, _, rfl, ite2 (fun h1 => ⟨_, rfl, rfl, _, rfl, ite2 (fun h2 => ?A) (fun h2 => ?B)⟩) (fun h1 => ⟨_, rfl, rfl, _, rfl, ite2 (fun h2 => ?C) (fun h2 => ?D)⟩)⟩
    case A =>
      refine ⟨_, rfl, _, rfl, _, rfl, _, rfl, _, _, rfl, rfl, sz (by simp), fun t G nt st et => fin st et ?_⟩
      unfold lr
      rw [if_pos (str h1), if_pos (str h2)]
    case B =>
      refine ⟨_, rfl, _, rfl, _, rfl, _, _, rfl, rfl, sz (by simp), fun t G nt st et => fin st et ?_⟩
      unfold lr
      rw [if_pos (str h1), if_neg (nstr h2)]
    case C =>
      refine ⟨_, rfl, _, rfl, _, _, rfl, rfl, _, _, rfl, _, rfl, sz (by simp), fun t G nt st et => fin st et ?_⟩
      unfold lr mx
      rw [if_neg (nstr h1), if_pos (str h2)]
    case D =>
      refine ⟨_, rfl, _, rfl, _, _, rfl, rfl, _, rfl, ite2 (fun h3 => ?E) (fun h3 => ?F)⟩
      case E =>
        refine ⟨_, rfl, _, rfl, _, _, rfl, rfl, _, _, rfl, sz (by simp), fun t G nt st et => fin st et ?_⟩
        unfold lr mn
        rw [if_neg (nstr h1), if_neg (nstr h2), if_pos (of_decide_eq_true h3)]
      case F =>
        refine ⟨_, rfl, _, rfl, _, _, rfl, rfl, _, _, rfl, sz (by simp), fun t G nt st et => fin st et ?_⟩
        unfold lr mn
        rw [if_neg (nstr h1), if_neg (nstr h2), if_neg (fun z => h3 (decide_eq_true z))]
theorem scAcc : FnScope ["way", "copies", "crashes", "losses", "most", "value", "posting", "keeping", "_", "marking", "least", "runs", "commits"] ["way", "copies", "crashes", "losses"] (defScope sAcc) := ⟨rfl, rfl, rfl, by decide +kernel, rfl, by decide +kernel, by decide +kernel⟩
theorem ok_acc {f fW fJ fR : Addr} {fd dW dJ dR : FuncData} (F : Fun K "account" "account" sAcc f fd) (T : Txt mg)
    (GY : FnOk P w K mg base CX0 1 fW dW ["value"] (spWay K)) (TY : DefT K mg "is_way" fW) (bY : Binds K dW ["value"] [])
    (GJ : FnOk P w K mg base CX0 1 fJ dJ ["value"] (spIsNum K)) (TJ : DefT K mg "is_number" fJ) (bJ : Binds K dJ ["value"] [])
    (GR : FnOk P w K mg base CX0 1 fR dR ["way", "entries", "crashes"] (spRuns K)) (TR : DefT K mg "runs_of" fR) (bR : Binds K dR ["way", "entries", "crashes"] []) : FnOk P w K mg base CX0 2 f fd ["way", "copies", "crashes", "losses"] (spAcc K) := by
  refine F.ok scAcc (fun vs H Q E h => ?_) (fun cdv A outer s H vs Q E hr h => ?_)
  · obtain ⟨r, p, k, a, m, c, f, l, rfl, _⟩ := h
    rfl
  · obtain ⟨r, p, k, a, m, c, f, l, rfl, hRoad, hc, hf, hl, kQ⟩ := h
    refine ⟨_, (pss_cons (ps_if (pt_not (pt_val (pe_call GY (hr.mono (by decide)) rfl TY.mg TY.kp bY .nil pass0 (pa_cons (pv 0) pa_nil)))) (pss_one ps_no) pss_nil)
      (pss_cons (ps_set (i := 4) scAcc.nd rfl (Or.inl rfl) (pe_op op_mulW (pe_op op_pow pe_int pe_int) (pe_op op_pow pe_int pe_int)))
      (pss_cons (ps_for PassesOwn.never rfl (pi_tup (Ab.pe_tupA (pa_cons (pv 1) (pa_cons (pv 2) (pa_cons (pv 3) pa_nil))))) (pg_name (i := 5) scAcc.nd rfl (Or.inl rfl)) (pss_one (ps_if (PW.pt (pw_or (pt_not (pt_val (pe_call GJ (hr.mono (by decide)) rfl TJ.mg TJ.kp bJ .nil pass0 (pa_cons (pv 5) pa_nil)))) (pw_or1 (pt_not (pt_chain op_le op_le pe_int (pv 5) (pv 4)))))) (pss_one ps_no) pss_nil)))
      (pss_cons (ps_asg (pv 0) (pg_tup (by rfl) (pgs_cons (pg_name (i := 6) scAcc.nd rfl (Or.inl rfl)) (pgs_cons (pg_name (i := 7) scAcc.nd rfl (Or.inl rfl)) (pgs_cons (pg_name (i := 8) scAcc.nd rfl (Or.inl rfl)) (pgs_cons (pg_name (i := 9) scAcc.nd rfl (Or.inl rfl)) pgs_nil))))))
      (pss_cons (ps_asg (pe_call GR (hr.mono (by decide)) rfl TR.mg TR.kp bR .nil pass0 (pa_cons (pv 0) (pa_cons (pe_op op_add (pv 1) pe_int) (pa_cons (pv 2) pa_nil)))) (pg_tup (by rfl) (pgs_cons (pg_name (i := 10) scAcc.nd rfl (Or.inl rfl)) (pgs_cons (pg_name (i := 11) scAcc.nd rfl (Or.inl rfl)) pgs_nil))))
      (pss_cons (ps_set (i := 12) scAcc.nd rfl (Or.inl rfl) (pe_ifExp (pt_cmpR op_eq (pv 7) pe_str (nomark _)) pe_int (pv 11)))
      (pss_cons (ps_if (pt_cmpR op_eq (pv 6) pe_str (nomark _)) (pss_one (ps_ret (Ab.pe_tupA (pa_cons (pv 10) (pa_cons (pv 12) (pa_cons (pv 10) (pa_cons (pe_op op_add (pv 11) (pv 3)) pa_nil))))))) pss_nil)
      (pss_cons (ps_if (pt_cmpR op_eq (pv 6) pe_str (nomark _)) (pss_one (ps_ret (Ab.pe_tupA (pa_cons (pv 10) (pa_cons (pv 12) (pa_cons (pe_ifExp (pt_cmpR op_eq (pv 7) pe_str (nomark _)) (pe_callB (call_max2 rfl) (by rfl) T.max (by decide +kernel) (pa_cons pe_int (pa_cons (pe_op op_sub pe_int (pv 2)) pa_nil))) (pv 10)) (pa_cons (pe_op op_add (pv 12) (pv 3)) pa_nil))))))) pss_nil)
      (pss_cons (ps_if (pt_cmpR op_eq (pv 9) pe_str (nomark _)) (pss_one (ps_ret (Ab.pe_tupA (pa_cons (pv 10) (pa_cons (pv 12) (pa_cons (pv 10) (pa_cons (pe_op op_add (pe_op op_add (pv 12) (pv 2)) (pv 3)) pa_nil))))))) pss_nil)
      (pss_one (ps_ret (Ab.pe_tupA (pa_cons (pv 10) (pa_cons (pv 12) (pa_cons (pe_callB (call_max2 rfl) (by rfl) T.max (by decide +kernel) (pa_cons pe_int (pa_cons (pe_op op_sub (pv 10) (pv 2)) pa_nil))) (pa_cons (pe_op op_add (pv 12) (pv 3)) pa_nil)))))))))))))))), ?_⟩
    have e50 : (10 : Int) ^ Int.toNat 50 * 10 ^ Int.toNat 50 = great := by decide +kernel
    have pw : ((10 : Int) ^ Int.toNat 50).natAbs < 2 ^ 400 := by decide +kernel
    refine ⟨_, rfl, r, p, k, a, m, rfl, hRoad, _, rfl, iteF ?_⟩
    refine ⟨_, _, rfl, rfl, ⟨by decide, by decide, by decide⟩, _, _, rfl, rfl, ⟨by decide, by decide, by decide⟩, _, _, rfl, rfl, wide_mul pw pw (by decide) (by decide) (by decide), ?_⟩
    refine ⟨_, rfl, _, rfl, _, rfl, sz (by simp), fun tt G0 nt s0 et => ⟨tt, rfl, ⟨_, SqT.of et⟩, for_tup (xs := [V.int c, V.int f, V.int l]) (fun i σ H' => (σ.length = 13 ∧ σ[0]? = some (some (.ref r)) ∧ σ[1]? = some (some (.int c)) ∧ σ[2]? = some (some (.int f)) ∧ σ[3]? = some (some (.int l)) ∧ σ[4]? = some (some (.int great))) ∧ H' = G0) ⟨⟨rfl, rfl, rfl, rfl, rfl, congrArg (fun z => some (some (V.int z))) e50⟩, rfl⟩ ?_ ?_ ?_⟩⟩
    · rintro i σ H' _ ⟨_, rfl⟩
      exact .of et
    · rintro i x σ H' hx ⟨⟨v, v0, v1, v2, v3, v4⟩, rfl⟩
      have hx' : ∃ z : Int, x = .int z ∧ 0 ≤ z ∧ z ≤ great := by
        match i, hx with
        | 0, hx => exact ⟨c, (Option.some.inj hx).symm, hc⟩
        | 1, hx => exact ⟨f, (Option.some.inj hx).symm, hf⟩
        | 2, hx => exact ⟨l, (Option.some.inj hx).symm, hl⟩
      obtain ⟨z, rfl, z0, z1⟩ := hx'
      have y0 : (σ.set 5 (some (V.int z)))[5]? = some (some (V.int z)) := by simp [v]
      have y4 : (σ.set 5 (some (V.int z)))[4]? = some (some (V.int great)) := by
        rw [List.getElem?_set_ne (by decide)]
        exact v4
      have c1 : decide (0 ≤ z) = true := decide_eq_true z0
      have c2 : decide (z ≤ great) = true := decide_eq_true z1
      refine ⟨_, y0, z, rfl, _, rfl, iteF ?_⟩
      refine ⟨_, y0, _, _, rfl, rfl, _, rfl, iteT' c1 ⟨_, y4, _, _, rfl, rfl, _, rfl, ?_⟩⟩
      rw [c2]
      exact ⟨⟨by simp [v], (List.getElem?_set_ne (by omega)).trans v0, (List.getElem?_set_ne (by omega)).trans v1, (List.getElem?_set_ne (by omega)).trans v2, (List.getElem?_set_ne (by omega)).trans v3, y4⟩, rfl⟩
    · rintro σ H' ⟨⟨v, v0, v1, v2, v3, v4⟩, rfl⟩
      obtain ⟨x0, x1, x2, x3, x4, x5, x6, x7, x8, x9, x10, x11, x12, rfl⟩ : ∃ x0 x1 x2 x3 x4 x5 x6 x7 x8 x9 x10 x11 x12, σ = [x0, x1, x2, x3, x4, x5, x6, x7, x8, x9, x10, x11, x12] := by
        match σ, v with
        | [x0, x1, x2, x3, x4, x5, x6, x7, x8, x9, x10, x11, x12], _ => exact ⟨x0, x1, x2, x3, x4, x5, x6, x7, x8, x9, x10, x11, x12, rfl⟩
      obtain rfl : x0 = _ := Option.some.inj v0
      obtain rfl : x1 = _ := Option.some.inj v1
      obtain rfl : x2 = _ := Option.some.inj v2
      obtain rfl : x3 = _ := Option.some.inj v3
      clear v v0 v1 v2 v3 v4
      have hR : SqT K H' r [V.str p, V.str k, V.str a, V.str m] := Dat.sqT_same s0 hRoad.1
      have iR := hRoad.2
      have fin : ∀ {t : Addr} {G : Hp} {xs : List V}, Same H' G → G t = some (.tup xs) → accP p k a m (c + 1) f l = xs → Q (.ref t) G := fun sg eg el => kQ _ _ (s0.trans sg) (by rw [el]; exact .of eg)
      have str : ∀ {x y : Str}, decide (V.str x = V.str y) = true → x = y := fun h => V.str.inj (of_decide_eq_true h)
      have nstr : ∀ {x y : Str}, ¬ decide (V.str x = V.str y) = true → ¬ x = y := fun h e => h (decide_eq_true (congrArg V.str e))
      refine ⟨_, rfl, r, _, rfl, hR, rfl, _, _, rfl, _, _, rfl, _, _, rfl, _, _, rfl, rfl, ?_⟩
      refine ⟨_, rfl, _, rfl, _, _, rfl, rfl, _, rfl, r, p, k, a, m, _, _, rfl, ⟨hR, iR⟩, fun v G1 s1 tw => ?_⟩
      obtain ⟨t1, rfl, q1⟩ := tw
      refine ⟨t1, _, rfl, q1, rfl, _, _, rfl, _, _, rfl, rfl, ?_⟩
      have cmy : k = "inbox" → cmP k a (c + 1) f = 1 := fun e => if_pos e
      have cmn : ¬ k = "inbox" → cmP k a (c + 1) f = (lr k a (c + 1) f).2 := fun e => if_neg e
      refine ⟨_, rfl, rfl, _, rfl, ite2 (fun hk => ?A) (fun hk => ⟨_, rfl, ?B⟩)⟩
      case' A => have ek := cmy (str hk)
      case' B => have ek := cmn (nstr hk)
      case' A => have em : (if k = "inbox" then mx 0 (1 - f) else (lr k a (c + 1) f).1) = mx 0 (1 - f) := if_pos (str hk)
      case' B => have em : (if k = "inbox" then mx 0 (1 - f) else (lr k a (c + 1) f).1) = (lr k a (c + 1) f).1 := if_neg (nstr hk)
      all_goals
        refine ⟨_, rfl, rfl, _, rfl, ite2 (fun h1 => ?_) (fun h1 => ⟨_, rfl, rfl, _, rfl, ite2 (fun h2 => ?_) (fun h2 => ⟨_, rfl, rfl, _, rfl, ite2 (fun h3 => ?_) (fun h3 => ?_)⟩)⟩)⟩
        · refine ⟨_, rfl, _, rfl, _, rfl, _, rfl, _, rfl, _, _, rfl, rfl, sz (by simp), fun t G nt st et => fin (s1.trans st) et ?_⟩
          unfold accP
          rw [if_pos (str h1), ek]
        · first
            | (refine ⟨_, rfl, _, rfl, _, rfl, rfl, _, rfl, iteT' hk ⟨_, rfl, _, _, rfl, rfl, _, _, rfl, _, rfl, _, rfl, _, _, rfl, rfl, sz (by simp), fun t G nt st et => fin (s1.trans st) et ?_⟩⟩; skip)
            | (refine ⟨_, rfl, _, rfl, _, rfl, rfl, _, rfl, iteF' hk ⟨_, rfl, _, rfl, _, rfl, _, _, rfl, rfl, sz (by simp), fun t G nt st et => fin (s1.trans st) et ?_⟩⟩; skip)
          unfold accP
          rw [if_neg (nstr h1), if_pos (str h2), ek, em]
          try rfl
        · refine ⟨_, rfl, _, rfl, _, rfl, _, rfl, _, rfl, _, _, rfl, rfl, _, rfl, _, _, rfl, rfl, sz (by simp), fun t G nt st et => fin (s1.trans st) et ?_⟩
          unfold accP
          rw [if_neg (nstr h1), if_neg (nstr h2), if_pos (str h3), ek]
        · refine ⟨_, rfl, _, rfl, _, rfl, _, rfl, _, _, rfl, rfl, _, _, rfl, _, rfl, _, rfl, _, _, rfl, rfl, sz (by simp), fun t G nt st et => fin (s1.trans st) et ?_⟩
          unfold accP
          rw [if_neg (nstr h1), if_neg (nstr h2), if_neg (nstr h3), ek]
          rfl
end

end K69

set_option Elab.async false
set_option linter.all false
set_option maxRecDepth 100000
/-! the small machine of k68, by numbers -/
namespace W8
structure Sm where
  pl : Nat
  hd : List Nat
  nt : Bool
  cm : Nat
  bx : Nat
  hl : Nat
  ps : Nat
  fl : Nat
  ls : Nat
/-- deeds: 0 answer, 1 commit, 2 post, 3 note -/
def todo (po ke : Nat) (an nt : Bool) : List Nat :=
  bif !(Nat.beq ke 2) && nt then [0] else
    let w := (bif Nat.beq po 0 then [1] else bif Nat.beq po 1 then [1, 2] else [2, 1]) ++ (bif Nat.beq ke 1 then [3] else [])
    bif an then 0 :: w else w ++ [0]
def worked (po ke : Nat) (x : Sm) (d : Nat) (r : List Nat) : Sm :=
  match x with
  | ⟨pl, _, nt, cm, bx, hl, ps, fl, ls⟩ =>
  match d with
  | 0 => ⟨pl + 1, r, nt, cm, bx, hl, ps, fl, ls⟩
  | 1 => ⟨pl, r, nt || Nat.beq ke 0, cm + 1, bif Nat.beq po 0 then bx + 1 else bx, hl, ps, fl, ls⟩
  | 2 => ⟨pl, r, nt, cm, bx, hl, ps + 1, fl, ls⟩
  | _ => ⟨pl, r, true, cm, bx, hl, ps, fl, ls⟩
def ready (ma : Bool) (bx hl : Nat) : Bool := bif ma then Nat.beq hl 1 else Nat.beq hl 0 && Nat.blt 0 bx
def cond2 (ma : Bool) (bx hl : Nat) : Bool := bif ma then Nat.beq hl 0 && Nat.blt 0 bx else Nat.beq hl 1
def isPost : List Nat → Bool
  | 2 :: _ => true
  | _ => false
def mv1 (po ke : Nat) (an : Bool) (many : Nat) (x : Sm) : List Sm := match x.hd with
  | [] => bif Nat.blt x.pl many then [{ x with hd := todo po ke an x.nt }] else []
  | d :: r => [worked po ke x d r]
def moves (po ke : Nat) (an ma : Bool) (many : Nat) (x : Sm) : List Sm :=
  mv1 po ke an many x
  ++ ((bif ready ma x.bx x.hl then [{ x with hl := 1 - x.hl, ps := x.ps + 1 }] else [])
  ++ ((bif cond2 ma x.bx x.hl then [{ x with bx := x.bx - 1, hl := 1 - x.hl }] else [])
  ++ ((bif Nat.blt 0 x.ls && (ready ma x.bx x.hl || isPost x.hd) then [{ x with ps := x.ps + 1, ls := x.ls - 1 }] else [])
  ++ (bif Nat.blt 0 x.fl && (!x.hd.isEmpty || Nat.beq x.hl 1) then [{ x with hd := [], hl := 0, fl := x.fl - 1 }] else []))))
def hcode : List Nat → Nat
  | [] => 0
  | d :: r => (d + 1) + 5 * hcode r
def code (x : Sm) : Nat := ((((((((hcode x.hd) * 4 + x.pl) * 2 + x.nt.toNat) * 8 + x.cm) * 8 + x.bx) * 2 + x.hl) * 16 + x.ps) * 4 + x.fl) * 4 + x.ls
def dom (ma : Bool) (x : Sm) : Bool := (ma || Nat.beq x.hl 0 || Nat.blt 0 x.bx) && (x.hd.all (fun d => Nat.blt d 4) && Nat.blt x.pl 4 && Nat.blt x.cm 8 && Nat.blt x.bx 8 && Nat.blt x.hl 2 && Nat.blt x.ps 16 && Nat.blt x.fl 4 && Nat.blt x.ls 4)
inductive T where
  | lf
  | nd (l : T) (k : Nat) (r : T)
def T.has : T → Nat → Bool
  | .lf, _ => false
  | .nd l k r, j => bif Nat.beq j k then true else bif Nat.ble j k then l.has j else r.has j
def T.ins : T → Nat → T
  | .lf, j => .nd .lf j .lf
  | .nd l k r, j => bif Nat.beq j k then .nd l k r else bif Nat.ble j k then .nd (l.ins j) k r else .nd l k (r.ins j)
def run (po ke : Nat) (an ma : Bool) (many : Nat) : Nat → T → List Sm → List Nat → List Nat → Option (List Nat × List Nat)
  | 0, _, _, _, _ => none
  | _ + 1, _, [], cs, ps => some (cs, ps)
  | n + 1, t, x :: w, cs, ps =>
    bif dom ma x then
      bif t.has (code x) then run po ke an ma many n t w cs ps
      else
        match moves po ke an ma many x with
        | [] => run po ke an ma many n (t.ins (code x)) w (x.cm :: cs) (x.ps :: ps)
        | f => run po ke an ma many n (t.ins (code x)) (f.reverse ++ w) cs ps
    else none
def mxI (i j : Int) : Int := if j > i then j else i
def mnI (i j : Int) : Int := if j < i then j else i
def lrI (ke : Nat) (an : Bool) (n f : Int) : Int × Int :=
  if an = false then (if ke = 2 then n else 1, (if ke = 2 then n else 1) + f)
  else if ke = 2 then (mxI 0 (n - f), n) else (if f ≥ n then 0 else 1, mnI n (f + 1))
def cmI (ke : Nat) (an : Bool) (n f : Int) : Int := if ke = 0 then 1 else (lrI ke an n f).2
def accI (po ke : Nat) (an ma : Bool) (n f l : Int) : List Int :=
  if po = 2 then [(lrI ke an n f).1, cmI ke an n f, (lrI ke an n f).1, (lrI ke an n f).2 + l]
  else if po = 1 then [(lrI ke an n f).1, cmI ke an n f, (if ke = 0 then mxI 0 (1 - f) else (lrI ke an n f).1), cmI ke an n f + l]
  else if ma = false then [(lrI ke an n f).1, cmI ke an n f, (lrI ke an n f).1, cmI ke an n f + f + l]
  else [(lrI ke an n f).1, cmI ke an n f, mxI 0 ((lrI ke an n f).1 - f), cmI ke an n f + l]
def isMin (cs : List Nat) (a : Int) : Bool := cs.any (fun x => decide ((x : Int) = a)) && cs.all (fun x => decide (a ≤ (x : Int)))
def isMax (cs : List Nat) (a : Int) : Bool := cs.any (fun x => decide ((x : Int) = a)) && cs.all (fun x => decide ((x : Int) ≤ a))
def start (f l : Nat) : Sm := ⟨0, [], false, 0, 0, 0, 0, f, l⟩
def fits (cs ps : List Nat) : List Int → Bool
  | [a, b, c, d] => isMin cs a && (isMax cs b && (isMin ps c && isMax ps d))
  | _ => false
def good (po ke : Nat) (an ma : Bool) (c f l : Nat) : Bool := match run po ke an ma (c + 1) 1999 .lf [start f l] [] [] with
  | some (cs, ps) => fits cs ps (accI po ke an ma ((c + 1 : Nat) : Int) f l)
  | none => false
def cfg : List (Nat × Nat × Nat) := [0, 1, 2].flatMap fun c => [0, 1, 2].flatMap fun f => [0, 1, 2].flatMap fun l => bif Nat.blt 4 (c + f + l) then [] else [(c, f, l)]
def goodW (po ke : Nat) (an ma : Bool) : Bool := cfg.all fun z => good po ke an ma z.1 z.2.1 z.2.2
end W8

set_option Elab.async false
set_option linter.all false
set_option maxRecDepth 100000
set_option maxHeartbeats 4000000
/-! tuple * 0, tuple * 1; text * int. -/
namespace KRep
open PySem PySem.Spec L2 PyProof.Rows
open AutoSeq1 (wpAny_loadPart')
theorem times_one (l : Addr) (items : Array Value) (n : Nat) (dd : Option Addr) (sl : Array (Option Value)) (u : Tok) :
    Meets (Builtin.«tuple.__mul__» ⟨[.ref l, .int 1 u], []⟩) (fun _ R s => s.heap.get? l = some { cls := .type "tuple", dict := dd, data := .seq items n, slots := sl } ∧ R (.ok (.ret (Value.ref l))) s) :=
  .of_wp fun pr wo Ar Rr st told => by
    obtain ⟨hp, g, d, tk, os⟩ := st
    obtain ⟨hl, told⟩ := told
    have f1 := AutoSeq1.idx_int
    have f2 : (items.isEmpty || (1 : Int) == 1) = true := by simp
    wp_walk using wpAny_loadPart' hl
    exact ⟨_, rfl, told⟩
theorem times_none (l : Addr) (items : Array Value) (n : Nat) (dd : Option Addr) (sl : Array (Option Value)) (u : Tok) (ne : items.isEmpty = false) :
    Meets (Builtin.«tuple.__mul__» ⟨[.ref l, .int 0 u], []⟩) (fun _ R s => s.heap.get? l = some { cls := .type "tuple", dict := dd, data := .seq items n, slots := sl } ∧
      R (.ok (.ret (Value.ref s.heap.objs.size))) { s with heap := s.heap.push { cls := Value.type "tuple", data := Data.seq #[] }, toks := s.toks }) :=
  .of_wp fun pr wo Ar Rr st told => by
    obtain ⟨hp, g, d, tk, os⟩ := st
    obtain ⟨hl, told⟩ := told
    have f1 := AutoSeq1.idx_int
    have f2 : (items.isEmpty || (0 : Int) == 1) = false := by rw [ne]; rfl
    wp_walk using wpAny_loadPart' hl
    exact ⟨_, rfl, told⟩
/-- t * k, k from 0 on -/
def rRepA (K : PySem.W.Frag) : R2 := fun x y G Want => ∃ (l : Addr) (k : Int) (xs : List V), x = .ref l ∧ y = .int k ∧ SqT K G l xs ∧ xs ≠ [] ∧ 0 ≤ k ∧ k ≤ 1000 ∧ xs.length ≤ 1000 ∧ (k = 1 → Want (.ref l) G) ∧
  (k ≠ 1 → ∀ p, G p = none → Want (.ref p) (upd G p (.tup (List.replicate k.toNat xs).flatten)))
theorem op_repA {X : Cx} : OpR X (binaryOp .Mult) (rRepA X.K) := by
  intro pins st σ G x y v u Want I rx ry h
  obtain ⟨l, k, xs, rfl, rfl, hT, hne, k0, k1, hz, q1, q2⟩ := h
  by_cases big : 2 ≤ k
  · exact op_repT pins st σ G _ _ v u Want I rx ry ⟨l, k, xs, rfl, rfl, hT, hne, big, k1, hz, q2 (by omega)⟩
  cases rx
  obtain ⟨t, rfl⟩ := ry
  obtain ⟨its, r, ⟨⟨oc, od, dt, os⟩, there, hc, n, hd⟩, hs⟩ := I.tuple hT
  have hc' : oc = .type "tuple" := hc
  have hd' : dt = .seq its.toArray n := hd
  subst hc' hd'
  have some_ : its.toArray.isEmpty = false := by
    cases its with
    | nil =>
      cases r
      exact absurd rfl hne
    | cons a b => rfl
  by_cases one : k = 1
  · subst one
    exact wpAny_binaryOp_repeat_ref (T := "tuple") (U := "int") (by decide) ⟨_, there, rfl⟩ (fun s' => typeIs_int s' 1 t) noFill_tuple_mul F.fills_int_mul F.slot_int_rmul repeat_tuple F.slot_int_index.lookup
      (call_meets F.slot_int_rmul (typeIs_int st 1 t) F.entry_int_rmul (F.args_int_rmul_2 _ _) (int_rmul_tuple 1 t l its.toArray n od os)
        ⟨there, rfl, ⟨_, there, rfl⟩, call_meets F.slot_tuple_mul ⟨_, there, rfl⟩ F.entry_tuple_mul (F.args_tuple_mul_2 _ _) (times_one l its.toArray n od os t) ⟨there, ⟨.ref l, G, I, rfl, q1 rfl⟩⟩⟩)
  · have zero : k = 0 := by omega
    subst zero
    exact wpAny_binaryOp_repeat_ref (T := "tuple") (U := "int") (by decide) ⟨_, there, rfl⟩ (fun s' => typeIs_int s' 0 t) noFill_tuple_mul F.fills_int_mul F.slot_int_rmul repeat_tuple F.slot_int_index.lookup
      (call_meets F.slot_int_rmul (typeIs_int st 0 t) F.entry_int_rmul (F.args_int_rmul_2 _ _) (int_rmul_tuple 0 t l its.toArray n od os)
        ⟨there, rfl, ⟨_, there, rfl⟩, call_meets F.slot_tuple_mul ⟨_, there, rfl⟩ F.entry_tuple_mul (F.args_tuple_mul_2 _ _) (times_none l its.toArray n od os t some_)
          ⟨there, ⟨.ref st.heap.objs.size, _, I.laid (t' := st.toks) (o := .tup []) (fun b ob e => Heap.get?_push_of_some _ e) (Nat.le_refl _) ⟨by show 0 ≤ sizeLine; decide, [], .nil, IsTup.new _ _⟩, rfl, q2 (by decide) _ (I.hok.fresh (Nat.le_refl _))⟩⟩⟩)
/-- 'a' * k -/
def rMulS : R2 := fun x y G Want => ∃ (z : Str) (k : Int), x = .str z ∧ y = .int k ∧ z.length = 1 ∧ 1 ≤ k ∧ k ≤ 100 ∧ ∀ w : Str, w.length ≤ 100 → Want (.str w) G
theorem fold_size (a : Array Nat) : ∀ (m : Nat) (b : Array Nat), ((List.replicate m a).foldl (· ++ ·) b).size = b.size + m * a.size
  | 0, b => by simp
  | m + 1, b => by
    rw [List.replicate_succ, List.foldl_cons, fold_size a m, Array.size_append, Nat.add_mul, Nat.one_mul]
    omega
theorem op_mulS {X : Cx} : OpR X (binaryOp .Mult) rMulS := by
  intro pins st σ G x y v u Want I rx ry h
  obtain ⟨z, k, rfl, rfl, z1, k1, k2, q⟩ := h
  obtain ⟨t, rfl⟩ := rx
  obtain ⟨t2, rfl⟩ := ry
  have len : (Txt.mul z k).length ≤ 100 := by
    unfold Txt.mul
    rw [if_neg (by omega)]
    split
    · omega
    · show ((List.replicate k.toNat z.cps).foldl (· ++ ·) #[]).size ≤ 100
      rw [fold_size]
      have : z.cps.size = 1 := z1
      rw [this]
      simp
      omega
  refine SB.mul ⟨?_, ?_, ?_⟩ fun t' tk => ⟨.str (Txt.mul z k), G, I.tok tk, ⟨_, rfl⟩, q _ len⟩
  · rw [decide_eq_false (by omega), decide_eq_false (by omega)]
    rfl
  · intro _ _
    rw [z1]
    have : (1 : Int) ≤ (2 ^ 63 - 1) / k := by
      apply Int.le_ediv_of_mul_le (by omega)
      omega
    omega
  · intro _ _
    rw [z1]
    have : k.toNat ≤ 100 := by omega
    show decide (1 * k.toNat > sizeLine) = false
    exact decide_eq_false (by have : 100 ≤ sizeLine := by decide
                              omega)
end KRep

set_option Elab.async false
set_option linter.all false
set_option maxRecDepth 100000
set_option maxHeartbeats 8000000
namespace K69
open PySem L2 Pen RG KEq W8
def pW : Nat → Str | 0 => "outbox" | 1 => "after" | _ => "before"
def kW : Nat → Str | 0 => "inbox" | 1 => "late" | _ => "plain"
def bW : Bool → Str | false => "behind" | true => "ahead"
def dW : Nat → Str | 0 => "answer" | 1 => "commit" | 2 => "post" | _ => "note"
def hdV (hd : List Nat) : List V := hd.map fun d => V.str (dW d)
abbrev rdV (po ke : Nat) (an ma : Bool) : List V := [.str (pW po), .str (kW ke), .str (bW an), .str (bW ma)]
def spTodo (K : PySem.W.Frag) : Sp := fun vs H Q _ => ∃ (r : Addr) (po ke : Nat) (an ma nt : Bool), vs = [.ref r, .bl nt] ∧ po < 3 ∧ ke < 3 ∧ SqT K H r (rdV po ke an ma) ∧ ∀ t H', Same H H' → H' t = some (.tup (hdV (todo po ke an nt))) → Q (.ref t) H'
def w0 (po : Nat) : List Nat := bif Nat.beq po 0 then [1] else bif Nat.beq po 1 then [1, 2] else [2, 1]
def wk (po ke : Nat) : List Nat := w0 po ++ (bif Nat.beq ke 1 then [3] else [])
abbrev kO : Key := Sum.inr ("outbox" : Str)
abbrev kA : Key := Sum.inr ("after" : Str)
abbrev kB : Key := Sum.inr ("before" : Str)
theorem mergeW (x y z : V) : mergeK [] [(kO, x), (kA, y), (kB, z)] = [(kO, x), (kA, y), (kB, z)] := by
  have n1 : ¬ (kO = kA) := by decide +kernel
  have n2 : ¬ (kO = kB) := by decide +kernel
  have n3 : ¬ (kA = kB) := by decide +kernel
  have e1 : putK [] kO x = [(kO, x)] := putK_new _ rfl
  have e2 : putK [(kO, x)] kA y = [(kO, x), (kA, y)] := putK_new _ (valV_neg n1)
  have e3 : putK [(kO, x), (kA, y)] kB z = [(kO, x), (kA, y), (kB, z)] := putK_new _ ((valV_neg n2).trans (valV_neg n3))
  show putK (putK (putK [] kO x) kA y) kB z = _
  rw [e1, e2, e3]
theorem getW {G : Hp} {d ta tb tc : Addr} {po : Nat} (h : G d = some (.dK [(kO, .ref ta), (kA, .ref tb), (kB, .ref tc)])) (hp : po < 3) (ha : G ta = some (.tup [.str "commit"])) (hb : G tb = some (.tup [.str "commit", .str "post"])) (hc : G tc = some (.tup [.str "post", .str "commit"])) :
    ∃ tw, DGet G d (.str (pW po)) (some (.ref tw)) ∧ G tw = some (.tup (hdV (w0 po))) := by
  have n1 : ¬ (kO = kA) := by decide +kernel
  have n2 : ¬ (kO = kB) := by decide +kernel
  have n3 : ¬ (kA = kB) := by decide +kernel
  rcases (by omega : po = 0 ∨ po = 1 ∨ po = 2) with rfl | rfl | rfl
  · have q := DGet.k (k := kO) h
    rw [valV_pos rfl] at q
    exact ⟨ta, q, ha⟩
  · have q := DGet.k (k := kA) h
    rw [valV_neg n1, valV_pos rfl] at q
    exact ⟨tb, q, hb⟩
  · have q := DGet.k (k := kB) h
    rw [valV_neg n2, valV_neg n3, valV_pos rfl] at q
    exact ⟨tc, q, hc⟩
section
variable {P : Program} {w : World} {K : PySem.W.Frag} {mg : Str → Option Value} {base : Heap}
theorem scTodo : FnScope ["_law_road", "_law_is_noted", "_law_posting", "_law_keeping", "_law_answering", "_law_work"] ["_law_road", "_law_is_noted"] (defScope sTodo) := ⟨rfl, rfl, rfl, by decide +kernel, rfl, by decide +kernel, by decide +kernel⟩

theorem ok_todo {f : Addr} {fd : FuncData} (F : Fun K "_law_todo" "_law_todo" sTodo f fd) (T : Txt mg) : FnOk P w K mg base CX0 1 f fd ["_law_road", "_law_is_noted"] (spTodo K) := by
  refine F.ok scTodo (fun vs H Q E h => ?_) (fun cdv A outer s H vs Q E hr h => ?_)
  · obtain ⟨r, po, ke, an, ma, nt, rfl, _⟩ := h
    rfl
  · obtain ⟨r, po, ke, an, ma, nt, rfl, hp, hk, hR, kQ⟩ := h
    have hu := hu_of hr
    refine ⟨_, (pss_cons (ps_asg (pe_slice sl_tupA (pv 0) po_none (po_some pe_int)) (pg_tup (by rfl) (pgs_cons (pg_name (i := 2) scTodo.nd rfl (Or.inl rfl)) (pgs_cons (pg_name (i := 3) scTodo.nd rfl (Or.inl rfl)) (pgs_cons (pg_name (i := 4) scTodo.nd rfl (Or.inl rfl)) pgs_nil)))))
      (pss_cons (ps_if (PW.pt (pw_and (pt_cmpR op_ne (pv 3) pe_str (nomark _)) (pw_and1 (pt_val (pv 1))))) (pss_one (ps_ret (Ab.pe_tupA (pa_cons pe_str pa_nil)))) pss_nil)
      (pss_cons (ps_set (i := 5) scTodo.nd rfl (Or.inl rfl) (pe_dget hu (pe_disp (pps_cons pe_str (Ab.pe_tupA (pa_cons pe_str pa_nil)) (pps_cons pe_str (Ab.pe_tupA (pa_cons pe_str (pa_cons pe_str pa_nil))) (pps_cons pe_str (Ab.pe_tupA (pa_cons pe_str (pa_cons pe_str pa_nil))) pps_nil))) (by decide +kernel) rfl (by simp) (by decide)) (pv 2) (fun _ _ => rfl)))
      (pss_cons (ps_set (i := 5) scTodo.nd rfl (Or.inl rfl) (pe_op L2.op_catA (pv 5) (pe_op KRep.op_repA (Ab.pe_tupA (pa_cons pe_str pa_nil)) (pe_callTy call_int1 (by rfl) T.int PyProof.Rows.boot_int (pa_cons (pe_cmpR op_eq (pv 3) pe_str (nomark _)) pa_nil)))))
      (pss_one (ps_ret (pe_ifExp (pt_cmpR op_eq (pv 4) pe_str (nomark _)) (pe_op L2.op_catA (Ab.pe_tupA (pa_cons pe_str pa_nil)) (pv 5)) (pe_op L2.op_catA (pv 5) (Ab.pe_tupA (pa_cons pe_str pa_nil)))))))))), ?_⟩
    refine ⟨_, rfl, 3, rfl, r, _, rfl, hR, fun z => absurd z.2 (by show ¬ (HT.sIx 4 4 (some 3) = 4); decide), fun _ t1 n1 => ?_⟩
    have s1 : Same H (upd H t1 (.tup (cutV (rdV po ke an ma) none (some 3)))) := same_new n1
    refine ⟨t1, [.str (pW po), .str (kW ke), .str (bW an)], rfl, SqT.of upd_same, rfl, _, _, rfl, _, _, rfl, _, _, rfl, rfl, ?_⟩
    generalize upd H t1 (.tup (cutV (rdV po ke an ma) none (some 3))) = H1 at s1 ⊢
    have str : ∀ {x y : Str}, decide (V.str x = V.str y) = true → x = y := fun h => V.str.inj (of_decide_eq_true h)
    have nstr : ∀ {x y : Str}, ¬ decide (V.str x = V.str y) = true → ¬ x = y := fun h e => h (decide_eq_true (congrArg V.str e))
    refine ⟨_, rfl, rfl, _, rfl, ite2 (fun h1 => ⟨_, rfl, nt, rfl, ite2 (fun h2 => ?A) (fun h2 => ?B)⟩) (fun h1 => iteF ?C)⟩
    case A =>
      refine ⟨sz (by simp), fun t G nt' st et => kQ _ _ (s1.trans st) ?_⟩
      have : todo po ke an nt = [0] := by
        unfold todo
        rw [h2]
        have k2 : ke ≠ 2 := fun e => by
          subst e
          exact absurd h1 (by decide +kernel)
        have : Nat.beq ke 2 = false := by
          rcases (by omega : ke = 0 ∨ ke = 1) with rfl | rfl <;> rfl
        rw [this]
        rfl
      rw [this]
      exact et
    all_goals
      have tt : todo po ke an nt = bif an then 0 :: wk po ke else wk po ke ++ [0] := by
        unfold todo wk
        first
          | (have h2' : nt = false := by simpa using h2
             rw [h2', Bool.and_false]
             rfl)
          | (have k2 : ke = 2 := by
               rcases (by omega : ke = 0 ∨ ke = 1 ∨ ke = 2) with rfl | rfl | rfl
               · exact absurd (show decide (V.str (kW 0) ≠ V.str "plain") = true by decide +kernel) h1
               · exact absurd (show decide (V.str (kW 1) ≠ V.str "plain") = true by decide +kernel) h1
               · rfl
             subst k2
             rfl)
      clear h1
      intro d hd
      refine ⟨sz (by simp), fun ta Ga na sa ea => ⟨sz (by simp), fun tb Gb nb sb eb => ⟨sz (by simp), fun tc Gc nc sc ec => ?_⟩⟩⟩
      have zd : Gc d = some (.dK []) := sc _ _ (sb _ _ (sa _ _ upd_same))
      refine ⟨zd, [(kO, .ref ta), (kA, .ref tb), (kB, .ref tc)], rfl, (by simp), ?_⟩
      rw [mergeW]
      have off : ∀ {t : Addr} {xs : List V}, Gc t = some (.tup xs) → (upd Gc d (.dK [(kO, .ref ta), (kA, .ref tb), (kB, .ref tc)])) t = some (.tup xs) := fun {t xs} h => by
        rw [upd_ne (ne_of h zd (by intro z; cases z))]
        exact h
      have s2 : Same H (upd Gc d (.dK [(kO, .ref ta), (kA, .ref tb), (kB, .ref tc)])) := s1.trans (same_put hd (sa.trans (sb.trans sc)))
      obtain ⟨tw, ew, hw⟩ := getW (ta := ta) (tb := tb) (tc := tc) (upd_same (H := Gc) (a := d)) hp (off (sc _ _ (sb _ _ ea))) (off (sc _ _ eb)) (off ec)
      refine ⟨_, rfl, d, _, rfl, ew, ?_⟩
      generalize upd Gc d (.dK [(kO, .ref ta), (kA, .ref tb), (kB, .ref tc)]) = G2 at s2 hw ⊢
      have ne0 : hdV (w0 po) ≠ [] := by
        rcases (by omega : po = 0 ∨ po = 1 ∨ po = 2) with rfl | rfl | rfl <;> (intro z; cases z)
      have l0 : (hdV (w0 po)).length ≤ 2 := by
        rcases (by omega : po = 0 ∨ po = 1 ∨ po = 2) with rfl | rfl | rfl <;> decide
      -- behind the note
      have fin : ∀ {tk : Addr} {G : Hp}, Same H G → G tk = some (.tup (hdV (wk po ke))) → (if decide (V.str (bW an) = V.str "ahead") = true then
          ∀ t G', Same G G' → G' t = some (.tup (hdV [0] ++ hdV (wk po ke))) → Q (.ref t) G' else ∀ t G', Same G G' → G' t = some (.tup (hdV (wk po ke) ++ hdV [0])) → Q (.ref t) G') := fun {tk G} sg eg => by
        cases an with
        | true =>
          rw [if_pos (by decide +kernel)]
          intro t G' s' e'
          refine kQ _ _ (sg.trans s') ?_
          rw [tt, e']
          rfl
        | false =>
          rw [if_neg (by decide +kernel)]
          intro t G' s' e'
          refine kQ _ _ (sg.trans s') ?_
          rw [tt, e']
          unfold hdV
          rw [← List.map_append]
          rfl
      have nek : hdV (wk po ke) ≠ [] := by
        unfold wk
        unfold hdV
        rw [List.map_append]
        intro z
        exact ne0 (List.append_eq_nil_iff.mp z).1
      have lk : (hdV (wk po ke)).length ≤ 3 := by
        unfold wk hdV
        rw [List.map_append, List.length_append]
        have : (List.map (fun d => V.str (dW d)) (bif ke.beq 1 then [3] else [])).length ≤ 1 := by cases ke.beq 1 <;> decide
        have := l0
        unfold hdV at this
        omega
      refine ⟨_, rfl, sz (by simp), fun tn Gn nn sn en => ?_⟩
      refine ⟨_, rfl, rfl, .inr ⟨_, rfl, ?_⟩⟩
      refine ⟨tn, _, _, rfl, rfl, SqT.of en, by simp, ?k0, ?k1, by simp, (fun e => ?one), fun e p np => ?non⟩
      case k0 => split <;> decide
      case k1 => split <;> decide
      case one =>
        have kl : ke = 1 := by
          rcases (by omega : ke = 0 ∨ ke = 1 ∨ ke = 2) with rfl | rfl | rfl
          · exact absurd e (by decide +kernel)
          · rfl
          · exact absurd e (by decide +kernel)
        refine ⟨tw, tn, _, _, rfl, rfl, SqT.of (sn _ _ hw), SqT.of en, Nat.le_trans (show _ ≤ 99 by simp only [List.length_cons, List.length_nil]; omega) (by decide), (fun y => absurd y ne0), (fun _ y => by cases y), fun _ _ t nt => ?_⟩
        have eg : (upd Gn t (.tup (hdV (w0 po) ++ [V.str "note"]))) t = some (.tup (hdV (wk po ke))) := by
          rw [upd_same]
          subst kl
          unfold wk hdV
          rw [List.map_append]
          rfl
        have sg := (s2.trans sn).trans (same_new (o := .tup (hdV (w0 po) ++ [V.str "note"])) nt)
        generalize upd Gn t (.tup (hdV (w0 po) ++ [V.str "note"])) = G4 at sg eg ⊢
        have zz := fin (tk := t) sg eg
        refine ⟨_, rfl, rfl, _, rfl, ?_⟩
        by_cases c : decide (V.str (bW an) = V.str "ahead") = true
        · rw [if_pos c] at zz
          refine iteT' c ?_
          refine ⟨sz (by simp), fun t2 G2 n2 s2' e2 => ?_⟩
          refine ⟨_, rfl, t2, t, _, _, rfl, rfl, SqT.of e2, SqT.of (s2' _ _ eg), Nat.le_trans (show _ ≤ 99 by simp only [List.length_cons, List.length_nil]; omega) (by decide), (fun z => by cases z), (fun _ y => absurd y nek), fun _ _ t nt => zz _ _ (s2'.trans (same_new nt)) upd_same⟩
        · rw [if_neg c] at zz
          refine iteF' c ?_
          refine ⟨_, rfl, sz (by simp), fun t2 G2 n2 s2' e2 => ?_⟩
          refine ⟨t, t2, _, _, rfl, rfl, SqT.of (s2' _ _ eg), SqT.of e2, Nat.le_trans (show _ ≤ 99 by simp only [List.length_cons, List.length_nil]; omega) (by decide), (fun y => absurd y nek), (fun _ y => by cases y), fun _ _ t nt => zz _ _ (s2'.trans (same_new nt)) upd_same⟩
      case non =>
        have kl : ke ≠ 1 := fun y => by
          subst y
          exact e (by decide +kernel)
        have k0 : (if decide (V.str (kW ke) = V.str "late") = true then (1 : Int) else 0) = 0 := by
          rcases (by omega : ke = 0 ∨ ke = 2) with rfl | rfl <;> decide +kernel
        rw [k0] at e ⊢
        have sp : Same Gn (upd Gn p (.tup (List.replicate (0 : Int).toNat [V.str "note"]).flatten)) := same_new np
        refine ⟨tw, p, _, _, rfl, rfl, SqT.of (sp _ _ (sn _ _ hw)), SqT.of upd_same, Nat.le_trans (show _ ≤ 99 by simp only [Int.toNat_zero, List.replicate_zero, List.flatten_nil, List.length_nil]; omega) (by decide), (fun y => absurd y ne0), (fun _ _ => ?_), fun _ y => absurd rfl y⟩
        have eg : (upd Gn p (.tup (List.replicate (0 : Int).toNat [V.str "note"]).flatten)) tw = some (.tup (hdV (wk po ke))) := by
          rw [sp _ _ (sn _ _ hw)]
          rcases (by omega : ke = 0 ∨ ke = 2) with rfl | rfl <;> (unfold wk; simp [Nat.beq])
        have sg := (s2.trans sn).trans sp
        generalize upd Gn p (.tup (List.replicate (0 : Int).toNat [V.str "note"]).flatten) = G4 at sg eg ⊢
        have zz := fin (tk := tw) sg eg
        refine ⟨_, rfl, rfl, _, rfl, ?_⟩
        by_cases c : decide (V.str (bW an) = V.str "ahead") = true
        · rw [if_pos c] at zz
          refine iteT' c ?_
          refine ⟨sz (by simp), fun t2 G2 n2 s2' e2 => ?_⟩
          refine ⟨_, rfl, t2, tw, _, _, rfl, rfl, SqT.of e2, SqT.of (s2' _ _ eg), Nat.le_trans (show _ ≤ 99 by simp only [List.length_cons, List.length_nil]; omega) (by decide), (fun z => by cases z), (fun _ y => absurd y nek), fun _ _ t nt => zz _ _ (s2'.trans (same_new nt)) upd_same⟩
        · rw [if_neg c] at zz
          refine iteF' c ?_
          refine ⟨_, rfl, sz (by simp), fun t2 G2 n2 s2' e2 => ?_⟩
          refine ⟨tw, t2, _, _, rfl, rfl, SqT.of (s2' _ _ eg), SqT.of e2, Nat.le_trans (show _ ≤ 99 by simp only [List.length_cons, List.length_nil]; omega) (by decide), (fun y => absurd y nek), (fun _ y => by cases y), fun _ _ t nt => zz _ _ (s2'.trans (same_new nt)) upd_same⟩
end
end K69

set_option Elab.async false
set_option linter.all false
set_option maxRecDepth 100000
set_option maxHeartbeats 8000000
namespace K69
open PySem L2 Pen RG KEq W8
/-- the state x at t -/
abbrev stV (h : Addr) (x : Sm) : List V := [.int x.pl, .ref h, .bl x.nt, .int x.cm, .int x.bx, .int x.hl, .int x.ps, .int x.fl, .int x.ls]
def StA (H : Hp) (t : Addr) (x : Sm) : Prop := ∃ h, H t = some (.tup (stV h x)) ∧ H h = some (.tup (hdV x.hd))
theorem StA.same {H G : Hp} {t : Addr} {x : Sm} (s : Same H G) (a : StA H t x) : StA G t x := by
  obtain ⟨h, a, b⟩ := a
  exact ⟨h, s _ _ a, s _ _ b⟩
theorem cut1 {xs : List V} {i : Nat} : cutV xs (some (i : Int)) none = xs.drop i := by
  unfold cutV
  rw [HT.sIx_none, HT.sIx_nat]
  by_cases h : i ≤ xs.length
  · rw [Nat.min_eq_left h]
    exact List.take_of_length_le (by rw [List.length_drop]; exact Nat.le_refl _)
  · rw [Nat.min_eq_right (by omega), List.drop_length, List.drop_eq_nil_of_le (by omega)]
    exact List.take_nil
theorem same_updN {H G : Hp} {l : Addr} {o : HO} (h : H l = none) (s : Same H G) : Same H (upd G l o) := fun b u e => by
  rw [upd_ne (ne_of_none e h)]
  exact s _ _ e
def spWkd (K : PySem.W.Frag) : Sp := fun vs H Q _ => ∃ (r t : Addr) (po ke : Nat) (an ma : Bool) (x : Sm) (d : Nat) (rs : List Nat), vs = [.ref r, .ref t] ∧ po < 3 ∧ ke < 3 ∧ d < 4 ∧ SqT K H r (rdV po ke an ma) ∧ StA H t x ∧ x.hd = d :: rs ∧
  ∀ t' H', Same H H' → StA H' t' (worked po ke x d rs) → Q (.ref t') H'
section
variable {P : Program} {w : World} {K : PySem.W.Frag} {mg : Str → Option Value} {base : Heap}
theorem scWkd : FnScope ["_law_road", "_law_now", "_law_found", "_law_deed"] ["_law_road", "_law_now"] (defScope sWkd) := ⟨rfl, rfl, rfl, by decide +kernel, rfl, by decide +kernel, by decide +kernel⟩

theorem ok_wkd {f : Addr} {fd : FuncData} (F : Fun K "_law_worked" "_law_worked" sWkd f fd) (T : Txt mg) (TT : mg "tuple" = none) : FnOk P w K mg base CX0 1 f fd ["_law_road", "_law_now"] (spWkd K) := by
  refine F.ok scWkd (fun vs H Q E h => ?_) (fun cdv A outer s H vs Q E hr h => ?_)
  · obtain ⟨r, t, po, ke, an, ma, x, d, rs, rfl, _⟩ := h
    rfl
  · obtain ⟨r, t, po, ke, an, ma, ⟨pl, hd, nt, cm, bx, hl, ps, fl, ls⟩, d, rs, rfl, hp, hk, d4, hR, ⟨h, et, eh⟩, ehd, kQ⟩ := h
    obtain rfl : hd = d :: rs := ehd
    have eh : H h = some (.tup (V.str (dW d) :: hdV rs)) := eh
    have hu := hu_of hr
    refine ⟨_, (pss_cons (ps_par (i := 2) (j := 3) (by rfl) scWkd.nd rfl rfl (by decide) rfl rfl (pa_cons (pe_callTy call_list_of (by rfl) T.list PyProof.Rows.boot_list (pa_cons (pv 1) pa_nil)) (pa_cons (pe_ix ix_tup (pe_ix ix_tup (pv 1) pe_int (fun _ _ => rfl)) pe_int (fun _ _ => rfl)) pa_nil)) (by rfl))
      (pss_cons (ps_asg (pe_slice sl_tupA (pe_ix ix_tup (pv 1) pe_int (fun _ _ => rfl)) (po_some pe_int) po_none) (pg_sub (pv 2) pe_int set_list))
      (pss_cons (ps_if (pt_cmpR op_eq (pv 3) pe_str (nomark _)) (pss_one (ps_asg (pe_op op_add (pe_ix ix_tup (pv 1) pe_int (fun _ _ => rfl)) pe_int) (pg_sub (pv 2) pe_int set_list))) pss_nil)
      (pss_cons (ps_if (pt_cmpR op_eq (pv 3) pe_str (nomark _)) (pss_cons (ps_asg (Ab.pe_tupA (pa_cons (pe_op op_add (pe_ix ix_tup (pv 1) pe_int (fun _ _ => rfl)) pe_int) (pa_cons (pe_or (pe_ix ix_tup (pv 1) pe_int (fun _ _ => rfl)) (pe_one (pe_cmpR op_eq (pe_ix ix_tup (pv 0) pe_int (fun _ _ => rfl)) pe_str (nomark _)))) pa_nil))) (pg_tup (by rfl) (pgs_cons (pg_sub (pv 2) pe_int set_list) (pgs_cons (pg_sub (pv 2) pe_int set_list) pgs_nil))))
      (pss_one (ps_asg (pe_op op_add (pe_ix ix_tup (pv 1) pe_int (fun _ _ => rfl)) (pe_callTy call_int1 (by rfl) T.int PyProof.Rows.boot_int (pa_cons (pe_cmpR op_eq (pe_ix ix_tup (pv 0) pe_int (fun _ _ => rfl)) pe_str (nomark _)) pa_nil))) (pg_sub (pv 2) pe_int set_list)))) pss_nil)
      (pss_cons (ps_if (pt_cmpR op_eq (pv 3) pe_str (nomark _)) (pss_one (ps_asg (pe_op op_add (pe_ix ix_tup (pv 1) pe_int (fun _ _ => rfl)) pe_int) (pg_sub (pv 2) pe_int set_list))) pss_nil)
      (pss_cons (ps_if (pt_cmpR op_eq (pv 3) pe_str (nomark _)) (pss_one (ps_asg pe_bl (pg_sub (pv 2) pe_int set_list))) pss_nil)
      (pss_one (ps_ret (pe_callTy call_tuple_of (by rfl) TT (by decide +kernel) (pa_cons (pv 2) pa_nil)))))))))), ?_⟩
    have str : ∀ {x y : Str}, decide (V.str x = V.str y) = true → x = y := fun h => V.str.inj (of_decide_eq_true h)
    refine ⟨_, rfl, t, _, rfl, .inr (SqT.of et), fun l nl => ?_⟩
    generalize hx : stV h ⟨pl, d :: rs, nt, cm, bx, hl, ps, fl, ls⟩ = xs at et ⊢
    have s1 : Same H (upd H l (.lst xs)) := same_new nl
    have el : (upd H l (.lst xs)) l = some (.lst xs) := upd_same
    generalize upd H l (.lst xs) = G1 at s1 el ⊢
    subst hx
    refine ⟨_, rfl, t, _, 1, _, rfl, rfl, SqT.of (s1 _ _ et), rfl, h, _, 0, _, rfl, rfl, SqT.of (s1 _ _ eh), atI_nat (j := 0) rfl, _, _, rfl, ?_⟩
    refine ⟨_, rfl, t, _, 1, _, rfl, rfl, SqT.of (s1 _ _ et), rfl, 1, rfl, h, _, rfl, SqT.of (s1 _ _ eh), fun z => absurd z.1 (by rw [show (1 : Int) = ((1 : Nat) : Int) from rfl, HT.sIx_nat]; show ¬ (min 1 ((hdV rs).length + 1) = 0); omega), fun _ p np => ?_⟩
    rw [show cutV (V.str (dW d) :: hdV rs) (some 1) none = hdV rs from cut1 (i := 1)]
    have lp : l ≠ p := ne_of_none el np
    have s2 : Same H (upd G1 p (.tup (hdV rs))) := s1.trans (same_new np)
    have e2 : (upd G1 p (.tup (hdV rs))) l = some (.lst (stV h ⟨pl, d :: rs, nt, cm, bx, hl, ps, fl, ls⟩)) := (upd_ne lp).trans el
    have p2 : (upd G1 p (.tup (hdV rs))) p = some (.tup (hdV rs)) := upd_same
    generalize upd G1 p (.tup (hdV rs)) = G2 at s2 e2 p2 ⊢
    refine ⟨_, rfl, l, _, 1, 1, rfl, rfl, e2, rfl, ?_⟩
    have put : ∀ {G : Hp} {ys zs : List V}, Same H G → G l = some (.lst ys) → G p = some (.tup (hdV rs)) → Same H (upd G l (.lst zs)) ∧ (upd G l (.lst zs)) l = some (.lst zs) ∧ (upd G l (.lst zs)) p = some (.tup (hdV rs)) := fun s e z => ⟨same_updN nl s, upd_same, (upd_ne lp.symm).trans z⟩
    obtain ⟨s3, e3, p3⟩ := put (zs := [.int pl, .ref p, .bl nt, .int cm, .int bx, .int hl, .int ps, .int fl, .int ls]) s2 e2 p2
    refine (show (_ : Prop) from ?_)
    rw [show ((stV h ⟨pl, d :: rs, nt, cm, bx, hl, ps, fl, ls⟩).set 1 (V.ref p)) = [.int pl, .ref p, .bl nt, .int cm, .int bx, .int hl, .int ps, .int fl, .int ls] from rfl]
    generalize upd G2 l (.lst [.int pl, .ref p, .bl nt, .int cm, .int bx, .int hl, .int ps, .int fl, .int ls]) = G3 at s3 e3 p3 ⊢
    -- the end
    have fin : ∀ {G : Hp} {y : Sm} {zs : List V}, Same H G → G l = some (.lst zs) → G p = some (.tup (hdV rs)) → zs = stV p y → y.hd = rs → worked po ke ⟨pl, d :: rs, nt, cm, bx, hl, ps, fl, ls⟩ d rs = y → ∀ q, G q = none → Q (.ref q) (upd G q (.tup zs)) := fun {G y zs} s e z hz hy hw q nq => by
      refine kQ q _ (s.trans (same_new nq)) ?_
      rw [hw]
      refine ⟨p, by rw [upd_same, hz], ?_⟩
      rw [hy, upd_ne (ne_of_none z nq)]
      exact z
    have rd : ∀ {G : Hp}, Same H G → SqT K G t (stV h ⟨pl, d :: rs, nt, cm, bx, hl, ps, fl, ls⟩) := fun s => SqT.of (s _ _ et)
    have rr : ∀ {G : Hp}, Same H G → SqT K G r (rdV po ke an ma) := fun s => Dat.sqT_same s hR
    have d4' : d = 0 ∨ d = 1 ∨ d = 2 ∨ d = 3 := by omega
    rcases d4' with rfl | rfl | rfl | rfl
    · refine ⟨_, rfl, rfl, _, rfl, iteT' (by decide +kernel) ?_⟩
      refine ⟨_, rfl, t, _, 0, _, rfl, rfl, rd s3, rfl, _, _, rfl, rfl, ?_⟩
      refine ⟨_, rfl, l, _, 0, 0, rfl, rfl, e3, rfl, ?_⟩
      obtain ⟨s4, e4, p4⟩ := put (zs := stV p ⟨pl + 1, rs, nt, cm, bx, hl, ps, fl, ls⟩) s3 e3 p3
      refine ⟨_, rfl, rfl, _, rfl, iteF' (by decide +kernel) ?_⟩
      refine ⟨_, rfl, rfl, _, rfl, iteF' (by decide +kernel) ?_⟩
      refine ⟨_, rfl, rfl, _, rfl, iteF' (by decide +kernel) ?_⟩
      exact ⟨_, rfl, l, _, rfl, .inl ⟨SqL.of e4, fun q nq => fin (y := ⟨pl + 1, rs, nt, cm, bx, hl, ps, fl, ls⟩) s4 e4 p4 rfl rfl rfl q nq⟩⟩
    · refine ⟨_, rfl, rfl, _, rfl, iteF' (by decide +kernel) ?_⟩
      refine ⟨_, rfl, rfl, _, rfl, iteT' (by decide +kernel) ?_⟩
      refine ⟨_, rfl, t, _, 3, _, rfl, rfl, rd s3, rfl, _, _, rfl, rfl, _, rfl, t, _, 2, _, rfl, rfl, rd s3, rfl, nt, rfl, ?_⟩
      have hk0 : decide (V.str (kW ke) = V.str "inbox") = Nat.beq ke 0 := by
        rcases (by omega : ke = 0 ∨ ke = 1 ∨ ke = 2) with rfl | rfl | rfl <;> decide +kernel
      have hb : (bx : Int) + (if decide (V.str (pW po) = V.str "outbox") = true then 1 else 0) = ((bif Nat.beq po 0 then bx + 1 else bx : Nat) : Int) := by
        rcases (by omega : po = 0 ∨ po = 1 ∨ po = 2) with rfl | rfl | rfl
        · rw [if_pos (by decide +kernel)]
          rfl
        · rw [if_neg (by decide +kernel)]
          exact Int.add_zero _
        · rw [if_neg (by decide +kernel)]
          exact Int.add_zero _
      cases nt with
      | true =>
        refine iteT ?_
        refine ⟨sz (by simp), fun t4 G4 n4 s4' e4' => ?_⟩
        have s4 := s3.trans s4'
        have e4 := s4' _ _ e3
        have p4 := s4' _ _ p3
        refine ⟨t4, _, rfl, SqT.of e4', rfl, _, _, rfl, _, rfl, l, _, 3, 3, rfl, rfl, e4, rfl, ?_⟩
        obtain ⟨s5, e5, p5⟩ := put (zs := [.int pl, .ref p, .bl true, .int (cm + 1), .int bx, .int hl, .int ps, .int fl, .int ls]) s4 e4 p4
        refine ⟨_, _, rfl, _, rfl, l, _, 2, 2, rfl, rfl, e5, rfl, rfl, ?_⟩
        obtain ⟨s6, e6, p6⟩ := put (zs := [.int pl, .ref p, .bl (true), .int (cm + 1), .int bx, .int hl, .int ps, .int fl, .int ls]) s5 e5 p5
        refine ⟨_, rfl, t, _, 4, _, rfl, rfl, rd s6, rfl, _, rfl, r, _, 0, _, rfl, rfl, rr s6, rfl, rfl, .inr ⟨_, rfl, _, _, rfl, rfl, ?_⟩⟩
        refine ⟨_, rfl, l, _, 4, 4, rfl, rfl, e6, rfl, ?_⟩
        have hlist : ([.int pl, .ref p, .bl (true), .int (cm + 1), .int (bx + (if decide (V.str (pW po) = V.str "outbox") = true then 1 else 0)), .int hl, .int ps, .int fl, .int ls] : List V) = stV p ⟨pl, rs, true, cm + 1, bif Nat.beq po 0 then bx + 1 else bx, hl, ps, fl, ls⟩ := by rw [hb]; rfl
        obtain ⟨s7, e7, p7⟩ := put (zs := [.int pl, .ref p, .bl (true), .int (cm + 1), .int (bx + (if decide (V.str (pW po) = V.str "outbox") = true then 1 else 0)), .int hl, .int ps, .int fl, .int ls]) s6 e6 p6
        refine ⟨_, rfl, rfl, _, rfl, iteF' (by decide +kernel) ?_⟩
        refine ⟨_, rfl, rfl, _, rfl, iteF' (by decide +kernel) ?_⟩
        exact ⟨_, rfl, l, _, rfl, .inl ⟨SqL.of e7, fun q nq => fin (y := ⟨pl, rs, true, cm + 1, bif Nat.beq po 0 then bx + 1 else bx, hl, ps, fl, ls⟩) s7 e7 p7 hlist rfl rfl q nq⟩⟩
      | false =>
        refine iteF ⟨_, rfl, r, _, 1, _, rfl, rfl, rr s3, rfl, rfl, ?_⟩
        rw [hk0]
        refine ⟨sz (by simp), fun t4 G4 n4 s4' e4' => ?_⟩
        have s4 := s3.trans s4'
        have e4 := s4' _ _ e3
        have p4 := s4' _ _ p3
        refine ⟨t4, _, rfl, SqT.of e4', rfl, _, _, rfl, _, rfl, l, _, 3, 3, rfl, rfl, e4, rfl, ?_⟩
        obtain ⟨s5, e5, p5⟩ := put (zs := [.int pl, .ref p, .bl false, .int (cm + 1), .int bx, .int hl, .int ps, .int fl, .int ls]) s4 e4 p4
        refine ⟨_, _, rfl, _, rfl, l, _, 2, 2, rfl, rfl, e5, rfl, rfl, ?_⟩
        obtain ⟨s6, e6, p6⟩ := put (zs := [.int pl, .ref p, .bl (Nat.beq ke 0), .int (cm + 1), .int bx, .int hl, .int ps, .int fl, .int ls]) s5 e5 p5
        refine ⟨_, rfl, t, _, 4, _, rfl, rfl, rd s6, rfl, _, rfl, r, _, 0, _, rfl, rfl, rr s6, rfl, rfl, .inr ⟨_, rfl, _, _, rfl, rfl, ?_⟩⟩
        refine ⟨_, rfl, l, _, 4, 4, rfl, rfl, e6, rfl, ?_⟩
        have hlist : ([.int pl, .ref p, .bl (Nat.beq ke 0), .int (cm + 1), .int (bx + (if decide (V.str (pW po) = V.str "outbox") = true then 1 else 0)), .int hl, .int ps, .int fl, .int ls] : List V) = stV p ⟨pl, rs, Nat.beq ke 0, cm + 1, bif Nat.beq po 0 then bx + 1 else bx, hl, ps, fl, ls⟩ := by rw [hb]; rfl
        obtain ⟨s7, e7, p7⟩ := put (zs := [.int pl, .ref p, .bl (Nat.beq ke 0), .int (cm + 1), .int (bx + (if decide (V.str (pW po) = V.str "outbox") = true then 1 else 0)), .int hl, .int ps, .int fl, .int ls]) s6 e6 p6
        refine ⟨_, rfl, rfl, _, rfl, iteF' (by decide +kernel) ?_⟩
        refine ⟨_, rfl, rfl, _, rfl, iteF' (by decide +kernel) ?_⟩
        exact ⟨_, rfl, l, _, rfl, .inl ⟨SqL.of e7, fun q nq => fin (y := ⟨pl, rs, Nat.beq ke 0, cm + 1, bif Nat.beq po 0 then bx + 1 else bx, hl, ps, fl, ls⟩) s7 e7 p7 hlist rfl rfl q nq⟩⟩
    · refine ⟨_, rfl, rfl, _, rfl, iteF' (by decide +kernel) ?_⟩
      refine ⟨_, rfl, rfl, _, rfl, iteF' (by decide +kernel) ?_⟩
      refine ⟨_, rfl, rfl, _, rfl, iteT' (by decide +kernel) ?_⟩
      refine ⟨_, rfl, t, _, 6, _, rfl, rfl, rd s3, rfl, _, _, rfl, rfl, ?_⟩
      refine ⟨_, rfl, l, _, 6, 6, rfl, rfl, e3, rfl, ?_⟩
      obtain ⟨s4, e4, p4⟩ := put (zs := stV p ⟨pl, rs, nt, cm, bx, hl, ps + 1, fl, ls⟩) s3 e3 p3
      refine ⟨_, rfl, rfl, _, rfl, iteF' (by decide +kernel) ?_⟩
      exact ⟨_, rfl, l, _, rfl, .inl ⟨SqL.of e4, fun q nq => fin (y := ⟨pl, rs, nt, cm, bx, hl, ps + 1, fl, ls⟩) s4 e4 p4 rfl rfl rfl q nq⟩⟩
    · refine ⟨_, rfl, rfl, _, rfl, iteF' (by decide +kernel) ?_⟩
      refine ⟨_, rfl, rfl, _, rfl, iteF' (by decide +kernel) ?_⟩
      refine ⟨_, rfl, rfl, _, rfl, iteF' (by decide +kernel) ?_⟩
      refine ⟨_, rfl, rfl, _, rfl, iteT' (by decide +kernel) ?_⟩
      refine ⟨_, rfl, l, _, 2, 2, rfl, rfl, e3, rfl, ?_⟩
      obtain ⟨s4, e4, p4⟩ := put (zs := stV p ⟨pl, rs, true, cm, bx, hl, ps, fl, ls⟩) s3 e3 p3
      exact ⟨_, rfl, l, _, rfl, .inl ⟨SqL.of e4, fun q nq => fin (y := ⟨pl, rs, true, cm, bx, hl, ps, fl, ls⟩) s4 e4 p4 rfl rfl rfl q nq⟩⟩
end
end K69

set_option Elab.async false
set_option linter.all false
set_option maxRecDepth 100000
set_option maxHeartbeats 4000000
/-! A dict whose keys are nested tuples, each worth True. -/
namespace DkN
open PySem PySem.Spec L2
mutual
/-- the value is this key, as the abstract heap tells -/
inductive VIs (H : Hp) : NestedKey → V → Prop
  | bl (b : Bool) : VIs H (.num (if b = true then 1 else 0)) (.bl b)
  | int (i : Int) : VIs H (.num i) (.int i)
  | str (x : Str) : VIs H (.text x) (.str x)
  | tup {a : Addr} {ks : List NestedKey} {xs : List V} : H a = some (.tup xs) → VAll H ks xs → VIs H (.tup ks) (.ref a)
inductive VAll (H : Hp) : List NestedKey → List V → Prop
  | nil : VAll H [] []
  | cons {k v ks vs} : VIs H k v → VAll H ks vs → VAll H (k :: ks) (v :: vs)
end
section
variable {P : Program} {w : World} {H : Hp} {h : Heap}
mutual
theorem nested_of (ok : HOk P w H h) : ∀ {k : NestedKey} {v : V} {u : Value}, VIs H k v → RelV v u → NestedIs h k u
  | _, _, u, .bl b, r => by
    obtain rfl : u = Value.bool b := r
    exact .bool rfl
  | _, _, u, .int i, r => by
    obtain ⟨t, rfl⟩ := r
    exact .int i t
  | _, _, u, .str x, r => by
    obtain ⟨t, rfl⟩ := r
    exact .text x t
  | _, _, u, .tup (a := a) e vs, r => by
    obtain rfl : u = Value.ref a := r
    obtain ⟨_, its, rv, o, h1, h2, n, h3⟩ := (show ObjOk P w H h a _ from ok a _ e)
    exact .tup h1 h2 h3 (by simpa using nested_all ok vs rv)
theorem nested_all (ok : HOk P w H h) : ∀ {ks : List NestedKey} {vs : List V} {us : List Value}, VAll H ks vs → Vals vs us → NestedAll h ks us
  | _, _, _, .nil, .nil => .nil
  | _, _, _, .cons a r, .cons b s => .cons (nested_of ok a b) (nested_all ok r s)
end
end
mutual
theorem VIs.same {H G : Hp} (s : ∀ b o, H b = some o → G b = some o) : ∀ {k : NestedKey} {v : V}, VIs H k v → VIs G k v
  | _, _, .bl b => .bl b
  | _, _, .int i => .int i
  | _, _, .str x => .str x
  | _, _, .tup e vs => .tup (s _ _ e) (VAll.same s vs)
theorem VAll.same {H G : Hp} (s : ∀ b o, H b = some o → G b = some o) : ∀ {ks : List NestedKey} {vs : List V}, VAll H ks vs → VAll G ks vs
  | _, _, .nil => .nil
  | _, _, .cons a r => .cons (VIs.same s a) (VAll.same s r)
end
mutual
theorem VIs.tups {H G : Hp} (s : ∀ b xs, H b = some (.tup xs) → G b = some (.tup xs)) : ∀ {k : NestedKey} {v : V}, VIs H k v → VIs G k v
  | _, _, .bl b => .bl b
  | _, _, .int i => .int i
  | _, _, .str x => .str x
  | _, _, .tup e vs => .tup (s _ _ e) (VAll.tups s vs)
theorem VAll.tups {H G : Hp} (s : ∀ b xs, H b = some (.tup xs) → G b = some (.tup xs)) : ∀ {ks : List NestedKey} {vs : List V}, VAll H ks vs → VAll G ks vs
  | _, _, .nil => .nil
  | _, _, .cons a r => .cons (VIs.tups s a) (VAll.tups s r)
end
abbrev Ent := NestedKey × Addr × Value
/-- the dict at d, its entries in order -/
def NK (P : Program) (w : World) (d : Addr) (xs : List Ent) : HO := .ext fun h => (d == sysModules) = false ∧ ∃ o es ep, h.get? d = some o ∧ o.ExactDict ∧ o.data = .dict es ep ∧ es.toList = xs.map (entryOfKey (nestedKind P w)) ∧ (xs.map (·.1)).Nodup
/-- all keys stand -/
def Keys (H : Hp) (xs : List Ent) : Prop := ∀ x ∈ xs, VIs H x.1 (.ref x.2.1) ∧ x.1.depth ≤ 8
theorem Keys.tups {H G : Hp} {xs : List Ent} (s : ∀ b ys, H b = some (.tup ys) → G b = some (.tup ys)) (k : Keys H xs) : Keys G xs := fun x m => ⟨(k x m).1.tups s, (k x m).2⟩
section
variable {P : Program} {w : World} {H : Hp} {h : Heap} {d : Addr} {xs : List Ent}
theorem nk_of (ok : HOk P w H h) (e : H d = some (NK P w d xs)) (k : Keys H xs) : (d == sysModules) = false ∧ h.DictOfH (nestedKind P w) d xs := by
  obtain ⟨⟨hd, o, es, ep, h1, h2, h3, h4, h5⟩, _⟩ := (show ObjOk P w H h d (NK P w d xs) from ok d _ e)
  exact ⟨hd, o, es, ep, h1, h2, h3, h4, fun x m => ⟨nested_of ok (k x m).1 rfl, (k x m).2⟩, h5⟩
theorem nk_new (hd : (d == sysModules) = false) (dd : h.DictOfH (nestedKind P w) d xs) : ObjOk P w H h d (NK P w d xs) := by
  obtain ⟨o, es, ep, h1, h2, h3, h4, _, h5⟩ := dd
  refine ⟨⟨hd, o, es, ep, h1, h2, h3, h4, h5⟩, ⟨o, h1⟩, fun a b ⟨x, o, es, ep, y1, y2⟩ k => ⟨x, o, es, ep, k _ y1, y2⟩⟩
end
/-- {} -/
def tNNew (P : Program) (w : World) : TE := fun _ H Q => ∀ p, H p = none → Q (.ref p) (upd H p (NK P w p []))
theorem pe_nnew {X : Cx} {pos : Pos} : PE X (.Dict [] [] pos) (tNNew X.prog X.w) := ⟨fun pins s σ H Q I h =>
  wpAny_Dict_empty ⟨.ref s.heap.objs.size, _, I.laid (a := s.heap.objs.size) (o := NK X.prog X.w s.heap.objs.size []) (t' := s.toks) (fun _ _ q => Heap.get?_push_of_some _ q) (Nat.le_refl _)
    (nk_new (beq_eq_false_iff_ne.mpr (Ne.symm (Nat.ne_of_lt I.big))) (Heap.DictOfH.new s.heap)), rfl, h _ (I.hok.fresh (Nat.le_refl _))⟩⟩
/-- y not in d -/
def tNNotIn (P : Program) (w : World) (ty td : TE) : TE := fun σ H Q => ty σ H fun y H1 => td σ H1 fun x H2 => ∃ a b k xs, x = .ref a ∧ y = .ref b ∧ H2 a = some (NK P w a xs) ∧ Keys H2 xs ∧ VIs H2 k (.ref b) ∧ k.depth ≤ 8 ∧ Q (.bl (!(atKey xs k).isSome)) H2
/-- d[y] = True, y not in d -/
def sNPut (P : Program) (w : World) (td ty tv : TE) : TS := fun D σ H => tv σ H fun v H1 => td σ H1 fun x H2 => ty σ H2 fun y H3 => ∃ a b k xs, x = .ref a ∧ y = .ref b ∧ v = .bl true ∧ H3 a = some (NK P w a xs) ∧ Keys H3 xs ∧ VIs H3 k (.ref b) ∧ k.depth ≤ 8 ∧ atKey xs k = none ∧ xs.length ≤ sizeLine ∧
  D.nx σ (upd H3 a (NK P w a (xs ++ [(k, b, .bool true)])))
section
variable {X : Cx} {o i value : Expr} {pos pos' : Pos} {td ty tv : TE}
theorem pc_nnotin (hu : X.A.units + 64 < cLine) (hi : PE X i ty) (ho : PE X o td) : PC X .NotIn i o (tNNotIn X.prog X.w ty td) := by
  refine ⟨fun pins s σ H Q I h => ?_⟩
  refine thn (hi.run pins s σ H _ I h) fun iv s1 ⟨y, H1, I1, ry, q1⟩ => thn (ho.run pins s1 σ H1 _ I1 q1) fun u s2 ⟨x, H2, I2, rx, a, b, k, xs, ex, ey, e, ks, vk, dk, q2⟩ => ?_
  subst ex
  subst ey
  obtain rfl : u = Value.ref a := rx
  obtain rfl : iv = Value.ref b := ry
  obtain ⟨hd, dd⟩ := nk_of I2.hok e ks
  exact PyProof.Rows.wpAny_notIn_heap (knd := nestedKind X.prog X.w) (show X.A.in1.units + 8 < cLine by show X.A.units + 1 + 8 < cLine; omega) ⟨nested_of I2.hok vk rfl, dk⟩ hd dd ⟨.bl (!(atKey xs k).isSome), H2, I2.tok _, rfl, q2⟩
theorem ps_nput (hu : X.A.units + 64 < cLine) (ho : PE X o td) (hi : PE X i ty) (hv : PE X value tv) (hs : swapsWith value (some (.Subscript o i pos')) pos.line X.env = pure false) :
    PS X (.Assign [.Subscript o i pos'] value pos) (sNPut X.prog X.w td ty tv) := by
  refine ⟨fun pins s σ H D I h => ?_⟩
  refine wpAny_Assign_Subscript (thn (hv.run pins s σ H _ I h) fun r s1 ⟨v, H1, I1, rv, q1⟩ => thn (ho.run pins s1 σ H1 _ I1 q1) fun u s2 ⟨x, H2, I2, rx, q2⟩ => thn (hi.run pins s2 σ H2 _ I2 q2) fun iv s3 ⟨y, H3, I3, ry, a, b, k, xs, ex, ey, ev, e, ks, vk, dk, no, lz, q3⟩ => ?_) hs
  subst ex
  subst ey
  subst ev
  obtain rfl : u = Value.ref a := rx
  obtain rfl : iv = Value.ref b := ry
  obtain rfl : r = Value.bool true := rv
  obtain ⟨hd, dd⟩ := nk_of I3.hok e ks
  refine wpAny_setItem_heap (hsz := lz) (knd := nestedKind X.prog X.w) (show X.A.in1.units + 8 < cLine by show X.A.units + 1 + 8 < cLine; omega) ⟨nested_of I3.hok vk rfl, dk⟩ dd fun h' dd' hs' => ?_
  rw [storedH_new no] at dd'
  have he : ∃ q, h'.get? a = some q := let ⟨q, _, _, hq, _⟩ := dd'; ⟨q, hq⟩
  exact ⟨σ, _, d_write I3 (by rw [e]; exact True.intro) hs' he (nk_new hd dd'), q3⟩
end
end DkN

set_option Elab.async false
set_option linter.all false
set_option maxRecDepth 100000
set_option maxHeartbeats 8000000
namespace K69
open PySem L2 Pen RG KEq W8
theorem afterA {C T I : Hp → Prop} (h : (∀ G, I G → C G) → ∀ G, I G → T G) (k : ∀ G, I G → C G) : ∀ G, I G → T G := h k
/-- a if c else b, as a test -/
def tIfT (t ta tb : TT) : TT := fun σ H Q => t σ H fun c H1 => if c = true then ta σ H1 Q else tb σ H1 Q
theorem pw_ifE {X : Cx} {c a b : Expr} {pos : Pos} {t ta tb : TT} (hc : PT X c t) (ha : PT X a ta) (hb : PT X b tb) : PW X (.IfExp c a b pos) (tIfT t ta tb) := by
  refine ⟨fun wh pins s σ H Q I h => ?_⟩
  refine PyProof.Rows.isTrue_IfExp (thn (hc.run pins s σ H _ I h) fun d s1 ⟨H1, I1, q1⟩ => ?_)
  cases d with
  | true => exact ha.run pins s1 σ H1 Q I1 q1
  | false => exact hb.run pins s1 σ H1 Q I1 q1
/-- both ways of an if go on alike -/
theorem afterP {C I : Hp → Prop} {Q : Prop} (h : (∀ G, I G → C G) → Q) (k : ∀ G, I G → C G) : Q := h k
theorem beq1 (n : Nat) : decide (V.int (n : Int) = V.int 1) = Nat.beq n 1 := by
  match n with
  | 0 => decide
  | 1 => decide
  | m + 2 =>
    have : Nat.beq (m + 2) 1 = false := rfl
    rw [this]
    exact decide_eq_false fun e => by
      have := V.int.inj e
      omega
theorem beq0 (n : Nat) : decide (V.int (n : Int) = V.int 0) = Nat.beq n 0 := by
  cases n with
  | zero => decide
  | succ m =>
    have : Nat.beq (m + 1) 0 = false := rfl
    rw [this]
    exact decide_eq_false fun e => by
      have := V.int.inj e
      omega
theorem blt0 (n : Nat) : decide ((0 : Int) < n) = Nat.blt 0 n := by
  cases n with
  | zero => decide
  | succ m =>
    have : Nat.blt 0 (m + 1) = true := by simp [Nat.blt]
    rw [this]
    exact decide_eq_true (by omega)
theorem bltN (a b : Nat) : decide ((a : Int) < b) = Nat.blt a b := by
  by_cases h : a < b
  · have : Nat.blt a b = true := Nat.ble_eq_true_of_le (by omega)
    rw [this]
    exact decide_eq_true (by omega)
  · have : Nat.blt a b = false := by
      cases hh : Nat.blt a b with
      | false => rfl
      | true => exact absurd (Nat.le_of_ble_eq_true hh) (by omega)
    rw [this]
    exact decide_eq_false (by omega)
def hdD (hd : List Nat) : List PyData := hd.map fun d => .str (dW d)
theorem strOk_dW (d : Nat) : PyData.strOk (dW d) = true := by
  match d with
  | 0 | 1 | 2 => decide +kernel
  | n + 3 => exact show PyData.strOk "note" = true by decide +kernel
theorem shaped_hd (hd : List Nat) : SeqAt.shaped (.tuple (hdD hd)) = true := by
  have a : PyData.canLayAll0 (hdD hd) = true := by
    induction hd with
    | nil => rfl
    | cons d r ih =>
      show PyData.canLayAll0 (.str (dW d) :: hdD r) = true
      simp [PyData.canLayAll0, PyData.canLay0, strOk_dW, ih]
  have b : PyData.depthAll (hdD hd) = 0 := by
    clear a
    induction hd with
    | nil => rfl
    | cons d r ih =>
      show max 0 (PyData.depthAll (hdD r)) = 0
      rw [ih]
      rfl
  unfold SeqAt.shaped
  rw [Bool.and_eq_true]
  refine ⟨by simp [PyData.canLay0, a], decide_eq_true ?_⟩
  show PyData.depthAll (hdD hd) + 1 ≤ 64
  rw [b]
  decide
theorem dp_hd {K : PySem.W.Frag} {H : Hp} {h : Addr} {hd : List Nat} (e : H h = some (.tup (hdV hd))) : Dp K H (.ref h) (.tuple (hdD hd)) := by
  refine .tup (SqT.of e) ?_
  clear e
  induction hd with
  | nil => exact .nil
  | cons d r ih => exact .cons (.str _) ih
theorem eqv_nil (hd : List Nat) : PyData.eqv (.tuple (hdD hd)) (.tuple (hdD [])) = hd.isEmpty := by
  cases hd with
  | nil => simp [hdD, PyData.eqv, PyData.eqvAll]
  | cons d r => simp [hdD, PyData.eqv, PyData.eqvAll]
theorem cut_to1 (hd : List Nat) : cutV (hdV hd) none (some 1) = hdV (hd.take 1) := by
  unfold cutV
  rw [HT.sIx_none, show (some (1 : Int)) = some (((1 : Nat) : Int)) from rfl, HT.sIx_nat, List.drop_zero, Nat.sub_zero]
  unfold hdV
  rw [List.length_map, List.map_take]
  cases hd with
  | nil => rfl
  | cons d r => rw [Nat.min_eq_left (by rw [List.length_cons]; omega)]
theorem eqv_post {hd : List Nat} (h : ∀ d ∈ hd, d < 4) : PyData.eqv (.tuple (hdD (hd.take 1))) (.tuple (hdD [2])) = isPost hd := by
  cases hd with
  | nil => simp [hdD, PyData.eqv, PyData.eqvAll, isPost]
  | cons d r =>
    have d4 := h d List.mem_cons_self
    rcases (by omega : d = 0 ∨ d = 1 ∨ d = 2 ∨ d = 3) with rfl | rfl | rfl | rfl <;> (simp only [hdD, List.take_succ_cons, List.take_zero, List.map_cons, List.map_nil, isPost]; decide +kernel)
abbrev SA (G : Hp) (x : Sm) (t : Addr) : Prop := StA G t x
theorem StA.updL {G : Hp} {l t : Addr} {xs ys : List V} {x : Sm} (e : G l = some (.lst xs)) (a : StA G t x) : StA (upd G l (.lst ys)) t x := by
  obtain ⟨h, a, b⟩ := a
  exact ⟨h, (upd_ne (ne_of a e (by intro z; cases z))).trans a, (upd_ne (ne_of b e (by intro z; cases z))).trans b⟩
theorem sts_updL {G : Hp} {l : Addr} {xs ys : List V} (e : G l = some (.lst xs)) : ∀ {L : List Sm} {ts : List Addr}, Paired (SA G) L ts → Paired (SA (upd G l (.lst ys))) L ts
  | _, _, .nil => .nil
  | _, _, .cons a r => .cons (a.updL e) (sts_updL e r)
theorem sts_same {H G : Hp} (s : Same H G) : ∀ {L : List Sm} {ts : List Addr}, Paired (SA H) L ts → Paired (SA G) L ts
  | _, _, .nil => .nil
  | _, _, .cons a r => .cons (a.same s) (sts_same s r)
theorem paired_app {α β : Type} {F : α → β → Prop} : ∀ {xs : List α} {ys : List β}, Paired F xs ys → ∀ {us : List α} {vs : List β}, Paired F us vs → Paired F (xs ++ us) (ys ++ vs)
  | _, _, .nil, _, _, q => q
  | _, _, .cons a r, _, _, q => .cons a (paired_app r q)
/-- what stands while the moves are found: those so far at l -/
structure Fnd (H : Hp) (l ti : Addr) (ins : List V) (pre : List Sm) (n : Nat) (G : Hp) : Prop where
  s : Same H G
  i : G ti = some (.tup ins)
  f : ∃ ts : List Addr, G l = some (.lst (ts.map V.ref)) ∧ Paired (SA G) pre ts ∧ ts.length ≤ n
theorem Fnd.same {H G G' : Hp} {l ti : Addr} {ins : List V} {pre : List Sm} {n : Nat} (a : Fnd H l ti ins pre n G) (s : Same G G') : Fnd H l ti ins pre n G' := by
  obtain ⟨s0, i, ts, e, p, n⟩ := a
  exact ⟨s0.trans s, s _ _ i, ts, s _ _ e, sts_same s p, n⟩
theorem Fnd.nilE {H G : Hp} {l ti : Addr} {ins : List V} {pre more : List Sm} {n : Nat} (a : Fnd H l ti ins pre n G) (e : more = []) : Fnd H l ti ins (pre ++ more) (n + 1) G := by
  rw [e, List.append_nil]
  obtain ⟨s0, i, ts, e, p, n⟩ := a
  exact ⟨s0, i, ts, e, p, by omega⟩
theorem Fnd.put {H G : Hp} {l ti : Addr} {ins : List V} {pre more : List Sm} {n : Nat} {ts : List Addr} {t : Addr} {x : Sm} (nl : H l = none) (s : Same H G) (i : G ti = some (.tup ins)) (e : G l = some (.lst (ts.map V.ref))) (p : Paired (SA G) pre ts) (n9 : ts.length ≤ n) (hm : more = [x]) (q : StA G t x) : Fnd H l ti ins (pre ++ more) (n + 1) (upd G l (.lst (ts.map V.ref ++ [.ref t]))) := by
  rw [hm]
  exact ⟨same_updN nl s, (upd_ne (ne_of i e (by intro z; cases z))).trans i, ts ++ [t], by rw [upd_same, List.map_append]; rfl, sts_updL e (paired_app p (.cons q .nil)), by rw [List.length_append]; show ts.length + 1 ≤ n + 1; omega⟩
theorem ps_imp {X : Cx} {st : Stmt} {t t' : TS} (h : PS X st t) (i : ∀ D σ H, t' D σ H → t D σ H) : PS X st t' := ⟨fun pins s σ H D I q => h.run pins s σ H D I (i D σ H q)⟩
theorem iteQ {Q : V → Prop} {a b : V} (e : a = b) (h : Q b) : Q a := e ▸ h
theorem iteB {b c : Bool} {A B : Prop} (e : b = c) (h : if c = true then A else B) : if b = true then A else B := by rw [e]; exact h
theorem iteC {b : Bool} {A B C : Prop} (hA : b = true → C → A) (hB : b = false → C → B) (c : C) : if b = true then A else B := by
  cases b with
  | true => rw [if_pos rfl]; exact hA rfl c
  | false => rw [if_neg (by simp)]; exact hB rfl c
def p4 (po ke : Nat) (an : Bool) (many : Nat) (x : Sm) : List Sm := match x.hd with
  | [] => bif Nat.blt x.pl many then [{ x with hd := todo po ke an x.nt }] else []
  | _ :: _ => []
def p5 (po ke : Nat) (x : Sm) : List Sm := match x.hd with
  | [] => []
  | d :: r => [worked po ke x d r]
def p7 (ma : Bool) (x : Sm) : List Sm := bif ready ma x.bx x.hl then [{ x with hl := 1 - x.hl, ps := x.ps + 1 }] else []
def p8 (ma : Bool) (x : Sm) : List Sm := bif cond2 ma x.bx x.hl then [{ x with bx := x.bx - 1, hl := 1 - x.hl }] else []
def p9 (ma : Bool) (x : Sm) : List Sm := bif Nat.blt 0 x.ls && (ready ma x.bx x.hl || isPost x.hd) then [{ x with ps := x.ps + 1, ls := x.ls - 1 }] else []
def p10 (x : Sm) : List Sm := bif Nat.blt 0 x.fl && (!x.hd.isEmpty || Nat.beq x.hl 1) then [{ x with hd := [], hl := 0, fl := x.fl - 1 }] else []
theorem p45 (po ke : Nat) (an : Bool) (many : Nat) (x : Sm) : mv1 po ke an many x = p4 po ke an many x ++ p5 po ke x := by
  unfold mv1 p4 p5
  cases x.hd with
  | nil => simp
  | cons d r => rfl
/-- an if that adds what it finds: q more, where p stand -/
def sAdd (H : Hp) (S : Addr → Addr → L2.St) (ins : List V) (p q : List Sm) (n : Nat) : TS := fun D σ G => ∃ l ti : Addr, σ = S l ti ∧ H l = none ∧ Fnd H l ti ins p n G ∧ ∀ G', Fnd H l ti ins (p ++ q) (n + 1) G' → D.nx (S l ti) G'
def spMv (K : PySem.W.Frag) : Sp := fun vs H Q _ => ∃ (r t : Addr) (po ke : Nat) (an ma : Bool) (many : Nat) (x : Sm), vs = [.ref r, .int many, .ref t] ∧ po < 3 ∧ ke < 3 ∧ SqT K H r (rdV po ke an ma) ∧ StA H t x ∧ (∀ d ∈ x.hd, d < 4) ∧ x.hl ≤ 1 ∧ (ma = false → x.hl = 1 → 1 ≤ x.bx) ∧
  ∀ (l : Addr) (ts : List Addr) (H' : Hp), H l = none → Same H H' → H' l = some (.lst (ts.map V.ref)) → Paired (SA H') (moves po ke an ma many x) ts → Q (.ref l) H'
section
variable {P : Program} {w : World} {K : PySem.W.Frag} {mg : Str → Option Value} {base : Heap}
theorem scMv : FnScope ["_law_road", "_law_many", "_law_now", "_law_place", "_law_hand", "_law_is_noted", "_law_commits", "_law_boxed", "_law_held", "_law_posts", "_law_falls", "_law_lost", "_law_found", "_law_is_ahead", "_law_inside", "_law_is_ready"] ["_law_road", "_law_many", "_law_now"] (defScope sMv) := ⟨rfl, rfl, rfl, by decide +kernel, rfl, by decide +kernel, by decide +kernel⟩

theorem ok_mv {f fTd fWk : Addr} {fd dTd dWk : FuncData} (F : Fun K "_law_moves" "_law_moves" sMv f fd) (T : Txt mg)
    (GTd : FnOk P w K mg base CX0 1 fTd dTd ["_law_road", "_law_is_noted"] (spTodo K)) (TTd : DefT K mg "_law_todo" fTd) (bTd : Binds K dTd ["_law_road", "_law_is_noted"] [])
    (GWk : FnOk P w K mg base CX0 1 fWk dWk ["_law_road", "_law_now"] (spWkd K)) (TWk : DefT K mg "_law_worked" fWk) (bWk : Binds K dWk ["_law_road", "_law_now"] []) : FnOk P w K mg base CX0 2 f fd ["_law_road", "_law_many", "_law_now"] (spMv K) := by
  refine F.ok scMv (fun vs H Q E h => ?_) (fun cdv A outer s H vs Q E hr h => ?_)
  · obtain ⟨r, t, po, ke, an, ma, many, x, rfl, _⟩ := h
    rfl
  · obtain ⟨r, t, po, ke, an, ma, many, ⟨pl, hd, nt, cm, bx, hl, ps, fl, ls⟩, rfl, hp, hk, hR, ⟨h, et, eh⟩, h4, hl1, hbx, kQ⟩ := h
    have hu := hu_of hr
    have eh : H h = some (.tup (hdV hd)) := eh
    have hl1 : hl ≤ 1 := hl1
    have hbx : ma = false → hl = 1 → 1 ≤ bx := hbx
    refine ⟨_, (pss_cons (ps_asg (pe_slice sl_tupA (pv 2) po_none (po_some pe_int)) (pg_tup (by rfl) (pgs_cons (pg_name (i := 3) scMv.nd rfl (Or.inl rfl)) (pgs_cons (pg_name (i := 4) scMv.nd rfl (Or.inl rfl)) (pgs_cons (pg_name (i := 5) scMv.nd rfl (Or.inl rfl)) (pgs_cons (pg_name (i := 6) scMv.nd rfl (Or.inl rfl)) pgs_nil))))))
      (pss_cons (ps_asg (pe_slice sl_tupA (pv 2) (po_some pe_int) po_none) (pg_tup (by rfl) (pgs_cons (pg_name (i := 7) scMv.nd rfl (Or.inl rfl)) (pgs_cons (pg_name (i := 8) scMv.nd rfl (Or.inl rfl)) (pgs_cons (pg_name (i := 9) scMv.nd rfl (Or.inl rfl)) (pgs_cons (pg_name (i := 10) scMv.nd rfl (Or.inl rfl)) (pgs_cons (pg_name (i := 11) scMv.nd rfl (Or.inl rfl)) pgs_nil)))))))
      (pss_cons (ps_par3 (i := 12) (j := 13) (l := 14) (by rfl) scMv.nd rfl rfl rfl (by decide) (by decide) (by decide) rfl rfl rfl (pa_cons (Ab.pe_lstA pa_nil) (pa_cons (pe_cmpR op_eq (pe_ix ix_tup (pv 0) pe_int (fun _ _ => rfl)) pe_str (nomark _)) (pa_cons (Ab.pe_tupA (pa_cons (pv 3) (pa_cons (pv 4) (pa_cons (pv 5) (pa_cons (pv 6) pa_nil))))) pa_nil))) (by rfl))
      (pss_cons (ps_imp (t' := sAdd H (fun l ti => [some (.ref r), some (.int many), some (.ref t), some (.int pl), some (.ref h), some (.bl nt), some (.int cm), some (.int bx), some (.int hl), some (.int ps), some (.int fl), some (.int ls), some (.ref l), some (.bl ma), some (.ref ti), none]) [.int pl, .ref h, .bl nt, .int cm] [] (p4 po ke an many ⟨pl, hd, nt, cm, bx, hl, ps, fl, ls⟩) 0) (ps_if (PW.pt (pw_and (pt_cmpR (op_eqD hr.units) (pv 4) (Ab.pe_tupA pa_nil) (nomark _)) (pw_and1 (pt_cmpR op_lt (pv 3) (pv 1) (nomark _))))) (pss_one (ps_expr (pe_bm PySem.F.plainAttrs_list PySem.F.slot_list_append PySem.F.type_list_append mt_append (pv 12) (pa_cons (pe_op L2.op_catA (Ab.pe_tupA (pa_cons (pv 3) (pa_cons (pe_call GTd (hr.mono (by decide)) rfl TTd.mg TTd.kp bTd .nil pass0 (pa_cons (pv 0) (pa_cons (pv 5) pa_nil))) pa_nil))) (pe_slice sl_tupA (pv 2) (po_some pe_int) po_none)) pa_nil)))) pss_nil) ?i3)
      (pss_cons (ps_imp (t' := sAdd H (fun l ti => [some (.ref r), some (.int many), some (.ref t), some (.int pl), some (.ref h), some (.bl nt), some (.int cm), some (.int bx), some (.int hl), some (.int ps), some (.int fl), some (.int ls), some (.ref l), some (.bl ma), some (.ref ti), none]) [.int pl, .ref h, .bl nt, .int cm] ([] ++ (p4 po ke an many ⟨pl, hd, nt, cm, bx, hl, ps, fl, ls⟩)) (p5 po ke ⟨pl, hd, nt, cm, bx, hl, ps, fl, ls⟩) 1) (ps_if (pt_cmpR (op_neD hr.units) (pv 4) (Ab.pe_tupA pa_nil) (nomark _)) (pss_one (ps_expr (pe_bm PySem.F.plainAttrs_list PySem.F.slot_list_append PySem.F.type_list_append mt_append (pv 12) (pa_cons (pe_call GWk (hr.mono (by decide)) rfl TWk.mg TWk.kp bWk .nil pass0 (pa_cons (pv 0) (pa_cons (pv 2) pa_nil))) pa_nil)))) pss_nil) ?i4)
      (pss_cons (ps_set (i := 15) scMv.nd rfl (Or.inl rfl) (pe_ifExp (pt_val (pv 13)) (pe_cmpR op_eq (pv 8) pe_int (nomark _)) (pe_and (pe_cmpR op_eq (pv 8) pe_int (nomark _)) (pe_one (pe_cmpR op_gt (pv 7) pe_int (nomark _))))))
      (pss_cons (ps_imp (t' := sAdd H (fun l ti => [some (.ref r), some (.int many), some (.ref t), some (.int pl), some (.ref h), some (.bl nt), some (.int cm), some (.int bx), some (.int hl), some (.int ps), some (.int fl), some (.int ls), some (.ref l), some (.bl ma), some (.ref ti), some (.bl (ready ma bx hl))]) [.int pl, .ref h, .bl nt, .int cm] (([] ++ (p4 po ke an many ⟨pl, hd, nt, cm, bx, hl, ps, fl, ls⟩)) ++ (p5 po ke ⟨pl, hd, nt, cm, bx, hl, ps, fl, ls⟩)) (p7 ma ⟨pl, hd, nt, cm, bx, hl, ps, fl, ls⟩) 2) (ps_if (pt_val (pv 15)) (pss_one (ps_expr (pe_bm PySem.F.plainAttrs_list PySem.F.slot_list_append PySem.F.type_list_append mt_append (pv 12) (pa_cons (pe_op L2.op_catA (pv 14) (Ab.pe_tupA (pa_cons (pv 7) (pa_cons (pe_op op_sub pe_int (pv 8)) (pa_cons (pe_op op_add (pv 9) pe_int) (pa_cons (pv 10) (pa_cons (pv 11) pa_nil))))))) pa_nil)))) pss_nil) ?i6)
      (pss_cons (ps_imp (t' := sAdd H (fun l ti => [some (.ref r), some (.int many), some (.ref t), some (.int pl), some (.ref h), some (.bl nt), some (.int cm), some (.int bx), some (.int hl), some (.int ps), some (.int fl), some (.int ls), some (.ref l), some (.bl ma), some (.ref ti), some (.bl (ready ma bx hl))]) [.int pl, .ref h, .bl nt, .int cm] ((([] ++ (p4 po ke an many ⟨pl, hd, nt, cm, bx, hl, ps, fl, ls⟩)) ++ (p5 po ke ⟨pl, hd, nt, cm, bx, hl, ps, fl, ls⟩)) ++ (p7 ma ⟨pl, hd, nt, cm, bx, hl, ps, fl, ls⟩)) (p8 ma ⟨pl, hd, nt, cm, bx, hl, ps, fl, ls⟩) 3) (ps_if (PW.pt (pw_ifE (pt_val (pv 13)) (PW.pt (pw_and (pt_cmpR op_eq (pv 8) pe_int (nomark _)) (pw_and1 (pt_cmpR op_gt (pv 7) pe_int (nomark _))))) (pt_cmpR op_eq (pv 8) pe_int (nomark _)))) (pss_one (ps_expr (pe_bm PySem.F.plainAttrs_list PySem.F.slot_list_append PySem.F.type_list_append mt_append (pv 12) (pa_cons (pe_op L2.op_catA (pv 14) (Ab.pe_tupA (pa_cons (pe_op op_sub (pv 7) pe_int) (pa_cons (pe_op op_sub pe_int (pv 8)) (pa_cons (pv 9) (pa_cons (pv 10) (pa_cons (pv 11) pa_nil))))))) pa_nil)))) pss_nil) ?i7)
      (pss_cons (ps_imp (t' := sAdd H (fun l ti => [some (.ref r), some (.int many), some (.ref t), some (.int pl), some (.ref h), some (.bl nt), some (.int cm), some (.int bx), some (.int hl), some (.int ps), some (.int fl), some (.int ls), some (.ref l), some (.bl ma), some (.ref ti), some (.bl (ready ma bx hl))]) [.int pl, .ref h, .bl nt, .int cm] (((([] ++ (p4 po ke an many ⟨pl, hd, nt, cm, bx, hl, ps, fl, ls⟩)) ++ (p5 po ke ⟨pl, hd, nt, cm, bx, hl, ps, fl, ls⟩)) ++ (p7 ma ⟨pl, hd, nt, cm, bx, hl, ps, fl, ls⟩)) ++ (p8 ma ⟨pl, hd, nt, cm, bx, hl, ps, fl, ls⟩)) (p9 ma ⟨pl, hd, nt, cm, bx, hl, ps, fl, ls⟩) 4) (ps_if (PW.pt (pw_and (pt_cmpR op_gt (pv 11) pe_int (nomark _)) (pw_and1 (PW.pt (pw_or (pt_val (pv 15)) (pw_or1 (pt_cmpR (op_eqD hr.units) (pe_slice sl_tupA (pv 4) po_none (po_some pe_int)) (Ab.pe_tupA (pa_cons pe_str pa_nil)) (nomark _)))))))) (pss_one (ps_expr (pe_bm PySem.F.plainAttrs_list PySem.F.slot_list_append PySem.F.type_list_append mt_append (pv 12) (pa_cons (pe_op L2.op_catA (pv 14) (Ab.pe_tupA (pa_cons (pv 7) (pa_cons (pv 8) (pa_cons (pe_op op_add (pv 9) pe_int) (pa_cons (pv 10) (pa_cons (pe_op op_sub (pv 11) pe_int) pa_nil))))))) pa_nil)))) pss_nil) ?i8)
      (pss_cons (ps_imp (t' := sAdd H (fun l ti => [some (.ref r), some (.int many), some (.ref t), some (.int pl), some (.ref h), some (.bl nt), some (.int cm), some (.int bx), some (.int hl), some (.int ps), some (.int fl), some (.int ls), some (.ref l), some (.bl ma), some (.ref ti), some (.bl (ready ma bx hl))]) [.int pl, .ref h, .bl nt, .int cm] ((((([] ++ (p4 po ke an many ⟨pl, hd, nt, cm, bx, hl, ps, fl, ls⟩)) ++ (p5 po ke ⟨pl, hd, nt, cm, bx, hl, ps, fl, ls⟩)) ++ (p7 ma ⟨pl, hd, nt, cm, bx, hl, ps, fl, ls⟩)) ++ (p8 ma ⟨pl, hd, nt, cm, bx, hl, ps, fl, ls⟩)) ++ (p9 ma ⟨pl, hd, nt, cm, bx, hl, ps, fl, ls⟩)) (p10 ⟨pl, hd, nt, cm, bx, hl, ps, fl, ls⟩) 5) (ps_if (PW.pt (pw_and (pt_cmpR op_gt (pv 10) pe_int (nomark _)) (pw_and1 (PW.pt (pw_or (pt_cmpR (op_neD hr.units) (pv 4) (Ab.pe_tupA pa_nil) (nomark _)) (pw_or1 (pt_cmpR op_eq (pv 8) pe_int (nomark _)))))))) (pss_one (ps_expr (pe_bm PySem.F.plainAttrs_list PySem.F.slot_list_append PySem.F.type_list_append mt_append (pv 12) (pa_cons (Ab.pe_tupA (pa_cons (pv 3) (pa_cons (Ab.pe_tupA pa_nil) (pa_cons (pv 5) (pa_cons (pv 6) (pa_cons (pv 7) (pa_cons pe_int (pa_cons (pv 9) (pa_cons (pe_op op_sub (pv 10) pe_int) (pa_cons (pv 11) pa_nil)))))))))) pa_nil)))) pss_nil) ?i9)
      (pss_one (ps_ret (pv 12))))))))))))), ?main⟩
    case i3 =>
      rintro D σ G4 ⟨l, ti, rfl, nl, f0, k⟩
      refine ⟨_, rfl, sz (by simp), fun te Ge ne se ee => ?_⟩
      have f1 := f0.same se
      refine ⟨.tuple (hdD hd), .tuple (hdD []), dp_hd (f1.s _ _ eh), dp_hd (hd := []) ee, shaped_hd hd, shaped_hd [], _, rfl, ?_⟩
      rw [eqv_nil]
      cases hd with
      | cons d rs => exact iteF (iteF (k _ (f1.nilE rfl)))
      | nil =>
        refine iteT ⟨_, rfl, _, rfl, _, _, rfl, rfl, _, rfl, ?_⟩
        rw [bltN]
        by_cases c : Nat.blt pl many = true
        · refine iteT' c ?_
          obtain ⟨sA, iA, ts, eL, pp, nn⟩ := f1
          refine ⟨_, rfl, .inl ⟨rfl, _, SqL.of eL⟩, _, rfl, _, rfl, _, rfl, r, po, ke, an, ma, nt, rfl, hp, hk, Dat.sqT_same sA hR, fun td Gd sd ed => ⟨sz (by simp), fun tq Gq nq sq eq => ?_⟩⟩
          refine ⟨_, rfl, 2, rfl, t, _, rfl, SqT.of (sq _ _ (sd _ _ (sA _ _ et))), (fun z => absurd z.1 (by show ¬ (HT.sIx 9 0 (some 2) = 0); decide)), fun _ t6 n6 => ?_⟩
          have s6 : Same Gq (upd Gq t6 (.tup (cutV (stV h ⟨pl, [], nt, cm, bx, hl, ps, fl, ls⟩) (some 2) none))) := same_new n6
          refine ⟨tq, t6, _, _, rfl, rfl, SqT.of (s6 _ _ eq), SqT.of upd_same, (Nat.le_trans (show (6 + 3 : Nat) ≤ 99 by decide) (by decide)), (fun z => by cases z), (fun _ z => by cases z), fun _ _ tn nt' => ?_⟩
          have sn := ((sd.trans sq).trans s6).trans (same_new (o := .tup ([V.int pl, V.ref td] ++ cutV (stV h ⟨pl, [], nt, cm, bx, hl, ps, fl, ls⟩) (some 2) none)) nt')
          have aN : StA (upd (upd Gq t6 (.tup (cutV (stV h ⟨pl, [], nt, cm, bx, hl, ps, fl, ls⟩) (some 2) none))) tn (.tup ([V.int pl, V.ref td] ++ cutV (stV h ⟨pl, [], nt, cm, bx, hl, ps, fl, ls⟩) (some 2) none))) tn ⟨pl, todo po ke an nt, nt, cm, bx, hl, ps, fl, ls⟩ :=
            ⟨td, upd_same, (same_new (o := .tup ([V.int pl, V.ref td] ++ cutV (stV h ⟨pl, [], nt, cm, bx, hl, ps, fl, ls⟩) (some 2) none)) nt') _ _ (s6 _ _ (sq _ _ ed))⟩
          generalize upd (upd Gq t6 (.tup (cutV (stV h ⟨pl, [], nt, cm, bx, hl, ps, fl, ls⟩) (some 2) none))) tn (.tup ([V.int pl, V.ref td] ++ cutV (stV h ⟨pl, [], nt, cm, bx, hl, ps, fl, ls⟩) (some 2) none)) = Gn at sn aN ⊢
          refine ⟨l, _, _, rfl, rfl, sn _ _ eL, by rw [List.length_map]; exact Nat.lt_of_le_of_lt (m := 20) (by omega) (by decide), ?_⟩
          exact k _ (Fnd.put nl (sA.trans sn) (sn _ _ iA) (sn _ _ eL) (sts_same sn pp) nn (by show (bif Nat.blt pl many then _ else _) = _; rw [c]; rfl) aN)
        · refine iteF' c ?_
          exact k _ (f1.nilE (by show (bif Nat.blt pl many then _ else _) = _; rw [Bool.not_eq_true] at c; rw [c]; rfl))
    case i4 =>
      rintro D σ G4 ⟨l, ti, rfl, nl, f0, k⟩
      refine ⟨_, rfl, sz (by simp), fun te Ge ne se ee => ?_⟩
      have f1 := f0.same se
      refine ⟨.tuple (hdD hd), .tuple (hdD []), dp_hd (f1.s _ _ eh), dp_hd (hd := []) ee, shaped_hd hd, shaped_hd [], _, rfl, ?_⟩
      rw [eqv_nil]
      cases hd with
      | nil => exact iteF (k _ (f1.nilE rfl))
      | cons d rs =>
        refine iteT ?_
        obtain ⟨sA, iA, ts, eL, pp, nn⟩ := f1
        refine ⟨_, rfl, .inl ⟨rfl, _, SqL.of eL⟩, _, rfl, _, rfl, r, t, po, ke, an, ma, ⟨pl, d :: rs, nt, cm, bx, hl, ps, fl, ls⟩, d, rs, rfl, hp, hk, h4 d List.mem_cons_self, Dat.sqT_same sA hR, ⟨h, sA _ _ et, sA _ _ eh⟩, rfl, fun tw Gw sn aN => ?_⟩
        refine ⟨l, _, _, rfl, rfl, sn _ _ eL, by rw [List.length_map]; exact Nat.lt_of_le_of_lt (m := 20) (by omega) (by decide), ?_⟩
        exact k _ (Fnd.put nl (sA.trans sn) (sn _ _ iA) (sn _ _ eL) (sts_same sn pp) nn rfl aN)
    case i6 =>
      rintro D σ G4 ⟨l, ti, rfl, nl, f1, k⟩
      refine ⟨_, rfl, _, rfl, ?_⟩
      by_cases c : ready ma bx hl = true
      · refine iteT' c ?_
        obtain ⟨sA, iA, ts, eL, pp, nn⟩ := f1
        refine ⟨_, rfl, .inl ⟨rfl, _, SqL.of eL⟩, _, rfl, _, rfl, _, rfl, _, _, rfl, rfl, _, rfl, _, _, rfl, rfl, _, rfl, _, rfl, sz (by simp), fun tq Gq nq sq eq => ?_⟩
        refine ⟨ti, tq, _, _, rfl, rfl, SqT.of (sq _ _ iA), SqT.of eq, (Nat.le_trans (show (4 + 5 : Nat) ≤ 99 by decide) (by decide)), (fun z => by cases z), (fun _ z => by cases z), fun _ _ tn nt' => ?_⟩
        have elst : ([V.int pl, .ref h, .bl nt, .int cm] ++ [V.int bx, .int (1 - hl), .int (ps + 1), .int fl, .int ls] : List V) = stV h ⟨pl, hd, nt, cm, bx, 1 - hl, ps + 1, fl, ls⟩ := by
          simp only [stV, List.cons_append, List.nil_append, List.cons.injEq, V.int.injEq, true_and, and_true]
          omega
        have aN : StA (upd Gq tn (.tup ([V.int pl, .ref h, .bl nt, .int cm] ++ [V.int bx, .int (1 - hl), .int (ps + 1), .int fl, .int ls]))) tn ⟨pl, hd, nt, cm, bx, 1 - hl, ps + 1, fl, ls⟩ := ⟨h, by rw [upd_same, elst], (same_new nt') _ _ (sq _ _ (sA _ _ eh))⟩
        have sn := sq.trans (same_new (o := .tup ([V.int pl, .ref h, .bl nt, .int cm] ++ [V.int bx, .int (1 - hl), .int (ps + 1), .int fl, .int ls])) nt')
        refine ⟨l, _, _, rfl, rfl, sn _ _ eL, by rw [List.length_map]; exact Nat.lt_of_le_of_lt (m := 20) (by omega) (by decide), ?_⟩
        exact k _ (Fnd.put nl (sA.trans sn) (sn _ _ iA) (sn _ _ eL) (sts_same sn pp) nn (by show (bif _ then _ else _) = _; rw [c]; rfl) aN)
      · refine iteF' c ?_
        exact k _ (f1.nilE (by show (bif _ then _ else _) = _; rw [Bool.not_eq_true] at c; rw [c]; rfl))
    case i7 =>
      rintro D σ G4 ⟨l, ti, rfl, nl, f1, k⟩
      refine ⟨_, rfl, _, rfl, ?_⟩
      apply iteC
      · intro hm go
        refine ⟨_, rfl, rfl, _, rfl, ?_⟩
        rw [beq0]
        by_cases c0 : Nat.beq hl 0 = true
        · refine iteT' c0 ⟨_, rfl, _, _, rfl, rfl, _, rfl, ?_⟩
          exact iteB (c := cond2 ma bx hl) ((blt0 bx).trans (by rw [hm]; simp [cond2, c0])) go
        · refine iteF' c0 ?_
          exact iteB (c := cond2 ma bx hl) (by rw [hm]; simp [cond2, c0]) go
      · intro hm go
        refine ⟨_, rfl, rfl, _, rfl, ?_⟩
        exact iteB (c := cond2 ma bx hl) ((beq1 hl).trans (by rw [hm]; simp [cond2])) go
      by_cases c : cond2 ma bx hl = true
      · refine iteT' c ?_
        have hb : 1 ≤ bx := by
          cases ma with
          | true =>
            have c : (Nat.beq hl 0 && Nat.blt 0 bx) = true := c
            rw [Bool.and_eq_true] at c
            exact Nat.le_of_ble_eq_true c.2
          | false =>
            have c : Nat.beq hl 1 = true := c
            exact hbx rfl (Nat.eq_of_beq_eq_true c)
        obtain ⟨sA, iA, ts, eL, pp, nn⟩ := f1
        refine ⟨_, rfl, .inl ⟨rfl, _, SqL.of eL⟩, _, rfl, _, rfl, _, _, rfl, rfl, _, rfl, _, _, rfl, rfl, _, rfl, _, rfl, _, rfl, sz (by simp), fun tq Gq nq sq eq => ?_⟩
        refine ⟨ti, tq, _, _, rfl, rfl, SqT.of (sq _ _ iA), SqT.of eq, (Nat.le_trans (show (4 + 5 : Nat) ≤ 99 by decide) (by decide)), (fun z => by cases z), (fun _ z => by cases z), fun _ _ tn nt' => ?_⟩
        have elst : ([V.int pl, .ref h, .bl nt, .int cm] ++ [V.int (bx - 1), .int (1 - hl), .int ps, .int fl, .int ls] : List V) = stV h ⟨pl, hd, nt, cm, bx - 1, 1 - hl, ps, fl, ls⟩ := by
          simp only [stV, List.cons_append, List.nil_append, List.cons.injEq, V.int.injEq, true_and, and_true]
          omega
        have aN : StA (upd Gq tn (.tup ([V.int pl, .ref h, .bl nt, .int cm] ++ [V.int (bx - 1), .int (1 - hl), .int ps, .int fl, .int ls]))) tn ⟨pl, hd, nt, cm, bx - 1, 1 - hl, ps, fl, ls⟩ := ⟨h, by rw [upd_same, elst], (same_new nt') _ _ (sq _ _ (sA _ _ eh))⟩
        have sn := sq.trans (same_new (o := .tup ([V.int pl, .ref h, .bl nt, .int cm] ++ [V.int (bx - 1), .int (1 - hl), .int ps, .int fl, .int ls])) nt')
        refine ⟨l, _, _, rfl, rfl, sn _ _ eL, by rw [List.length_map]; exact Nat.lt_of_le_of_lt (m := 20) (by omega) (by decide), ?_⟩
        exact k _ (Fnd.put nl (sA.trans sn) (sn _ _ iA) (sn _ _ eL) (sts_same sn pp) nn (by show (bif _ then _ else _) = _; rw [c]; rfl) aN)
      · refine iteF' c ?_
        exact k _ (f1.nilE (by show (bif _ then _ else _) = _; rw [Bool.not_eq_true] at c; rw [c]; rfl))
    case i8 =>
      rintro D σ G4 ⟨l, ti, rfl, nl, f0, k⟩
      revert G4
      apply afterA
      · intro go G4 f0
        refine ⟨_, rfl, _, _, rfl, rfl, _, rfl, ?_⟩
        rw [show decide ((ls : Int) > 0) = Nat.blt 0 ls from blt0 ls]
        by_cases c1 : Nat.blt 0 ls = true
        · refine iteT' c1 ⟨_, rfl, _, rfl, ?_⟩
          by_cases c2 : ready ma bx hl = true
          · refine iteT' c2 ?_
            exact iteB (c := Nat.blt 0 ls && (ready ma bx hl || isPost hd)) (by rw [c1, c2]; rfl) (go _ f0)
          · refine iteF' c2 ?_
            rw [Bool.not_eq_true] at c2
            have cut : cutV (hdV hd) none (some 1) = hdV (hd.take 1) := cut_to1 hd
            refine ⟨_, rfl, 1, rfl, h, _, rfl, SqT.of (f0.s _ _ eh), (fun z => ?_), fun z t6 n6 => ?_⟩
            · have e1 : hd.take 1 = hd := by
                have q := z.2
                rw [show (1 : Int) = ((1 : Nat) : Int) from rfl, HT.sIx_nat] at q
                have q : min 1 (hdV hd).length = (hdV hd).length := q
                rw [hdV, List.length_map] at q
                exact List.take_of_length_le (by omega)
              refine ⟨sz (by simp), fun tp Gp np sp ep => ?_⟩
              refine ⟨.tuple (hdD (hd.take 1)), .tuple (hdD [2]), dp_hd (sp _ _ (by rw [e1]; exact f0.s _ _ eh)), dp_hd ep, shaped_hd _, shaped_hd _, _, rfl, ?_⟩
              rw [eqv_post h4]
              exact iteB (c := Nat.blt 0 ls && (ready ma bx hl || isPost hd)) (by rw [c1, c2]; rfl) (go _ (f0.same sp))
            · rw [cut]
              have s6 := same_new (o := .tup (hdV (hd.take 1))) n6
              refine ⟨sz (by simp), fun tp Gp np sp ep => ?_⟩
              refine ⟨.tuple (hdD (hd.take 1)), .tuple (hdD [2]), dp_hd (sp _ _ upd_same), dp_hd ep, shaped_hd _, shaped_hd _, _, rfl, ?_⟩
              rw [eqv_post h4]
              exact iteB (c := Nat.blt 0 ls && (ready ma bx hl || isPost hd)) (by rw [c1, c2]; rfl) (go _ (f0.same (s6.trans sp)))
        · refine iteF' c1 ?_
          rw [Bool.not_eq_true] at c1
          exact iteB (c := Nat.blt 0 ls && (ready ma bx hl || isPost hd)) (by rw [c1]; rfl) (go _ f0)
      intro G5 f1
      by_cases c : (Nat.blt 0 ls && (ready ma bx hl || isPost hd)) = true
      · refine iteT' c ?_
        have hls : 0 < ls := by
          rw [Bool.and_eq_true] at c
          exact Nat.le_of_ble_eq_true c.1
        obtain ⟨sA, iA, ts, eL, pp, nn⟩ := f1
        refine ⟨_, rfl, .inl ⟨rfl, _, SqL.of eL⟩, _, rfl, _, rfl, _, rfl, _, rfl, _, _, rfl, rfl, _, rfl, _, rfl, _, _, rfl, rfl, sz (by simp), fun tq Gq nq sq eq => ?_⟩
        refine ⟨ti, tq, _, _, rfl, rfl, SqT.of (sq _ _ iA), SqT.of eq, (Nat.le_trans (show (4 + 5 : Nat) ≤ 99 by decide) (by decide)), (fun z => by cases z), (fun _ z => by cases z), fun _ _ tn nt' => ?_⟩
        have elst : ([V.int pl, .ref h, .bl nt, .int cm] ++ [V.int bx, .int hl, .int (ps + 1), .int fl, .int (ls - 1)] : List V) = stV h ⟨pl, hd, nt, cm, bx, hl, ps + 1, fl, ls - 1⟩ := by
          simp only [stV, List.cons_append, List.nil_append, List.cons.injEq, V.int.injEq, true_and, and_true]
          omega
        have aN : StA (upd Gq tn (.tup ([V.int pl, .ref h, .bl nt, .int cm] ++ [V.int bx, .int hl, .int (ps + 1), .int fl, .int (ls - 1)]))) tn ⟨pl, hd, nt, cm, bx, hl, ps + 1, fl, ls - 1⟩ := ⟨h, by rw [upd_same, elst], (same_new nt') _ _ (sq _ _ (sA _ _ eh))⟩
        have sn := sq.trans (same_new (o := .tup ([V.int pl, .ref h, .bl nt, .int cm] ++ [V.int bx, .int hl, .int (ps + 1), .int fl, .int (ls - 1)])) nt')
        refine ⟨l, _, _, rfl, rfl, sn _ _ eL, by rw [List.length_map]; exact Nat.lt_of_le_of_lt (m := 20) (by omega) (by decide), ?_⟩
        exact k _ (Fnd.put nl (sA.trans sn) (sn _ _ iA) (sn _ _ eL) (sts_same sn pp) nn (by show (bif _ then _ else _) = _; rw [c]; rfl) aN)
      · refine iteF' c ?_
        exact k _ (f1.nilE (by show (bif _ then _ else _) = _; rw [Bool.not_eq_true] at c; rw [c]; rfl))
    case i9 =>
      rintro D σ G4 ⟨l, ti, rfl, nl, f0, k⟩
      revert G4
      apply afterA
      · intro go G4 f0
        refine ⟨_, rfl, _, _, rfl, rfl, _, rfl, ?_⟩
        rw [show decide ((fl : Int) > 0) = Nat.blt 0 fl from blt0 fl]
        by_cases c1 : Nat.blt 0 fl = true
        · refine iteT' c1 ⟨_, rfl, sz (by simp), fun te Ge ne se ee => ?_⟩
          have f1 := f0.same se
          refine ⟨.tuple (hdD hd), .tuple (hdD []), dp_hd (f1.s _ _ eh), dp_hd (hd := []) ee, shaped_hd hd, shaped_hd [], _, rfl, ?_⟩
          rw [eqv_nil]
          by_cases c2 : hd.isEmpty = true
          · refine iteF' (by rw [c2]; decide) ?_
            refine ⟨_, rfl, rfl, _, rfl, ?_⟩
            exact iteB (c := Nat.blt 0 fl && (!hd.isEmpty || Nat.beq hl 1)) ((beq1 hl).trans (by rw [c1, c2]; rfl)) (go _ f1)
          · rw [Bool.not_eq_true] at c2
            refine iteT' (by rw [c2]; decide) ?_
            exact iteB (c := Nat.blt 0 fl && (!hd.isEmpty || Nat.beq hl 1)) (by rw [c1, c2]; rfl) (go _ f1)
        · refine iteF' c1 ?_
          rw [Bool.not_eq_true] at c1
          exact iteB (c := Nat.blt 0 fl && (!hd.isEmpty || Nat.beq hl 1)) (by rw [c1]; rfl) (go _ f0)
      intro G5 f1
      by_cases c : (Nat.blt 0 fl && (!hd.isEmpty || Nat.beq hl 1)) = true
      · refine iteT' c ?_
        have hfl : 0 < fl := by
          rw [Bool.and_eq_true] at c
          exact Nat.le_of_ble_eq_true c.1
        obtain ⟨sA, iA, ts, eL, pp, nn⟩ := f1
        refine ⟨_, rfl, .inl ⟨rfl, _, SqL.of eL⟩, _, rfl, sz (by simp), fun t5 G6 n5 s5 e5 => ⟨_, rfl, _, rfl, _, rfl, _, rfl, _, rfl, _, _, rfl, rfl, _, rfl, sz (by simp), fun tn Gn nn' sn' en => ?_⟩⟩
        have elst : ([V.int pl, .ref t5, .bl nt, .int cm, .int bx, .int 0, .int ps, .int (fl - 1), .int ls] : List V) = stV t5 ⟨pl, [], nt, cm, bx, 0, ps, fl - 1, ls⟩ := by
          simp only [stV, List.cons.injEq, V.int.injEq, true_and, and_true]
          omega
        have sn := s5.trans sn'
        have aN : StA Gn tn ⟨pl, [], nt, cm, bx, 0, ps, fl - 1, ls⟩ := ⟨t5, en.trans (by rw [← elst]), sn' _ _ e5⟩
        refine ⟨l, _, _, rfl, rfl, sn _ _ eL, by rw [List.length_map]; exact Nat.lt_of_le_of_lt (m := 20) (by omega) (by decide), ?_⟩
        exact k _ (Fnd.put nl (sA.trans sn) (sn _ _ iA) (sn _ _ eL) (sts_same sn pp) nn (by show (bif _ then _ else _) = _; rw [c]; rfl) aN)
      · refine iteF' c ?_
        exact k _ (f1.nilE (by show (bif _ then _ else _) = _; rw [Bool.not_eq_true] at c; rw [c]; rfl))
    case main =>
      refine ⟨_, rfl, 4, rfl, t, _, rfl, SqT.of et, (fun z => absurd z.2 (by show ¬ (HT.sIx 9 9 (some 4) = 9); decide)), fun _ t1 n1 => ?_⟩
      have s1 : Same H (upd H t1 (.tup (cutV (stV h ⟨pl, hd, nt, cm, bx, hl, ps, fl, ls⟩) none (some 4)))) := same_new n1
      refine ⟨t1, [.int pl, .ref h, .bl nt, .int cm], rfl, SqT.of upd_same, rfl, _, _, rfl, _, _, rfl, _, _, rfl, _, _, rfl, rfl, ?_⟩
      generalize upd H t1 (.tup (cutV (stV h ⟨pl, hd, nt, cm, bx, hl, ps, fl, ls⟩) none (some 4))) = G1 at s1 ⊢
      refine ⟨_, rfl, 4, rfl, t, _, rfl, SqT.of (s1 _ _ et), (fun z => absurd z.1 (by show ¬ (HT.sIx 9 0 (some 4) = 0); decide)), fun _ t2 n2 => ?_⟩
      have s2 : Same H (upd G1 t2 (.tup (cutV (stV h ⟨pl, hd, nt, cm, bx, hl, ps, fl, ls⟩) (some 4) none))) := s1.trans (same_new n2)
      refine ⟨t2, [.int bx, .int hl, .int ps, .int fl, .int ls], rfl, SqT.of upd_same, rfl, _, _, rfl, _, _, rfl, _, _, rfl, _, _, rfl, _, _, rfl, rfl, ?_⟩
      generalize upd G1 t2 (.tup (cutV (stV h ⟨pl, hd, nt, cm, bx, hl, ps, fl, ls⟩) (some 4) none)) = G2 at s2 ⊢
      refine ⟨sz (by simp), fun l G3 nl3 _ s3 e3 => ?_⟩
      have nl : H l = none := by
        cases e : H l with
        | none => rfl
        | some o => rw [s2 _ _ e] at nl3; cases nl3
      have s3 := s2.trans s3
      refine ⟨_, rfl, r, _, 3, _, rfl, rfl, Dat.sqT_same s3 hR, rfl, rfl, ?_⟩
      have hma : decide (V.str (bW ma) = V.str "ahead") = ma := by cases ma <;> decide +kernel
      rw [hma]
      refine ⟨_, rfl, _, rfl, _, rfl, _, rfl, sz (by simp), fun ti G4 ni s4 ei => ⟨_, _, _, rfl, ?_⟩⟩
      have f0 : Fnd H l ti [.int pl, .ref h, .bl nt, .int cm] [] 0 G4 := ⟨s3.trans s4, ei, [], s4 _ _ e3, .nil, by decide⟩
      refine ⟨l, ti, rfl, nl, f0, fun G5 f5 => ?_⟩
      refine ⟨l, ti, rfl, nl, f5, fun G6 f6 => ?_⟩
      refine ⟨_, rfl, _, rfl, ?_⟩
      apply iteC
      · intro hm go
        refine ⟨_, rfl, rfl, ?_⟩
        rw [show V.bl (decide (V.int (hl : Int) = V.int 1)) = V.bl (ready ma bx hl) from congrArg V.bl ((beq1 hl).trans (by rw [hm]; simp [ready]))]
        exact go
      · intro hm go
        refine ⟨_, rfl, rfl, _, rfl, ?_⟩
        rw [beq0]
        by_cases c0 : Nat.beq hl 0 = true
        · refine iteT' c0 ⟨_, rfl, _, _, rfl, rfl, ?_⟩
          rw [show ((fun (i j : Int) => V.bl (decide (j < i))) (bx : Int) 0) = V.bl (ready ma bx hl) from congrArg V.bl ((blt0 bx).trans (by rw [hm]; simp [ready, c0]))]
          exact go
        · refine iteF' c0 ?_
          have e : V.bl false = V.bl (ready ma bx hl) := congrArg V.bl (by rw [hm]; simp [ready, c0])
          generalize V.bl false = v at e ⊢
          subst e
          exact go
      refine ⟨l, ti, rfl, nl, f6, fun G7 f7 => ⟨l, ti, rfl, nl, f7, fun G8 f8 => ⟨l, ti, rfl, nl, f8, fun G9 f9 => ⟨l, ti, rfl, nl, f9, fun G10 f10 => ?_⟩⟩⟩⟩
      obtain ⟨sE, _, ts, eE, pE, _⟩ := f10
      refine ⟨_, rfl, kQ l ts G10 nl sE eE ?_⟩
      have : moves po ke an ma many ⟨pl, hd, nt, cm, bx, hl, ps, fl, ls⟩ = (((((([] ++ (p4 po ke an many ⟨pl, hd, nt, cm, bx, hl, ps, fl, ls⟩)) ++ (p5 po ke ⟨pl, hd, nt, cm, bx, hl, ps, fl, ls⟩)) ++ (p7 ma ⟨pl, hd, nt, cm, bx, hl, ps, fl, ls⟩)) ++ (p8 ma ⟨pl, hd, nt, cm, bx, hl, ps, fl, ls⟩)) ++ (p9 ma ⟨pl, hd, nt, cm, bx, hl, ps, fl, ls⟩)) ++ (p10 ⟨pl, hd, nt, cm, bx, hl, ps, fl, ls⟩)) := by
        unfold moves p7 p8 p9 p10
        rw [p45]
        simp only [List.append_assoc, List.nil_append]
      rw [this]
      exact pE
end
end K69

set_option Elab.async false
set_option linter.all false
set_option maxRecDepth 100000
set_option maxHeartbeats 8000000
namespace K69
open PySem L2 Pen RG KEq W8 DkN
/-! ### the small machine, its states as keys -/
def keyOf (x : Sm) : NestedKey := .tup [.num x.pl, .tup (x.hd.map fun d => .text (dW d)), .num (if x.nt = true then 1 else 0), .num x.cm, .num x.bx, .num x.hl, .num x.ps, .num x.fl, .num x.ls]
theorem vall_hd {H : Hp} : ∀ hd : List Nat, VAll H (hd.map fun d => .text (dW d)) (hdV hd)
  | [] => .nil
  | d :: r => .cons (.str _) (vall_hd r)
theorem vis_of {H : Hp} {t : Addr} {x : Sm} (a : StA H t x) : VIs H (keyOf x) (.ref t) := by
  obtain ⟨h, a, b⟩ := a
  exact .tup a (.cons (.int _) (.cons (.tup b (vall_hd _)) (.cons (.bl _) (.cons (.int _) (.cons (.int _) (.cons (.int _) (.cons (.int _) (.cons (.int _) (.cons (.int _) .nil)))))))))
theorem depth_texts (hd : List Nat) : NestedKey.depthAll (hd.map fun d => .text (dW d)) = 0 := by
  induction hd with
  | nil => rfl
  | cons d r ih =>
    show max 0 (NestedKey.depthAll (r.map fun d => .text (dW d))) = 0
    rw [ih]
    rfl
theorem key_depth (x : Sm) : (keyOf x).depth ≤ 8 := by
  have e := depth_texts x.hd
  simp only [keyOf, NestedKey.depth, NestedKey.depthAll, e]
  decide
theorem dW_inj {a b : Nat} (ha : a < 4) (hb : b < 4) (e : dW a = dW b) : a = b := by
  rcases (by omega : a = 0 ∨ a = 1 ∨ a = 2 ∨ a = 3) with rfl | rfl | rfl | rfl <;> rcases (by omega : b = 0 ∨ b = 1 ∨ b = 2 ∨ b = 3) with rfl | rfl | rfl | rfl <;> first | rfl | exact absurd e (by decide +kernel)
theorem texts_inj : ∀ {a b : List Nat}, (∀ d ∈ a, d < 4) → (∀ d ∈ b, d < 4) → (a.map fun d => NestedKey.text (dW d)) = b.map (fun d => NestedKey.text (dW d)) → a = b
  | [], [], _, _, _ => rfl
  | [], _ :: _, _, _, e => by simp at e
  | _ :: _, [], _, _, e => by simp at e
  | x :: a, y :: b, ha, hb, e => by
    rw [List.map_cons, List.map_cons] at e
    injection e with e1 e2
    injection e1 with e1
    rw [dW_inj (ha x List.mem_cons_self) (hb y List.mem_cons_self) e1, texts_inj (fun d m => ha d (List.mem_cons_of_mem _ m)) (fun d m => hb d (List.mem_cons_of_mem _ m)) e2]
structure Dom (ma : Bool) (x : Sm) : Prop where
  m : ma = false → x.hl = 1 → 1 ≤ x.bx
  h : ∀ d ∈ x.hd, d < 4
  pl : x.pl < 4
  cm : x.cm < 8
  bx : x.bx < 8
  hl : x.hl < 2
  ps : x.ps < 16
  fl : x.fl < 4
  ls : x.ls < 4
theorem blt_lt {a b : Nat} (h : Nat.blt a b = true) : a < b := Nat.le_of_ble_eq_true h
theorem dom_of {ma : Bool} {x : Sm} (h : dom ma x = true) : Dom ma x := by
  unfold dom at h
  simp only [Bool.and_eq_true, List.all_eq_true] at h
  obtain ⟨h0, ⟨⟨⟨⟨⟨⟨h1, h2⟩, h3⟩, h4⟩, h5⟩, h6⟩, h7⟩, h8⟩ := h
  refine ⟨fun e1 e2 => ?_, fun d m => blt_lt (h1 d m), blt_lt h2, blt_lt h3, blt_lt h4, blt_lt h5, blt_lt h6, blt_lt h7, blt_lt h8⟩
  subst e1
  rw [e2] at h0
  have h0 : Nat.blt 0 x.bx = true := by simpa using h0
  exact blt_lt h0
theorem key_inj {x y : Sm} (hx : ∀ d ∈ x.hd, d < 4) (hy : ∀ d ∈ y.hd, d < 4) (e : keyOf x = keyOf y) : x = y := by
  obtain ⟨p1, h1, n1, c1, b1, l1, s1, f1, o1⟩ := x
  obtain ⟨p2, h2, n2, c2, b2, l2, s2, f2, o2⟩ := y
  unfold keyOf at e
  simp only [NestedKey.tup.injEq, List.cons.injEq, NestedKey.num.injEq, and_true] at e
  obtain ⟨e1, e2, e3, e4, e5, e6, e7, e8, e9⟩ := e
  have e2 := texts_inj hx hy e2
  have en : n1 = n2 := by cases n1 <;> cases n2 <;> first | rfl | simp at e3
  have e2 : h1 = h2 := e2
  subst e2 en
  congr <;> omega
theorem hcode_inj : ∀ {a b : List Nat}, (∀ d ∈ a, d < 4) → (∀ d ∈ b, d < 4) → hcode a = hcode b → a = b
  | [], [], _, _, _ => rfl
  | [], y :: b, _, _, e => by
    have e : 0 = (y + 1) + 5 * hcode b := e
    omega
  | x :: a, [], _, _, e => by
    have e : (x + 1) + 5 * hcode a = 0 := e
    omega
  | x :: a, y :: b, ha, hb, e => by
    have e : (x + 1) + 5 * hcode a = (y + 1) + 5 * hcode b := e
    have h1 := ha x List.mem_cons_self
    have h2 := hb y List.mem_cons_self
    have e1 : x = y := by omega
    have e2 : hcode a = hcode b := by omega
    rw [e1, hcode_inj (fun d m => ha d (List.mem_cons_of_mem _ m)) (fun d m => hb d (List.mem_cons_of_mem _ m)) e2]
theorem radix {A B a b m : Nat} (ha : a < m) (hb : b < m) (e : A * m + a = B * m + b) : A = B ∧ a = b := by
  have m0 : 0 < m := by omega
  have h1 : (A * m + a) / m = A := by rw [Nat.mul_comm, Nat.mul_add_div m0, Nat.div_eq_of_lt ha, Nat.add_zero]
  have h2 : (B * m + b) / m = B := by rw [Nat.mul_comm, Nat.mul_add_div m0, Nat.div_eq_of_lt hb, Nat.add_zero]
  have h3 : A = B := by rw [← h1, ← h2, e]
  subst h3
  exact ⟨rfl, by omega⟩
theorem toNat_inj {a b : Bool} (e : a.toNat = b.toNat) : a = b := by cases a <;> cases b <;> first | rfl | cases e
theorem toNat_lt (a : Bool) : a.toNat < 2 := by cases a <;> decide
theorem code_inj {ma : Bool} {x y : Sm} (hx : Dom ma x) (hy : Dom ma y) (e : W8.code x = W8.code y) : x = y := by
  obtain ⟨_, a1, a2, a3, a4, a5, a6, a7, a8⟩ := hx
  obtain ⟨_, b1, b2, b3, b4, b5, b6, b7, b8⟩ := hy
  unfold W8.code at e
  obtain ⟨e, e8⟩ := radix a8 b8 e
  obtain ⟨e, e7⟩ := radix a7 b7 e
  obtain ⟨e, e6⟩ := radix a6 b6 e
  obtain ⟨e, e5⟩ := radix a5 b5 e
  obtain ⟨e, e4⟩ := radix a4 b4 e
  obtain ⟨e, e3⟩ := radix a3 b3 e
  obtain ⟨e, en⟩ := radix (toNat_lt _) (toNat_lt _) e
  obtain ⟨e, e2⟩ := radix a2 b2 e
  have e1 := hcode_inj a1 b1 e
  have e0 := toNat_inj en
  clear en
  cases x
  cases y
  simp only at e1 e2 e3 e4 e5 e6 e7 e8 e0
  subst e1 e2 e3 e4 e5 e6 e7 e8 e0
  rfl
theorem beq_ne {a b : Nat} (h : ¬ a = b) : Nat.beq a b = false := by
  cases hb : Nat.beq a b with
  | false => rfl
  | true => exact absurd (Nat.eq_of_beq_eq_true hb) h
theorem has_ins : ∀ (t : T) (k j : Nat), (t.ins k).has j = (decide (j = k) || t.has j)
  | .lf, k, j => by
    by_cases h : j = k
    · subst h
      simp [T.ins, T.has]
    · have : Nat.beq j k = false := beq_ne h
      simp [T.ins, T.has, this, h]
  | .nd l m r, k, j => by
    have beq : ∀ a b : Nat, Nat.beq a b = decide (a = b) := fun a b => by
      by_cases h : a = b
      · subst h; simp
      · have : Nat.beq a b = false := beq_ne h
        rw [this]; simp [h]
    have ble : ∀ a b : Nat, Nat.ble a b = decide (a ≤ b) := fun a b => by
      by_cases h : a ≤ b
      · rw [Nat.ble_eq_true_of_le h]; simp [h]
      · have : Nat.ble a b = false := by
          cases hh : Nat.ble a b with
          | false => rfl
          | true => exact absurd (Nat.le_of_ble_eq_true hh) h
        rw [this]; simp [h]
    have ih1 := has_ins l k j
    have ih2 := has_ins r k j
    simp only [T.ins, beq, ble]
    by_cases h1 : k = m
    · subst h1
      simp only [decide_true, cond_true, T.has, beq, ble]
      by_cases h : j = k
      · simp [h]
      · simp [h]
    · simp only [h1, decide_false, cond_false]
      by_cases h2 : k ≤ m
      · simp only [h2, decide_true, cond_true, T.has, beq, ble, ih1]
        by_cases h : j = m
        · simp [h]
        · by_cases hh : j ≤ m
          · simp [h, hh]
          · have : ¬ j = k := by omega
            simp [h, hh, this]
      · simp only [h2, decide_false, cond_false, T.has, beq, ble, ih2]
        by_cases h : j = m
        · simp [h]
        · by_cases hh : j ≤ m
          · have : ¬ j = k := by omega
            simp [h, hh, this]
          · simp [h, hh]
end K69

set_option Elab.async false
set_option linter.all false
set_option maxRecDepth 100000
set_option maxHeartbeats 8000000
namespace K69
open PySem L2 Pen RG KEq W8 DkN
/-- xs == [], xs != [] -/
def rEqNil (K : PySem.W.Frag) : R2 := fun x y G Want => ∃ (a b : Addr) (xs : List V), x = .ref a ∧ y = .ref b ∧ SqL K G a xs ∧ SqL K G b [] ∧ Want (.bl xs.isEmpty) G
theorem op_eqNil {X : Cx} (hu : X.A.units + 1 < cLine) : OpR X (compareOp .Eq) (rEqNil X.K) := by
  intro pins st σ G x y v u Want I rx ry h
  obtain ⟨a, b, xs, rfl, rfl, ha, hb, q⟩ := h
  cases rx
  cases ry
  obtain ⟨its, r1, p1, _⟩ := I.list ha
  obtain ⟨jts, r2, p2, _⟩ := I.list hb
  have e2 : jts = [] := by cases r2; rfl
  subst e2
  cases r1 with
  | nil => exact SeqAt.eq_listAt (e := fun _ => true) p1.isList p2.isList rfl (Nat.lt_of_succ_lt hu) (fun j h1 h2 => absurd h1 (Nat.not_lt_zero _)) ⟨.bl true, G, I, rfl, q⟩
  | cons c t => exact SeqAt.eq_list_lengthsAt p1.isList p2.isList (by simp) (Nat.lt_of_succ_lt hu) ⟨.bl false, G, I, rfl, q⟩
def rNeN (K : PySem.W.Frag) : R2 := fun x y G Want => ∃ (a b : Addr) (xs : List V), x = .ref a ∧ y = .ref b ∧ SqL K G a xs ∧ SqL K G b [] ∧ Want (.bl (!xs.isEmpty)) G
theorem op_neN {X : Cx} (hu : X.A.units + 64 < cLine) : OpR X (compareOp .NotEq) (rNeN X.K) := by
  intro pins st σ G x y v u Want I rx ry h
  obtain ⟨a, b, xs, rfl, rfl, ha, hb, q⟩ := h
  cases xs with
  | nil => exact op_neD hu pins st σ G _ _ v u Want I rx ry ⟨.list [], .list [], .lst ha .nil, .lst hb .nil, rfl, rfl, q⟩
  | cons c t =>
    cases rx
    cases ry
    obtain ⟨its, r1, p1, _⟩ := I.list ha
    obtain ⟨jts, r2, p2, _⟩ := I.list hb
    have e2 : jts = [] := by cases r2; rfl
    subst e2
    cases r1 with
    | cons c t => exact SeqAt.RcNeAt.lists_lengths p1.isList p2.isList (by simp) (Nat.lt_of_le_of_lt (Nat.le_add_right _ 64) hu) _ _ _ _ ⟨.bl true, G, I, rfl, q⟩

def nI (x : Nat) : V := .int (x : Int)
def entE (z : Sm × Addr) : Ent := (keyOf z.1, z.2, Value.bool true)
/-- tuples stay -/
def TSt (H G : Hp) : Prop := ∀ b xs, H b = some (.tup xs) → G b = some (.tup xs)
theorem TSt.of {H G : Hp} (s : Same H G) : TSt H G := fun b xs e => s _ _ e
theorem TSt.trans {A B C : Hp} (a : TSt A B) (b : TSt B C) : TSt A C := fun x xs e => b _ _ (a _ _ e)
theorem TSt.upd {H G : Hp} {a : Addr} {o o' : HO} (t : TSt H G) (e : G a = some o) (n : ∀ xs, o ≠ .tup xs) : TSt H (upd G a o') := fun b xs h => by
  have := t _ _ h
  rw [upd_ne (ne_of this e (fun z => n _ z.symm))]
  exact this
theorem StA.ts {H G : Hp} {t : Addr} {x : Sm} (s : TSt H G) (a : StA H t x) : StA G t x := by
  obtain ⟨h, a, b⟩ := a
  exact ⟨h, s _ _ a, s _ _ b⟩
theorem sas_ts {H G : Hp} (s : TSt H G) : ∀ {L : List Sm} {ts : List Addr}, Paired (SA H) L ts → Paired (SA G) L ts
  | _, _, .nil => .nil
  | _, _, .cons a r => .cons (StA.ts s a) (sas_ts s r)
theorem paired_rev {α β : Type} {F : α → β → Prop} {xs : List α} {ys : List β} (p : Paired F xs ys) : Paired F xs.reverse ys.reverse := by
  induction p with
  | nil => exact .nil
  | cons a r ih => rw [List.reverse_cons, List.reverse_cons]; exact paired_app ih (.cons a .nil)
/-- the four that change, and all tuples -/
structure Fx (P : Program) (w : World) (H : Hp) (kd wt ct pt : Addr) (W C U : List V) (D : List Ent) (G0 G : Hp) : Prop where
  s : Same H G
  ts : TSt G0 G
  ew : G wt = some (.lst W)
  ec : G ct = some (.lst C)
  ep : G pt = some (.lst U)
  ek : G kd = some (NK P w kd D)
/-- the walk's lists and dict -/
structure Lv (P : Program) (w : World) (H : Hp) (po ke : Nat) (an ma : Bool) (many : Nat) (RES : List Nat × List Nat) (kd wt ct pt : Addr) (n : Nat) (G : Hp) : Prop where
  s : Same H G
  ex : ∃ (t : T) (ws : List Sm) (tw : List Addr) (cs ps : List Nat) (ks : List (Sm × Addr)), run po ke an ma many n t ws cs ps = some RES ∧ Paired (SA G) ws tw ∧ G wt = some (.lst (tw.reverse.map V.ref)) ∧ G ct = some (.lst (cs.reverse.map nI)) ∧ G pt = some (.lst (ps.reverse.map nI)) ∧
    G kd = some (NK P w kd (ks.map entE)) ∧ (∀ z ∈ ks, StA G z.2 z.1 ∧ Dom ma z.1) ∧ (∀ y, Dom ma y → (t.has (W8.code y) = true ↔ ∃ z ∈ ks, z.1 = y)) ∧ ks.length + n ≤ 2000 ∧ tw.length + 6 * n ≤ 12000 ∧ cs.length + n ≤ 2000 ∧ ps.length + n ≤ 2000
structure Sep (H : Hp) (kd wt ct pt : Addr) : Prop where
  h1 : H kd = none
  h2 : H wt = none
  h3 : H ct = none
  h4 : H pt = none
  n12 : kd ≠ wt
  n13 : kd ≠ ct
  n14 : kd ≠ pt
  n23 : wt ≠ ct
  n24 : wt ≠ pt
  n34 : ct ≠ pt
theorem Fx.same {P : Program} {w : World} {H : Hp} {kd wt ct pt : Addr} {W C U : List V} {D : List Ent} {G0 G G' : Hp} (a : Fx P w H kd wt ct pt W C U D G0 G) (s : Same G G') : Fx P w H kd wt ct pt W C U D G0 G' :=
  ⟨a.s.trans s, a.ts.trans (.of s), s _ _ a.ew, s _ _ a.ec, s _ _ a.ep, s _ _ a.ek⟩
section
variable {P : Program} {w : World} {H : Hp} {kd wt ct pt : Addr} {W C U : List V} {D : List Ent} {G0 G : Hp}
theorem Fx.setW {W' : List V} (a : Fx P w H kd wt ct pt W C U D G0 G) (p : Sep H kd wt ct pt) : Fx P w H kd wt ct pt W' C U D G0 (upd G wt (.lst W')) :=
  ⟨same_updN p.h2 a.s, a.ts.upd a.ew (by intro xs; simp), upd_same, (upd_ne p.n23.symm).trans a.ec, (upd_ne p.n24.symm).trans a.ep, (upd_ne p.n12).trans a.ek⟩
theorem Fx.setC {C' : List V} (a : Fx P w H kd wt ct pt W C U D G0 G) (p : Sep H kd wt ct pt) : Fx P w H kd wt ct pt W C' U D G0 (upd G ct (.lst C')) :=
  ⟨same_updN p.h3 a.s, a.ts.upd a.ec (by intro xs; simp), (upd_ne p.n23).trans a.ew, upd_same, (upd_ne p.n34.symm).trans a.ep, (upd_ne p.n13).trans a.ek⟩
theorem Fx.setU {U' : List V} (a : Fx P w H kd wt ct pt W C U D G0 G) (p : Sep H kd wt ct pt) : Fx P w H kd wt ct pt W C U' D G0 (upd G pt (.lst U')) :=
  ⟨same_updN p.h4 a.s, a.ts.upd a.ep (by intro xs; simp), (upd_ne p.n24).trans a.ew, (upd_ne p.n34).trans a.ec, upd_same, (upd_ne p.n14).trans a.ek⟩
theorem Fx.setD {D' : List Ent} (a : Fx P w H kd wt ct pt W C U D G0 G) (p : Sep H kd wt ct pt) : Fx P w H kd wt ct pt W C U D' G0 (upd G kd (NK P w kd D')) :=
  ⟨same_updN p.h1 a.s, a.ts.upd a.ek (by intro xs; simp [NK]), (upd_ne p.n12.symm).trans a.ew, (upd_ne p.n13.symm).trans a.ec, (upd_ne p.n14.symm).trans a.ep, upd_same⟩
end
theorem run_step {po ke : Nat} {an ma : Bool} {many n : Nat} {t : T} {x : Sm} {ws : List Sm} {cs ps : List Nat} {RES : List Nat × List Nat} (h : run po ke an ma many (n + 1) t (x :: ws) cs ps = some RES) :
    dom ma x = true ∧ ((t.has (W8.code x) = true ∧ run po ke an ma many n t ws cs ps = some RES) ∨ (t.has (W8.code x) = false ∧ run po ke an ma many n (t.ins (W8.code x)) ((moves po ke an ma many x).reverse ++ ws) (if (moves po ke an ma many x).isEmpty then x.cm :: cs else cs) (if (moves po ke an ma many x).isEmpty then x.ps :: ps else ps) = some RES)) := by
  rw [W8.run] at h
  cases hd : dom ma x with
  | false => rw [hd] at h; cases h
  | true =>
    rw [hd, cond_true] at h
    refine ⟨rfl, ?_⟩
    cases hh : t.has (W8.code x) with
    | true => rw [hh] at h; exact .inl ⟨rfl, h⟩
    | false =>
      rw [hh, cond_false] at h
      refine .inr ⟨rfl, ?_⟩
      cases hm : moves po ke an ma many x with
      | nil => rw [hm] at h; exact h
      | cons a b => rw [hm] at h; exact h
theorem moves_len (po ke : Nat) (an ma : Bool) (many : Nat) (x : Sm) : (moves po ke an ma many x).length ≤ 5 := by
  have one : ∀ (b : Bool) (y : Sm), (bif b then [y] else []).length ≤ 1 := fun b y => by cases b <;> simp
  have m1 : (mv1 po ke an many x).length ≤ 1 := by
    unfold mv1
    split
    · exact one _ _
    · exact Nat.le_refl _
  unfold moves
  rw [List.length_append, List.length_append, List.length_append, List.length_append]
  have a := one (ready ma x.bx x.hl) { x with hl := 1 - x.hl, ps := x.ps + 1 }
  have b := one (cond2 ma x.bx x.hl) { x with bx := x.bx - 1, hl := 1 - x.hl }
  have c := one (Nat.blt 0 x.ls && (ready ma x.bx x.hl || isPost x.hd)) { x with ps := x.ps + 1, ls := x.ls - 1 }
  have d := one (Nat.blt 0 x.fl && (!x.hd.isEmpty || Nat.beq x.hl 1)) { x with hd := [], hl := 0, fl := x.fl - 1 }
  omega
theorem atKey_some {xs : List Ent} {k : NestedKey} : (atKey xs k).isSome = true ↔ ∃ y ∈ xs, y.1 = k := by
  unfold atKey
  rw [Option.isSome_map, List.find?_isSome]
  simp
/-- the whole walk -/
def sWh (P : Program) (w : World) (H : Hp) (S : Addr → Addr → Addr → Addr → Option V → Option V → L2.St) (po ke : Nat) (an ma : Bool) (many : Nat) (RES : List Nat × List Nat) (n : Nat) : TS := fun D σ G => ∃ kd wt ct pt y8 y9, σ = S kd wt ct pt y8 y9 ∧ Sep H kd wt ct pt ∧ Lv P w H po ke an ma many RES kd wt ct pt n G ∧
  ∀ z8 z9 G', Same H G' → G' ct = some (.lst (RES.1.reverse.map nI)) → G' pt = some (.lst (RES.2.reverse.map nI)) → D.nx (S kd wt ct pt z8 z9) G'
/-- the least, the greatest of the numbers -/
structure IsMn (cs : List Nat) (a : Int) : Prop where
  m : ∃ x ∈ cs, (x : Int) = a
  l : ∀ x ∈ cs, a ≤ (x : Int)
structure IsMx (cs : List Nat) (a : Int) : Prop where
  m : ∃ x ∈ cs, (x : Int) = a
  l : ∀ x ∈ cs, (x : Int) ≤ a
theorem isMn_of {cs : List Nat} {a : Int} (h : isMin cs a = true) : IsMn cs a := by
  unfold isMin at h
  rw [Bool.and_eq_true, List.any_eq_true, List.all_eq_true] at h
  obtain ⟨⟨x, m, e⟩, l⟩ := h
  exact ⟨⟨x, m, of_decide_eq_true e⟩, fun y my => of_decide_eq_true (l y my)⟩
theorem isMx_of {cs : List Nat} {a : Int} (h : isMax cs a = true) : IsMx cs a := by
  unfold isMax at h
  rw [Bool.and_eq_true, List.any_eq_true, List.all_eq_true] at h
  obtain ⟨⟨x, m, e⟩, l⟩ := h
  exact ⟨⟨x, m, of_decide_eq_true e⟩, fun y my => of_decide_eq_true (l y my)⟩
theorem IsMn.len {cs : List Nat} {a : Int} (h : IsMn cs a) : 0 < (cs.reverse.map fun (x : Nat) => (x : Int)).length := by
  obtain ⟨x, m, _⟩ := h.m
  rw [List.length_map, List.length_reverse]
  exact List.length_pos_of_mem m
theorem IsMn.eq {cs : List Nat} {a v : Int} (h : IsMn cs a) (i : v ∈ cs.reverse.map fun (x : Nat) => (x : Int)) (q : ∀ y, y ∈ (cs.reverse.map fun (x : Nat) => (x : Int)) → v ≤ y) : v = a := by
  obtain ⟨x, m, e⟩ := h.m
  obtain ⟨y, my, ey⟩ := List.mem_map.mp i
  have h1 := q a (List.mem_map.mpr ⟨x, List.mem_reverse.mpr m, e⟩)
  have h2 := h.l y (List.mem_reverse.mp my)
  have ey : (y : Int) = v := ey
  omega
theorem IsMx.eq {cs : List Nat} {a v : Int} (h : IsMx cs a) (i : v ∈ cs.reverse.map fun (x : Nat) => (x : Int)) (q : ∀ y, y ∈ (cs.reverse.map fun (x : Nat) => (x : Int)) → y ≤ v) : v = a := by
  obtain ⟨x, m, e⟩ := h.m
  obtain ⟨y, my, ey⟩ := List.mem_map.mp i
  have h1 := q a (List.mem_map.mpr ⟨x, List.mem_reverse.mpr m, e⟩)
  have h2 := h.l y (List.mem_reverse.mp my)
  have ey : (y : Int) = v := ey
  omega
theorem fits_of {cs ps : List Nat} {l : List Int} (h : fits cs ps l = true) : ∃ a b c d, l = [a, b, c, d] ∧ IsMn cs a ∧ IsMx cs b ∧ IsMn ps c ∧ IsMx ps d := by
  match l, h with
  | [a, b, c, d], h =>
    have h : (isMin cs a && (isMax cs b && (isMin ps c && isMax ps d))) = true := h
    rw [Bool.and_eq_true, Bool.and_eq_true, Bool.and_eq_true] at h
    exact ⟨a, b, c, d, rfl, isMn_of h.1, isMx_of h.2.1, isMn_of h.2.2.1, isMx_of h.2.2.2⟩
theorem good_of {po ke : Nat} {an ma : Bool} {c f l : Nat} (h : good po ke an ma c f l = true) : ∃ RES, run po ke an ma (c + 1) 1999 .lf [start f l] [] [] = some RES ∧ fits RES.1 RES.2 (accI po ke an ma ((c + 1 : Nat) : Int) f l) = true := by
  unfold good at h
  split at h
  · rename_i cs ps e
    exact ⟨(cs, ps), e, h⟩
  · cases h
def spExt (K : PySem.W.Frag) : Sp := fun vs H Q _ => ∃ (r : Addr) (po ke : Nat) (an ma : Bool) (c f l : Nat), vs = [.ref r, .int ((c : Int) + 1), .int f, .int l] ∧ po < 3 ∧ ke < 3 ∧ SqT K H r (rdV po ke an ma) ∧ good po ke an ma c f l = true ∧
  ∀ t H', Same H H' → H' t = some (.tup ((accI po ke an ma ((c + 1 : Nat) : Int) f l).map V.int)) → Q (.ref t) H'
section
variable {P : Program} {w : World} {K : PySem.W.Frag} {mg : Str → Option Value} {base : Heap}
theorem scExt : FnScope ["_law_road", "_law_many", "_law_falls", "_law_lost", "_law_known", "_law_waiting", "_law_commits", "_law_posts", "_law_now", "_law_further"] ["_law_road", "_law_many", "_law_falls", "_law_lost"] (defScope sExt) := ⟨rfl, rfl, rfl, by decide +kernel, rfl, by decide +kernel, by decide +kernel⟩

theorem ok_ext {f fMv : Addr} {fd dMv : FuncData} (F : Fun K "_law_extremes" "_law_extremes" sExt f fd) (T : Txt mg)
    (GMv : FnOk P w K mg base CX0 2 fMv dMv ["_law_road", "_law_many", "_law_now"] (spMv K)) (TMv : DefT K mg "_law_moves" fMv) (bMv : Binds K dMv ["_law_road", "_law_many", "_law_now"] []) : FnOk P w K mg base CX0 3 f fd ["_law_road", "_law_many", "_law_falls", "_law_lost"] (spExt K) := by
  refine F.ok scExt (fun vs H Q E h => ?_) (fun cdv A outer s H vs Q E hr h => ?_)
  · obtain ⟨r, po, ke, an, ma, c, fl, ls, rfl, _⟩ := h
    rfl
  · obtain ⟨r, po, ke, an, ma, c, fl, ls, rfl, hp, hk, hR, hg, kQ⟩ := h
    have hu := hu_of hr
    obtain ⟨RES, hrun, hfit⟩ := good_of hg
    refine ⟨_, (pss_cons (ps_asg (Ab.pe_tupA (pa_cons pe_nnew (pa_cons (Ab.pe_lstA (pa_cons (Ab.pe_tupA (pa_cons pe_int (pa_cons (Ab.pe_tupA pa_nil) (pa_cons pe_bl (pa_cons pe_int (pa_cons pe_int (pa_cons pe_int (pa_cons pe_int (pa_cons (pv 2) (pa_cons (pv 3) pa_nil)))))))))) pa_nil)) (pa_cons (Ab.pe_lstA pa_nil) (pa_cons (Ab.pe_lstA pa_nil) pa_nil))))) (pg_tup (by rfl) (pgs_cons (pg_name (i := 4) scExt.nd rfl (Or.inl rfl)) (pgs_cons (pg_name (i := 5) scExt.nd rfl (Or.inl rfl)) (pgs_cons (pg_name (i := 6) scExt.nd rfl (Or.inl rfl)) (pgs_cons (pg_name (i := 7) scExt.nd rfl (Or.inl rfl)) pgs_nil))))))
      (pss_cons (ps_imp (t' := sWh P w H (fun kd wt ct pt z8 z9 => [some (.ref r), some (.int ((c : Int) + 1)), some (.int fl), some (.int ls), some (.ref kd), some (.ref wt), some (.ref ct), some (.ref pt), z8, z9]) po ke an ma (c + 1) RES 1999) (ps_while PassesOwn.never (pt_cmpR (op_neN hr.units) (pv 5) (Ab.pe_lstA pa_nil) (nomark _)) (pss_cons (ps_set (i := 8) scExt.nd rfl (Or.inl rfl) (pe_bm0 PySem.F.plainAttrs_list PySem.F.slot_list_pop PySem.F.type_list_pop mt_pop (pv 5)))
      (pss_one (ps_if (pt_cmp (pc_nnotin hr.units (pv 8) (pv 4)) rfl) (pss_cons (ps_nput hr.units (pv 4) (pv 8) pe_bl rfl)
      (pss_cons (ps_set (i := 9) scExt.nd rfl (Or.inl rfl) (pe_call GMv (hr.mono (by decide)) rfl TMv.mg TMv.kp bMv .nil pass0 (pa_cons (pv 0) (pa_cons (pv 1) (pa_cons (pv 8) pa_nil)))))
      (pss_cons (ps_expr (pe_bm PySem.F.plainAttrs_list PySem.F.slot_list_extend PySem.F.type_list_extend mt_extend (pv 5) (pa_cons (pv 9) pa_nil)))
      (pss_cons (ps_expr (pe_bm PySem.F.plainAttrs_list PySem.F.slot_list_extend PySem.F.type_list_extend mt_extend (pv 6) (pa_cons (pe_op op_rep (Ab.pe_lstA (pa_cons (pe_ix ix_tup (pv 8) pe_int (fun _ _ => rfl)) pa_nil)) (pe_callTy call_int1 (by rfl) T.int PyProof.Rows.boot_int (pa_cons (pe_cmpR (op_eqNil hu) (pv 9) (Ab.pe_lstA pa_nil) (nomark _)) pa_nil))) pa_nil)))
      (pss_one (ps_expr (pe_bm PySem.F.plainAttrs_list PySem.F.slot_list_extend PySem.F.type_list_extend mt_extend (pv 7) (pa_cons (pe_op op_rep (Ab.pe_lstA (pa_cons (pe_ix ix_tup (pv 8) pe_int (fun _ _ => rfl)) pa_nil)) (pe_callTy call_int1 (by rfl) T.int PyProof.Rows.boot_int (pa_cons (pe_cmpR (op_eqNil hu) (pv 9) (Ab.pe_lstA pa_nil) (nomark _)) pa_nil))) pa_nil)))))))) pss_nil)))) ?wh)
      (pss_one (ps_ret (Ab.pe_tupA (pa_cons (pe_callB (cr_min rfl) (by rfl) T.min (by decide +kernel) (pa_cons (pv 6) pa_nil)) (pa_cons (pe_callB (cr_max rfl) (by rfl) T.max (by decide +kernel) (pa_cons (pv 6) pa_nil)) (pa_cons (pe_callB (cr_min rfl) (by rfl) T.min (by decide +kernel) (pa_cons (pv 7) pa_nil)) (pa_cons (pe_callB (cr_max rfl) (by rfl) T.max (by decide +kernel) (pa_cons (pv 7) pa_nil)) pa_nil))))))))), ?main⟩
    case wh =>
      rintro D σ G0 ⟨kd, wt, ct, pt, y8, y9, rfl, sp, lv, k⟩
      refine ⟨fun n σ G => ∃ z8 z9, σ = (fun kd wt ct pt z8 z9 => [some (.ref r), some (.int ((c : Int) + 1)), some (.int fl), some (.int ls), some (.ref kd), some (.ref wt), some (.ref ct), some (.ref pt), z8, z9]) kd wt ct pt z8 z9 ∧ Lv P w H po ke an ma (c + 1) RES kd wt ct pt n G, ⟨1999, _, _, rfl, lv⟩, ?_⟩
      rintro n σ G ⟨z8, z9, rfl, ⟨sG, t, ws, tw, cs, ps, ks, er, pw, ew, ec, ep, ek, kk, hh, b1, b2, b3, b4⟩⟩
      refine ⟨_, rfl, sz (by simp), fun l0 G1 n0 _ s1 e1 => ?_⟩
      refine ⟨wt, l0, _, rfl, rfl, SqL.of (s1 _ _ ew), SqL.of e1, _, rfl, ?_⟩
      cases n with
      | zero => rw [W8.run] at er; cases er
      | succ n =>
      cases pw with
      | nil =>
        have er : some (cs, ps) = some RES := by rw [W8.run] at er; exact er
        cases er
        exact iteF' (by simp) (k z8 z9 G1 (sG.trans s1) (s1 _ _ ec) (s1 _ _ ep))
      | @cons x tx ws tw ax pw =>
        obtain ⟨hdm, hstep⟩ := run_step er
        have dx := dom_of hdm
        refine iteT' (by simp) ⟨fun σ' H' => ∃ z8 z9, σ' = (fun kd wt ct pt z8 z9 => [some (.ref r), some (.int ((c : Int) + 1)), some (.int fl), some (.int ls), some (.ref kd), some (.ref wt), some (.ref ct), some (.ref pt), z8, z9]) kd wt ct pt z8 z9 ∧ Lv P w H po ke an ma (c + 1) RES kd wt ct pt n H', fun σ' H' q => ⟨n, Nat.lt_succ_self n, q⟩, ?_⟩
        have lw : ((tx :: tw).reverse.map V.ref) = tw.reverse.map V.ref ++ [V.ref tx] := by rw [List.reverse_cons, List.map_append]; rfl
        rw [lw] at ew
        refine ⟨_, rfl, .inl ⟨rfl, _, SqL.of (s1 _ _ ew)⟩, wt, _, .ref tx, rfl, rfl, s1 _ _ ew, by simp, ?_⟩
        rw [List.dropLast_concat]
        have f1 : Fx P w H kd wt ct pt (tw.reverse.map V.ref ++ [V.ref tx]) (cs.reverse.map nI) (ps.reverse.map nI) (ks.map entE) G G1 := ⟨sG.trans s1, .of s1, s1 _ _ ew, s1 _ _ ec, s1 _ _ ep, s1 _ _ ek⟩
        have f2 := f1.setW (W' := tw.reverse.map V.ref) sp
        generalize upd G1 wt (.lst (tw.reverse.map V.ref)) = G2 at f2 ⊢
        have ax2 : StA G2 tx x := StA.ts f2.ts ax
        have kk2 : ∀ z ∈ ks, StA G2 z.2 z.1 ∧ Dom ma z.1 := fun z m => ⟨StA.ts f2.ts (kk z m).1, (kk z m).2⟩
        have keys2 : Keys G2 (ks.map entE) := fun y m => by
          obtain ⟨z, hz, rfl⟩ := List.mem_map.mp m
          exact ⟨vis_of (kk2 z hz).1, key_depth _⟩
        have inn : (atKey (ks.map entE) (keyOf x)).isSome = true ↔ t.has (W8.code x) = true := by
          rw [atKey_some, hh x dx]
          constructor
          · rintro ⟨y, m, e⟩
            obtain ⟨z, hz, rfl⟩ := List.mem_map.mp m
            exact ⟨z, hz, key_inj (kk2 z hz).2.h dx.h e⟩
          · rintro ⟨z, hz, e⟩
            exact ⟨entE z, List.mem_map.mpr ⟨z, hz, rfl⟩, congrArg keyOf e⟩
        refine ⟨_, rfl, _, rfl, kd, tx, keyOf x, _, rfl, rfl, f2.ek, keys2, vis_of ax2, key_depth x, _, rfl, ?_⟩
        rcases hstep with ⟨ht, hrun⟩ | ⟨ht, hrun⟩
        · have e : (atKey (ks.map entE) (keyOf x)).isSome = true := inn.mpr ht
          refine iteF' (by rw [e]; simp) ⟨_, _, rfl, f2.s, t, ws, tw, cs, ps, ks, hrun, sas_ts f2.ts pw, f2.ew, f2.ec, f2.ep, f2.ek, kk2, hh, by omega, ?_, by omega, by omega⟩
          rw [List.length_cons] at b2
          omega
        · have e : atKey (ks.map entE) (keyOf x) = none := by
            cases q : atKey (ks.map entE) (keyOf x) with
            | none => rfl
            | some v =>
              have := inn.mp (by rw [q]; rfl)
              rw [ht] at this
              cases this
          refine iteT' (by rw [e]; rfl) ?_
          refine ⟨_, rfl, _, rfl, kd, tx, keyOf x, _, rfl, rfl, rfl, f2.ek, keys2, vis_of ax2, key_depth x, e, Nat.le_trans (show _ ≤ 2000 by rw [List.length_map]; omega) (by decide), ?_⟩
          have f3 := f2.setD (D' := ks.map entE ++ [(keyOf x, tx, Value.bool true)]) sp
          have ax3 := StA.ts f3.ts ax
          refine ⟨_, rfl, _, rfl, _, rfl, r, tx, po, ke, an, ma, c + 1, x, rfl, hp, hk, Dat.sqT_same f3.s hR, ax3, dx.h, by have := dx.hl; omega, dx.m, fun l ts G4 nl s4 el pp => ?_⟩
          have lpp := Paired.length pp
          have l5 := moves_len po ke an ma (c + 1) x
          have f4 := f3.same s4
          have lwt : l ≠ wt := (ne_of_none f3.ew nl).symm
          have lct : l ≠ ct := (ne_of_none f3.ec nl).symm
          have lpt : l ≠ pt := (ne_of_none f3.ep nl).symm
          rw [List.length_cons] at b2
          refine ⟨_, rfl, .inl ⟨rfl, _, SqL.of f4.ew⟩, _, rfl, wt, l, _, _, rfl, rfl, f4.ew, el, Nat.le_trans (show _ ≤ 20000 by rw [List.length_map, List.length_map, List.length_reverse]; omega) (by decide), ?_⟩
          have f5 := f4.setW (W' := tw.reverse.map V.ref ++ ts.map V.ref) sp
          have el5 : (upd G4 wt (.lst (tw.reverse.map V.ref ++ ts.map V.ref))) l = some (.lst (ts.map V.ref)) := (upd_ne lwt).trans el
          have pp5 : Paired (SA (upd G4 wt (.lst (tw.reverse.map V.ref ++ ts.map V.ref)))) (moves po ke an ma (c + 1) x) ts := sts_updL f4.ew pp
          generalize upd G4 wt (.lst (tw.reverse.map V.ref ++ ts.map V.ref)) = G5 at f5 el5 pp5 ⊢
          have etx : ∀ {G' : Hp}, TSt G G' → ∃ h, G' tx = some (.tup (stV h x)) := fun s => by
            obtain ⟨h, a, _⟩ := StA.ts s ax
            exact ⟨h, a⟩
          have emp : (ts.map V.ref).isEmpty = (moves po ke an ma (c + 1) x).isEmpty := by
            cases hm : moves po ke an ma (c + 1) x with
            | nil =>
              rw [hm] at lpp
              have : ts = [] := List.length_eq_zero_iff.mp lpp.symm
              rw [this]
              rfl
            | cons a b =>
              rw [hm] at lpp
              cases ts with
              | nil => simp at lpp
              | cons _ _ => rfl
          obtain ⟨h5, et5⟩ := etx f5.ts
          -- the commits
          refine ⟨_, rfl, .inl ⟨rfl, _, SqL.of f5.ec⟩, _, rfl, tx, _, 3, _, rfl, rfl, SqT.of et5, rfl, sz (by simp), fun la Ga na _ sa ea => ?_⟩
          refine ⟨_, rfl, sz (by simp), fun lb Gb nb _ sb eb => ?_⟩
          refine ⟨l, lb, _, rfl, rfl, SqL.of (sb _ _ (sa _ _ el5)), SqL.of eb, .inr ⟨_, rfl, ?_⟩⟩
          refine ⟨la, _, _, rfl, rfl, sb _ _ ea, by split <;> decide, by split <;> decide, by split <;> (show 1 * _ ≤ sizeLine; decide), fun lc nc => ?_⟩
          have f6 := ((f5.same sa).same sb).same (same_new (o := .lst (List.replicate (if (ts.map V.ref).isEmpty = true then (1 : Int) else 0).toNat [V.int (x.cm : Int)]).flatten) nc)
          have el6 : (upd Gb lc (.lst (List.replicate (if (ts.map V.ref).isEmpty = true then (1 : Int) else 0).toNat [V.int (x.cm : Int)]).flatten)) l = some (.lst (ts.map V.ref)) := (same_new (o := .lst (List.replicate (if (ts.map V.ref).isEmpty = true then (1 : Int) else 0).toNat [V.int (x.cm : Int)]).flatten) nc) _ _ (sb _ _ (sa _ _ el5))
          have pp6 : Paired (SA (upd Gb lc (.lst (List.replicate (if (ts.map V.ref).isEmpty = true then (1 : Int) else 0).toNat [V.int (x.cm : Int)]).flatten))) (moves po ke an ma (c + 1) x) ts := sts_same ((sa.trans sb).trans (same_new nc)) pp5
          refine ⟨ct, lc, _, _, rfl, rfl, f6.ec, upd_same, Nat.le_trans (show _ ≤ 20000 by rw [List.length_map, List.length_reverse]; split <;> simp <;> omega) (by decide), ?_⟩
          have f7 := f6.setC (C' := cs.reverse.map nI ++ (List.replicate (if (ts.map V.ref).isEmpty = true then (1 : Int) else 0).toNat [V.int (x.cm : Int)]).flatten) sp
          have el7 : (upd (upd Gb lc (.lst (List.replicate (if (ts.map V.ref).isEmpty = true then (1 : Int) else 0).toNat [V.int (x.cm : Int)]).flatten)) ct (.lst (cs.reverse.map nI ++ (List.replicate (if (ts.map V.ref).isEmpty = true then (1 : Int) else 0).toNat [V.int (x.cm : Int)]).flatten))) l = some (.lst (ts.map V.ref)) := (upd_ne lct).trans el6
          have pp7 : Paired (SA (upd (upd Gb lc (.lst (List.replicate (if (ts.map V.ref).isEmpty = true then (1 : Int) else 0).toNat [V.int (x.cm : Int)]).flatten)) ct (.lst (cs.reverse.map nI ++ (List.replicate (if (ts.map V.ref).isEmpty = true then (1 : Int) else 0).toNat [V.int (x.cm : Int)]).flatten)))) (moves po ke an ma (c + 1) x) ts := sts_updL f6.ec pp6
          generalize upd (upd Gb lc (.lst (List.replicate (if (ts.map V.ref).isEmpty = true then (1 : Int) else 0).toNat [V.int (x.cm : Int)]).flatten)) ct (.lst (cs.reverse.map nI ++ (List.replicate (if (ts.map V.ref).isEmpty = true then (1 : Int) else 0).toNat [V.int (x.cm : Int)]).flatten)) = G7 at f7 el7 pp7 ⊢
          obtain ⟨h7, et7⟩ := etx f7.ts
          -- the posts
          refine ⟨_, rfl, .inl ⟨rfl, _, SqL.of f7.ep⟩, _, rfl, tx, _, 6, _, rfl, rfl, SqT.of et7, rfl, sz (by simp), fun la2 Ga2 na2 _ sa2 ea2 => ?_⟩
          refine ⟨_, rfl, sz (by simp), fun lb2 Gb2 nb2 _ sb2 eb2 => ?_⟩
          refine ⟨l, lb2, _, rfl, rfl, SqL.of (sb2 _ _ (sa2 _ _ el7)), SqL.of eb2, .inr ⟨_, rfl, ?_⟩⟩
          refine ⟨la2, _, _, rfl, rfl, sb2 _ _ ea2, by split <;> decide, by split <;> decide, by split <;> (show 1 * _ ≤ sizeLine; decide), fun lc2 nc2 => ?_⟩
          have f8 := ((f7.same sa2).same sb2).same (same_new (o := .lst (List.replicate (if (ts.map V.ref).isEmpty = true then (1 : Int) else 0).toNat [V.int (x.ps : Int)]).flatten) nc2)
          have pp8 : Paired (SA (upd Gb2 lc2 (.lst (List.replicate (if (ts.map V.ref).isEmpty = true then (1 : Int) else 0).toNat [V.int (x.ps : Int)]).flatten))) (moves po ke an ma (c + 1) x) ts := sts_same ((sa2.trans sb2).trans (same_new nc2)) pp7
          refine ⟨pt, lc2, _, _, rfl, rfl, f8.ep, upd_same, Nat.le_trans (show _ ≤ 20000 by rw [List.length_map, List.length_reverse]; split <;> simp <;> omega) (by decide), ?_⟩
          have f9 := f8.setU (U' := ps.reverse.map nI ++ (List.replicate (if (ts.map V.ref).isEmpty = true then (1 : Int) else 0).toNat [V.int (x.ps : Int)]).flatten) sp
          have pp9 : Paired (SA (upd (upd Gb2 lc2 (.lst (List.replicate (if (ts.map V.ref).isEmpty = true then (1 : Int) else 0).toNat [V.int (x.ps : Int)]).flatten)) pt (.lst (ps.reverse.map nI ++ (List.replicate (if (ts.map V.ref).isEmpty = true then (1 : Int) else 0).toNat [V.int (x.ps : Int)]).flatten)))) (moves po ke an ma (c + 1) x) ts := sts_updL f8.ep pp8
          generalize upd (upd Gb2 lc2 (.lst (List.replicate (if (ts.map V.ref).isEmpty = true then (1 : Int) else 0).toNat [V.int (x.ps : Int)]).flatten)) pt (.lst (ps.reverse.map nI ++ (List.replicate (if (ts.map V.ref).isEmpty = true then (1 : Int) else 0).toNat [V.int (x.ps : Int)]).flatten)) = G9 at f9 pp9 ⊢
          have rep : ∀ (y : Nat) (ys : List Nat), ys.reverse.map nI ++ (List.replicate (if (ts.map V.ref).isEmpty = true then (1 : Int) else 0).toNat [nI y]).flatten = (if (moves po ke an ma (c + 1) x).isEmpty then y :: ys else ys).reverse.map nI := fun y ys => by
            rw [emp]
            by_cases q : (moves po ke an ma (c + 1) x).isEmpty = true
            · rw [if_pos q, if_pos q, List.reverse_cons, List.map_append]
              rfl
            · rw [if_neg q, if_neg q]
              exact List.append_nil _
          have lens : ∀ (y : Nat) (ys : List Nat), (if (moves po ke an ma (c + 1) x).isEmpty then y :: ys else ys).length ≤ ys.length + 1 := fun y ys => by
            split
            · exact Nat.le_refl _
            · omega
          have lc3 := lens x.cm cs
          have lp3 := lens x.ps ps
          refine ⟨_, _, rfl, f9.s, t.ins (W8.code x), _, ts.reverse ++ tw, _, _, ks ++ [(x, tx)], hrun, paired_app (paired_rev pp9) (sas_ts f9.ts pw), ?_, ?_, ?_, ?_, ?_, ?_, ?_, ?_, ?_, ?_⟩
          · rw [List.reverse_append, List.reverse_reverse, List.map_append]
            exact f9.ew
          · rw [← rep]
            exact f9.ec
          · rw [← rep]
            exact f9.ep
          · rw [List.map_append]
            exact f9.ek
          · intro z m
            rcases List.mem_append.mp m with m | m
            · exact ⟨StA.ts f9.ts (kk z m).1, (kk z m).2⟩
            · rw [List.mem_singleton.mp m]
              exact ⟨StA.ts f9.ts ax, dx⟩
          · intro y dy
            rw [has_ins, Bool.or_eq_true, decide_eq_true_eq, hh y dy]
            constructor
            · rintro (e1 | ⟨z, m, e1⟩)
              · exact ⟨(x, tx), List.mem_append_right _ List.mem_cons_self, (code_inj dy dx e1).symm⟩
              · exact ⟨z, List.mem_append_left _ m, e1⟩
            · rintro ⟨z, m, e1⟩
              rcases List.mem_append.mp m with m | m
              · exact .inr ⟨z, m, e1⟩
              · rw [List.mem_singleton.mp m] at e1
                exact .inl (by rw [← e1])
          · rw [List.length_append]
            show ks.length + 1 + n ≤ 2000
            omega
          · rw [List.length_append, List.length_reverse]
            omega
          · omega
          · omega
    case main =>
      intro kd nkd
      have sk : Same H (upd H kd (NK P w kd [])) := same_new nkd
      have ekd : (upd H kd (NK P w kd [])) kd = some (NK P w kd []) := upd_same
      refine ⟨sz (by simp), fun th G1 n1 s1 e1 => ?_⟩
      refine ⟨_, rfl, _, rfl, sz (by simp), fun tx G2 n2 s2 e2 => ?_⟩
      refine ⟨sz (by simp), fun wt G3 n3 _ s3 e3 => ?_⟩
      refine ⟨sz (by simp), fun ct G4 n4 _ s4 e4 => ?_⟩
      refine ⟨sz (by simp), fun pt G5 n5 _ s5 e5 => ?_⟩
      refine ⟨sz (by simp), fun t4 G6 n6 s6 e6 => ?_⟩
      refine ⟨t4, _, rfl, SqT.of e6, rfl, _, _, rfl, _, _, rfl, _, _, rfl, _, _, rfl, rfl, ?_⟩
      have none_of : ∀ {G : Hp} {a : Addr}, Same H G → G a = none → H a = none := fun {G a} s n => by
        cases e : H a with
        | none => rfl
        | some o => rw [s _ _ e] at n; cases n
      have S2 := sk.trans (s1.trans s2)
      have S3 := S2.trans s3
      have S4 := S3.trans s4
      have ek2 := s2 _ _ (s1 _ _ ekd)
      have sp : Sep H kd wt ct pt := ⟨nkd, none_of S2 n3, none_of S3 n4, none_of S4 n5, ne_of_none ek2 n3, ne_of_none (s3 _ _ ek2) n4, ne_of_none (s4 _ _ (s3 _ _ ek2)) n5, ne_of_none e3 n4, ne_of_none (s4 _ _ e3) n5, ne_of_none e4 n5⟩
      have lv : Lv P w H po ke an ma (c + 1) RES kd wt ct pt 1999 G6 := by
        refine ⟨S4.trans (s5.trans s6), .lf, [start fl ls], [tx], [], [], [], hrun, .cons ?_ .nil, ?_, ?_, ?_, ?_, (fun z m => by cases m), ?_, by decide, (show 1 + 6 * 1999 ≤ 12000 by decide), by decide, by decide⟩
        · exact ⟨th, s6 _ _ (s5 _ _ (s4 _ _ (s3 _ _ e2))), s6 _ _ (s5 _ _ (s4 _ _ (s3 _ _ (s2 _ _ e1))))⟩
        · exact s6 _ _ (s5 _ _ (s4 _ _ e3))
        · exact s6 _ _ (s5 _ _ e4)
        · exact s6 _ _ e5
        · exact s6 _ _ (s5 _ _ (s4 _ _ (s3 _ _ ek2)))
        · intro y _
          constructor
          · intro h
            cases h
          · rintro ⟨z, m, _⟩
            cases m
      refine ⟨kd, wt, ct, pt, _, _, rfl, sp, lv, fun z8 z9 G' sG ec ep => ?_⟩
      obtain ⟨a1, a2, a3, a4, ea, m1, m2, m3, m4⟩ := fits_of hfit
      have mapI : ∀ ys : List Nat, ys.reverse.map nI = (ys.reverse.map fun (x : Nat) => (x : Int)).map V.int := fun ys => by rw [List.map_map]; rfl
      rw [mapI] at ec ep
      refine ⟨_, rfl, ct, _, rfl, SqL.of ec, m1.len, fun v1 i1 q1 => ?_⟩
      refine ⟨_, rfl, ct, _, rfl, SqL.of ec, m1.len, fun v2 i2 q2 => ?_⟩
      refine ⟨_, rfl, pt, _, rfl, SqL.of ep, m3.len, fun v3 i3 q3 => ?_⟩
      refine ⟨_, rfl, pt, _, rfl, SqL.of ep, m3.len, fun v4 i4 q4 => ?_⟩
      refine ⟨sz (by simp), fun t G7 nt s7 e7 => ?_⟩
      refine kQ t G7 (sG.trans s7) ?_
      rw [e7, ea, m1.eq i1 q1, m2.eq i2 q2, m3.eq i3 q3, m4.eq i4 q4]
      rfl
end
end K69

set_option Elab.async false
set_option linter.all false
set_option maxRecDepth 100000
namespace W8
theorem g_00ff : goodW 0 0 false false = true := by decide +kernel
theorem g_01ff : goodW 0 1 false false = true := by decide +kernel
theorem g_02ff : goodW 0 2 false false = true := by decide +kernel
theorem g_10ff : goodW 1 0 false false = true := by decide +kernel
theorem g_11ff : goodW 1 1 false false = true := by decide +kernel
theorem g_12ff : goodW 1 2 false false = true := by decide +kernel
theorem g_20ff : goodW 2 0 false false = true := by decide +kernel
theorem g_21ff : goodW 2 1 false false = true := by decide +kernel
theorem g_22ff : goodW 2 2 false false = true := by decide +kernel
end W8

set_option Elab.async false
set_option linter.all false
set_option maxRecDepth 100000
namespace W8
theorem g_00ft : goodW 0 0 false true = true := by decide +kernel
theorem g_01ft : goodW 0 1 false true = true := by decide +kernel
theorem g_02ft : goodW 0 2 false true = true := by decide +kernel
theorem g_10ft : goodW 1 0 false true = true := by decide +kernel
theorem g_11ft : goodW 1 1 false true = true := by decide +kernel
theorem g_12ft : goodW 1 2 false true = true := by decide +kernel
theorem g_20ft : goodW 2 0 false true = true := by decide +kernel
theorem g_21ft : goodW 2 1 false true = true := by decide +kernel
theorem g_22ft : goodW 2 2 false true = true := by decide +kernel
end W8

set_option Elab.async false
set_option linter.all false
set_option maxRecDepth 100000
namespace W8
theorem g_00tf : goodW 0 0 true false = true := by decide +kernel
theorem g_01tf : goodW 0 1 true false = true := by decide +kernel
theorem g_02tf : goodW 0 2 true false = true := by decide +kernel
theorem g_10tf : goodW 1 0 true false = true := by decide +kernel
theorem g_11tf : goodW 1 1 true false = true := by decide +kernel
theorem g_12tf : goodW 1 2 true false = true := by decide +kernel
theorem g_20tf : goodW 2 0 true false = true := by decide +kernel
theorem g_21tf : goodW 2 1 true false = true := by decide +kernel
theorem g_22tf : goodW 2 2 true false = true := by decide +kernel
end W8

set_option Elab.async false
set_option linter.all false
set_option maxRecDepth 100000
namespace W8
theorem g_00tt : goodW 0 0 true true = true := by decide +kernel
theorem g_01tt : goodW 0 1 true true = true := by decide +kernel
theorem g_02tt : goodW 0 2 true true = true := by decide +kernel
theorem g_10tt : goodW 1 0 true true = true := by decide +kernel
theorem g_11tt : goodW 1 1 true true = true := by decide +kernel
theorem g_12tt : goodW 1 2 true true = true := by decide +kernel
theorem g_20tt : goodW 2 0 true true = true := by decide +kernel
theorem g_21tt : goodW 2 1 true true = true := by decide +kernel
theorem g_22tt : goodW 2 2 true true = true := by decide +kernel
end W8

set_option Elab.async false
set_option linter.all false
set_option maxRecDepth 100000
set_option maxHeartbeats 8000000
namespace K69
open PySem L2 Pen RG KEq W8
theorem acc_eqI {po ke : Nat} {an ma : Bool} (hp : po < 3) (hk : ke < 3) (n f l : Int) : accP (pW po) (kW ke) (bW an) (bW ma) n f l = (accI po ke an ma n f l).map V.int := by
  have n1 : (("outbox" : Str) = "after") = False := by decide +kernel
  have n2 : (("outbox" : Str) = "before") = False := by decide +kernel
  have n3 : (("after" : Str) = "before") = False := by decide +kernel
  have n4 : (("late" : Str) = "inbox") = False := by decide +kernel
  have n5 : (("plain" : Str) = "inbox") = False := by decide +kernel
  have n6 : (("late" : Str) = "plain") = False := by decide +kernel
  have n7 : (("inbox" : Str) = "plain") = False := by decide +kernel
  have n8 : (("ahead" : Str) = "behind") = False := by decide +kernel
  have e1 : mxI = mx := rfl
  have e2 : mnI = mn := rfl
  rcases (by omega : po = 0 ∨ po = 1 ∨ po = 2) with rfl | rfl | rfl <;> rcases (by omega : ke = 0 ∨ ke = 1 ∨ ke = 2) with rfl | rfl | rfl <;> cases an <;> cases ma <;>
    simp [accP, cmP, lr, accI, cmI, lrI, pW, kW, bW, n1, n2, n3, n4, n5, n6, n7, n8, e1, e2]
theorem acc_small {po ke : Nat} {an ma : Bool} {c f l : Nat} (hc : c < 3) (hf : f < 3) (hl : l < 3) : ∃ x y z u : Int, accI po ke an ma ((c + 1 : Nat) : Int) f l = [x, y, z, u] ∧ (0 ≤ x ∧ x ≤ 4 * great + 2) ∧ (0 ≤ y ∧ y ≤ 4 * great + 2) ∧ (0 ≤ z ∧ z ≤ 4 * great + 2) ∧ (0 ≤ u ∧ u ≤ 4 * great + 2) := by
  have g : (100 : Int) ≤ 4 * great + 2 := by decide +kernel
  have lr0 : (0 ≤ (lrI ke an ((c + 1 : Nat) : Int) f).1 ∧ (lrI ke an ((c + 1 : Nat) : Int) f).1 ≤ 10) ∧ 0 ≤ (lrI ke an ((c + 1 : Nat) : Int) f).2 ∧ (lrI ke an ((c + 1 : Nat) : Int) f).2 ≤ 10 := by
    unfold lrI mxI mnI
    repeat' split
    all_goals (refine ⟨⟨?_, ?_⟩, ?_, ?_⟩ <;> simp only <;> omega)
  have cm0 : 0 ≤ cmI ke an ((c + 1 : Nat) : Int) f ∧ cmI ke an ((c + 1 : Nat) : Int) f ≤ 10 := by
    unfold cmI
    split
    · omega
    · exact lr0.2
  obtain ⟨⟨a1, a2⟩, a3, a4⟩ := lr0
  have mz : ∀ z : Int, 0 ≤ mxI 0 z ∧ (z ≤ 10 → mxI 0 z ≤ 10) := fun z => by
    unfold mxI
    split <;> omega
  unfold accI
  generalize (lrI ke an ((c + 1 : Nat) : Int) f) = q at *
  generalize (cmI ke an ((c + 1 : Nat) : Int) f) = r at *
  have m1 := mz (1 - f)
  have m2 := mz (q.1 - f)
  repeat' split
  all_goals (refine ⟨_, _, _, _, rfl, ?_, ?_, ?_, ?_⟩ <;> first | omega | exact ⟨by omega, by omega⟩ | (constructor <;> (have := m1.1; have := m1.2 (by omega); have := m2.1; have := m2.2 (by omega); omega)))
/-- the walk tells what account tells -/
theorem good_all {po ke : Nat} {an ma : Bool} {c f l : Nat} (hp : po < 3) (hk : ke < 3) (hc : c < 3) (hf : f < 3) (hl : l < 3) : good po ke an ma c f (if 4 < c + f + l then 0 else l) = true := by
  have mem : ∀ c f l : Fin 3, (c.1, f.1, if 4 < c.1 + f.1 + l.1 then 0 else l.1) ∈ cfg := by decide
  have m := mem ⟨c, hc⟩ ⟨f, hf⟩ ⟨l, hl⟩
  have all : goodW po ke an ma = true := by
    rcases (by omega : po = 0 ∨ po = 1 ∨ po = 2) with rfl | rfl | rfl <;> rcases (by omega : ke = 0 ∨ ke = 1 ∨ ke = 2) with rfl | rfl | rfl <;> cases an <;> cases ma
    · exact g_00ff
    · exact g_00ft
    · exact g_00tf
    · exact g_00tt
    · exact g_01ff
    · exact g_01ft
    · exact g_01tf
    · exact g_01tt
    · exact g_02ff
    · exact g_02ft
    · exact g_02tf
    · exact g_02tt
    · exact g_10ff
    · exact g_10ft
    · exact g_10tf
    · exact g_10tt
    · exact g_11ff
    · exact g_11ft
    · exact g_11tf
    · exact g_11tt
    · exact g_12ff
    · exact g_12ft
    · exact g_12tf
    · exact g_12tt
    · exact g_20ff
    · exact g_20ft
    · exact g_20tf
    · exact g_20tt
    · exact g_21ff
    · exact g_21ft
    · exact g_21tf
    · exact g_21tt
    · exact g_22ff
    · exact g_22ft
    · exact g_22tf
    · exact g_22tt
  exact List.all_eq_true.mp all _ m
theorem road_of {p k a m : Str} (h : IsRoad p k a m) : ∃ po ke an ma, po < 3 ∧ ke < 3 ∧ p = pW po ∧ k = kW ke ∧ a = bW an ∧ m = bW ma := by
  obtain ⟨hp, hk, ha, hm⟩ := h
  rcases hp with rfl | rfl | rfl <;> rcases hk with rfl | rfl | rfl <;> rcases ha with rfl | rfl <;> rcases hm with rfl | rfl
  · exact ⟨0, 0, false, false, by decide, by decide, rfl, rfl, rfl, rfl⟩
  · exact ⟨0, 0, false, true, by decide, by decide, rfl, rfl, rfl, rfl⟩
  · exact ⟨0, 0, true, false, by decide, by decide, rfl, rfl, rfl, rfl⟩
  · exact ⟨0, 0, true, true, by decide, by decide, rfl, rfl, rfl, rfl⟩
  · exact ⟨0, 1, false, false, by decide, by decide, rfl, rfl, rfl, rfl⟩
  · exact ⟨0, 1, false, true, by decide, by decide, rfl, rfl, rfl, rfl⟩
  · exact ⟨0, 1, true, false, by decide, by decide, rfl, rfl, rfl, rfl⟩
  · exact ⟨0, 1, true, true, by decide, by decide, rfl, rfl, rfl, rfl⟩
  · exact ⟨0, 2, false, false, by decide, by decide, rfl, rfl, rfl, rfl⟩
  · exact ⟨0, 2, false, true, by decide, by decide, rfl, rfl, rfl, rfl⟩
  · exact ⟨0, 2, true, false, by decide, by decide, rfl, rfl, rfl, rfl⟩
  · exact ⟨0, 2, true, true, by decide, by decide, rfl, rfl, rfl, rfl⟩
  · exact ⟨1, 0, false, false, by decide, by decide, rfl, rfl, rfl, rfl⟩
  · exact ⟨1, 0, false, true, by decide, by decide, rfl, rfl, rfl, rfl⟩
  · exact ⟨1, 0, true, false, by decide, by decide, rfl, rfl, rfl, rfl⟩
  · exact ⟨1, 0, true, true, by decide, by decide, rfl, rfl, rfl, rfl⟩
  · exact ⟨1, 1, false, false, by decide, by decide, rfl, rfl, rfl, rfl⟩
  · exact ⟨1, 1, false, true, by decide, by decide, rfl, rfl, rfl, rfl⟩
  · exact ⟨1, 1, true, false, by decide, by decide, rfl, rfl, rfl, rfl⟩
  · exact ⟨1, 1, true, true, by decide, by decide, rfl, rfl, rfl, rfl⟩
  · exact ⟨1, 2, false, false, by decide, by decide, rfl, rfl, rfl, rfl⟩
  · exact ⟨1, 2, false, true, by decide, by decide, rfl, rfl, rfl, rfl⟩
  · exact ⟨1, 2, true, false, by decide, by decide, rfl, rfl, rfl, rfl⟩
  · exact ⟨1, 2, true, true, by decide, by decide, rfl, rfl, rfl, rfl⟩
  · exact ⟨2, 0, false, false, by decide, by decide, rfl, rfl, rfl, rfl⟩
  · exact ⟨2, 0, false, true, by decide, by decide, rfl, rfl, rfl, rfl⟩
  · exact ⟨2, 0, true, false, by decide, by decide, rfl, rfl, rfl, rfl⟩
  · exact ⟨2, 0, true, true, by decide, by decide, rfl, rfl, rfl, rfl⟩
  · exact ⟨2, 1, false, false, by decide, by decide, rfl, rfl, rfl, rfl⟩
  · exact ⟨2, 1, false, true, by decide, by decide, rfl, rfl, rfl, rfl⟩
  · exact ⟨2, 1, true, false, by decide, by decide, rfl, rfl, rfl, rfl⟩
  · exact ⟨2, 1, true, true, by decide, by decide, rfl, rfl, rfl, rfl⟩
  · exact ⟨2, 2, false, false, by decide, by decide, rfl, rfl, rfl, rfl⟩
  · exact ⟨2, 2, false, true, by decide, by decide, rfl, rfl, rfl, rfl⟩
  · exact ⟨2, 2, true, false, by decide, by decide, rfl, rfl, rfl, rfl⟩
  · exact ⟨2, 2, true, true, by decide, by decide, rfl, rfl, rfl, rfl⟩
section
variable {P : Program} {w : World} {K : PySem.W.Frag} {mg : Str → Option Value} {base : Heap}
theorem scLaw : FnScope ["_law_script", "_law_tape_here", "_law_turn", "_law_road", "_law_copies", "_law_falls", "_law_lost"] ["_law_script"] (defScope sLaw) := ⟨rfl, rfl, rfl, by decide +kernel, rfl, by decide +kernel, by decide +kernel⟩

theorem ok_law {fL fT fD fP fA fX fE C t0 t1 t2 t3 pE : Addr} {mc : Value} {dL dT dD dP dA dX dE : FuncData} (F : Fun K "law" "law" sLaw fL dL) (T : Txt mg)
    (GT : FnOk P w K mg base CX0 1 fT dT ["_law_script"] (spPen K)) (TT : DefT K mg "_law_tape" fT) (bT : Binds K dT ["_law_script"] [])
    (GD : FnOk P w K mg base CX0 1 fD dD ["_law_tape_here", "_law_many"] spDraw) (TD : DefT K mg "_law_draw" fD) (bD : Binds K dD ["_law_tape_here", "_law_many"] [])
    (GP : FnOk P w K mg base CX0 2 fP dP ["_law_tape_here", "_law_options"] (spPick K)) (TP : DefT K mg "_law_pick" fP) (bP : Binds K dP ["_law_tape_here", "_law_options"] [])
    (GA : FnOk P w K mg base CX0 2 fA dA ["way", "copies", "crashes", "losses"] (spAcc K)) (TA : DefT K mg "account" fA) (bA : Binds K dA ["way", "copies", "crashes", "losses"] [])
    (GX : FnOk P w K mg base CX0 3 fX dX ["_law_road", "_law_many", "_law_falls", "_law_lost"] (spExt K)) (TX : DefT K mg "_law_extremes" fX) (bX : Binds K dX ["_law_road", "_law_many", "_law_falls", "_law_lost"] [])
    (TW : WaysT K mg C mc t0 t1 t2 t3) (SM : SC.SMet K C mc "every" pE fE) (GEv : FnOk P w K mg base CX0 1 fE dE [] spEvery) (bEv : Binds K dE [] []) : FnG P w K mg base CX0 24 fL dL ["_law_script"] (spLaw K) := by
  refine okG (n := 23) F scLaw (fun ys G Want Err h => ?_) (fun cd B up st G ys Want Err hg hr told => ?_)
  · obtain ⟨a, ns, rfl, _⟩ := h
    rfl
  · obtain ⟨sa, ns, rfl, hS, hlen, kk⟩ := told
    refine ⟨_, (pss_cons (ps_set (i := 1) scLaw.nd rfl (Or.inl rfl) (pe_call GT (hr.mono (by decide)) rfl TT.mg TT.kp bT .nil pass0 (pa_cons (pv 0) pa_nil)))
      (pss_cons (ps_for PassesOwn.never rfl (pi_range1 (by rfl) T.range (pa_cons (pe_op op_add pe_int (pe_callB (call_min2 rfl) (by rfl) T.min (by decide +kernel) (pa_cons pe_int (pa_cons (pe_callB call_len_seq (by rfl) T.len PySem.boot_len (pa_cons (pv 0) pa_nil)) pa_nil)))) pa_nil)) (pg_name (i := 2) scLaw.nd rfl (Or.inl rfl)) (pss_cons (ps_set (i := 3) scLaw.nd rfl (Or.inl rfl) (pe_call GP (hr.mono (by decide)) rfl TP.mg TP.kp bP .nil pass0 (pa_cons (pv 1) (pa_cons (SC.pe_smeth0 (pe_glob (v := V.ref C) (by rfl) TW.at_ rfl) TW.rd SM GEv (hr.mono (by decide)) bEv pass0) pa_nil))))
      (pss_cons (ps_par3 (i := 4) (j := 5) (l := 6) (by rfl) scLaw.nd rfl rfl rfl (by decide) (by decide) (by decide) rfl rfl rfl (pa_cons (pe_call GD (hr.mono (by decide)) rfl TD.mg TD.kp bD .nil pass0 (pa_cons (pv 1) (pa_cons pe_int pa_nil))) (pa_cons (pe_call GD (hr.mono (by decide)) rfl TD.mg TD.kp bD .nil pass0 (pa_cons (pv 1) (pa_cons pe_int pa_nil))) (pa_cons (pe_call GD (hr.mono (by decide)) rfl TD.mg TD.kp bD .nil pass0 (pa_cons (pv 1) (pa_cons pe_int pa_nil))) pa_nil))) (by rfl))
      (pss_cons (ps_set (i := 6) scLaw.nd rfl (Or.inl rfl) (pe_ifExp (pt_cmpR op_gt (pe_op op_add (pe_op op_add (pv 4) (pv 5)) (pv 6)) pe_int (nomark _)) pe_int (pv 6)))
      (pss_one (ps_if (pt_cmpR op_ne (pe_callB (call_repr hg hr) (by rfl) T.repr (by decide +kernel) (pa_cons (pe_call GA (hr.mono (by decide)) rfl TA.mg TA.kp bA .nil pass0 (pa_cons (pv 3) (pa_cons (pv 4) (pa_cons (pv 5) (pa_cons (pv 6) pa_nil))))) pa_nil)) (pe_callB (call_repr hg hr) (by rfl) T.repr (by decide +kernel) (pa_cons (pe_call GX (hr.mono (by decide)) rfl TX.mg TX.kp bX .nil pass0 (pa_cons (pv 3) (pa_cons (pe_op op_add (pv 4) pe_int) (pa_cons (pv 5) (pa_cons (pv 6) pa_nil))))) pa_nil)) (nomark _)) (pss_one (ps_ret pe_bl)) pss_nil))))))
      (pss_one (ps_ret pe_bl)))), ?_⟩
    refine ⟨_, rfl, sa, ns, rfl, hS, hlen, fun p c H1 np Pn s1 => ?_⟩
    refine ⟨_, rfl, sa, _, rfl, .inl (s1.seq hS), _, _, rfl, _, _, rfl, rfl, _, rfl, ?lo, ?hi, for_range (n := _) (fun i σ H => σ.length = 7 ∧ σ[1]? = some (some (.ref p)) ∧ PenAt H p c ns (100 * i)) ⟨rfl, rfl, Pn⟩ (fun i σ G0 hi h => ?_) (fun σ G0 h => ?_)⟩
    case lo => split <;> omega
    case hi => split <;> omega
    · obtain ⟨L0, v1, P0⟩ := h
      obtain ⟨x0, x1, x2', x3', x4', x5', x6, rfl⟩ : ∃ x0 x1 x2 x3 x4 x5 x6, σ = [x0, x1, x2, x3, x4, x5, x6] := by
        match σ, L0 with
        | [x0, x1, x2, x3, x4, x5, x6], _ => exact ⟨x0, x1, x2, x3, x4, x5, x6, rfl⟩
      obtain rfl : x1 = _ := Option.some.inj v1
      clear v1 L0
      have hi' : i < 25 := by
        refine Nat.lt_of_lt_of_le hi ?_
        split <;> omega
      refine ⟨_, rfl, rfl, rfl, fun l xs G1 s1 nl el len rd => ?_⟩
      refine ⟨p, c, ns, _, l, xs, rfl, P0.same s1, hlen, by omega, el, by omega, by omega, fun v G2 hv P2 x2 => ?_⟩
      obtain ⟨r, q, k, a, m, rfl, er, ir⟩ := rd v hv
      obtain ⟨po, ke, an, ma, hp, hk, rfl, rfl, rfl, rfl⟩ := road_of ir
      have rp : r ≠ p := tup_off (P0.same s1) er
      refine ⟨_, rfl, p, c, ns, _, 3, rfl, P2, hlen, by omega, by decide, by decide, fun c1 G3 e0 e1 P3 x3 => ?_⟩
      refine ⟨_, rfl, p, c, ns, _, 3, rfl, P3, hlen, by omega, by decide, by decide, fun f1 G4 f0 f2 P4 x4 => ?_⟩
      refine ⟨_, rfl, p, c, ns, _, 3, rfl, P4, hlen, by omega, by decide, by decide, fun l1 G5 l0 l2 P5 x5 => ⟨_, _, _, rfl, ?_⟩⟩
      obtain ⟨cN, rfl⟩ := Int.eq_ofNat_of_zero_le e0
      obtain ⟨fN, rfl⟩ := Int.eq_ofNat_of_zero_le f0
      obtain ⟨lN, rfl⟩ := Int.eq_ofNat_of_zero_le l0
      have c3 : cN < 3 := by omega
      have f3 : fN < 3 := by omega
      have l3 : lN < 3 := by omega
      have er5 : G5 r = some (.tup (rdV po ke an ma)) := x5 _ _ rp (x4 _ _ rp (x3 _ _ rp (x2 _ _ rp er)))
      refine ⟨_, rfl, _, rfl, _, _, rfl, rfl, _, rfl, _, _, rfl, rfl, _, _, rfl, rfl, _, rfl, ite2 (fun big => ?A) (fun big => ⟨_, rfl, ?B⟩)⟩
      case A =>
        have big : ((cN : Int) + fN + lN) > 4 := of_decide_eq_true big
        have gd : good po ke an ma cN fN 0 = true := by
          have := good_all (an := an) (ma := ma) hp hk c3 f3 l3
          rw [if_pos (by omega)] at this
          exact this
        have lx3 : (0 : Nat) < 3 := by omega
        obtain ⟨y1, y2, y3, y4, ea, b1, b2, b3, b4⟩ := acc_small (po := po) (ke := ke) (an := an) (ma := ma) c3 f3 lx3
        obtain ⟨sh1, sh2, sh3⟩ := dat_ok b1.1 b1.2 b2.1 b2.2 b3.1 b3.2 b4.1 b4.2
        have gr : (3 : Int) ≤ great := by decide +kernel
        refine ⟨_, rfl, _, rfl, _, rfl, _, rfl, r, pW po, kW ke, bW an, bW ma, (cN : Int), (fN : Int), ((0 : Nat) : Int), rfl, ⟨.of er5, ir⟩, ⟨by omega, by omega⟩, ⟨by omega, by omega⟩, ⟨by omega, by omega⟩, fun ta G6 s6 ha => ?_⟩
        have ha : SqT K G6 ta [.int y1, .int y2, .int y3, .int y4] := by
          rw [show ((cN : Int) + 1) = ((cN + 1 : Nat) : Int) from rfl, acc_eqI hp hk, ea] at ha
          exact ha
        refine ⟨.ref ta, _, rfl, rp_four ha, sh1, sh2, sh3, ?_⟩
        refine ⟨_, rfl, _, rfl, _, _, rfl, rfl, _, rfl, _, rfl, r, po, ke, an, ma, cN, fN, 0, rfl, hp, hk, Dat.sqT_same s6 (.of er5), gd, fun tb G7 s7 hb => ?_⟩
        rw [ea] at hb
        refine ⟨.ref tb, _, rfl, rp_four (.of hb), sh1, sh2, sh3, rfl, false, by simp, iteF ?_⟩
        exact ⟨rfl, rfl, ((P5.same s6).same s7).mono (by omega)⟩
      case B =>
        have big : ¬ ((cN : Int) + fN + lN) > 4 := fun z => big (decide_eq_true z)
        have gd : good po ke an ma cN fN lN = true := by
          have := good_all (an := an) (ma := ma) hp hk c3 f3 l3
          rw [if_neg (by omega)] at this
          exact this
        have lx3 : (lN : Nat) < 3 := by omega
        obtain ⟨y1, y2, y3, y4, ea, b1, b2, b3, b4⟩ := acc_small (po := po) (ke := ke) (an := an) (ma := ma) c3 f3 lx3
        obtain ⟨sh1, sh2, sh3⟩ := dat_ok b1.1 b1.2 b2.1 b2.2 b3.1 b3.2 b4.1 b4.2
        have gr : (3 : Int) ≤ great := by decide +kernel
        refine ⟨_, rfl, _, rfl, _, rfl, _, rfl, r, pW po, kW ke, bW an, bW ma, (cN : Int), (fN : Int), ((lN : Nat) : Int), rfl, ⟨.of er5, ir⟩, ⟨by omega, by omega⟩, ⟨by omega, by omega⟩, ⟨by omega, by omega⟩, fun ta G6 s6 ha => ?_⟩
        have ha : SqT K G6 ta [.int y1, .int y2, .int y3, .int y4] := by
          rw [show ((cN : Int) + 1) = ((cN + 1 : Nat) : Int) from rfl, acc_eqI hp hk, ea] at ha
          exact ha
        refine ⟨.ref ta, _, rfl, rp_four ha, sh1, sh2, sh3, ?_⟩
        refine ⟨_, rfl, _, rfl, _, _, rfl, rfl, _, rfl, _, rfl, r, po, ke, an, ma, cN, fN, lN, rfl, hp, hk, Dat.sqT_same s6 (.of er5), gd, fun tb G7 s7 hb => ?_⟩
        rw [ea] at hb
        refine ⟨.ref tb, _, rfl, rp_four (.of hb), sh1, sh2, sh3, rfl, false, by simp, iteF ?_⟩
        exact ⟨rfl, rfl, ((P5.same s6).same s7).mono (by omega)⟩
    · exact kk _
end
end K69

set_option Elab.async false
set_option linter.all false
set_option maxRecDepth 100000
set_option maxHeartbeats 8000000
namespace K69
open PySem L2 Pen RG KEq
theorem all_mk {l : PySem.W.OpenLaw} {w : World} {K : PySem.W.Frag} {h : Heap} {mg : Str → Option Value} {C pE t0 t1 t2 t3 fa g0 g1 g2 g3 g4 g5 g6 g7 g8 g9 g10 g11 g12 : Addr} {goc0 gkV0 gdc0 gpm0 gcd0 gct0 goc1 gkV1 gdc1 gpm1 gcd1 gct1 goc2 gkV2 gdc2 gpm2 gcd2 gct2 goc3 gkV3 gdc3 gpm3 gcd3 gct3 goc4 gkV4 gdc4 gpm4 gcd4 gct4 goc5 gkV5 gdc5 gpm5 gcd5 gct5 goc6 gkV6 gdc6 gpm6 gcd6 gct6 goc7 gkV7 gdc7 gpm7 gcd7 gct7 goc8 gkV8 gdc8 gpm8 gcd8 gct8 goc9 gkV9 gdc9 gpm9 gcd9 gct9 goc10 gkV10 gdc10 gpm10 gcd10 gct10 goc11 gkV11 gdc11 gpm11 gcd11 gct11 goc12 gkV12 gdc12 gpm12 gcd12 gct12 : Value} {god0 gan0 god1 gan1 god2 gan2 god3 gan3 god4 gan4 god5 gan5 god6 gan6 god7 gan7 god8 gan8 god9 gan9 god10 gan10 god11 gan11 god12 gan12 tod0 tod1 tod2 tod3 : Option Addr} {gsl0 gsl1 gsl2 gsl3 gsl4 gsl5 gsl6 gsl7 gsl8 gsl9 gsl10 gsl11 gsl12 tsl0 tsl1 tsl2 tsl3 : Array (Option Value)} {tk00 tk01 tk02 tk10 tk11 tk12 tk20 tk21 tk30 tk31 : Tok} {tn0 tn1 tn2 tn3 : Nat} {rest : List Value} (X : K.In h) (G : h.Ns mainGlobals mg) (hfa : mg "law" = some (.ref fa))
    (z_int : PySem.W.nsIn K mainGlobals "int" = some none)
    (z_len : PySem.W.nsIn K mainGlobals "len" = some none)
    (z_abs : PySem.W.nsIn K mainGlobals "abs" = some none)
    (z_list : PySem.W.nsIn K mainGlobals "list" = some none)
    (z_dict : PySem.W.nsIn K mainGlobals "dict" = some none)
    (z_min : PySem.W.nsIn K mainGlobals "min" = some none)
    (z_max : PySem.W.nsIn K mainGlobals "max" = some none)
    (z_range : PySem.W.nsIn K mainGlobals "range" = some none)
    (z_repr : PySem.W.nsIn K mainGlobals "repr" = some none)
    (z_isinstance : PySem.W.nsIn K mainGlobals "isinstance" = some none)
    (z_tuple : PySem.W.nsIn K mainGlobals "tuple" = some none)
    (z_bool : PySem.W.nsIn K mainGlobals "bool" = some none)
    (aD0 : PySem.W.nsIn K mainGlobals "_law_tape" = some (some (.ref g0)))
    (lD0 : K.lookup g0 = some ⟨goc0, god0, .func (PySem.W.fnOf "_law_tape" "_law_tape" (defArgs sTape) (defBody sTape) (defScope sTape) .none gkV0 gdc0 gpm0 gan0 gcd0 gct0), gsl0⟩)
    (cD0 : PySem.W.codeIn K gcd0 "_law_tape" = true)
    (kD0 : PySem.W.keepIn K (.ref g0) = true)
    (aD1 : PySem.W.nsIn K mainGlobals "_law_draw" = some (some (.ref g1)))
    (lD1 : K.lookup g1 = some ⟨goc1, god1, .func (PySem.W.fnOf "_law_draw" "_law_draw" (defArgs sDraw) (defBody sDraw) (defScope sDraw) .none gkV1 gdc1 gpm1 gan1 gcd1 gct1), gsl1⟩)
    (cD1 : PySem.W.codeIn K gcd1 "_law_draw" = true)
    (kD1 : PySem.W.keepIn K (.ref g1) = true)
    (aD2 : PySem.W.nsIn K mainGlobals "_law_pick" = some (some (.ref g2)))
    (lD2 : K.lookup g2 = some ⟨goc2, god2, .func (PySem.W.fnOf "_law_pick" "_law_pick" (defArgs sPick) (defBody sPick) (defScope sPick) .none gkV2 gdc2 gpm2 gan2 gcd2 gct2), gsl2⟩)
    (cD2 : PySem.W.codeIn K gcd2 "_law_pick" = true)
    (kD2 : PySem.W.keepIn K (.ref g2) = true)
    (aD3 : PySem.W.nsIn K mainGlobals "_law_todo" = some (some (.ref g3)))
    (lD3 : K.lookup g3 = some ⟨goc3, god3, .func (PySem.W.fnOf "_law_todo" "_law_todo" (defArgs sTodo) (defBody sTodo) (defScope sTodo) .none gkV3 gdc3 gpm3 gan3 gcd3 gct3), gsl3⟩)
    (cD3 : PySem.W.codeIn K gcd3 "_law_todo" = true)
    (kD3 : PySem.W.keepIn K (.ref g3) = true)
    (aD4 : PySem.W.nsIn K mainGlobals "_law_worked" = some (some (.ref g4)))
    (lD4 : K.lookup g4 = some ⟨goc4, god4, .func (PySem.W.fnOf "_law_worked" "_law_worked" (defArgs sWkd) (defBody sWkd) (defScope sWkd) .none gkV4 gdc4 gpm4 gan4 gcd4 gct4), gsl4⟩)
    (cD4 : PySem.W.codeIn K gcd4 "_law_worked" = true)
    (kD4 : PySem.W.keepIn K (.ref g4) = true)
    (aD5 : PySem.W.nsIn K mainGlobals "_law_moves" = some (some (.ref g5)))
    (lD5 : K.lookup g5 = some ⟨goc5, god5, .func (PySem.W.fnOf "_law_moves" "_law_moves" (defArgs sMv) (defBody sMv) (defScope sMv) .none gkV5 gdc5 gpm5 gan5 gcd5 gct5), gsl5⟩)
    (cD5 : PySem.W.codeIn K gcd5 "_law_moves" = true)
    (kD5 : PySem.W.keepIn K (.ref g5) = true)
    (aD6 : PySem.W.nsIn K mainGlobals "_law_extremes" = some (some (.ref g6)))
    (lD6 : K.lookup g6 = some ⟨goc6, god6, .func (PySem.W.fnOf "_law_extremes" "_law_extremes" (defArgs sExt) (defBody sExt) (defScope sExt) .none gkV6 gdc6 gpm6 gan6 gcd6 gct6), gsl6⟩)
    (cD6 : PySem.W.codeIn K gcd6 "_law_extremes" = true)
    (kD6 : PySem.W.keepIn K (.ref g6) = true)
    (aD7 : PySem.W.nsIn K mainGlobals "account" = some (some (.ref g7)))
    (lD7 : K.lookup g7 = some ⟨goc7, god7, .func (PySem.W.fnOf "account" "account" (defArgs sAcc) (defBody sAcc) (defScope sAcc) .none gkV7 gdc7 gpm7 gan7 gcd7 gct7), gsl7⟩)
    (cD7 : PySem.W.codeIn K gcd7 "account" = true)
    (kD7 : PySem.W.keepIn K (.ref g7) = true)
    (aD8 : PySem.W.nsIn K mainGlobals "is_way" = some (some (.ref g8)))
    (lD8 : K.lookup g8 = some ⟨goc8, god8, .func (PySem.W.fnOf "is_way" "is_way" (defArgs sIsWay) (defBody sIsWay) (defScope sIsWay) .none gkV8 gdc8 gpm8 gan8 gcd8 gct8), gsl8⟩)
    (cD8 : PySem.W.codeIn K gcd8 "is_way" = true)
    (kD8 : PySem.W.keepIn K (.ref g8) = true)
    (aD9 : PySem.W.nsIn K mainGlobals "is_number" = some (some (.ref g9)))
    (lD9 : K.lookup g9 = some ⟨goc9, god9, .func (PySem.W.fnOf "is_number" "is_number" (defArgs sIsNum) (defBody sIsNum) (defScope sIsNum) .none gkV9 gdc9 gpm9 gan9 gcd9 gct9), gsl9⟩)
    (cD9 : PySem.W.codeIn K gcd9 "is_number" = true)
    (kD9 : PySem.W.keepIn K (.ref g9) = true)
    (aD10 : PySem.W.nsIn K mainGlobals "runs_of" = some (some (.ref g10)))
    (lD10 : K.lookup g10 = some ⟨goc10, god10, .func (PySem.W.fnOf "runs_of" "runs_of" (defArgs sRuns) (defBody sRuns) (defScope sRuns) .none gkV10 gdc10 gpm10 gan10 gcd10 gct10), gsl10⟩)
    (cD10 : PySem.W.codeIn K gcd10 "runs_of" = true)
    (kD10 : PySem.W.keepIn K (.ref g10) = true)
    (aD11 : PySem.W.nsIn K mainGlobals "law" = some (some (.ref g11)))
    (lD11 : K.lookup g11 = some ⟨goc11, god11, .func (PySem.W.fnOf "law" "law" (defArgs sLaw) (defBody sLaw) (defScope sLaw) .none gkV11 gdc11 gpm11 gan11 gcd11 gct11), gsl11⟩)
    (cD11 : PySem.W.codeIn K gcd11 "law" = true)
    (kD11 : PySem.W.keepIn K (.ref g11) = true)
    (aW : PySem.W.nsIn K mainGlobals "Ways" = some (some (.ref C)))
    (rW : PySem.W.readsIn K C (.type "type") = true)
    (gW : PySem.W.specialIn K (.ref C) "__getattribute__" = some (some (.builtin "type.__getattribute__")))
    (fW0 : PySem.W.findCls K (.ref C) (.type "type") "POSTING" = some (.val (.ref t0)))
    (tW0 : K.lookup t0 = some ⟨.type "tuple", tod0, .seq #[.str "outbox" tk00, .str "after" tk01, .str "before" tk02] tn0, tsl0⟩)
    (fW1 : PySem.W.findCls K (.ref C) (.type "type") "KEEPING" = some (.val (.ref t1)))
    (tW1 : K.lookup t1 = some ⟨.type "tuple", tod1, .seq #[.str "inbox" tk10, .str "late" tk11, .str "plain" tk12] tn1, tsl1⟩)
    (fW2 : PySem.W.findCls K (.ref C) (.type "type") "ANSWERING" = some (.val (.ref t2)))
    (tW2 : K.lookup t2 = some ⟨.type "tuple", tod2, .seq #[.str "behind" tk20, .str "ahead" tk21] tn2, tsl2⟩)
    (fW3 : PySem.W.findCls K (.ref C) (.type "type") "MARKING" = some (.val (.ref t3)))
    (tW3 : K.lookup t3 = some ⟨.type "tuple", tod3, .seq #[.str "behind" tk30, .str "ahead" tk31] tn3, tsl3⟩)
    (sE : PySem.W.findCls K (.ref C) (.type "type") "every" = some (.get (.builtin "staticmethod.__get__") (.ref pE) .none (.ref C)))
    (aD12 : PySem.W.recIn K pE "staticmethod" = some (.ref g12 :: rest))
    (lD12 : K.lookup g12 = some ⟨goc12, god12, .func (PySem.W.fnOf "every" "Ways.every" (defArgs sEvery) (defBody sEvery) (defScope sEvery) .none gkV12 gdc12 gpm12 gan12 gcd12 gct12), gsl12⟩)
    (cD12 : PySem.W.codeIn K gcd12 "Ways.every" = true)
    (kD12 : PySem.W.keepIn K (.ref g12) = true) :
    ∃ fd : FuncData, (∀ (s : Shared) (v : Value), BindsTo s fd ⟨[v], []⟩ [("_law_script", v)]) ∧ ∀ base : Heap, K.In base → base.Ns mainGlobals mg → FnG l.prog w K mg base CX0 24 fa fd ["_law_script"] (spLaw K) := by
  have e := hfa.symm.trans (PySem.W.mg_of X G aD11)
  cases e
  have FT := fun_mk (st := sTape) lD0 cD0 kD0
  have bT := FT.binds (ps := ["_law_script"]) fun _ _ _ _ _ _ us hl => match us, hl with | [_], _ => rfl
  have TT : DefT K mg "_law_tape" g0 := ⟨PySem.W.mg_of X G aD0, kD0⟩
  have FD := fun_mk (st := sDraw) lD1 cD1 kD1
  have bD := FD.binds (ps := ["_law_tape_here", "_law_many"]) fun _ _ _ _ _ _ us hl => match us, hl with | [_, _], _ => rfl
  have TD : DefT K mg "_law_draw" g1 := ⟨PySem.W.mg_of X G aD1, kD1⟩
  have FP := fun_mk (st := sPick) lD2 cD2 kD2
  have bP := FP.binds (ps := ["_law_tape_here", "_law_options"]) fun _ _ _ _ _ _ us hl => match us, hl with | [_, _], _ => rfl
  have TP : DefT K mg "_law_pick" g2 := ⟨PySem.W.mg_of X G aD2, kD2⟩
  have FTd := fun_mk (st := sTodo) lD3 cD3 kD3
  have bTd := FTd.binds (ps := ["_law_road", "_law_is_noted"]) fun _ _ _ _ _ _ us hl => match us, hl with | [_, _], _ => rfl
  have TTd : DefT K mg "_law_todo" g3 := ⟨PySem.W.mg_of X G aD3, kD3⟩
  have FWk := fun_mk (st := sWkd) lD4 cD4 kD4
  have bWk := FWk.binds (ps := ["_law_road", "_law_now"]) fun _ _ _ _ _ _ us hl => match us, hl with | [_, _], _ => rfl
  have TWk : DefT K mg "_law_worked" g4 := ⟨PySem.W.mg_of X G aD4, kD4⟩
  have FMv := fun_mk (st := sMv) lD5 cD5 kD5
  have bMv := FMv.binds (ps := ["_law_road", "_law_many", "_law_now"]) fun _ _ _ _ _ _ us hl => match us, hl with | [_, _, _], _ => rfl
  have TMv : DefT K mg "_law_moves" g5 := ⟨PySem.W.mg_of X G aD5, kD5⟩
  have FX := fun_mk (st := sExt) lD6 cD6 kD6
  have bX := FX.binds (ps := ["_law_road", "_law_many", "_law_falls", "_law_lost"]) fun _ _ _ _ _ _ us hl => match us, hl with | [_, _, _, _], _ => rfl
  have TX : DefT K mg "_law_extremes" g6 := ⟨PySem.W.mg_of X G aD6, kD6⟩
  have FA := fun_mk (st := sAcc) lD7 cD7 kD7
  have bA := FA.binds (ps := ["way", "copies", "crashes", "losses"]) fun _ _ _ _ _ _ us hl => match us, hl with | [_, _, _, _], _ => rfl
  have TA : DefT K mg "account" g7 := ⟨PySem.W.mg_of X G aD7, kD7⟩
  have FY := fun_mk (st := sIsWay) lD8 cD8 kD8
  have bY := FY.binds (ps := ["value"]) fun _ _ _ _ _ _ us hl => match us, hl with | [_], _ => rfl
  have TY : DefT K mg "is_way" g8 := ⟨PySem.W.mg_of X G aD8, kD8⟩
  have FJ := fun_mk (st := sIsNum) lD9 cD9 kD9
  have bJ := FJ.binds (ps := ["value"]) fun _ _ _ _ _ _ us hl => match us, hl with | [_], _ => rfl
  have TJ : DefT K mg "is_number" g9 := ⟨PySem.W.mg_of X G aD9, kD9⟩
  have FR := fun_mk (st := sRuns) lD10 cD10 kD10
  have bR := FR.binds (ps := ["way", "entries", "crashes"]) fun _ _ _ _ _ _ us hl => match us, hl with | [_, _, _], _ => rfl
  have TR : DefT K mg "runs_of" g10 := ⟨PySem.W.mg_of X G aD10, kD10⟩
  have FL := fun_mk (st := sLaw) lD11 cD11 kD11
  have FEv := fun_mk (st := sEvery) lD12 cD12 kD12
  have bEv := FEv.binds (ps := []) fun _ _ _ _ _ _ us hl => match us, hl with | [], _ => rfl
  have T : Txt mg := ⟨PySem.W.mg_none_of X G z_int, PySem.W.mg_none_of X G z_len, PySem.W.mg_none_of X G z_abs, PySem.W.mg_none_of X G z_list, PySem.W.mg_none_of X G z_dict, PySem.W.mg_none_of X G z_min, PySem.W.mg_none_of X G z_max, PySem.W.mg_none_of X G z_range, PySem.W.mg_none_of X G z_repr⟩
  have TI : TxtI mg := ⟨PySem.W.mg_none_of X G z_isinstance, PySem.W.mg_none_of X G z_tuple, PySem.W.mg_none_of X G z_int, PySem.W.mg_none_of X G z_bool⟩
  have tw : ∀ {t : Addr} {od : Option Addr} {its : Array Value} {n : Nat} {sl : Array (Option Value)} {xs : List V}, K.lookup t = some ⟨.type "tuple", od, .seq its n, sl⟩ → its.size ≤ 99 → Vals xs its.toList → ∀ H, SqT K H t xs := fun l z v H => .inr ⟨_, _, _, l, rfl, rfl, Nat.le_trans z (by decide), v⟩
  have TW : WaysT K mg C (.type "type") t0 t1 t2 t3 := ⟨PySem.W.mg_of X G aW, ⟨rW, gW⟩, ⟨fW0, rfl⟩, ⟨fW1, rfl⟩, ⟨fW2, rfl⟩, ⟨fW3, rfl⟩, tw tW0 (by simp) (.cons ⟨_, rfl⟩ (.cons ⟨_, rfl⟩ (.cons ⟨_, rfl⟩ .nil))), tw tW1 (by simp) (.cons ⟨_, rfl⟩ (.cons ⟨_, rfl⟩ (.cons ⟨_, rfl⟩ .nil))), tw tW2 (by simp) (.cons ⟨_, rfl⟩ (.cons ⟨_, rfl⟩ .nil)), tw tW3 (by simp) (.cons ⟨_, rfl⟩ (.cons ⟨_, rfl⟩ .nil))⟩
  have SM : SC.SMet K C (.type "type") "every" pE g12 := ⟨sE, ⟨rest, aD12⟩, kD12⟩
  refine ⟨PySem.W.fnOf "law" "law" (defArgs sLaw) (defBody sLaw) (defScope sLaw) .none gkV11 gdc11 gpm11 gan11 gcd11 gct11, fun s v => .of_eq rfl, fun base _ _ => ?_⟩
  have GT := ok_tape (P := l.prog) (w := w) (base := base) FT T
  have GD := ok_draw (P := l.prog) (w := w) (base := base) FD T
  have GP := ok_pick (P := l.prog) (w := w) (base := base) FP T GD TD bD
  have GEv := ok_every (P := l.prog) (w := w) (base := base) FEv TW
  have GY := ok_way (P := l.prog) (w := w) (base := base) FY T TI TW
  have GJ := ok_isnum (P := l.prog) (w := w) (base := base) FJ TI
  have GR := ok_runs (P := l.prog) (w := w) (base := base) FR T
  have GA := ok_acc FA T GY TY bY GJ TJ bJ GR TR bR
  have GTd := ok_todo (P := l.prog) (w := w) (base := base) FTd T
  have GWk := ok_wkd (P := l.prog) (w := w) (base := base) FWk T TI.tuple
  have GMv := ok_mv FMv T GTd TTd bTd GWk TWk bWk
  have GX := ok_ext FX T GMv TMv bMv
  exact ok_law FL T GT TT bT GD TD bD GP TP bP GA TA bA GX TX bX TW SM GEv bEv
end K69

set_option Elab.async false
set_option linter.all false
set_option maxRecDepth 100000
open L2

open PySem PySem.W PyProof.Rows
set_option maxRecDepth 100000 in
set_option maxHeartbeats 0 in
theorem PySem.Challenge.cw_oncepost_k68_account_by_walking_holds : PySem.Challenge.rw_oncepost_k68_account_by_walking.Holds := by
  w_on; o_law; k_head; (case hw => w_witness2)
  k_fill
  refine RG.walkG (l := PySem.Challenge.rw_oncepost_k68_account_by_walking) (n := 24) (x := "_law_script") (CX := CX0) (sp := K69.spLaw) rfl (by decide) rfl ⟨rfl, by decide, by decide⟩ (fun w h Y => PySem.W.kIn_of Y) ?F ?tl ?qu
  case F =>
    intro w mg fa h KX G hmg
    refine' K69.all_mk KX G hmg ?z_int ?z_len ?z_abs ?z_list ?z_dict ?z_min ?z_max ?z_range ?z_repr ?z_isinstance ?z_tuple ?z_bool ?aD0 ?lD0 ?cD0 ?kD0 ?aD1 ?lD1 ?cD1 ?kD1 ?aD2 ?lD2 ?cD2 ?kD2 ?aD3 ?lD3 ?cD3 ?kD3 ?aD4 ?lD4 ?cD4 ?kD4 ?aD5 ?lD5 ?cD5 ?kD5 ?aD6 ?lD6 ?cD6 ?kD6 ?aD7 ?lD7 ?cD7 ?kD7 ?aD8 ?lD8 ?cD8 ?kD8 ?aD9 ?lD9 ?cD9 ?kD9 ?aD10 ?lD10 ?cD10 ?kD10 ?aD11 ?lD11 ?cD11 ?kD11 ?aW ?rW ?gW ?fW0 ?tW0 ?fW1 ?tW1 ?fW2 ?tW2 ?fW3 ?tW3 ?sE ?aD12 ?lD12 ?cD12 ?kD12
    (case z_int => k_is); (case z_len => k_is); (case z_abs => k_is); (case z_list => k_is)
    (case z_dict => k_is); (case z_min => k_is); (case z_max => k_is); (case z_range => k_is)
    (case z_repr => k_is); (case z_isinstance => k_is); (case z_tuple => k_is); (case z_bool => k_is)
    (case aD0 => k_is); (case lD0 => k_is); (case cD0 => k_is); (case kD0 => k_is)
    (case aD1 => k_is); (case lD1 => k_is); (case cD1 => k_is); (case kD1 => k_is)
    (case aD2 => k_is); (case lD2 => k_is); (case cD2 => k_is); (case kD2 => k_is)
    (case aD3 => k_is); (case lD3 => k_is); (case cD3 => k_is); (case kD3 => k_is)
    (case aD4 => k_is); (case lD4 => k_is); (case cD4 => k_is); (case kD4 => k_is)
    (case aD5 => k_is); (case lD5 => k_is); (case cD5 => k_is); (case kD5 => k_is)
    (case aD6 => k_is); (case lD6 => k_is); (case cD6 => k_is); (case kD6 => k_is)
    (case aD7 => k_is); (case lD7 => k_is); (case cD7 => k_is); (case kD7 => k_is)
    (case aD8 => k_is); (case lD8 => k_is); (case cD8 => k_is); (case kD8 => k_is)
    (case aD9 => k_is); (case lD9 => k_is); (case cD9 => k_is); (case kD9 => k_is)
    (case aD10 => k_is); (case lD10 => k_is); (case cD10 => k_is); (case kD10 => k_is)
    (case aD11 => k_is); (case lD11 => k_is); (case cD11 => k_is); (case kD11 => k_is)
    (case aW => k_is); (case rW => k_is); (case gW => k_is); (case fW0 => k_is)
    (case tW0 => k_is); (case fW1 => k_is); (case tW1 => k_is); (case fW2 => k_is)
    (case tW2 => k_is); (case fW3 => k_is); (case tW3 => k_is); (case sE => k_is)
    (case aD12 => k_is); (case lD12 => k_is); (case cD12 => k_is); (case kD12 => k_is)
  case tl =>
    intro K G a ns hl ho hS
    exact ⟨a, ns, rfl, hS, hl, fun _ => rfl⟩
  case qu =>
    intro G s e s' z
    exact z
