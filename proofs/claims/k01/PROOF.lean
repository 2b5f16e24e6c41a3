import PyProof.Rows.All
import Wide.All
import OpenK.AllK
import Wide.FinOn
import PyProof.ReprRoads
import PyProof.EqAt
import PyProof.EqKinds
import PyProof.TupleCall
import HandS.ForMost
import HandS.Wide
import PyProof.NeKinds
import PyProof.FactsAll.dict_1
import HandS.IsInst
import HandS.TupMul
import HandS.TupAny
import PyProof.StrBlock2
import PySem.Challenge.RW_oncepost_k01_runs_of_handlers
import HandS.Defaults
import HandS.Conv
import KE.KSortTupG
import KE.LtSeq
import HandS.DictComp
import KE.KDictPairs
import PyProof.ReprBulk
import HandS.Style
set_option Elab.async false
set_option linter.all false
set_option maxRecDepth 100000
/-! Promises of defs where no repr runs around (A.guards = some []); repr of data; the law's end by such a promise. -/
namespace RG
open PySem PySem.Spec PyProof.Rows L2
/-- a def's promise, to be used where nothing of repr runs around -/
structure FnG (P : Program) (w : World) (K : PySem.W.Frag) (mg : Str → Option Value) (base : Heap) (CX : CXT) (n : Nat) (fn : Addr) (data : FuncData) (pars : List Str) (sp : Sp) : Prop where
  count : ∀ ys G Want Err, sp ys G Want Err → ys.length = pars.length
  go : ∀ (B : Around) (up : List Env) (st : Shared) (G : Hp) (given : Args) (ws : List Value) (ys : List V) (Want : VK) (Err : XK),
    B.guards = some [] → Room n B → Env0 P w K mg base B up st G → BindsTo st data given (pars.zip ws) → Vals ys ws → sp ys G Want Err →
      codeAny (model P w) B (.call (.ref fn) given) (CR CX up P w G st Want Err) st
section
variable {P : Program} {w : World} {K : PySem.W.Frag} {mg : Str → Option Value} {base : Heap} {CX : CXT} {n m : Nat} {fn : Addr} {data : FuncData} {pars : List Str} {sp : Sp}
theorem FnG.of (F : FnOk P w K mg base CX n fn data pars sp) : FnG P w K mg base CX n fn data pars sp :=
  ⟨F.len, fun B up st G given ws ys Want Err _ => F.run B up st G given ws ys Want Err⟩
theorem FnG.mono (F : FnG P w K mg base CX n fn data pars sp) (h : n ≤ m) : FnG P w K mg base CX m fn data pars sp :=
  ⟨F.count, fun B up st G given ws ys Want Err hg hr => F.go B up st G given ws ys Want Err hg (hr.mono h)⟩
/-- the rule for a def of the text: its body, run where nothing of repr is around -/
theorem okG {x qual : Str} {text : Stmt} {N : List Str} (F : Fun K x qual text fn data) (S : FnScope N pars (defScope text)) (count : ∀ ys G Want Err, sp ys G Want Err → ys.length = pars.length)
    (body : ∀ (cd : Value) (B : Around) (up : List Env) (st : Shared) (G : Hp) (ys : List V) (Want : VK) (Err : XK),
      (B.deeper (envOfC qual (defScope text) st.heap.objs.size fn cd)).guards = some [] → Room n (B.deeper (envOfC qual (defScope text) st.heap.objs.size fn cd)) → sp ys G Want Err →
      ∃ t, PSs (cxOf CX P w K mg base N qual (defScope text) fn cd B up st G Err).nox (defBody text) t ∧ t { nx := fun _ G' => Want .non G', rt := Want } (start N ys) G) :
    FnG P w K mg base CX (n + 1) fn data pars sp := by
  obtain ⟨oc, od, kV, doc, pm, an, cd, ct, osl, rfl, at_, hcd⟩ := F.ex
  constructor
  · exact count
  intro B up st G given ws ys Want Err hg hr e0 hb rel told
  have inK : K.In st.heap := e0.mod.kin.keeps (fun b o e => And.left (e0.bs b o e))
  have lim : st.heap.NoLimit := e0.mod.nolimit.keeps (fun b o e => And.left (e0.bs b o e))
  have kinds : ∀ y ∈ pars.zip ws, (defScope text).names.lookup y.1 = some .local ∨ ((defScope text).names.lookup y.1 = some .cell ∧ ((cellsFrom (st.heap.objs.size + 1) (defScope text).names []).lookup y.1).isSome = true) := by
    intro ⟨name, val⟩ hy
    refine (S.par name (List.of_mem_zip hy).1).imp id fun q => ?_
    exact ⟨q, PySem.W.cellsFrom_some _ _ _ (.inl q)⟩
  apply codeAny_call_function hr.depth (inK _ _ at_) rfl S.co S.gen rfl (PySem.W.codeRec_of inK hcd)
  apply hb
  refine wpAny_newFunctionEnv_cells S.kind kinds fun env same s1 inside => ?_
  cases same
  refine ⟨lim.keeps inside.toInCall.keep, codeAny_func ?_⟩
  obtain ⟨t, derived, reading⟩ := body cd B up st G ys Want Err hg (hr.deeper _) told
  have I0 := inv_start (CX := CX) (E := Err) (w := w) (P := P) S hr.hd e0 (count _ _ _ _ told) rel inside
  have back : ∀ {σ1 : L2.St} {G1 : Hp} {y : V} {u : Value} {st1 : Shared}, Inv (cxOf CX P w K mg base N qual (defScope text) fn cd B up st G Err) [] σ1 G1 st1 → RelV y u → Want y G1 → CE up P w G st Want u st1 := by
    intro σ1 G1 y u st1 J ry q
    exact ⟨y, G1, J.os, J.bare, J.base, J.hok, ry, q⟩
  refine wpAny_mono (derived.nox.run [] s1 (start N ys) G _ I0 reading) (fun flow st1 told1 => ?_) (fun _ _ z => z)
  match flow, told1 with
  | .ret u, ⟨y, σ1, G1, J, ry, q⟩ => exact back J ry q
  | .next, ⟨σ1, G1, J, q⟩ => exact back (y := V.non) (u := Value.none) J rfl q
  | .brk, ⟨_, _, _, q⟩ => exact q.elim
  | .cont, ⟨_, _, _, q⟩ => exact q.elim
end
section
variable {X : Cx} {CX : CXT} {n : Nat} {fn : Addr} {data : FuncData} {pars : List Str} {sp : Sp} {dvs : List V} {ds : List Value} {Err : XK}
theorem runG {pins : List (Addr × Obj)} {σ : L2.St} {G : Hp} {st : Shared} {Want : VK} {ws : List Value} {ys : List V} (F : FnG X.prog X.w X.K X.mg X.base CX n fn data pars sp) (hg : X.A.guards = some []) (hr : Room n X.A) (hb : Binds X.K data pars ds) (hd : Vals dvs ds)
    (hx : Passes CX X Err) (I : Inv X pins σ G st) (rel : Vals ys ws) (told : sp (ys ++ dvs) G Want Err) : wpAny (model X.prog X.w) X.A (call (.ref fn) ws) (EP X pins σ Want) X.xe st := by
  have both : Vals (ys ++ dvs) (ws ++ ds) := rel.append hd
  have size : (ws ++ ds).length = pars.length := (Vals.length both).symm.trans (F.count _ _ _ _ told)
  apply wpAny_call
  apply codeAny_mono (F.go X.A X.stack st G ⟨ws, []⟩ (ws ++ ds) (ys ++ dvs) Want Err hg hr I.env0 (hb st ws I.kIn size) both told)
  intro res st1 hq
  match res, hq with
  | .ok (.ret u), hq => exact I.after hq
  | .error e, hq => exact hx pins σ G st e st1 I hq
  | .ok .next, hq => exact hq.elim
  | .ok .brk, hq => exact hq.elim
  | .ok .cont, hq => exact hq.elim
/-- f(..), f by such a promise -/
theorem pe_callg {x : Str} {p pos : Pos} {e : Expr} {es : List Expr} {t : TA} (F : FnG X.prog X.w X.K X.mg X.base CX n fn data pars sp) (gd : X.A.guards = some []) (hr : Room n X.A) (hg : Gl X x) (hm : X.mg x = some (.ref fn)) (hk : PySem.W.keepIn X.K (.ref fn) = true)
    (hb : Binds X.K data pars ds) (hd : Vals dvs ds) (hx : Passes CX X Err) (ha : PA X (e :: es) t) (hdb : (x == ("__debug__" : Str)) = false := by decide)
    (he : starEach (e :: es) X.env = (false, eval e X.env) :: starEach es X.env := by rfl) (hpl : (backTo pos (starEach es X.env)).any (·.1) = false := by rfl) :
    PE X (.Call (.Name x p) (e :: es) [] pos) (tCall sp dvs Err t) := by
  constructor
  intro pins st σ G Want I told
  refine wpAny_Call_Name_kw (ld_glob I hg hm (PySem.W.callWith_K (h₀ := X.base) I.ok.mod.kin hk ?_ he hpl) hdb)
  refine thn (ha.run pos pins st σ G _ I told) fun ws st1 behind => ?_
  obtain ⟨ys, G1, I1, rel, q⟩ := behind
  exact ⟨I1.kIn, runG F gd hr hb hd hx I1 rel q⟩
end
end RG
namespace RG
open PySem PySem.Spec PyProof.Rows L2
section
variable {P : Program} {w : World} {K : PySem.W.Frag} {mg mb : Str → Option Value} {CX : CXT} {n : Nat} {fn script : Addr} {data : FuncData} {x : Str} {sp : Sp} {st : Shared} {items : List Value} {ns : List Int}
/-- only the script is tracked -/
def scriptAt (a : Addr) (items : List Value) (ns : List Int) : Hp := fun b => if b = a then some (.frz { cls := .type "list", data := .seq items.toArray } (.lst (ns.map V.int))) else none
theorem scriptAt_same {a : Addr} {items : List Value} {ns : List Int} : scriptAt a items ns a = some (.frz { cls := .type "list", data := .seq items.toArray } (.lst (ns.map V.int))) := if_pos rfl
theorem scriptAt_ne {a b : Addr} {items : List Value} {ns : List Int} (h : b ≠ a) : scriptAt a items ns b = none := if_neg h
/-- the law's call, from a heap in which nothing but the script may be tracked -/
theorem lawG_at (G : Hp) (inK : K.In st.heap) (glob : st.heap.Ns mainGlobals mg) (blt : st.heap.Ns builtinsNs mb) (are : ∀ y : Str, y ≠ "__name__" → mb y = bootBuiltins y) (lim : st.heap.NoLimit) (nogen : st.gens = #[])
    (there : st.heap.get? script = some { cls := .type "list", data := .seq items.toArray }) (room : Room n callerA)
    (F : ∀ base : Heap, K.In base → base.Ns mainGlobals mg → FnG P w K mg base CX n fn data [x] sp) (binds : ∀ (s : Shared) (u : Value), BindsTo s data ⟨[u], []⟩ [(x, u)])
    (told : sp [.ref script] G (fun v _ => v = .bl true) fun _ _ _ => False) (quiet : ∀ e s', CX [] G st (fun _ _ _ => False) e s' → False)
    (only : Only G) (held : HOk P w G st.heap) (one : ∀ b, G b ≠ none → b = script) (apart : G script ≠ none → K.lookup script = none) :
    codeAny (model P w) callerA (.call (.ref fn) ⟨[.ref script], []⟩) (fun r s' => r = .ok (.ret (.bool true)) ∧ OldK st.heap s'.heap ∧ s'.os = st.os ∧ AllBare s'.gens) st := by
  have free_of : ∀ {b : Addr}, b ≠ script → G b = none := by
    intro b hb
    apply Classical.byContradiction
    intro q
    exact hb (one b q)
  have dict_free : ∀ {b : Addr} {o : Obj} {es : Array DictEntry} {ep : Nat}, st.heap.get? b = some o → o.data = .dict es ep → G b = none := by
    intro b o es ep e d
    apply free_of
    intro z
    subst z
    rw [there] at e
    injection e with e
    subst e
    exact nomatch d
  have ns_in : ∀ {b : Addr} {m : Str → Option Value}, st.heap.Ns b m → (hidT st.heap G).Ns b m := by
    intro b m h
    obtain ⟨o, es, ep, e, d, more⟩ := h
    exact ⟨o, es, ep, hidT_get e (dict_free e d), d, more⟩
  have inB : K.In (hidT st.heap G) := by
    intro b o e
    refine hidT_get (inK b o e) ?_
    by_cases hb : b = script
    · subst hb
      apply Classical.byContradiction
      intro q
      rw [apart q] at e
      exact nomatch e
    · exact free_of hb
  have ground : Mod K mg (hidT st.heap G) := by
    obtain ⟨mc, l1, l2⟩ := lim
    exact ⟨inB, ns_in glob, ⟨mb, ns_in blt, are⟩, ⟨mc, ns_in l1, l2⟩⟩
  have e0 : Env0 P w K mg (hidT st.heap G) callerA [] st G :=
    ⟨rfl, ground, fun b o => of_hidT, Nat.le_of_eq (hidT_size _ _), True.intro, fun b z => (List.not_mem_nil z).elim, held, .of_eq nogen⟩
  apply codeAny_mono ((F _ inB (ns_in glob)).go callerA [] st G ⟨[.ref script], []⟩ [.ref script] [.ref script] _ _ rfl room e0 (binds st (.ref script)) (.cons rfl .nil) told)
  intro r s' h
  match r, h with
  | .error e, h => exact (quiet e s' h).elim
  | .ok .next, h => exact h.elim
  | .ok .brk, h => exact h.elim
  | .ok .cont, h => exact h.elim
  | .ok (.ret u), ⟨v, G', sameOs, bare, un, held', rv, yes⟩ =>
    subst yes
    cases (show u = Value.bool true from rv)
    refine ⟨rfl, OldK.of_keep ?_, sameOs, bare⟩
    intro b o e
    rcases only b with q | ⟨ob, xs, q⟩
    · exact un.keep b o e q List.not_mem_nil List.not_mem_nil
    · have h1 := (held b _ q).1
      have h2 := (held' b _ (un.frzs b ob _ q)).1
      rw [h2]
      exact h1.symm.trans e
theorem lawG (inK : K.In st.heap) (glob : st.heap.Ns mainGlobals mg) (blt : st.heap.Ns builtinsNs mb) (are : ∀ y : Str, y ≠ "__name__" → mb y = bootBuiltins y) (lim : st.heap.NoLimit) (nogen : st.gens = #[])
    (there : st.heap.get? script = some { cls := .type "list", data := .seq items.toArray }) (wholes : IntsAre items ns) (line : ns.length ≤ sizeLine) (room : Room n callerA)
    (F : ∀ base : Heap, K.In base → base.Ns mainGlobals mg → FnG P w K mg base CX n fn data [x] sp) (binds : ∀ (s : Shared) (u : Value), BindsTo s data ⟨[u], []⟩ [(x, u)])
    (told : ∀ G : Hp, Only G → SqL K G script (ns.map V.int) → sp [.ref script] G (fun v _ => v = .bl true) fun _ _ _ => False) (quiet : ∀ G e s', CX [] G st (fun _ _ _ => False) e s' → False) :
    codeAny (model P w) callerA (.call (.ref fn) ⟨[.ref script], []⟩) (fun r s' => r = .ok (.ret (.bool true)) ∧ OldK st.heap s'.heap ∧ s'.os = st.os ∧ AllBare s'.gens) st := by
  have rel := vals_ints wholes
  cases own : K.lookup script with
  | none =>
    have only : Only (scriptAt script items ns) := by
      intro b
      by_cases hb : b = script
      · rw [hb]
        exact .inr ⟨_, _, scriptAt_same⟩
      · exact .inl (scriptAt_ne hb)
    refine lawG_at _ inK glob blt are lim nogen there room F binds (told _ only (.inl (.inr ⟨_, scriptAt_same⟩))) (quiet _) only ?_ ?_ (fun _ => own)
    · intro b u z
      by_cases hb : b = script
      · rw [hb, scriptAt_same] at z
        cases z
        rw [hb]
        exact ⟨there, by rw [List.length_map]; exact line, items, _, rel, there⟩
      · exact nomatch (scriptAt_ne hb).symm.trans z
    · intro b z
      apply Classical.byContradiction
      intro hb
      exact z (scriptAt_ne hb)
  | some o =>
    cases (inK script o own).symm.trans there
    have only : Only (fun _ => none) := fun _ => .inl rfl
    refine lawG_at _ inK glob blt are lim nogen there room F binds (told _ only (.inr ?_)) (quiet _) only (fun _ _ z => nomatch z) (fun _ z => (z rfl).elim) (fun z => (z rfl).elim)
    have size := wholes.length
    exact ⟨_, items.toArray, _, own, rfl, rfl, rfl, by rw [List.size_toArray, size]; exact line, by simpa using rel⟩
end
/-- the goal that the head leaves, from the law's promise -/
theorem walkG {l : PySem.W.OpenLaw} {most n : Nat} {q : Program} {loose : List Str} {XP : (Str → Option Value) → Heap → Prop} {YP : World → Heap → Prop} {d : DefRec} {K : Params → PySem.W.Frag} {CX : CXT} {sp : PySem.W.Frag → Sp} {x : Str}
    (hm : l.most = some most) (hl : most ≤ sizeLine) (hdf : d.params.defaults = []) (room : Room n callerA) (hY : ∀ (w : World) (h : Heap), YP w h → (K w.params).In h)
    (F : ∀ (w : World) (mg : Str → Option Value) (fn : Addr) (h : Heap), (K w.params).In h → h.Ns mainGlobals mg → mg d.name = some (.ref fn) →
      ∃ data : FuncData, (∀ (s : Shared) (u : Value), BindsTo s data ⟨[u], []⟩ [(x, u)]) ∧ ∀ base : Heap, (K w.params).In base → base.Ns mainGlobals mg → FnG l.prog w (K w.params) mg base CX n fn data [x] (sp (K w.params)))
    (told : ∀ (K : PySem.W.Frag) (G : Hp) (a : Addr) (ns : List Int), ns.length ≤ most → Only G → SqL K G a (ns.map V.int) → sp K [.ref a] G (fun v _ => v = .bl true) fun _ _ _ => False)
    (quiet : ∀ (G : Hp) (s : Shared) (e : Value) (s' : Shared), CX [] G s (fun _ _ _ => False) e s' → False) : PySem.W.WalkO q loose XP YP l.row.toRowW d [] (fun f vs => PySem.call f vs) := by
  apply Att.attach_call hm hdf
  intro w s₀ st mg mb fn o pm cd doc a items ns ground more _ _ _ named there wholes short nogen
  obtain ⟨data, binds, ok⟩ := F w mg fn _ (hY w _ more) ground.T.g named
  exact lawG (hY w _ more) ground.T.g ground.T.b ground.T.builtins ground.T.nolimit nogen there wholes (Nat.le_trans short hl) room ok binds (fun G => told _ G a ns short) (fun G e s' => quiet G st e s')
end RG
namespace RG
open PySem PySem.Spec PyProof.Rows L2
/-! ### repr of data -/
def keyD : Key → PyData
  | .inl i => .int i
  | .inr x => .str x
mutual
/-- v is data, as repr reads it -/
inductive Rp (K : PySem.W.Frag) (G : Hp) : V → PyData → Prop
  | non : Rp K G .non .none
  | bl (b : Bool) : Rp K G (.bl b) (.bool b)
  | int (i : Int) : Rp K G (.int i) (.int i)
  | str (x : Str) : Rp K G (.str x) (.str x)
  | lst {a : Addr} {xs : List V} {ds : List PyData} : SqL K G a xs → RpAll K G xs ds → a ≠ sysModules → Rp K G (.ref a) (.list ds)
  | tup {a : Addr} {xs : List V} {ds : List PyData} : SqT K G a xs → RpAll K G xs ds → Rp K G (.ref a) (.tuple ds)
  | dic {a : Addr} {kvs : List (Key × V)} {ps : List (PyData × PyData)} : G a = some (.dK kvs) → ps.map (·.1) = kvs.map (fun p => keyD p.1) → RpAll K G (kvs.map (·.2)) (ps.map (·.2)) → Rp K G (.ref a) (.dict ps)
inductive RpAll (K : PySem.W.Frag) (G : Hp) : List V → List PyData → Prop
  | nil : RpAll K G [] []
  | cons {v : V} {vs : List V} {d : PyData} {ds : List PyData} : Rp K G v d → RpAll K G vs ds → RpAll K G (v :: vs) (d :: ds)
end
section
variable {X : Cx} {pins : List (Addr × Obj)} {σ : L2.St} {G : Hp} {st : Shared}
theorem key_reads {h : Heap} {k : Key} {u : Value} (q : keyIs k u = true) : Reads h u (keyD k) [] := by
  rcases keyIs_shape q with ⟨i, t, rfl, rfl⟩ | ⟨x, t, rfl, rfl⟩
  · exact .int i t
  · exact .str x t
theorem keys_read {P : Program} {w : World} {h : Heap} : ∀ {es : List DictEntry} {kvs : List (Key × V)} {vs : List (Key × Value)}, KV kvs vs → Pairs (mixKind P w) es vs → ReadsAll h (es.map (·.key)) (kvs.map fun p => keyD p.1) []
  | [], _, _, r, .nil => by
    cases r
    exact .nil
  | e :: es, _, _, r, .cons hk _ more => by
    cases r with
    | cons r0 r1 =>
      rename_i kv kvs'
      have q := keys_read (h := h) r1 more
      have q0 : Reads h e.key (keyD kv.1) [] := by
        rw [r0.1]
        exact key_reads hk
      exact ReadsAll.cons q0 q
theorem vals_read {P : Program} {w : World} : ∀ {es : List DictEntry} {kvs : List (Key × V)} {vs : List (Key × Value)}, KV kvs vs → Pairs (mixKind P w) es vs → Vals (kvs.map (·.2)) (es.map (·.val))
  | [], _, _, r, .nil => by
    cases r
    exact .nil
  | e :: es, _, _, r, .cons _ hv more => by
    cases r with
    | cons r0 r1 =>
      refine .cons ?_ (vals_read r1 more)
      show L2.RelV _ e.val
      rw [hv]
      exact r0.2
mutual
theorem Rp.reads (I : Inv X pins σ G st) : ∀ (d : PyData) (v : V) (u : Value), Rp X.K G v d → RelV v u → ∃ as, Reads st.heap u d as ∧ sysModules ∉ as
  | .none, _, _, h, r => by
    cases h
    cases r
    exact ⟨_, .none, List.not_mem_nil⟩
  | .bool b, _, _, h, r => by
    cases h
    cases r
    exact ⟨_, .bool b, List.not_mem_nil⟩
  | .int i, _, _, h, r => by
    cases h
    obtain ⟨t, rfl⟩ := r
    exact ⟨_, .int i t, List.not_mem_nil⟩
  | .str x, _, _, h, r => by
    cases h
    obtain ⟨t, rfl⟩ := r
    exact ⟨_, .str x t, List.not_mem_nil⟩
  | .list ds, _, _, h, r => by
    cases h with
    | lst hs ha hn =>
      cases r
      obtain ⟨its, rv, ⟨o, n, ho, hc, _, hd⟩, _⟩ := I.list hs
      obtain ⟨as, q, out⟩ := Rp.readsAll I ds _ its ha rv
      refine ⟨_, .list ho hc hd q, fun m => ?_⟩
      rcases List.mem_cons.mp m with e | m
      · exact hn e.symm
      · exact out m
  | .tuple ds, _, _, h, r => by
    cases h with
    | tup hs ha =>
      cases r
      obtain ⟨its, rv, ⟨o, ho, hc, n, hd⟩, _⟩ := I.tuple hs
      obtain ⟨as, q, out⟩ := Rp.readsAll I ds _ its ha rv
      exact ⟨_, .tuple ho hc hd q, out⟩
  | .dict ps, _, _, h, r => by
    cases h with
    | dic hs hk ha =>
      rename_i a kvs
      cases r
      obtain ⟨_, low, vs, rel, o, es, ep, ho, hc, hd, _, prs, _⟩ := dk_of I.hok hs
      obtain ⟨bs, q, out⟩ := Rp.readsVals I ps _ _ ha (vals_read rel prs)
      have q1 := keys_read (h := st.heap) rel prs
      rw [← hk] at q1
      refine ⟨_, .dict ho hc.1 hd q1 q, fun m => ?_⟩
      have m' : sysModules = a ∨ sysModules ∈ bs := by simpa using m
      rcases m' with e | m'
      · rw [e] at low
        simp at low
      · exact out m'
theorem Rp.readsAll (I : Inv X pins σ G st) : ∀ (ds : List PyData) (vs : List V) (us : List Value), RpAll X.K G vs ds → Vals vs us → ∃ as, ReadsAll st.heap us ds as ∧ sysModules ∉ as
  | [], _, _, h, r => by
    cases h
    cases r
    exact ⟨_, .nil, List.not_mem_nil⟩
  | d :: ds, _, _, h, r => by
    cases h with
    | cons h1 h2 =>
      cases r with
      | cons r1 r2 =>
        obtain ⟨as, q1, o1⟩ := Rp.reads I d _ _ h1 r1
        obtain ⟨bs, q2, o2⟩ := Rp.readsAll I ds _ _ h2 r2
        refine ⟨_, .cons q1 q2, fun m => ?_⟩
        rcases List.mem_append.mp m with m | m
        · exact o1 m
        · exact o2 m
theorem Rp.readsVals (I : Inv X pins σ G st) : ∀ (ps : List (PyData × PyData)) (vs : List V) (us : List Value), RpAll X.K G vs (ps.map (·.2)) → Vals vs us → ∃ as, ReadsAll st.heap us (ps.map (·.2)) as ∧ sysModules ∉ as
  | [], _, _, h, r => by
    cases h
    cases r
    exact ⟨_, .nil, List.not_mem_nil⟩
  | (k, d) :: ps, _, _, h, r => by
    cases h with
    | cons h1 h2 =>
      cases r with
      | cons r1 r2 =>
        obtain ⟨as, q1, o1⟩ := Rp.reads I d _ _ h1 r1
        obtain ⟨bs, q2, o2⟩ := Rp.readsVals I ps _ _ h2 r2
        refine ⟨_, .cons q1 q2, fun m => ?_⟩
        rcases List.mem_append.mp m with m | m
        · exact o1 m
        · exact o2 m
end
end
section
variable {X : Cx} {k : Nat}
/-- repr(x), x data, where nothing of repr runs around -/
theorem call_repr (hg : X.A.guards = some []) (hr : Room k X.A) : CallR X (.builtin "repr") (fun xs G Want => ∃ v d, xs = [v] ∧ Rp X.K G v d ∧ d.showable = true ∧ d.depth ≤ 64 ∧ d.shown.length ≤ sizeLine ∧ Want (.str d.shown) G) := by
  intro pins st σ G ys ws Want I rel told
  obtain ⟨v, d, rfl, hd, sh, dp, sz, q⟩ := told
  obtain ⟨u, rfl, ru⟩ := vals1 rel
  have room := hr.un
  cases hd with
  | non =>
    cases ru
    refine PySem.P.repr_of_none ⟨.str _, G, I.tok _, ⟨_, rfl⟩, ?_⟩
    simpa only [PyData.shown] using q
  | bl b =>
    cases ru
    refine PySem.P.repr_of_bool ⟨.str _, G, I.tok _, ⟨_, rfl⟩, ?_⟩
    simpa only [PyData.shown] using q
  | int i =>
    obtain ⟨t, rfl⟩ := ru
    have small : i.natAbs.log2 < 1920 := by simpa [PyData.showable] using sh
    refine PySem.P.repr_of_int small ⟨.str _, G, I.tok _, ⟨_, rfl⟩, ?_⟩
    simpa only [PyData.shown] using q
  | str x =>
    obtain ⟨t, rfl⟩ := ru
    have short : (reprText x).length ≤ sizeLine := by simpa only [PyData.shown] using sz
    refine PySem.P.repr_of_str ⟨.str _, G, I.tok _, ⟨_, rfl⟩, ?_⟩ short
    simpa only [PyData.shown] using q
  | lst a b c =>
    cases ru
    obtain ⟨as, rd, out⟩ := Rp.reads I _ _ _ (.lst a b c) rfl
    exact repr_of_reads' rd sh (fun _ => out) hg (by omega) (fun _ _ z => z) (fun h' t tk keep => ⟨.str _, G, I.kept keep, ⟨_, rfl⟩, q⟩) sz
  | tup a b =>
    cases ru
    obtain ⟨as, rd, out⟩ := Rp.reads I _ _ _ (.tup a b) rfl
    exact repr_of_reads' rd sh (fun _ => out) hg (by omega) (fun _ _ z => z) (fun h' t tk keep => ⟨.str _, G, I.kept keep, ⟨_, rfl⟩, q⟩) sz
  | dic a b c =>
    cases ru
    obtain ⟨as, rd, out⟩ := Rp.reads I _ _ _ (.dic a b c) rfl
    exact repr_of_reads' rd sh (fun _ => out) hg (by omega) (fun _ _ z => z) (fun h' t tk keep => ⟨.str _, G, I.kept keep, ⟨_, rfl⟩, q⟩) sz
/-- a list that is laid stands behind the modules' dict -/
def tLstB (t : TA) : TE := fun σ G Want => t σ G fun xs G1 => xs.length ≤ sizeLine ∧ ∀ p, G1 p = none → p ≠ sysModules → Want (.ref p) (upd G1 p (.lst xs))
theorem pe_lstB {es : List Expr} {t : TA} {pos : Pos} (h : PA X es t) : PE X (.List es pos) (tLstB t) := by
  constructor
  intro pins st σ G Want I told
  apply wpAny_List_spliced
  refine thn (h.run pos pins st σ G _ I told) fun ws s1 behind => ?_
  obtain ⟨xs, G1, I1, rel, line, q⟩ := behind
  refine ⟨by rw [← rel.length]; exact line, ?_⟩
  have free := I1.hok.fresh (Nat.le_refl s1.heap.objs.size)
  have laid : ObjOk X.prog X.w (upd G1 s1.heap.objs.size (.lst xs)) (s1.heap.push { cls := .type "list", data := .seq ws.toArray }) s1.heap.objs.size (.lst xs) := ⟨line, ws, 0, rel, Heap.get?_push_size _ rfl⟩
  exact ⟨.ref s1.heap.objs.size, _, I1.laid (t' := s1.toks) (fun _ _ z => Heap.get?_push_of_some _ z) (Nat.le_refl _) laid, rfl, q _ free (Nat.ne_of_gt I1.big)⟩
end
end RG

set_option Elab.async false
set_option linter.all false
set_option maxRecDepth 100000
/-! New lists and tuples over a heap that is not written out. -/
namespace Ab
open PySem PySem.Spec L2
/-- (e, ..), [e, ..], a + b: what is laid stands at p, all else as before -/
def tTupA (ta : TA) : TE := fun σ G Want => ta σ G fun xs G1 => xs.length ≤ sizeLine ∧ ∀ p G2, G1 p = none → Same G1 G2 → G2 p = some (.tup xs) → Want (.ref p) G2
def tLstA (ta : TA) : TE := fun σ G Want => ta σ G fun xs G1 => xs.length ≤ sizeLine ∧ ∀ p G2, G1 p = none → p ≠ sysModules → Same G1 G2 → G2 p = some (.lst xs) → Want (.ref p) G2
theorem same_up {G : Hp} {p : Addr} {o : HO} (h : G p = none) : Same G (upd G p o) := fun b u q => by
  rw [upd_ne (ne_of_none q h)]
  exact q
section
variable {X : Cx} {es : List Expr} {ta : TA} {pos : Pos}
theorem pe_tupA {k} (h : PA X es ta) : PE X (.Tuple es k pos) (tTupA ta) := by
  constructor
  intro pins st σ G Want I told
  apply wpAny_Tuple_spliced
  refine thn (h.run pos pins st σ G _ I told) fun ws s1 behind => ?_
  obtain ⟨xs, G1, I1, rel, line, q⟩ := behind
  refine ⟨by rw [← rel.length]; exact line, ?_⟩
  have free := I1.hok.fresh (Nat.le_refl s1.heap.objs.size)
  have laid : ObjOk X.prog X.w (upd G1 s1.heap.objs.size (.tup xs)) (s1.heap.push { cls := .type "tuple", data := .seq ws.toArray }) s1.heap.objs.size (.tup xs) := ⟨line, ws, rel, ⟨_, Heap.get?_push_size _ rfl, rfl, _, rfl⟩⟩
  exact ⟨.ref s1.heap.objs.size, _, I1.laid (t' := s1.toks) (fun _ _ z => Heap.get?_push_of_some _ z) (Nat.le_refl _) laid, rfl, q _ _ free (same_up free) upd_same⟩
theorem pe_lstA (h : PA X es ta) : PE X (.List es pos) (tLstA ta) := by
  constructor
  intro pins st σ G Want I told
  apply wpAny_List_spliced
  refine thn (h.run pos pins st σ G _ I told) fun ws s1 behind => ?_
  obtain ⟨xs, G1, I1, rel, line, q⟩ := behind
  refine ⟨by rw [← rel.length]; exact line, ?_⟩
  have free := I1.hok.fresh (Nat.le_refl s1.heap.objs.size)
  have laid : ObjOk X.prog X.w (upd G1 s1.heap.objs.size (.lst xs)) (s1.heap.push { cls := .type "list", data := .seq ws.toArray }) s1.heap.objs.size (.lst xs) := ⟨line, ws, 0, rel, Heap.get?_push_size _ rfl⟩
  exact ⟨.ref s1.heap.objs.size, _, I1.laid (t' := s1.toks) (fun _ _ z => Heap.get?_push_of_some _ z) (Nat.le_refl _) laid, rfl, q _ _ free (Nat.ne_of_gt I1.big) (same_up free) upd_same⟩
end
/-- {}: abstract -/
def tDicA : TE := fun _ G Want => ∀ p G2, G p = none → Same G G2 → G2 p = some (.dK []) → Want (.ref p) G2
theorem pe_dicA {X : Cx} {pos : Pos} : PE X (.Dict [] [] pos) tDicA := ⟨fun pins st σ G Want I told => (pe_dnewK (X := X) (pos := pos)).run pins st σ G Want I fun p h => told p _ h (same_up h) upd_same⟩
/-- xs + ys, two lists -/
def rCatA : R2 := fun x y G Want => ∃ l b xs zs, x = .ref l ∧ y = .ref b ∧ G l = some (.lst xs) ∧ G b = some (.lst zs) ∧ xs.length + zs.length ≤ sizeLine ∧ ∀ p G2, G p = none → Same G G2 → G2 p = some (.lst (xs ++ zs)) → Want (.ref p) G2
theorem op_catA {X : Cx} : OpR X (binaryOp .Add) rCatA := fun pins st σ G x y v u Want I rx ry ⟨l, b, xs, zs, ex, ey, hl, hb, hz, q⟩ =>
  op_cat pins st σ G x y v u Want I rx ry ⟨l, b, xs, zs, ex, ey, hl, hb, hz, fun p h => q p _ h (same_up h) upd_same⟩
end Ab

set_option Elab.async false
set_option linter.all false
set_option maxRecDepth 100000
/-! The pen: a dict of a list, a place and a rest; a draw is some int from 0 to many - 1. -/
namespace Pen
open PySem L2
/-! ### the pen's pairs -/
abbrev kC : Key := Sum.inr ("cells" : Str)
abbrev kA : Key := Sum.inr ("at" : Str)
abbrev kR : Key := Sum.inr ("rest" : Str)
def pk (c : Addr) (a r : Int) : List (Key × V) := [(kC, .ref c), (kA, .int a), (kR, .int r)]
theorem nCA : ¬ (kC = kA) := by decide +kernel
theorem nCR : ¬ (kC = kR) := by decide +kernel
theorem nAR : ¬ (kA = kR) := by decide +kernel
theorem nAC : ¬ (kA = kC) := by decide +kernel
theorem nRC : ¬ (kR = kC) := by decide +kernel
theorem nRA : ¬ (kR = kA) := by decide +kernel
theorem pk_c (c : Addr) (a r : Int) : valV (pk c a r) kC = some (.ref c) := valV_pos rfl
theorem pk_a (c : Addr) (a r : Int) : valV (pk c a r) kA = some (.int a) := (valV_neg nCA).trans (valV_pos rfl)
theorem pk_r (c : Addr) (a r : Int) : valV (pk c a r) kR = some (.int r) := ((valV_neg nCR).trans (valV_neg nAR)).trans (valV_pos rfl)
theorem sCA : ¬ (("cells" : Str) = "at") := by decide +kernel
theorem sCR : ¬ (("cells" : Str) = "rest") := by decide +kernel
theorem sRA : ¬ (("rest" : Str) = "at") := by decide +kernel
theorem sAR : ¬ (("at" : Str) = "rest") := by decide +kernel
theorem pk_putA (c : Addr) (a r x : Int) : putK (pk c a r) kA (.int x) = pk c x r := by
  unfold putK pk
  simp [sCA, sRA]
theorem pk_putR (c : Addr) (a r x : Int) : putK (pk c a r) kR (.int x) = pk c a x := by
  unfold putK pk
  simp [sCR, sAR]
theorem pk_len (c : Addr) (a r : Int) : (pk c a r).length < sizeLine := by show 3 < sizeLine; decide
structure PenAt (H : Hp) (p c : Addr) (ns : List Int) (b : Nat) : Prop where
  ex : ∃ a r : Int, H p = some (.dK (pk c a r)) ∧ 0 ≤ a ∧ a ≤ b ∧ 0 ≤ r
  ce : H c = some (.lst (ns.map V.int))
/-- all but p is as it was -/
def SameX (p : Addr) (H H' : Hp) : Prop := ∀ x o, x ≠ p → H x = some o → H' x = some o
theorem SameX.refl {p : Addr} {H : Hp} : SameX p H H := fun _ _ _ h => h
theorem SameX.trans {p : Addr} {H H1 H2 : Hp} (a : SameX p H H1) (b : SameX p H1 H2) : SameX p H H2 := fun x o n h => b x o n (a x o n h)
theorem Same.X {p : Addr} {H H' : Hp} (a : Same H H') : SameX p H H' := fun x o _ h => a x o h
theorem SameX.upd {p : Addr} {H H' : Hp} {o : HO} (a : SameX p H H') : SameX p H (upd H' p o) := fun x u n h => by
  rw [upd_ne n]
  exact a x u n h
theorem same_new {H : Hp} {l : Addr} {o : HO} (h : H l = none) : Same H (L2.upd H l o) := fun x u e => by
  rw [upd_ne (ne_of_none e h)]
  exact e
theorem PenAt.same {H H' : Hp} {p c : Addr} {ns : List Int} {b : Nat} (P : PenAt H p c ns b) (s : Same H H') : PenAt H' p c ns b := by
  obtain ⟨⟨a, r, h, q⟩, ce⟩ := P
  exact ⟨⟨a, r, s _ _ h, q⟩, s _ _ ce⟩
theorem PenAt.mono {H : Hp} {p c : Addr} {ns : List Int} {b b' : Nat} (P : PenAt H p c ns b) (h : b ≤ b') : PenAt H p c ns b' := by
  obtain ⟨⟨a, r, h0, h1, h2, h3⟩, ce⟩ := P
  exact ⟨⟨a, r, h0, h1, by omega, h3⟩, ce⟩
theorem PenAt.ne {H : Hp} {p c : Addr} {ns : List Int} {b : Nat} (P : PenAt H p c ns b) : p ≠ c := by
  obtain ⟨⟨a, r, h0, _⟩, ce⟩ := P
  exact ne_of h0 ce (by intro z; cases z)
/-! ### promises -/
def spPen (K : PySem.W.Frag) : Sp := fun vs H Q _ => ∃ (a : Addr) (ns : List Int), vs = [.ref a] ∧ SqL K H a (ns.map V.int) ∧ ns.length ≤ 63 ∧
  ∀ (p c : Addr) (H' : Hp), H p = none → PenAt H' p c ns 0 → Same H H' → Q (.ref p) H'
def spDraw : Sp := fun vs H Q _ => ∃ (p c : Addr) (ns : List Int) (b : Nat) (m : Int), vs = [.ref p, .int m] ∧ PenAt H p c ns b ∧ ns.length ≤ 63 ∧ b < 2 ^ 40 ∧ 0 < m ∧ m < 2 ^ 30 ∧
  ∀ (r : Int) (H' : Hp), 0 ≤ r → r < m → PenAt H' p c ns (b + 1) → SameX p H H' → Q (.int r) H'
def spPick (K : PySem.W.Frag) : Sp := fun vs H Q _ => ∃ (p c : Addr) (ns : List Int) (b : Nat) (l : Addr) (xs : List V), vs = [.ref p, .ref l] ∧ PenAt H p c ns b ∧ ns.length ≤ 63 ∧ b < 2 ^ 40 ∧
  H l = some (.lst xs) ∧ 0 < xs.length ∧ xs.length ≤ 1000 ∧
  ∀ (v : V) (H' : Hp), v ∈ xs → PenAt H' p c ns (b + 1) → SameX p H H' → Q v H'
/-! ### numbers -/
theorem fmod_lo {i m : Int} (h : 0 < m) : 0 ≤ i.fmod m := by rw [Int.fmod_eq_emod_of_nonneg i (by omega)]; exact Int.emod_nonneg _ (by omega)
theorem fmod_hi {i m : Int} (h : 0 < m) : i.fmod m < m := by rw [Int.fmod_eq_emod_of_nonneg i (by omega)]; exact Int.emod_lt_of_pos _ h
theorem fdiv_lo {i m : Int} (h : 0 < m) (hi : 0 ≤ i) : 0 ≤ i / m := Int.ediv_nonneg hi (by omega)
theorem div_ok {i m : Int} (h : 0 < m) (h2 : m < 2 ^ 30) : CDivW i m := wide_div h (b := 30) (by omega) (by decide) (by decide)
theorem atI_mod {ns : List Int} {a : Int} (h : ns ≠ []) : ∃ z, atI (ns.map V.int) (a.fmod (ns.length : Int)) = some (.int z) := by
  have hl : 0 < ns.length := List.length_pos_iff.mpr h
  have h1 := fmod_lo (i := a) (m := (ns.length : Int)) (by omega)
  have h2 := fmod_hi (i := a) (m := (ns.length : Int)) (by omega)
  have h3 : (a.fmod (ns.length : Int)).toNat < ns.length := by omega
  refine ⟨ns[(a.fmod (ns.length : Int)).toNat], ?_⟩
  have e : a.fmod (ns.length : Int) = ((a.fmod (ns.length : Int)).toNat : Int) := by omega
  refine at_of e ?_
  rw [List.getElem?_map, List.getElem?_eq_getElem h3]
  rfl
theorem at_mem {xs : List V} {r : Int} (h0 : 0 ≤ r) (h : r < (xs.length : Int)) : ∃ v, v ∈ xs ∧ atI xs r = some v := by
  have h3 : r.toNat < xs.length := by omega
  refine ⟨xs[r.toNat], List.getElem_mem _, ?_⟩
  have e : r = ((r.toNat : Nat) : Int) := by omega
  exact at_of e (List.getElem?_eq_getElem h3)
/-- the names that the pen's defs read -/
structure TxtP (mg : Str → Option Value) : Prop where
  int : mg "int" = none
  len : mg "len" = none
  abs : mg "abs" = none
  list : mg "list" = none
end Pen
namespace Pen
open PySem L2
/-! ### the pen read and written -/
theorem getC {H : Hp} {p c : Addr} {a r : Int} (h : H p = some (.dK (pk c a r))) : DGet H p (.str "cells") (some (.ref c)) := by
  have q := DGet.k (k := kC) h
  rw [pk_c] at q
  exact q
theorem getA {H : Hp} {p c : Addr} {a r : Int} (h : H p = some (.dK (pk c a r))) : DGet H p (.str "at") (some (.int a)) := by
  have q := DGet.k (k := kA) h
  rw [pk_a] at q
  exact q
theorem getR {H : Hp} {p c : Addr} {a r : Int} (h : H p = some (.dK (pk c a r))) : DGet H p (.str "rest") (some (.int r)) := by
  have q := DGet.k (k := kR) h
  rw [pk_r] at q
  exact q
theorem putA {H : Hp} {p c : Addr} {a r x : Int} (h : H p = some (.dK (pk c a r))) : DPut H p (.str "at") (.int x) (upd H p (.dK (pk c x r))) := by
  have q := DPut.k (k := kA) (v := .int x) h (pk_len c a r)
  rw [pk_putA] at q
  exact q
theorem putR {H : Hp} {p c : Addr} {a r x : Int} (h : H p = some (.dK (pk c a r))) : DPut H p (.str "rest") (.int x) (upd H p (.dK (pk c a x))) := by
  have q := DPut.k (k := kR) (v := .int x) h (pk_len c a r)
  rw [pk_putR] at q
  exact q
theorem dps {K : PySem.W.Frag} {H : Hp} : ∀ ns : List Int, DpAll K H (ns.map V.int) (ns.map PyData.int)
  | [] => .nil
  | _ :: ns => .cons (.int _) (dps ns)
theorem dp_ints {K : PySem.W.Frag} {H : Hp} {c : Addr} {ns : List Int} (h : H c = some (.lst (ns.map V.int))) : Dp K H (.ref c) (.list (ns.map PyData.int)) := .lst (SqL.of h) (dps ns)
end Pen
namespace Pen
open PySem L2
theorem cut63 {ns : List Int} (h : ns.length ≤ 63) : cutV (ns.map V.int) none (some 63) = ns.map V.int := by
  unfold cutV
  rw [HT.sIx_none, show (some (63 : Int)) = some (((63 : Nat) : Int)) from rfl, HT.sIx_nat]
  rw [List.drop_zero, List.length_map, Nat.min_eq_right h, Nat.sub_zero]
  exact List.take_of_length_le (by rw [List.length_map]; exact Nat.le_refl _)
theorem merge_pk (c : Addr) : mergeK [] [(kC, .ref c), (kA, .int 0), (kR, .int 0)] = pk c 0 0 := by
  have e1 : putK [] kC (V.ref c) = [(kC, V.ref c)] := putK_new _ rfl
  have e2 : putK [(kC, V.ref c)] kA (V.int 0) = [(kC, V.ref c), (kA, V.int 0)] := putK_new _ (valV_neg nCA)
  have e3 : putK [(kC, V.ref c), (kA, V.int 0)] kR (V.int 0) = [(kC, V.ref c), (kA, V.int 0), (kR, V.int 0)] := putK_new _ ((valV_neg nCR).trans (valV_neg nAR))
  show putK (putK (putK [] kC (V.ref c)) kA (V.int 0)) kR (V.int 0) = _
  rw [e1, e2, e3]
  rfl
theorem canLay_ints : ∀ ns : List Int, PyData.canLay0 (.list (ns.map PyData.int)) = true := by
  intro ns
  induction ns with
  | nil => rfl
  | cons n ns ih =>
    simp only [List.map_cons, PyData.canLay0, PyData.canLayAll0] at ih ⊢
    first | exact ih | simpa using ih
theorem depth_ints : ∀ ns : List Int, PyData.depth (.list (ns.map PyData.int)) ≤ 64 := by
  have h : ∀ ns : List Int, PyData.depthAll (ns.map PyData.int) ≤ 1 := by
    intro ns
    induction ns with
    | nil => simp [PyData.depthAll]
    | cons n ns ih => simp only [List.map_cons, PyData.depthAll, PyData.depth]; omega
  intro ns
  have := h ns
  simp only [PyData.depth]
  omega
theorem shaped_ints (ns : List Int) : SeqAt.shaped (.list (ns.map PyData.int)) = true := by
  unfold SeqAt.shaped
  rw [canLay_ints, decide_eq_true (depth_ints ns)]
  rfl
end Pen

set_option Elab.async false
set_option linter.all false
set_option maxRecDepth 100000
/-! Data that stand beside the pen. -/
namespace Dat
open PySem PySem.Spec L2 RG Pen
theorem sz {n : Nat} (h : n ≤ 99) : n ≤ sizeLine := Nat.le_trans h (by decide)
theorem szl {n : Nat} (h : n ≤ 99) : n < sizeLine := Nat.lt_of_le_of_lt h (by decide)
def delp (p : Addr) (G : Hp) : Hp := fun b => if b = p then none else G b
theorem delp_ne {p b : Addr} {G : Hp} (h : b ≠ p) : delp p G b = G b := if_neg h
theorem delp_same {p : Addr} {G G1 : Hp} (s : SameX p G G1) : Same (delp p G) (delp p G1) := fun b o h => by
  by_cases hb : b = p
  · subst hb
    have h' : (if b = b then none else G b) = some o := h
    rw [if_pos rfl] at h'
    cases h'
  · rw [delp_ne hb] at h ⊢
    exact s b o hb h
theorem delp_le {p : Addr} {G : Hp} : Same (delp p G) G := fun b o h => by
  by_cases hb : b = p
  · have h' : (if b = p then none else G b) = some o := h
    rw [if_pos hb] at h'
    cases h'
  · rw [delp_ne hb] at h
    exact h
theorem sqT_same {K : PySem.W.Frag} {G G1 : Hp} {a : Addr} {xs : List V} (s : Same G G1) (h : SqT K G a xs) : SqT K G1 a xs := by
  rcases h with (h | ⟨o, h⟩) | h
  · exact .inl (.inl (s _ _ h))
  · exact .inl (.inr ⟨o, s _ _ h⟩)
  · exact .inr h
mutual
theorem Rp.same {K : PySem.W.Frag} {G G1 : Hp} (s : Same G G1) : ∀ {d : PyData} {v : V}, Rp K G v d → Rp K G1 v d
  | .none, _, .non => .non
  | .bool _, _, .bl b => .bl b
  | .int _, _, .int i => .int i
  | .str _, _, .str x => .str x
  | .list _, _, .lst h r n => .lst (s.seq h) (RpAll.same s r) n
  | .tuple _, _, .tup h r => .tup (sqT_same s h) (RpAll.same s r)
  | .dict ps, _, .dic h k r => .dic (s _ _ h) k (RpAll.sameV s (ps := ps) r)
theorem RpAll.same {K : PySem.W.Frag} {G G1 : Hp} (s : Same G G1) : ∀ {ds : List PyData} {vs : List V}, RpAll K G vs ds → RpAll K G1 vs ds
  | [], _, .nil => .nil
  | _ :: _, _, .cons h r => .cons (Rp.same s h) (RpAll.same s r)
theorem RpAll.sameV {K : PySem.W.Frag} {G G1 : Hp} (s : Same G G1) : ∀ {ps : List (PyData × PyData)} {vs : List V}, RpAll K G vs (ps.map (·.2)) → RpAll K G1 vs (ps.map (·.2))
  | [], _, .nil => .nil
  | (_, _) :: _, _, .cons h r => .cons (Rp.same s h) (RpAll.sameV s r)
end
theorem RpAll.append {K : PySem.W.Frag} {G : Hp} : ∀ {vs ws : List V} {ds es : List PyData}, RpAll K G vs ds → RpAll K G ws es → RpAll K G (vs ++ ws) (ds ++ es)
  | _, _, _, _, .nil, r => r
  | _, _, _, _, .cons h t, r => .cons h (RpAll.append t r)
theorem RpAll.mem {K : PySem.W.Frag} {G : Hp} {v : V} : ∀ {vs : List V} {ds : List PyData}, RpAll K G vs ds → v ∈ vs → ∃ d, d ∈ ds ∧ Rp K G v d
  | _, _, .nil, h => by cases h
  | _, _, .cons h t, m => by
    rcases List.mem_cons.mp m with e | m
    · subst e
      exact ⟨_, List.mem_cons_self .., h⟩
    · obtain ⟨d, hd, r⟩ := RpAll.mem t m
      exact ⟨d, List.mem_cons_of_mem _ hd, r⟩
end Dat

set_option Elab.async false
set_option linter.all false
set_option maxRecDepth 100000
set_option maxHeartbeats 1000000
/-! Any data beside a text: ==, !=, in. -/
namespace KEq
open PySem PySem.Spec L2 RG Pen Dat PySem.SeqAt PySem.MeetsSeq
open AutoSeq1 (wpAny_loadPart')
theorem dict_eq_no (l : Addr) (es : Array DictEntry) (ep : Nat) (dd : Option Addr) (sl : Array (Option Value)) (b : Str) (u : Tok) :
    Meets (Builtin.«dict.__eq__» ⟨[.ref l, .str b u], []⟩) (fun _ R s => s.heap.get? l = some { cls := .type "dict", dict := dd, data := .dict es ep, slots := sl } ∧ R (.ok (.ret .notImplemented)) s) :=
  .of_wp fun prog w A R s h => by
    obtain ⟨hp, g, d, tk, os⟩ := s
    obtain ⟨hl, h⟩ := h
    have f1 := F.sub_str_dict
    wp_walk using wpAny_loadPart' hl, wpAny_load hl
    exact ⟨_, rfl, h⟩
theorem str_eq_dict (b : Str) (u : Tok) (l : Addr) (es : Array DictEntry) (ep : Nat) (dd : Option Addr) (sl : Array (Option Value)) :
    Meets (Builtin.«str.__eq__» ⟨[.str b u, .ref l], []⟩) (fun _ R s => s.heap.get? l = some { cls := .type "dict", dict := dd, data := .dict es ep, slots := sl } ∧ R (.ok (.ret .notImplemented)) s) :=
  .of_wp fun prog w A R s h => by
    obtain ⟨hp, g, d, tk, os⟩ := s
    obtain ⟨hl, h⟩ := h
    wp_walk using wpAny_loadPart' hl, wpAny_load hl
    exact ⟨_, rfl, h⟩
theorem dict_ne_no (l : Addr) (es : Array DictEntry) (ep : Nat) (dd : Option Addr) (sl : Array (Option Value)) (b : Str) (u : Tok) :
    Meets (Builtin.«dict.__ne__» ⟨[.ref l, .str b u], []⟩) (fun _ R s => s.heap.get? l = some { cls := .type "dict", dict := dd, data := .dict es ep, slots := sl } ∧ R (.ok (.ret .notImplemented)) s) :=
  .of_wp fun prog w A R s h => by
    obtain ⟨hp, g, d, tk, os⟩ := s
    obtain ⟨hl, h⟩ := h
    have f1 := F.sub_str_dict
    wp_walk using wpAny_loadPart' hl, wpAny_load hl
    exact ⟨_, rfl, h⟩
theorem str_ne_dict (b : Str) (u : Tok) (l : Addr) (es : Array DictEntry) (ep : Nat) (dd : Option Addr) (sl : Array (Option Value)) :
    Meets (Builtin.«str.__ne__» ⟨[.str b u, .ref l], []⟩) (fun _ R s => s.heap.get? l = some { cls := .type "dict", dict := dd, data := .dict es ep, slots := sl } ∧ R (.ok (.ret .notImplemented)) s) :=
  .of_wp fun prog w A R s h => by
    obtain ⟨hp, g, d, tk, os⟩ := s
    obtain ⟨hl, h⟩ := h
    wp_walk using wpAny_loadPart' hl, wpAny_load hl
    exact ⟨_, rfl, h⟩
section
variable {A : Around} {s : Shared} {l : Addr} {es : Array DictEntry} {ep : Nat} {dd : Option Addr} {sl : Array (Option Value)}
theorem rc_dict_str (b : Str) (u : Tok) (ho : s.heap.get? l = some { cls := .type "dict", dict := dd, data := .dict es ep, slots := sl }) (hu : A.units < cLine) : RcAt A s (.ref l) (.str b u) false := fun prog w E Q h =>
  rc_eq_decline_or (k := false) ⟨_, ho, rfl⟩ (typeIs_str s b u) (by decide) F.sub_str_dict F.slot_dict_eq F.slot_str_eq_refl
    (fun _ hq => call_meets F.slot_dict_eq ⟨_, ho, rfl⟩ F.entry_dict_eq (F.args_dict_eq_2 _ _) (dict_eq_no l es ep dd sl b u) ⟨ho, hq⟩)
    (fun _ hq => call_meets F.slot_str_eq_refl (typeIs_str s b u) F.entry_str_eq (F.args_str_eq_2 _ _) (str_eq_dict b u l es ep dd sl) ⟨ho, hq⟩)
    (fun _ hq => wpAny_of_eq (rfl : isSame (.ref l) (.str b u) = pure false) hq) (.inr hu) h
theorem rc_str_dict (b : Str) (u : Tok) (ho : s.heap.get? l = some { cls := .type "dict", dict := dd, data := .dict es ep, slots := sl }) (hu : A.units < cLine) : RcAt A s (.str b u) (.ref l) false := fun prog w E Q h =>
  rc_eq_decline_or (k := false) (typeIs_str s b u) ⟨_, ho, rfl⟩ (by decide) F.sub_dict_str F.slot_str_eq F.slot_dict_eq_refl
    (fun _ hq => call_meets F.slot_str_eq (typeIs_str s b u) F.entry_str_eq (F.args_str_eq_2 _ _) (str_eq_dict b u l es ep dd sl) ⟨ho, hq⟩)
    (fun _ hq => call_meets F.slot_dict_eq_refl ⟨_, ho, rfl⟩ F.entry_dict_eq (F.args_dict_eq_2 _ _) (dict_eq_no l es ep dd sl b u) ⟨ho, hq⟩)
    (fun _ hq => wpAny_of_eq (rfl : isSame (.str b u) (.ref l) = pure false) hq) (.inr hu) h
theorem at_str_dict (b : Str) (u : Tok) (ho : s.heap.get? l = some { cls := .type "dict", dict := dd, data := .dict es ep, slots := sl }) (hu : A.units < cLine) : EqAt A s (.str b u) (.ref l) false := fun prog w E Q h => by
  unfold eqBool
  refine wpAny_holding ?_
  refine wpAny_ite_split (fun hab => absurd (eq_of_beq hab) nofun) (fun _ => ?_)
  exact wpAny_bind (rc_str_dict b u ho hu prog w E _ (wpAny_truthy_bool h))
theorem ne_dict_str (b : Str) (u : Tok) (ho : s.heap.get? l = some { cls := .type "dict", dict := dd, data := .dict es ep, slots := sl }) (hu : A.units < cLine) : RcNeAt A s (.ref l) (.str b u) true := fun prog w E Q h =>
  rc_ne_decline_or (k := false) ⟨_, ho, rfl⟩ (typeIs_str s b u) (by decide) F.sub_str_dict F.slot_dict_ne F.slot_str_ne_refl
    (fun _ hq => call_meets F.slot_dict_ne ⟨_, ho, rfl⟩ F.entry_dict_ne (F.args_dict_ne_2 _ _) (dict_ne_no l es ep dd sl b u) ⟨ho, hq⟩)
    (fun _ hq => call_meets F.slot_str_ne_refl (typeIs_str s b u) F.entry_str_ne (F.args_str_ne_2 _ _) (str_ne_dict b u l es ep dd sl) ⟨ho, hq⟩)
    (fun _ hq => wpAny_of_eq (rfl : isSame (.ref l) (.str b u) = pure false) hq) (.inr hu) h
end
/-- the text z -/
def isS : PyData → Str → Bool
  | .str x, z => x == z
  | _, _ => false
section
variable {X : Cx} {pins : List (Addr × Obj)} {σ : L2.St} {G : Hp} {st : Shared}
theorem dict_at {a : Addr} {kvs : List (Key × V)} (I : Inv X pins σ G st) (e : G a = some (.dK kvs)) : ∃ dd es ep sl, st.heap.get? a = some { cls := .type "dict", dict := dd, data := .dict es ep, slots := sl } := by
  obtain ⟨_, _, vs, _, o, es, ep, h1, h2, h3, _⟩ := (show ObjOk X.prog X.w G st.heap a (.dK kvs) from I.hok a _ e)
  obtain ⟨oc, od, dt, sl⟩ := o
  have h4 : oc = .type "dict" := h2.1
  have h5 : dt = .dict es ep := h3
  subst h4 h5
  exact ⟨_, _, _, _, h1⟩
theorem rp_rc {A : Around} (hu : A.units < cLine) (I : Inv X pins σ G st) {v : V} {u : Value} {d : PyData} (r : Rp X.K G v d) (ru : RelV v u) (z : Str) (t : Tok) : RcAt A st u (.str z t) (isS d z) := by
  cases r with
  | non =>
    cases ru
    exact RcAt.none_str z t
  | bl b =>
    cases ru
    exact RcAt.bool_str b z t
  | int i =>
    obtain ⟨t2, rfl⟩ := ru
    exact RcAt.int_str i t2 z t
  | str x =>
    obtain ⟨t2, rfl⟩ := ru
    exact RcAt.str_str x t2 z t
  | lst a b c =>
    cases ru
    obtain ⟨its, r, pl, hz⟩ := I.list a
    exact RcAt.list_str z t pl.isList hu
  | tup a b =>
    cases ru
    obtain ⟨its, r, pl, hz⟩ := I.tuple a
    exact RcAt.tuple_str z t pl hu
  | dic a b c =>
    cases ru
    obtain ⟨dd, es, ep, sl, o⟩ := dict_at I a
    exact rc_dict_str z t o hu
theorem rp_ne {A : Around} (hu : A.units < cLine) (I : Inv X pins σ G st) {v : V} {u : Value} {d : PyData} (r : Rp X.K G v d) (ru : RelV v u) (z : Str) (t : Tok) : RcNeAt A st u (.str z t) (!isS d z) := by
  cases r with
  | non =>
    cases ru
    exact RcNeAt.none_str z t
  | bl b =>
    cases ru
    exact RcNeAt.bool_str b z t
  | int i =>
    obtain ⟨t2, rfl⟩ := ru
    exact RcNeAt.int_str i t2 z t
  | str x =>
    obtain ⟨t2, rfl⟩ := ru
    exact RcNeAt.str_str x t2 z t
  | lst a b c =>
    cases ru
    obtain ⟨its, r, pl, hz⟩ := I.list a
    exact RcNeAt.list_str z t pl.isList hu
  | tup a b =>
    cases ru
    obtain ⟨its, r, pl, hz⟩ := I.tuple a
    exact RcNeAt.tuple_str z t pl hu
  | dic a b c =>
    cases ru
    obtain ⟨dd, es, ep, sl, o⟩ := dict_at I a
    exact ne_dict_str z t o hu
theorem beq_swap (x z : Str) : (z == x) = (x == z) := by
  rw [Bool.eq_iff_iff, beq_iff_eq, beq_iff_eq]
  exact eq_comm
theorem rp_at {A : Around} (hu : A.units < cLine) (I : Inv X pins σ G st) {v : V} {u : Value} {d : PyData} (r : Rp X.K G v d) (ru : RelV v u) (z : Str) (t : Tok) : EqAt A st (.str z t) u (isS d z) := by
  cases r with
  | non =>
    cases ru
    exact EqAt.str_none z t
  | bl b =>
    cases ru
    exact EqAt.str_bool z t b
  | int i =>
    obtain ⟨t2, rfl⟩ := ru
    exact EqAt.str_int z t i t2
  | str x =>
    obtain ⟨t2, rfl⟩ := ru
    have := EqAt.str_str (A := A) (s := st) z t x t2
    rw [beq_swap] at this
    exact this
  | lst a b c =>
    cases ru
    obtain ⟨its, r, pl, hz⟩ := I.list a
    exact EqAt.str_list z t pl.isList hu
  | tup a b =>
    cases ru
    obtain ⟨its, r, pl, hz⟩ := I.tuple a
    exact EqAt.str_tuple z t pl hu
  | dic a b c =>
    cases ru
    obtain ⟨dd, es, ep, sl, o⟩ := dict_at I a
    exact at_str_dict z t o hu
end
/-- d == 'z', d != 'z' -/
def rEqS (K : PySem.W.Frag) : R2 := fun x y G Want => ∃ d z, Rp K G x d ∧ y = .str z ∧ Want (.bl (isS d z)) G
def rNeS (K : PySem.W.Frag) : R2 := fun x y G Want => ∃ d z, Rp K G x d ∧ y = .str z ∧ Want (.bl (!isS d z)) G
theorem op_eqS {X : Cx} (hu : X.A.units + 1 < cLine) : OpR X (compareOp .Eq) (rEqS X.K) := by
  intro pins st σ G x y v u Want I rx ry h
  obtain ⟨d, z, r, rfl, q⟩ := h
  obtain ⟨t, rfl⟩ := ry
  exact rp_rc (Nat.lt_of_succ_lt hu) I r rx z t _ _ _ _ ⟨.bl _, G, I, rfl, q⟩
theorem op_neS {X : Cx} (hu : X.A.units + 1 < cLine) : OpR X (compareOp .NotEq) (rNeS X.K) := by
  intro pins st σ G x y v u Want I rx ry h
  obtain ⟨d, z, r, rfl, q⟩ := h
  obtain ⟨t, rfl⟩ := ry
  exact rp_ne (Nat.lt_of_succ_lt hu) I r rx z t _ _ _ _ ⟨.bl _, G, I, rfl, q⟩
/-- d in a tuple of texts -/
def rInS (K : PySem.W.Frag) : R2 := fun x y G Want => ∃ (d : PyData) (p : Addr) (zs : List Str), Rp K G x d ∧ y = .ref p ∧ SqT K G p (zs.map V.str) ∧ Want (.bl (zs.any fun z => isS d z)) G
theorem any_texts {d : PyData} : ∀ {zs : List Str} {us : List Value}, Vals (zs.map V.str) us → (us.any fun u => match u with | .str z _ => isS d z | _ => false) = zs.any fun z => isS d z
  | [], _, .nil => rfl
  | z :: zs, _, .cons r t => by
    obtain ⟨k, rfl⟩ := r
    rw [List.any_cons, List.any_cons, any_texts t]
theorem texts_are : ∀ {zs : List Str} {us : List Value}, Vals (zs.map V.str) us → ∀ u ∈ us, ∃ z t, u = .str z t
  | [], _, .nil => fun u hu => by cases hu
  | z :: zs, _, .cons r t => fun u hu => by
    obtain ⟨k, rfl⟩ := r
    rcases List.mem_cons.mp hu with e | m
    · exact ⟨z, k, e⟩
    · exact texts_are t u m
theorem op_inS {X : Cx} (hu : X.A.units + 1 < cLine) : OpR X (compareOp .In) (rInS X.K) := by
  intro pins st σ G x y v u Want I rx ry h
  obtain ⟨d, p, zs, r, rfl, hq, q⟩ := h
  cases ry
  obtain ⟨its, rl, pl, hz⟩ := I.tuple hq
  refine SeqAt.in_tupleAt (fun u => match u with | .str z _ => isS d z | _ => false) pl (fun w hw => ?_) ⟨.bl _, G, I, rfl, ?_⟩
  · obtain ⟨z, t, rfl⟩ := texts_are rl w (by simpa using hw)
    exact rp_at (A := X.A.in1) (show X.A.units + 1 < cLine from hu) I r rx z t
  · rw [show its.toArray.any (fun u => match u with | .str z _ => isS d z | _ => false) = its.any (fun u => match u with | .str z _ => isS d z | _ => false) by simp, any_texts rl]
    exact q

end KEq

set_option Elab.async false
set_option linter.all false
set_option maxRecDepth 100000
set_option maxHeartbeats 1000000
namespace KEq
open PySem PySem.Spec L2 RG Pen Dat
/-! ### what kind a value is -/
def typeD : PyData → String
  | .none => "NoneType" | .bool _ => "bool" | .int _ => "int" | .str _ => "str" | .list _ => "list" | .tuple _ => "tuple" | .dict _ => "dict"
def isTup : PyData → Bool
  | .tuple _ => true
  | _ => false
def isStr : PyData → Bool
  | .str _ => true
  | _ => false
def isInt : PyData → Bool
  | .int _ => true | .bool _ => true
  | _ => false
def isBool : PyData → Bool
  | .bool _ => true
  | _ => false
theorem kit_tup {K : PySem.W.Frag} : ∀ d, PySem.W.kitOne K (.type (typeD d)) (.type "tuple") = some (isTup d)
  | .none => kit_ty (show kitB "NoneType" "tuple" = some false by decide +kernel)
  | .bool _ => kit_ty (show kitB "bool" "tuple" = some false by decide +kernel)
  | .int _ => kit_ty (show kitB "int" "tuple" = some false by decide +kernel)
  | .str _ => kit_ty (show kitB "str" "tuple" = some false by decide +kernel)
  | .list _ => kit_ty (show kitB "list" "tuple" = some false by decide +kernel)
  | .tuple _ => kit_ty (show kitB "tuple" "tuple" = some true by decide +kernel)
  | .dict _ => kit_ty (show kitB "dict" "tuple" = some false by decide +kernel)
theorem kit_str {K : PySem.W.Frag} : ∀ d, PySem.W.kitOne K (.type (typeD d)) (.type "str") = some (isStr d)
  | .none => kit_ty (show kitB "NoneType" "str" = some false by decide +kernel)
  | .bool _ => kit_ty (show kitB "bool" "str" = some false by decide +kernel)
  | .int _ => kit_ty (show kitB "int" "str" = some false by decide +kernel)
  | .str _ => kit_ty (show kitB "str" "str" = some true by decide +kernel)
  | .list _ => kit_ty (show kitB "list" "str" = some false by decide +kernel)
  | .tuple _ => kit_ty (show kitB "tuple" "str" = some false by decide +kernel)
  | .dict _ => kit_ty (show kitB "dict" "str" = some false by decide +kernel)
theorem kit_int {K : PySem.W.Frag} : ∀ d, PySem.W.kitOne K (.type (typeD d)) (.type "int") = some (isInt d)
  | .none => kit_ty (show kitB "NoneType" "int" = some false by decide +kernel)
  | .bool _ => kit_ty (show kitB "bool" "int" = some true by decide +kernel)
  | .int _ => kit_ty (show kitB "int" "int" = some true by decide +kernel)
  | .str _ => kit_ty (show kitB "str" "int" = some false by decide +kernel)
  | .list _ => kit_ty (show kitB "list" "int" = some false by decide +kernel)
  | .tuple _ => kit_ty (show kitB "tuple" "int" = some false by decide +kernel)
  | .dict _ => kit_ty (show kitB "dict" "int" = some false by decide +kernel)
theorem kit_bool {K : PySem.W.Frag} : ∀ d, PySem.W.kitOne K (.type (typeD d)) (.type "bool") = some (isBool d)
  | .none => kit_ty (show kitB "NoneType" "bool" = some false by decide +kernel)
  | .bool _ => kit_ty (show kitB "bool" "bool" = some true by decide +kernel)
  | .int _ => kit_ty (show kitB "int" "bool" = some false by decide +kernel)
  | .str _ => kit_ty (show kitB "str" "bool" = some false by decide +kernel)
  | .list _ => kit_ty (show kitB "list" "bool" = some false by decide +kernel)
  | .tuple _ => kit_ty (show kitB "tuple" "bool" = some false by decide +kernel)
  | .dict _ => kit_ty (show kitB "dict" "bool" = some false by decide +kernel)
theorem rp_ty {K : PySem.W.Frag} {G : Hp} {v : V} {d : PyData} (r : Rp K G v d) : TyX K G v (.type (typeD d)) := by
  cases r with
  | non => exact .base .non
  | bl b => exact .base (.bl b)
  | int i => exact .base (.int i)
  | str x => exact .base (.str x)
  | lst a b c =>
    rcases a with (a | ⟨o, a⟩) | ⟨o, _, _, a, b, _⟩
    · exact .base (.lst a)
    · exact .base (.frz a)
    · exact .kList a b
  | tup a b =>
    rcases a with (a | ⟨o, a⟩) | ⟨o, _, _, a, b, _⟩
    · exact .base (.tup a)
    · exact .fTuple a
    · exact .kTuple a b
  | dic a b c => exact .base (.dK a)
/-! ### [.. for c in a text] -/
theorem lc_txt {x : Str} {g : TG} {tt : TT} {te : TE} {vs : List Nat} {σ : L2.St} {H1 : Hp} {D : Addr} {Qd : Hp → Prop} (Pv : Nat → Hp → Prop) (h0 : Pv 0 (upd H1 D (.lst [])))
    (hs : ∀ i c H, x.cps[i]? = some c → Pv i H → g (.str ⟨#[c]⟩) (wipe σ vs) H fun σ2 H2 => wipe σ2 vs = wipe σ vs ∧ tt σ2 H2 fun b H3 =>
      if b = true then te σ2 H3 fun y H4 => ∃ acc, H4 D = some (.lst acc) ∧ acc.length < sizeLine ∧ Pv (i + 1) (upd H4 D (.lst (acc ++ [y]))) else Pv (i + 1) H3) (hd : ∀ H, Pv x.cps.size H → Qd H) :
    ∃ W : Nat → Nat → Hp → Prop, (∃ m, W 0 m (upd H1 D (.lst []))) ∧ ∀ i m H, W i m H →
      ((Its x).stop i H ∧ Qd H) ∨ ((Its x).go i H ∧ ∃ Nx : Hp → Prop, (∀ H', Nx H' → ∃ m', m' < m ∧ W (i + 1) m' H') ∧ ∀ y H', (Its x).yld i H y H' → g y (wipe σ vs) H' fun σ2 H2 => wipe σ2 vs = wipe σ vs ∧ tt σ2 H2 fun b H3 =>
        if b = true then te σ2 H3 fun y H4 => ∃ acc, H4 D = some (.lst acc) ∧ acc.length < sizeLine ∧ Nx (upd H4 D (.lst (acc ++ [y]))) else Nx H3) := by
  refine ⟨fun i m H => m = x.cps.size - i ∧ i ≤ x.cps.size ∧ Pv i H, ⟨x.cps.size, by simp, Nat.zero_le _, h0⟩, ?_⟩
  rintro i m H ⟨rfl, hi, p⟩
  by_cases hlt : i < x.cps.size
  · refine .inr ⟨hlt, Pv (i + 1), fun H' p' => ⟨x.cps.size - (i + 1), by omega, rfl, hlt, p'⟩, fun y H' q => ?_⟩
    obtain ⟨e, c, hc, rfl⟩ := q
    subst e
    exact hs i c _ hc p
  · have e : i = x.cps.size := by omega
    subst e
    exact .inl ⟨Nat.le_refl _, hd H p⟩
end KEq

set_option Elab.async false
set_option linter.all false
set_option maxRecDepth 100000
set_option maxHeartbeats 4000000
/-! tuple * 0, tuple * 1; text * int. -/
namespace KRep
open PySem PySem.Spec L2 PyProof.Rows
open AutoSeq1 (wpAny_loadPart')
theorem times_one (l : Addr) (items : Array Value) (n : Nat) (dd : Option Addr) (sl : Array (Option Value)) (u : Tok) :
    Meets (Builtin.«tuple.__mul__» ⟨[.ref l, .int 1 u], []⟩) (fun _ R s => s.heap.get? l = some { cls := .type "tuple", dict := dd, data := .seq items n, slots := sl } ∧ R (.ok (.ret (Value.ref l))) s) :=
  .of_wp fun pr wo Ar Rr st told => by
    obtain ⟨hp, g, d, tk, os⟩ := st
    obtain ⟨hl, told⟩ := told
    have f1 := AutoSeq1.idx_int
    have f2 : (items.isEmpty || (1 : Int) == 1) = true := by simp
    wp_walk using wpAny_loadPart' hl
    exact ⟨_, rfl, told⟩
theorem times_none (l : Addr) (items : Array Value) (n : Nat) (dd : Option Addr) (sl : Array (Option Value)) (u : Tok) (ne : items.isEmpty = false) :
    Meets (Builtin.«tuple.__mul__» ⟨[.ref l, .int 0 u], []⟩) (fun _ R s => s.heap.get? l = some { cls := .type "tuple", dict := dd, data := .seq items n, slots := sl } ∧
      R (.ok (.ret (Value.ref s.heap.objs.size))) { s with heap := s.heap.push { cls := Value.type "tuple", data := Data.seq #[] }, toks := s.toks }) :=
  .of_wp fun pr wo Ar Rr st told => by
    obtain ⟨hp, g, d, tk, os⟩ := st
    obtain ⟨hl, told⟩ := told
    have f1 := AutoSeq1.idx_int
    have f2 : (items.isEmpty || (0 : Int) == 1) = false := by rw [ne]; rfl
    wp_walk using wpAny_loadPart' hl
    exact ⟨_, rfl, told⟩
/-- t * k, k from 0 on -/
def rRepA (K : PySem.W.Frag) : R2 := fun x y G Want => ∃ (l : Addr) (k : Int) (xs : List V), x = .ref l ∧ y = .int k ∧ SqT K G l xs ∧ xs ≠ [] ∧ 0 ≤ k ∧ k ≤ 1000 ∧ xs.length ≤ 1000 ∧ (k = 1 → Want (.ref l) G) ∧
  (k ≠ 1 → ∀ p, G p = none → Want (.ref p) (upd G p (.tup (List.replicate k.toNat xs).flatten)))
theorem op_repA {X : Cx} : OpR X (binaryOp .Mult) (rRepA X.K) := by
  intro pins st σ G x y v u Want I rx ry h
  obtain ⟨l, k, xs, rfl, rfl, hT, hne, k0, k1, hz, q1, q2⟩ := h
  by_cases big : 2 ≤ k
  · exact op_repT pins st σ G _ _ v u Want I rx ry ⟨l, k, xs, rfl, rfl, hT, hne, big, k1, hz, q2 (by omega)⟩
  cases rx
  obtain ⟨t, rfl⟩ := ry
  obtain ⟨its, r, ⟨⟨oc, od, dt, os⟩, there, hc, n, hd⟩, hs⟩ := I.tuple hT
  have hc' : oc = .type "tuple" := hc
  have hd' : dt = .seq its.toArray n := hd
  subst hc' hd'
  have some_ : its.toArray.isEmpty = false := by
    cases its with
    | nil =>
      cases r
      exact absurd rfl hne
    | cons a b => rfl
  by_cases one : k = 1
  · subst one
    exact wpAny_binaryOp_repeat_ref (T := "tuple") (U := "int") (by decide) ⟨_, there, rfl⟩ (fun s' => typeIs_int s' 1 t) noFill_tuple_mul F.fills_int_mul F.slot_int_rmul repeat_tuple F.slot_int_index.lookup
      (call_meets F.slot_int_rmul (typeIs_int st 1 t) F.entry_int_rmul (F.args_int_rmul_2 _ _) (int_rmul_tuple 1 t l its.toArray n od os)
        ⟨there, rfl, ⟨_, there, rfl⟩, call_meets F.slot_tuple_mul ⟨_, there, rfl⟩ F.entry_tuple_mul (F.args_tuple_mul_2 _ _) (times_one l its.toArray n od os t) ⟨there, ⟨.ref l, G, I, rfl, q1 rfl⟩⟩⟩)
  · have zero : k = 0 := by omega
    subst zero
    exact wpAny_binaryOp_repeat_ref (T := "tuple") (U := "int") (by decide) ⟨_, there, rfl⟩ (fun s' => typeIs_int s' 0 t) noFill_tuple_mul F.fills_int_mul F.slot_int_rmul repeat_tuple F.slot_int_index.lookup
      (call_meets F.slot_int_rmul (typeIs_int st 0 t) F.entry_int_rmul (F.args_int_rmul_2 _ _) (int_rmul_tuple 0 t l its.toArray n od os)
        ⟨there, rfl, ⟨_, there, rfl⟩, call_meets F.slot_tuple_mul ⟨_, there, rfl⟩ F.entry_tuple_mul (F.args_tuple_mul_2 _ _) (times_none l its.toArray n od os t some_)
          ⟨there, ⟨.ref st.heap.objs.size, _, I.laid (t' := st.toks) (o := .tup []) (fun b ob e => Heap.get?_push_of_some _ e) (Nat.le_refl _) ⟨by show 0 ≤ sizeLine; decide, [], .nil, IsTup.new _ _⟩, rfl, q2 (by decide) _ (I.hok.fresh (Nat.le_refl _))⟩⟩⟩)
/-- 'a' * k -/
def rMulS : R2 := fun x y G Want => ∃ (z : Str) (k : Int), x = .str z ∧ y = .int k ∧ z.length = 1 ∧ 1 ≤ k ∧ k ≤ 100 ∧ ∀ w : Str, w.length ≤ 100 → Want (.str w) G
theorem fold_size (a : Array Nat) : ∀ (m : Nat) (b : Array Nat), ((List.replicate m a).foldl (· ++ ·) b).size = b.size + m * a.size
  | 0, b => by simp
  | m + 1, b => by
    rw [List.replicate_succ, List.foldl_cons, fold_size a m, Array.size_append, Nat.add_mul, Nat.one_mul]
    omega
theorem op_mulS {X : Cx} : OpR X (binaryOp .Mult) rMulS := by
  intro pins st σ G x y v u Want I rx ry h
  obtain ⟨z, k, rfl, rfl, z1, k1, k2, q⟩ := h
  obtain ⟨t, rfl⟩ := rx
  obtain ⟨t2, rfl⟩ := ry
  have len : (Txt.mul z k).length ≤ 100 := by
    unfold Txt.mul
    rw [if_neg (by omega)]
    split
    · omega
    · show ((List.replicate k.toNat z.cps).foldl (· ++ ·) #[]).size ≤ 100
      rw [fold_size]
      have : z.cps.size = 1 := z1
      rw [this]
      simp
      omega
  refine SB.mul ⟨?_, ?_, ?_⟩ fun t' tk => ⟨.str (Txt.mul z k), G, I.tok tk, ⟨_, rfl⟩, q _ len⟩
  · rw [decide_eq_false (by omega), decide_eq_false (by omega)]
    rfl
  · intro _ _
    rw [z1]
    have : (1 : Int) ≤ (2 ^ 63 - 1) / k := by
      apply Int.le_ediv_of_mul_le (by omega)
      omega
    omega
  · intro _ _
    rw [z1]
    have : k.toNat ≤ 100 := by omega
    show decide (1 * k.toNat > sizeLine) = false
    exact decide_eq_false (by have : 100 ≤ sizeLine := by decide
                              omega)
end KRep

set_option Elab.async false
set_option linter.all false
set_option maxRecDepth 100000
set_option maxHeartbeats 2000000
namespace Hd
open PySem L2 Pen RG Dat KEq
def top (i : Nat) : Stmt := PySem.Challenge.pw_oncepost_k01_runs_of_handlers.main.body.getD i (.Pass ⟨0, 0, 0, 0⟩)
abbrev sNum : Stmt := top 8
abbrev sVal : Stmt := top 9
abbrev sWord : Stmt := top 10
abbrev sTof : Stmt := top 11
abbrev sKey : Stmt := top 30
structure DefT (K : PySem.W.Frag) (mg : Str → Option Value) (x : Str) (f : Addr) : Prop where
  mg : mg x = some (.ref f)
  kp : PySem.W.keepIn K (.ref f) = true
def abc : Str := "abcdefghijklmnopqrstuvwxyz"
structure TxtH (mg : Str → Option Value) : Prop where
  isinstance : mg "isinstance" = none
  len : mg "len" = none
  all : mg "all" = none
  int : mg "int" = none
  bool : mg "bool" = none
  str : mg "str" = none
  tuple : mg "tuple" = none
  BOUND : ∃ t, mg "BOUND" = some (.int 99 t)
  LONGEST : ∃ t, mg "LONGEST_WORD" = some (.int 6 t)
  LETTERS : ∃ t, mg "LETTERS" = some (.str abc t)
def isNum : PyData → Bool
  | .int _ => true
  | _ => false
def isVal : PyData → Bool
  | .int i => decide (-99 ≤ i) && decide (i ≤ 99)
  | _ => false
def isWord : PyData → Bool
  | .str x => decide (1 ≤ x.length) && decide (x.length ≤ 6) && x.cps.toList.all fun c => decide (c ∈ abc.cps.toList)
  | _ => false
def isTof (d : PyData) (n : Int) : Bool := match d with
  | .tuple xs => decide ((xs.length : Int) = n)
  | _ => false
def isKey : PyData → Bool
  | .none => true
  | d => isWord d
mutual
/-- no text is long -/
def sm : PyData → Bool
  | .str x => decide (x.length ≤ 1000)
  | .tuple xs => decide (xs.length ≤ 1000) && smAll xs
  | _ => true
def smAll : List PyData → Bool
  | [] => true
  | x :: xs => sm x && smAll xs
end
theorem sm_len {ds : List PyData} (h : sm (.tuple ds) = true) : ds.length ≤ 1000 := by
  have z : (decide (ds.length ≤ 1000) && smAll ds) = true := h
  rw [Bool.and_eq_true, decide_eq_true_eq] at z
  exact z.1
theorem sm_tup {ds : List PyData} (h : sm (.tuple ds) = true) : smAll ds = true := by
  have z : (decide (ds.length ≤ 1000) && smAll ds) = true := h
  rw [Bool.and_eq_true] at z
  exact z.2
def rSign : R2 := fun x y H Q => ∃ (c : Nat) (z : Str), x = .str ⟨#[c]⟩ ∧ y = .str z ∧ Q (.bl (decide (c ∈ z.cps.toList))) H
def spNum (K : PySem.W.Frag) : Sp := fun vs H Q _ => ∃ v d, vs = [v] ∧ Rp K H v d ∧ Q (.bl (isNum d)) H
def spVal (K : PySem.W.Frag) : Sp := fun vs H Q _ => ∃ v d, vs = [v] ∧ Rp K H v d ∧ Q (.bl (isVal d)) H
def spWord (K : PySem.W.Frag) : Sp := fun vs H Q _ => ∃ v d, vs = [v] ∧ Rp K H v d ∧ sm d = true ∧ ∀ H', Same H H' → Q (.bl (isWord d)) H'
def spTof (K : PySem.W.Frag) : Sp := fun vs H Q _ => ∃ v d n, vs = [v, .int n] ∧ Rp K H v d ∧ Q (.bl (isTof d n)) H
def spKey (K : PySem.W.Frag) : Sp := fun vs H Q _ => ∃ v d, vs = [v] ∧ Rp K H v d ∧ sm d = true ∧ ∀ H', Same H H' → Q (.bl (isKey d)) H'
theorem take_more {α : Type} : ∀ {l : List α} {i : Nat} {x : α}, l[i]? = some x → l.take (i + 1) = l.take i ++ [x]
  | [], i, x, h => by simp at h
  | a :: l, 0, x, h => by
    have e : a = x := Option.some.inj h
    subst e
    rfl
  | a :: l, i + 1, x, h => by
    have ih := take_more (l := l) (i := i) (x := x) h
    show a :: l.take (i + 1) = a :: l.take i ++ [x]
    rw [ih]
    rfl
theorem RpAll.len {K : PySem.W.Frag} {G : Hp} : ∀ {vs : List V} {ds : List PyData}, RpAll K G vs ds → vs.length = ds.length
  | _, _, .nil => rfl
  | _, _, .cons _ t => congrArg (· + 1) (RpAll.len t)
section
variable {P : Program} {w : World} {K : PySem.W.Frag} {mg : Str → Option Value} {base : Heap}
theorem scNum : FnScope ["value"] ["value"] (defScope sNum) := ⟨rfl, rfl, rfl, by decide +kernel, rfl, by decide +kernel, by decide +kernel⟩
theorem ok_num {f : Addr} {fd : FuncData} (F : Fun K "is_number" "is_number" sNum f fd) (T : TxtH mg) : FnOk P w K mg base CX0 1 f fd ["value"] (spNum K) := by
  refine F.ok scNum (fun vs H Q E h => ?_) (fun cdv A outer s H vs Q E hr h => ?_)
  · obtain ⟨v, d, rfl, _⟩ := h
    rfl
  · obtain ⟨v, d, rfl, r, k⟩ := h
    refine ⟨_, (pss_one (ps_ret (pe_and (pe_callB call_isi (by rfl) T.isinstance (by decide +kernel) (pa_cons (pv 0) (pa_cons (pe_bltn (v := V.ty "int") (by rfl) T.int (by decide +kernel) rfl) pa_nil))) (pe_one (pe_not (pe_callB call_isi (by rfl) T.isinstance (by decide +kernel) (pa_cons (pv 0) (pa_cons (pe_bltn (v := V.ty "bool") (by rfl) T.bool (by decide +kernel) rfl) pa_nil)))))))), ?_⟩
    refine ⟨_, rfl, v, .ty "int", _, _, _, rfl, .ty _, rp_ty r, kit_int d, _, rfl, ite2 (fun h1 => ?_) (fun h1 => ?_)⟩
    · refine ⟨_, rfl, v, .ty "bool", _, _, _, rfl, .ty _, rp_ty r, kit_bool d, _, rfl, ?_⟩
      have e : (!isBool d) = isNum d := by cases d <;> first | rfl | cases h1
      rw [e]
      exact k
    · have e : isNum d = false := by cases d <;> first | rfl | exact absurd rfl h1
      rw [e] at k
      exact k
theorem scVal : FnScope ["value"] ["value"] (defScope sVal) := ⟨rfl, rfl, rfl, by decide +kernel, rfl, by decide +kernel, by decide +kernel⟩
theorem ok_val {f fN : Addr} {fd fdN : FuncData} (F : Fun K "is_value" "is_value" sVal f fd) (T : TxtH mg) (GNum : FnOk P w K mg base CX0 1 fN fdN ["value"] (spNum K)) (TNum : DefT K mg "is_number" fN) (bNum : Binds K fdN ["value"] []) : FnOk P w K mg base CX0 2 f fd ["value"] (spVal K) := by
  refine F.ok scVal (fun vs H Q E h => ?_) (fun cdv A outer s H vs Q E hr h => ?_)
  · obtain ⟨v, d, rfl, _⟩ := h
    rfl
  · obtain ⟨v, d, rfl, r, k⟩ := h
    refine ⟨_, (pss_one (ps_ret (pe_and (pe_call GNum (hr.mono (by decide)) rfl TNum.mg TNum.kp bNum .nil pass0 (pa_cons (pv 0) pa_nil)) (pe_one (pe_chain op_le op_le (pe_un un_neg (pe_glob (v := V.int 99) (by rfl) T.BOUND.choose_spec ⟨_, rfl⟩)) (pv 0) (pe_glob (v := V.int 99) (by rfl) T.BOUND.choose_spec ⟨_, rfl⟩)))))), ?_⟩
    refine ⟨_, rfl, v, d, rfl, r, _, rfl, ite2 (fun h1 => ?_) (fun h1 => ?_)⟩
    · cases r with
      | int i =>
        refine ⟨_, rfl, _, rfl, _, _, rfl, rfl, _, rfl, ite2 (fun h2 => ?_) (fun h2 => ?_)⟩
        · refine ⟨_, _, rfl, rfl, ?_⟩
          have e : isVal (.int i) = decide (i ≤ 99) := by
            show (decide (-99 ≤ i) && decide (i ≤ 99)) = _
            rw [show decide (-99 ≤ i) = true from h2]
            rfl
          rw [e] at k
          exact k
        · have e : isVal (.int i) = false := by
            show (decide (-99 ≤ i) && decide (i ≤ 99)) = _
            rw [show decide (-99 ≤ i) = false from Bool.eq_false_iff.mpr h2]
            rfl
          rw [e] at k
          exact k
      | _ => cases h1
    · have e : isVal d = false := by cases d <;> first | rfl | exact absurd rfl h1
      rw [e] at k
      exact k
theorem scWord : FnScope ["value", "letter"] ["value"] (defScope sWord) := ⟨rfl, rfl, rfl, by decide +kernel, rfl, by decide +kernel, by decide +kernel⟩
theorem ok_word {f : Addr} {fd : FuncData} (F : Fun K "is_word" "is_word" sWord f fd) (T : TxtH mg) : FnOk P w K mg base CX0 1 f fd ["value"] (spWord K) := by
  refine F.ok scWord (fun vs H Q E h => ?_) (fun cdv A outer s H vs Q E hr h => ?_)
  · obtain ⟨v, d, rfl, _⟩ := h
    rfl
  · obtain ⟨v, d, rfl, r, small, k⟩ := h
    refine ⟨_, (pss_cons (ps_if (PW.pt (pw_or (pt_not (pt_val (pe_callB call_isi (by rfl) T.isinstance (by decide +kernel) (pa_cons (pv 0) (pa_cons (pe_bltn (v := V.ty "str") (by rfl) T.str (by decide +kernel) rfl) pa_nil))))) (pw_or1 (pt_not (pt_chain op_le op_le pe_int (pe_callB call_len_str (by rfl) T.len PySem.boot_len (pa_cons (pv 0) pa_nil)) (pe_glob (v := V.int 6) (by rfl) T.LONGEST.choose_spec ⟨_, rfl⟩)))))) (pss_one (ps_ret pe_bl)) pss_nil)
      (pss_one (ps_ret (pe_callB (cr_all rfl) (by rfl) T.all (by decide +kernel) (pa_cons (pe_lc (own := [("letter", 1)]) (g := gName 1) (tt := tYes) (te := (tOp rSign (tVar 1) (tC (V.str abc)))) rfl scWord.nd (pi_str (pv 0)) (blkOk_by (N := ["value", "letter"]) (sc := defScope sWord) (by decide +kernel)) (fun _ _ _ _ _ => by exact (pg_name (i := 1) scWord.nd rfl (Or.inl rfl))) (fun _ _ _ _ _ => by exact pts_nil) (fun _ _ _ _ _ => by exact (pe_cmpR op_in_sign (pv 1) (pe_glob (v := V.str abc) (by rfl) T.LETTERS.choose_spec ⟨_, rfl⟩) rfl))) pa_nil))))), ?_⟩
    refine ⟨_, rfl, v, .ty "str", _, _, _, rfl, .ty _, rp_ty r, kit_str d, _, rfl, ite2 (fun h1 => ?_) (fun h1 => ?_)⟩
    · have e : isWord d = false := by cases d <;> first | rfl | cases h1
      refine iteT ?_
      have := k _ (.refl _)
      rw [e] at this
      exact this
    · cases r with
      | str x =>
        have hl : x.length ≤ 1000 := of_decide_eq_true small
        have no : ¬ (1 ≤ x.length ∧ x.length ≤ 6) → isWord (.str x) = false := by
          intro z
          show (decide (1 ≤ x.length) && decide (x.length ≤ 6) && _) = false
          rw [show (decide (1 ≤ x.length) && decide (x.length ≤ 6)) = false by rw [← Bool.decide_and]; exact decide_eq_false z]
          rfl
        refine ⟨_, rfl, _, rfl, Nat.le_trans hl (by decide), _, _, rfl, rfl, _, rfl, ite2 (fun h2 => ?_) (fun h2 => ?_)⟩
        · refine ⟨_, _, rfl, rfl, _, rfl, ite2 (fun h3 => ?_) (fun h3 => ?_)⟩
          · have := k _ (.refl _)
            rw [no (fun z => by simp at h3; omega)] at this
            exact this
          · have i1 : 1 ≤ x.length := by have := of_decide_eq_true h2; omega
            have i6 : x.length ≤ 6 := by simp at h3; omega
            refine ⟨_, rfl, x, rfl, fun D hD => lc_txt (fun i H' => H' D = some (.lst ((x.cps.toList.take i).map fun c => V.bl (decide (c ∈ abc.cps.toList)))) ∧ Same H H') ⟨upd_same, Ab.same_up hD⟩ ?_ ?_⟩
            · intro i c H' hc ⟨e, s'⟩
              refine ⟨rfl, ?_⟩
              unfold tYes
              simp only [↓reduceIte]
              refine ⟨_, rfl, c, abc, rfl, rfl, _, e, szl (by simp; have : x.cps.size = x.length := rfl; omega), ?_, ?_⟩
              · rw [upd_same, take_more (show x.cps.toList[i]? = some c by rw [Array.getElem?_toList]; exact hc)]
                simp
              · intro b o q
                rw [upd_ne (ne_of_none q hD)]
                exact s' _ _ q
            · intro H' ⟨e, s'⟩
              rw [List.take_of_length_le (by simp)] at e
              refine ⟨D, x.cps.toList.map (fun c => decide (c ∈ abc.cps.toList)), rfl, SqL.of (by rw [List.map_map]; exact e), ?_⟩
              have := k _ s'
              have e2 : isWord (.str x) = (x.cps.toList.map (fun c => decide (c ∈ abc.cps.toList))).all id := by
                show (decide (1 ≤ x.length) && decide (x.length ≤ 6) && _) = _
                rw [decide_eq_true i1, decide_eq_true i6, List.all_map]
                rfl
              rw [e2] at this
              exact this
        · refine ⟨_, rfl, iteT ?_⟩
          have := k _ (.refl _)
          rw [no (fun z => h2 (decide_eq_true (by have := z.1; omega)))] at this
          exact this
      | _ => exact absurd rfl h1
theorem scTof : FnScope ["value", "length"] ["value", "length"] (defScope sTof) := ⟨rfl, rfl, rfl, by decide +kernel, rfl, by decide +kernel, by decide +kernel⟩
theorem ok_tof {f : Addr} {fd : FuncData} (F : Fun K "is_tuple_of" "is_tuple_of" sTof f fd) (T : TxtH mg) : FnOk P w K mg base CX0 1 f fd ["value", "length"] (spTof K) := by
  refine F.ok scTof (fun vs H Q E h => ?_) (fun cdv A outer s H vs Q E hr h => ?_)
  · obtain ⟨v, d, n, rfl, _⟩ := h
    rfl
  · obtain ⟨v, d, n, rfl, r, k⟩ := h
    refine ⟨_, (pss_one (ps_ret (pe_and (pe_callB call_isi (by rfl) T.isinstance (by decide +kernel) (pa_cons (pv 0) (pa_cons (pe_bltn (v := V.ty "tuple") (by rfl) T.tuple (by decide +kernel) rfl) pa_nil))) (pe_one (pe_cmpR op_eq (pe_callB call_len_seq (by rfl) T.len PySem.boot_len (pa_cons (pv 0) pa_nil)) (pv 1) (nomark _)))))), ?_⟩
    refine ⟨_, rfl, v, .ty "tuple", _, _, _, rfl, .ty _, rp_ty r, kit_tup d, _, rfl, ite2 (fun h1 => ?_) (fun h1 => ?_)⟩
    · cases r with
      | @tup a xs ds q rr =>
        refine ⟨_, rfl, a, xs, rfl, .inr q, _, rfl, rfl, ?_⟩
        have e : isTof (.tuple ds) n = decide (V.int xs.length = V.int n) := by
          show decide ((ds.length : Int) = n) = _
          rw [dec_int, RpAll.len rr]
          by_cases z : (ds.length : Int) = n <;> simp [z]
        rw [e] at k
        exact k
      | _ => cases h1
    · have e : isTof d n = false := by cases d <;> first | rfl | exact absurd rfl h1
      rw [e] at k
      exact k
theorem scKey : FnScope ["value"] ["value"] (defScope sKey) := ⟨rfl, rfl, rfl, by decide +kernel, rfl, by decide +kernel, by decide +kernel⟩
theorem ok_key {f fW : Addr} {fd fdW : FuncData} (F : Fun K "is_key" "is_key" sKey f fd) (GWord : FnOk P w K mg base CX0 1 fW fdW ["value"] (spWord K)) (TWord : DefT K mg "is_word" fW) (bWord : Binds K fdW ["value"] []) : FnOk P w K mg base CX0 2 f fd ["value"] (spKey K) := by
  refine F.ok scKey (fun vs H Q E h => ?_) (fun cdv A outer s H vs Q E hr h => ?_)
  · obtain ⟨v, d, rfl, _⟩ := h
    rfl
  · obtain ⟨v, d, rfl, r, small, k⟩ := h
    refine ⟨_, (pss_one (ps_ret (pe_or (pe_cmpR op_isN (pv 0) pe_non (nomark _)) (pe_one (pe_call GWord (hr.mono (by decide)) rfl TWord.mg TWord.kp bWord .nil pass0 (pa_cons (pv 0) pa_nil)))))), ?_⟩
    refine ⟨_, rfl, rfl, _, rfl, ite2 (fun h1 => ?_) (fun h1 => ?_)⟩
    · have e : v = .non := of_decide_eq_true h1
      subst e
      cases r
      exact k _ (.refl _)
    · refine ⟨_, rfl, v, d, rfl, r, small, fun H' s' => ?_⟩
      have e : isKey d = isWord d := by
        cases r with
        | non => exact absurd rfl h1
        | _ => rfl
      rw [← e]
      exact k _ s'
end
end Hd

set_option Elab.async false
set_option linter.all false
set_option maxRecDepth 100000
set_option maxHeartbeats 4000000
namespace Hd
open PySem L2 Pen RG Dat KEq
abbrev sExp : Stmt := top 21
abbrev sCon : Stmt := top 22
abbrev tV : Str := "value"
abbrev tB' : Str := "body"
abbrev tR : Str := "row"
abbrev ops : List Str := ["+", "-", "*"]
def isE : Nat → PyData → Bool
  | 0, _ => false
  | n + 1, .tuple (h :: tl) =>
    if isS h tV = true then (match tl with | [a] => isVal a | _ => false)
    else if isS h tB' = true then (match tl with | [] => true | _ => false)
    else if isS h tR = true then (match tl with | [a] => isWord a | _ => false)
    else if (ops.any fun z => isS h z) = true then (match tl with | [a, b] => isE n a && isE n b | _ => false)
    else false
  | _ + 1, _ => false
def isC : Nat → PyData → Bool
  | 0, _ => false
  | n + 1, .tuple (h :: tl) =>
    if ((["<", "="] : List Str).any fun z => isS h z) = true then (match tl with | [a, b] => isE 6 a && isE 6 b | _ => false)
    else if isS h "not" = true then (match tl with | [a] => isC n a | _ => false)
    else if ((["and", "or"] : List Str).any fun z => isS h z) = true then (match tl with | [a, b] => isC n a && isC n b | _ => false)
    else false
  | _ + 1, _ => false
theorem e_not {n : Nat} {d : PyData} (h : isTup d = false) : isE (n + 1) d = false := by
  cases d <;> first | rfl | cases h
theorem c_not {n : Nat} {d : PyData} (h : isTup d = false) : isC (n + 1) d = false := by
  cases d <;> first | rfl | cases h
def spExp (K : PySem.W.Frag) (m : Nat) : Sp := fun vs H Q _ => ∃ (v : V) (d : PyData) (n : Nat), vs = [v, .int n] ∧ n < m ∧ Rp K H v d ∧ sm d = true ∧ ∀ H', Same H H' → Q (.bl (isE n d)) H'
def spCon (K : PySem.W.Frag) (m : Nat) : Sp := fun vs H Q _ => ∃ (v : V) (d : PyData) (n : Nat), vs = [v, .int n] ∧ n < m ∧ Rp K H v d ∧ sm d = true ∧ ∀ H', Same H H' → Q (.bl (isC n d)) H'
theorem len_ne {xs : List V} {n : Int} (h : ¬ decide (V.int (xs.length : Int) = V.int n) = true) : (xs.length : Int) ≠ n := fun z => h (by rw [z]; exact decide_eq_true rfl)
theorem len_is {xs : List V} {n : Int} (h : decide (V.int (xs.length : Int) = V.int n) = true) : (xs.length : Int) = n := V.int.inj (of_decide_eq_true h)
theorem sm_cons {x : PyData} {xs : List PyData} (h : smAll (x :: xs) = true) : sm x = true ∧ smAll xs = true := by
  have : (sm x && smAll xs) = true := h
  simpa using this
theorem one_of {K : PySem.W.Frag} {G : Hp} {xs : List V} {ds : List PyData} (r : RpAll K G xs ds) (h : xs.length = 1) : ∃ x d, xs = [x] ∧ ds = [d] ∧ Rp K G x d := by
  cases r with
  | nil => cases h
  | cons a t =>
    cases t with
    | nil => exact ⟨_, _, rfl, rfl, a⟩
    | cons b t => simp at h
theorem two_of {K : PySem.W.Frag} {G : Hp} {xs : List V} {ds : List PyData} (r : RpAll K G xs ds) (h : xs.length = 2) : ∃ x y d e, xs = [x, y] ∧ ds = [d, e] ∧ Rp K G x d ∧ Rp K G y e := by
  cases r with
  | nil => cases h
  | cons a t =>
    obtain ⟨y, e, rfl, rfl, q⟩ := one_of t (by simpa using h)
    exact ⟨_, y, _, e, rfl, rfl, a, q⟩
theorem tl_ne1 {α : Type} {f : PyData → α} {c : α} : ∀ {tl : List PyData}, tl.length ≠ 1 → (match tl with | [a] => f a | _ => c) = c
  | [], _ => rfl
  | [a], h => absurd rfl h
  | a :: b :: t, _ => rfl
theorem tl_ne2 {α : Type} {f : PyData → PyData → α} {c : α} : ∀ {tl : List PyData}, tl.length ≠ 2 → (match tl with | [a, b] => f a b | _ => c) = c
  | [], _ => rfl
  | [a], _ => rfl
  | [a, b], h => absurd rfl h
  | a :: b :: d :: t, _ => rfl
section
variable {P : Program} {w : World} {K : PySem.W.Frag} {mg : Str → Option Value} {base : Heap}
theorem scExp : FnScope ["value", "deep", "head"] ["value", "deep"] (defScope sExp) := ⟨rfl, rfl, rfl, by decide +kernel, rfl, by decide +kernel, by decide +kernel⟩
theorem ok_exp {f fV fW : Addr} {fd fdV fdW : FuncData} (F : FunD K "is_expression" "is_expression" (defArgs sExp) (defBody sExp) (defScope sExp) [V.int 6] [] f fd) (T : TxtH mg) (TExp : DefT K mg "is_expression" f) (bExp : Binds K fd ["value", "deep"] [])
    (GVal : FnOk P w K mg base CX0 2 fV fdV ["value"] (spVal K)) (TVal : DefT K mg "is_value" fV) (bVal : Binds K fdV ["value"] [])
    (GWord : FnOk P w K mg base CX0 1 fW fdW ["value"] (spWord K)) (TWord : DefT K mg "is_word" fW) (bWord : Binds K fdW ["value"] []) : ∀ m, FnOk P w K mg base CX0 (m + 3) f fd ["value", "deep"] (spExp K m)
  | 0 => by
    refine F.ok scExp (fun vs H Q E h => ?_) (fun cdv A outer s H vs Q E hr h => ?_)
    · obtain ⟨v, d, n, rfl, _⟩ := h
      rfl
    · obtain ⟨v, d, n, rfl, lt, _⟩ := h
      exact absurd lt (Nat.not_lt_zero _)
  | m + 1 => by
    have GExp := ok_exp F T TExp bExp GVal TVal bVal GWord TWord bWord m
    refine F.ok scExp (fun vs H Q E h => ?_) (fun cdv A outer s H vs Q E hr h => ?_)
    · obtain ⟨v, d, n, rfl, _⟩ := h
      rfl
    · obtain ⟨v, d, n, rfl, lt, r, small, k⟩ := h
      have hu := hu_of hr
      refine ⟨_, (pss_cons (ps_if (PW.pt (pw_or (pt_cmpR op_eq (pv 1) pe_int (nomark _)) (pw_or (pt_not (pt_val (pe_callB call_isi (by rfl) T.isinstance (by decide +kernel) (pa_cons (pv 0) (pa_cons (pe_bltn (v := V.ty "tuple") (by rfl) T.tuple (by decide +kernel) rfl) pa_nil))))) (pw_or1 (pt_cmpR op_eq (pe_callB call_len_seq (by rfl) T.len PySem.boot_len (pa_cons (pv 0) pa_nil)) pe_int (nomark _)))))) (pss_one (ps_ret pe_bl)) pss_nil)
        (pss_cons (ps_set (i := 2) scExp.nd rfl (Or.inl rfl) (pe_ix ix_tup (pv 0) pe_int (fun _ _ => rfl)))
        (pss_cons (ps_if (pt_cmpR (KEq.op_eqS hu) (pv 2) pe_str (nomark _)) (pss_one (ps_ret (pe_and (pe_cmpR op_eq (pe_callB call_len_seq (by rfl) T.len PySem.boot_len (pa_cons (pv 0) pa_nil)) pe_int (nomark _)) (pe_one (pe_call GVal (hr.mono (by omega)) rfl TVal.mg TVal.kp bVal .nil pass0 (pa_cons (pe_ix ix_tup (pv 0) pe_int (fun _ _ => rfl)) pa_nil)))))) pss_nil)
        (pss_cons (ps_if (pt_cmpR (KEq.op_eqS hu) (pv 2) pe_str (nomark _)) (pss_one (ps_ret (pe_cmpR op_eq (pe_callB call_len_seq (by rfl) T.len PySem.boot_len (pa_cons (pv 0) pa_nil)) pe_int (nomark _)))) pss_nil)
        (pss_cons (ps_if (pt_cmpR (KEq.op_eqS hu) (pv 2) pe_str (nomark _)) (pss_one (ps_ret (pe_and (pe_cmpR op_eq (pe_callB call_len_seq (by rfl) T.len PySem.boot_len (pa_cons (pv 0) pa_nil)) pe_int (nomark _)) (pe_one (pe_call GWord (hr.mono (by omega)) rfl TWord.mg TWord.kp bWord .nil pass0 (pa_cons (pe_ix ix_tup (pv 0) pe_int (fun _ _ => rfl)) pa_nil)))))) pss_nil)
        (pss_cons (ps_if (pt_cmpR (KEq.op_inS hu) (pv 2) (Ab.pe_tupA (pa_cons pe_str (pa_cons pe_str (pa_cons pe_str pa_nil)))) rfl) (pss_one (ps_ret (pe_and (pe_cmpR op_eq (pe_callB call_len_seq (by rfl) T.len PySem.boot_len (pa_cons (pv 0) pa_nil)) pe_int (nomark _)) (pe_and (pe_call GExp (hr.mono (by omega)) rfl TExp.mg TExp.kp bExp .nil pass0 (pa_cons (pe_ix ix_tup (pv 0) pe_int (fun _ _ => rfl)) (pa_cons (pe_op op_sub (pv 1) pe_int) pa_nil))) (pe_one (pe_call GExp (hr.mono (by omega)) rfl TExp.mg TExp.kp bExp .nil pass0 (pa_cons (pe_ix ix_tup (pv 0) pe_int (fun _ _ => rfl)) (pa_cons (pe_op op_sub (pv 1) pe_int) pa_nil)))))))) pss_nil)
        (pss_one (ps_ret pe_bl)))))))), ?_⟩
      refine ⟨_, rfl, rfl, _, rfl, ite2 (fun h1 => ?_) (fun h1 => ?_)⟩
      · have e : n = 0 := by have := V.int.inj (of_decide_eq_true h1); omega
        refine iteT ?_
        have := k _ (.refl _)
        rw [e] at this
        exact this
      obtain ⟨n, rfl⟩ : ∃ j, n = j + 1 := ⟨n - 1, by
        have : n ≠ 0 := fun z => h1 (by rw [z]; rfl)
        omega⟩
      refine ⟨_, rfl, v, .ty "tuple", _, _, _, rfl, .ty _, rp_ty r, kit_tup d, _, rfl, ite2 (fun h2 => ?_) (fun h2 => ?_)⟩
      · refine iteT ?_
        have := k _ (.refl _)
        rw [e_not (by simpa using h2)] at this
        exact this
      cases r with
      | @tup a xs ds q rr =>
        cases rr with
        | nil =>
          refine ⟨_, rfl, a, [], rfl, .inr q, rfl, _, rfl, iteT ?_⟩
          exact k _ (.refl _)
        | @cons hv xv h tl rh rt =>
          obtain ⟨small1, small2⟩ := sm_cons (sm_tup small)
          refine ⟨_, rfl, a, hv :: xv, rfl, .inr q, rfl, _, rfl, ite2 (fun h3 => ?_) (fun _ => ?_)⟩
          · exact absurd (len_is h3) (by simp; omega)
          refine ⟨_, rfl, a, hv :: xv, 0, hv, rfl, rfl, q, atI_nat (j := 0) rfl, ?_⟩
          refine ⟨_, rfl, h, _, rh, rfl, _, rfl, ite2 (fun i1 => ?_) (fun i1 => ?_)⟩
          · refine ⟨_, rfl, a, hv :: xv, rfl, .inr q, rfl, _, rfl, ite2 (fun h4 => ?_) (fun h4 => ?_)⟩
            · have h5 := len_is h4
              obtain ⟨x, d, rfl, rfl, rx⟩ := one_of rt (by simp at h5; omega)
              refine ⟨_, rfl, a, [hv, x], 1, x, rfl, rfl, q, atI_nat (j := 1) rfl, x, d, rfl, rx, ?_⟩
              have := k _ (.refl _)
              unfold isE at this
              rw [if_pos i1] at this
              exact this
            · have h5 := len_ne h4
              have := k _ (.refl _)
              unfold isE at this
              rw [if_pos i1, tl_ne1 (by rw [← RpAll.len rt]; simp at h5; omega)] at this
              exact this
          refine ⟨_, rfl, h, _, rh, rfl, _, rfl, ite2 (fun i2 => ?_) (fun i2 => ?_)⟩
          · refine ⟨_, rfl, a, hv :: xv, rfl, .inr q, rfl, ?_⟩
            have := k _ (.refl _)
            unfold isE at this
            rw [if_neg i1, if_pos i2] at this
            cases rt with
            | nil => exact this
            | @cons b c d e _ rt2 =>
              rw [show decide (V.int ((hv :: b :: c).length : Int) = V.int 1) = false from decide_eq_false (fun z => by have := V.int.inj z; simp at this; omega)]
              exact this
          refine ⟨_, rfl, h, _, rh, rfl, _, rfl, ite2 (fun i3 => ?_) (fun i3 => ?_)⟩
          · refine ⟨_, rfl, a, hv :: xv, rfl, .inr q, rfl, _, rfl, ite2 (fun h4 => ?_) (fun h4 => ?_)⟩
            · have h5 := len_is h4
              obtain ⟨x, d, rfl, rfl, rx⟩ := one_of rt (by simp at h5; omega)
              refine ⟨_, rfl, a, [hv, x], 1, x, rfl, rfl, q, atI_nat (j := 1) rfl, x, d, rfl, rx, (sm_cons small2).1, fun H' s' => ?_⟩
              have := k _ s'
              unfold isE at this
              rw [if_neg i1, if_neg i2, if_pos i3] at this
              exact this
            · have h5 := len_ne h4
              have := k _ (.refl _)
              unfold isE at this
              rw [if_neg i1, if_neg i2, if_pos i3, tl_ne1 (by rw [← RpAll.len rt]; simp at h5; omega)] at this
              exact this
          refine ⟨_, rfl, sz (by simp), fun t Gt ft st et => ?_⟩
          refine ⟨h, t, ops, Rp.same st rh, rfl, SqT.of et, _, rfl, ite2 (fun i4 => ?_) (fun i4 => ?_)⟩
          · have q2 := sqT_same st q
            refine ⟨_, rfl, a, hv :: xv, rfl, .inr q2, rfl, _, rfl, ite2 (fun h4 => ?_) (fun h4 => ?_)⟩
            · have h5 := len_is h4
              obtain ⟨x, y, d, e, rfl, rfl, rx, ry⟩ := two_of rt (by simp at h5; omega)
              have sx := sm_cons small2
              have sy := sm_cons sx.2
              refine ⟨_, rfl, a, [hv, x, y], 1, x, rfl, rfl, q2, atI_nat (j := 1) rfl, _, rfl, _, _, rfl, rfl, x, d, n, by simp, by omega, Rp.same st rx, sx.1, fun H1 s1 => ?_⟩
              refine ⟨_, rfl, ite2 (fun h6 => ?_) (fun h6 => ?_)⟩
              · refine ⟨_, rfl, a, [hv, x, y], 2, y, rfl, rfl, sqT_same s1 q2, atI_nat (j := 2) rfl, _, rfl, _, _, rfl, rfl, y, e, n, by simp, by omega, Rp.same (st.trans s1) ry, sy.1, fun H2 s2 => ?_⟩
                have := k _ ((st.trans s1).trans s2)
                unfold isE at this
                rw [if_neg i1, if_neg i2, if_neg i3, if_pos i4] at this
                rw [show (match ([d, e] : List PyData) with | [a, b] => isE n a && isE n b | _ => false) = isE n e by show (isE n d && isE n e) = _; rw [h6]; rfl] at this
                exact this
              · have := k _ (st.trans s1)
                unfold isE at this
                rw [if_neg i1, if_neg i2, if_neg i3, if_pos i4] at this
                rw [show (match ([d, e] : List PyData) with | [a, b] => isE n a && isE n b | _ => false) = false by show (isE n d && isE n e) = _; rw [Bool.eq_false_iff.mpr h6]; rfl] at this
                exact this
            · have h5 := len_ne h4
              have := k _ st
              unfold isE at this
              rw [if_neg i1, if_neg i2, if_neg i3, if_pos i4, tl_ne2 (by rw [← RpAll.len rt]; simp at h5; omega)] at this
              exact this
          · have := k _ st
            unfold isE at this
            rw [if_neg i1, if_neg i2, if_neg i3, if_neg i4] at this
            exact this
      | _ => exact absurd rfl h2
theorem scCon : FnScope ["value", "deep", "head"] ["value", "deep"] (defScope sCon) := ⟨rfl, rfl, rfl, by decide +kernel, rfl, by decide +kernel, by decide +kernel⟩
theorem ok_con {f fE : Addr} {fd fdE : FuncData} {t6 : Tok} (F : FunD K "is_condition" "is_condition" (defArgs sCon) (defBody sCon) (defScope sCon) [V.int 6] [] f fd) (T : TxtH mg) (TCon : DefT K mg "is_condition" f) (bCon : Binds K fd ["value", "deep"] [])
    (GExp : FnOk P w K mg base CX0 10 fE fdE ["value", "deep"] (spExp K 7)) (TExp : DefT K mg "is_expression" fE) (bExp6 : Binds K fdE ["value", "deep"] [.int 6 t6]) : ∀ m, FnOk P w K mg base CX0 (m + 11) f fd ["value", "deep"] (spCon K m)
  | 0 => by
    refine F.ok scCon (fun vs H Q E h => ?_) (fun cdv A outer s H vs Q E hr h => ?_)
    · obtain ⟨v, d, n, rfl, _⟩ := h
      rfl
    · obtain ⟨v, d, n, rfl, lt, _⟩ := h
      exact absurd lt (Nat.not_lt_zero _)
  | m + 1 => by
    have GCon := ok_con F T TCon bCon GExp TExp bExp6 m
    refine F.ok scCon (fun vs H Q E h => ?_) (fun cdv A outer s H vs Q E hr h => ?_)
    · obtain ⟨v, d, n, rfl, _⟩ := h
      rfl
    · obtain ⟨v, d, n, rfl, lt, r, small, k⟩ := h
      have hu := hu_of hr
      refine ⟨_, (pss_cons (ps_if (PW.pt (pw_or (pt_cmpR op_eq (pv 1) pe_int (nomark _)) (pw_or (pt_not (pt_val (pe_callB call_isi (by rfl) T.isinstance (by decide +kernel) (pa_cons (pv 0) (pa_cons (pe_bltn (v := V.ty "tuple") (by rfl) T.tuple (by decide +kernel) rfl) pa_nil))))) (pw_or1 (pt_cmpR op_eq (pe_callB call_len_seq (by rfl) T.len PySem.boot_len (pa_cons (pv 0) pa_nil)) pe_int (nomark _)))))) (pss_one (ps_ret pe_bl)) pss_nil)
        (pss_cons (ps_set (i := 2) scCon.nd rfl (Or.inl rfl) (pe_ix ix_tup (pv 0) pe_int (fun _ _ => rfl)))
        (pss_cons (ps_if (pt_cmpR (KEq.op_inS hu) (pv 2) (Ab.pe_tupA (pa_cons pe_str (pa_cons pe_str pa_nil))) rfl) (pss_one (ps_ret (pe_and (pe_cmpR op_eq (pe_callB call_len_seq (by rfl) T.len PySem.boot_len (pa_cons (pv 0) pa_nil)) pe_int (nomark _)) (pe_and (pe_call GExp (hr.mono (by omega)) rfl TExp.mg TExp.kp bExp6 (.cons (show L2.RelV (V.int 6) (Value.int 6 t6) from ⟨_, rfl⟩) .nil) pass0 (pa_cons (pe_ix ix_tup (pv 0) pe_int (fun _ _ => rfl)) pa_nil)) (pe_one (pe_call GExp (hr.mono (by omega)) rfl TExp.mg TExp.kp bExp6 (.cons (show L2.RelV (V.int 6) (Value.int 6 t6) from ⟨_, rfl⟩) .nil) pass0 (pa_cons (pe_ix ix_tup (pv 0) pe_int (fun _ _ => rfl)) pa_nil))))))) pss_nil)
        (pss_cons (ps_if (pt_cmpR (KEq.op_eqS hu) (pv 2) pe_str (nomark _)) (pss_one (ps_ret (pe_and (pe_cmpR op_eq (pe_callB call_len_seq (by rfl) T.len PySem.boot_len (pa_cons (pv 0) pa_nil)) pe_int (nomark _)) (pe_one (pe_call GCon (hr.mono (by omega)) rfl TCon.mg TCon.kp bCon .nil pass0 (pa_cons (pe_ix ix_tup (pv 0) pe_int (fun _ _ => rfl)) (pa_cons (pe_op op_sub (pv 1) pe_int) pa_nil))))))) pss_nil)
        (pss_cons (ps_if (pt_cmpR (KEq.op_inS hu) (pv 2) (Ab.pe_tupA (pa_cons pe_str (pa_cons pe_str pa_nil))) rfl) (pss_one (ps_ret (pe_and (pe_cmpR op_eq (pe_callB call_len_seq (by rfl) T.len PySem.boot_len (pa_cons (pv 0) pa_nil)) pe_int (nomark _)) (pe_and (pe_call GCon (hr.mono (by omega)) rfl TCon.mg TCon.kp bCon .nil pass0 (pa_cons (pe_ix ix_tup (pv 0) pe_int (fun _ _ => rfl)) (pa_cons (pe_op op_sub (pv 1) pe_int) pa_nil))) (pe_one (pe_call GCon (hr.mono (by omega)) rfl TCon.mg TCon.kp bCon .nil pass0 (pa_cons (pe_ix ix_tup (pv 0) pe_int (fun _ _ => rfl)) (pa_cons (pe_op op_sub (pv 1) pe_int) pa_nil)))))))) pss_nil)
        (pss_one (ps_ret pe_bl))))))), ?_⟩
      refine ⟨_, rfl, rfl, _, rfl, ite2 (fun h1 => ?_) (fun h1 => ?_)⟩
      · have e : n = 0 := by have := V.int.inj (of_decide_eq_true h1); omega
        refine iteT ?_
        have := k _ (.refl _)
        rw [e] at this
        exact this
      obtain ⟨n, rfl⟩ : ∃ j, n = j + 1 := ⟨n - 1, by
        have : n ≠ 0 := fun z => h1 (by rw [z]; rfl)
        omega⟩
      refine ⟨_, rfl, v, .ty "tuple", _, _, _, rfl, .ty _, rp_ty r, kit_tup d, _, rfl, ite2 (fun h2 => ?_) (fun h2 => ?_)⟩
      · refine iteT ?_
        have := k _ (.refl _)
        rw [c_not (by simpa using h2)] at this
        exact this
      cases r with
      | @tup a xs ds q rr =>
        cases rr with
        | nil =>
          refine ⟨_, rfl, a, [], rfl, .inr q, rfl, _, rfl, iteT ?_⟩
          exact k _ (.refl _)
        | @cons hv xv h tl rh rt =>
          obtain ⟨small1, small2⟩ := sm_cons (sm_tup small)
          refine ⟨_, rfl, a, hv :: xv, rfl, .inr q, rfl, _, rfl, ite2 (fun h3 => ?_) (fun _ => ?_)⟩
          · exact absurd (len_is h3) (by simp; omega)
          refine ⟨_, rfl, a, hv :: xv, 0, hv, rfl, rfl, q, atI_nat (j := 0) rfl, ?_⟩
          refine ⟨_, rfl, sz (by simp), fun t Gt ft st et => ?_⟩
          have q2 := sqT_same st q
          refine ⟨h, t, ["<", "="], Rp.same st rh, rfl, SqT.of et, _, rfl, ite2 (fun i1 => ?_) (fun i1 => ?_)⟩
          · refine ⟨_, rfl, a, hv :: xv, rfl, .inr q2, rfl, _, rfl, ite2 (fun h4 => ?_) (fun h4 => ?_)⟩
            · have h5 := len_is h4
              obtain ⟨x, y, d, e, rfl, rfl, rx, ry⟩ := two_of rt (by simp at h5; omega)
              have sx := sm_cons small2
              have sy := sm_cons sx.2
              refine ⟨_, rfl, a, [hv, x, y], 1, x, rfl, rfl, q2, atI_nat (j := 1) rfl, x, d, 6, rfl, by omega, Rp.same st rx, sx.1, fun H1 s1 => ?_⟩
              refine ⟨_, rfl, ite2 (fun h6 => ?_) (fun h6 => ?_)⟩
              · refine ⟨_, rfl, a, [hv, x, y], 2, y, rfl, rfl, sqT_same s1 q2, atI_nat (j := 2) rfl, y, e, 6, rfl, by omega, Rp.same (st.trans s1) ry, sy.1, fun H2 s2 => ?_⟩
                have := k _ ((st.trans s1).trans s2)
                unfold isC at this
                rw [if_pos i1] at this
                rw [show (match ([d, e] : List PyData) with | [a, b] => isE 6 a && isE 6 b | _ => false) = isE 6 e by show (isE 6 d && isE 6 e) = _; rw [h6]; rfl] at this
                exact this
              · have := k _ (st.trans s1)
                unfold isC at this
                rw [if_pos i1] at this
                rw [show (match ([d, e] : List PyData) with | [a, b] => isE 6 a && isE 6 b | _ => false) = false by show (isE 6 d && isE 6 e) = _; rw [Bool.eq_false_iff.mpr h6]; rfl] at this
                exact this
            · have h5 := len_ne h4
              have := k _ st
              unfold isC at this
              rw [if_pos i1, tl_ne2 (by rw [← RpAll.len rt]; simp at h5; omega)] at this
              exact this
          refine ⟨_, rfl, h, _, Rp.same st rh, rfl, _, rfl, ite2 (fun i2 => ?_) (fun i2 => ?_)⟩
          · refine ⟨_, rfl, a, hv :: xv, rfl, .inr q2, rfl, _, rfl, ite2 (fun h4 => ?_) (fun h4 => ?_)⟩
            · have h5 := len_is h4
              obtain ⟨x, d, rfl, rfl, rx⟩ := one_of rt (by simp at h5; omega)
              refine ⟨_, rfl, a, [hv, x], 1, x, rfl, rfl, q2, atI_nat (j := 1) rfl, _, rfl, _, _, rfl, rfl, x, d, n, by simp, by omega, Rp.same st rx, (sm_cons small2).1, fun H1 s1 => ?_⟩
              have := k _ (st.trans s1)
              unfold isC at this
              rw [if_neg i1, if_pos i2] at this
              exact this
            · have h5 := len_ne h4
              have := k _ st
              unfold isC at this
              rw [if_neg i1, if_pos i2, tl_ne1 (by rw [← RpAll.len rt]; simp at h5; omega)] at this
              exact this
          refine ⟨_, rfl, sz (by simp), fun t3 Gt3 ft3 st3 et3 => ?_⟩
          have q3 := sqT_same st3 q2
          have st' := st.trans st3
          refine ⟨h, t3, ["and", "or"], Rp.same st' rh, rfl, SqT.of et3, _, rfl, ite2 (fun i3 => ?_) (fun i3 => ?_)⟩
          · refine ⟨_, rfl, a, hv :: xv, rfl, .inr q3, rfl, _, rfl, ite2 (fun h4 => ?_) (fun h4 => ?_)⟩
            · have h5 := len_is h4
              obtain ⟨x, y, d, e, rfl, rfl, rx, ry⟩ := two_of rt (by simp at h5; omega)
              have sx := sm_cons small2
              have sy := sm_cons sx.2
              refine ⟨_, rfl, a, [hv, x, y], 1, x, rfl, rfl, q3, atI_nat (j := 1) rfl, _, rfl, _, _, rfl, rfl, x, d, n, by simp, by omega, Rp.same st' rx, sx.1, fun H1 s1 => ?_⟩
              refine ⟨_, rfl, ite2 (fun h6 => ?_) (fun h6 => ?_)⟩
              · refine ⟨_, rfl, a, [hv, x, y], 2, y, rfl, rfl, sqT_same s1 q3, atI_nat (j := 2) rfl, _, rfl, _, _, rfl, rfl, y, e, n, by simp, by omega, Rp.same (st'.trans s1) ry, sy.1, fun H2 s2 => ?_⟩
                have := k _ ((st'.trans s1).trans s2)
                unfold isC at this
                rw [if_neg i1, if_neg i2, if_pos i3] at this
                rw [show (match ([d, e] : List PyData) with | [a, b] => isC n a && isC n b | _ => false) = isC n e by show (isC n d && isC n e) = _; rw [h6]; rfl] at this
                exact this
              · have := k _ (st'.trans s1)
                unfold isC at this
                rw [if_neg i1, if_neg i2, if_pos i3] at this
                rw [show (match ([d, e] : List PyData) with | [a, b] => isC n a && isC n b | _ => false) = false by show (isC n d && isC n e) = _; rw [Bool.eq_false_iff.mpr h6]; rfl] at this
                exact this
            · have h5 := len_ne h4
              have := k _ st'
              unfold isC at this
              rw [if_neg i1, if_neg i2, if_pos i3, tl_ne2 (by rw [← RpAll.len rt]; simp at h5; omega)] at this
              exact this
          · have := k _ st'
            unfold isC at this
            rw [if_neg i1, if_neg i2, if_neg i3] at this
            exact this
      | _ => exact absurd rfl h2
end
end Hd

set_option Elab.async false
set_option linter.all false
set_option maxRecDepth 100000
set_option maxHeartbeats 4000000
namespace Hd
open PySem L2 Pen RG Dat KEq
abbrev sHand : Stmt := top 26
abbrev sRoom : Stmt := top 27
abbrev sDeed : Stmt := top 28
abbrev sOne : Stmt := top 29
def isOne : PyData → Bool
  | .tuple (h :: tl) =>
    if isS h "set" = true then (match tl with | [a, b] => isWord a && isE 6 b | _ => false)
    else if isS h "send" = true then (match tl with | [a, b, c] => isWord a && (isKey b && isE 6 c) | _ => false)
    else isS h "fail" && (match tl with | [] => true | _ => false)
  | _ => false
def roomAll (f : PyData → Nat → Option Nat) : List PyData → Nat → Option Nat
  | [], r => some r
  | _ :: _, 0 => none
  | d :: ds, r + 1 => (f d r).bind (roomAll f ds)
def roomR (f : PyData → Nat → Option Nat) : PyData → Nat → Option Nat
  | .tuple ds, r => roomAll f ds r
  | _, _ => none
def deedR : Nat → PyData → Nat → Option Nat
  | 0, d, r => if isOne d = true then some r else none
  | i + 1, d, r => if isOne d = true then some r else
    match d with
    | .tuple [h, c, a, b] => if isS h "if" = true then (if isC 6 c = true then (roomR (deedR i) a r).bind (roomR (deedR i) b) else none) else none
    | _ => none
def hOk (d : PyData) : Bool := (roomR (deedR 3) d 12).isSome
def oV : Option Nat → V
  | none => .non
  | some n => .int n
def spOne (K : PySem.W.Frag) : Sp := fun vs H Q _ => ∃ v d, vs = [v] ∧ Rp K H v d ∧ sm d = true ∧ ∀ H', Same H H' → Q (.bl (isOne d)) H'
def spDeed (K : PySem.W.Frag) (m : Nat) : Sp := fun vs H Q _ => ∃ (v : V) (d : PyData) (r i : Nat), vs = [v, .int r, .int i] ∧ i < m ∧ Rp K H v d ∧ sm d = true ∧ ∀ H', Same H H' → Q (oV (deedR i d r)) H'
def spRoom (K : PySem.W.Frag) (m : Nat) : Sp := fun vs H Q _ => ∃ (v : V) (d : PyData) (r i : Nat), vs = [v, .int r, .int i] ∧ i < m ∧ Rp K H v d ∧ sm d = true ∧ ∀ H', Same H H' → Q (oV (roomR (deedR i) d r)) H'
def spHand (K : PySem.W.Frag) : Sp := fun vs H Q _ => ∃ v d, vs = [v] ∧ Rp K H v d ∧ sm d = true ∧ ∀ H', Same H H' → Q (.bl (hOk d)) H'
structure TxtM (mg : Str → Option Value) : Prop where
  DEEDS : ∃ t, mg "MOST_DEEDS" = some (.int 12 t)
  IFS : ∃ t, mg "MOST_IFS" = some (.int 3 t)
theorem one_cons {h : PyData} {tl : List PyData} : isOne (.tuple (h :: tl)) = if isS h "set" = true then (match tl with | [a, b] => isWord a && isE 6 b | _ => false)
    else if isS h "send" = true then (match tl with | [a, b, c] => isWord a && (isKey b && isE 6 c) | _ => false)
    else isS h "fail" && (match tl with | [] => true | _ => false) := rfl
theorem one_set_ne {h : PyData} {tl : List PyData} (hS : isS h "set" = true) (hl : tl.length ≠ 2) : isOne (.tuple (h :: tl)) = false := by
  rw [one_cons, if_pos hS]
  rcases tl with _ | ⟨a, _ | ⟨b, _ | ⟨c, t⟩⟩⟩ <;> first | rfl | exact absurd rfl hl
theorem one_send_ne {h : PyData} {tl : List PyData} (h1 : ¬ isS h "set" = true) (hS : isS h "send" = true) (hl : tl.length ≠ 3) : isOne (.tuple (h :: tl)) = false := by
  rw [one_cons, if_neg h1, if_pos hS]
  rcases tl with _ | ⟨a, _ | ⟨b, _ | ⟨c, _ | ⟨e, t⟩⟩⟩⟩ <;> first | rfl | exact absurd rfl hl
theorem one_not {d : PyData} (h : isTup d = false) : isOne d = false := by
  cases d <;> first | rfl | cases h
theorem three_of {K : PySem.W.Frag} {G : Hp} {xs : List V} {ds : List PyData} (r : RpAll K G xs ds) (h : xs.length = 3) : ∃ x y z d e f, xs = [x, y, z] ∧ ds = [d, e, f] ∧ Rp K G x d ∧ Rp K G y e ∧ Rp K G z f := by
  cases r with
  | nil => cases h
  | cons a t =>
    obtain ⟨y, z, e, f, rfl, rfl, q, q2⟩ := two_of t (by simpa using h)
    exact ⟨_, y, z, _, e, f, rfl, rfl, a, q, q2⟩
theorem tl_ne3 {α : Type} {f : PyData → PyData → PyData → α} {c : α} : ∀ {tl : List PyData}, tl.length ≠ 3 → (match tl with | [a, b, d] => f a b d | _ => c) = c
  | [], _ => rfl
  | [a], _ => rfl
  | [a, b], _ => rfl
  | [a, b, d], h => absurd rfl h
  | a :: b :: d :: e :: t, _ => rfl
section
variable {P : Program} {w : World} {K : PySem.W.Frag} {mg : Str → Option Value} {base : Heap}
theorem scOne : FnScope ["value", "head"] ["value"] (defScope sOne) := ⟨rfl, rfl, rfl, by decide +kernel, rfl, by decide +kernel, by decide +kernel⟩
theorem ok_one {f fE fW fK : Addr} {fd fdE fdW fdK : FuncData} {t6 : Tok} (F : Fun K "is_single_deed" "is_single_deed" sOne f fd) (T : TxtH mg)
    (GExp : FnOk P w K mg base CX0 10 fE fdE ["value", "deep"] (spExp K 7)) (TExp : DefT K mg "is_expression" fE) (bExp : Binds K fdE ["value", "deep"] [.int 6 t6])
    (GWord : FnOk P w K mg base CX0 1 fW fdW ["value"] (spWord K)) (TWord : DefT K mg "is_word" fW) (bWord : Binds K fdW ["value"] [])
    (GKey : FnOk P w K mg base CX0 2 fK fdK ["value"] (spKey K)) (TKey : DefT K mg "is_key" fK) (bKey : Binds K fdK ["value"] []) : FnOk P w K mg base CX0 11 f fd ["value"] (spOne K) := by
  refine F.ok scOne (fun vs H Q E h => ?_) (fun cdv A outer s H vs Q E hr h => ?_)
  · obtain ⟨v, d, rfl, _⟩ := h
    rfl
  · obtain ⟨v, d, rfl, r, small, k⟩ := h
    have hu := hu_of hr
    refine ⟨_, (pss_cons (ps_if (PW.pt (pw_or (pt_not (pt_val (pe_callB call_isi (by rfl) T.isinstance (by decide +kernel) (pa_cons (pv 0) (pa_cons (pe_bltn (v := V.ty "tuple") (by rfl) T.tuple (by decide +kernel) rfl) pa_nil))))) (pw_or1 (pt_cmpR op_eq (pe_callB call_len_seq (by rfl) T.len PySem.boot_len (pa_cons (pv 0) pa_nil)) pe_int (nomark _))))) (pss_one (ps_ret pe_bl)) pss_nil)
      (pss_cons (ps_set (i := 1) scOne.nd rfl (Or.inl rfl) (pe_ix ix_tup (pv 0) pe_int (fun _ _ => rfl)))
      (pss_cons (ps_if (pt_cmpR (KEq.op_eqS hu) (pv 1) pe_str (nomark _)) (pss_one (ps_ret (pe_and (pe_cmpR op_eq (pe_callB call_len_seq (by rfl) T.len PySem.boot_len (pa_cons (pv 0) pa_nil)) pe_int (nomark _)) (pe_and (pe_call GWord (hr.mono (by decide)) rfl TWord.mg TWord.kp bWord .nil pass0 (pa_cons (pe_ix ix_tup (pv 0) pe_int (fun _ _ => rfl)) pa_nil)) (pe_one (pe_call GExp (hr.mono (by decide)) rfl TExp.mg TExp.kp bExp (.cons (show L2.RelV (V.int 6) (Value.int 6 t6) from ⟨_, rfl⟩) .nil) pass0 (pa_cons (pe_ix ix_tup (pv 0) pe_int (fun _ _ => rfl)) pa_nil))))))) pss_nil)
      (pss_cons (ps_if (pt_cmpR (KEq.op_eqS hu) (pv 1) pe_str (nomark _)) (pss_one (ps_ret (pe_and (pe_cmpR op_eq (pe_callB call_len_seq (by rfl) T.len PySem.boot_len (pa_cons (pv 0) pa_nil)) pe_int (nomark _)) (pe_and (pe_call GWord (hr.mono (by decide)) rfl TWord.mg TWord.kp bWord .nil pass0 (pa_cons (pe_ix ix_tup (pv 0) pe_int (fun _ _ => rfl)) pa_nil)) (pe_and (pe_call GKey (hr.mono (by decide)) rfl TKey.mg TKey.kp bKey .nil pass0 (pa_cons (pe_ix ix_tup (pv 0) pe_int (fun _ _ => rfl)) pa_nil)) (pe_one (pe_call GExp (hr.mono (by decide)) rfl TExp.mg TExp.kp bExp (.cons (show L2.RelV (V.int 6) (Value.int 6 t6) from ⟨_, rfl⟩) .nil) pass0 (pa_cons (pe_ix ix_tup (pv 0) pe_int (fun _ _ => rfl)) pa_nil)))))))) pss_nil)
      (pss_one (ps_ret (pe_and (pe_cmpR (KEq.op_eqS hu) (pv 1) pe_str (nomark _)) (pe_one (pe_cmpR op_eq (pe_callB call_len_seq (by rfl) T.len PySem.boot_len (pa_cons (pv 0) pa_nil)) pe_int (nomark _)))))))))), ?_⟩
    refine ⟨_, rfl, v, .ty "tuple", _, _, _, rfl, .ty _, rp_ty r, kit_tup d, _, rfl, ite2 (fun h2 => ?_) (fun h2 => ?_)⟩
    · refine iteT ?_
      have := k _ (.refl _)
      rw [one_not (by simpa using h2)] at this
      exact this
    cases r with
    | @tup a xs ds q rr =>
      cases rr with
      | nil =>
        refine ⟨_, rfl, a, [], rfl, .inr q, rfl, _, rfl, iteT ?_⟩
        exact k _ (.refl _)
      | @cons hv xv h tl rh rt =>
        obtain ⟨small1, small2⟩ := sm_cons (sm_tup small)
        refine ⟨_, rfl, a, hv :: xv, rfl, .inr q, rfl, _, rfl, ite2 (fun h3 => ?_) (fun _ => ?_)⟩
        · exact absurd (len_is h3) (by simp; omega)
        refine ⟨_, rfl, a, hv :: xv, 0, hv, rfl, rfl, q, atI_nat (j := 0) rfl, ?_⟩
        refine ⟨_, rfl, h, _, rh, rfl, _, rfl, ite2 (fun i1 => ?_) (fun i1 => ?_)⟩
        · refine ⟨_, rfl, a, hv :: xv, rfl, .inr q, rfl, _, rfl, ite2 (fun h4 => ?_) (fun h4 => ?_)⟩
          · have h5 := len_is h4
            obtain ⟨x, y, d, e, rfl, rfl, rx, ry⟩ := two_of rt (by simp at h5; omega)
            have sx := sm_cons small2
            have sy := sm_cons sx.2
            refine ⟨_, rfl, a, [hv, x, y], 1, x, rfl, rfl, q, atI_nat (j := 1) rfl, x, d, rfl, rx, sx.1, fun H1 s1 => ?_⟩
            refine ⟨_, rfl, ite2 (fun h6 => ?_) (fun h6 => ?_)⟩
            · refine ⟨_, rfl, a, [hv, x, y], 2, y, rfl, rfl, sqT_same s1 q, atI_nat (j := 2) rfl, y, e, 6, rfl, by omega, Rp.same s1 ry, sy.1, fun H2 s2 => ?_⟩
              have := k _ (s1.trans s2)
              rw [one_cons] at this
              rw [if_pos i1] at this
              rw [show (match ([d, e] : List PyData) with | [a, b] => isWord a && isE 6 b | _ => false) = isE 6 e by show (isWord d && isE 6 e) = _; rw [h6]; rfl] at this
              exact this
            · have := k _ s1
              rw [one_cons] at this
              rw [if_pos i1] at this
              rw [show (match ([d, e] : List PyData) with | [a, b] => isWord a && isE 6 b | _ => false) = false by show (isWord d && isE 6 e) = _; rw [Bool.eq_false_iff.mpr h6]; rfl] at this
              exact this
          · have h5 := len_ne h4
            have := k _ (.refl _)
            rw [one_set_ne i1 (by rw [← RpAll.len rt]; simp at h5; omega)] at this
            exact this
        refine ⟨_, rfl, h, _, rh, rfl, _, rfl, ite2 (fun i2 => ?_) (fun i2 => ?_)⟩
        · refine ⟨_, rfl, a, hv :: xv, rfl, .inr q, rfl, _, rfl, ite2 (fun h4 => ?_) (fun h4 => ?_)⟩
          · have h5 := len_is h4
            obtain ⟨x, y, z, d, e, g, rfl, rfl, rx, ry, rz⟩ := three_of rt (by simp at h5; omega)
            have sx := sm_cons small2
            have sy := sm_cons sx.2
            have sz' := sm_cons sy.2
            refine ⟨_, rfl, a, [hv, x, y, z], 1, x, rfl, rfl, q, atI_nat (j := 1) rfl, x, d, rfl, rx, sx.1, fun H1 s1 => ?_⟩
            refine ⟨_, rfl, ite2 (fun h6 => ?_) (fun h6 => ?_)⟩
            · refine ⟨_, rfl, a, [hv, x, y, z], 2, y, rfl, rfl, sqT_same s1 q, atI_nat (j := 2) rfl, y, e, rfl, Rp.same s1 ry, sy.1, fun H2 s2 => ?_⟩
              refine ⟨_, rfl, ite2 (fun h7 => ?_) (fun h7 => ?_)⟩
              · refine ⟨_, rfl, a, [hv, x, y, z], 3, z, rfl, rfl, sqT_same (s1.trans s2) q, atI_nat (j := 3) rfl, z, g, 6, rfl, by omega, Rp.same (s1.trans s2) rz, sz'.1, fun H3 s3 => ?_⟩
                have := k _ ((s1.trans s2).trans s3)
                rw [one_cons] at this
                rw [if_neg i1, if_pos i2] at this
                rw [show (match ([d, e, g] : List PyData) with | [a, b, c] => isWord a && (isKey b && isE 6 c) | _ => false) = isE 6 g by show (isWord d && (isKey e && isE 6 g)) = _; rw [h6, h7]; rfl] at this
                exact this
              · have := k _ (s1.trans s2)
                rw [one_cons] at this
                rw [if_neg i1, if_pos i2] at this
                rw [show (match ([d, e, g] : List PyData) with | [a, b, c] => isWord a && (isKey b && isE 6 c) | _ => false) = false by show (isWord d && (isKey e && isE 6 g)) = _; rw [h6, Bool.eq_false_iff.mpr h7]; rfl] at this
                exact this
            · have := k _ s1
              rw [one_cons] at this
              rw [if_neg i1, if_pos i2] at this
              rw [show (match ([d, e, g] : List PyData) with | [a, b, c] => isWord a && (isKey b && isE 6 c) | _ => false) = false by show (isWord d && (isKey e && isE 6 g)) = _; rw [Bool.eq_false_iff.mpr h6]; rfl] at this
              exact this
          · have h5 := len_ne h4
            have := k _ (.refl _)
            rw [one_send_ne i1 i2 (by rw [← RpAll.len rt]; simp at h5; omega)] at this
            exact this
        refine ⟨_, rfl, h, _, rh, rfl, _, rfl, ite2 (fun i3 => ?_) (fun i3 => ?_)⟩
        · refine ⟨_, rfl, a, hv :: xv, rfl, .inr q, rfl, ?_⟩
          have := k _ (.refl _)
          rw [one_cons] at this
          rw [if_neg i1, if_neg i2, i3] at this
          cases rt with
          | nil => exact this
          | @cons b c d e _ rt2 =>
            rw [show decide (V.int ((hv :: b :: c).length : Int) = V.int 1) = false from decide_eq_false (fun z => by have := V.int.inj z; simp at this; omega)]
            exact this
        · have := k _ (.refl _)
          rw [one_cons] at this
          rw [if_neg i1, if_neg i2, Bool.eq_false_iff.mpr i3] at this
          exact this
    | _ => exact absurd rfl h2
theorem scRoom : FnScope ["deeds", "room", "ifs", "deed"] ["deeds", "room", "ifs"] (defScope sRoom) := ⟨rfl, rfl, rfl, by decide +kernel, rfl, by decide +kernel, by decide +kernel⟩
theorem scDeed : FnScope ["deed", "room", "ifs"] ["deed", "room", "ifs"] (defScope sDeed) := ⟨rfl, rfl, rfl, by decide +kernel, rfl, by decide +kernel, by decide +kernel⟩
theorem room_not {f : PyData → Nat → Option Nat} {d : PyData} {r : Nat} (h : isTup d = false) : roomR f d r = none := by
  cases d <;> first | rfl | cases h
theorem smAll_get : ∀ {ds : List PyData} {i : Nat} {d : PyData}, smAll ds = true → ds[i]? = some d → sm d = true
  | [], i, d, _, h => by simp at h
  | x :: xs, 0, d, s, h => by
    have e := Option.some.inj h
    subst e
    exact (sm_cons s).1
  | x :: xs, i + 1, d, s, h => smAll_get (ds := xs) (i := i) (sm_cons s).2 h
theorem rp_get {K : PySem.W.Frag} {G : Hp} : ∀ {vs : List V} {ds : List PyData} {i : Nat} {v : V}, RpAll K G vs ds → vs[i]? = some v → ∃ d, ds[i]? = some d ∧ Rp K G v d
  | _, _, i, _, .nil, h => by simp at h
  | _, _, 0, v, .cons q t, h => by
    have e := Option.some.inj h
    subst e
    exact ⟨_, rfl, q⟩
  | _, _, i + 1, v, .cons q t, h => rp_get (i := i) t h
theorem drop_get {α : Type} : ∀ {l : List α} {i : Nat} {x : α}, l[i]? = some x → l.drop i = x :: l.drop (i + 1)
  | [], i, x, h => by simp at h
  | a :: l, 0, x, h => by
    have e : a = x := Option.some.inj h
    subst e
    rfl
  | a :: l, i + 1, x, h => drop_get (l := l) (i := i) h
theorem oV_non {o : Option Nat} : decide (oV o = V.non) = o.isNone := by
  cases o <;> simp [oV]
theorem ok_room {f fD : Addr} {fd fdD : FuncData} (m n : Nat) (F : Fun K "room_after" "room_after" sRoom f fd) (T : TxtH mg)
    (GDeed : FnOk P w K mg base CX0 n fD fdD ["deed", "room", "ifs"] (spDeed K m)) (TDeed : DefT K mg "room_after_deed" fD) (bDeed : Binds K fdD ["deed", "room", "ifs"] []) : FnOk P w K mg base CX0 (n + 1) f fd ["deeds", "room", "ifs"] (spRoom K m) := by
  refine F.ok scRoom (fun vs H Q E h => ?_) (fun cdv A outer s H vs Q E hr h => ?_)
  · obtain ⟨v, d, r, i, rfl, _⟩ := h
    rfl
  · obtain ⟨v, d, r, j, rfl, lt, rp, small, k⟩ := h
    refine ⟨_, (pss_cons (ps_if (pt_not (pt_val (pe_callB call_isi (by rfl) T.isinstance (by decide +kernel) (pa_cons (pv 0) (pa_cons (pe_bltn (v := V.ty "tuple") (by rfl) T.tuple (by decide +kernel) rfl) pa_nil))))) (pss_one (ps_ret pe_non)) pss_nil)
      (pss_cons (ps_for PassesOwn.never rfl (pi_tup (pv 0)) (pg_name (i := 3) scRoom.nd rfl (Or.inl rfl)) (pss_cons (ps_if (pt_cmpR op_eq (pv 1) pe_int (nomark _)) (pss_one (ps_ret pe_non)) pss_nil)
      (pss_cons (ps_set (i := 1) scRoom.nd rfl (Or.inl rfl) (pe_call GDeed (hr.mono (by omega)) rfl TDeed.mg TDeed.kp bDeed .nil pass0 (pa_cons (pv 3) (pa_cons (pe_op op_sub (pv 1) pe_int) (pa_cons (pv 2) pa_nil)))))
      (pss_one (ps_if (pt_cmpR op_isN (pv 1) pe_non (nomark _)) (pss_one (ps_ret pe_non)) pss_nil)))))
      (pss_one (ps_ret (pv 1))))), ?_⟩
    refine ⟨_, rfl, v, .ty "tuple", _, _, _, rfl, .ty _, rp_ty rp, kit_tup d, _, rfl, ite2 (fun h2 => ?_) (fun h2 => ?_)⟩
    · have := k _ (.refl _)
      rw [room_not (by simpa using h2)] at this
      exact this
    cases rp with
    | @tup a xs ds q rr =>
      have sall : smAll ds = true := sm_tup small
      refine ⟨_, rfl, a, rfl, ⟨_, q⟩, for_tup (xs := xs) (fun i σ H' => σ.length = 4 ∧ σ[2]? = some (some (.int j)) ∧ Same H H' ∧ ∃ r' : Nat, σ[1]? = some (some (.int r')) ∧ roomAll (deedR j) ds r = roomAll (deedR j) (ds.drop i) r') ⟨rfl, rfl, .refl _, r, rfl, rfl⟩ ?_ ?_ ?_⟩
      · intro i σ H' _ ⟨_, _, s', _⟩
        exact sqT_same s' q
      · intro i x σ H' hx ⟨l0, v2, s', r', v1, er⟩
        obtain ⟨d, hd, rd⟩ := rp_get rr hx
        rw [drop_get hd] at er
        have z1 : (σ.set 3 (some x))[1]? = some (some (V.int (r' : Int))) := by simp [v1]
        have z2 : (σ.set 3 (some x))[2]? = some (some (V.int (j : Int))) := by simp [v2]
        have z3 : (σ.set 3 (some x))[3]? = some (some x) := by simp [l0]
        refine ⟨_, z1, rfl, _, rfl, ite2 (fun h3 => ?_) (fun h3 => ?_)⟩
        · have e0 : r' = 0 := by have := V.int.inj (of_decide_eq_true h3); omega
          subst e0
          have := k _ s'
          rw [show roomR (deedR j) (.tuple ds) r = none from er] at this
          exact this
        · obtain ⟨r2, rfl⟩ : ∃ t, r' = t + 1 := ⟨r' - 1, by
            have : r' ≠ 0 := fun z => h3 (by rw [z]; rfl)
            omega⟩
          refine ⟨_, z3, _, z1, _, _, rfl, rfl, _, z2, x, d, r2, j, by simp, lt, Rp.same s' rd, smAll_get sall hd, fun H2 s2 => ?_⟩
          have y1 : ((σ.set 3 (some x)).set 1 (some (oV (deedR j d r2))))[1]? = some (some (oV (deedR j d r2))) := by simp [l0]
          refine ⟨_, y1, rfl, _, rfl, ?_⟩
          rw [oV_non]
          have er' : roomAll (deedR j) ds r = (deedR j d r2).bind (roomAll (deedR j) (ds.drop (i + 1))) := er
          cases o : deedR j d r2 with
          | none =>
            refine iteT ?_
            rw [o] at er'
            have := k _ (s'.trans s2)
            rw [show roomR (deedR j) (.tuple ds) r = none from er'] at this
            exact this
          | some r3 =>
            refine iteF ?_
            rw [o] at er' y1
            exact ⟨by simp [l0], by simp [v2], s'.trans s2, r3, y1, er'⟩
      · intro σ H' ⟨l0, v2, s', r', v1, er⟩
        have e : ds.drop xs.length = [] := by rw [RpAll.len rr]; simp
        rw [e] at er
        have := k _ s'
        rw [show roomR (deedR j) (.tuple ds) r = some r' from er] at this
        exact ⟨_, v1, this⟩
    | _ => exact absurd rfl h2
theorem deed_one {i r : Nat} {d : PyData} (h : isOne d = true) : deedR i d r = some r := by
  cases i with
  | zero => unfold deedR; rw [if_pos h]
  | succ i => unfold deedR; rw [if_pos h]
theorem deed_zero {r : Nat} {d : PyData} (h : ¬ isOne d = true) : deedR 0 d r = none := by
  unfold deedR
  rw [if_neg h]
theorem deed_four {i r : Nat} {h c a b : PyData} (n : ¬ isOne (.tuple [h, c, a, b]) = true) : deedR (i + 1) (.tuple [h, c, a, b]) r = if isS h "if" = true then (if isC 6 c = true then (roomR (deedR i) a r).bind (roomR (deedR i) b) else none) else none := by
  rw [deedR, if_neg n]
theorem deed_ne {i r : Nat} {d : PyData} (n : ¬ isOne d = true) (h : isTof d 4 = false) : deedR (i + 1) d r = none := by
  unfold deedR
  rw [if_neg n]
  cases d with
  | tuple ds =>
    rcases ds with _ | ⟨a, _ | ⟨b, _ | ⟨c, _ | ⟨e, _ | ⟨g, t⟩⟩⟩⟩⟩
    · rfl
    · rfl
    · rfl
    · rfl
    · cases h
    · rfl
  | _ => rfl
theorem four_of {K : PySem.W.Frag} {G : Hp} {xs : List V} {ds : List PyData} (r : RpAll K G xs ds) (h : ds.length = 4) : ∃ x y z u d e f g, xs = [x, y, z, u] ∧ ds = [d, e, f, g] ∧ Rp K G x d ∧ Rp K G y e ∧ Rp K G z f ∧ Rp K G u g := by
  cases r with
  | nil => cases h
  | cons a t =>
    obtain ⟨y, z, u, e, f, g, rfl, rfl, q, q2, q3⟩ := three_of t (by rw [RpAll.len t]; simpa using h)
    exact ⟨_, y, z, u, _, e, f, g, rfl, rfl, a, q, q2, q3⟩
theorem ok_deed {f fO fT fC fR : Addr} {fd fdO fdT fdC fdR : FuncData} {t6 : Tok} (m n : Nat) (hn : 18 ≤ n) (F : Fun K "room_after_deed" "room_after_deed" sDeed f fd)
    (GOne : FnOk P w K mg base CX0 11 fO fdO ["value"] (spOne K)) (TOne : DefT K mg "is_single_deed" fO) (bOne : Binds K fdO ["value"] [])
    (GTof : FnOk P w K mg base CX0 1 fT fdT ["value", "length"] (spTof K)) (TTof : DefT K mg "is_tuple_of" fT) (bTof : Binds K fdT ["value", "length"] [])
    (GCon : FnOk P w K mg base CX0 18 fC fdC ["value", "deep"] (spCon K 7)) (TCon : DefT K mg "is_condition" fC) (bCon : Binds K fdC ["value", "deep"] [.int 6 t6])
    (GRoom : FnOk P w K mg base CX0 n fR fdR ["deeds", "room", "ifs"] (spRoom K m)) (TRoom : DefT K mg "room_after" fR) (bRoom : Binds K fdR ["deeds", "room", "ifs"] []) : FnOk P w K mg base CX0 (n + 1) f fd ["deed", "room", "ifs"] (spDeed K (m + 1)) := by
  refine F.ok scDeed (fun vs H Q E h => ?_) (fun cdv A outer s H vs Q E hr h => ?_)
  · obtain ⟨v, d, r, i, rfl, _⟩ := h
    rfl
  · obtain ⟨v, d, r, j, rfl, lt, rp, small, k⟩ := h
    have hu := hu_of hr
    refine ⟨_, (pss_cons (ps_if (pt_val (pe_call GOne (hr.mono (by omega)) rfl TOne.mg TOne.kp bOne .nil pass0 (pa_cons (pv 0) pa_nil))) (pss_one (ps_ret (pv 1))) pss_nil)
      (pss_cons (ps_if (PW.pt (pw_or (pt_cmpR op_eq (pv 2) pe_int (nomark _)) (pw_or (pt_not (pt_val (pe_call GTof (hr.mono (by omega)) rfl TTof.mg TTof.kp bTof .nil pass0 (pa_cons (pv 0) (pa_cons pe_int pa_nil))))) (pw_or (pt_cmpR (KEq.op_neS hu) (pe_ix ix_tup (pv 0) pe_int (fun _ _ => rfl)) pe_str (nomark _)) (pw_or1 (pt_not (pt_val (pe_call GCon (hr.mono (by omega)) rfl TCon.mg TCon.kp bCon (.cons (show L2.RelV (V.int 6) (Value.int 6 t6) from ⟨_, rfl⟩) .nil) pass0 (pa_cons (pe_ix ix_tup (pv 0) pe_int (fun _ _ => rfl)) pa_nil))))))))) (pss_one (ps_ret pe_non)) pss_nil)
      (pss_cons (ps_set (i := 1) scDeed.nd rfl (Or.inl rfl) (pe_call GRoom (hr.mono (by omega)) rfl TRoom.mg TRoom.kp bRoom .nil pass0 (pa_cons (pe_ix ix_tup (pv 0) pe_int (fun _ _ => rfl)) (pa_cons (pv 1) (pa_cons (pe_op op_sub (pv 2) pe_int) pa_nil)))))
      (pss_cons (ps_if (pt_cmpR op_isN (pv 1) pe_non (nomark _)) (pss_one (ps_ret pe_non)) pss_nil)
      (pss_one (ps_ret (pe_call GRoom (hr.mono (by omega)) rfl TRoom.mg TRoom.kp bRoom .nil pass0 (pa_cons (pe_ix ix_tup (pv 0) pe_int (fun _ _ => rfl)) (pa_cons (pv 1) (pa_cons (pe_op op_sub (pv 2) pe_int) pa_nil)))))))))), ?_⟩
    refine ⟨_, rfl, v, d, rfl, rp, small, fun H1 s1 => ⟨_, rfl, ite2 (fun h1 => ?_) (fun h1 => ?_)⟩⟩
    · have := k _ s1
      rw [deed_one h1] at this
      exact ⟨_, rfl, this⟩
    refine ⟨_, rfl, rfl, _, rfl, ite2 (fun h2 => ?_) (fun h2 => ?_)⟩
    · have e : j = 0 := by have := V.int.inj (of_decide_eq_true h2); omega
      subst e
      have := k _ s1
      rw [deed_zero h1] at this
      exact iteT this
    obtain ⟨j, rfl⟩ : ∃ t, j = t + 1 := ⟨j - 1, by
      have : j ≠ 0 := fun z => h2 (by rw [z]; rfl)
      omega⟩
    have rp1 := Rp.same s1 rp
    refine ⟨_, rfl, v, d, 4, rfl, rp1, _, rfl, ite2 (fun h3 => ?_) (fun h3 => ?_)⟩
    · have := k _ s1
      rw [deed_ne h1 (by simpa using h3)] at this
      exact iteT this
    have h3' : isTof d 4 = true := by simpa using h3
    cases rp1 with
    | @tup a xs ds q rr =>
      have h4 : ds.length = 4 := by
        have z : decide ((ds.length : Int) = 4) = true := h3'
        have := of_decide_eq_true z
        omega
      obtain ⟨hv, xc, xa, xb, h, c, da, db, rfl, rfl, rh, rc, ra, rb⟩ := four_of rr h4
      have m1 := sm_cons (sm_tup small)
      have m2 := sm_cons m1.2
      have m3 := sm_cons m2.2
      have m4 := sm_cons m3.2
      have D := deed_four (i := j) (r := r) h1
      refine ⟨_, rfl, a, [hv, xc, xa, xb], 0, hv, rfl, rfl, q, atI_nat (j := 0) rfl, h, _, rh, rfl, _, rfl, ite2 (fun i1 => ?_) (fun i1 => ?_)⟩
      · have := k _ s1
        rw [D, if_neg (by simpa using i1)] at this
        exact iteT this
      refine ⟨_, rfl, a, [hv, xc, xa, xb], 1, xc, rfl, rfl, q, atI_nat (j := 1) rfl, xc, c, 6, rfl, by omega, rc, m2.1, fun H2 s2 => ⟨_, rfl, ite2 (fun i2 => ?_) (fun i2 => ?_)⟩⟩
      · have := k _ (s1.trans s2)
        rw [D, if_pos (by simpa using i1), if_neg (by simpa using i2)] at this
        exact this
      rw [if_pos (by simpa using i1), if_pos (by simpa using i2)] at D
      refine ⟨_, rfl, a, [hv, xc, xa, xb], 2, xa, rfl, rfl, sqT_same s2 q, atI_nat (j := 2) rfl, _, rfl, _, rfl, _, _, rfl, rfl, xa, da, r, j, by simp, by omega, Rp.same s2 ra, m3.1, fun H3 s3 => ?_⟩
      refine ⟨_, rfl, rfl, _, rfl, ?_⟩
      rw [oV_non]
      have s4 := (s1.trans s2).trans s3
      cases o : roomR (deedR j) da r with
      | none =>
        refine iteT ?_
        have := k _ s4
        rw [D, o] at this
        exact this
      | some r2 =>
        refine iteF ?_
        refine ⟨_, rfl, a, [hv, xc, xa, xb], 3, xb, rfl, rfl, sqT_same (s2.trans s3) q, atI_nat (j := 3) rfl, _, rfl, _, rfl, _, _, rfl, rfl, xb, db, r2, j, by simp [oV], by omega, Rp.same (s2.trans s3) rb, m4.1, fun H4 s5 => ?_⟩
        have := k _ (s4.trans s5)
        rw [D, o] at this
        exact this
    | _ => exact absurd rfl h3
theorem ok_rooms {f fD fO fT fC : Addr} {fd fdD fdO fdT fdC : FuncData} {t6 : Tok} (F : Fun K "room_after" "room_after" sRoom f fd) (T : TxtH mg) (FD : Fun K "room_after_deed" "room_after_deed" sDeed fD fdD)
    (TDeed : DefT K mg "room_after_deed" fD) (bDeed : Binds K fdD ["deed", "room", "ifs"] []) (TRoom : DefT K mg "room_after" f) (bRoom : Binds K fd ["deeds", "room", "ifs"] [])
    (GOne : FnOk P w K mg base CX0 11 fO fdO ["value"] (spOne K)) (TOne : DefT K mg "is_single_deed" fO) (bOne : Binds K fdO ["value"] [])
    (GTof : FnOk P w K mg base CX0 1 fT fdT ["value", "length"] (spTof K)) (TTof : DefT K mg "is_tuple_of" fT) (bTof : Binds K fdT ["value", "length"] [])
    (GCon : FnOk P w K mg base CX0 18 fC fdC ["value", "deep"] (spCon K 7)) (TCon : DefT K mg "is_condition" fC) (bCon : Binds K fdC ["value", "deep"] [.int 6 t6]) : ∀ m, FnOk P w K mg base CX0 (2 * m + 18) f fd ["deeds", "room", "ifs"] (spRoom K m)
  | 0 => by
    refine F.ok scRoom (fun vs H Q E h => ?_) (fun cdv A outer s H vs Q E hr h => ?_)
    · obtain ⟨v, d, r, i, rfl, _⟩ := h
      rfl
    · obtain ⟨v, d, r, i, rfl, lt, _⟩ := h
      exact absurd lt (Nat.not_lt_zero _)
  | m + 1 => ok_room (m + 1) (2 * m + 19) F T (ok_deed m (2 * m + 18) (by omega) FD GOne TOne bOne GTof TTof bTof GCon TCon bCon (ok_rooms F T FD TDeed bDeed TRoom bRoom GOne TOne bOne GTof TTof bTof GCon TCon bCon m) TRoom bRoom) TDeed bDeed
theorem scHand : FnScope ["value"] ["value"] (defScope sHand) := ⟨rfl, rfl, rfl, by decide +kernel, rfl, by decide +kernel, by decide +kernel⟩
theorem ok_hand {f fR : Addr} {fd fdR : FuncData} (F : Fun K "is_handler" "is_handler" sHand f fd) (T : TxtM mg) (GRoom : FnOk P w K mg base CX0 26 fR fdR ["deeds", "room", "ifs"] (spRoom K 4)) (TRoom : DefT K mg "room_after" fR) (bRoom : Binds K fdR ["deeds", "room", "ifs"] []) : FnOk P w K mg base CX0 27 f fd ["value"] (spHand K) := by
  refine F.ok scHand (fun vs H Q E h => ?_) (fun cdv A outer s H vs Q E hr h => ?_)
  · obtain ⟨v, d, rfl, _⟩ := h
    rfl
  · obtain ⟨v, d, rfl, r, small, k⟩ := h
    refine ⟨_, (pss_one (ps_ret (pe_cmpR op_notN (pe_call GRoom (hr.mono (by decide)) rfl TRoom.mg TRoom.kp bRoom .nil pass0 (pa_cons (pv 0) (pa_cons (pe_glob (v := V.int 12) (by rfl) T.DEEDS.choose_spec ⟨_, rfl⟩) (pa_cons (pe_glob (v := V.int 3) (by rfl) T.IFS.choose_spec ⟨_, rfl⟩) pa_nil)))) pe_non (nomark _)))), ?_⟩
    refine ⟨_, rfl, v, d, 12, 3, rfl, by omega, r, small, fun H1 s1 => ⟨rfl, ?_⟩⟩
    have := k _ s1
    unfold hOk at this
    rw [oV_non]
    rw [show (!(roomR (deedR 3) d 12).isNone) = (roomR (deedR 3) d 12).isSome by cases roomR (deedR 3) d 12 <;> rfl]
    exact this
end
end Hd

set_option Elab.async false
set_option linter.all false
set_option maxRecDepth 100000
set_option maxHeartbeats 4000000
namespace Hd
open PySem L2 Pen
abbrev sPen : Stmt := top 33
abbrev sDraw : Stmt := top 34
abbrev sPick : Stmt := top 35
section
variable {P : Program} {w : World} {K : PySem.W.Frag} {mg : Str → Option Value} {base : Heap}
theorem scPen : FnScope ["_law_script"] ["_law_script"] (defScope sPen) := ⟨rfl, rfl, rfl, by decide +kernel, rfl, by decide +kernel, by decide +kernel⟩
theorem ok_pen {f : Addr} {fd : FuncData} (F : Fun K "_law_pen" "_law_pen" sPen f fd) (T : TxtP mg) : FnOk P w K mg base CX0 1 f fd ["_law_script"] (spPen K) := by
  refine F.ok scPen (fun vs H Q E h => ?_) (fun cdv A outer s H vs Q E hr h => ?_)
  · obtain ⟨a, ns, rfl, _⟩ := h
    rfl
  · obtain ⟨a, ns, rfl, hS, hl, k⟩ := h
    have hu := hu_of hr
    refine ⟨_, (pss_one (ps_ret (pe_disp (pps_cons pe_str (pe_callTy call_list_of (by rfl) T.list PyProof.Rows.boot_list (pa_cons (pe_slice sl_list (pv 0) po_none (po_some pe_int)) pa_nil)) (pps_cons pe_str pe_int (pps_cons pe_str pe_int pps_nil))) (by decide +kernel) rfl (by simp) (by decide)))), ?_⟩
    intro p hp
    refine ⟨_, rfl, 63, rfl, a, _, rfl, (same_new hp).seq hS, fun l1 h1 => ⟨l1, _, rfl, .inl (SqL.of upd_same), fun l h2 => ?_⟩⟩
    have n1 : l1 ≠ p := fun e => by rw [e, upd_same] at h1; cases h1
    have n2 : l ≠ l1 := fun e => by rw [e, upd_same] at h2; cases h2
    have n3 : l ≠ p := fun e => by rw [e, upd_ne n1.symm, upd_same] at h2; cases h2
    have hp' : (upd (upd (upd H p (.dK [])) l1 (.lst (cutV (ns.map V.int) none (some 63)))) l (.lst (cutV (ns.map V.int) none (some 63)))) p = some (.dK []) := by
      rw [upd_ne n3.symm, upd_ne n1.symm, upd_same]
    refine ⟨hp', [(kC, .ref l), (kA, .int 0), (kR, .int 0)], rfl, (by simp), ?_⟩
    rw [merge_pk, cut63 hl]
    refine k p l _ hp ⟨⟨0, 0, upd_same, by decide, by decide, by decide⟩, by rw [upd_ne n3, upd_same]⟩ fun b o e => ?_
    have b1 : b ≠ p := ne_of_none e hp
    rw [upd_ne b1]
    have e1 : (upd H p (.dK [])) b = some o := by rw [upd_ne b1]; exact e
    have b2 : b ≠ l1 := ne_of_none e1 h1
    have e2 : (upd (upd H p (.dK [])) l1 (.lst (cutV (ns.map V.int) none (some 63)))) b = some o := by rw [upd_ne b2]; exact e1
    have b3 : b ≠ l := ne_of_none e2 h2
    rw [upd_ne b3, upd_ne b2, upd_ne b1]
    exact e
theorem scDraw : FnScope ["_law_pen_here", "_law_many", "_law_digit", "_law_at", "_law_cell", "_law_blend"] ["_law_pen_here", "_law_many"] (defScope sDraw) := ⟨rfl, rfl, rfl, by decide +kernel, rfl, by decide +kernel, by decide +kernel⟩
theorem ok_draw {f : Addr} {fd : FuncData} (F : Fun K "_law_draw" "_law_draw" sDraw f fd) (T : TxtP mg) : FnOk P w K mg base CX0 1 f fd ["_law_pen_here", "_law_many"] spDraw := by
  refine F.ok scDraw (fun vs H Q E h => ?_) (fun cdv A outer s H vs Q E hr h => ?_)
  · obtain ⟨p, c, ns, b, m, rfl, _⟩ := h
    rfl
  · obtain ⟨p, c, ns, b, m, rfl, Pn, hl, hb, hm, hm2, k⟩ := h
    have hu := hu_of hr
    obtain ⟨⟨a, r, hp, ha0, ha, hr0⟩, hc⟩ := id Pn
    have npc : p ≠ c := Pn.ne
    have cp : ∀ o, (upd H p o) c = some (.lst (ns.map V.int)) := fun o => by rw [upd_ne npc.symm]; exact hc
    refine ⟨_, (pss_cons (ps_if (pt_cmpR op_gt (pe_dget hu (pv 0) pe_str (fun _ _ => rfl)) pe_int (nomark _)) (pss_cons (ps_set (i := 2) scDraw.nd rfl (Or.inl rfl) (pe_op op_modN (pe_callTy call_int1 (by rfl) T.int PyProof.Rows.boot_int (pa_cons (pe_dget hu (pv 0) pe_str (fun _ _ => rfl)) pa_nil)) (pv 1)))
      (pss_cons (ps_dput hu (pv 0) pe_str (pe_op op_fdivW (pe_dget hu (pv 0) pe_str (fun _ _ => rfl)) (pv 1)) rfl)
      (pss_one (ps_ret (pv 2))))) pss_nil)
      (pss_cons (ps_set (i := 3) scDraw.nd rfl (Or.inl rfl) (pe_dget hu (pv 0) pe_str (fun _ _ => rfl)))
      (pss_cons (ps_dput hu (pv 0) pe_str (pe_op op_add (pv 3) pe_int) rfl)
      (pss_cons (ps_set (i := 4) scDraw.nd rfl (Or.inl rfl) (pe_op op_add (pe_op op_mul pe_int (pv 3)) pe_int))
      (pss_cons (ps_if (pt_cmpR (op_neD hr.units) (pe_dget hu (pv 0) pe_str (fun _ _ => rfl)) (pe_lst pa_nil) (nomark _)) (pss_one (ps_set (i := 4) scDraw.nd rfl (Or.inl rfl) (pe_ix ix_list (pe_dget hu (pv 0) pe_str (fun _ _ => rfl)) (pe_op op_modN (pe_callTy call_int1 (by rfl) T.int PyProof.Rows.boot_int (pa_cons (pv 3) pa_nil)) (pe_callB call_len_seq (by rfl) T.len PySem.boot_len (pa_cons (pe_dget hu (pv 0) pe_str (fun _ _ => rfl)) pa_nil))) (fun _ _ => rfl)))) pss_nil)
      (pss_cons (ps_if (PW.pt (pw_and (pt_cmpR op_lt (pv 3) (pe_callB call_len_seq (by rfl) T.len PySem.boot_len (pa_cons (pe_dget hu (pv 0) pe_str (fun _ _ => rfl)) pa_nil)) (nomark _)) (pw_and1 (pt_cmpR op_ge (pe_callB call_abs (by rfl) T.abs PyProof.Rows.boot_abs (pa_cons (pv 4) pa_nil)) (pe_op op_pow pe_int pe_int) (nomark _))))) (pss_cons (ps_dput hu (pv 0) pe_str (pe_op op_fdivW (pe_op op_sub (pe_callB call_abs (by rfl) T.abs PyProof.Rows.boot_abs (pa_cons (pv 4) pa_nil)) (pe_op op_pow pe_int pe_int)) (pv 1)) rfl)
      (pss_one (ps_ret (pe_op op_modN (pe_op op_sub (pe_callB call_abs (by rfl) T.abs PyProof.Rows.boot_abs (pa_cons (pv 4) pa_nil)) (pe_op op_pow pe_int pe_int)) (pv 1))))) pss_nil)
      (pss_cons (ps_set (i := 5) scDraw.nd rfl (Or.inl rfl) (pe_op op_mod (pe_callTy call_int1 (by rfl) T.int PyProof.Rows.boot_int (pa_cons (pe_op op_add (pe_op op_add (pe_op op_mul (pe_op op_mod (pe_callTy call_int1 (by rfl) T.int PyProof.Rows.boot_int (pa_cons (pv 4) pa_nil)) pe_int) pe_int) (pe_op op_mul (pe_op op_mul pe_int (pv 3)) (pv 3))) pe_int) pa_nil)) pe_int))
      (pss_cons (ps_set (i := 5) scDraw.nd rfl (Or.inl rfl) (pe_op op_mod (pe_callTy call_int1 (by rfl) T.int PyProof.Rows.boot_int (pa_cons (pe_op op_add (pe_op op_add (pe_op op_add (pe_op op_mul (pv 5) (pv 5)) (pe_op op_mul pe_int (pv 5))) (pe_op op_mul pe_int (pv 3))) pe_int) pa_nil)) pe_int))
      (pss_one (ps_ret (pe_op op_modN (pe_callTy call_int1 (by rfl) T.int PyProof.Rows.boot_int (pa_cons (pe_op op_fdiv (pe_op op_mod (pe_callTy call_int1 (by rfl) T.int PyProof.Rows.boot_int (pa_cons (pe_op op_mul (pv 5) (pe_op op_add (pv 5) pe_int)) pa_nil)) pe_int) pe_int) pa_nil)) (pv 1)))))))))))), ?_⟩
    refine ⟨_, rfl, p, _, rfl, getR hp, _, _, rfl, rfl, _, rfl, ite2 (fun h => ?_) (fun _ => ?_)⟩
    · -- the rest's next digit
      refine ⟨_, rfl, p, _, rfl, getR hp, .inl ⟨_, rfl, _, rfl, _, _, rfl, rfl, (by omega), ?_⟩⟩
      refine ⟨_, rfl, p, _, rfl, getR hp, _, rfl, _, _, rfl, rfl, div_ok hm hm2, _, rfl, p, _, rfl, putR hp, _, rfl, ?_⟩
      exact k _ _ (fmod_lo hm) (fmod_hi hm) ⟨⟨a, _, upd_same, ha0, by omega, fdiv_lo hm hr0⟩, cp _⟩ (SameX.upd SameX.refl)
    · refine ⟨_, rfl, p, _, rfl, getA hp, _, rfl, _, _, rfl, rfl, _, rfl, p, _, rfl, putA hp, ?_⟩
      have c1 := cp (.dK (pk c (a + 1) r))
      have x1 : (upd H p (.dK (pk c (a + 1) r))) p = some (.dK (pk c (a + 1) r)) := upd_same
      refine ⟨_, rfl, _, _, rfl, rfl, .inl ⟨by decide, by decide⟩, _, _, rfl, rfl, ?_⟩
      refine ⟨_, rfl, p, _, rfl, getC x1, (by decide), fun l hl => ?_⟩
      have lp : p ≠ l := ne_of_none x1 hl
      have lc : c ≠ l := ne_of_none c1 hl
      have x2 : (upd (upd H p (.dK (pk c (a + 1) r))) l (.lst [])) p = some (.dK (pk c (a + 1) r)) := by rw [upd_ne lp]; exact x1
      have c2 : (upd (upd H p (.dK (pk c (a + 1) r))) l (.lst [])) c = some (.lst (ns.map V.int)) := by rw [upd_ne lc]; exact c1
      have s2 : SameX p H (upd (upd H p (.dK (pk c (a + 1) r))) l (.lst [])) := (SameX.upd (H' := H) SameX.refl).trans (Same.X (same_new hl))
      have s3 : ∀ x : Int, SameX p H (upd (upd (upd H p (.dK (pk c (a + 1) r))) l (.lst [])) p (.dK (pk c (a + 1) x))) := fun x => SameX.upd s2
      have c3 : ∀ x : Int, (upd (upd (upd H p (.dK (pk c (a + 1) r))) l (.lst [])) p (.dK (pk c (a + 1) x))) c = some (.lst (ns.map V.int)) := fun x => by rw [upd_ne npc.symm]; exact c2
      refine ⟨_, _, dp_ints c2, dp_ints (ns := []) upd_same, shaped_ints ns, shaped_ints [], _, rfl, ?_⟩
      cases ns with
      | nil =>
        refine iteF ?_
        refine ⟨_, rfl, _, rfl, p, _, rfl, getC x2, c, _, rfl, .inl (SqL.of c2), _, _, rfl, rfl, _, rfl, ite2 (fun h1 => ⟨_, rfl, _, rfl, _, _, rfl, rfl, ⟨by decide, by decide, by decide⟩, _, _, rfl, rfl, _, rfl, ite2 (fun h2 => ?b) (fun _ => ?r1)⟩) (fun _ => iteF ?r2)⟩
        case b =>
          refine ⟨_, rfl, _, rfl, _, _, rfl, rfl, ⟨by decide, by decide, by decide⟩, _, _, rfl, rfl, _, rfl, _, _, rfl, rfl, div_ok hm hm2, _, rfl, p, _, rfl, putR x2, _, rfl, _, rfl, _, _, rfl, rfl, ⟨by decide, by decide, by decide⟩, _, _, rfl, rfl, _, rfl, _, _, rfl, rfl, (by omega), ?_⟩
          exact k _ _ (fmod_lo hm) (fmod_hi hm) ⟨⟨a + 1, _, upd_same, by omega, by omega, fdiv_lo hm (by have := of_decide_eq_true h2; omega)⟩, c3 _⟩ (s3 _)
        all_goals
          refine ⟨_, rfl, .inl ⟨_, rfl, _, _, rfl, rfl, (by show (0 : Int) < 4294966927; decide), ?_⟩⟩
          have m1 := fun i : Int => Int.emod_nonneg i (show (4294966927 : Int) ≠ 0 by decide)
          have m2 := fun i : Int => Int.emod_lt_of_pos i (show (0 : Int) < 4294966927 by decide)
          refine ⟨_, _, rfl, rfl, .inl ⟨by have := m1 (61 * a + 23); omega, by have := m2 (61 * a + 23); omega⟩, _, rfl, _, _, rfl, rfl, .inl ⟨by decide, by decide⟩, _, rfl, _, _, rfl, rfl, .inl ⟨by omega, by omega⟩, _, _, rfl, rfl, _, _, rfl, rfl, ?_⟩
          refine .inl ⟨_, rfl, _, _, rfl, rfl, (by show (0 : Int) < 4294966909; decide), ?_⟩
          have w1 := fun i : Int => Int.emod_nonneg i (show (4294966909 : Int) ≠ 0 by decide)
          have w2 := fun i : Int => Int.emod_lt_of_pos i (show (0 : Int) < 4294966909 by decide)
          refine ⟨_, rfl, _, rfl, _, _, rfl, rfl, .inl ⟨Int.lt_of_lt_of_le (by decide) (w1 _), Int.lt_trans (w2 _) (by decide)⟩, _, rfl, _, _, rfl, rfl, .inl ⟨by decide, by decide⟩, _, _, rfl, rfl, _, rfl, _, _, rfl, rfl, .inl ⟨by decide, by decide⟩, _, _, rfl, rfl, _, _, rfl, rfl, ?_⟩
          refine .inl ⟨_, rfl, _, _, rfl, rfl, (by show (0 : Int) < 4294966877; decide), ?_⟩
          have v1 := fun i : Int => Int.emod_nonneg i (show (4294966877 : Int) ≠ 0 by decide)
          have v2 := fun i : Int => Int.emod_lt_of_pos i (show (0 : Int) < 4294966877 by decide)
          refine ⟨_, rfl, _, rfl, _, _, rfl, rfl, _, _, rfl, rfl, .inl ⟨Int.lt_of_lt_of_le (by decide) (v1 _), Int.lt_trans (v2 _) (by decide)⟩, ?_⟩
          refine .inl ⟨_, rfl, _, _, rfl, rfl, (by show (0 : Int) < 4294966813; decide), _, _, rfl, rfl, ⟨by decide, by decide⟩, ?_⟩
          refine .inl ⟨_, rfl, _, rfl, _, _, rfl, rfl, (by omega), ?_⟩
          exact k _ _ (fmod_lo hm) (fmod_hi hm) ⟨⟨a + 1, r, x2, by omega, by omega, hr0⟩, c2⟩ s2
      | cons n0 ns =>
        refine iteT ?_
        obtain ⟨z, hz⟩ := atI_mod (ns := n0 :: ns) (a := a) (by simp)
        refine ⟨_, rfl, p, _, rfl, getC x2, _, rfl, .inl ⟨_, rfl, _, rfl, p, _, rfl, getC x2, c, _, rfl, .inl (SqL.of c2), _, _, rfl, rfl, (by simp; omega), c, _, _, _, rfl, rfl, SqL.of c2, (by rw [List.length_map]; exact hz), ?_⟩⟩
        refine ⟨_, rfl, _, rfl, p, _, rfl, getC x2, c, _, rfl, .inl (SqL.of c2), _, _, rfl, rfl, _, rfl, ite2 (fun h1 => ⟨_, rfl, _, rfl, _, _, rfl, rfl, ⟨by decide, by decide, by decide⟩, _, _, rfl, rfl, _, rfl, ite2 (fun h2 => ?bb) (fun _ => ?rr1)⟩) (fun _ => iteF ?rr2)⟩
        case bb =>
          refine ⟨_, rfl, _, rfl, _, _, rfl, rfl, ⟨by decide, by decide, by decide⟩, _, _, rfl, rfl, _, rfl, _, _, rfl, rfl, div_ok hm hm2, _, rfl, p, _, rfl, putR x2, _, rfl, _, rfl, _, _, rfl, rfl, ⟨by decide, by decide, by decide⟩, _, _, rfl, rfl, _, rfl, _, _, rfl, rfl, (by omega), ?_⟩
          exact k _ _ (fmod_lo hm) (fmod_hi hm) ⟨⟨a + 1, _, upd_same, by omega, by omega, fdiv_lo hm (by have := of_decide_eq_true h2; omega)⟩, c3 _⟩ (s3 _)
        all_goals
          refine ⟨_, rfl, .inl ⟨_, rfl, _, _, rfl, rfl, (by show (0 : Int) < 4294966927; decide), ?_⟩⟩
          have m1 := fun i : Int => Int.emod_nonneg i (show (4294966927 : Int) ≠ 0 by decide)
          have m2 := fun i : Int => Int.emod_lt_of_pos i (show (0 : Int) < 4294966927 by decide)
          refine ⟨_, _, rfl, rfl, .inl ⟨by have := m1 z; omega, by have := m2 z; omega⟩, _, rfl, _, _, rfl, rfl, .inl ⟨by decide, by decide⟩, _, rfl, _, _, rfl, rfl, .inl ⟨by omega, by omega⟩, _, _, rfl, rfl, _, _, rfl, rfl, ?_⟩
          refine .inl ⟨_, rfl, _, _, rfl, rfl, (by show (0 : Int) < 4294966909; decide), ?_⟩
          have w1 := fun i : Int => Int.emod_nonneg i (show (4294966909 : Int) ≠ 0 by decide)
          have w2 := fun i : Int => Int.emod_lt_of_pos i (show (0 : Int) < 4294966909 by decide)
          refine ⟨_, rfl, _, rfl, _, _, rfl, rfl, .inl ⟨Int.lt_of_lt_of_le (by decide) (w1 _), Int.lt_trans (w2 _) (by decide)⟩, _, rfl, _, _, rfl, rfl, .inl ⟨by decide, by decide⟩, _, _, rfl, rfl, _, rfl, _, _, rfl, rfl, .inl ⟨by decide, by decide⟩, _, _, rfl, rfl, _, _, rfl, rfl, ?_⟩
          refine .inl ⟨_, rfl, _, _, rfl, rfl, (by show (0 : Int) < 4294966877; decide), ?_⟩
          have v1 := fun i : Int => Int.emod_nonneg i (show (4294966877 : Int) ≠ 0 by decide)
          have v2 := fun i : Int => Int.emod_lt_of_pos i (show (0 : Int) < 4294966877 by decide)
          refine ⟨_, rfl, _, rfl, _, _, rfl, rfl, _, _, rfl, rfl, .inl ⟨Int.lt_of_lt_of_le (by decide) (v1 _), Int.lt_trans (v2 _) (by decide)⟩, ?_⟩
          refine .inl ⟨_, rfl, _, _, rfl, rfl, (by show (0 : Int) < 4294966813; decide), _, _, rfl, rfl, ⟨by decide, by decide⟩, ?_⟩
          refine .inl ⟨_, rfl, _, rfl, _, _, rfl, rfl, (by omega), ?_⟩
          exact k _ _ (fmod_lo hm) (fmod_hi hm) ⟨⟨a + 1, r, x2, by omega, by omega, hr0⟩, c2⟩ s2
theorem scPick : FnScope ["_law_pen_here", "_law_items"] ["_law_pen_here", "_law_items"] (defScope sPick) := ⟨rfl, rfl, rfl, by decide +kernel, rfl, by decide +kernel, by decide +kernel⟩
theorem ok_pick {f fD : Addr} {fd fdD : FuncData} (F : Fun K "_law_pick" "_law_pick" sPick f fd) (T : TxtP mg) (FD : Fun K "_law_draw" "_law_draw" sDraw fD fdD) (TD : DefT K mg "_law_draw" fD) (bD : Binds K fdD ["_law_pen_here", "_law_many"] []) : FnOk P w K mg base CX0 2 f fd ["_law_pen_here", "_law_items"] (spPick K) := by
  have GD : FnOk P w K mg base CX0 1 fD fdD ["_law_pen_here", "_law_many"] spDraw := ok_draw FD T
  refine F.ok scPick (fun vs H Q E h => ?_) (fun cdv A outer s H vs Q E hr h => ?_)
  · obtain ⟨p, c, ns, b, l, xs, rfl, _⟩ := h
    rfl
  · obtain ⟨p, c, ns, b, l, xs, rfl, Pn, hn, hb, hl, h0, h1, k⟩ := h
    refine ⟨_, (pss_one (ps_ret (pe_ix ix_list (pv 1) (pe_call GD (hr.mono (by decide)) rfl TD.mg TD.kp bD .nil pass0 (pa_cons (pv 0) (pa_cons (pe_callB call_len_seq (by rfl) T.len PySem.boot_len (pa_cons (pv 1) pa_nil)) pa_nil))) (fun _ _ => rfl)))), ?_⟩
    refine ⟨_, rfl, _, rfl, _, rfl, l, xs, rfl, .inl (SqL.of hl), p, c, ns, b, _, rfl, Pn, hn, hb, by omega, by omega, fun r H' r0 r1 P' sx => ?_⟩
    have hp : l ≠ p := by
      obtain ⟨⟨a, r, hp, _⟩, _⟩ := Pn
      exact ne_of hl hp (by intro z; cases z)
    obtain ⟨v, hv, ha⟩ := at_mem r0 r1
    exact ⟨l, xs, r, v, rfl, rfl, SqL.of (sx l _ hp hl), ha, k v H' hv P' sx⟩
end
end Hd

set_option Elab.async false
set_option linter.all false
set_option maxRecDepth 100000
set_option maxHeartbeats 4000000
namespace Hd
open PySem L2 Pen RG Dat KEq
abbrev sNm : Stmt := top 37
abbrev sLeaf : Stmt := top 38
abbrev sE : Stmt := top 39
mutual
/-- no list, no dict -/
def tu : PyData → Bool
  | .list _ => false
  | .dict _ => false
  | .tuple xs => tuAll xs
  | _ => true
def tuAll : List PyData → Bool
  | [] => true
  | x :: xs => tu x && tuAll xs
end
mutual
/-- the longest tuple within -/
def tl : PyData → Nat
  | .tuple xs => max xs.length (tlAll xs)
  | _ => 0
def tlAll : List PyData → Nat
  | [] => 0
  | x :: xs => max (tl x) (tlAll xs)
end
/-- data beside the pen at p, no deeper than n, of tuples alone, none longer than 20 -/
def Dw (K : PySem.W.Frag) (p : Addr) (H : Hp) (n : Nat) (v : V) (d : PyData) : Prop := Rp K (delp p H) v d ∧ sm d = true ∧ d.depth ≤ n ∧ tu d = true ∧ tl d ≤ 20
inductive DwAll (K : PySem.W.Frag) (p : Addr) (H : Hp) (n : Nat) : List V → List PyData → Prop
  | nil : DwAll K p H n [] []
  | cons {v : V} {vs : List V} {d : PyData} {ds : List PyData} : Dw K p H n v d → DwAll K p H n vs ds → DwAll K p H n (v :: vs) (d :: ds)
theorem Dw.same {K : PySem.W.Frag} {p : Addr} {H H' : Hp} {n : Nat} {v : V} {d : PyData} (x : Dw K p H n v d) (s : SameX p H H') : Dw K p H' n v d := ⟨Rp.same (delp_same s) x.1, x.2⟩
theorem Dw.mono {K : PySem.W.Frag} {p : Addr} {H : Hp} {n m : Nat} {v : V} {d : PyData} (x : Dw K p H n v d) (h : n ≤ m) : Dw K p H m v d := ⟨x.1, x.2.1, Nat.le_trans x.2.2.1 h, x.2.2.2⟩
theorem DwAll.all {K : PySem.W.Frag} {p : Addr} {H : Hp} {n : Nat} : ∀ {vs : List V} {ds : List PyData}, DwAll K p H n vs ds → RpAll K (delp p H) vs ds ∧ smAll ds = true ∧ PyData.depthAll ds ≤ n ∧ tuAll ds = true ∧ tlAll ds ≤ 20
  | _, _, .nil => ⟨.nil, rfl, Nat.zero_le _, rfl, Nat.zero_le _⟩
  | _, _, .cons x t => by
    obtain ⟨a, b, c, e, g⟩ := DwAll.all t
    refine ⟨.cons x.1 a, ?_, ?_, ?_, Nat.max_le.mpr ⟨x.2.2.2.2, g⟩⟩
    · show (sm _ && smAll _) = true
      rw [x.2.1, b]
      rfl
    · exact Nat.max_le.mpr ⟨x.2.2.1, c⟩
    · show (tu _ && tuAll _) = true
      rw [x.2.2.2.1, e]
      rfl
theorem DwAll.mem {K : PySem.W.Frag} {p : Addr} {H : Hp} {n : Nat} {v : V} : ∀ {vs : List V} {ds : List PyData}, DwAll K p H n vs ds → v ∈ vs → ∃ d, Dw K p H n v d
  | _, _, .nil, h => by cases h
  | _, _, .cons x t, h => by
    rcases List.mem_cons.mp h with e | h
    · rw [e]
      exact ⟨_, x⟩
    · exact DwAll.mem t h
theorem DwAll.same {K : PySem.W.Frag} {p : Addr} {H H' : Hp} {n : Nat} (s : SameX p H H') : ∀ {vs : List V} {ds : List PyData}, DwAll K p H n vs ds → DwAll K p H' n vs ds
  | _, _, .nil => .nil
  | _, _, .cons x t => .cons (x.same s) (DwAll.same s t)
theorem Dw.int {K : PySem.W.Frag} {p : Addr} {H : Hp} {n : Nat} (i : Int) : Dw K p H n (.int i) (.int i) := ⟨.int i, rfl, Nat.zero_le _, rfl, Nat.zero_le _⟩
theorem Dw.non {K : PySem.W.Frag} {p : Addr} {H : Hp} {n : Nat} : Dw K p H n .non .none := ⟨.non, rfl, Nat.zero_le _, rfl, Nat.zero_le _⟩
theorem Dw.str {K : PySem.W.Frag} {p : Addr} {H : Hp} {n : Nat} (x : Str) (h : x.length ≤ 1000) : Dw K p H n (.str x) (.str x) := ⟨.str x, decide_eq_true h, Nat.zero_le _, rfl, Nat.zero_le _⟩
theorem Dw.tup {K : PySem.W.Frag} {p t : Addr} {H : Hp} {n : Nat} {vs : List V} {ds : List PyData} (x : DwAll K p H n vs ds) (hl : ds.length ≤ 20) (ne : t ≠ p) (e : H t = some (.tup vs)) : Dw K p H (n + 1) (.ref t) (.tuple ds) := by
  obtain ⟨a, b, c, g, j⟩ := x.all
  refine ⟨.tup (SqT.of ((delp_ne ne).trans e)) a, ?_, Nat.succ_le_succ c, g, Nat.max_le.mpr ⟨hl, j⟩⟩
  show (decide (ds.length ≤ 1000) && smAll ds) = true
  rw [b, decide_eq_true (Nat.le_trans hl (by decide))]
  rfl
/-- all but p and q is as it was -/
def SameY (p q : Addr) (H H' : Hp) : Prop := ∀ x o, x ≠ p → x ≠ q → H x = some o → H' x = some o
theorem SameY.refl {p q : Addr} {H : Hp} : SameY p q H H := fun _ _ _ _ h => h
theorem SameX.Y {p q : Addr} {H H' : Hp} (s : SameX p H H') : SameY p q H H' := fun x o n _ h => s x o n h
theorem SameY.trans {p q : Addr} {H H1 H2 : Hp} (a : SameY p q H H1) (b : SameY p q H1 H2) : SameY p q H H2 := fun x o n m h => b x o n m (a x o n m h)
theorem SameY.upd {p q : Addr} {H : Hp} {o : HO} : SameY p q H (upd H q o) := fun x u _ m h => by
  rw [upd_ne m]
  exact h
/-- no tuple -/
def NoT (o : HO) : Prop := (∀ xs, o ≠ .tup xs) ∧ ∀ f xs, o ≠ .frz f (.tup xs)
theorem noT_dK {kvs : List (Key × V)} : NoT (.dK kvs) := ⟨(fun _ z => nomatch z), (fun _ _ z => nomatch z)⟩
theorem noT_lst {xs : List V} : NoT (.lst xs) := ⟨(fun _ z => nomatch z), (fun _ _ z => nomatch z)⟩
theorem sqT_off {K : PySem.W.Frag} {p q a : Addr} {H : Hp} {oq : HO} {xs : List V} (nt : NoT oq) (hq : H q = some oq) (h : SqT K (delp p H) a xs) : SqT K (delp q (delp p H)) a xs := by
  have ne : ∀ o, delp p H a = some o → oq ≠ o → a ≠ q := by
    intro o e n z
    rw [z] at e
    have := delp_le q o e
    rw [hq] at this
    exact n (Option.some.inj this)
  rcases h with (h | ⟨o, h⟩) | h
  · exact .inl (.inl ((delp_ne (ne _ h (nt.1 _))).trans h))
  · exact .inl (.inr ⟨o, (delp_ne (ne _ h (nt.2 _ _))).trans h⟩)
  · exact .inr h
mutual
theorem rp_off {K : PySem.W.Frag} {p q : Addr} {H : Hp} {oq : HO} (nt : NoT oq) (hq : H q = some oq) : ∀ {d : PyData} {v : V}, tu d = true → Rp K (delp p H) v d → Rp K (delp q (delp p H)) v d
  | .none, _, _, .non => .non
  | .bool _, _, _, .bl b => .bl b
  | .int _, _, _, .int i => .int i
  | .str _, _, _, .str x => .str x
  | .list _, _, h, _ => by cases h
  | .tuple ds, _, h, .tup a r => .tup (sqT_off nt hq a) (rp_offAll nt hq (show tuAll ds = true from h) r)
  | .dict _, _, h, _ => by cases h
theorem rp_offAll {K : PySem.W.Frag} {p q : Addr} {H : Hp} {oq : HO} (nt : NoT oq) (hq : H q = some oq) : ∀ {ds : List PyData} {vs : List V}, tuAll ds = true → RpAll K (delp p H) vs ds → RpAll K (delp q (delp p H)) vs ds
  | [], _, _, .nil => .nil
  | d :: ds, _, h, .cons a r => by
    have z : (tu d && tuAll ds) = true := h
    rw [Bool.and_eq_true] at z
    exact .cons (rp_off nt hq z.1 a) (rp_offAll nt hq z.2 r)
end
theorem Dw.put {K : PySem.W.Frag} {p q : Addr} {H H' : Hp} {n : Nat} {v : V} {d : PyData} {oq : HO} (x : Dw K p H n v d) (nt : NoT oq) (hq : H q = some oq) (s : SameY p q H H') : Dw K p H' n v d := by
  have a := rp_off nt hq x.2.2.2.1 x.1
  have b : Same (delp q (delp p H)) (delp p H') := by
    intro c o h
    have n1 : c ≠ q := fun z => by
      rw [z] at h
      have h' : (if q = q then none else delp p H q) = some o := h
      rw [if_pos rfl] at h'
      cases h'
    rw [delp_ne n1] at h
    have n2 : c ≠ p := fun z => by
      rw [z] at h
      have h' : (if p = p then none else H p) = some o := h
      rw [if_pos rfl] at h'
      cases h'
    rw [delp_ne n2] at h ⊢
    exact s c o n2 n1 h
  exact ⟨Rp.same b a, x.2⟩
theorem DwAll.put {K : PySem.W.Frag} {p q : Addr} {H H' : Hp} {n : Nat} {oq : HO} (nt : NoT oq) (hq : H q = some oq) (s : SameY p q H H') : ∀ {vs : List V} {ds : List PyData}, DwAll K p H n vs ds → DwAll K p H' n vs ds
  | _, _, .nil => .nil
  | _, _, .cons x t => .cons (x.put nt hq s) (DwAll.put nt hq s t)
theorem DwAll.len {K : PySem.W.Frag} {p : Addr} {H : Hp} {n : Nat} : ∀ {vs : List V} {ds : List PyData}, DwAll K p H n vs ds → vs.length = ds.length
  | _, _, .nil => rfl
  | _, _, .cons _ t => congrArg (· + 1) (DwAll.len t)
theorem DwAll.app {K : PySem.W.Frag} {p : Addr} {H : Hp} {n : Nat} : ∀ {vs ws : List V} {ds es : List PyData}, DwAll K p H n vs ds → DwAll K p H n ws es → DwAll K p H n (vs ++ ws) (ds ++ es)
  | _, _, _, _, .nil, r => r
  | _, _, _, _, .cons x t, r => .cons x (DwAll.app t r)
theorem PenAt.at {H : Hp} {p c : Addr} {ns : List Int} {b : Nat} (P : PenAt H p c ns b) : ∃ o, H p = some o := by
  obtain ⟨⟨a, r, hp, _⟩, _⟩ := P
  exact ⟨_, hp⟩
theorem PenAt.off {H : Hp} {p c t : Addr} {ns : List Int} {b : Nat} (P : PenAt H p c ns b) (h : H t = none) : t ≠ p := by
  obtain ⟨o, e⟩ := PenAt.at P
  exact (ne_of_none e h).symm
theorem lst_off {H : Hp} {p c l : Addr} {ns : List Int} {b : Nat} {xs : List V} (P : PenAt H p c ns b) (h : H l = some (.lst xs)) : l ≠ p := by
  obtain ⟨⟨a, r, hp, _⟩, _⟩ := P
  exact ne_of h hp (by intro z; cases z)
theorem word_len {z : Str} (h : isWord (.str z) = true) : z.length ≤ 6 := by
  have a : (decide (1 ≤ z.length) && decide (z.length ≤ 6) && z.cps.toList.all fun c => decide (c ∈ abc.cps.toList)) = true := h
  rw [Bool.and_eq_true, Bool.and_eq_true, decide_eq_true_eq, decide_eq_true_eq] at a
  exact a.1.2
/-- an expression, at most n deep -/
def gE (n : Nat) (d : PyData) : Prop := ∀ j, n ≤ j → 1 ≤ j → isE j d = true
theorem gE.mono {n m : Nat} {d : PyData} (g : gE n d) (h : n ≤ m) : gE m d := fun j a b => g j (Nat.le_trans h a) b
theorem gE.val {i : Int} (h0 : -99 ≤ i) (h1 : i ≤ 99) : gE 1 (.tuple [.str tV, .int i]) := fun j _ h => by
  obtain ⟨k, rfl⟩ : ∃ k, j = k + 1 := ⟨j - 1, by omega⟩
  have e : isS (.str tV) tV = true := by decide +kernel
  have v : isVal (.int i) = true := by
    show (decide (-99 ≤ i) && decide (i ≤ 99)) = true
    rw [decide_eq_true h0, decide_eq_true h1]
    rfl
  show (if isS (.str tV) tV = true then isVal (.int i) else _) = true
  rw [if_pos e, v]
theorem gE.body : gE 1 (.tuple [.str tB']) := fun j _ h => by
  obtain ⟨k, rfl⟩ : ∃ k, j = k + 1 := ⟨j - 1, by omega⟩
  have e : ¬ isS (.str tB') tV = true := by decide +kernel
  have e2 : isS (.str tB') tB' = true := by decide +kernel
  show (if isS (.str tB') tV = true then _ else if isS (.str tB') tB' = true then true else _) = true
  rw [if_neg e, if_pos e2]
theorem gE.row {z : Str} (w : isWord (.str z) = true) : gE 1 (.tuple [.str tR, .str z]) := fun j _ h => by
  obtain ⟨k, rfl⟩ : ∃ k, j = k + 1 := ⟨j - 1, by omega⟩
  have e : ¬ isS (.str tR) tV = true := by decide +kernel
  have e2 : ¬ isS (.str tR) tB' = true := by decide +kernel
  have e3 : isS (.str tR) tR = true := by decide +kernel
  show (if isS (.str tR) tV = true then _ else if isS (.str tR) tB' = true then _ else if isS (.str tR) tR = true then isWord (.str z) else _) = true
  rw [if_neg e, if_neg e2, if_pos e3, w]
theorem gE.op {n : Nat} {z : Str} {a b : PyData} (hz : z ∈ ops) (ga : gE n a) (gb : gE n b) (h1 : 1 ≤ n) : gE (n + 1) (.tuple [.str z, a, b]) := fun j h _ => by
  obtain ⟨k, rfl⟩ : ∃ k, j = k + 1 := ⟨j - 1, by omega⟩
  have q : (¬ isS (.str z) tV = true) ∧ (¬ isS (.str z) tB' = true) ∧ (¬ isS (.str z) tR = true) ∧ (ops.any fun y => isS (.str z) y) = true := by
    simp only [ops, List.mem_cons, List.not_mem_nil, or_false] at hz
    rcases hz with e | e | e <;> subst e <;> decide +kernel
  show (if isS (.str z) tV = true then _ else if isS (.str z) tB' = true then _ else if isS (.str z) tR = true then _ else if (ops.any fun y => isS (.str z) y) = true then isE k a && isE k b else false) = true
  rw [if_neg q.1, if_neg q.2.1, if_neg q.2.2.1, if_pos q.2.2.2, ga k (by omega) (by omega), gb k (by omega) (by omega)]
  rfl
/-- names: a list of words -/
def Names (H : Hp) (l : Addr) : Prop := ∃ zs : List Str, H l = some (.lst (zs.map V.str)) ∧ 0 < zs.length ∧ zs.length ≤ 10 ∧ ∀ z ∈ zs, isWord (.str z) = true
theorem Names.same {H H' : Hp} {p c l : Addr} {ns : List Int} {b : Nat} (P : PenAt H p c ns b) (x : Names H l) (s : SameX p H H') : Names H' l := by
  obtain ⟨zs, e, q⟩ := x
  exact ⟨zs, s _ _ (lst_off P e) e, q⟩
def spNm : Sp := fun vs H Q _ => ∃ (p c : Addr) (ns : List Int) (b : Nat), vs = [.ref p] ∧ PenAt H p c ns b ∧ ns.length ≤ 63 ∧ b < 2 ^ 39 ∧ ∀ (i : Int) (H' : Hp), (-99 ≤ i ∧ i ≤ 99) → PenAt H' p c ns (b + 3) → SameX p H H' → Q (.int i) H'
def spLeaf (K : PySem.W.Frag) : Sp := fun vs H Q _ => ∃ (p c : Addr) (ns : List Int) (b : Nat) (l : Addr), vs = [.ref p, .ref l] ∧ PenAt H p c ns b ∧ ns.length ≤ 63 ∧ b < 2 ^ 39 ∧ Names H l ∧
  ∀ (v : V) (d : PyData) (H' : Hp), Dw K p H' 1 v d → gE 1 d → PenAt H' p c ns (b + 5) → SameX p H H' → Q v H'
def spE (K : PySem.W.Frag) (m : Nat) : Sp := fun vs H Q _ => ∃ (p c : Addr) (ns : List Int) (b : Nat) (l : Addr) (n : Nat), vs = [.ref p, .ref l, .int n] ∧ n < m ∧ n ≤ 4 ∧ 1 ≤ n ∧ PenAt H p c ns b ∧ ns.length ≤ 63 ∧ b + 10 * 3 ^ n ≤ 2 ^ 38 ∧ Names H l ∧
  ∀ (v : V) (d : PyData) (H' : Hp), Dw K p H' (n + 1) v d → gE n d → PenAt H' p c ns (b + 10 * 3 ^ n) → SameX p H H' → Q v H'
section
variable {P : Program} {w : World} {K : PySem.W.Frag} {mg : Str → Option Value} {base : Heap}
theorem scNm : FnScope ["_law_pen_here", "_law_small"] ["_law_pen_here"] (defScope sNm) := ⟨rfl, rfl, rfl, by decide +kernel, rfl, by decide +kernel, by decide +kernel⟩
theorem ok_nm {f fD fP : Addr} {fd fdD fdP : FuncData} (F : Fun K "_law_number" "_law_number" sNm f fd)
    (GDraw : FnOk P w K mg base CX0 1 fD fdD ["_law_pen_here", "_law_many"] spDraw) (TDraw : DefT K mg "_law_draw" fD) (bDraw : Binds K fdD ["_law_pen_here", "_law_many"] [])
    (GPick : FnOk P w K mg base CX0 2 fP fdP ["_law_pen_here", "_law_items"] (spPick K)) (TPick : DefT K mg "_law_pick" fP) (bPick : Binds K fdP ["_law_pen_here", "_law_items"] []) : FnOk P w K mg base CX0 3 f fd ["_law_pen_here"] spNm := by
  refine F.ok scNm (fun vs H Q E h => ?_) (fun cdv A outer s H vs Q E hr h => ?_)
  · obtain ⟨p, c, ns, b, rfl, _⟩ := h
    rfl
  · obtain ⟨p, c, ns, b, rfl, P0, hn, hb, k⟩ := h
    refine ⟨_, (pss_cons (ps_set (i := 1) scNm.nd rfl (Or.inl rfl) (pe_op op_sub (pe_call GDraw (hr.mono (by decide)) rfl TDraw.mg TDraw.kp bDraw .nil pass0 (pa_cons (pv 0) (pa_cons pe_int pa_nil))) pe_int))
      (pss_one (ps_ret (pe_call GPick (hr.mono (by decide)) rfl TPick.mg TPick.kp bPick .nil pass0 (pa_cons (pv 0) (pa_cons (Ab.pe_lstA (pa_cons (pv 1) (pa_cons (pv 1) (pa_cons (pv 1) (pa_cons pe_int (pa_cons (pe_un un_neg pe_int) (pa_cons pe_int (pa_cons (pe_op op_sub (pe_call GDraw (hr.mono (by decide)) rfl TDraw.mg TDraw.kp bDraw .nil pass0 (pa_cons (pv 0) (pa_cons pe_int pa_nil))) pe_int) pa_nil)))))))) pa_nil)))))), ?_⟩
    refine ⟨_, rfl, p, c, ns, b, 9, rfl, P0, hn, by omega, by decide, by decide, fun r1 H1 a1 b1 P1 x1 => ⟨_, _, rfl, rfl, ?_⟩⟩
    refine ⟨_, rfl, _, rfl, _, rfl, _, rfl, _, rfl, _, rfl, p, c, ns, _, 199, rfl, P1, hn, by omega, by decide, by decide, fun r2 H2 a2 b2 P2 x2 => ⟨_, _, rfl, rfl, sz (by simp), fun l Hl fl nl sl el => ?_⟩⟩
    refine ⟨p, c, ns, _, l, _, rfl, P2.same sl, hn, by omega, el, by simp, by simp, fun v H' hv P3 x3 => ?_⟩
    have iv : ∃ i, v = .int i ∧ -99 ≤ i ∧ i ≤ 99 := by
      simp only [List.mem_cons, List.not_mem_nil, or_false] at hv
      rcases hv with e | e | e | e | e | e | e <;> exact ⟨_, e, by omega, by omega⟩
    obtain ⟨i, rfl, i0, i1⟩ := iv
    exact k i H' ⟨i0, i1⟩ P3 (((x1.trans x2).trans (Same.X sl)).trans x3)
theorem scLeaf : FnScope ["_law_pen_here", "_law_names"] ["_law_pen_here", "_law_names"] (defScope sLeaf) := ⟨rfl, rfl, rfl, by decide +kernel, rfl, by decide +kernel, by decide +kernel⟩
theorem ok_leaf {f fN fP : Addr} {fd fdN fdP : FuncData} (F : Fun K "_law_leaf" "_law_leaf" sLeaf f fd)
    (GNm : FnOk P w K mg base CX0 3 fN fdN ["_law_pen_here"] spNm) (TNm : DefT K mg "_law_number" fN) (bNm : Binds K fdN ["_law_pen_here"] [])
    (GPick : FnOk P w K mg base CX0 2 fP fdP ["_law_pen_here", "_law_items"] (spPick K)) (TPick : DefT K mg "_law_pick" fP) (bPick : Binds K fdP ["_law_pen_here", "_law_items"] []) : FnOk P w K mg base CX0 4 f fd ["_law_pen_here", "_law_names"] (spLeaf K) := by
  refine F.ok scLeaf (fun vs H Q E h => ?_) (fun cdv A outer s H vs Q E hr h => ?_)
  · obtain ⟨p, c, ns, b, l, rfl, _⟩ := h
    rfl
  · obtain ⟨p, c, ns, b, nl, rfl, P0, hn, hb, N0, k⟩ := h
    refine ⟨_, (pss_one (ps_ret (pe_call GPick (hr.mono (by decide)) rfl TPick.mg TPick.kp bPick .nil pass0 (pa_cons (pv 0) (pa_cons (Ab.pe_lstA (pa_cons (Ab.pe_tupA (pa_cons pe_str (pa_cons (pe_call GNm (hr.mono (by decide)) rfl TNm.mg TNm.kp bNm .nil pass0 (pa_cons (pv 0) pa_nil)) pa_nil))) (pa_cons (Ab.pe_tupA (pa_cons pe_str pa_nil)) (pa_cons (Ab.pe_tupA (pa_cons pe_str (pa_cons (pe_call GPick (hr.mono (by decide)) rfl TPick.mg TPick.kp bPick .nil pass0 (pa_cons (pv 0) (pa_cons (pv 1) pa_nil))) pa_nil))) pa_nil)))) pa_nil))))), ?_⟩
    refine ⟨_, rfl, _, rfl, p, c, ns, b, rfl, P0, hn, hb, fun i H1 ib P1 x1 => ⟨sz (by simp), fun t1 G1 f1 s1 e1 => ?_⟩⟩
    refine ⟨sz (by simp), fun t2 G2 f2 s2 e2 => ?_⟩
    have Pa := (P1.same s1).same s2
    have xa := (x1.trans (Same.X s1)).trans (Same.X s2)
    obtain ⟨zs, ez, z0, z10, zl⟩ := N0.same P0 xa
    refine ⟨_, rfl, _, rfl, p, c, ns, _, nl, _, rfl, Pa, hn, by omega, ez, by simpa using z0, by simp; omega, fun u H2 hu P2 x2 => ?_⟩
    obtain ⟨z, hz, rfl⟩ := List.mem_map.mp hu
    refine ⟨sz (by simp), fun t3 G3 f3 s3 e3 => ⟨sz (by simp), fun l Gl fl nl' sl el => ?_⟩⟩
    have o1 := PenAt.off P1 f1
    have o2 := PenAt.off (P1.same s1) f2
    have o3 := PenAt.off P2 f3
    have y3 : SameX p G3 Gl := Same.X sl
    have y2 : SameX p G2 Gl := x2.trans ((Same.X s3).trans y3)
    have y1 : SameX p G1 Gl := (Same.X s2).trans y2
    refine ⟨p, c, ns, _, l, _, rfl, (P2.same s3).same sl, hn, by omega, el, by simp, by simp, fun v H' hv P3 x3 => ?_⟩
    have all : DwAll K p H' 1 [V.ref t1, .ref t2, .ref t3] [.tuple [.str tV, .int i], .tuple [.str tB'], .tuple [.str tR, .str z]] :=
      .cons (.tup (.cons (.str _ (by decide)) (.cons (.int i) .nil)) (by simp) o1 ((y1.trans x3) _ _ o1 e1)) (.cons (.tup (.cons (.str _ (by decide)) .nil) (by simp) o2 ((y2.trans x3) _ _ o2 e2)) (.cons (.tup (.cons (.str _ (by decide)) (.cons (.str _ (Nat.le_trans (word_len (zl z hz)) (by decide))) .nil)) (by simp) o3 ((y3.trans x3) _ _ o3 e3)) .nil))
    have xz : SameX p H H' := ((xa.trans x2).trans ((Same.X s3).trans y3)).trans x3
    cases all with
    | cons w1 all =>
      cases all with
      | cons w2 all =>
        cases all with
        | cons w3 _ =>
          simp only [List.mem_cons, List.not_mem_nil, or_false] at hv
          rcases hv with e | e | e <;> subst e
          · exact k _ _ H' w1 (.val ib.1 ib.2) P3 xz
          · exact k _ _ H' w2 .body P3 xz
          · exact k _ _ H' w3 (.row (zl z hz)) P3 xz
theorem scE : FnScope ["_law_pen_here", "_law_names", "_law_deep"] ["_law_pen_here", "_law_names", "_law_deep"] (defScope sE) := ⟨rfl, rfl, rfl, by decide +kernel, rfl, by decide +kernel, by decide +kernel⟩
theorem ok_e {f fD fL fP : Addr} {fd fdD fdL fdP : FuncData} (F : Fun K "_law_e" "_law_e" sE f fd) (TE : DefT K mg "_law_e" f) (bE : Binds K fd ["_law_pen_here", "_law_names", "_law_deep"] [])
    (GDraw : FnOk P w K mg base CX0 1 fD fdD ["_law_pen_here", "_law_many"] spDraw) (TDraw : DefT K mg "_law_draw" fD) (bDraw : Binds K fdD ["_law_pen_here", "_law_many"] [])
    (GPick : FnOk P w K mg base CX0 2 fP fdP ["_law_pen_here", "_law_items"] (spPick K)) (TPick : DefT K mg "_law_pick" fP) (bPick : Binds K fdP ["_law_pen_here", "_law_items"] [])
    (GLeaf : FnOk P w K mg base CX0 4 fL fdL ["_law_pen_here", "_law_names"] (spLeaf K)) (TLeaf : DefT K mg "_law_leaf" fL) (bLeaf : Binds K fdL ["_law_pen_here", "_law_names"] []) : ∀ m, FnOk P w K mg base CX0 (m + 5) f fd ["_law_pen_here", "_law_names", "_law_deep"] (spE K m)
  | 0 => by
    refine F.ok scE (fun vs H Q E h => ?_) (fun cdv A outer s H vs Q E hr h => ?_)
    · obtain ⟨p, c, ns, b, l, n, rfl, _⟩ := h
      rfl
    · obtain ⟨p, c, ns, b, l, n, rfl, lt, _⟩ := h
      exact absurd lt (Nat.not_lt_zero _)
  | m + 1 => by
    have GE := ok_e F TE bE GDraw TDraw bDraw GPick TPick bPick GLeaf TLeaf bLeaf m
    refine F.ok scE (fun vs H Q E h => ?_) (fun cdv A outer s H vs Q E hr h => ?_)
    · obtain ⟨p, c, ns, b, l, n, rfl, _⟩ := h
      rfl
    · obtain ⟨p, c, ns, b, l, n, rfl, lt, n4, n0, P0, hn, hb, N0, k⟩ := h
      have three : 1 ≤ 3 ^ n := Nat.one_le_pow _ _ (by decide)
      have n1 : 1 ≤ n := n0
      have leaf : ∀ b1 H1, 1 ≤ n → b ≤ b1 → b1 ≤ b + 1 → PenAt H1 p c ns b1 → SameX p H H1 → spLeaf K [.ref p, .ref l] H1 Q E0 := by
        intro b1 H1 n1 l1 l2 P1 x1
        refine ⟨p, c, ns, b1, l, rfl, P1, hn, by omega, N0.same P0 x1, fun v d H' dw g P2 x2 => ?_⟩
        exact k v d H' (dw.mono (by omega)) (g.mono n1) (P2.mono (by omega)) (x1.trans x2)
      refine ⟨_, (pss_cons (ps_if (PW.pt (pw_or (pt_cmpR op_lt (pv 2) pe_int (nomark _)) (pw_or1 (pt_cmpR op_eq (pe_call GDraw (hr.mono (by omega)) rfl TDraw.mg TDraw.kp bDraw .nil pass0 (pa_cons (pv 0) (pa_cons pe_int pa_nil))) pe_int (nomark _))))) (pss_one (ps_ret (pe_call GLeaf (hr.mono (by omega)) rfl TLeaf.mg TLeaf.kp bLeaf .nil pass0 (pa_cons (pv 0) (pa_cons (pv 1) pa_nil))))) pss_nil)
      (pss_one (ps_ret (Ab.pe_tupA (pa_cons (pe_call GPick (hr.mono (by omega)) rfl TPick.mg TPick.kp bPick .nil pass0 (pa_cons (pv 0) (pa_cons (Ab.pe_lstA (pa_cons pe_str (pa_cons pe_str (pa_cons pe_str pa_nil)))) pa_nil))) (pa_cons (pe_call GE (hr.mono (by omega)) rfl TE.mg TE.kp bE .nil pass0 (pa_cons (pv 0) (pa_cons (pv 1) (pa_cons (pe_op op_sub (pv 2) pe_int) pa_nil)))) (pa_cons (pe_call GE (hr.mono (by omega)) rfl TE.mg TE.kp bE .nil pass0 (pa_cons (pv 0) (pa_cons (pv 1) (pa_cons (pe_op op_sub (pv 2) pe_int) pa_nil)))) pa_nil))))))), ?_⟩
      refine ⟨_, rfl, _, _, rfl, rfl, _, rfl, ite2 (fun h1 => ?_) (fun h1 => ?_)⟩
      · exact iteT ⟨_, rfl, _, rfl, leaf b H n1 (Nat.le_refl _) (by omega) P0 .refl⟩
      refine ⟨_, rfl, p, c, ns, b, 3, rfl, P0, hn, by omega, by decide, by decide, fun r1 H1 _ _ P1 x1 => ⟨rfl, _, rfl, ite2 (fun h2 => ?_) (fun h2 => ?_)⟩⟩
      · exact ⟨_, rfl, _, rfl, leaf (b + 1) H1 n1 (by omega) (Nat.le_refl _) P1 x1⟩
      obtain ⟨n, rfl⟩ : ∃ j, n = j + 1 := ⟨n - 1, by
        have : ¬ (n : Int) < 2 := fun z => h1 (decide_eq_true z)
        omega⟩
      have hp3 : 3 ^ n ≤ 81 := Nat.le_trans (Nat.pow_le_pow_right (by decide) (show n ≤ 4 by omega)) (by decide)
      have hp4 : 3 ^ (n + 1) = 3 * 3 ^ n := by rw [Nat.pow_succ, Nat.mul_comm]
      have one1 : 1 ≤ 3 ^ n := Nat.one_le_pow _ _ (by decide)
      refine ⟨_, rfl, sz (by simp), fun lo Ho fo no so eo => ?_⟩
      refine ⟨p, c, ns, _, lo, _, rfl, P1.same so, hn, by omega, eo, by simp, by simp, fun u H2 hu P2 x2 => ?_⟩
      have us : ∃ z : Str, u = .str z ∧ z.length ≤ 1000 ∧ z ∈ ops := by
        simp only [List.mem_cons, List.not_mem_nil, or_false] at hu
        rcases hu with e | e | e <;> exact ⟨_, e, by decide, by decide +kernel⟩
      obtain ⟨z, rfl, zl, zo⟩ := us
      have nn1 : 1 ≤ n := by
        have : ¬ ((n : Nat) + 1 : Int) < 2 := fun z => h1 (decide_eq_true (by simpa using z))
        omega
      have xa := (x1.trans (Same.X so)).trans x2
      refine ⟨_, rfl, _, rfl, _, rfl, _, _, rfl, rfl, p, c, ns, _, l, n, by simp, by omega, by omega, nn1, P2, hn, by omega, N0.same P0 xa, fun v1 d1 H3 w1 g1 P3 x3 => ?_⟩
      refine ⟨_, rfl, _, rfl, _, rfl, _, _, rfl, rfl, p, c, ns, _, l, n, by simp, by omega, by omega, nn1, P3, hn, by omega, N0.same P0 (xa.trans x3), fun v2 d2 H4 w2 g2 P4 x4 => ?_⟩
      refine ⟨sz (by simp), fun t Ht ft st et => ?_⟩
      have ot := PenAt.off P4 ft
      have D : Dw K p Ht (n + 1 + 1) (.ref t) (.tuple [.str z, d1, d2]) := .tup (.cons (.str z zl) (.cons ((w1.same x4).same (Same.X st)) (.cons (w2.same (Same.X st)) .nil))) (by simp) ot et
      exact k _ _ Ht D (.op zo g1 g2 nn1) ((P4.same st).mono (by rw [hp4]; omega)) (((xa.trans x3).trans x4).trans (Same.X st))
end
end Hd

set_option Elab.async false
set_option linter.all false
set_option maxRecDepth 100000
set_option maxHeartbeats 4000000
namespace Hd
open PySem L2 Pen RG Dat KEq
abbrev sC : Stmt := top 40
/-- a condition, at most n deep -/
def gC (n : Nat) (d : PyData) : Prop := ∀ j, n ≤ j → 1 ≤ j → isC j d = true
theorem gC.mono {n m : Nat} {d : PyData} (g : gC n d) (h : n ≤ m) : gC m d := fun j a b => g j (Nat.le_trans h a) b
theorem gC.cmp {z : Str} {a b : PyData} (hz : z = "<" ∨ z = "=") (ga : gE 3 a) (gb : gE 2 b) : gC 1 (.tuple [.str z, a, b]) := fun j h _ => by
  obtain ⟨k, rfl⟩ : ∃ k, j = k + 1 := ⟨j - 1, by omega⟩
  have q : ((["<", "="] : List Str).any fun y => isS (.str z) y) = true := by rcases hz with e | e <;> subst e <;> decide +kernel
  show (if ((["<", "="] : List Str).any fun y => isS (.str z) y) = true then isE 6 a && isE 6 b else _) = true
  rw [if_pos q, ga 6 (by decide) (by decide), gb 6 (by decide) (by decide)]
  rfl
theorem gC.not {n : Nat} {a : PyData} (ga : gC n a) (h1 : 1 ≤ n) : gC (n + 1) (.tuple [.str "not", a]) := fun j h _ => by
  obtain ⟨k, rfl⟩ : ∃ k, j = k + 1 := ⟨j - 1, by omega⟩
  have q : ¬ ((["<", "="] : List Str).any fun y => isS (.str "not") y) = true := by decide +kernel
  have q2 : isS (.str "not") "not" = true := by decide +kernel
  show (if ((["<", "="] : List Str).any fun y => isS (.str "not") y) = true then _ else if isS (.str "not") "not" = true then isC k a else _) = true
  rw [if_neg q, if_pos q2, ga k (by omega) (by omega)]
theorem gC.op {n : Nat} {z : Str} {a b : PyData} (hz : z = "and" ∨ z = "or") (ga : gC n a) (gb : gC n b) (h1 : 1 ≤ n) : gC (n + 1) (.tuple [.str z, a, b]) := fun j h _ => by
  obtain ⟨k, rfl⟩ : ∃ k, j = k + 1 := ⟨j - 1, by omega⟩
  have q : (¬ ((["<", "="] : List Str).any fun y => isS (.str z) y) = true) ∧ (¬ isS (.str z) "not" = true) ∧ ((["and", "or"] : List Str).any fun y => isS (.str z) y) = true := by rcases hz with e | e <;> subst e <;> decide +kernel
  show (if ((["<", "="] : List Str).any fun y => isS (.str z) y) = true then _ else if isS (.str z) "not" = true then _ else if ((["and", "or"] : List Str).any fun y => isS (.str z) y) = true then isC k a && isC k b else false) = true
  rw [if_neg q.1, if_neg q.2.1, if_pos q.2.2, ga k (by omega) (by omega), gb k (by omega) (by omega)]
  rfl
def spC (K : PySem.W.Frag) (m : Nat) : Sp := fun vs H Q _ => ∃ (p c : Addr) (ns : List Int) (b : Nat) (l : Addr) (n : Nat), vs = [.ref p, .ref l, .int n] ∧ n < m ∧ n ≤ 4 ∧ 1 ≤ n ∧ PenAt H p c ns b ∧ ns.length ≤ 63 ∧ b + 400 * 3 ^ n ≤ 2 ^ 37 ∧ Names H l ∧
  ∀ (v : V) (d : PyData) (H' : Hp), Dw K p H' (n + 5) v d → gC n d → PenAt H' p c ns (b + 400 * 3 ^ n) → SameX p H H' → Q v H'
theorem text_of {zs : List Str} {v : V} (h : v ∈ zs.map V.str) : ∃ z, z ∈ zs ∧ v = .str z := by
  obtain ⟨z, a, b⟩ := List.mem_map.mp h
  exact ⟨z, a, b.symm⟩
section
variable {P : Program} {w : World} {K : PySem.W.Frag} {mg : Str → Option Value} {base : Heap}
theorem scC : FnScope ["_law_pen_here", "_law_names", "_law_deep", "_law_way"] ["_law_pen_here", "_law_names", "_law_deep"] (defScope sC) := ⟨rfl, rfl, rfl, by decide +kernel, rfl, by decide +kernel, by decide +kernel⟩
theorem ok_c {f fD fE : Addr} {fd fdD fdE : FuncData} (F : Fun K "_law_c" "_law_c" sC f fd) (TC : DefT K mg "_law_c" f) (bC : Binds K fd ["_law_pen_here", "_law_names", "_law_deep"] [])
    (GDraw : FnOk P w K mg base CX0 1 fD fdD ["_law_pen_here", "_law_many"] spDraw) (TDraw : DefT K mg "_law_draw" fD) (bDraw : Binds K fdD ["_law_pen_here", "_law_many"] [])
    (GE : FnOk P w K mg base CX0 10 fE fdE ["_law_pen_here", "_law_names", "_law_deep"] (spE K 5)) (TE : DefT K mg "_law_e" fE) (bE : Binds K fdE ["_law_pen_here", "_law_names", "_law_deep"] []) : ∀ m, FnOk P w K mg base CX0 (m + 11) f fd ["_law_pen_here", "_law_names", "_law_deep"] (spC K m)
  | 0 => by
    refine F.ok scC (fun vs H Q E h => ?_) (fun cdv A outer s H vs Q E hr h => ?_)
    · obtain ⟨p, c, ns, b, l, n, rfl, _⟩ := h
      rfl
    · obtain ⟨p, c, ns, b, l, n, rfl, lt, _⟩ := h
      exact absurd lt (Nat.not_lt_zero _)
  | m + 1 => by
    have GC := ok_c F TC bC GDraw TDraw bDraw GE TE bE m
    refine F.ok scC (fun vs H Q E h => ?_) (fun cdv A outer s H vs Q E hr h => ?_)
    · obtain ⟨p, c, ns, b, l, n, rfl, _⟩ := h
      rfl
    · obtain ⟨p, c, ns, b, l, n, rfl, lt, n4, n0, P0, hn, hb, N0, k⟩ := h
      have three : 1 ≤ 3 ^ n := Nat.one_le_pow _ _ (by decide)
      refine ⟨_, (pss_cons (ps_set (i := 3) scC.nd rfl (Or.inl rfl) (pe_ifExp (pt_cmpR op_gt (pv 2) pe_int (nomark _)) (pe_call GDraw (hr.mono (by omega)) rfl TDraw.mg TDraw.kp bDraw .nil pass0 (pa_cons (pv 0) (pa_cons pe_int pa_nil))) (pe_call GDraw (hr.mono (by omega)) rfl TDraw.mg TDraw.kp bDraw .nil pass0 (pa_cons (pv 0) (pa_cons pe_int pa_nil)))))
      (pss_cons (ps_if (pt_cmpR op_lt (pv 3) pe_int (nomark _)) (pss_one (ps_ret (Ab.pe_tupA (pa_cons (pe_ix ix_list (Ab.pe_lstA (pa_cons pe_str (pa_cons pe_str (pa_cons pe_str pa_nil)))) (pv 3) (fun _ _ => rfl)) (pa_cons (pe_call GE (hr.mono (by omega)) rfl TE.mg TE.kp bE .nil pass0 (pa_cons (pv 0) (pa_cons (pv 1) (pa_cons pe_int pa_nil)))) (pa_cons (pe_call GE (hr.mono (by omega)) rfl TE.mg TE.kp bE .nil pass0 (pa_cons (pv 0) (pa_cons (pv 1) (pa_cons pe_int pa_nil)))) pa_nil)))))) pss_nil)
      (pss_cons (ps_if (pt_cmpR op_eq (pv 3) pe_int (nomark _)) (pss_one (ps_ret (Ab.pe_tupA (pa_cons pe_str (pa_cons (pe_call GC (hr.mono (by omega)) rfl TC.mg TC.kp bC .nil pass0 (pa_cons (pv 0) (pa_cons (pv 1) (pa_cons (pe_op op_sub (pv 2) pe_int) pa_nil)))) pa_nil))))) pss_nil)
      (pss_one (ps_ret (Ab.pe_tupA (pa_cons (pe_ix ix_list (Ab.pe_lstA (pa_cons pe_str (pa_cons pe_str pa_nil))) (pe_op op_sub (pv 3) pe_int) (fun _ _ => rfl)) (pa_cons (pe_call GC (hr.mono (by omega)) rfl TC.mg TC.kp bC .nil pass0 (pa_cons (pv 0) (pa_cons (pv 1) (pa_cons (pe_op op_sub (pv 2) pe_int) pa_nil)))) (pa_cons (pe_call GC (hr.mono (by omega)) rfl TC.mg TC.kp bC .nil pass0 (pa_cons (pv 0) (pa_cons (pv 1) (pa_cons (pe_op op_sub (pv 2) pe_int) pa_nil)))) pa_nil))))))))), ?_⟩
      refine ⟨_, rfl, _, _, rfl, rfl, _, rfl, ite2 (fun h1 => ?_) (fun h1 => ?_)⟩
      all_goals
        first
        | refine ⟨_, rfl, p, c, ns, b, 6, rfl, P0, hn, by omega, by decide, by decide, fun r H1 r0 r6 P1 x1 => ?_⟩
        | refine ⟨_, rfl, p, c, ns, b, 2, rfl, P0, hn, by omega, by decide, by decide, fun r H1 r0 r6 P1 x1 => ?_⟩
        refine ⟨_, rfl, _, _, rfl, rfl, _, rfl, ite2 (fun h2 => ?_) (fun h2 => ?_)⟩
        · have r3 : r < 3 := of_decide_eq_true h2
          refine ⟨sz (by simp), fun lo Ho fo no so eo => ?_⟩
          obtain ⟨v, hv, ha⟩ := at_mem (xs := ([Str.ofString "<", Str.ofString "=", Str.ofString "<"] : List Str).map V.str) r0 (by simpa using r3)
          obtain ⟨z, hz, rfl⟩ := text_of hv
          have zz : z = "<" ∨ z = "=" := by
            simp only [List.mem_cons, List.not_mem_nil, or_false] at hz
            rcases hz with e | e | e
            · exact .inl e
            · exact .inr e
            · exact .inl e
          have zl : z.length ≤ 1000 := by rcases zz with e | e <;> subst e <;> decide
          have xa := x1.trans (Same.X so)
          refine ⟨_, rfl, lo, _, r, _, rfl, rfl, SqL.of eo, ha, ?_⟩
          refine ⟨_, rfl, _, rfl, p, c, ns, _, l, 3, rfl, by omega, by omega, by omega, P1.same so, hn, by omega, N0.same P0 xa, fun v1 d1 H3 w1 g1 P3 x3 => ?_⟩
          refine ⟨_, rfl, _, rfl, p, c, ns, _, l, 2, rfl, by omega, by omega, by omega, P3, hn, by omega, N0.same P0 (xa.trans x3), fun v2 d2 H4 w2 g2 P4 x4 => ?_⟩
          refine ⟨sz (by simp), fun t Ht ft st et => ?_⟩
          have ot := PenAt.off P4 ft
          have D : Dw K p Ht (4 + 1) (.ref t) (.tuple [.str z, d1, d2]) := .tup (.cons (.str z zl) (.cons ((w1.same x4).same (Same.X st)) (.cons ((w2.same (Same.X st)).mono (by omega)) .nil))) (by simp) ot et
          exact k _ _ Ht (D.mono (by omega)) ((gC.cmp zz g1 g2).mono n0) ((P4.same st).mono (by omega)) (((xa.trans x3).trans x4).trans (Same.X st))
        try exact absurd (show r < 3 by omega) (fun z => h2 (decide_eq_true z))
      · obtain ⟨n, rfl⟩ : ∃ j, n = j + 1 := ⟨n - 1, by
          have : (1 : Int) < n := of_decide_eq_true h1
          omega⟩
        have nn1 : 1 ≤ n := by
          have : (1 : Int) < ((n + 1 : Nat) : Int) := of_decide_eq_true h1
          omega
        have hp4 : 3 ^ (n + 1) = 3 * 3 ^ n := by rw [Nat.pow_succ, Nat.mul_comm]
        have one1 : 1 ≤ 3 ^ n := Nat.one_le_pow _ _ (by decide)
        refine ⟨_, rfl, rfl, _, rfl, ite2 (fun h3 => ?_) (fun h3 => ?_)⟩
        · refine ⟨_, rfl, _, rfl, _, rfl, _, _, rfl, rfl, p, c, ns, _, l, n, by simp, by omega, by omega, nn1, P1, hn, by omega, N0.same P0 x1, fun v1 d1 H3 w1 g1 P3 x3 => ?_⟩
          refine ⟨sz (by simp), fun t Ht ft st et => ?_⟩
          have ot := PenAt.off P3 ft
          have D : Dw K p Ht (n + 5 + 1) (.ref t) (.tuple [.str "not", d1]) := .tup (.cons (.str _ (by decide)) (.cons (w1.same (Same.X st)) .nil)) (by simp) ot et
          exact k _ _ Ht (D.mono (by omega)) (.not g1 nn1) ((P3.same st).mono (by omega)) ((x1.trans x3).trans (Same.X st))
        · have h4 : ¬ r < 3 := fun z => h2 (decide_eq_true z)
          have h5 : r ≠ 3 := fun z => h3 (by rw [z]; rfl)
          refine ⟨sz (by simp), fun lo Ho fo no so eo => ?_⟩
          obtain ⟨v, hv, ha⟩ := at_mem (xs := ([Str.ofString "and", Str.ofString "or"] : List Str).map V.str) (r := r - 4) (by omega) (by simp; omega)
          obtain ⟨z, hz, rfl⟩ := text_of hv
          have zz : z = "and" ∨ z = "or" := by
            simp only [List.mem_cons, List.not_mem_nil, or_false] at hz
            exact hz
          have zl : z.length ≤ 1000 := by rcases zz with e | e <;> subst e <;> decide
          have xa := x1.trans (Same.X so)
          refine ⟨_, rfl, _, _, rfl, rfl, lo, _, _, _, rfl, rfl, SqL.of eo, ha, ?_⟩
          refine ⟨_, rfl, _, rfl, _, rfl, _, _, rfl, rfl, p, c, ns, _, l, n, by simp, by omega, by omega, nn1, P1.same so, hn, by omega, N0.same P0 xa, fun v1 d1 H3 w1 g1 P3 x3 => ?_⟩
          refine ⟨_, rfl, _, rfl, _, rfl, _, _, rfl, rfl, p, c, ns, _, l, n, by simp, by omega, by omega, nn1, P3, hn, by omega, N0.same P0 (xa.trans x3), fun v2 d2 H4 w2 g2 P4 x4 => ?_⟩
          refine ⟨sz (by simp), fun t Ht ft st et => ?_⟩
          have ot := PenAt.off P4 ft
          have D : Dw K p Ht (n + 5 + 1) (.ref t) (.tuple [.str z, d1, d2]) := .tup (.cons (.str z zl) (.cons ((w1.same x4).same (Same.X st)) (.cons (w2.same (Same.X st)) .nil))) (by simp) ot et
          exact k _ _ Ht (D.mono (by omega)) (.op zz g1 g2 nn1) ((P4.same st).mono (by omega)) (((xa.trans x3).trans x4).trans (Same.X st))
end
end Hd

set_option Elab.async false
set_option linter.all false
set_option maxRecDepth 100000
set_option maxHeartbeats 4000000
namespace Hd
open PySem L2 Pen RG Dat KEq
abbrev sWd : Stmt := top 36
/-- signs from a to z alone -/
def Lt (z : Str) : Prop := ∀ c ∈ z.cps.toList, c ∈ abc.cps.toList
theorem Lt.app {x y : Str} (a : Lt x) (b : Lt y) : Lt (x ++ y) := fun c hc => by
  rw [PySem.Str.cps_append, Array.toList_append, List.mem_append] at hc
  exact hc.elim (a c) (b c)
theorem Lt.cut {x : Str} {lo hi : Option Int} (a : Lt x) : Lt (cutS x lo hi) := fun c hc => a c (by
  unfold cutS at hc
  rw [List.toList_toArray] at hc
  exact List.mem_of_mem_drop (List.mem_of_mem_take hc))
theorem Lt.join : ∀ {ys : List Str}, (∀ y ∈ ys, Lt y) → Lt (Str.join (Str.ofString "") ys)
  | [], _ => fun c hc => by cases hc
  | [x], h => h x List.mem_cons_self
  | x :: y :: ys, h => by
    have i := Lt.join (ys := y :: ys) fun z hz => h z (List.mem_cons_of_mem _ hz)
    show Lt (x ++ Str.ofString "" ++ Str.join (Str.ofString "") (y :: ys))
    exact ((h x List.mem_cons_self).app (fun c hc => by cases hc)).app i
theorem Lt.one {k : Nat} (h : k ∈ abc.cps.toList) : Lt ⟨#[k]⟩ := fun c hc => by
  have e : c = k := by simpa using hc
  rw [e]
  exact h
theorem Lt.word {z : Str} (a : Lt z) (h1 : 1 ≤ z.length) (h6 : z.length ≤ 6) : isWord (.str z) = true := by
  show (decide (1 ≤ z.length) && decide (z.length ≤ 6) && z.cps.toList.all fun c => decide (c ∈ abc.cps.toList)) = true
  rw [decide_eq_true h1, decide_eq_true h6, List.all_eq_true.mpr fun c hc => decide_eq_true (a c hc)]
  rfl
def rAddS : R2 := fun x y H Q => ∃ i j, x = .str i ∧ y = .str j ∧ i.length + j.length ≤ sizeLine ∧ Q (.str (i ++ j)) H
def rInt1 : List V → Hp → VK → Prop := fun xs H Q => (∃ i, xs = [.int i] ∧ Q (.int i) H) ∨ ∃ k, xs = [.bl k] ∧ Q (.int (if k then 1 else 0)) H
def spPickS : Sp := fun vs H Q _ => ∃ (p c : Addr) (ns : List Int) (b : Nat) (z : Str), vs = [.ref p, .str z] ∧ PenAt H p c ns b ∧ ns.length ≤ 63 ∧ b < 2 ^ 40 ∧ 0 < z.length ∧ z.length ≤ 1000 ∧
  ∀ (k : Nat) (H' : Hp), k ∈ z.cps.toList → PenAt H' p c ns (b + 1) → SameX p H H' → Q (.str ⟨#[k]⟩) H'
def spWd : Sp := fun vs H Q _ => ∃ (p c : Addr) (ns : List Int) (b n : Nat), vs = [.ref p, .int n] ∧ PenAt H p c ns b ∧ ns.length ≤ 63 ∧ b < 2 ^ 39 ∧ 0 < n ∧ n ≤ 10 ∧
  ∀ (l : Addr) (H' : Hp), H l = none → Names H' l → PenAt H' p c ns (b + 9) → SameX p H H' → Q (.ref l) H'
theorem sign_at {z : Str} {r : Int} (h0 : 0 ≤ r) (h : r < (z.length : Int)) : ∃ k, k ∈ z.cps.toList ∧ atI z.cps.toList r = some k := by
  have h3 : r.toNat < z.cps.toList.length := by
    rw [Array.length_toList]
    show r.toNat < z.length
    omega
  have := atI_nat (List.getElem?_eq_getElem h3)
  rw [Int.toNat_of_nonneg h0] at this
  exact ⟨_, List.getElem_mem h3, this⟩
/-- the two parts of a text at a place -/
theorem cut_two (z : Str) (r : Int) : (cutS z none (some r)).length + (cutS z (some r) none).length = z.length := by
  have le : ∀ d, HT.sIx z.length d (some r) ≤ z.length ∨ True := fun _ => .inr trivial
  unfold cutS Str.length
  simp only [List.size_toArray, List.length_take, List.length_drop, Array.length_toList, HT.sIx_none]
  have e : HT.sIx z.cps.size z.cps.size (some r) = HT.sIx z.cps.size 0 (some r) := rfl
  have l : HT.sIx z.cps.size 0 (some r) ≤ z.cps.size := HT.sIx_le _ _ (Nat.zero_le _) _
  rw [e]
  omega
theorem ones_sum : ∀ {ys : List Str}, (∀ y ∈ ys, y.length = 1) → (ys.map (·.length)).sum = ys.length
  | [], _ => rfl
  | y :: ys, h => by
    rw [List.map_cons, List.sum_cons, h y (List.mem_cons_self ..), ones_sum (ys := ys) fun x hx => h x (List.mem_cons_of_mem _ hx), List.length_cons]
    omega
section
variable {P : Program} {w : World} {K : PySem.W.Frag} {mg : Str → Option Value} {base : Heap}
theorem ok_pickS {f fD : Addr} {fd fdD : FuncData} (F : Fun K "_law_pick" "_law_pick" sPick f fd) (T : TxtH mg)
    (GDraw : FnOk P w K mg base CX0 1 fD fdD ["_law_pen_here", "_law_many"] spDraw) (TDraw : DefT K mg "_law_draw" fD) (bDraw : Binds K fdD ["_law_pen_here", "_law_many"] []) : FnOk P w K mg base CX0 2 f fd ["_law_pen_here", "_law_items"] spPickS := by
  refine F.ok scPick (fun vs H Q E h => ?_) (fun cdv A outer s H vs Q E hr h => ?_)
  · obtain ⟨p, c, ns, b, z, rfl, _⟩ := h
    rfl
  · obtain ⟨p, c, ns, b, z, rfl, P0, hn, hb, z0, z1, k⟩ := h
    have zl : z.length ≤ sizeLine := Nat.le_trans z1 (by decide)
    refine ⟨_, (pss_one (ps_ret (pe_ix ix_str (pv 1) (pe_call GDraw (hr.mono (by decide)) rfl TDraw.mg TDraw.kp bDraw .nil pass0 (pa_cons (pv 0) (pa_cons (pe_callB call_len_str (by rfl) T.len PySem.boot_len (pa_cons (pv 1) pa_nil)) pa_nil))) (fun _ _ => rfl)))), ?_⟩
    refine ⟨_, rfl, _, rfl, _, rfl, z, rfl, zl, p, c, ns, b, _, rfl, P0, hn, hb, by omega, by omega, fun r H' r0 r1 P1 x1 => ?_⟩
    obtain ⟨e, me, he⟩ := sign_at r0 r1
    exact ⟨z, r, e, rfl, rfl, zl, he, k e H' me P1 x1⟩
theorem scWd : FnScope ["_law_pen_here", "_law_many", "_law_letters", "_law_stem", "_law_at", "_law_first", "_law_step", "_law_k"] ["_law_pen_here", "_law_many"] (defScope sWd) := ⟨rfl, rfl, rfl, by decide +kernel, rfl, by decide +kernel, by decide +kernel⟩
theorem ok_wd {f fD fP : Addr} {fd fdD fdP : FuncData} (F : Fun K "_law_words" "_law_words" sWd f fd) (T : TxtH mg) (TR : mg "range" = none)
    (GDraw : FnOk P w K mg base CX0 1 fD fdD ["_law_pen_here", "_law_many"] spDraw) (TDraw : DefT K mg "_law_draw" fD) (bDraw : Binds K fdD ["_law_pen_here", "_law_many"] [])
    (GPickS : FnOk P w K mg base CX0 2 fP fdP ["_law_pen_here", "_law_items"] spPickS)
    (GPick : FnOk P w K mg base CX0 2 fP fdP ["_law_pen_here", "_law_items"] (spPick K)) (TPick : DefT K mg "_law_pick" fP) (bPick : Binds K fdP ["_law_pen_here", "_law_items"] []) : FnOk P w K mg base CX0 3 f fd ["_law_pen_here", "_law_many"] spWd := by
  refine F.ok scWd (fun vs H Q E h => ?_) (fun cdv A outer s H vs Q E hr h => ?_)
  · obtain ⟨p, c, ns, b, n, rfl, _⟩ := h
    rfl
  · obtain ⟨p, c, ns, b, n, rfl, P0, hn, hb, n0, n10, k⟩ := h
    refine ⟨_, (pss_cons (ps_set (i := 2) scWd.nd rfl (Or.inr rfl) pe_str)
      (pss_cons (ps_set (i := 3) scWd.nd rfl (Or.inr rfl) (pe_join pe_str (pe_lc (own := [("_law_k", 7)]) (g := gName 7) (tt := tYes) (te := (tCall spPickS [] E0 (tCons (tVar 0) (tCons (tVar 2) tNil)))) rfl scWd.nd (pi_range1 (by rfl) TR (pa_cons (pe_call GDraw (hr.mono (by decide)) rfl TDraw.mg TDraw.kp bDraw .nil pass0 (pa_cons (pv 0) (pa_cons pe_int pa_nil))) pa_nil)) (blkOk_by (N := ["_law_pen_here", "_law_many", "_law_letters", "_law_stem", "_law_at", "_law_first", "_law_step", "_law_k"]) (sc := defScope sWd) (by decide +kernel)) (fun _ _ _ _ _ => by exact (pg_name (i := 7) scWd.nd rfl (Or.inl rfl))) (fun _ _ _ _ _ => by exact pts_nil) (fun _ _ _ _ _ => by exact (pe_call GPickS (hr.mono (by decide)) rfl TPick.mg TPick.kp bPick .nil pass0 (pa_cons (pv 0) (pa_cons (pv 2) pa_nil)))))))
      (pss_cons (ps_asg (Ab.pe_tupA (pa_cons (pe_call GDraw (hr.mono (by decide)) rfl TDraw.mg TDraw.kp bDraw .nil pass0 (pa_cons (pv 0) (pa_cons (pe_op op_add (pe_callB call_len_str (by rfl) T.len PySem.boot_len (pa_cons (pv 3) pa_nil)) pe_int) pa_nil))) (pa_cons (pe_call GDraw (hr.mono (by decide)) rfl TDraw.mg TDraw.kp bDraw .nil pass0 (pa_cons (pv 0) (pa_cons pe_int pa_nil))) pa_nil))) (pg_tup (by rfl) (pgs_cons (pg_name (i := 4) scWd.nd rfl (Or.inr rfl)) (pgs_cons (pg_name (i := 5) scWd.nd rfl (Or.inr rfl)) pgs_nil))))
      (pss_cons (ps_set (i := 6) scWd.nd rfl (Or.inr rfl) (pe_call GPick (hr.mono (by decide)) rfl TPick.mg TPick.kp bPick .nil pass0 (pa_cons (pv 0) (pa_cons (Ab.pe_lstA (pa_cons pe_int (pa_cons pe_int (pa_cons pe_int (pa_cons pe_int (pa_cons pe_int (pa_cons pe_int (pa_cons pe_int (pa_cons pe_int (pa_cons pe_int (pa_cons pe_int (pa_cons pe_int (pa_cons pe_int pa_nil))))))))))))) pa_nil))))
      (pss_one (ps_ret (pe_lc (own := [("_law_k", 7)]) (g := gName 7) (tt := tYes) (te := (tOp rAddS (tOp rAddS (tSl rSlS (tVar 3) tNoPart (tPart (tVar 4))) (tOp rIxS (tVar 2) (tOp (rI (fun _ j => 0 < j) fun i j => .int (i % j)) (tCB rInt1 (tCons (tOp (rI0 fun i j => .int (i + j)) (tVar 5) (tOp (rI CMul fun i j => .int (i * j)) (tVar 6) (tVar 7))) tNil)) (tC (.int 26))))) (tSl rSlS (tVar 3) (tPart (tVar 4)) tNoPart))) rfl scWd.nd (pi_range1 (by rfl) TR (pa_cons (pv 1) pa_nil)) (blkOk_by (N := ["_law_pen_here", "_law_many", "_law_letters", "_law_stem", "_law_at", "_law_first", "_law_step", "_law_k"]) (sc := defScope sWd) (by decide +kernel)) (fun _ _ _ _ _ => by exact (pg_name (i := 7) scWd.nd rfl (Or.inl rfl))) (fun _ _ _ _ _ => by exact pts_nil) (fun _ _ _ _ _ => by exact (pe_op op_add_str (pe_op op_add_str (pe_slice sl_str (pv 3) po_none (po_some (pv 4))) (pe_ix ix_str (pv 2) (pe_op op_mod (pe_callTy call_int1 (by rfl) T.int PyProof.Rows.boot_int (pa_cons (pe_op op_add (pv 5) (pe_op op_mul (pv 6) (pv 7))) pa_nil)) pe_int) (fun _ _ => rfl))) (pe_slice sl_str (pv 3) (po_some (pv 4)) po_none)))))))))), ?_⟩
    refine ⟨⟨_, rfl⟩, _, rfl, p, c, ns, b, 6, rfl, P0, hn, by omega, by decide, by decide, fun r H1 r0 r6 P1 x1 => ⟨r, rfl, by omega, by omega, fun D hD => lc_range (n := r.toNat) (fun i H' => (∃ ys : List Str, H' D = some (.lst (ys.map V.str)) ∧ ys.length = i ∧ ∀ y ∈ ys, y.length = 1 ∧ Lt y) ∧ PenAt H' p c ns (b + 1 + i) ∧ SameX p H1 H') ⟨⟨[], upd_same, rfl, fun _ z => nomatch z⟩, P1.same (Ab.same_up hD), Same.X (Ab.same_up hD)⟩ ?_ ?_⟩⟩
    · intro i H' hi ⟨⟨ys, e, ly, one⟩, P2, x2⟩
      refine ⟨rfl, ?_⟩
      unfold tYes
      simp only [↓reduceIte]
      have oD : D ≠ p := PenAt.off P1 hD
      refine ⟨_, rfl, _, rfl, p, c, ns, _, _, rfl, P2, hn, by omega, by decide, by decide, fun q H2 mq P3 x3 => ?_⟩
      have eD := x3 _ _ oD e
      refine ⟨_, eD, szl (by simp; omega), ⟨ys ++ [⟨#[q]⟩], by rw [upd_same]; simp, by simp [ly], ?_⟩, ?_, ?_⟩
      · intro y hy
        rcases List.mem_append.mp hy with hy | hy
        · exact one y hy
        · rcases List.mem_cons.mp hy with e | hy
          · rw [e]
            exact ⟨rfl, .one mq⟩
          · cases hy
      · obtain ⟨⟨a, r', hp, q1⟩, q2⟩ := P3
        have nc : c ≠ D := by
          intro z
          rw [z] at q2
          rw [eD] at q2
          have := Option.some.inj q2
          obtain ⟨⟨_, _, _, _⟩, q3⟩ := id P1
          rw [z, hD] at q3
          cases q3
        exact ⟨⟨a, r', (upd_ne oD.symm).trans hp, q1⟩, (upd_ne nc).trans q2⟩
      · intro x o hx q'
        rw [upd_ne (ne_of_none q' hD)]
        exact x3 _ _ hx (x2 _ _ hx q')
    · intro H2 ⟨⟨ys, e, ly, one⟩, P2, x2⟩
      have sm' := ones_sum fun y hy => (one y hy).1
      refine ⟨_, D, ys, rfl, rfl, .inl (SqL.of e), by rw [sm', show (Str.ofString "").length = 0 by decide]; omega, ?_⟩
      have hst : (Txt.join (Str.ofString "") ys).length ≤ 5 := by
        have := StrLaws.join_length_le (Str.ofString "") ys
        rw [sm', show (Str.ofString "").length = 0 by decide] at this
        show (Builtin.Str.glued _ _).length ≤ 5
        rw [StrLaws.glued_eq_join]
        omega
      have lst : Lt (Txt.join (Str.ofString "") ys) := by
        have e : Txt.join (Str.ofString "") ys = Str.join (Str.ofString "") ys := StrLaws.glued_eq_join _ ys
        rw [e]
        exact .join fun y hy => (one y hy).2
      generalize hg : Txt.join (Str.ofString "") ys = stem at hst lst
      have P2' := P2.mono (b' := b + 6) (by omega)
      have sl : stem.length ≤ sizeLine := Nat.le_trans hst (by decide)
      have xa := x1.trans x2
      refine ⟨_, rfl, _, rfl, _, rfl, sl, _, _, rfl, rfl, p, c, ns, _, _, rfl, P2', hn, by omega, by omega, by omega, fun ra H3 a0 a1 P3 x3 => ?_⟩
      refine ⟨_, rfl, p, c, ns, _, 26, rfl, P3, hn, by omega, by decide, by decide, fun rf H4 f0 f1 P4 x4 => ?_⟩
      refine ⟨sz (by simp), fun t Ht ft st et => ⟨t, _, rfl, SqT.of et, rfl, _, _, rfl, _, _, rfl, rfl, ?_⟩⟩
      refine ⟨_, rfl, sz (by simp), fun lo Ho fo no so eo => ?_⟩
      refine ⟨p, c, ns, _, lo, _, rfl, (P4.same st).same so, hn, by omega, eo, by simp, by simp, fun v H5 hv P5 x5 => ?_⟩
      have iv : ∃ i : Int, v = .int i ∧ 1 ≤ i ∧ i ≤ 25 := by
        simp only [List.mem_cons, List.not_mem_nil, or_false] at hv
        rcases hv with e | e | e | e | e | e | e | e | e | e | e | e <;> exact ⟨_, e, by decide, by decide⟩
      obtain ⟨g, rfl, g1, g2⟩ := iv
      have xb : SameX p H H5 := ((((xa.trans x3).trans x4).trans (Same.X st)).trans (Same.X so)).trans x5
      refine ⟨_, rfl, n, rfl, by omega, by omega, fun D2 hD2 => lc_range (n := n) (fun i H' => (∃ zs : List Str, H' D2 = some (.lst (zs.map V.str)) ∧ zs.length = i ∧ ∀ z ∈ zs, isWord (.str z) = true) ∧ Same H5 H') ⟨⟨[], upd_same, rfl, fun _ z => nomatch z⟩, Ab.same_up hD2⟩ ?_ ?_⟩
      · intro i H' hi ⟨⟨zs, e, lz, sz'⟩, s'⟩
        refine ⟨rfl, ?_⟩
        unfold tYes
        simp only [↓reduceIte]
        have m0 := Int.emod_nonneg (rf + g * (0 + (i : Int))) (show (26 : Int) ≠ 0 by decide)
        have m1 := Int.emod_lt_of_pos (rf + g * (0 + (i : Int))) (show (0 : Int) < 26 by decide)
        obtain ⟨q, mq, hq⟩ := sign_at (z := abc) m0 (by rw [show (abc.length : Int) = 26 by decide]; exact m1)
        have c1 := cutS_length stem none (some ra)
        have c2 := cutS_length stem (some ra) none
        have lone : (⟨#[q]⟩ : Str).length = 1 := rfl
        refine ⟨_, rfl, _, rfl, ra, rfl, stem, rfl, sl, _, rfl, _, rfl, _, rfl, _, rfl, _, _, rfl, rfl, .inl ⟨by omega, by omega⟩, _, _, rfl, rfl, .inl ⟨_, rfl, _, _, rfl, rfl, by show (0 : Int) < 26; decide, abc, _, q, rfl, rfl, by decide, hq, ?_⟩⟩
        refine ⟨_, _, rfl, rfl, sz (by rw [lone]; omega), ?_⟩
        have l2 : (cutS stem none (some ra) ++ (⟨#[q]⟩ : Str)).length ≤ 6 := by rw [Str.length_append, lone]; omega
        refine ⟨_, rfl, _, rfl, ra, rfl, stem, rfl, sl, _, _, rfl, rfl, sz (by omega), ?_⟩
        refine ⟨_, e, szl (by simp; omega), ⟨zs ++ [_], by rw [upd_same]; simp; rfl, by simp [lz], ?_⟩, ?_⟩
        · intro z hz
          rcases List.mem_append.mp hz with hz | hz
          · exact sz' z hz
          · rcases List.mem_cons.mp hz with e | hz
            · rw [e]
              refine Lt.word ((lst.cut.app (.one mq)).app lst.cut) ?_ ?_
              · rw [Str.length_append, Str.length_append, lone]
                omega
              · rw [Str.length_append, Str.length_append, lone]
                have := cut_two stem ra
                omega
            · cases hz
        · intro x o q'
          rw [upd_ne (ne_of_none q' hD2)]
          exact s' _ _ q'
      · intro H' ⟨⟨zs, e, lz, sz'⟩, s'⟩
        have fr : H D2 = none := by
          cases hh : H D2 with
          | none => rfl
          | some o =>
            have o5 := PenAt.off P5 hD2
            have := xb _ _ o5 hh
            rw [hD2] at this
            cases this
        exact k D2 H' fr ⟨zs, e, by omega, by omega, sz'⟩ ((P5.same s').mono (by omega)) (xb.trans (Same.X s'))
end
end Hd

set_option Elab.async false
set_option linter.all false
set_option maxRecDepth 100000
set_option maxHeartbeats 8000000
namespace Hd
open PySem L2 Pen RG Dat KEq
abbrev sDd : Stmt := top 41
abbrev sDs : Stmt := top 42
/-- xs != [] -/
def rNeNil (K : PySem.W.Frag) : R2 := fun x y G Want => ∃ (a b : Addr) (xs : List V), x = .ref a ∧ y = .ref b ∧ SqL K G a xs ∧ 0 < xs.length ∧ SqL K G b [] ∧ Want (.bl true) G
theorem op_neNil {X : Cx} (hu : X.A.units + 1 < cLine) : OpR X (compareOp .NotEq) (rNeNil X.K) := by
  intro pins st σ G x y v u Want I rx ry h
  obtain ⟨a, b, xs, rfl, rfl, ha, hz, hb, q⟩ := h
  cases rx
  cases ry
  obtain ⟨its, r1, p1, _⟩ := I.list ha
  obtain ⟨jts, r2, p2, _⟩ := I.list hb
  have e2 : jts = [] := by cases r2; rfl
  subst e2
  cases r1 with
  | nil => cases hz
  | cons c t => exact SeqAt.RcNeAt.lists_lengths p1.isList p2.isList (by simp) (Nat.lt_of_succ_lt hu) _ _ _ _ ⟨.bl true, G, I, rfl, q⟩
abbrev kN : Key := Sum.inr ("names" : Str)
abbrev kK : Key := Sum.inr ("keys" : Str)
abbrev kD : Key := Sum.inr ("kinds" : Str)
abbrev kS : Key := Sum.inr ("sends" : Str)
abbrev kE : Key := Sum.inr ("deeds" : Str)
def pl (a b c : Addr) (s e : Int) : List (Key × V) := [(kN, .ref a), (kK, .ref b), (kD, .ref c), (kS, .int s), (kE, .int e)]
theorem pl_n (a b c : Addr) (s e : Int) : valV (pl a b c s e) kN = some (.ref a) := valV_pos rfl
theorem pl_k (a b c : Addr) (s e : Int) : valV (pl a b c s e) kK = some (.ref b) := (valV_neg (show ¬ kN = kK by decide +kernel)).trans (valV_pos rfl)
theorem pl_d (a b c : Addr) (s e : Int) : valV (pl a b c s e) kD = some (.ref c) := ((valV_neg (show ¬ kN = kD by decide +kernel)).trans (valV_neg (show ¬ kK = kD by decide +kernel))).trans (valV_pos rfl)
theorem pl_s (a b c : Addr) (s e : Int) : valV (pl a b c s e) kS = some (.int s) := (((valV_neg (show ¬ kN = kS by decide +kernel)).trans (valV_neg (show ¬ kK = kS by decide +kernel))).trans (valV_neg (show ¬ kD = kS by decide +kernel))).trans (valV_pos rfl)
theorem pl_e (a b c : Addr) (s e : Int) : valV (pl a b c s e) kE = some (.int e) := ((((valV_neg (show ¬ kN = kE by decide +kernel)).trans (valV_neg (show ¬ kK = kE by decide +kernel))).trans (valV_neg (show ¬ kD = kE by decide +kernel))).trans (valV_neg (show ¬ kS = kE by decide +kernel))).trans (valV_pos rfl)
theorem pl_putS (a b c : Addr) (s e x : Int) : putK (pl a b c s e) kS (.int x) = pl a b c x e := by
  have n1 : ¬ (("names" : Str) = "sends") := by decide +kernel
  have n2 : ¬ (("keys" : Str) = "sends") := by decide +kernel
  have n3 : ¬ (("kinds" : Str) = "sends") := by decide +kernel
  have n4 : ¬ (("deeds" : Str) = "sends") := by decide +kernel
  unfold putK pl
  simp [n1, n2, n3, n4]
theorem pl_putE (a b c : Addr) (s e x : Int) : putK (pl a b c s e) kE (.int x) = pl a b c s x := by
  have n1 : ¬ (("names" : Str) = "deeds") := by decide +kernel
  have n2 : ¬ (("keys" : Str) = "deeds") := by decide +kernel
  have n3 : ¬ (("kinds" : Str) = "deeds") := by decide +kernel
  have n4 : ¬ (("sends" : Str) = "deeds") := by decide +kernel
  unfold putK pl
  simp [n1, n2, n3, n4]
/-- deeds, each by f, n in all -/
def vA (f : PyData → Nat → Prop) : List PyData → Nat → Prop
  | [], n => n = 0
  | d :: ds, n => ∃ x y, f d x ∧ vA f ds y ∧ n = x + y
/-- a deed with at most i ifs within ifs, n deeds in all -/
def vD : Nat → PyData → Nat → Prop
  | 0, d, n => isOne d = true ∧ n = 1
  | i + 1, d, n => (isOne d = true ∧ n = 1) ∨ ∃ c a b x y, d = .tuple [.str "if", c, .tuple a, .tuple b] ∧ isC 6 c = true ∧ vA (vD i) a x ∧ vA (vD i) b y ∧ n = 1 + x + y
theorem vA.snoc {f : PyData → Nat → Prop} {d : PyData} {x : Nat} (h : f d x) : ∀ {ds : List PyData} {n : Nat}, vA f ds n → vA f (ds ++ [d]) (n + x)
  | [], n, e => ⟨x, 0, h, rfl, by have e : n = 0 := e; omega⟩
  | y :: ys, n, ⟨u, v, a, b, e⟩ => ⟨u, v + x, a, vA.snoc h b, by omega⟩
theorem vD.one {i : Nat} {d : PyData} (h : isOne d = true) : vD i d 1 := by
  cases i with
  | zero => exact ⟨h, rfl⟩
  | succ i => exact .inl ⟨h, rfl⟩
theorem vA.room {f : PyData → Nat → Prop} {g : PyData → Nat → Option Nat} (hf : ∀ d x r, f d x → x ≤ r + 1 → 1 ≤ x ∧ g d r = some (r + 1 - x)) : ∀ {ds : List PyData} {n r : Nat}, vA f ds n → n ≤ r → roomAll g ds r = some (r - n)
  | [], n, r, e, _ => by
    have e : n = 0 := e
    subst e
    rfl
  | d :: ds, n, 0, ⟨x, y, a, b, e⟩, h => by
    have := (hf d x 0 a (by omega)).1
    omega
  | d :: ds, n, r + 1, ⟨x, y, a, b, e⟩, h => by
    obtain ⟨x1, q⟩ := hf d x r a (by omega)
    show (g d r).bind (roomAll g ds) = _
    rw [q, Option.bind_some, vA.room hf b (by omega)]
    congr 1
    omega
theorem vD.room : ∀ (i : Nat) (d : PyData) (x r : Nat), vD i d x → x ≤ r + 1 → 1 ≤ x ∧ deedR i d r = some (r + 1 - x)
  | 0, d, x, r, ⟨h, e⟩, _ => by
    subst e
    exact ⟨Nat.le_refl _, by rw [deed_one h]; rfl⟩
  | i + 1, d, x, r, h, hx => by
    rcases h with ⟨h, e⟩ | ⟨c, a, b, u, v, ed, hc, ha, hb, e⟩
    · subst e
      exact ⟨Nat.le_refl _, by rw [deed_one h]; rfl⟩
    · subst ed
      subst e
      refine ⟨by omega, ?_⟩
      have no : ¬ isOne (.tuple [.str "if", c, .tuple a, .tuple b]) = true := by
        have e1 : ¬ isS (.str "if") "set" = true := by decide +kernel
        have e2 : ¬ isS (.str "if") "send" = true := by decide +kernel
        have e3 : isS (.str "if") "fail" = false := by decide +kernel
        rw [one_cons, if_neg e1, if_neg e2, e3]
        simp
      have e4 : isS (.str "if") "if" = true := by decide +kernel
      have ra : roomR (deedR i) (.tuple a) r = some (r - u) := vA.room (vD.room i) ha (by omega)
      have rb : roomR (deedR i) (.tuple b) (r - u) = some (r - u - v) := vA.room (vD.room i) hb (by omega)
      rw [deed_four no, if_pos e4, if_pos hc, ra, Option.bind_some, rb]
      congr 1
      omega
theorem vA.ok {ds : List PyData} {n : Nat} (h : vA (vD 3) ds n) (h12 : n ≤ 12) : hOk (.tuple ds) = true := by
  have q : roomR (deedR 3) (.tuple ds) 12 = some (12 - n) := vA.room (vD.room 3) h h12
  unfold hOk
  rw [q]
  rfl
/-- the place at q, beside the pen at p, e deeds left -/
structure Pl (H : Hp) (p q a b c : Addr) (e : Nat) : Prop where
  ex : ∃ s : Int, H q = some (.dK (pl a b c s (e : Int)))
  na : Names H a
  nb : Names H b
  nc : Names H c
  ne : p ≠ q
theorem Names.off {H : Hp} {l q : Addr} {kvs : List (Key × V)} (x : Names H l) (h : H q = some (.dK kvs)) : l ≠ q := by
  obtain ⟨zs, e, _⟩ := x
  exact ne_of e h (by intro z; cases z)
theorem Names.sameY {H H' : Hp} {p q c l : Addr} {ns : List Int} {b : Nat} {kvs : List (Key × V)} (P : PenAt H p c ns b) (x : Names H l) (h : H q = some (.dK kvs)) (s : SameY p q H H') : Names H' l := by
  have n := x.off h
  obtain ⟨zs, e, q'⟩ := x
  exact ⟨zs, s _ _ (lst_off P e) n e, q'⟩
theorem Pl.sameX {H H' : Hp} {p q a b c cc : Addr} {ns : List Int} {k : Nat} (P : PenAt H p cc ns k) {e : Nat} (x : Pl H p q a b c e) (s : SameX p H H') : Pl H' p q a b c e := by
  obtain ⟨⟨s0, h⟩, x1, x2, x3, n⟩ := x
  exact ⟨⟨s0, s _ _ n.symm h⟩, x1.same P s, x2.same P s, x3.same P s, n⟩
theorem Pl.put {H : Hp} {p q a b c cc : Addr} {ns : List Int} {k : Nat} {s : Int} {e0 e : Nat} (P : PenAt H p cc ns k) (x : Pl H p q a b c e0) : Pl (upd H q (.dK (pl a b c s (e : Int)))) p q a b c e ∧ PenAt (upd H q (.dK (pl a b c s (e : Int)))) p cc ns k := by
  obtain ⟨⟨s0, h⟩, x1, x2, x3, n⟩ := x
  have y := SameY.upd (p := p) (q := q) (H := H) (o := .dK (pl a b c s (e : Int)))
  refine ⟨⟨⟨s, upd_same⟩, x1.sameY P h y, x2.sameY P h y, x3.sameY P h y, n⟩, ?_⟩
  obtain ⟨⟨a1, r1, hp, q1⟩, ce⟩ := P
  refine ⟨⟨a1, r1, (upd_ne n).trans hp, q1⟩, ?_⟩
  have nc : cc ≠ q := ne_of ce h (by intro z; cases z)
  exact (upd_ne nc).trans ce
def spDs (K : PySem.W.Frag) (m : Nat) : Sp := fun vs H Q _ => ∃ (p cc : Addr) (ns : List Int) (k : Nat) (q a b c : Addr) (i e : Nat), vs = [.ref p, .ref q, .int i] ∧ i < m ∧ i ≤ 4 ∧ PenAt H p cc ns k ∧ ns.length ≤ 63 ∧ k + 70000 * 8 ^ i ≤ 2 ^ 36 ∧ Pl H p q a b c e ∧
  ∀ (v : V) (ds : List PyData) (H' : Hp) (n f : Nat), Dw K p H' (10 + 2 * i) v (.tuple ds) → ds.length ≤ 4 → vA (vD i) ds n → n + f = e → PenAt H' p cc ns (k + 70000 * 8 ^ i) → Pl H' p q a b c f → SameY p q H H' → Q v H'
def spDd (K : PySem.W.Frag) (m : Nat) : Sp := fun vs H Q _ => ∃ (p cc : Addr) (ns : List Int) (k : Nat) (q a b c : Addr) (i e : Nat), vs = [.ref p, .ref q, .int i] ∧ i < m ∧ i ≤ 4 ∧ PenAt H p cc ns k ∧ ns.length ≤ 63 ∧ k + 20000 * 8 ^ i ≤ 2 ^ 36 ∧ Pl H p q a b c e ∧
  ∀ (v : V) (d : PyData) (H' : Hp) (n f : Nat), Dw K p H' (9 + 2 * i) v d → vD i d n → n + f = e + 1 → PenAt H' p cc ns (k + 20000 * 8 ^ i) → Pl H' p q a b c f → SameY p q H H' → Q v H'
section
variable {P : Program} {w : World} {K : PySem.W.Frag} {mg : Str → Option Value} {base : Heap}
theorem scDs : FnScope ["_law_pen_here", "_law_place", "_law_ifs", "_law_found", "_law_k"] ["_law_pen_here", "_law_place", "_law_ifs"] (defScope sDs) := ⟨rfl, rfl, rfl, by decide +kernel, rfl, by decide +kernel, by decide +kernel⟩
theorem ok_ds {f fD fd' : Addr} {fd fdD fdd : FuncData} (m n : Nat) (hn1 : 1 ≤ n) (F : Fun K "_law_deeds" "_law_deeds" sDs f fd) (T : TxtH mg) (TR : mg "range" = none)
    (GDraw : FnOk P w K mg base CX0 1 fD fdD ["_law_pen_here", "_law_many"] spDraw) (TDraw : DefT K mg "_law_draw" fD) (bDraw : Binds K fdD ["_law_pen_here", "_law_many"] [])
    (GDd : FnOk P w K mg base CX0 n fd' fdd ["_law_pen_here", "_law_place", "_law_ifs"] (spDd K m)) (TDd : DefT K mg "_law_deed" fd') (bDd : Binds K fdd ["_law_pen_here", "_law_place", "_law_ifs"] []) : FnOk P w K mg base CX0 (n + 1) f fd ["_law_pen_here", "_law_place", "_law_ifs"] (spDs K m) := by
  refine F.ok scDs (fun vs H Q E h => ?_) (fun cdv A outer s H vs Q E hr h => ?_)
  · obtain ⟨p, cc, ns, k, q, a, b, c, i, e, rfl, _⟩ := h
    rfl
  · obtain ⟨p, cc, ns, b0, q, a, b, c, j, eA, rfl, lt, j4, P0, hn, hb, L0, k⟩ := h
    have hu := hu_of hr
    have e8 : 1 ≤ 8 ^ j := Nat.one_le_pow _ _ (by decide)
    refine ⟨_, (pss_cons (ps_set (i := 3) scDs.nd rfl (Or.inl rfl) (Ab.pe_lstA pa_nil))
      (pss_cons (ps_for PassesOwn.never rfl (pi_range1 (by rfl) TR (pa_cons (pe_call GDraw (hr.mono (by omega)) rfl TDraw.mg TDraw.kp bDraw .nil pass0 (pa_cons (pv 0) (pa_cons pe_int pa_nil))) pa_nil)) (pg_name (i := 4) scDs.nd rfl (Or.inl rfl)) (pss_one (ps_if (pt_cmpR op_gt (pe_dget hu (pv 1) pe_str (fun _ _ => rfl)) pe_int (nomark _)) (pss_cons (ps_dput hu (pv 1) pe_str (pe_op op_sub (pe_dget hu (pv 1) pe_str (fun _ _ => rfl)) pe_int) rfl)
      (pss_one (ps_expr (pe_bm PySem.F.plainAttrs_list PySem.F.slot_list_append PySem.F.type_list_append mt_append (pv 3) (pa_cons (pe_call GDd (hr.mono (by omega)) rfl TDd.mg TDd.kp bDd .nil pass0 (pa_cons (pv 0) (pa_cons (pv 1) (pa_cons (pv 2) pa_nil)))) pa_nil))))) pss_nil)))
      (pss_one (ps_ret (pe_callTy call_tuple_of (by rfl) T.tuple (by decide +kernel) (pa_cons (pv 3) pa_nil)))))), ?_⟩
    refine ⟨sz (by simp), fun l H0 fl nl sl el => ?_⟩
    have ol := PenAt.off P0 fl
    have oq : l ≠ q := by
      obtain ⟨s0, hq⟩ := L0.ex
      exact (ne_of_none hq fl).symm
    refine ⟨_, rfl, p, cc, ns, b0, 4, rfl, P0.same sl, hn, by omega, by decide, by decide, fun r H1 r0 r4 P1 x1 => ⟨r, rfl, by omega, by omega, for_range (n := r.toNat) (fun i σ H' => σ.length = 5 ∧ σ[0]? = some (some (.ref p)) ∧ σ[1]? = some (some (.ref q)) ∧ σ[2]? = some (some (.int j)) ∧ σ[3]? = some (some (.ref l)) ∧ PenAt H' p cc ns (b0 + 1 + i * (20000 * 8 ^ j)) ∧
      (∃ xs ds n e, Pl H' p q a b c e ∧ H' l = some (.lst xs) ∧ xs.length ≤ i ∧ DwAll K p H' (9 + 2 * j) xs ds ∧ vA (vD j) ds n ∧ n + e = eA) ∧ ∀ x o, x ≠ p → x ≠ q → H x = some o → H' x = some o) ⟨rfl, rfl, rfl, rfl, rfl, P1.mono (by omega), ⟨[], [], 0, eA, L0.sameX P0 ((Same.X sl).trans x1), x1 _ _ ol el, Nat.le_refl _, .nil, rfl, Nat.zero_add _⟩, fun x o n1 n2 h => x1 _ _ n1 (sl _ _ h)⟩ ?_ ?_⟩⟩
    · intro i σ H' hi ⟨l0, v0, v1, v2, v3, P2, ⟨xs, ds, nn, e0, L2, ex, lx, dw, va, hne⟩, y2⟩
      have i3 : i < 4 := by omega
      have ib : i * (20000 * 8 ^ j) + 20000 * 8 ^ j ≤ 3 * (20000 * 8 ^ j) := by
        have := Nat.mul_le_mul_right (20000 * 8 ^ j) (show i + 1 ≤ 3 by omega)
        rw [Nat.add_mul, Nat.one_mul] at this
        exact this
      have z0 : (σ.set 4 (some (V.int (0 + (i : Int)))))[0]? = some (some (V.ref p)) := by simp [v0]
      have z1 : (σ.set 4 (some (V.int (0 + (i : Int)))))[1]? = some (some (V.ref q)) := by simp [v1]
      have z2 : (σ.set 4 (some (V.int (0 + (i : Int)))))[2]? = some (some (V.int j)) := by simp [v2]
      have z3 : (σ.set 4 (some (V.int (0 + (i : Int)))))[3]? = some (some (V.ref l)) := by simp [v3]
      have zl : (σ.set 4 (some (V.int (0 + (i : Int))))).length = 5 := by simp [l0]
      obtain ⟨s0, hq⟩ := L2.ex
      have ge : DGet H' q (.str "deeds") (some (.int e0)) := by
        have g := DGet.k (k := kE) hq
        rw [pl_e] at g
        exact g
      refine ⟨_, z1, q, _, rfl, ge, _, _, rfl, rfl, _, rfl, ite2 (fun h1 => ?_) (fun h1 => ?_)⟩
      · obtain ⟨e0, rfl⟩ : ∃ t, e0 = t + 1 := ⟨e0 - 1, by have := of_decide_eq_true h1; omega⟩
        have em : (((e0 + 1 : Nat) : Int) - 1) = (e0 : Int) := by omega
        have pe : DPut H' q (.str "deeds") (.int (((e0 + 1 : Nat) : Int) - 1)) (upd H' q (.dK (pl a b c s0 (e0 : Int)))) := by
          have g := DPut.k (k := kE) (v := .int (((e0 + 1 : Nat) : Int) - 1)) hq (by show 5 < sizeLine; decide)
          rw [pl_putE] at g
          rw [em] at g ⊢
          exact g
        obtain ⟨L3, P3⟩ := L2.put (s := s0) (e := e0) P2
        refine ⟨_, z1, q, _, rfl, ge, _, _, rfl, rfl, _, z1, q, _, rfl, pe, ?_⟩
        have el3 := (upd_ne (o := .dK (pl a b c s0 (e0 : Int))) (H := H') oq).trans ex
        have dw3 := dw.put noT_dK hq (SameY.upd (p := p) (o := .dK (pl a b c s0 (e0 : Int))))
        refine ⟨_, z3, .inl ⟨rfl, _, SqL.of el3⟩, _, z0, _, z1, _, z2, p, cc, ns, _, q, a, b, c, j, e0, rfl, lt, j4, P3, hn, by omega, L3, fun v d H4 nd fd w4 vd hnd P4 L4 y4 => ?_⟩
        have el4 := y4 _ _ ol oq el3
        refine ⟨l, xs, _, rfl, rfl, el4, szl (by omega), ?_⟩
        have dw4 : DwAll K p H4 (9 + 2 * j) xs ds := by
          obtain ⟨s3, hq3⟩ := L3.ex
          exact dw3.put noT_dK hq3 y4
        have yl : SameY p l H4 (upd H4 l (.lst (xs ++ [v]))) := SameY.upd
        have dw5 := (dw4.app (.cons w4 .nil)).put noT_lst el4 yl
        have keep : ∀ x o, x ≠ p → x ≠ q → H x = some o → (upd H4 l (.lst (xs ++ [v]))) x = some o := by
          intro x o n1 n2 hx
          rw [upd_ne (ne_of_none hx fl)]
          refine y4 _ _ n1 n2 ?_
          rw [upd_ne n2]
          exact y2 _ _ n1 n2 hx
        have P5 : PenAt (upd H4 l (.lst (xs ++ [v]))) p cc ns (b0 + 1 + (i + 1) * (20000 * 8 ^ j)) := by
          have := P4.mono (b' := b0 + 1 + (i + 1) * (20000 * 8 ^ j)) (by rw [Nat.add_mul, Nat.one_mul]; omega)
          obtain ⟨⟨a1, r1, hp, q1⟩, ce⟩ := this
          obtain ⟨_, ce0⟩ := P0
          exact ⟨⟨a1, r1, (upd_ne ol.symm).trans hp, q1⟩, (upd_ne (ne_of_none ce0 fl)).trans ce⟩
        have L5 : Pl (upd H4 l (.lst (xs ++ [v]))) p q a b c fd := by
          obtain ⟨⟨s4, h4⟩, x1', x2', x3', n4⟩ := L4
          have nm : ∀ t, Names H t → Names H4 t → Names (upd H4 l (.lst (xs ++ [v]))) t := by
            intro t ⟨zs0, e00, _⟩ ⟨zs, e4', r⟩
            exact ⟨zs, (upd_ne (ne_of_none e00 fl)).trans e4', r⟩
          exact ⟨⟨s4, (upd_ne oq.symm).trans h4⟩, nm _ L0.na x1', nm _ L0.nb x2', nm _ L0.nc x3', n4⟩
        exact ⟨zl, z0, z1, z2, z3, P5, ⟨_, _, nn + nd, fd, L5, upd_same, by simp; omega, dw5, va.snoc vd, by omega⟩, keep⟩
      · exact ⟨zl, z0, z1, z2, z3, P2.mono (by rw [Nat.add_mul, Nat.one_mul]; omega), ⟨xs, ds, nn, e0, L2, ex, by omega, dw, va, hne⟩, y2⟩
    · intro σ H' ⟨l0, v0, v1, v2, v3, P2, ⟨xs, ds, nn, e0, L2, ex, lx, dw, va, hne⟩, y2⟩
      have ib : r.toNat * (20000 * 8 ^ j) ≤ 3 * (20000 * 8 ^ j) := Nat.mul_le_mul_right _ (by omega)
      refine ⟨_, v3, l, xs, rfl, .inl ⟨SqL.of ex, fun t ft => ?_⟩⟩
      have ot := PenAt.off P2 ft
      have st := Ab.same_up (o := .tup xs) ft
      have D := Dw.tup (DwAll.same (Same.X st) dw) (by rw [← dw.len]; omega) ot upd_same
      exact k _ _ _ nn e0 (D.mono (by omega)) (by rw [← dw.len]; omega) va hne ((P2.same st).mono (by omega)) (L2.sameX P2 (Same.X st)) (fun x o n1 n2 hx => st _ _ (y2 x o n1 n2 hx))
end
end Hd

set_option Elab.async false
set_option linter.all false
set_option maxRecDepth 100000
set_option maxHeartbeats 8000000
namespace Hd
open PySem L2 Pen RG Dat KEq
theorem word_le {z : Str} (h : isWord (.str z) = true) : z.length ≤ 1000 := Nat.le_trans (word_len h) (by decide)
theorem one_fail : isOne (.tuple [.str "fail"]) = true := by decide +kernel
theorem one_set {z : Str} {n : Nat} {d : PyData} (w : isWord (.str z) = true) (g : gE n d) (h : n ≤ 6) : isOne (.tuple [.str "set", .str z, d]) = true := by
  have e1 : isS (.str "set") "set" = true := by decide +kernel
  rw [one_cons, if_pos e1]
  show (isWord (.str z) && isE 6 d) = true
  rw [w, g 6 h (by decide)]
  rfl
theorem one_send {z : Str} {n : Nat} {u d : PyData} (w : isWord (.str z) = true) (ku : isKey u = true) (g : gE n d) (h : n ≤ 6) : isOne (.tuple [.str "send", .str z, u, d]) = true := by
  have e1 : ¬ isS (.str "send") "set" = true := by decide +kernel
  have e2 : isS (.str "send") "send" = true := by decide +kernel
  rw [one_cons, if_neg e1, if_pos e2]
  show (isWord (.str z) && (isKey u && isE 6 d)) = true
  rw [w, ku, g 6 h (by decide)]
  rfl
theorem yx {p q : Addr} {H H' : Hp} (s : SameX p H H') : SameY p q H H' := fun x o n _ h => s x o n h
theorem gN {H : Hp} {q a b c : Addr} {s e : Int} (h : H q = some (.dK (pl a b c s e))) : DGet H q (.str "names") (some (.ref a)) := by
  have g := DGet.k (k := kN) h
  rw [pl_n] at g
  exact g
theorem gK {H : Hp} {q a b c : Addr} {s e : Int} (h : H q = some (.dK (pl a b c s e))) : DGet H q (.str "keys") (some (.ref b)) := by
  have g := DGet.k (k := kK) h
  rw [pl_k] at g
  exact g
theorem gD {H : Hp} {q a b c : Addr} {s e : Int} (h : H q = some (.dK (pl a b c s e))) : DGet H q (.str "kinds") (some (.ref c)) := by
  have g := DGet.k (k := kD) h
  rw [pl_d] at g
  exact g
theorem gS {H : Hp} {q a b c : Addr} {s e : Int} (h : H q = some (.dK (pl a b c s e))) : DGet H q (.str "sends") (some (.int s)) := by
  have g := DGet.k (k := kS) h
  rw [pl_s] at g
  exact g
section
variable {P : Program} {w : World} {K : PySem.W.Frag} {mg : Str → Option Value} {base : Heap}
theorem scDd : FnScope ["_law_pen_here", "_law_place", "_law_ifs", "_law_way", "_law_key", "_law_c_here"] ["_law_pen_here", "_law_place", "_law_ifs"] (defScope sDd) := ⟨rfl, rfl, rfl, by decide +kernel, rfl, by decide +kernel, by decide +kernel⟩
theorem ok_dd {f fD fP fE fC fS : Addr} {fd fdD fdP fdE fdC fdS : FuncData} (m n : Nat) (hn1 : 16 ≤ n) (F : Fun K "_law_deed" "_law_deed" sDd f fd)
    (GDraw : FnOk P w K mg base CX0 1 fD fdD ["_law_pen_here", "_law_many"] spDraw) (TDraw : DefT K mg "_law_draw" fD) (bDraw : Binds K fdD ["_law_pen_here", "_law_many"] [])
    (GPick : FnOk P w K mg base CX0 2 fP fdP ["_law_pen_here", "_law_items"] (spPick K)) (TPick : DefT K mg "_law_pick" fP) (bPick : Binds K fdP ["_law_pen_here", "_law_items"] [])
    (GE : FnOk P w K mg base CX0 10 fE fdE ["_law_pen_here", "_law_names", "_law_deep"] (spE K 5)) (TE : DefT K mg "_law_e" fE) (bE : Binds K fdE ["_law_pen_here", "_law_names", "_law_deep"] [])
    (GC : FnOk P w K mg base CX0 16 fC fdC ["_law_pen_here", "_law_names", "_law_deep"] (spC K 5)) (TC : DefT K mg "_law_c" fC) (bC : Binds K fdC ["_law_pen_here", "_law_names", "_law_deep"] [])
    (GDs : FnOk P w K mg base CX0 n fS fdS ["_law_pen_here", "_law_place", "_law_ifs"] (spDs K m)) (TDs : DefT K mg "_law_deeds" fS) (bDs : Binds K fdS ["_law_pen_here", "_law_place", "_law_ifs"] []) : FnOk P w K mg base CX0 (n + 1) f fd ["_law_pen_here", "_law_place", "_law_ifs"] (spDd K (m + 1)) := by
  refine F.ok scDd (fun vs H Q E h => ?_) (fun cdv A outer s H vs Q E hr h => ?_)
  · obtain ⟨p, cc, ns, k, q, a, b, c, i, e, rfl, _⟩ := h
    rfl
  · obtain ⟨p, cc, ns, b0, q, a, b, c, j, e0, rfl, lt, j4, P0, hn, hb, L0, k⟩ := h
    have hu := hu_of hr
    have e8 : 1 ≤ 8 ^ j := Nat.one_le_pow _ _ (by decide)
    refine ⟨_, (pss_cons (ps_set (i := 3) scDd.nd rfl (Or.inl rfl) (pe_call GDraw (hr.mono (by omega)) rfl TDraw.mg TDraw.kp bDraw .nil pass0 (pa_cons (pv 0) (pa_cons pe_int pa_nil))))
      (pss_cons (ps_if (PW.pt (pw_and (pt_cmpR op_lt (pv 3) pe_int (nomark _)) (pw_and (pt_cmpR (op_neNil hu) (pe_dget hu (pv 1) pe_str (fun _ _ => rfl)) (Ab.pe_lstA pa_nil) (nomark _)) (pw_and1 (pt_cmpR op_gt (pe_dget hu (pv 1) pe_str (fun _ _ => rfl)) pe_int (nomark _)))))) (pss_cons (ps_dput hu (pv 1) pe_str (pe_op op_sub (pe_dget hu (pv 1) pe_str (fun _ _ => rfl)) pe_int) rfl)
      (pss_cons (ps_set (i := 4) scDd.nd rfl (Or.inl rfl) (pe_call GPick (hr.mono (by omega)) rfl TPick.mg TPick.kp bPick .nil pass0 (pa_cons (pv 0) (pa_cons (pe_op Ab.op_catA (Ab.pe_lstA (pa_cons pe_non (pa_cons pe_non pa_nil))) (pe_dget hu (pv 1) pe_str (fun _ _ => rfl))) pa_nil))))
      (pss_one (ps_ret (Ab.pe_tupA (pa_cons pe_str (pa_cons (pe_call GPick (hr.mono (by omega)) rfl TPick.mg TPick.kp bPick .nil pass0 (pa_cons (pv 0) (pa_cons (pe_dget hu (pv 1) pe_str (fun _ _ => rfl)) pa_nil))) (pa_cons (pv 4) (pa_cons (pe_call GE (hr.mono (by omega)) rfl TE.mg TE.kp bE .nil pass0 (pa_cons (pv 0) (pa_cons (pe_dget hu (pv 1) pe_str (fun _ _ => rfl)) (pa_cons pe_int pa_nil)))) pa_nil))))))))) pss_nil)
      (pss_cons (ps_if (PW.pt (pw_and (pt_cmpR op_eq (pv 3) pe_int (nomark _)) (pw_and1 (pt_cmpR op_gt (pv 2) pe_int (nomark _))))) (pss_cons (ps_set (i := 5) scDd.nd rfl (Or.inl rfl) (pe_call GC (hr.mono (by omega)) rfl TC.mg TC.kp bC .nil pass0 (pa_cons (pv 0) (pa_cons (pe_dget hu (pv 1) pe_str (fun _ _ => rfl)) (pa_cons pe_int pa_nil)))))
      (pss_one (ps_ret (Ab.pe_tupA (pa_cons pe_str (pa_cons (pv 5) (pa_cons (pe_call GDs (hr.mono (by omega)) rfl TDs.mg TDs.kp bDs .nil pass0 (pa_cons (pv 0) (pa_cons (pv 1) (pa_cons (pe_op op_sub (pv 2) pe_int) pa_nil)))) (pa_cons (pe_call GDs (hr.mono (by omega)) rfl TDs.mg TDs.kp bDs .nil pass0 (pa_cons (pv 0) (pa_cons (pv 1) (pa_cons (pe_op op_sub (pv 2) pe_int) pa_nil)))) pa_nil)))))))) pss_nil)
      (pss_cons (ps_if (PW.pt (pw_and (pt_cmpR op_eq (pv 3) pe_int (nomark _)) (pw_and1 (pt_cmpR op_eq (pe_call GDraw (hr.mono (by omega)) rfl TDraw.mg TDraw.kp bDraw .nil pass0 (pa_cons (pv 0) (pa_cons pe_int pa_nil))) pe_int (nomark _))))) (pss_one (ps_ret (Ab.pe_tupA (pa_cons pe_str pa_nil)))) pss_nil)
      (pss_one (ps_ret (Ab.pe_tupA (pa_cons pe_str (pa_cons (pe_call GPick (hr.mono (by omega)) rfl TPick.mg TPick.kp bPick .nil pass0 (pa_cons (pv 0) (pa_cons (pe_dget hu (pv 1) pe_str (fun _ _ => rfl)) pa_nil))) (pa_cons (pe_call GE (hr.mono (by omega)) rfl TE.mg TE.kp bE .nil pass0 (pa_cons (pv 0) (pa_cons (pe_dget hu (pv 1) pe_str (fun _ _ => rfl)) (pa_cons pe_int pa_nil)))) pa_nil)))))))))), ?_⟩
    refine ⟨_, rfl, p, cc, ns, b0, 9, rfl, P0, hn, by omega, by decide, by decide, fun r H1 r0 r9 P1 x1 => ?_⟩
    have L1 := L0.sameX P0 x1
    have y1 : SameY p q H H1 := yx x1
    obtain ⟨s0, hq1⟩ := L1.ex
    refine ⟨_, rfl, _, _, rfl, rfl, _, rfl, ite2 (fun h1 => ?_) (fun h1 => ?_)⟩
    · refine ⟨_, rfl, q, _, rfl, gD hq1, by show 0 ≤ sizeLine; decide, fun l2 G2 f2 n2 s2 e2 => ?_⟩
      have P2 := P1.same s2
      have L2 := L1.sameX P1 (Same.X s2)
      have y2 := y1.trans (yx (Same.X s2))
      have hq2 := s2 _ _ hq1
      obtain ⟨ks, ek, k0, _, _⟩ := L2.nc
      refine ⟨c, l2, _, rfl, rfl, SqL.of ek, by simpa using k0, SqL.of e2, _, rfl, iteT ?_⟩
      refine ⟨_, rfl, q, _, rfl, gS hq2, _, _, rfl, rfl, _, rfl, ite2 (fun h4 => ?_) (fun h4 => ?_)⟩
      · have pS : DPut G2 q (.str "sends") (.int (s0 - 1)) (upd G2 q (.dK (pl a b c (s0 - 1) e0))) := by
          have g := DPut.k (k := kS) (v := .int (s0 - 1)) hq2 (by show 5 < sizeLine; decide)
          rw [pl_putS] at g
          exact g
        obtain ⟨L3, P3⟩ := L2.put (s := s0 - 1) (e := e0) P2
        have y3 : SameY p q H (upd G2 q (.dK (pl a b c (s0 - 1) e0))) := y2.trans SameY.upd
        refine ⟨_, rfl, q, _, rfl, gS hq2, _, _, rfl, rfl, _, rfl, q, _, rfl, pS, ?_⟩
        have hq3 : (upd G2 q (.dK (pl a b c (s0 - 1) e0))) q = some (.dK (pl a b c (s0 - 1) e0)) := upd_same
        generalize upd G2 q (.dK (pl a b c (s0 - 1) e0)) = G3 at L3 P3 y3 hq3 ⊢
        refine ⟨_, rfl, sz (by simp), fun l4 G4 f4 n4 s4 e4 => ?_⟩
        have L4 := L3.sameX P3 (Same.X s4)
        obtain ⟨zs, ez, z0, z10, zl⟩ := L4.nb
        refine ⟨_, rfl, q, _, rfl, gK (s4 _ _ hq3), l4, b, _, _, rfl, rfl, e4, ez, sz (by simp; omega), fun l5 G5 f5 s5 e5 => ?_⟩
        have P5 := (P3.same s4).same s5
        have L5 := L4.sameX (P3.same s4) (Same.X s5)
        refine ⟨p, cc, ns, _, l5, _, rfl, P5, hn, by omega, e5, by simp, by simp; omega, fun u H6 hu' P6 x6 => ?_⟩
        have key : ∃ du, isKey du = true ∧ ∀ G, Dw K p G 0 u du := by
          rcases List.mem_append.mp hu' with hu' | hu'
          · rcases List.mem_cons.mp hu' with e | hu'
            · rw [e]
              exact ⟨_, rfl, fun G => .non⟩
            rcases List.mem_cons.mp hu' with e | hu'
            · rw [e]
              exact ⟨_, rfl, fun G => .non⟩
            · cases hu'
          · obtain ⟨z, hz, rfl⟩ := List.mem_map.mp hu'
            exact ⟨.str z, zl z hz, fun G => .str z (word_le (zl z hz))⟩
        obtain ⟨du, ku, wu⟩ := key
        have L6 := L5.sameX P5 x6
        obtain ⟨s6, hq6⟩ := L6.ex
        obtain ⟨ys, ey, y0, y10, yl⟩ := L6.nc
        refine ⟨_, rfl, _, rfl, q, _, rfl, gD hq6, p, cc, ns, _, c, _, rfl, P6, hn, by omega, ey, by simpa using y0, by simp; omega, fun u7 H7 hu7 P7 x7 => ?_⟩
        obtain ⟨z7, hz7, rfl⟩ := List.mem_map.mp hu7
        have L7 := L6.sameX P6 x7
        obtain ⟨s7, hq7⟩ := L7.ex
        refine ⟨_, rfl, _, rfl, _, rfl, q, _, rfl, gN hq7, p, cc, ns, _, a, 3, rfl, by omega, by omega, by omega, P7, hn, by omega, L7.na, fun v d H8 w8 g8 P8 x8 => ?_⟩
        refine ⟨sz (by simp), fun t Gt ft st et => ?_⟩
        have D : Dw K p Gt (4 + 1) (.ref t) (.tuple [.str "send", .str z7, du, d]) := .tup (.cons (.str _ (by decide)) (.cons (.str z7 (word_le (yl z7 hz7))) (.cons ((wu Gt).mono (by omega)) (.cons (w8.same (Same.X st)) .nil)))) (by simp) (PenAt.off P8 ft) et
        exact k _ _ Gt 1 e0 (D.mono (by omega)) (vD.one (one_send (yl z7 hz7) ku g8 (by decide))) (by omega) ((P8.same st).mono (by omega)) ((L7.sameX P7 x8).sameX P8 (Same.X st)) ((((((y3.trans (yx (Same.X s4))).trans (yx (Same.X s5))).trans (yx x6)).trans (yx x7)).trans (yx x8)).trans (yx (Same.X st)))
      · refine ⟨_, rfl, rfl, _, rfl, ite2 (fun h5 => ?_) (fun h5 => ?_)⟩
        · refine ⟨_, rfl, _, _, rfl, rfl, _, rfl, ite2 (fun h6 => ?_) (fun h6 => ?_)⟩
          · obtain ⟨j, rfl⟩ : ∃ t, j = t + 1 := ⟨j - 1, by have := of_decide_eq_true h6; omega⟩
            have hp8 : 8 ^ (j + 1) = 8 * 8 ^ j := by rw [Nat.pow_succ, Nat.mul_comm]
            have one8 : 1 ≤ 8 ^ j := Nat.one_le_pow _ _ (by decide)
            obtain ⟨sa, hqa⟩ := L2.ex
            refine ⟨_, rfl, _, rfl, q, _, rfl, gN hqa, p, cc, ns, _, a, 3, rfl, by omega, by omega, by omega, P2, hn, by omega, L2.na, fun vc dc Ha wa gc Pa xa => ?_⟩
            have La := L2.sameX P2 xa
            refine ⟨_, rfl, _, rfl, _, rfl, _, rfl, _, _, rfl, rfl, p, cc, ns, _, q, a, b, c, j, e0, by simp, by omega, by omega, Pa, hn, by omega, La, fun v1 d1 Hb n1 f1 wb _ va1 hf1 Pb Lb yb => ?_⟩
            refine ⟨_, rfl, _, rfl, _, rfl, _, _, rfl, rfl, p, cc, ns, _, q, a, b, c, j, f1, by simp, by omega, by omega, Pb, hn, by omega, Lb, fun v2 d2 Hc n2 f2 wc _ va2 hf2 Pc Lc yc => ?_⟩
            refine ⟨sz (by simp), fun t Gt ft st et => ?_⟩
            obtain ⟨s1, hq1⟩ := La.ex
            obtain ⟨s2, hq2⟩ := Lb.ex
            have wa' := ((wa.put noT_dK hq1 yb).put noT_dK hq2 yc).same (Same.X st)
            have wb' := (wb.put noT_dK hq2 yc).same (Same.X st)
            have D : Dw K p Gt (10 + 2 * j + 1) (.ref t) (.tuple [.str "if", dc, .tuple d1, .tuple d2]) := .tup (.cons (.str _ (by decide)) (.cons (wa'.mono (by omega)) (.cons wb' (.cons (wc.same (Same.X st)) .nil)))) (by simp) (PenAt.off Pc ft) et
            exact k _ _ Gt (1 + n1 + n2) f2 (D.mono (by omega)) (.inr ⟨_, _, _, n1, n2, rfl, gc 6 (by decide) (by decide), va1, va2, rfl⟩) (by omega) ((Pc.same st).mono (by rw [hp8]; omega)) (Lc.sameX Pc (Same.X st)) ((((y2.trans (yx xa)).trans yb).trans yc).trans (yx (Same.X st)))
          · refine ⟨_, rfl, rfl, _, rfl, ite2 (fun h7 => ?_) (fun h7 => ?_)⟩
            · refine ⟨_, rfl, p, cc, ns, _, 3, rfl, P2, hn, by omega, by decide, by decide, fun r2 H9 _ _ P9 x9 => ⟨rfl, _, rfl, ite2 (fun h8 => ?_) (fun h8 => ?_)⟩⟩
              · refine ⟨sz (by simp), fun t Gt ft st et => ?_⟩
                have D : Dw K p Gt (0 + 1) (.ref t) (.tuple [.str "fail"]) := .tup (.cons (.str _ (by decide)) .nil) (by simp) (PenAt.off P9 ft) et
                exact k _ _ Gt 1 e0 (D.mono (by omega)) (vD.one one_fail) (by omega) ((P9.same st).mono (by omega)) ((L2.sameX P2 x9).sameX P9 (Same.X st)) ((y2.trans (yx x9)).trans (yx (Same.X st)))
              · have L9 := L2.sameX P2 x9
                have y9 := y2.trans (yx x9)
                obtain ⟨sa, hqa⟩ := L9.ex
                obtain ⟨zs, ez, z0, z10, zl⟩ := L9.na
                refine ⟨_, rfl, _, rfl, q, _, rfl, gN hqa, p, cc, ns, _, a, _, rfl, P9, hn, by omega, ez, by simpa using z0, by simp; omega, fun u Ha hu' Pa xa => ?_⟩
                obtain ⟨z, hz, rfl⟩ := List.mem_map.mp hu'
                have La := L9.sameX P9 xa
                obtain ⟨sb, hqb⟩ := La.ex
                refine ⟨_, rfl, _, rfl, q, _, rfl, gN hqb, p, cc, ns, _, a, 4, rfl, by omega, by omega, by omega, Pa, hn, by omega, La.na, fun v d Hb wb gb Pb xb => ?_⟩
                refine ⟨sz (by simp), fun t Gt ft st et => ?_⟩
                have D : Dw K p Gt (5 + 1) (.ref t) (.tuple [.str "set", .str z, d]) := .tup (.cons (.str _ (by decide)) (.cons (.str z (word_le (zl z hz))) (.cons (wb.same (Same.X st)) .nil))) (by simp) (PenAt.off Pb ft) et
                exact k _ _ Gt 1 e0 (D.mono (by omega)) (vD.one (one_set (zl z hz) gb (by decide))) (by omega) ((Pb.same st).mono (by omega)) ((La.sameX Pa xb).sameX Pb (Same.X st)) (((y9.trans (yx xa)).trans (yx xb)).trans (yx (Same.X st)))
            · obtain ⟨sa, hqa⟩ := L2.ex
              obtain ⟨zs, ez, z0, z10, zl⟩ := L2.na
              refine ⟨_, rfl, _, rfl, q, _, rfl, gN hqa, p, cc, ns, _, a, _, rfl, P2, hn, by omega, ez, by simpa using z0, by simp; omega, fun u Ha hu' Pa xa => ?_⟩
              obtain ⟨z, hz, rfl⟩ := List.mem_map.mp hu'
              have La := L2.sameX P2 xa
              obtain ⟨sb, hqb⟩ := La.ex
              refine ⟨_, rfl, _, rfl, q, _, rfl, gN hqb, p, cc, ns, _, a, 4, rfl, by omega, by omega, by omega, Pa, hn, by omega, La.na, fun v d Hb wb gb Pb xb => ?_⟩
              refine ⟨sz (by simp), fun t Gt ft st et => ?_⟩
              have D : Dw K p Gt (5 + 1) (.ref t) (.tuple [.str "set", .str z, d]) := .tup (.cons (.str _ (by decide)) (.cons (.str z (word_le (zl z hz))) (.cons (wb.same (Same.X st)) .nil))) (by simp) (PenAt.off Pb ft) et
              exact k _ _ Gt 1 e0 (D.mono (by omega)) (vD.one (one_set (zl z hz) gb (by decide))) (by omega) ((Pb.same st).mono (by omega)) ((La.sameX Pa xb).sameX Pb (Same.X st)) (((y2.trans (yx xa)).trans (yx xb)).trans (yx (Same.X st)))
        · refine ⟨_, rfl, rfl, _, rfl, ite2 (fun h7 => ?_) (fun h7 => ?_)⟩
          · refine ⟨_, rfl, p, cc, ns, _, 3, rfl, P2, hn, by omega, by decide, by decide, fun r2 H9 _ _ P9 x9 => ⟨rfl, _, rfl, ite2 (fun h8 => ?_) (fun h8 => ?_)⟩⟩
            · refine ⟨sz (by simp), fun t Gt ft st et => ?_⟩
              have D : Dw K p Gt (0 + 1) (.ref t) (.tuple [.str "fail"]) := .tup (.cons (.str _ (by decide)) .nil) (by simp) (PenAt.off P9 ft) et
              exact k _ _ Gt 1 e0 (D.mono (by omega)) (vD.one one_fail) (by omega) ((P9.same st).mono (by omega)) ((L2.sameX P2 x9).sameX P9 (Same.X st)) ((y2.trans (yx x9)).trans (yx (Same.X st)))
            · have L9 := L2.sameX P2 x9
              have y9 := y2.trans (yx x9)
              obtain ⟨sa, hqa⟩ := L9.ex
              obtain ⟨zs, ez, z0, z10, zl⟩ := L9.na
              refine ⟨_, rfl, _, rfl, q, _, rfl, gN hqa, p, cc, ns, _, a, _, rfl, P9, hn, by omega, ez, by simpa using z0, by simp; omega, fun u Ha hu' Pa xa => ?_⟩
              obtain ⟨z, hz, rfl⟩ := List.mem_map.mp hu'
              have La := L9.sameX P9 xa
              obtain ⟨sb, hqb⟩ := La.ex
              refine ⟨_, rfl, _, rfl, q, _, rfl, gN hqb, p, cc, ns, _, a, 4, rfl, by omega, by omega, by omega, Pa, hn, by omega, La.na, fun v d Hb wb gb Pb xb => ?_⟩
              refine ⟨sz (by simp), fun t Gt ft st et => ?_⟩
              have D : Dw K p Gt (5 + 1) (.ref t) (.tuple [.str "set", .str z, d]) := .tup (.cons (.str _ (by decide)) (.cons (.str z (word_le (zl z hz))) (.cons (wb.same (Same.X st)) .nil))) (by simp) (PenAt.off Pb ft) et
              exact k _ _ Gt 1 e0 (D.mono (by omega)) (vD.one (one_set (zl z hz) gb (by decide))) (by omega) ((Pb.same st).mono (by omega)) ((La.sameX Pa xb).sameX Pb (Same.X st)) (((y9.trans (yx xa)).trans (yx xb)).trans (yx (Same.X st)))
          · obtain ⟨sa, hqa⟩ := L2.ex
            obtain ⟨zs, ez, z0, z10, zl⟩ := L2.na
            refine ⟨_, rfl, _, rfl, q, _, rfl, gN hqa, p, cc, ns, _, a, _, rfl, P2, hn, by omega, ez, by simpa using z0, by simp; omega, fun u Ha hu' Pa xa => ?_⟩
            obtain ⟨z, hz, rfl⟩ := List.mem_map.mp hu'
            have La := L2.sameX P2 xa
            obtain ⟨sb, hqb⟩ := La.ex
            refine ⟨_, rfl, _, rfl, q, _, rfl, gN hqb, p, cc, ns, _, a, 4, rfl, by omega, by omega, by omega, Pa, hn, by omega, La.na, fun v d Hb wb gb Pb xb => ?_⟩
            refine ⟨sz (by simp), fun t Gt ft st et => ?_⟩
            have D : Dw K p Gt (5 + 1) (.ref t) (.tuple [.str "set", .str z, d]) := .tup (.cons (.str _ (by decide)) (.cons (.str z (word_le (zl z hz))) (.cons (wb.same (Same.X st)) .nil))) (by simp) (PenAt.off Pb ft) et
            exact k _ _ Gt 1 e0 (D.mono (by omega)) (vD.one (one_set (zl z hz) gb (by decide))) (by omega) ((Pb.same st).mono (by omega)) ((La.sameX Pa xb).sameX Pb (Same.X st)) (((y2.trans (yx xa)).trans (yx xb)).trans (yx (Same.X st)))
    · refine ⟨_, rfl, rfl, _, rfl, ite2 (fun h5 => ?_) (fun h5 => ?_)⟩
      · refine ⟨_, rfl, _, _, rfl, rfl, _, rfl, ite2 (fun h6 => ?_) (fun h6 => ?_)⟩
        · obtain ⟨j, rfl⟩ : ∃ t, j = t + 1 := ⟨j - 1, by have := of_decide_eq_true h6; omega⟩
          have hp8 : 8 ^ (j + 1) = 8 * 8 ^ j := by rw [Nat.pow_succ, Nat.mul_comm]
          have one8 : 1 ≤ 8 ^ j := Nat.one_le_pow _ _ (by decide)
          obtain ⟨sa, hqa⟩ := L1.ex
          refine ⟨_, rfl, _, rfl, q, _, rfl, gN hqa, p, cc, ns, _, a, 3, rfl, by omega, by omega, by omega, P1, hn, by omega, L1.na, fun vc dc Ha wa gc Pa xa => ?_⟩
          have La := L1.sameX P1 xa
          refine ⟨_, rfl, _, rfl, _, rfl, _, rfl, _, _, rfl, rfl, p, cc, ns, _, q, a, b, c, j, e0, by simp, by omega, by omega, Pa, hn, by omega, La, fun v1 d1 Hb n1 f1 wb _ va1 hf1 Pb Lb yb => ?_⟩
          refine ⟨_, rfl, _, rfl, _, rfl, _, _, rfl, rfl, p, cc, ns, _, q, a, b, c, j, f1, by simp, by omega, by omega, Pb, hn, by omega, Lb, fun v2 d2 Hc n2 f2 wc _ va2 hf2 Pc Lc yc => ?_⟩
          refine ⟨sz (by simp), fun t Gt ft st et => ?_⟩
          obtain ⟨s1, hq1⟩ := La.ex
          obtain ⟨s2, hq2⟩ := Lb.ex
          have wa' := ((wa.put noT_dK hq1 yb).put noT_dK hq2 yc).same (Same.X st)
          have wb' := (wb.put noT_dK hq2 yc).same (Same.X st)
          have D : Dw K p Gt (10 + 2 * j + 1) (.ref t) (.tuple [.str "if", dc, .tuple d1, .tuple d2]) := .tup (.cons (.str _ (by decide)) (.cons (wa'.mono (by omega)) (.cons wb' (.cons (wc.same (Same.X st)) .nil)))) (by simp) (PenAt.off Pc ft) et
          exact k _ _ Gt (1 + n1 + n2) f2 (D.mono (by omega)) (.inr ⟨_, _, _, n1, n2, rfl, gc 6 (by decide) (by decide), va1, va2, rfl⟩) (by omega) ((Pc.same st).mono (by rw [hp8]; omega)) (Lc.sameX Pc (Same.X st)) ((((y1.trans (yx xa)).trans yb).trans yc).trans (yx (Same.X st)))
        · refine ⟨_, rfl, rfl, _, rfl, ite2 (fun h7 => ?_) (fun h7 => ?_)⟩
          · refine ⟨_, rfl, p, cc, ns, _, 3, rfl, P1, hn, by omega, by decide, by decide, fun r2 H9 _ _ P9 x9 => ⟨rfl, _, rfl, ite2 (fun h8 => ?_) (fun h8 => ?_)⟩⟩
            · refine ⟨sz (by simp), fun t Gt ft st et => ?_⟩
              have D : Dw K p Gt (0 + 1) (.ref t) (.tuple [.str "fail"]) := .tup (.cons (.str _ (by decide)) .nil) (by simp) (PenAt.off P9 ft) et
              exact k _ _ Gt 1 e0 (D.mono (by omega)) (vD.one one_fail) (by omega) ((P9.same st).mono (by omega)) ((L1.sameX P1 x9).sameX P9 (Same.X st)) ((y1.trans (yx x9)).trans (yx (Same.X st)))
            · have L9 := L1.sameX P1 x9
              have y9 := y1.trans (yx x9)
              obtain ⟨sa, hqa⟩ := L9.ex
              obtain ⟨zs, ez, z0, z10, zl⟩ := L9.na
              refine ⟨_, rfl, _, rfl, q, _, rfl, gN hqa, p, cc, ns, _, a, _, rfl, P9, hn, by omega, ez, by simpa using z0, by simp; omega, fun u Ha hu' Pa xa => ?_⟩
              obtain ⟨z, hz, rfl⟩ := List.mem_map.mp hu'
              have La := L9.sameX P9 xa
              obtain ⟨sb, hqb⟩ := La.ex
              refine ⟨_, rfl, _, rfl, q, _, rfl, gN hqb, p, cc, ns, _, a, 4, rfl, by omega, by omega, by omega, Pa, hn, by omega, La.na, fun v d Hb wb gb Pb xb => ?_⟩
              refine ⟨sz (by simp), fun t Gt ft st et => ?_⟩
              have D : Dw K p Gt (5 + 1) (.ref t) (.tuple [.str "set", .str z, d]) := .tup (.cons (.str _ (by decide)) (.cons (.str z (word_le (zl z hz))) (.cons (wb.same (Same.X st)) .nil))) (by simp) (PenAt.off Pb ft) et
              exact k _ _ Gt 1 e0 (D.mono (by omega)) (vD.one (one_set (zl z hz) gb (by decide))) (by omega) ((Pb.same st).mono (by omega)) ((La.sameX Pa xb).sameX Pb (Same.X st)) (((y9.trans (yx xa)).trans (yx xb)).trans (yx (Same.X st)))
          · obtain ⟨sa, hqa⟩ := L1.ex
            obtain ⟨zs, ez, z0, z10, zl⟩ := L1.na
            refine ⟨_, rfl, _, rfl, q, _, rfl, gN hqa, p, cc, ns, _, a, _, rfl, P1, hn, by omega, ez, by simpa using z0, by simp; omega, fun u Ha hu' Pa xa => ?_⟩
            obtain ⟨z, hz, rfl⟩ := List.mem_map.mp hu'
            have La := L1.sameX P1 xa
            obtain ⟨sb, hqb⟩ := La.ex
            refine ⟨_, rfl, _, rfl, q, _, rfl, gN hqb, p, cc, ns, _, a, 4, rfl, by omega, by omega, by omega, Pa, hn, by omega, La.na, fun v d Hb wb gb Pb xb => ?_⟩
            refine ⟨sz (by simp), fun t Gt ft st et => ?_⟩
            have D : Dw K p Gt (5 + 1) (.ref t) (.tuple [.str "set", .str z, d]) := .tup (.cons (.str _ (by decide)) (.cons (.str z (word_le (zl z hz))) (.cons (wb.same (Same.X st)) .nil))) (by simp) (PenAt.off Pb ft) et
            exact k _ _ Gt 1 e0 (D.mono (by omega)) (vD.one (one_set (zl z hz) gb (by decide))) (by omega) ((Pb.same st).mono (by omega)) ((La.sameX Pa xb).sameX Pb (Same.X st)) (((y1.trans (yx xa)).trans (yx xb)).trans (yx (Same.X st)))
      · refine ⟨_, rfl, rfl, _, rfl, ite2 (fun h7 => ?_) (fun h7 => ?_)⟩
        · refine ⟨_, rfl, p, cc, ns, _, 3, rfl, P1, hn, by omega, by decide, by decide, fun r2 H9 _ _ P9 x9 => ⟨rfl, _, rfl, ite2 (fun h8 => ?_) (fun h8 => ?_)⟩⟩
          · refine ⟨sz (by simp), fun t Gt ft st et => ?_⟩
            have D : Dw K p Gt (0 + 1) (.ref t) (.tuple [.str "fail"]) := .tup (.cons (.str _ (by decide)) .nil) (by simp) (PenAt.off P9 ft) et
            exact k _ _ Gt 1 e0 (D.mono (by omega)) (vD.one one_fail) (by omega) ((P9.same st).mono (by omega)) ((L1.sameX P1 x9).sameX P9 (Same.X st)) ((y1.trans (yx x9)).trans (yx (Same.X st)))
          · have L9 := L1.sameX P1 x9
            have y9 := y1.trans (yx x9)
            obtain ⟨sa, hqa⟩ := L9.ex
            obtain ⟨zs, ez, z0, z10, zl⟩ := L9.na
            refine ⟨_, rfl, _, rfl, q, _, rfl, gN hqa, p, cc, ns, _, a, _, rfl, P9, hn, by omega, ez, by simpa using z0, by simp; omega, fun u Ha hu' Pa xa => ?_⟩
            obtain ⟨z, hz, rfl⟩ := List.mem_map.mp hu'
            have La := L9.sameX P9 xa
            obtain ⟨sb, hqb⟩ := La.ex
            refine ⟨_, rfl, _, rfl, q, _, rfl, gN hqb, p, cc, ns, _, a, 4, rfl, by omega, by omega, by omega, Pa, hn, by omega, La.na, fun v d Hb wb gb Pb xb => ?_⟩
            refine ⟨sz (by simp), fun t Gt ft st et => ?_⟩
            have D : Dw K p Gt (5 + 1) (.ref t) (.tuple [.str "set", .str z, d]) := .tup (.cons (.str _ (by decide)) (.cons (.str z (word_le (zl z hz))) (.cons (wb.same (Same.X st)) .nil))) (by simp) (PenAt.off Pb ft) et
            exact k _ _ Gt 1 e0 (D.mono (by omega)) (vD.one (one_set (zl z hz) gb (by decide))) (by omega) ((Pb.same st).mono (by omega)) ((La.sameX Pa xb).sameX Pb (Same.X st)) (((y9.trans (yx xa)).trans (yx xb)).trans (yx (Same.X st)))
        · obtain ⟨sa, hqa⟩ := L1.ex
          obtain ⟨zs, ez, z0, z10, zl⟩ := L1.na
          refine ⟨_, rfl, _, rfl, q, _, rfl, gN hqa, p, cc, ns, _, a, _, rfl, P1, hn, by omega, ez, by simpa using z0, by simp; omega, fun u Ha hu' Pa xa => ?_⟩
          obtain ⟨z, hz, rfl⟩ := List.mem_map.mp hu'
          have La := L1.sameX P1 xa
          obtain ⟨sb, hqb⟩ := La.ex
          refine ⟨_, rfl, _, rfl, q, _, rfl, gN hqb, p, cc, ns, _, a, 4, rfl, by omega, by omega, by omega, Pa, hn, by omega, La.na, fun v d Hb wb gb Pb xb => ?_⟩
          refine ⟨sz (by simp), fun t Gt ft st et => ?_⟩
          have D : Dw K p Gt (5 + 1) (.ref t) (.tuple [.str "set", .str z, d]) := .tup (.cons (.str _ (by decide)) (.cons (.str z (word_le (zl z hz))) (.cons (wb.same (Same.X st)) .nil))) (by simp) (PenAt.off Pb ft) et
          exact k _ _ Gt 1 e0 (D.mono (by omega)) (vD.one (one_set (zl z hz) gb (by decide))) (by omega) ((Pb.same st).mono (by omega)) ((La.sameX Pa xb).sameX Pb (Same.X st)) (((y1.trans (yx xa)).trans (yx xb)).trans (yx (Same.X st)))
end
end Hd

set_option Elab.async false
set_option linter.all false
set_option maxRecDepth 100000
set_option maxHeartbeats 8000000
namespace Hd
open PySem L2 Pen RG Dat KEq
abbrev sHn : Stmt := top 43
theorem merge_pl (a b c : Addr) (s e : Int) : mergeK [] [(kN, .ref a), (kK, .ref b), (kD, .ref c), (kS, .int s), (kE, .int e)] = pl a b c s e := by
  have e1 : putK [] kN (V.ref a) = [(kN, V.ref a)] := putK_new _ rfl
  have e2 : putK [(kN, V.ref a)] kK (V.ref b) = [(kN, V.ref a), (kK, V.ref b)] := putK_new _ (valV_neg (show ¬ kN = kK by decide +kernel))
  have e3 : putK [(kN, V.ref a), (kK, V.ref b)] kD (V.ref c) = [(kN, V.ref a), (kK, V.ref b), (kD, V.ref c)] := putK_new _ ((valV_neg (show ¬ kN = kD by decide +kernel)).trans (valV_neg (show ¬ kK = kD by decide +kernel)))
  have e4 : putK [(kN, V.ref a), (kK, V.ref b), (kD, V.ref c)] kS (V.int s) = [(kN, V.ref a), (kK, V.ref b), (kD, V.ref c), (kS, V.int s)] := putK_new _ (((valV_neg (show ¬ kN = kS by decide +kernel)).trans (valV_neg (show ¬ kK = kS by decide +kernel))).trans (valV_neg (show ¬ kD = kS by decide +kernel)))
  have e5 : putK [(kN, V.ref a), (kK, V.ref b), (kD, V.ref c), (kS, V.int s)] kE (V.int e) = pl a b c s e := putK_new _ ((((valV_neg (show ¬ kN = kE by decide +kernel)).trans (valV_neg (show ¬ kK = kE by decide +kernel))).trans (valV_neg (show ¬ kD = kE by decide +kernel))).trans (valV_neg (show ¬ kS = kE by decide +kernel)))
  show putK (putK (putK (putK (putK [] kN (V.ref a)) kK (V.ref b)) kD (V.ref c)) kS (V.int s)) kE (V.int e) = _
  rw [e1, e2, e3, e4, e5]
def spHn (K : PySem.W.Frag) : Sp := fun vs H Q _ => ∃ (p cc : Addr) (ns : List Int) (k : Nat) (a b c : Addr) (s : Int), vs = [.ref p, .ref a, .ref b, .ref c, .int s] ∧ PenAt H p cc ns k ∧ ns.length ≤ 63 ∧ k + 2 ^ 26 ≤ 2 ^ 36 ∧ Names H a ∧ Names H b ∧ Names H c ∧
  ∀ (v : V) (ds : List PyData) (H' : Hp) (n : Nat), Dw K p H' 16 v (.tuple ds) → ds.length ≤ 5 → vA (vD 3) ds n → n ≤ 12 → PenAt H' p cc ns (k + 2 ^ 26) → SameX p H H' → Q v H'
section
variable {P : Program} {w : World} {K : PySem.W.Frag} {mg : Str → Option Value} {base : Heap}
theorem ok_dss {f fD fP fE fC fd' : Addr} {fd fdD fdP fdE fdC fdd : FuncData} (F : Fun K "_law_deeds" "_law_deeds" sDs f fd) (FD : Fun K "_law_deed" "_law_deed" sDd fd' fdd) (T : TxtH mg) (TR : mg "range" = none)
    (GDraw : FnOk P w K mg base CX0 1 fD fdD ["_law_pen_here", "_law_many"] spDraw) (TDraw : DefT K mg "_law_draw" fD) (bDraw : Binds K fdD ["_law_pen_here", "_law_many"] [])
    (GPick : FnOk P w K mg base CX0 2 fP fdP ["_law_pen_here", "_law_items"] (spPick K)) (TPick : DefT K mg "_law_pick" fP) (bPick : Binds K fdP ["_law_pen_here", "_law_items"] [])
    (GE : FnOk P w K mg base CX0 10 fE fdE ["_law_pen_here", "_law_names", "_law_deep"] (spE K 5)) (TE : DefT K mg "_law_e" fE) (bE : Binds K fdE ["_law_pen_here", "_law_names", "_law_deep"] [])
    (GC : FnOk P w K mg base CX0 16 fC fdC ["_law_pen_here", "_law_names", "_law_deep"] (spC K 5)) (TC : DefT K mg "_law_c" fC) (bC : Binds K fdC ["_law_pen_here", "_law_names", "_law_deep"] [])
    (TDs : DefT K mg "_law_deeds" f) (bDs : Binds K fd ["_law_pen_here", "_law_place", "_law_ifs"] []) (TDd : DefT K mg "_law_deed" fd') (bDd : Binds K fdd ["_law_pen_here", "_law_place", "_law_ifs"] []) : ∀ m, FnOk P w K mg base CX0 (2 * m + 16) f fd ["_law_pen_here", "_law_place", "_law_ifs"] (spDs K m)
  | 0 => by
    refine F.ok scDs (fun vs H Q E h => ?_) (fun cdv A outer s H vs Q E hr h => ?_)
    · obtain ⟨p, cc, ns, k, q, a, b, c, i, e, rfl, _⟩ := h
      rfl
    · obtain ⟨p, cc, ns, k, q, a, b, c, i, e, rfl, lt, _⟩ := h
      exact absurd lt (Nat.not_lt_zero _)
  | m + 1 => ok_ds (m + 1) (2 * m + 17) (by omega) F T TR GDraw TDraw bDraw (ok_dd m (2 * m + 16) (by omega) FD GDraw TDraw bDraw GPick TPick bPick GE TE bE GC TC bC (ok_dss F FD T TR GDraw TDraw bDraw GPick TPick bPick GE TE bE GC TC bC TDs bDs TDd bDd m) TDs bDs) TDd bDd
theorem scHn : FnScope ["_law_pen_here", "_law_names", "_law_keys", "_law_kinds", "_law_sends", "_law_place", "_law_found"] ["_law_pen_here", "_law_names", "_law_keys", "_law_kinds", "_law_sends"] (defScope sHn) := ⟨rfl, rfl, rfl, by decide +kernel, rfl, by decide +kernel, by decide +kernel⟩
theorem ok_hn {f fD fP fE fS : Addr} {fd fdD fdP fdE fdS : FuncData} (F : Fun K "_law_handler" "_law_handler" sHn f fd)
    (GDraw : FnOk P w K mg base CX0 1 fD fdD ["_law_pen_here", "_law_many"] spDraw) (TDraw : DefT K mg "_law_draw" fD) (bDraw : Binds K fdD ["_law_pen_here", "_law_many"] [])
    (GPick : FnOk P w K mg base CX0 2 fP fdP ["_law_pen_here", "_law_items"] (spPick K)) (TPick : DefT K mg "_law_pick" fP) (bPick : Binds K fdP ["_law_pen_here", "_law_items"] [])
    (GE : FnOk P w K mg base CX0 10 fE fdE ["_law_pen_here", "_law_names", "_law_deep"] (spE K 5)) (TE : DefT K mg "_law_e" fE) (bE : Binds K fdE ["_law_pen_here", "_law_names", "_law_deep"] [])
    (GDs : FnOk P w K mg base CX0 24 fS fdS ["_law_pen_here", "_law_place", "_law_ifs"] (spDs K 4)) (TDs : DefT K mg "_law_deeds" fS) (bDs : Binds K fdS ["_law_pen_here", "_law_place", "_law_ifs"] []) : FnOk P w K mg base CX0 25 f fd ["_law_pen_here", "_law_names", "_law_keys", "_law_kinds", "_law_sends"] (spHn K) := by
  refine F.ok scHn (fun vs H Q E h => ?_) (fun cdv A outer s H vs Q E hr h => ?_)
  · obtain ⟨p, cc, ns, k, a, b, c, s0, rfl, _⟩ := h
    rfl
  · obtain ⟨p, cc, ns, b0, a, b, c, s0, rfl, P0, hn, hb, Na, Nb, Nc, k⟩ := h
    have hu := hu_of hr
    refine ⟨_, (pss_cons (ps_set (i := 5) scHn.nd rfl (Or.inl rfl) (pe_disp (pps_cons pe_str (pv 1) (pps_cons pe_str (pv 2) (pps_cons pe_str (pv 3) (pps_cons pe_str (pv 4) (pps_cons pe_str pe_int pps_nil))))) (by decide +kernel) rfl (by simp) (by decide)))
      (pss_cons (ps_set (i := 6) scHn.nd rfl (Or.inl rfl) (pe_call GDs (hr.mono (by decide)) rfl TDs.mg TDs.kp bDs .nil pass0 (pa_cons (pv 0) (pa_cons (pv 5) (pa_cons pe_int pa_nil)))))
      (pss_cons (ps_if (PW.pt (pw_and (pt_cmpR (op_neNil hu) (pv 3) (Ab.pe_lstA pa_nil) (nomark _)) (pw_and (pt_cmpR op_gt (pe_dget hu (pv 5) pe_str (fun _ _ => rfl)) pe_int (nomark _)) (pw_and1 (pt_cmpR op_gt (pe_call GDraw (hr.mono (by decide)) rfl TDraw.mg TDraw.kp bDraw .nil pass0 (pa_cons (pv 0) (pa_cons pe_int pa_nil))) pe_int (nomark _)))))) (pss_one (ps_set (i := 6) scHn.nd rfl (Or.inl rfl) (pe_op L2.op_catA (pv 6) (Ab.pe_tupA (pa_cons (Ab.pe_tupA (pa_cons pe_str (pa_cons (pe_call GPick (hr.mono (by decide)) rfl TPick.mg TPick.kp bPick .nil pass0 (pa_cons (pv 0) (pa_cons (pv 3) pa_nil))) (pa_cons pe_non (pa_cons (pe_call GE (hr.mono (by decide)) rfl TE.mg TE.kp bE .nil pass0 (pa_cons (pv 0) (pa_cons (pv 1) (pa_cons pe_int pa_nil)))) pa_nil))))) pa_nil))))) pss_nil)
      (pss_one (ps_ret (pv 6)))))), ?_⟩
    intro q hq0
    refine ⟨_, rfl, _, rfl, _, rfl, _, rfl, upd_same, [(kN, .ref a), (kK, .ref b), (kD, .ref c), (kS, .int s0), (kE, .int 11)], rfl, (by simp), ?_⟩
    rw [merge_pl]
    have oq := PenAt.off P0 hq0
    have sq : Same H (upd (upd H q (.dK [])) q (.dK (pl a b c s0 11))) := fun x o hx => by
      have n := ne_of_none hx hq0
      rw [upd_ne n, upd_ne n]
      exact hx
    have hq1 : (upd (upd H q (.dK [])) q (.dK (pl a b c s0 11))) q = some (.dK (pl a b c s0 11)) := upd_same
    generalize upd (upd H q (.dK [])) q (.dK (pl a b c s0 11)) = G at sq hq1 ⊢
    have P1 := P0.same sq
    have L1 : Pl G p q a b c 11 := ⟨⟨_, hq1⟩, Na.same P0 (Same.X sq), Nb.same P0 (Same.X sq), Nc.same P0 (Same.X sq), oq.symm⟩
    refine ⟨_, rfl, _, rfl, p, cc, ns, b0, q, a, b, c, 3, 11, rfl, by omega, by omega, P1, hn, by omega, L1, fun v ds H2 nd fd w2 l4 va hnf P2 L2 y2 => ?_⟩
    have x2 : SameX p H H2 := fun x o n hx => y2 x o n (ne_of_none hx hq0) (sq _ _ hx)
    obtain ⟨s2, hq2⟩ := L2.ex
    obtain ⟨ks, ek, k0, _, _⟩ := L2.nc
    have stop : ∀ G2, PenAt G2 p cc ns (b0 + 70000 * 8 ^ 3 + 1) → SameX p H2 G2 → Q v G2 := fun G2 P3 x3 => k v ds G2 nd ((w2.same x3).mono (by omega)) (by omega) va (by omega) (P3.mono (by omega)) (x2.trans x3)
    refine ⟨_, rfl, by show 0 ≤ sizeLine; decide, fun l3 G3 f3 n3 s3 e3 => ?_⟩
    refine ⟨c, l3, _, rfl, rfl, SqL.of (s3 _ _ ek), by simpa using k0, SqL.of e3, _, rfl, iteT ?_⟩
    refine ⟨_, rfl, q, _, rfl, gS (s3 _ _ hq2), _, _, rfl, rfl, _, rfl, ite2 (fun h4 => ?_) (fun h4 => ?_)⟩
    · refine ⟨_, rfl, p, cc, ns, _, 3, rfl, P2.same s3, hn, by omega, by decide, by decide, fun r H4 _ _ P4 x4 => ⟨_, _, rfl, rfl, _, rfl, ite2 (fun h5 => ?_) (fun h5 => ?_)⟩⟩
      · have x24 : SameX p H2 H4 := (Same.X s3).trans x4
        have L4 := L2.sameX P2 x24
        obtain ⟨zs, ez, z0, z10, zl⟩ := L4.nc
        refine ⟨_, rfl, _, rfl, _, rfl, p, cc, ns, _, c, _, rfl, P4, hn, by omega, ez, by simpa using z0, by simp; omega, fun u H5 hu' P5 x5 => ?_⟩
        obtain ⟨z, hz, rfl⟩ := List.mem_map.mp hu'
        refine ⟨_, rfl, _, rfl, p, cc, ns, _, a, 2, rfl, by omega, by omega, by omega, P5, hn, by omega, (L4.sameX P4 x5).na, fun v6 d6 H6 w6 g6 P6 x6 => ?_⟩
        refine ⟨sz (by simp), fun t7 H7 f7 s7 e7 => ⟨sz (by simp), fun t8 H8 f8 s8 e8 => ?_⟩⟩
        have o7 := PenAt.off P6 f7
        have o8 := PenAt.off (P6.same s7) f8
        have D7 : Dw K p H8 (3 + 1) (.ref t7) (.tuple [.str "send", .str z, .none, d6]) := .tup (.cons (.str _ (by decide)) (.cons (.str z (word_le (zl z hz))) (.cons .non (.cons (w6.same (Same.X (s7.trans s8))) .nil)))) (by simp) o7 (s8 _ _ e7)
        have D8 : Dw K p H8 (3 + 1 + 1) (.ref t8) (.tuple [.tuple [.str "send", .str z, .none, d6]]) := .tup (.cons D7 .nil) (by simp) o8 e8
        have x28 : SameX p H2 H8 := (((x24.trans x5).trans x6).trans (Same.X s7)).trans (Same.X s8)
        have w8 := w2.same x28
        have vo : vD 3 (.tuple [.str "send", .str z, .none, d6]) 1 := vD.one (one_send (zl z hz) rfl g6 (by decide))
        have P8 := (P6.same s7).same s8
        obtain ⟨rp8, sm8, dp8, tu8, tl8⟩ := w8
        cases rp8 with
        | @tup a9 xs9 _ q9 rr9 =>
          have q9' : SqT K H8 a9 xs9 := sqT_same delp_le q9
          refine ⟨a9, t8, xs9, _, rfl, rfl, q9', SqT.of e8, sz (by rw [RpAll.len rr9]; simp; omega), fun e => ?_, fun _ e => ?_, fun _ _ t9 f9 => ?_⟩
          · exact ⟨_, rfl, k _ _ _ 1 (D8.mono (by omega)) (by simp) ⟨1, 0, vo, rfl, rfl⟩ (by decide) (P8.mono (by omega)) (x2.trans x28)⟩
          · cases e
          · have o9 := PenAt.off P8 f9
            have s9 := Ab.same_up (o := .tup (xs9 ++ [V.ref t7])) f9
            have ap : ∀ {vs : List V} {es : List PyData}, RpAll K (delp p H8) vs es → smAll es = true → PyData.depthAll es ≤ 15 → tuAll es = true → tlAll es ≤ 20 → DwAll K p H8 15 vs es := by
              intro vs es r
              induction r using RpAll.rec (motive_1 := fun _ _ _ => True) with
              | nil => intro _ _ _ _; exact .nil
              | cons h t _ ih =>
                intro s1 s2 s3 s4
                have a1 := sm_cons s1
                have a2 := Nat.max_le.mp s2
                have a3 : (tu _ && tuAll _) = true := s3
                rw [Bool.and_eq_true] at a3
                have a4 := Nat.max_le.mp s4
                exact .cons ⟨h, a1.1, a2.1, a3.1, a4.1⟩ (ih a1.2 a2.2 a3.2 a4.2)
              | _ => trivial
            have DA := ap rr9 (sm_tup sm8) (by have : PyData.depthAll ds + 1 ≤ 16 := dp8; omega) tu8 (Nat.max_le.mp tl8).2
            have D8' : Dw K p H8 15 (.ref t7) (.tuple [.str "send", .str z, .none, d6]) := D7.mono (by omega)
            have D9 : Dw K p (upd H8 t9 (.tup (xs9 ++ [V.ref t7]))) (15 + 1) (.ref t9) (.tuple (ds ++ [.tuple [.str "send", .str z, .none, d6]])) := .tup (DwAll.same (Same.X s9) (DA.app (.cons D8' .nil))) (by simp; omega) o9 upd_same
            exact ⟨_, rfl, k _ _ _ (nd + 1) (D9.mono (by omega)) (by simp; omega) (va.snoc vo) (by omega) ((P8.same s9).mono (by omega)) ((x2.trans x28).trans (Same.X s9))⟩
      · exact ⟨_, rfl, stop H4 P4 ((Same.X s3).trans x4)⟩
    · exact ⟨_, rfl, stop G3 ((P2.same s3).mono (by omega)) (Same.X s3)⟩
end
end Hd

set_option Elab.async false
set_option linter.all false
set_option maxRecDepth 100000
set_option maxHeartbeats 2000000
/-! sorted(d) of a dict whose keys are pairs of texts. -/
namespace KSrt
open PySem PySem.Spec PyProof.Rows PyProof.Rows.G L2
abbrev kp (z : PySem.Str × PySem.Str) : List L2.Key := [Sum.inr z.1, Sum.inr z.2]
abbrev ordOf (z : PySem.Str × PySem.Str) : List (Int ⊕ List Nat) := [Sum.inr z.1.cps.toList, Sum.inr z.2.cps.toList]
def lt2 (a b : PySem.Str × PySem.Str) : Bool := lexLt itemOrd (ordOf a) (ordOf b)
def At2 (h : Heap) (z : PySem.Str × PySem.Str) (b : Addr) : Prop := ∃ (o : Obj) (t u : Tok) (n : Nat), h.get? b = some o ∧ o.cls = .type "tuple" ∧ o.data = .seq #[.str z.1 t, .str z.2 u] n
def dec (h : Heap) : Value → (PySem.Str × PySem.Str) × Addr
  | .ref b => match h.get? b with
    | some o => match o.data with
      | .seq xs _ => match xs.toList with
        | [.str x _, .str y _] => ((x, y), b)
        | _ => ((Str.empty, Str.empty), 0)
      | _ => ((Str.empty, Str.empty), 0)
    | none => ((Str.empty, Str.empty), 0)
  | _ => ((Str.empty, Str.empty), 0)
theorem dec_at {h : Heap} {z : PySem.Str × PySem.Str} {b : Addr} (x : At2 h z b) : dec h (.ref b) = (z, b) := by
  obtain ⟨o, t, u, n, e, c, d⟩ := x
  unfold dec
  simp only [e, d]
theorem key_at {h : Heap} {z : PySem.Str × PySem.Str} {b : Addr} (x : At2 h z b) : tupKeyC h (fun _ => true) (.ref b) = some (ordOf z) := by
  obtain ⟨o, t, u, n, e, c, d⟩ := x
  unfold tupKeyC isTupObj tupKey
  simp only [e, c, d]
  rfl
theorem At2.keep {h h' : Heap} {z : PySem.Str × PySem.Str} {b : Addr} (k : ∀ b o, h.get? b = some o → h'.get? b = some o) (x : At2 h z b) : At2 h' z b := by
  obtain ⟨o, t, u, n, e, c⟩ := x
  exact ⟨o, t, u, n, k _ _ e, c⟩
theorem ord_inj {a b : PySem.Str × PySem.Str} (h : ordOf a = ordOf b) : a = b := by
  obtain ⟨⟨x⟩, ⟨y⟩⟩ := a
  obtain ⟨⟨z⟩, ⟨w⟩⟩ := b
  simp only [ordOf, List.cons.injEq, Sum.inr.injEq, and_true] at h
  obtain ⟨h1, h2⟩ := h
  rw [Array.toList_inj.mp h1, Array.toList_inj.mp h2]
/-- the order is total: what is below neither way is the same -/
theorem lt2_total {a b : PySem.Str × PySem.Str} (h1 : lt2 a b = false) (h2 : lt2 b a = false) : a = b := ord_inj ((listOrd itemOrd).total _ _ h1 h2)
theorem tups_of {h : Heap} : ∀ {ks : List (PySem.Str × PySem.Str)} {bs : List Addr}, Paired (At2 h) ks bs → ∃ fs, TupsOf h (fun _ => true) (bs.map Value.ref) fs
  | _, _, .nil => ⟨[], .nil⟩
  | _, _, .cons x r => by
    obtain ⟨fs, g⟩ := tups_of r
    obtain ⟨o, t, u, n, e, c, d⟩ := x
    exact ⟨_ :: fs, .cons ⟨_, o, _, n, rfl, e, c, d, rfl, (fun z => absurd z (by simp)), (fun _ => ⟨_, t, rfl⟩)⟩ g⟩
theorem mem_pair {α β : Type} {F : α → β → Prop} : ∀ {xs : List α} {ys : List β} {y : β}, Paired F xs ys → y ∈ ys → ∃ x ∈ xs, F x y
  | _, _, _, .nil, h => by cases h
  | _, _, _, .cons a r, h => by
    rcases List.mem_cons.mp h with e | h
    · subst e
      exact ⟨_, List.mem_cons_self, a⟩
    · obtain ⟨x, m, f⟩ := mem_pair r h
      exact ⟨x, List.mem_cons_of_mem _ m, f⟩
theorem dec_all {h : Heap} : ∀ {ks : List (PySem.Str × PySem.Str)} {bs : List Addr}, Paired (At2 h) ks bs → (bs.map Value.ref).map (fun v => (dec h v).1) = ks
  | _, _, .nil => rfl
  | _, _, .cons x r => by
    show (dec h _).1 :: _ = _
    rw [dec_at x, dec_all r]
/-- sorted(d): a new list of the keys, ascending -/
def rSortT : List V → Hp → VK → Prop := fun xs H Q => ∃ (d : Addr) (kvs : List (List L2.Key × V)) (ks : List (PySem.Str × PySem.Str)), xs = [.ref d] ∧ Rd H d (.dT kvs) ∧ kvs.map (·.1) = ks.map kp ∧ kvs.length ≤ 1000 ∧
  ∀ (p : Addr) (zs : List (PySem.Str × PySem.Str)) (cs : List Addr), H p = none → zs.Perm ks → ks.Nodup → zs.Pairwise (fun a b => lt2 b a = false) → Paired (fun z c => H c = some (.tup [.str z.1, .str z.2])) zs cs → Q (.ref p) (L2.upd H p (.lst (cs.map V.ref)))
theorem at2_of {P : Program} {w : World} {H : Hp} {h : Heap} {b : Addr} {z : PySem.Str × PySem.Str} (x : ObjOk P w H h b (.tup [.str z.1, .str z.2])) : At2 h z b := by
  obtain ⟨_, its, v, o, e, c, n, d⟩ := x
  cases v with
  | cons r1 v =>
    cases v with
    | cons r2 v =>
      cases v
      obtain ⟨t, rfl⟩ := r1
      obtain ⟨u, rfl⟩ := r2
      exact ⟨o, t, u, n, e, c, d⟩
theorem keys_at2 {P : Program} {w : World} {H : Hp} {h : Heap} (hok : HOk P w H h) : ∀ {kvs : List (List L2.Key × V)} {xs : List (List L2.Key × Addr × Value)} {ks : List (PySem.Str × PySem.Str)}, KT H kvs xs → kvs.map (·.1) = ks.map kp →
    Paired (At2 h) ks (xs.map fun x => x.2.1) ∧ Paired (fun z c => H c = some (.tup [.str z.1, .str z.2])) ks (xs.map fun x => x.2.1) ∧ xs.map (·.1) = ks.map kp
  | _, _, [], .nil, _ => ⟨.nil, .nil, rfl⟩
  | _, _, k :: ks, .cons a r, e => by
    have e1 := (List.cons.inj e).1
    obtain ⟨i1, i2, i3⟩ := keys_at2 hok r (List.cons.inj e).2
    obtain ⟨a1, a2, a3⟩ := a
    have e1 : Prod.fst _ = kp k := e1
    rw [e1] at a2
    have a2 : H _ = some (.tup [.str k.1, .str k.2]) := a2
    refine ⟨.cons (at2_of (hok _ _ a2)) i1, .cons a2 i2, ?_⟩
    rw [List.map_cons, List.map_cons, i3, ← a1]
    exact congrArg (· :: ks.map kp) e1
  | _, _, [], .cons _ _, e => by cases e
  | _, _, _ :: _, .nil, e => by cases e
theorem paired_keep {h h' : Heap} (k : ∀ b o, h.get? b = some o → h'.get? b = some o) : ∀ {ks : List (PySem.Str × PySem.Str)} {bs : List Addr}, Paired (At2 h) ks bs → Paired (At2 h') ks bs
  | _, _, .nil => .nil
  | _, _, .cons a r => .cons (a.keep k) (paired_keep k r)
theorem paired_len {α β : Type} {F : α → β → Prop} : ∀ {xs : List α} {ys : List β}, Paired F xs ys → xs.length = ys.length
  | _, _, .nil => rfl
  | _, _, .cons _ r => congrArg (· + 1) (paired_len r)
/-- what comes out of the sort, read off -/
theorem out_of {h : Heap} {R : PySem.Str × PySem.Str → Addr → Prop} {ks : List (PySem.Str × PySem.Str)} {bs : List Addr} {arr : Array Keyed} (at_ : Paired (At2 h) ks bs) (rel : Paired R ks bs)
    (hp : arr.Perm (pairsOf (bs.map Value.ref))) (hs : SortedToK (tupKindC h fun _ => true) arr (pairsOf (bs.map Value.ref)).size) :
    ∃ (zs : List (PySem.Str × PySem.Str)) (cs : List Addr), (arr.map (·.2)).toList = cs.map Value.ref ∧ zs.Perm ks ∧ zs.Pairwise (fun a b => lt2 b a = false) ∧ Paired R zs cs := by
  have hp' : arr.toList.Perm ((bs.map Value.ref).zip (bs.map Value.ref)) := by
    rw [← pairsOf_toList]
    exact Array.perm_iff_toList_perm.mp hp
  have each : ∀ p ∈ arr.toList, ∃ z ∈ ks, ∃ b, p = (Value.ref b, Value.ref b) ∧ At2 h z b ∧ R z b := by
    intro p hm
    have hz := hp'.mem_iff.mp hm
    obtain ⟨e, hv⟩ := mem_zip_self hz
    obtain ⟨b, hb, eb⟩ := List.mem_map.mp hv
    have both : Paired (fun z b => At2 h z b ∧ R z b) ks bs := by
      clear hp hs hp' hm hz hv hb e eb
      induction at_ with
      | nil => exact .nil
      | cons a r ih =>
        cases rel with
        | cons c d => exact .cons ⟨a, c⟩ (ih d)
    obtain ⟨z, hzk, h1, h2⟩ := mem_pair both hb
    refine ⟨z, hzk, b, ?_, h1, h2⟩
    obtain ⟨p1, p2⟩ := p
    have e : p2 = p1 := Eq.symm e
    have eb : Value.ref b = p1 := eb
    rw [e, ← eb]
  refine ⟨arr.toList.map fun p => (dec h p.2).1, arr.toList.map fun p => (dec h p.2).2, ?_, ?_, ?_, ?_⟩
  · rw [Array.toList_map, List.map_map]
    refine List.map_congr_left fun p hm => ?_
    obtain ⟨z, _, b, rfl, a, _⟩ := each p hm
    show Value.ref b = Value.ref (dec h (.ref b)).2
    rw [dec_at a]
  · have q := (hp'.map fun p : Value × Value => (dec h p.2).1)
    have e : ((bs.map Value.ref).zip (bs.map Value.ref)).map (fun p : Value × Value => (dec h p.2).1) = ks := by
      rw [← dec_all at_]
      generalize bs.map Value.ref = vs
      induction vs with
      | nil => rfl
      | cons v vs ih => exact congrArg (_ :: ·) ih
    rw [e] at q
    exact q
  · rw [List.pairwise_iff_getElem]
    intro i j hi hj lt
    rw [List.length_map] at hi hj
    have hsz : arr.toList.length = (pairsOf (bs.map Value.ref)).size := by
      rw [hp'.length_eq, pairsOf_size, List.length_zip, Nat.min_self]
    have q := hs i j (Nat.le_of_lt lt) (by rw [← hsz]; exact hj)
    have kk : ∀ (i : Nat) (hi : i < arr.toList.length), KK (tupKindC h fun _ => true) arr i = ordOf (dec h (arr.toList[i]).2).1 := by
      intro i hi
      obtain ⟨z, _, b, eb, a, _⟩ := each _ (List.getElem_mem hi)
      have e1 : arr[i]? = some (Value.ref b, Value.ref b) := by
        rw [← Array.getElem?_toList, List.getElem?_eq_getElem hi, eb]
      unfold KK
      rw [e1, eb]
      show (tupKeyC h (fun _ => true) (.ref b)).getD [] = ordOf (dec h (.ref b)).1
      rw [key_at a, dec_at a]
      rfl
    rw [List.getElem_map, List.getElem_map]
    have q2 : (listOrd itemOrd).blt (KK (tupKindC h fun _ => true) arr j) (KK (tupKindC h fun _ => true) arr i) = false := q
    rw [kk i hi, kk j hj] at q2
    exact q2
  · clear hp hs hp'
    generalize arr.toList = l at each
    induction l with
    | nil => exact .nil
    | cons p l ih =>
      refine .cons ?_ (ih fun x hx => each x (List.mem_cons_of_mem _ hx))
      obtain ⟨z, _, b, rfl, a, r⟩ := each p List.mem_cons_self
      show R (dec h (.ref b)).1 (dec h (.ref b)).2
      rw [dec_at a]
      exact r
theorem nodup_of_map {α β : Type} {f : α → β} : ∀ {l : List α}, (l.map f).Nodup → l.Nodup
  | [], _ => List.nodup_nil
  | x :: l, h => by
    rw [List.map_cons, List.nodup_cons] at h
    exact List.nodup_cons.mpr ⟨fun m => h.1 (List.mem_map.mpr ⟨x, m, rfl⟩), nodup_of_map h.2⟩
theorem call_sortedT {X : Cx} (hc : X.calm = true) : CallR X (.builtin "sorted") rSortT := by
  intro pins s σ H xs us Q I r h
  obtain ⟨d, kvs, ks, rfl, hd, hks, h1000, q⟩ := h
  obtain ⟨u, rfl, rx⟩ := vals1 r
  cases rx
  obtain ⟨z, hs, xs', pr, o, es, ep, ho, hx, hdt, he, hn⟩ := (show ObjOk X.prog X.w H s.heap d (.dT kvs) from hd.ok I.hok)
  obtain ⟨at0, rel, ek⟩ := keys_at2 I.hok pr hks
  have l1 : es.size = xs'.length := size_of_entries he
  have l2 : kvs.length = xs'.length := Paired.length pr
  have nd : ks.Nodup := by
    rw [ek] at hn
    exact nodup_of_map hn
  have big : (1000 : Nat) ≤ sizeLine := by decide
  refine Calls.call_function_entry kind_sorted plain_sorted entry_sorted (args_sorted1 _) ?_
  unfold Builtin.«sorted»
  refine wpAny_bind (m := checkCount "sorted" 1 1 _) (wpAny_pure (wpAny_bind (PySem.W.kdu_collect (A := X.A.in1) (kdl_raw hs hx hdt) (I.ok.hd hc) ho (by omega) fun h' tk acc hk it => ?_)))
  have eb : acc.toList = (xs'.map fun x => x.2.1).map Value.ref := by
    have hl : acc.toList.length = xs'.length := by rw [Array.length_toList, it.1]; exact l1
    apply List.ext_getElem?
    intro j
    rw [List.map_map, List.getElem?_map]
    cases hj : acc.toList[j]? with
    | none =>
      have e1 := List.getElem?_eq_none_iff.mp hj
      rw [List.getElem?_eq_none (by omega)]
      rfl
    | some v =>
      obtain ⟨en, hen, hv⟩ := it.2 j v (by rw [← Array.getElem?_toList]; exact hj)
      have qe := entry_at he j
      rw [hen] at qe
      cases hb : xs'[j]? with
      | none =>
        rw [hb] at qe
        exact nomatch (show some en = none from qe)
      | some b =>
        rw [hb] at qe
        have e2 : en = entryOfKey (tupleKind (mixKind X.prog X.w)) b := Option.some.inj qe
        rw [hv, e2]
        rfl
  rw [eb]
  have hbl : ((xs'.map fun x => x.2.1).map Value.ref).length ≤ sizeLine := by rw [List.length_map, List.length_map]; omega
  have I1 : Inv X pins σ H { s with heap := h', toks := tk } := I.kept hk
  refine wpAny_bind (wpAny_newList ?_ hbl)
  have hoL : (h'.push (seqObj "list" ((xs'.map fun x => x.2.1).map Value.ref).toArray 0)).get? h'.objs.size = some (seqObj "list" ((xs'.map fun x => x.2.1).map Value.ref).toArray 0) := Heap.get?_push_size _ rfl
  have at1 := paired_keep (fun b o e => Heap.get?_push_of_some (seqObj "list" ((xs'.map fun x => x.2.1).map Value.ref).toArray 0) (hk b o e)) at0
  obtain ⟨fs, tf⟩ := tups_of at1
  show wpAny _ _ _ _ _ { s with heap := h'.push (seqObj "list" ((xs'.map fun x => x.2.1).map Value.ref).toArray 0), toks := tk }
  refine wpAny_bind (wpAny_holding (wpAny_call_entry slot_list_sort ⟨_, hoL, rfl⟩ entry_list_sort
    (list_sort_tups (shape := fun _ => true) (s := { s with heap := h'.push (seqObj "list" ((xs'.map fun x => x.2.1).map Value.ref).toArray 0), toks := tk }) hoL tf ?keys hbl fun st' hp hs3 hst => ⟨_, rfl, ?ret⟩) (args_list_sort _)))
  case keys =>
    intro v hv
    obtain ⟨b, hb, eb'⟩ := List.mem_map.mp hv
    obtain ⟨z', _, a⟩ := mem_pair at1 hb
    rw [← eb']
    exact ⟨_, key_at a⟩
  case ret =>
    obtain ⟨zs, cs, g1, g2, g3, g4⟩ := out_of at1 rel hp hs3
    obtain ⟨e', he'⟩ := sortedHeap_at (vs := (xs'.map fun x => x.2.1).map Value.ref) (out := (arrOf st').map (·.2)) hoL
    have hlen : (cs.map V.ref).length ≤ sizeLine := by
      rw [List.length_map, ← paired_len g4, g2.length_eq, paired_len rel, List.length_map]
      omega
    have rv : Vals (cs.map V.ref) ((arrOf st').map (·.2)).toList := by rw [g1]; exact vals_refs _
    refine wpAny_pure ⟨_, rfl, .ref h'.objs.size, L2.upd H h'.objs.size (.lst (cs.map V.ref)), I1.laid (t' := tk) (fun b u e => ?_) (Nat.le_refl _)
      (show ObjOk X.prog X.w _ _ _ (.lst (cs.map V.ref)) from ⟨hlen, ((arrOf st').map (·.2)).toList, e', rv, by rw [Array.toArray_toList]; exact he'⟩), rfl, q _ zs cs (I1.hok.fresh (Nat.le_refl _)) g2 nd g3 g4⟩
    have hb : b < h'.objs.size := Heap.lt_size e
    rw [sortedHeap_old (Nat.ne_of_lt hb) (by rw [size_push']; exact Nat.lt_succ_of_lt hb)]
    exact Heap.get?_push_of_some _ e
end KSrt

set_option Elab.async false
set_option linter.all false
set_option maxRecDepth 100000
set_option maxHeartbeats 2000000
/-! (a, b) < (c, d), texts. -/
namespace KSrt
open PySem PySem.Spec PyProof.Rows PyProof.Rows.G L2 PySem.SeqAt
def rLt2 (K : PySem.W.Frag) : R2 := fun x y H Q => ∃ (a b : Addr) (z w : PySem.Str × PySem.Str), x = .ref a ∧ y = .ref b ∧ SqT K H a [.str z.1, .str z.2] ∧ SqT K H b [.str w.1, .str w.2] ∧ Q (.bl (lt2 z w)) H
theorem lt2_is (z w : PySem.Str × PySem.Str) : lt2 z w = (if (z.1 == w.1) = false then decide (z.1.cps.toList < w.1.cps.toList) else if (z.2 == w.2) = false then decide (z.2.cps.toList < w.2.cps.toList) else false) := by
  have q : ∀ {x y : PySem.Str}, x.cps.toList = y.cps.toList → x = y := fun {x y} h => by
    obtain ⟨x⟩ := x
    obtain ⟨y⟩ := y
    exact congrArg Str.mk (Array.toList_inj.mp h)
  unfold lt2
  by_cases h1 : z.1 = w.1
  · have e1 : (Sum.inr z.1.cps.toList : Int ⊕ List Nat) = Sum.inr w.1.cps.toList := by rw [h1]
    show lexLt itemOrd (Sum.inr z.1.cps.toList :: _) (Sum.inr w.1.cps.toList :: _) = _
    rw [← e1, lex_self]
    have b1 : (z.1 == w.1) = true := beq_iff_eq.mpr h1
    rw [b1, if_neg (by simp)]
    by_cases h2 : z.2 = w.2
    · have b2 : (z.2 == w.2) = true := beq_iff_eq.mpr h2
      rw [b2, if_neg (by simp), h2]
      exact lex_irrefl _
    · have b2 : (z.2 == w.2) = false := beq_eq_false_iff_ne.mpr h2
      rw [b2, if_pos rfl]
      rw [lex_diff (O := itemOrd) (fun e => h2 (q (Sum.inr.inj e)))]
      rfl
  · have b1 : (z.1 == w.1) = false := beq_eq_false_iff_ne.mpr h1
    rw [b1, if_pos rfl]
    show lexLt itemOrd (Sum.inr z.1.cps.toList :: _) (Sum.inr w.1.cps.toList :: _) = _
    rw [lex_diff (O := itemOrd) (fun e => h1 (q (Sum.inr.inj e)))]
    rfl
theorem op_lt2 {X : Cx} (hu : X.A.units < cLine) : OpR X (compareOp .Lt) (rLt2 X.K) := by
  intro pins s σ H x y v u Q I rx ry h
  obtain ⟨a, b, z, w, rfl, rfl, ha, hb, q⟩ := h
  cases rx
  cases ry
  obtain ⟨its, r1, p1, _⟩ := I.tuple ha
  obtain ⟨its2, r2, p2, _⟩ := I.tuple hb
  cases r1 with
  | cons a1 r1 =>
    cases r1 with
    | cons a2 r1 =>
      cases r1
      cases r2 with
      | cons b1 r2 =>
        cases r2 with
        | cons b2 r2 =>
          cases r2
          obtain ⟨t1, rfl⟩ := a1
          obtain ⟨t2, rfl⟩ := a2
          obtain ⟨u1, rfl⟩ := b1
          obtain ⟨u2, rfl⟩ := b2
          have rc := RcLt.tuples (A := X.A) (s := s) (e := fun j => if j = 0 then z.1 == w.1 else z.2 == w.2) (r := fun j => if j = 0 then decide (z.1.cps.toList < w.1.cps.toList) else decide (z.2.cps.toList < w.2.cps.toList)) p1 p2 hu
            (fun j h1 h2 => match j, h1, h2 with
              | 0, _, _ => EqAt.str_str _ _ _ _
              | 1, _, _ => EqAt.str_str _ _ _ _)
            (fun j h1 h2 _ => match j, h1, h2 with
              | 0, _, _ => fun prog w' E Q h => PyProof.Rows.lt_str h
              | 1, _, _ => fun prog w' E Q h => PyProof.Rows.lt_str h)
          refine rc _ _ _ _ ⟨.bl (lt2 z w), H, I, ?_, q⟩
          show Value.bool _ = Value.bool _
          rw [lt2_is]
          cases h1 : (z.1 == w.1) <;> cases h2 : (z.2 == w.2) <;> simp [firstLt, h1, h2, List.range, List.range.loop]
end KSrt

set_option Elab.async false
set_option linter.all false
set_option maxRecDepth 100000
set_option maxHeartbeats 2000000
/-! A list comprehension of any number of clauses. -/
namespace CN
open PySem PySem.Spec PyProof.Rows L2
/-- what stands behind the tests of a clause: the next clause's source and start, or the element's way into the list -/
def act (elt : Expr) (cs : List Comprehension) (scope : Scope) (pos : Pos) (k : Nat) (acc : Value) (env : Env) : Sem Unit :=
  match cs[k]? with
  | some c => do
    let x ← eval c.iter env
    standAt c.iter.pos
    let y ← foldedSetIterable c.iter env x
    let _ ← runOwn (.compStart (.ListComp elt cs scope pos) k (← holding [y] (pyIter y)) acc env) env
  | none => do let _ ← call (.builtin "list.append") [acc, ← eval elt env]
def testsOf (ifs : List Expr) (env : Env) : Sem Bool := forIn ifs true fun c r => if r = true then do let ok ← isTrue c env (eval c env); pure (ForInStep.yield ok) else pure (ForInStep.yield r)
def turnAt (elt : Expr) (cs : List Comprehension) (scope : Scope) (pos : Pos) (k : Nat) (c : Comprehension) (it acc : Value) (env : Env) : Sem Fin := do
  standAt c.iter.pos
  match ← pyNext it with
  | none => pure (.done .next)
  | some v =>
    letOwnedTupleGo c.target it v
    assign c.target env v
    let ok ← testsOf c.ifs env
    if ok then act elt cs scope pos (k + 1) acc env
    again (.compLoop (.ListComp elt cs scope pos) k it acc env)
theorem turn_at (elt : Expr) (cs : List Comprehension) (scope : Scope) (pos : Pos) (k : Nat) (c : Comprehension) (it acc : Value) (env : Env) (hk : cs[k]? = some c) (ha : c.is_async = 0) (hn : ∀ d, cs[k + 1]? = some d → d.is_async = 0) :
    compTurn (.ListComp elt cs scope pos) k it acc env = turnAt elt cs scope pos k c it acc env := by
  unfold compTurn turnAt act testsOf
  simp only [hk, ha]
  cases e : cs[k + 1]? with
  | none =>
    simp only [bne_self_eq_false, Bool.false_eq_true, if_false, bind_assoc, pure_bind]
    rfl
  | some d =>
    simp only [hn d e, bne_self_eq_false, Bool.false_eq_true, if_false, bind_assoc, pure_bind]
    rfl
/-! ### one clause's loop -/
/-- what is reached from clause k on: of the list's place, slots, heap -/
abbrev TN := Addr → L2.St → Hp → (Hp → Prop) → Prop
structure PIn (B : Cx) (elt : Expr) (cs : List Comprehension) (scope : Scope) (pos : Pos) (k : Nat) (vs : List Nat) (t : TN) : Prop where
  run : ∀ (pins : List (Addr × Obj)) (s : Shared) (σ : L2.St) (H : Hp) (D : Addr) (Nx : Hp → Prop), Inv B pins σ H s → t D σ H Nx →
    wpAny (model B.prog B.w) B.A (act elt cs scope pos k (.ref D) B.env) (fun _ z => ∃ Hz, Inv B pins (wipe σ vs) Hz z ∧ Nx Hz) (fun _ _ => False) s
def tEmit (te : TE) : TN := fun D σ H Nx => te σ H fun y H1 => ∃ acc, H1 D = some (.lst acc) ∧ acc.length < sizeLine ∧ Nx (upd H1 D (.lst (acc ++ [y])))
/-- a walk J with its measure W: it stops and Nx holds, or a turn runs the target's store, the tests, and what is within -/
def Goes (J : It) (W : Nat → Nat → Hp → Prop) (g : TG) (tt : TT) (vs : List Nat) (ti : TN) (D : Addr) (σ : L2.St) (Nx : Hp → Prop) : Prop := ∀ i m H, W i m H →
  (J.stop i H ∧ Nx H) ∨ (J.go i H ∧ ∃ N1 : Hp → Prop, (∀ Hz, N1 Hz → ∃ mz, mz < m ∧ W (i + 1) mz Hz) ∧ ∀ x Hy, J.yld i H x Hy → g x (wipe σ vs) Hy fun σ2 H2 => wipe σ2 vs = wipe σ vs ∧ tt σ2 H2 fun b H3 => if b = true then ti D σ2 H3 N1 else N1 H3)
def tNext (wi : TI) (g : TG) (tt : TT) (vs : List Nat) (ti : TN) : TN := fun D σ H Nx => wi σ H fun J H1 => ∃ W : Nat → Nat → Hp → Prop, (∃ m, W 0 m H1) ∧ Goes J W g tt vs ti D σ Nx
section
variable {B : Cx} {elt : Expr} {cs : List Comprehension} {scope : Scope} {pos : Pos} {k : Nat} {c : Comprehension} {vs vs2 : List Nat} {te : TE} {wi : TI} {g : TG} {tt : TT} {ti : TN}
theorem pin_emit (hx : B.xe = fun _ _ => False) (hk : cs[k]? = none) (he : PE B elt te) : PIn B elt cs scope pos k [] (tEmit te) := by
  refine ⟨fun pins s σ H D Nx I h => ?_⟩
  unfold act
  rw [hk]
  have q := he.run pins s σ H _ I h
  rw [hx] at q
  refine wpAny_bind (wpAny_mono q (fun x s1 z => ?_) (fun _ _ z => z))
  obtain ⟨y, H1, I1, r, acc, hD, hz, nx⟩ := z
  exact wpAny_bind (app_ok I1 hD hz r fun s2 I2 => wpAny_pure ⟨_, I2, nx⟩)
theorem loop_ok {pins : List (Addr × Obj)} {fp : List Addr} {it D : Addr} {tn : Nat → Heap → Prop} {J : It} {σ : L2.St} {W : Nat → Nat → Hp → Prop} {Nx : Hp → Prop} (hx : B.xe = fun _ _ => False) (hc : B.calm = true)
    (hk : cs[k]? = some c) (ha : c.is_async = 0) (hn : ∀ d, cs[k + 1]? = some d → d.is_async = 0) (pg : PG B c.target g) (pt : PTs B c.ifs tt) (pn : PIn B elt cs scope pos (k + 1) vs2 ti) (hv : ∀ i ∈ vs2, i ∈ vs)
    (T : Turn B.prog B.w B.K c.target J fp it tn) {H0 : Hp} (fs : ∀ b ∈ fp, FpOk B pins H0 b) (turn : Goes J W g tt vs ti D σ Nx) {m : Nat} {s : Shared} {H : Hp} (I : Inv B pins (wipe σ vs) H s) (st : tn 0 s.heap) (n0 : ∀ b ∈ fp, H b = none) (w0 : W 0 m H) :
    codeAny (model B.prog B.w) B.A (.compLoop (.ListComp elt cs scope pos) k (.ref it) (.ref D) B.env) (fun r z => match r with
      | .ok f => f = .next ∧ ∃ Hz, Inv B pins (wipe σ vs) Hz z ∧ Nx Hz
      | .error _ => False) s := by
  have stat : ∀ {Hz : Hp}, (∀ b ∈ fp, Hz b = none) → ∀ b ∈ fp, FpOk B pins Hz b := fun n b hb => ⟨n b hb, (fs b hb).2⟩
  refine codeAny_loop rfl (fun n z => ∃ i Hz, Inv B pins (wipe σ vs) Hz z ∧ tn i z.heap ∧ (∀ b ∈ fp, Hz b = none) ∧ W i n Hz) (fun n s1 hI => ?_) m ⟨0, H, I, st, n0, w0⟩
  obtain ⟨i, H1, I1, st1, n1, w1⟩ := hI
  show wpAny _ _ ((compTurn (.ListComp elt cs scope pos) k (.ref it) (.ref D) B.env).onRaise _) _ _ s1
  refine wpAny_noted (wpAny_mono (E := fun _ _ => False) (Q := fun fin z => match fin with
    | .done f => f = .next ∧ ∃ Hz, Inv B pins (wipe σ vs) Hz z ∧ Nx Hz
    | .again cc => cc = .compLoop (.ListComp elt cs scope pos) k (.ref it) (.ref D) B.env ∧ ∃ mz, mz < n ∧ ∃ i Hz, Inv B pins (wipe σ vs) Hz z ∧ tn i z.heap ∧ (∀ b ∈ fp, Hz b = none) ∧ W i mz Hz) ?_ (fun fin z q => ?_) (fun _ _ z => z.elim))
  case refine_2 =>
    cases fin with
    | done f => exact q
    | again cc => exact q
  rw [turn_at elt cs scope pos k c _ _ _ hk ha hn]
  unfold turnAt
  refine wpAny_bind (wpAny_standAt (wpAny_bind ?_))
  rcases turn i n H1 w1 with ⟨stop, nx⟩ | ⟨go, N1, hN, step⟩
  · refine thn (T.done B rfl rfl rfl hc i pins s1 _ H1 (fun _ _ => False) I1 (stat n1) st1 stop) fun r s2 z => ?_
    obtain ⟨hr, I2⟩ := z
    subst hr
    exact wpAny_pure ⟨rfl, H1, I2, nx⟩
  · refine thn (T.item B rfl rfl rfl hc i pins s1 _ H1 (fun _ _ => False) I1 (stat n1) st1 go) fun r s2 z => ?_
    obtain ⟨u, hr, h2⟩ := z
    subst hr
    refine wpAny_bind (thn h2 fun _ s3 z => ?_)
    obtain ⟨x, H3, I3, r3, y3, st3, n3⟩ := z
    have qg := pg.run _ s3 _ H3 x u _ (I3.pinned (stat n3) (T.obj _ _ st3)) r3 (step x H3 y3)
    rw [hx] at qg
    refine wpAny_bind (thn qg fun _ s4 z => ?_)
    obtain ⟨σ4, H4, I4, hw4, q4⟩ := z
    have qt := pt.run _ s4 σ4 H4 _ I4 q4
    rw [hx] at qt
    refine wpAny_bind (thn qt fun b s5 z => ?_)
    obtain ⟨H5, I5, q5⟩ := z
    have fin : ∀ {σz : L2.St} {z : Shared} {Hz : Hp}, Inv B (pins ++ pinsAt fp s3.heap) σz Hz z → (wipe σ vs).length = σz.length → (∀ (j : Nat) v, (wipe σ vs)[j]? = some (some v) → σz[j]? = some (some v)) → N1 Hz →
        ∃ mz, mz < n ∧ ∃ i Hy, Inv B pins (wipe σ vs) Hy z ∧ tn i z.heap ∧ (∀ b ∈ fp, Hy b = none) ∧ W i mz Hy := by
      intro σz z Hz Iz hl hw nz
      obtain ⟨mz, hm, wz⟩ := hN Hz nz
      have pin : ∀ b ∈ fp, ∀ o, s3.heap.get? b = some o → z.heap.get? b = some o ∧ Hz b = none := by
        intro b hb o e
        have a := Iz.pin (b, o) (List.mem_append_right _ (List.mem_append_right _ (mem_pinsAt hb e)))
        exact ⟨a.1, a.2.1⟩
      refine ⟨mz, hm, i + 1, Hz, Iz.unpinned.weak hl hw, T.keep _ _ _ st3 (fun b hb o e => (pin b hb o e).1), fun b hb => ?_, wz⟩
      obtain ⟨o, e, _⟩ := T.obj _ _ st3 b hb
      exact (pin b hb o e).2
    have hl4 : (wipe σ vs).length = σ4.length := by rw [← hw4, wipe_length]
    cases b with
    | false => exact wpAny_pure ⟨rfl, fin I5 hl4 (fun j v e => (wipe_some (by rw [hw4]; exact e)).1) q5⟩
    | true =>
      refine wpAny_bind (thn (pn.run _ s5 σ4 H5 D N1 I5 q5) fun _ s6 z => ?_)
      obtain ⟨H6, I6, nz⟩ := z
      refine wpAny_pure ⟨rfl, fin I6 (hl4.trans (wipe_length σ4 vs2).symm) (fun j v e => ?_) nz⟩
      obtain ⟨e1, e2⟩ := wipe_some (σ := σ4) (vs := vs) (by rw [hw4]; exact e)
      rw [wipe_out fun z => e2 (hv j z)]
      exact e1
theorem start_ok {prog : Program} {w : World} {A : Around} {R : Result → Shared → Prop} {s : Shared} {it : Addr} {acc : Value} {env : Env} (hk : cs[k]? = some c) (ha : c.is_async = 0)
    (self : ∀ (Q E : Value → Shared → Prop), Q (.ref it) s → wpAny (model prog w) A (pyIter (.ref it)) Q E s) (h : codeAny (model prog w) A (.compLoop (.ListComp elt cs scope pos) k (.ref it) acc env) R s) :
    codeAny (model prog w) A (.compStart (.ListComp elt cs scope pos) k (.ref it) acc env) R s := by
  refine codeAny_of_tree (M := model prog w) ?_
  show wpAny _ _ ((compStart (.ListComp elt cs scope pos) k (.ref it) acc env).onRaise _) _ _ s
  refine wpAny_notedAt (M := model prog w) ?_
  have e : clausesOf (.ListComp elt cs scope pos) = cs := rfl
  unfold compStart
  simp only [e, hk, ha, Option.elim, bne_self_eq_false, Bool.false_eq_true, if_false]
  refine wpAny_bind (wpAny_askSetting (wpAny_ite ?_))
  split
  · exact wpAny_pure (And.intro rfl h)
  · exact wpAny_bind (wpAny_rule (wpAny_bind (wpAny_standAt (wpAny_bind (self _ _ (wpAny_pure (And.intro rfl h)))))))
theorem pin_next (hx : B.xe = fun _ _ => False) (hc : B.calm = true) (hk : cs[k]? = some c) (ha : c.is_async = 0) (hn : ∀ d, cs[k + 1]? = some d → d.is_async = 0) (hi : PI B c.target c.iter wi) (pg : PG B c.target g) (pt : PTs B c.ifs tt)
    (pn : PIn B elt cs scope pos (k + 1) vs2 ti) (hv : ∀ i ∈ vs2, i ∈ vs) (hs : ∀ env x, foldedSetIterable c.iter env x = pure x) : PIn B elt cs scope pos k vs (tNext wi g tt vs ti) := by
  refine ⟨fun pins s σ H D Nx I h => ?_⟩
  unfold act
  rw [hk]
  have q := hi.run pins s σ H _ I h
  rw [hx] at q
  refine wpAny_bind (thn q fun x s1 q1 => wpAny_bind (wpAny_standAt (wpAny_bind (wpAny_of_eq (hs _ x) (wpAny_bind (wpAny_holding (thn q1 fun z s2 q2 => ?_)))))))
  obtain ⟨it, fp, tn, J, H2, e, I2, T, st2, f2, W, ⟨m, w0⟩, turn⟩ := q2
  subst e
  have lp := loop_ok hx hc hk ha hn pg pt pn hv T f2 turn (I2.weak (wipe_length σ vs) fun j v e => (wipe_some e).1) st2 (fun b hb => (f2 b hb).1) w0
  rw [← Around.mark_none (A := B.A)] at lp
  refine wpAny_bind (wpAny_runOwn (codeAny_mono (start_ok hk ha (fun Q E hq => T.self _ 0 _ Q E st2 hq) lp) fun r s3 hr => ?_))
  cases r with
  | ok f => exact wpAny_pure hr.2
  | error e => exact hr.elim
end
/-! ### the whole -/
section
variable {X : Cx} {elt tg iter : Expr} {ifs : List Expr} {rest : List Comprehension} {scope : Scope} {pos : Pos} {own : List (Str × Nat)} {vs2 : List Nat} {wi : TI} {g : TG} {tt : TT} {ti : TN}
/-- D: the new list -/
def tLcN (wi : TI) (g : TG) (tt : TT) (vs : List Nat) (ti : TN) : TE := fun σ H Q => wi σ H fun J H1 => ∀ D, H1 D = none → ∃ W : Nat → Nat → Hp → Prop, (∃ m, W 0 m (upd H1 D (.lst []))) ∧ Goes J W g tt vs ti D σ (Q (.ref D))
theorem pe_lcN (hc : X.calm = true) (hN : X.N.Nodup) (hi : PI X tg iter wi) (ok : BlkOk X.N X.env.scope scope own)
    (hg : ∀ (s : Shared) (H : Hp) (C : Addr) (cl : List (Str × Addr)) (fp : List Addr), PG (X.blk s H scope (compEnvC scope cl C X.env) fp) tg g ∧ PTs (X.blk s H scope (compEnvC scope cl C X.env) fp) ifs tt ∧ PIn (X.blk s H scope (compEnvC scope cl C X.env) fp) elt (⟨tg, iter, ifs, 0⟩ :: rest) scope pos 1 vs2 ti)
    (hv : ∀ i ∈ vs2, i ∈ own.map (·.2)) (hn : ∀ d, rest[0]? = some d → d.is_async = 0) (hs : ∀ x, foldedSetIterable iter X.env x = pure x) : PE X (.ListComp elt (⟨tg, iter, ifs, 0⟩ :: rest) scope pos) (tLcN wi g tt (own.map (·.2)) ti) := by
  refine ⟨fun pins s σ H Q I h => ?_⟩
  rw [eval_ListComp]
  have hf : ∀ y ∈ scope.names, y.2 = .free → ∃ c, X.env.cells.lookup y.1 = some c := fun y hy e => (ok.free y hy e).elim (fun z => I.ok.has _ (.inl z)) fun z => I.ok.has _ (.inr z)
  refine wpAny_comprehension_free (use := none) rfl hs (closure_ok hf) ok.kind (fun y hy e => by rw [ok.uniq y hy, e]) (thn (hi.run pins s σ H _ I h) fun xv s1 q1 => thn q1 fun itv s2 q2 => ?_)
  obtain ⟨it, fp, tn, J, H2, e, I2, T, st2, f2, q⟩ := q2
  subst e
  refine wpAny_newObj_type (newEnv_comp ?_) (show 0 ≤ sizeLine by decide)
  generalize hD : s2.heap.objs.size = D
  have fresh := I2.hok.fresh (Nat.le_of_eq hD)
  obtain ⟨W, ⟨m0, w0⟩, turn⟩ := q D fresh
  generalize hs3 : ({ s2 with heap := s2.heap.push { cls := .type "list", data := .seq ([] : List Value).toArray } } : Shared) = s3
  have h3 : s3.heap = s2.heap.push { cls := .type "list", data := .seq ([] : List Value).toArray } := by subst hs3; rfl
  have k3 : ∀ b o, s2.heap.get? b = some o → s3.heap.get? b = some o := fun b o z => by rw [h3]; exact Heap.get?_push_of_some _ z
  have I3 : Inv X pins σ (upd H2 D (.lst [])) s3 := by
    subst hs3
    exact I2.laid (t' := s2.toks) k3 (Nat.le_of_eq hD) ⟨Nat.zero_le _, [], 0, .nil, by rw [← hD]; exact Heap.get?_push_size _ rfl⟩
  have lt2 : ∀ b ∈ fp, b < s2.heap.objs.size := fun b hb => (T.obj _ _ st2 b hb).elim fun o z => Heap.lt_size z.1
  have f3 : ∀ b ∈ fp, FpOk X pins (upd H2 D (.lst [])) b ∧ b < s3.heap.objs.size := fun b hb => by
    have l := lt2 b hb
    exact ⟨⟨(upd_ne (by rw [← hD]; exact Nat.ne_of_lt l)).trans (f2 b hb).1, (f2 b hb).2⟩, by rw [h3, Heap.size_push]; exact Nat.lt_succ_of_lt l⟩
  have I4 := block_start I3 ok hN f3
  obtain ⟨pg, pt, pn⟩ := hg s3 (upd H2 D (.lst [])) s3.heap.objs.size (cellsFrom (s3.heap.objs.size + 1) scope.names (cloFrom X.env.cells scope.names [])) fp
  show codeAny _ _ (.compStart (.ListComp elt (⟨tg, iter, ifs, 0⟩ :: rest) scope pos) 0 (.ref it) (.ref D) (compEnvC scope (cellsFrom (s3.heap.objs.size + 1) scope.names (cloFrom X.env.cells scope.names [])) s3.heap.objs.size X.env)) _ { s3 with heap := pushCells (s3.heap.push { cls := .type "dict", data := .dict #[] }) scope.names }
  generalize hce : compEnvC scope (cellsFrom (s3.heap.objs.size + 1) scope.names (cloFrom X.env.cells scope.names [])) s3.heap.objs.size X.env = ce at I4 pg pt pn ⊢
  have cL : ce.locals = s3.heap.objs.size := by subst hce; rfl
  generalize hH3 : upd H2 D (.lst []) = H3 at I3 I4 pg pt pn w0 f3
  generalize hs4 : ({ s3 with heap := pushCells (s3.heap.push { cls := .type "dict", data := .dict #[] }) scope.names } : Shared) = s4 at I4 ⊢
  have st4 : tn 0 s4.heap := T.keep _ _ _ st2 fun b _ o z => by subst hs4; exact pushCells_keeps _ _ _ _ (Heap.get?_push_of_some _ (k3 b o z))
  have fB : ∀ b ∈ fp, FpOk (X.blk s3 H3 scope ce fp) [] H3 b := fun b hb =>
    ⟨(f3 b hb).1.1, (I4.ok.exf b hb).1, I4.ok.exfs b hb, .inl hb, fun x c z => (I4.ok.exf b hb).2 x c z, fun p hp => absurd (show p ∈ ([] : List (Addr × Obj)) ++ [] from hp) (by simp)⟩
  have lp := codeAny_mono (loop_ok (B := X.blk s3 H3 scope ce fp) (k := 0) (c := ⟨tg, iter, ifs, 0⟩) rfl hc rfl rfl (fun d z => hn d z) pg pt pn hv T fB turn I4 st4 (fun b hb => (f3 b hb).1.1) w0) (R' := compPost (model X.prog X.w) X.A X.xe none (EP X pins σ Q) (.ref D) s3.heap.objs.size) fun r s6 z => ?_
  · exact codeAny_compStart_list lp (T.self X.A 0 _ _ _ st4 lp)
  · cases r with
    | error e => exact z.elim
    | ok f =>
      obtain ⟨e, Hz, I6, qq⟩ := z
      subst e
      have I7 : Inv X pins σ Hz s6 := I3.call' (ch := fp) I6.os I6.base I6.hok I6.bare fun b hb => ⟨(f3 b hb).1.2.2.2.1, (f3 b hb).1.2.1, (f3 b hb).1.2.2.2.2.1, (f3 b hb).1.2.2.2.2.2⟩
      have nC : Hz s3.heap.objs.size = none := by rw [← cL]; exact I6.free
      obtain ⟨mm, hnn, _⟩ := I6.loc
      have hnn : s6.heap.Ns s3.heap.objs.size mm := by rw [← cL]; exact hnn
      obtain ⟨f0, f1, f2, f3, f4, f5⟩ := I3.fpOk (Nat.le_refl _) nC
      exact ⟨mm, hnn, fun hh sb => ⟨.ref D, Hz, I7.turned (t' := s6.toks) (fun b o hb z => (sb.2 b hb).trans z) f0 f1 f3 f4 f5, rfl, qq⟩⟩
end
end CN

set_option Elab.async false
set_option linter.all false
set_option maxRecDepth 100000
set_option maxHeartbeats 2000000
/-! A dict comprehension whose keys are tuples. -/
namespace DcT
open PySem PySem.Spec PyProof.Rows L2
theorem put_tup {X : Cx} {pins : List (Addr × Obj)} {σ : L2.St} {H : Hp} {s : Shared} {E : Value → Shared → Prop} {D b : Addr} {kvs : List (List L2.Key × V)} {k : List L2.Key} {v : V} {r : Value} {Q : Unit → Shared → Prop} (hu : X.A.units < cLine)
    (I : Inv X pins σ H s) (hD : H D = some (.dT kvs)) (eb : H b = some (.tup (k.map kV))) (hz : kvs.length < sizeLine) (rv : RelV v r) (h : ∀ z, Inv X pins σ (L2.upd H D (.dT (putK kvs k v))) z → Q () z) : wpAny (model X.prog X.w) X.A (dictSet D (.ref b) r) Q E s := by
  obtain ⟨z, hd, xs, rel, dd⟩ := dt_of I.hok hD
  have hx : xs.length ≤ sizeLine := by rw [← Paired.length rel]; exact z
  have hl : (putK kvs k v).length ≤ sizeLine := Nat.le_trans (length_putK kvs k v) hz
  refine wpAny_dictSet_heap (hsz := hx) (knd := tupleKind (mixKind X.prog X.w)) (show X.A.units < cLine from hu) (key_of I.hok eb) dd fun h' dd' hs => h _ ?_
  obtain ⟨ob, ents, n, at_, exact_, dat, are, _, nodup⟩ := dd'
  refine d_write I (by rw [hD]; exact True.intro) hs ⟨ob, at_⟩ ⟨hl, hd, _, (rel.put k eb rv).keeps fun c ys ec => ?_, ob, ents, n, at_, exact_, dat, are, nodup⟩
  rw [upd_ne (ne_of ec hD (fun z => nomatch z))]
  exact ec
/-- D: the new dict -/
def tDcT (wi : TI) (g : TG) (tt : TT) (tk tv : TE) (vs : List Nat) : TE := fun σ H Q => wi σ H fun J H1 => ∀ D, H1 D = none → ∃ W : Nat → Nat → Hp → Prop, (∃ m, W 0 m (upd H1 D (.dT []))) ∧ ∀ i m H, W i m H →
  (J.stop i H ∧ Q (.ref D) H) ∨ (J.go i H ∧ ∃ N1 : Hp → Prop, (∀ Hz, N1 Hz → ∃ mz, mz < m ∧ W (i + 1) mz Hz) ∧ ∀ x Hy, J.yld i H x Hy → g x (wipe σ vs) Hy fun σ2 H2 => wipe σ2 vs = wipe σ vs ∧ tt σ2 H2 fun b H3 =>
    if b = true then tk σ2 H3 fun y H4 => tv σ2 H4 fun z H5 => ∃ kvs k b, y = .ref b ∧ H5 b = some (.tup (k.map kV)) ∧ H5 D = some (.dT kvs) ∧ kvs.length < sizeLine ∧ N1 (upd H5 D (.dT (putK kvs k z))) else N1 H3)
theorem pe_dcT {X : Cx} {kx vx tg iter : Expr} {ifs : List Expr} {scope : Scope} {own : List (Str × Nat)} {pos : Pos} {wi : TI} {g : TG} {tt : TT} {tk tv : TE} (hc : X.calm = true) (hN : X.N.Nodup) (hu : X.A.units < cLine) (hi : PI X tg iter wi) (ok : BlkOk X.N X.env.scope scope own)
    (hg : ∀ (s : Shared) (H : Hp) (C : Addr) (cl : List (Str × Addr)) (fp : List Addr), PG (X.blk s H scope (compEnvC scope cl C X.env) fp) tg g ∧ PTs (X.blk s H scope (compEnvC scope cl C X.env) fp) ifs tt ∧ PE (X.blk s H scope (compEnvC scope cl C X.env) fp) kx tk ∧ PE (X.blk s H scope (compEnvC scope cl C X.env) fp) vx tv)
    (hs : ∀ x, foldedSetIterable iter X.env x = pure x) : PE X (.DictComp kx vx [⟨tg, iter, ifs, 0⟩] scope pos) (tDcT wi g tt tk tv (own.map (·.2))) := by
  refine ⟨fun pins s σ H Q I h => ?_⟩
  rw [arm_eval_DictComp]
  have hf : ∀ y ∈ scope.names, y.2 = .free → ∃ c, X.env.cells.lookup y.1 = some c := fun y hy e => (ok.free y hy e).elim (fun z => I.ok.has _ (.inl z)) fun z => I.ok.has _ (.inr z)
  refine wpAny_comprehension_free (use := none) rfl hs (closure_ok hf) ok.kind (fun y hy e => by rw [ok.uniq y hy, e]) (thn (hi.run pins s σ H _ I h) fun xv s1 q1 => thn q1 fun itv s2 q2 => ?_)
  obtain ⟨it, fp, tn, J, H2, e, I2, T, st2, f2, q⟩ := q2
  subst e
  refine wpAny_newObj_type (newEnv_comp ?_)
  generalize hD : s2.heap.objs.size = D
  have fresh := I2.hok.fresh (Nat.le_of_eq hD)
  obtain ⟨W, ⟨m0, w0⟩, turn⟩ := q D fresh
  generalize hs3 : ({ s2 with heap := s2.heap.push { cls := .type "dict", data := .dict #[] } } : Shared) = s3
  have h3 : s3.heap = s2.heap.push { cls := .type "dict", data := .dict #[] } := by subst hs3; rfl
  have k3 : ∀ b o, s2.heap.get? b = some o → s3.heap.get? b = some o := fun b o z => by rw [h3]; exact Heap.get?_push_of_some _ z
  have I3 : Inv X pins σ (upd H2 D (.dT [])) s3 := by
    subst hs3
    exact I2.laid (t' := s2.toks) k3 (Nat.le_of_eq hD) (by rw [← hD]; exact dt_empty s2.heap I2.big)
  have lt2 : ∀ b ∈ fp, b < s2.heap.objs.size := fun b hb => (T.obj _ _ st2 b hb).elim fun o z => Heap.lt_size z.1
  have f3 : ∀ b ∈ fp, FpOk X pins (upd H2 D (.dT [])) b ∧ b < s3.heap.objs.size := fun b hb => by
    have l := lt2 b hb
    exact ⟨⟨(upd_ne (by rw [← hD]; exact Nat.ne_of_lt l)).trans (f2 b hb).1, (f2 b hb).2⟩, by rw [h3, Heap.size_push]; exact Nat.lt_succ_of_lt l⟩
  have I4 := block_start I3 ok hN f3
  obtain ⟨pg, pt, pk, pv⟩ := hg s3 (upd H2 D (.dT [])) s3.heap.objs.size (cellsFrom (s3.heap.objs.size + 1) scope.names (cloFrom X.env.cells scope.names [])) fp
  show codeAny _ _ (.compStart (.DictComp kx vx [⟨tg, iter, ifs, 0⟩] scope pos) 0 (.ref it) (.ref D) (compEnvC scope (cellsFrom (s3.heap.objs.size + 1) scope.names (cloFrom X.env.cells scope.names [])) s3.heap.objs.size X.env)) _ { s3 with heap := pushCells (s3.heap.push { cls := .type "dict", data := .dict #[] }) scope.names }
  generalize hce : compEnvC scope (cellsFrom (s3.heap.objs.size + 1) scope.names (cloFrom X.env.cells scope.names [])) s3.heap.objs.size X.env = ce at I4 pg pt pk pv ⊢
  have cL : ce.locals = s3.heap.objs.size := by subst hce; rfl
  generalize hH3 : upd H2 D (.dT []) = H3 at I3 I4 pg pt pk pv w0 f3
  generalize hs4 : ({ s3 with heap := pushCells (s3.heap.push { cls := .type "dict", data := .dict #[] }) scope.names } : Shared) = s4 at I4 ⊢
  have st4 : tn 0 s4.heap := T.keep _ _ _ st2 fun b _ o z => by subst hs4; exact pushCells_keeps _ _ _ _ (Heap.get?_push_of_some _ (k3 b o z))
  have stat : ∀ {Hz : Hp} {σz : L2.St} {z : Shared}, Inv (X.blk s3 H3 scope ce fp) [] σz Hz z → (∀ b ∈ fp, Hz b = none) → ∀ b ∈ fp, FpOk (X.blk s3 H3 scope ce fp) [] Hz b := fun J n b hb =>
    ⟨n b hb, (J.ok.exf b hb).1, J.ok.exfs b hb, .inl hb, fun x c z => (J.ok.exf b hb).2 x c z, fun p hp => absurd (show p ∈ ([] : List (Addr × Obj)) ++ [] from hp) (by simp)⟩
  have lp : codeAny (model X.prog X.w) X.A (.compLoop (.DictComp kx vx [⟨tg, iter, ifs, 0⟩] scope pos) 0 (.ref it) (.ref D) ce) (compPost (model X.prog X.w) X.A X.xe none (EP X pins σ Q) (.ref D) s3.heap.objs.size) s4 := by
    refine compLoop_anyD (fun n z => ∃ i Hz, Inv (X.blk s3 H3 scope ce fp) [] (wipe σ (own.map (·.2))) Hz z ∧ tn i z.heap ∧ (∀ b ∈ fp, Hz b = none) ∧ W i n Hz) (fun n s5 hI => ?_) m0 ⟨0, H3, I4, st4, fun b hb => (f3 b hb).1.1, w0⟩
    obtain ⟨i, H5, I5, st5, n5, w5⟩ := hI
    rcases turn i n H5 w5 with ⟨stop, qq⟩ | ⟨go, N1, hN1, step⟩
    · refine thnF (T.done (X.blk s3 H3 scope ce fp) rfl rfl rfl hc i [] s5 _ H5 (fun _ _ => False) I5 (stat I5 n5) st5 stop) fun r s6 z => ?_
      obtain ⟨hr, I6⟩ := z
      subst hr
      have I7 : Inv X pins σ H5 s6 := I3.call' (ch := fp) I6.os I6.base I6.hok I6.bare fun b hb => ⟨(f3 b hb).1.2.2.2.1, (f3 b hb).1.2.1, (f3 b hb).1.2.2.2.2.1, (f3 b hb).1.2.2.2.2.2⟩
      have nC : H5 s3.heap.objs.size = none := by rw [← cL]; exact I6.free
      obtain ⟨mm, hnn, _⟩ := I6.loc
      have hnn : s6.heap.Ns s3.heap.objs.size mm := by rw [← cL]; exact hnn
      obtain ⟨f0, f1, f2, f3, f4, f5⟩ := I3.fpOk (Nat.le_refl _) nC
      exact ⟨mm, hnn, fun hh sb => ⟨.ref D, H5, I7.turned (t' := s6.toks) (fun b o hb z => (sb.2 b hb).trans z) f0 f1 f3 f4 f5, rfl, qq⟩⟩
    · refine thnF (T.item (X.blk s3 H3 scope ce fp) rfl rfl rfl hc i [] s5 _ H5 (fun _ _ => False) I5 (stat I5 n5) st5 go) fun r s6 z => ?_
      obtain ⟨u, hr, h6⟩ := z
      subst hr
      refine thnF h6 fun _ s7 z => ?_
      obtain ⟨x, H7, I7, r7, y7, st7, n7⟩ := z
      refine thnF (pg.run _ s7 _ H7 x u _ (I7.pinned (stat I7 n7) (T.obj _ _ st7)) r7 (step x H7 y7)) fun _ s8 z => ?_
      obtain ⟨σ8, H8, I8, hw8, q8⟩ := z
      refine thnF (pt.run _ s8 σ8 H8 _ I8 q8) fun b s9 z => ?_
      obtain ⟨H9, I9, q9⟩ := z
      have fin : ∀ {z : Shared} {Hz : Hp}, Inv (X.blk s3 H3 scope ce fp) ([] ++ pinsAt fp s7.heap) σ8 Hz z → N1 Hz → ∃ mz, mz < n ∧ ∃ i Hy, Inv (X.blk s3 H3 scope ce fp) [] (wipe σ (own.map (·.2))) Hy z ∧ tn i z.heap ∧ (∀ b ∈ fp, Hy b = none) ∧ W i mz Hy := by
        intro z Hz Iz nz
        obtain ⟨mz, hm, wz⟩ := hN1 Hz nz
        have pin : ∀ b ∈ fp, ∀ o, s7.heap.get? b = some o → z.heap.get? b = some o ∧ Hz b = none := by
          intro b hb o e
          have a := Iz.pin (b, o) (List.mem_append_right _ (List.mem_append_right _ (mem_pinsAt hb e)))
          exact ⟨a.1, a.2.1⟩
        refine ⟨mz, hm, i + 1, Hz, (Iz.unpinned (pins := [])).weak (by rw [← hw8, wipe_length]) (fun j v e => ?_), T.keep _ _ _ st7 (fun b hb o e => (pin b hb o e).1), fun b hb => ?_, wz⟩
        · rw [← hw8] at e
          exact (wipe_some e).1
        · obtain ⟨o, e, _⟩ := T.obj _ _ st7 b hb
          exact (pin b hb o e).2
      cases b with
      | false =>
        rw [if_neg Bool.false_ne_true] at q9 ⊢
        exact fin I9 q9
      | true =>
        rw [if_pos rfl] at q9 ⊢
        refine thnF (pk.run _ s9 σ8 H9 _ I9 q9) fun ku s10 z => ?_
        obtain ⟨yk, H10, I10, r10, q10⟩ := z
        refine thnF (pv.run _ s10 σ8 H10 _ I10 q10) fun vu s11 z => ?_
        obtain ⟨yv, H11, I11, r11, kvs, k, kb, ek, hkb, hD11, hz11, nx⟩ := z
        subst ek
        obtain rfl : ku = Value.ref kb := r10
        exact put_tup (X := X.blk s3 H3 scope ce fp) hu I11 hD11 hkb hz11 r11 fun s12 I12 => fin I12 nx
  exact codeAny_compStart_dict lp (T.self X.A 0 _ _ _ st4 lp)
end DcT

set_option Elab.async false
set_option linter.all false
set_option maxRecDepth 100000
set_option maxHeartbeats 2000000
/-! tuple(list) as a plain tuple; dict(t) of a plain tuple of pairs whose keys are tuples. -/
namespace DpT
open PySem PySem.Spec PyProof.Rows L2
/-- a tuple of the class itself -/
def TupF (H : Hp) (a : Addr) (xs : List V) : Prop := ∃ o : Obj, o.cls = .type "tuple" ∧ o.dict = none ∧ H a = some (.frz o (.tup xs))
theorem TupF.sq {K : PySem.W.Frag} {H : Hp} {a : Addr} {xs : List V} (h : TupF H a xs) : SqT K H a xs := by
  obtain ⟨o, _, _, e⟩ := h
  exact .inl (.inr ⟨o, e⟩)
theorem call_tupleF {X : Cx} : CallR X (.type "tuple") (fun xs H Q => ∃ p ys, xs = [.ref p] ∧ SqL X.K H p ys ∧ ∀ l o, H l = none → o.cls = .type "tuple" → o.dict = none → Q (.ref l) (upd H l (.frz o (.tup ys)))) := by
  intro pins s σ H xs us Q I r h
  obtain ⟨p, ys, rfl, hq, q⟩ := h
  obtain ⟨u, rfl, rx⟩ := vals1 r
  cases rx
  obtain ⟨its, rel, pl, hz⟩ := I.list hq
  have same := rel.length
  refine call_tuple_list pl.isList (fun h' old => ?_) (by simp only [List.size_toArray] <;> omega)
  have I1 : Inv X pins σ H { s with heap := h' } := I.kept (t' := s.toks) old
  have at_ : (h'.push { cls := .type "tuple", data := .seq its.toArray }).get? h'.objs.size = some { cls := .type "tuple", data := .seq its.toArray } := Heap.get?_push_size _ rfl
  have I2 := I1.laid (t' := s.toks) (a := h'.objs.size) (o := .frz { cls := .type "tuple", data := .seq its.toArray } (.tup ys)) (h' := h'.push { cls := .type "tuple", data := .seq its.toArray }) (fun b o e => Heap.get?_push_of_some _ e) (Nat.le_refl _) ⟨at_, hz, its, rel, ⟨_, at_, rfl, _, rfl⟩⟩
  exact ⟨.ref h'.objs.size, _, I2, rfl, q _ _ (I1.hok.fresh (Nat.le_refl _)) rfl rfl⟩
/-- a pair (key, value): the key's tuple at c -/
def PairT (K : PySem.W.Frag) (H : Hp) (p : List L2.Key × V) (t : Addr) : Prop := ∃ c, SqT K H t [.ref c, p.2] ∧ H c = some (.tup (p.1.map kV))
def rDictT (K : PySem.W.Frag) : List V → Hp → VK → Prop := fun xs H Q => ∃ (a : Addr) (ts : List Addr) (kvs : List (List L2.Key × V)), xs = [.ref a] ∧ TupF H a (ts.map V.ref) ∧ Paired (PairT K H) kvs ts ∧ (kvs.map (·.1)).Nodup ∧ kvs.length ≤ 1000 ∧
  ∀ p, H p = none → Q (.ref p) (upd H p (.dT kvs))
theorem refs_of : ∀ {ts : List Addr} {its : List Value}, Vals (ts.map V.ref) its → its = ts.map Value.ref
  | [], _, .nil => rfl
  | t :: ts, _, .cons a r => by
    cases a
    rw [refs_of r]
    rfl
theorem pairs_at {X : Cx} {pins : List (Addr × Obj)} {σ : L2.St} {H : Hp} {s : Shared} (I : Inv X pins σ H s) : ∀ {kvs : List (List L2.Key × V)} {ts : List Addr}, Paired (PairT X.K H) kvs ts →
    ∃ xs : List (List L2.Key × Addr × Value), KT H kvs xs ∧ Paired (fun (x : List L2.Key × Addr × Value) t => s.heap.IsTuple t #[.ref x.2.1, x.2.2]) xs ts
  | _, _, .nil => ⟨[], .nil, .nil⟩
  | _, _, .cons a r => by
    obtain ⟨xs, k, p⟩ := pairs_at I r
    obtain ⟨c, ht, hc⟩ := a
    obtain ⟨its, rel, pl, _⟩ := I.tuple ht
    cases rel with
    | cons r1 rel =>
      cases rel with
      | cons r2 rel =>
        cases rel
        cases r1
        exact ⟨(_, c, _) :: xs, .cons ⟨rfl, hc, r2⟩ k, .cons pl p⟩
theorem stored_new {K : Type} [DecidableEq K] : ∀ (xs acc : List (K × Addr × Value)), ((acc ++ xs).map (·.1)).Nodup → storedAllH acc xs = acc ++ xs
  | [], acc, _ => by
    show acc = _
    rw [List.append_nil]
  | x :: xs, acc, h => by
    have e : storedH acc x.1 x.2.1 x.2.2 = acc ++ [x] := by
      refine storedH_new ?_ _ _
      cases q : atKey acc x.1 with
      | none => rfl
      | some p =>
        exfalso
        rw [List.map_append, List.nodup_append] at h
        have m : x.1 ∈ acc.map (·.1) := by
          unfold atKey at q
          obtain ⟨y, hy, _⟩ := Option.map_eq_some_iff.mp q
          have m1 := List.mem_of_find?_eq_some hy
          have m0 : decide (y.1 = x.1) = true := List.find?_some (p := fun z : K × Addr × Value => decide (z.1 = x.1)) hy
          have m2 := of_decide_eq_true m0
          exact List.mem_map.mpr ⟨y, m1, m2⟩
        exact h.2.2 _ m _ (List.mem_cons_self ..) rfl
    show storedAllH (storedH acc x.1 x.2.1 x.2.2) xs = _
    rw [e, stored_new xs (acc ++ [x]) (by rw [List.append_assoc]; exact h), List.append_assoc]
    rfl
theorem pair_at {h : Heap} : ∀ {xs : List (List L2.Key × Addr × Value)} {ts : List Addr} {j : Nat} {k v : Value}, Paired (fun (x : List L2.Key × Addr × Value) t => h.IsTuple t #[.ref x.2.1, x.2.2]) xs ts → (xs.map fun x => (Value.ref x.2.1, x.2.2))[j]? = some (k, v) →
    (ts.map Value.ref)[j]? = some (.ref (ts.getD j 0)) ∧ h.IsTuple (ts.getD j 0) #[k, v]
  | _, _, j, k, v, .nil, e => by simp at e
  | _, _, 0, k, v, .cons a r, e => by
    have e := Option.some.inj e
    cases e
    exact ⟨rfl, a⟩
  | _, _, j + 1, k, v, .cons a r, e => by
    obtain ⟨q1, q2⟩ := pair_at (j := j) (k := k) (v := v) r (by simpa using e)
    exact ⟨by simpa using q1, by simpa using q2⟩
theorem call_dictT {X : Cx} (hc : X.calm = true) (hu : X.A.units + 3 < cLine) : CallR X (.type "dict") (rDictT X.K) := by
  intro pins s σ H vs us Q I r h
  obtain ⟨a, ts, kvs, rfl, ⟨o, oc, od, e⟩, rows, nd, len, q⟩ := h
  obtain ⟨u, rfl, rx⟩ := vals1 r
  cases rx
  obtain ⟨at_, _, its, rel, o2, e2, c2, n, d2⟩ := I.hok a _ e
  have oe : o2 = o := Option.some.inj (e2.symm.trans at_)
  subst oe
  have ri := refs_of rel
  subst ri
  obtain ⟨xs, kt, pr⟩ := pairs_at I rows
  have l1 : kvs.length = xs.length := Paired.length kt
  have l2 : xs.length = ts.length := Paired.length pr
  have big : (1000 : Nat) ≤ sizeLine := by decide
  have keys : kvs.map (·.1) = xs.map (·.1) := by
    clear pr rows l1 l2 nd len q
    induction kt with
    | nil => rfl
    | cons a r ih => rw [List.map_cons, List.map_cons, a.1, ih]
  have arg := PairArg.tuple (prog := X.prog) (w := X.w) a (ts.map Value.ref).toArray (fun j => ts.getD j 0) (xs.map fun x => (Value.ref x.2.1, x.2.2))
  refine call_dict_pairsH (knd := tupleKind (mixKind X.prog X.w)) (ps := xs) arg (I.ok.hd hc) (show X.A.in1.in1.units < cLine from ?room) ⟨⟨o2, n, at_, oc, od, d2⟩, by simp [l2], fun j k v z => ?item⟩ ⟨by simp, fun i k v z => ?have_⟩ (fun h' keep x hx => ?stay) (by rw [List.length_map]; omega) fun h' tk dd keep => ?fin
  case room => show X.A.units + 1 + 1 < cLine; omega
  case item =>
    obtain ⟨q1, q2⟩ := pair_at pr z
    exact ⟨by simpa using q1, .inl q2⟩
  case have_ =>
    obtain ⟨x, hx, ex⟩ := Option.map_eq_some_iff.mp (by rw [← List.getElem?_map]; exact z)
    cases ex
    exact ⟨x.1, x.2.1, hx, rfl⟩
  case stay =>
    have key : ∀ x ∈ xs, H x.2.1 = some (.tup (x.1.map kV)) := by
      clear pr rows l1 l2 nd len q keys keep hx arg
      induction kt with
      | nil => exact fun x hx => nomatch hx
      | cons b r ih =>
        intro x hx
        rcases List.mem_cons.mp hx with z | z
        · subst z
          rw [← b.1]
          exact b.2.1
        · exact ih x z
    have q0 := key_of I.hok (key x hx)
    obtain ⟨ob, items, n, g, gc, gd, gi⟩ := q0
    exact ⟨ob, items, n, keep x.2.1 ob (Nat.ne_of_lt (Heap.lt_size g)) (fun m => nomatch m) g, gc, gd, gi⟩
  case fin =>
    rw [stored_new xs [] (by rw [List.nil_append, ← keys]; exact nd), List.nil_append] at dd
    obtain ⟨ob, ents, ep, g, ex, gd, ge, _, gn⟩ := dd
    have big2 : (s.heap.objs.size == sysModules) = false := beq_eq_false_iff_ne.mpr (Nat.ne_of_gt I.big)
    refine ⟨.ref s.heap.objs.size, upd H s.heap.objs.size (.dT kvs), I.laid (t' := tk) (o := .dT kvs) (fun b u z => keep b u (fun m => nomatch m) z) (Nat.le_refl _) ⟨by omega, big2, xs, ?_, ob, ents, ep, g, ex, gd, ge, gn⟩, rfl, q _ (I.hok.fresh (Nat.le_refl _))⟩
    have off : ∀ {c : Addr} {ys : List V}, H c = some (.tup ys) → (upd H s.heap.objs.size (.dT kvs)) c = some (.tup ys) := fun {c ys} z => by rw [upd_ne (ne_of_none z (I.hok.fresh (Nat.le_refl _)))]; exact z
    exact Paired.mapP kt fun x y z => ⟨z.1, off z.2.1, z.2.2⟩
end DpT

set_option Elab.async false
set_option linter.all false
set_option maxRecDepth 100000
set_option maxHeartbeats 8000000
namespace Hd
open PySem L2 Pen RG Dat KEq
abbrev sRT : Stmt := top 45
/-! ### tables: rows by (name, key) -/
abbrev Z := Str × Str
abbrev kp := KSrt.kp
def lk : List (Z × Int) → Z → Option Int
  | [], _ => none
  | e :: t, z => if e.1 = z then some e.2 else lk t z
def tput : List (Z × Int) → Z → Int → List (Z × Int)
  | [], z, v => [(z, v)]
  | e :: t, z, v => if e.1 = z then (z, v) :: t else e :: tput t z v
abbrev ent (e : Z × Int) : List L2.Key × V := (kp e.1, .int e.2)
theorem kp_inj {a b : Z} (h : kp a = kp b) : a = b := by
  obtain ⟨a1, a2⟩ := a
  obtain ⟨b1, b2⟩ := b
  simp only [KSrt.kp, List.cons.injEq, Sum.inr.injEq, and_true] at h
  rw [h.1, h.2]
theorem val_ent : ∀ (t : List (Z × Int)) (z : Z), valV (t.map ent) (kp z) = (lk t z).map V.int
  | [], _ => rfl
  | e :: t, z => by
    by_cases h : e.1 = z
    · have q : lk (e :: t) z = some e.2 := if_pos h
      rw [q, List.map_cons, valV_pos (show (ent e).1 = kp z by rw [← h])]
      rfl
    · have q : lk (e :: t) z = lk t z := if_neg h
      rw [q, List.map_cons, valV_neg (fun y => h (kp_inj y)), val_ent t z]
theorem lk_none : ∀ {t : List (Z × Int)} {z : Z}, lk t z = none → z ∉ t.map (·.1)
  | [], _, _ => by simp
  | e :: t, z, h => by
    by_cases q : e.1 = z
    · rw [show lk (e :: t) z = some e.2 from if_pos q] at h
      cases h
    · rw [show lk (e :: t) z = lk t z from if_neg q] at h
      rw [List.map_cons, List.mem_cons]
      exact fun y => y.elim (fun y => q y.symm) (lk_none h)
theorem lk_some : ∀ {t : List (Z × Int)} {z : Z}, z ∈ t.map (·.1) → ∃ v, lk t z = some v ∧ (z, v) ∈ t
  | e :: t, z, h => by
    by_cases q : e.1 = z
    · exact ⟨e.2, if_pos q, by rw [← q]; exact List.mem_cons_self⟩
    · rw [List.map_cons, List.mem_cons] at h
      obtain ⟨v, a, b⟩ := lk_some (h.resolve_left fun y => q y.symm)
      exact ⟨v, by rw [show lk (e :: t) z = lk t z from if_neg q]; exact a, List.mem_cons_of_mem _ b⟩
theorem tput_keys : ∀ (t : List (Z × Int)) (z : Z) (v : Int), (tput t z v).map (·.1) = if z ∈ t.map (·.1) then t.map (·.1) else t.map (·.1) ++ [z]
  | [], z, v => by simp [tput]
  | e :: t, z, v => by
    by_cases q : e.1 = z
    · rw [show tput (e :: t) z v = (z, v) :: t from if_pos q, if_pos (by rw [List.map_cons, q]; exact List.mem_cons_self), List.map_cons, List.map_cons, q]
    · rw [show tput (e :: t) z v = e :: tput t z v from if_neg q, List.map_cons, tput_keys t z v]
      by_cases m : z ∈ t.map (·.1)
      · rw [if_pos m, if_pos (by rw [List.map_cons]; exact List.mem_cons_of_mem _ m), List.map_cons]
      · rw [if_neg m, if_neg (by rw [List.map_cons, List.mem_cons]; exact fun y => y.elim (fun y => q y.symm) m), List.map_cons, List.cons_append]
theorem tput_nodup {t : List (Z × Int)} {z : Z} {v : Int} (h : (t.map (·.1)).Nodup) : ((tput t z v).map (·.1)).Nodup := by
  rw [tput_keys]
  by_cases m : z ∈ t.map (·.1)
  · rw [if_pos m]
    exact h
  · rw [if_neg m]
    refine List.nodup_append.mpr ⟨h, List.nodup_cons.mpr ⟨by simp, List.nodup_nil⟩, fun a ha b hb e => ?_⟩
    have : b = z := by simpa using hb
    rw [e, this] at ha
    exact m ha
theorem map_same (z : Z) (v : V) : ∀ (t : List (Z × Int)), z ∉ t.map (·.1) → (t.map ent).map (fun kv => if kv.1 = kp z then (kv.1, v) else kv) = t.map ent
  | [], _ => rfl
  | e :: t, h => by
    rw [List.map_cons, List.mem_cons] at h
    rw [List.map_cons, List.map_cons, map_same z v t (fun y => h (.inr y))]
    have n : ¬ (ent e).1 = kp z := fun y => h (.inl (kp_inj y).symm)
    rw [if_neg n]
theorem put_ent : ∀ (t : List (Z × Int)) (z : Z) (v : Int), (t.map (·.1)).Nodup → putK (t.map ent) (kp z) (.int v) = (tput t z v).map ent := by
  intro t z v nd
  unfold putK
  rw [valV_any, val_ent]
  by_cases m : z ∈ t.map (·.1)
  · obtain ⟨w, hw, hm⟩ := lk_some m
    rw [hw, Option.map_some, Option.isSome_some, if_pos rfl]
    clear hw hm
    induction t with
    | nil => cases m
    | cons e t ih =>
      rw [List.map_cons, List.nodup_cons] at nd
      by_cases q : e.1 = z
      · rw [show tput (e :: t) z v = (z, v) :: t from if_pos q, List.map_cons, List.map_cons, List.map_cons, map_same z _ t (by rw [← q]; exact nd.1), if_pos (show (ent e).1 = kp z by rw [← q])]
        show (kp e.1, V.int v) :: _ = (kp z, V.int v) :: _
        rw [q]
      · rw [List.map_cons, List.mem_cons] at m
        rw [show tput (e :: t) z v = e :: tput t z v from if_neg q, List.map_cons, List.map_cons, List.map_cons, ih nd.2 (m.resolve_left fun y => q y.symm), if_neg (fun y => q (kp_inj y))]
  · have hn : lk t z = none := by
      cases q : lk t z with
      | none => rfl
      | some w =>
        exfalso
        clear nd
        induction t with
        | nil => cases q
        | cons e t ih =>
          rw [List.map_cons, List.mem_cons] at m
          by_cases y : e.1 = z
          · exact m (.inl y.symm)
          · rw [show lk (e :: t) z = lk t z from if_neg y] at q
            exact ih (fun h => m (.inr h)) q
    rw [hn, if_neg (by simp)]
    have e : tput t z v = t ++ [(z, v)] := by
      clear hn nd
      induction t with
      | nil => rfl
      | cons e t ih =>
        rw [List.map_cons, List.mem_cons] at m
        rw [show tput (e :: t) z v = e :: tput t z v from if_neg fun y => m (.inl y.symm), ih fun h => m (.inr h)]
        rfl
    rw [e, List.map_append]
    rfl
theorem keys_ent (t : List (Z × Int)) : (t.map ent).map (·.1) = (t.map (·.1)).map kp := by rw [List.map_map, List.map_map]; rfl
/-- the keys, ascending -/
structure Srt (ks zs : List Z) : Prop where
  perm : zs.Perm ks
  nd : ks.Nodup
  up : zs.Pairwise fun a b => KSrt.lt2 b a = false
/-- one order alone is ascending -/
theorem Srt.one : ∀ {ks zs ys : List Z}, Srt ks zs → Srt ks ys → zs = ys := by
  intro ks zs
  induction zs generalizing ks with
  | nil =>
    intro ys a b
    have e : ks = [] := List.Perm.eq_nil (a.perm.symm)
    have := b.perm
    rw [e] at this
    exact (List.Perm.eq_nil this).symm
  | cons z zs ih =>
    intro ys a b
    cases ys with
    | nil =>
      have e : ks = [] := List.Perm.eq_nil (b.perm.symm)
      have := a.perm
      rw [e] at this
      exact List.Perm.eq_nil this
    | cons y ys =>
      have pz := List.pairwise_cons.mp a.up
      have py := List.pairwise_cons.mp b.up
      have zy : z = y := by
        have m1 : y ∈ z :: zs := a.perm.mem_iff.mpr (b.perm.mem_iff.mp List.mem_cons_self)
        have m2 : z ∈ y :: ys := b.perm.mem_iff.mpr (a.perm.mem_iff.mp List.mem_cons_self)
        rcases List.mem_cons.mp m1 with e | m1
        · exact e.symm
        rcases List.mem_cons.mp m2 with e | m2
        · exact e
        exact KSrt.lt2_total (py.1 z m2) (pz.1 y m1)
      subst zy
      have p : zs.Perm ys := List.Perm.cons_inv (a.perm.trans b.perm.symm)
      have nd : (z :: ys).Nodup := b.perm.nodup_iff.mpr b.nd
      rw [ih (ks := ys) ⟨p, (List.nodup_cons.mp nd).2, pz.2⟩ ⟨.refl _, (List.nodup_cons.mp nd).2, py.2⟩]
/-- rows as they are told -/
def rowsOf (t : List (Z × Int)) (zs : List Z) : List (Z × Int) := (zs.filter fun z => decide ((lk t z).getD 0 ≠ 0)).map fun z => (z, (lk t z).getD 0)
/-- a row: its key at c -/
def RowT (H : Hp) (e : Z × Int) (r : Addr) : Prop := ∃ c, H r = some (.tup [.ref c, .int e.2]) ∧ H c = some (.tup [.str e.1.1, .str e.1.2])
theorem RowT.same {H G : Hp} {e : Z × Int} {r : Addr} (s : Same H G) (x : RowT H e r) : RowT G e r := by
  obtain ⟨c, a, b⟩ := x
  exact ⟨c, s _ _ a, s _ _ b⟩
theorem rows_same {H G : Hp} (s : Same H G) : ∀ {L : List (Z × Int)} {ts : List Addr}, Paired (RowT H) L ts → Paired (RowT G) L ts
  | _, _, .nil => .nil
  | _, _, .cons a r => .cons (a.same s) (rows_same s r)
/-- the rows L at r, a tuple of the class itself -/
def RowsAt (H : Hp) (r : Addr) (L : List (Z × Int)) : Prop := ∃ ts : List Addr, DpT.TupF H r (ts.map V.ref) ∧ Paired (RowT H) L ts
theorem RowsAt.same {H G : Hp} {r : Addr} {L : List (Z × Int)} (s : Same H G) (x : RowsAt H r L) : RowsAt G r L := by
  obtain ⟨ts, ⟨o, a, b, c⟩, p⟩ := x
  exact ⟨ts, ⟨o, a, b, s _ _ c⟩, rows_same s p⟩
theorem rowsOf_snoc (t : List (Z × Int)) (zs : List Z) (z : Z) : rowsOf t (zs ++ [z]) = if (lk t z).getD 0 ≠ 0 then rowsOf t zs ++ [(z, (lk t z).getD 0)] else rowsOf t zs := by
  unfold rowsOf
  by_cases h : (lk t z).getD 0 ≠ 0
  · rw [if_pos h, List.filter_append, List.map_append, List.filter_cons_of_pos (by simpa using h)]
    rfl
  · rw [if_neg h, List.filter_append, List.map_append, List.filter_cons_of_neg (by simpa using h)]
    simp
theorem pget {α β : Type} {F : α → β → Prop} : ∀ {xs : List α} {ys : List β} {i : Nat} {y : β}, Paired F xs ys → ys[i]? = some y → ∃ x, xs[i]? = some x ∧ F x y
  | _, _, _, _, .nil, h => by cases h
  | _, _, 0, _, .cons a r, h => by
    have e := Option.some.inj h
    subst e
    exact ⟨_, rfl, a⟩
  | _, _, i + 1, _, .cons a r, h => pget (i := i) r h
theorem rows_put {G : Hp} {D : Addr} {xs ys : List V} (e : G D = some (.lst xs)) : ∀ {L : List (Z × Int)} {ts : List Addr}, Paired (RowT G) L ts → Paired (RowT (upd G D (.lst ys))) L ts
  | _, _, .nil => .nil
  | _, _, .cons a r => by
    refine .cons ?_ (rows_put e r)
    obtain ⟨c, a1, a2⟩ := a
    exact ⟨c, (upd_ne (ne_of a1 e (by intro z; cases z))).trans a1, (upd_ne (ne_of a2 e (by intro z; cases z))).trans a2⟩
theorem paired_snoc {α β : Type} {F : α → β → Prop} {x : α} {y : β} (h : F x y) : ∀ {xs : List α} {ys : List β}, Paired F xs ys → Paired F (xs ++ [x]) (ys ++ [y])
  | _, _, .nil => .cons h .nil
  | _, _, .cons a r => .cons a (paired_snoc h r)
theorem paired_length {α β : Type} {F : α → β → Prop} : ∀ {xs : List α} {ys : List β}, Paired F xs ys → xs.length = ys.length
  | _, _, .nil => rfl
  | _, _, .cons _ r => congrArg (· + 1) (paired_length r)
theorem rowsOf_len (t : List (Z × Int)) (zs : List Z) : (rowsOf t zs).length ≤ zs.length := by
  unfold rowsOf
  rw [List.length_map]
  exact List.length_filter_le _ _
def spRT : Sp := fun vs H Q _ => ∃ (d : Addr) (t : List (Z × Int)), vs = [.ref d] ∧ H d = some (.dT (t.map ent)) ∧ t.length ≤ 900 ∧ (t.map (·.1)).Nodup ∧ ∀ zs r H', Srt (t.map (·.1)) zs → Same H H' → RowsAt H' r (rowsOf t zs) → Q (.ref r) H'
structure TxtS (mg : Str → Option Value) : Prop where
  tuple : mg "tuple" = none
  sorted : mg "sorted" = none
section
variable {P : Program} {w : World} {K : PySem.W.Frag} {mg : Str → Option Value} {base : Heap}
theorem scRT : FnScope ["_law_found", "_law_cell"] ["_law_found"] (defScope sRT) := ⟨rfl, rfl, rfl, by decide +kernel, rfl, by decide +kernel, by decide +kernel⟩
theorem ok_rt {f : Addr} {fd : FuncData} (F : Fun K "_law_row_tuple" "_law_row_tuple" sRT f fd) (T : TxtS mg) : FnOk P w K mg base CX0 1 f fd ["_law_found"] spRT := by
  refine F.ok scRT (fun vs H Q E h => ?_) (fun cdv A outer s H vs Q E hr h => ?_)
  · obtain ⟨d, t, rfl, _⟩ := h
    rfl
  · obtain ⟨d, t, rfl, hd, hl, nd, k⟩ := h
    have hu := hu_of hr
    refine ⟨_, (pss_one (ps_ret (pe_callTy DpT.call_tupleF (by rfl) T.tuple (by decide +kernel) (pa_cons (pe_lc (own := [("_law_cell", 1)]) (g := gName 1) (tt := (tTest (tOp rNe (tDGet (tVar 0) (tVar 1)) (tC (.int 0))))) (te := (Ab.tTupA (tCons (tVar 1) (tCons (tDGet (tVar 0) (tVar 1)) tNil)))) rfl scRT.nd (pi_list (pe_callB (KSrt.call_sortedT rfl) (by rfl) T.sorted (by decide +kernel) (pa_cons (pv 0) pa_nil))) (blkOk_by (N := ["_law_found", "_law_cell"]) (sc := defScope sRT) (by decide +kernel)) (fun _ _ _ _ _ => by exact (pg_name (i := 1) scRT.nd rfl (Or.inl rfl))) (fun _ _ _ _ _ => by exact pts_one (pt_cmpR op_ne (pe_dget hu (pv 0) (pv 1) (fun _ _ => rfl)) pe_int (nomark _))) (fun _ _ _ _ _ => by exact (Ab.pe_tupA (pa_cons (pv 1) (pa_cons (pe_dget hu (pv 0) (pv 1) (fun _ _ => rfl)) pa_nil))))) pa_nil)))), ?_⟩
    refine ⟨_, rfl, d, t.map ent, t.map (·.1), rfl, .inl hd, keys_ent t, by rw [List.length_map]; omega, fun p zs cs np pm nds up pr => ⟨p, rfl, ⟨_, SqL.of upd_same⟩, fun D hD => ?_⟩⟩
    have s0 : Same H (upd H p (.lst (cs.map V.ref))) := same_new np
    have lz : zs.length = t.length := by rw [pm.length_eq, List.length_map]
    have lc : zs.length = cs.length := paired_length pr
    refine lc_list (K := K) (a := p) (xs := cs.map V.ref) (fun i G => ∃ ts : List Addr, G D = some (.lst (ts.map V.ref)) ∧ Paired (RowT G) (rowsOf t (zs.take i)) ts ∧ Same (upd H p (.lst (cs.map V.ref))) G) ⟨[], upd_same, .nil, same_new hD⟩ (fun i G _ h => ?_) (fun i x G hx h => ?_) (fun G h => ?_)
    · obtain ⟨ts, _, _, s1⟩ := h
      exact SqL.of (s1 _ _ upd_same)
    · obtain ⟨ts, eD, rows, s1⟩ := h
      obtain ⟨c, hc, rfl⟩ : ∃ c, cs[i]? = some c ∧ V.ref c = x := by
        rw [List.getElem?_map] at hx
        obtain ⟨c, a, b⟩ := Option.map_eq_some_iff.mp hx
        exact ⟨c, a, b⟩
      obtain ⟨z, hz, hcz⟩ := pget pr hc
      have ec : G c = some (.tup [.str z.1, .str z.2]) := s1 _ _ (s0 _ _ hcz)
      have ed : G d = some (.dT (t.map ent)) := s1 _ _ (s0 _ _ hd)
      obtain ⟨v, hv, _⟩ := lk_some (t := t) (z := z) (pm.mem_iff.mp (List.mem_of_getElem? hz))
      have dg : ∀ {G2 : Hp}, Same G G2 → DGet G2 d (.ref c) (some (.int v)) := fun {G2} s2 => by
        have q := DGet.t (k := kp z) (s2 _ _ ed) (s2 _ _ ec)
        rw [val_ent, hv] at q
        exact q
      have tk : zs.take (i + 1) = zs.take i ++ [z] := take_more hz
      have il : i < 1000 := by
        have := (List.getElem?_eq_some_iff.mp hz).1
        omega
      have tl : ts.length ≤ 1000 := by
        have a := rowsOf_len t (zs.take i)
        rw [paired_length rows, List.length_take] at a
        omega
      refine ⟨rfl, _, rfl, _, rfl, d, _, rfl, dg (.refl G), rfl, _, rfl, ite2 (fun h1 => ?_) (fun h1 => ?_)⟩
      · have nz : (lk t z).getD 0 ≠ 0 := by
          rw [hv]
          intro e
          have e : v = 0 := e
          rw [e] at h1
          exact absurd h1 (by simp)
        refine ⟨_, rfl, _, rfl, _, rfl, d, _, rfl, dg (.refl G), sz (by simp), fun r G2 n2 s2 e2 => ⟨ts.map V.ref, s2 _ _ eD, ?_, ts ++ [r], ?_, ?_, ?_⟩⟩
        · rw [List.length_map]
          exact Nat.lt_of_le_of_lt tl (by decide)
        · rw [upd_same, List.map_append]
          rfl
        · rw [tk, rowsOf_snoc, if_pos nz]
          refine paired_snoc ?_ (rows_put (s2 _ _ eD) (rows_same s2 rows))
          rw [hv]
          exact ⟨c, (upd_ne (ne_of e2 (s2 _ _ eD) (by intro y; cases y))).trans e2, (upd_ne (ne_of (s2 _ _ ec) (s2 _ _ eD) (by intro y; cases y))).trans (s2 _ _ ec)⟩
        · intro b o y
          rw [upd_ne (ne_of_none y hD)]
          exact s2 _ _ (s1 _ _ y)
      · have nz : ¬ (lk t z).getD 0 ≠ 0 := by
          rw [hv]
          intro e
          have e : v ≠ 0 := e
          exact h1 (by simpa using e)
        exact ⟨ts, eD, by rw [tk, rowsOf_snoc, if_neg nz]; exact rows, s1⟩
    · obtain ⟨ts, eD, rows, s1⟩ := h
      rw [List.length_map, ← lc, List.take_length] at rows
      refine ⟨D, ts.map V.ref, rfl, SqL.of eD, fun l o nl oc od => k zs l _ ⟨pm, nds, up⟩ (s0.trans (s1.trans (same_new nl))) ⟨ts, ⟨o, oc, od, upd_same⟩, rows_same (same_new nl) rows⟩⟩
end
end Hd

set_option Elab.async false
set_option linter.all false
set_option maxRecDepth 100000
set_option maxHeartbeats 8000000
namespace Hd
open PySem L2 Pen RG Dat KEq
abbrev sRows : Stmt := top 44
/-- words, values within the bounds -/
def TbOk (t : List (Z × Int)) : Prop := ∀ e ∈ t, isWord (.str e.1.1) = true ∧ isWord (.str e.1.2) = true ∧ -99 ≤ e.2 ∧ e.2 ≤ 99
structure RowsOk (L : List (Z × Int)) : Prop where
  ok : TbOk L
  nz : ∀ e ∈ L, e.2 ≠ 0
  up : L.Pairwise fun a b => KSrt.lt2 a.1 b.1 = true
theorem TbOk.put {t : List (Z × Int)} {z : Z} {v : Int} (h : TbOk t) (w1 : isWord (.str z.1) = true) (w2 : isWord (.str z.2) = true) (v0 : -99 ≤ v) (v1 : v ≤ 99) : TbOk (tput t z v) := by
  induction t with
  | nil =>
    intro e he
    have : e = (z, v) := by simpa [tput] using he
    rw [this]
    exact ⟨w1, w2, v0, v1⟩
  | cons a t ih =>
    intro e he
    have ht : TbOk t := fun x hx => h x (List.mem_cons_of_mem _ hx)
    by_cases q : a.1 = z
    · rw [show tput (a :: t) z v = (z, v) :: t from if_pos q] at he
      rcases List.mem_cons.mp he with y | y
      · rw [y]
        exact ⟨w1, w2, v0, v1⟩
      · exact ht e y
    · rw [show tput (a :: t) z v = a :: tput t z v from if_neg q] at he
      rcases List.mem_cons.mp he with y | y
      · rw [y]
        exact h a List.mem_cons_self
      · exact ih ht e y
theorem tput_len (t : List (Z × Int)) (z : Z) (v : Int) : (tput t z v).length ≤ t.length + 1 := by
  have e := congrArg List.length (tput_keys t z v)
  rw [List.length_map] at e
  rw [e]
  split
  · rw [List.length_map]
    omega
  · rw [List.length_append, List.length_map]
    exact Nat.le_refl _
theorem lk_val {t : List (Z × Int)} {z : Z} {v : Int} (h : TbOk t) (e : lk t z = some v) : isWord (.str z.1) = true ∧ isWord (.str z.2) = true ∧ -99 ≤ v ∧ v ≤ 99 := by
  have m : z ∈ t.map (·.1) := by
    apply Classical.byContradiction
    intro n
    have : lk t z = none := by
      clear h e
      induction t with
      | nil => rfl
      | cons a t ih =>
        rw [List.map_cons, List.mem_cons] at n
        rw [show lk (a :: t) z = lk t z from if_neg fun y => n (.inl y.symm)]
        exact ih fun y => n (.inr y)
    rw [this] at e
    cases e
  obtain ⟨w, a, b⟩ := lk_some m
  rw [a] at e
  cases e
  exact h _ b
theorem rows_ok {t : List (Z × Int)} {zs : List Z} (h : TbOk t) (s : Srt (t.map (·.1)) zs) : RowsOk (rowsOf t zs) := by
  have nd : zs.Nodup := s.perm.nodup_iff.mpr s.nd
  have val : ∀ e ∈ rowsOf t zs, e.1 ∈ zs ∧ (lk t e.1).getD 0 = e.2 ∧ e.2 ≠ 0 := by
    intro e he
    obtain ⟨z, hz, rfl⟩ := List.mem_map.mp he
    obtain ⟨a, b⟩ := List.mem_filter.mp hz
    exact ⟨a, rfl, of_decide_eq_true b⟩
  refine ⟨fun e he => ?_, fun e he => (val e he).2.2, ?_⟩
  · obtain ⟨a, b, c⟩ := val e he
    obtain ⟨v, hv, _⟩ := lk_some (s.perm.mem_iff.mp a)
    rw [hv] at b
    have b : v = e.2 := b
    rw [← b]
    exact lk_val h hv
  · unfold rowsOf
    rw [List.pairwise_map]
    have strict : zs.Pairwise fun a b => KSrt.lt2 a b = true := by
      have both : zs.Pairwise fun a b => a ≠ b ∧ KSrt.lt2 b a = false := List.pairwise_and_iff.mpr ⟨nd, s.up⟩
      refine both.imp fun {a b} y => ?_
      cases q : KSrt.lt2 a b with
      | true => rfl
      | false => exact absurd (KSrt.lt2_total q y.2) y.1
    exact strict.filter _
/-- the walk's state: the slots, the table at d of at most m rows, the pen -/
structure RwSt (H : Hp) (p c l1 l2 d : Addr) (ns : List Int) (b m : Nat) (σ : L2.St) (G : Hp) : Prop where
  ln : σ.length = 6
  s0 : σ[0]? = some (some (.ref p))
  s1 : σ[1]? = some (some (.ref l1))
  s2 : σ[2]? = some (some (.ref l2))
  s3 : σ[3]? = some (some (.ref d))
  pen : PenAt G p c ns (b + 8 * m)
  tab : ∃ t : List (Z × Int), G d = some (.dT (t.map ent)) ∧ t.length ≤ m ∧ (t.map (·.1)).Nodup ∧ TbOk t
  fr : SameX p H G
theorem RwSt.set {H G : Hp} {p c l1 l2 d : Addr} {ns : List Int} {b m i : Nat} {σ : L2.St} {v : V} (x : RwSt H p c l1 l2 d ns b m σ G) (h : 4 ≤ i) : RwSt H p c l1 l2 d ns b m (σ.set i (some v)) G := by
  obtain ⟨a, b0, b1, b2, b3, q, q2, q3⟩ := x
  have n : ∀ j, j < 4 → (σ.set i (some v))[j]? = σ[j]? := fun j hj => List.getElem?_set_ne (by omega)
  exact ⟨by rw [List.length_set]; exact a, by rw [n 0 (by decide)]; exact b0, by rw [n 1 (by decide)]; exact b1, by rw [n 2 (by decide)]; exact b2, by rw [n 3 (by decide)]; exact b3, q, q2, q3⟩
theorem RwSt.more {H G : Hp} {p c l1 l2 d : Addr} {ns : List Int} {b m n : Nat} {σ : L2.St} (x : RwSt H p c l1 l2 d ns b m σ G) (h : m ≤ n) : RwSt H p c l1 l2 d ns b n σ G := by
  obtain ⟨a, b0, b1, b2, b3, q, ⟨t, e, l, r⟩, f⟩ := x
  exact ⟨a, b0, b1, b2, b3, q.mono (by omega), ⟨t, e, by omega, r⟩, f⟩
def spRows : Sp := fun vs H Q _ => ∃ (p c : Addr) (ns : List Int) (b : Nat) (l1 l2 : Addr), vs = [.ref p, .ref l1, .ref l2] ∧ PenAt H p c ns b ∧ ns.length ≤ 63 ∧ b < 2 ^ 38 ∧ Names H l1 ∧ Names H l2 ∧
  ∀ (r : Addr) (L : List (Z × Int)) (H' : Hp), RowsAt H' r L → RowsOk L → L.length ≤ 200 → PenAt H' p c ns (b + 1000) → SameX p H H' → Q (.ref r) H'
section
variable {P : Program} {w : World} {K : PySem.W.Frag} {mg : Str → Option Value} {base : Heap}
theorem scRows : FnScope ["_law_pen_here", "_law_names", "_law_keys", "_law_found", "_law_name", "_law_key"] ["_law_pen_here", "_law_names", "_law_keys"] (defScope sRows) := ⟨rfl, rfl, rfl, by decide +kernel, rfl, by decide +kernel, by decide +kernel⟩
theorem ok_rows {f fD fN fR : Addr} {fd fdD fdN fdR : FuncData} (F : Fun K "_law_rows" "_law_rows" sRows f fd)
    (GDraw : FnOk P w K mg base CX0 1 fD fdD ["_law_pen_here", "_law_many"] spDraw) (TDraw : DefT K mg "_law_draw" fD) (bDraw : Binds K fdD ["_law_pen_here", "_law_many"] [])
    (GNm : FnOk P w K mg base CX0 3 fN fdN ["_law_pen_here"] spNm) (TNm : DefT K mg "_law_number" fN) (bNm : Binds K fdN ["_law_pen_here"] [])
    (GRT : FnOk P w K mg base CX0 1 fR fdR ["_law_found"] spRT) (TRT : DefT K mg "_law_row_tuple" fR) (bRT : Binds K fdR ["_law_found"] []) : FnOk P w K mg base CX0 4 f fd ["_law_pen_here", "_law_names", "_law_keys"] spRows := by
  refine F.ok scRows (fun vs H Q E h => ?_) (fun cdv A outer s H vs Q E hr h => ?_)
  · obtain ⟨p, c, ns, b, l1, l2, rfl, _⟩ := h
    rfl
  · obtain ⟨p, c, ns, b, l1, l2, rfl, P0, hn, hb, N1, N2, k⟩ := h
    have hu := hu_of hr
    refine ⟨_, (pss_cons (ps_set (i := 3) scRows.nd rfl (Or.inl rfl) pe_dnewT)
      (pss_cons (ps_for PassesOwn.never rfl (pi_list (pv 1)) (pg_name (i := 4) scRows.nd rfl (Or.inl rfl)) (pss_one (ps_for PassesOwn.never rfl (pi_list (pv 2)) (pg_name (i := 5) scRows.nd rfl (Or.inl rfl)) (pss_one (ps_if (pt_cmpR op_gt (pe_call GDraw (hr.mono (by decide)) rfl TDraw.mg TDraw.kp bDraw .nil pass0 (pa_cons (pv 0) (pa_cons pe_int pa_nil))) pe_int (nomark _)) (pss_one (ps_dput hu (pv 3) (Ab.pe_tupA (pa_cons (pv 4) (pa_cons (pv 5) pa_nil))) (pe_call GNm (hr.mono (by decide)) rfl TNm.mg TNm.kp bNm .nil pass0 (pa_cons (pv 0) pa_nil)) rfl)) pss_nil)))))
      (pss_one (ps_ret (pe_call GRT (hr.mono (by decide)) rfl TRT.mg TRT.kp bRT .nil pass0 (pa_cons (pv 3) pa_nil)))))), ?_⟩
    obtain ⟨zs1, e1, p1, q1, w1⟩ := id N1
    obtain ⟨zs2, e2, p2, q2, w2⟩ := id N2
    intro d hd0
    have od : d ≠ p := PenAt.off P0 hd0
    have st0 : Same H (upd H d (.dT [])) := same_new hd0
    have o1 : l1 ≠ p := lst_off P0 e1
    have o2 : l2 ≠ p := lst_off P0 e2
    have c100 : zs1.length * zs2.length ≤ 100 := Nat.mul_le_mul q1 q2
    refine ⟨_, rfl, l1, rfl, ⟨_, SqL.of (st0 _ _ e1)⟩, for_list (K := K) (xs := zs1.map V.str) (fun i σ G => RwSt H p c l1 l2 d ns b (i * zs2.length) σ G) ⟨rfl, rfl, rfl, rfl, rfl, by rw [Nat.zero_mul]; exact P0.same st0, ⟨[], upd_same, Nat.zero_le _, List.nodup_nil, fun _ h => by cases h⟩, Same.X st0⟩ (fun i σ G _ x => SqL.of (x.fr _ _ o1 e1)) (fun i x σ G hx S => ?_) (fun σ G S => ?_)⟩
    · obtain ⟨a, ha, rfl⟩ := text_of (List.mem_of_getElem? hx)
      have wa := w1 a ha
      have S4 := S.set (i := 4) (v := .str a) (Nat.le_refl _)
      have v4 : (σ.set 4 (some (V.str a)))[4]? = some (some (V.str a)) := by simp [S.ln]
      have hi : i < zs1.length := by
        have := (List.getElem?_eq_some_iff.mp hx).1
        rw [List.length_map] at this
        exact this
      have im : i * zs2.length + zs2.length ≤ zs1.length * zs2.length := by
        have := Nat.mul_le_mul_right zs2.length (show i + 1 ≤ zs1.length from hi)
        rw [Nat.add_mul, Nat.one_mul] at this
        exact this
      refine ⟨_, S4.s2, l2, rfl, ⟨_, SqL.of (S4.fr _ _ o2 e2)⟩, for_list (K := K) (xs := zs2.map V.str) (fun j τ G => RwSt H p c l1 l2 d ns b (i * zs2.length + j) τ G ∧ τ[4]? = some (some (.str a))) ⟨S4, v4⟩ (fun j τ G _ x => SqL.of (x.1.fr _ _ o2 e2)) (fun j x τ G hy S => ?_) (fun τ G S => ?_)⟩
      · obtain ⟨S, t4⟩ := S
        obtain ⟨y, hyy, rfl⟩ := text_of (List.mem_of_getElem? hy)
        have wy := w2 y hyy
        have hj : j < zs2.length := by
          have := (List.getElem?_eq_some_iff.mp hy).1
          rw [List.length_map] at this
          exact this
        have S5 := S.set (i := 5) (v := .str y) (by decide)
        have u4 : (τ.set 5 (some (V.str y)))[4]? = some (some (V.str a)) := by rw [List.getElem?_set_ne (by decide)]; exact t4
        have u5 : (τ.set 5 (some (V.str y)))[5]? = some (some (V.str y)) := by simp [S.ln]
        refine ⟨_, S5.s0, p, c, ns, _, 3, rfl, S5.pen, hn, by omega, by decide, by decide, fun r G2 r0 r3 P2 x2 => ⟨_, _, rfl, rfl, _, rfl, ite2 (fun h1 => ?_) (fun h1 => ?_)⟩⟩
        · refine ⟨_, S5.s0, p, c, ns, _, rfl, P2, hn, by omega, fun v G3 vb P3 x3 => ?_⟩
          refine ⟨_, S5.s3, _, u4, _, u5, sz (by simp), fun kt G4 n4 s4 e4 => ?_⟩
          obtain ⟨t, ed, lt, nd, ok⟩ := S5.tab
          have ed4 : G4 d = some (.dT (t.map ent)) := s4 _ _ (x3 _ _ od (x2 _ _ od ed))
          have pd : DPut G4 d (.ref kt) (.int v) (upd G4 d (.dT ((tput t (a, y) v).map ent))) := by
            have g := DPut.t (k := kp (a, y)) (v := .int v) ed4 e4 (by rw [List.length_map]; exact Nat.lt_of_le_of_lt (show t.length ≤ 100 by omega) (by decide))
            rw [put_ent t (a, y) v nd] at g
            exact g
          have fin : SameX p H (upd G4 d (.dT ((tput t (a, y) v).map ent))) := fun z o nz hz => by
            rw [upd_ne (ne_of_none hz hd0)]
            exact s4 _ _ (x3 _ _ nz (x2 _ _ nz (S5.fr _ _ nz hz)))
          have P4 : PenAt (upd G4 d (.dT ((tput t (a, y) v).map ent))) p c ns (b + 8 * (i * zs2.length + (j + 1))) := by
            obtain ⟨⟨a1, r1, hp, z1⟩, ce⟩ := (P3.same s4).mono (b' := b + 8 * (i * zs2.length + (j + 1))) (by omega)
            obtain ⟨_, ce0⟩ := P0
            exact ⟨⟨a1, r1, (upd_ne od.symm).trans hp, z1⟩, (upd_ne (ne_of_none ce0 hd0)).trans ce⟩
          refine ⟨d, _, rfl, pd, ?_⟩
          exact ⟨⟨S5.ln, S5.s0, S5.s1, S5.s2, S5.s3, P4, ⟨_, upd_same, Nat.le_trans (tput_len t (a, y) v) (by omega), tput_nodup nd, ok.put wa wy vb.1 vb.2⟩, fin⟩, u4⟩
        · obtain ⟨t, ed, lt, nd, ok⟩ := S5.tab
          exact ⟨⟨S5.ln, S5.s0, S5.s1, S5.s2, S5.s3, P2.mono (by omega), ⟨t, x2 _ _ od ed, by omega, nd, ok⟩, S5.fr.trans x2⟩, u4⟩
      · obtain ⟨S, t4⟩ := S
        rw [List.length_map] at S
        show RwSt H p c l1 l2 d ns b ((i + 1) * zs2.length) τ G
        rw [Nat.add_mul, Nat.one_mul]
        exact S
    · rw [List.length_map] at S
      obtain ⟨t, ed, lt, nd, ok⟩ := S.tab
      refine ⟨_, S.s3, d, t, rfl, ed, by omega, nd, fun zs r G2 srt s2 rows => ?_⟩
      refine k r _ G2 rows (rows_ok ok srt) ?_ ((S.pen.same s2).mono (by omega)) (S.fr.trans (Same.X s2))
      have a := rowsOf_len t zs
      have b' := srt.perm.length_eq
      rw [List.length_map] at b'
      omega
end
end Hd

set_option Elab.async false
set_option linter.all false
set_option maxRecDepth 100000
set_option maxHeartbeats 8000000
namespace Hd
open PySem L2 Pen RG Dat KEq
abbrev sW : Stmt := top 46
def cl (i : Int) : Int := if i > 99 then 99 else if i < -99 then -99 else i
def opE (h : PyData) (a b : Int) : Int := if isS h "+" = true then a + b else if isS h "-" = true then a - b else a * b
/-- an expression's worth: the table, the key, the body -/
def evE (t : List (Z × Int)) (key : Str) (body : Int) : Nat → PyData → Int
  | 0, _ => 0
  | n + 1, .tuple (h :: tl) =>
    if isS h tV = true then (match tl with | [.int i] => i | _ => 0)
    else if isS h tB' = true then body
    else if isS h tR = true then (match tl with | [.str z] => (lk t (z, key)).getD 0 | _ => 0)
    else (match tl with | [a, b] => cl (opE h (evE t key body n a) (evE t key body n b)) | _ => 0)
  | _ + 1, _ => 0
theorem cl_in (i : Int) : -99 ≤ cl i ∧ cl i ≤ 99 := by
  unfold cl
  split
  · omega
  · split <;> omega
theorem val_is {d : PyData} (h : isVal d = true) : ∃ i, d = .int i ∧ -99 ≤ i ∧ i ≤ 99 := by
  cases d <;> first | cases h | skip
  rename_i i
  have a : (decide (-99 ≤ i) && decide (i ≤ 99)) = true := h
  rw [Bool.and_eq_true, decide_eq_true_eq, decide_eq_true_eq] at a
  exact ⟨i, rfl, a⟩
theorem word_is {d : PyData} (h : isWord d = true) : ∃ z, d = .str z := by
  cases d <;> first | cases h | skip
  exact ⟨_, rfl⟩
/-- what an expression is -/
theorem e_cases {n : Nat} {d : PyData} (h : isE n d = true) : ∃ m hd tl, n = m + 1 ∧ d = .tuple (hd :: tl) ∧
    ((isS hd tV = true ∧ ∃ i, tl = [.int i] ∧ -99 ≤ i ∧ i ≤ 99) ∨ (¬ isS hd tV = true ∧ isS hd tB' = true ∧ tl = []) ∨
     (¬ isS hd tV = true ∧ ¬ isS hd tB' = true ∧ isS hd tR = true ∧ ∃ z, tl = [.str z] ∧ isWord (.str z) = true) ∨
     (¬ isS hd tV = true ∧ ¬ isS hd tB' = true ∧ ¬ isS hd tR = true ∧ (ops.any fun z => isS hd z) = true ∧ ∃ a b, tl = [a, b] ∧ isE m a = true ∧ isE m b = true)) := by
  cases n with
  | zero => cases h
  | succ m =>
    cases d with
    | tuple ds =>
      cases ds with
      | nil => cases h
      | cons hd tl =>
        refine ⟨m, hd, tl, rfl, rfl, ?_⟩
        unfold isE at h
        by_cases h1 : isS hd tV = true
        · rw [if_pos h1] at h
          obtain ⟨a, rfl⟩ : ∃ a, tl = [a] := by
            match tl, h with
            | [a], _ => exact ⟨a, rfl⟩
          obtain ⟨i, rfl, b⟩ := val_is h
          exact .inl ⟨h1, i, rfl, b⟩
        rw [if_neg h1] at h
        by_cases h2 : isS hd tB' = true
        · rw [if_pos h2] at h
          obtain rfl : tl = [] := by
            match tl, h with
            | [], _ => rfl
          exact .inr (.inl ⟨h1, h2, rfl⟩)
        rw [if_neg h2] at h
        by_cases h3 : isS hd tR = true
        · rw [if_pos h3] at h
          obtain ⟨a, rfl⟩ : ∃ a, tl = [a] := by
            match tl, h with
            | [a], _ => exact ⟨a, rfl⟩
          obtain ⟨z, rfl⟩ := word_is h
          exact .inr (.inr (.inl ⟨h1, h2, h3, z, rfl, h⟩))
        rw [if_neg h3] at h
        by_cases h4 : (ops.any fun z => isS hd z) = true
        · rw [if_pos h4] at h
          obtain ⟨a, b, rfl⟩ : ∃ a b, tl = [a, b] := by
            match tl, h with
            | [a, b], _ => exact ⟨a, b, rfl⟩
          have h : (isE m a && isE m b) = true := h
          rw [Bool.and_eq_true] at h
          exact .inr (.inr (.inr ⟨h1, h2, h3, h4, a, b, rfl, h⟩))
        · rw [if_neg h4] at h
          cases h
    | _ => cases h
theorem ev_in {t : List (Z × Int)} {key : Str} {body : Int} (ht : TbOk t) (b0 : -99 ≤ body) (b1 : body ≤ 99) {n : Nat} {d : PyData} (h : isE n d = true) : -99 ≤ evE t key body n d ∧ evE t key body n d ≤ 99 := by
  obtain ⟨m, hd, tl, rfl, rfl, q⟩ := e_cases h
  unfold evE
  rcases q with ⟨h1, i, rfl, a⟩ | ⟨h1, h2, rfl⟩ | ⟨h1, h2, h3, z, rfl, _⟩ | ⟨h1, h2, h3, h4, a, b, rfl, _⟩
  · rw [if_pos h1]
    exact a
  · rw [if_neg h1, if_pos h2]
    exact ⟨b0, b1⟩
  · rw [if_neg h1, if_neg h2, if_pos h3]
    show -99 ≤ (lk t (z, key)).getD 0 ∧ (lk t (z, key)).getD 0 ≤ 99
    cases q : lk t (z, key) with
    | none => exact ⟨by decide, by decide⟩
    | some v => exact (lk_val ht q).2.2
  · rw [if_neg h1, if_neg h2, if_neg h3]
    exact cl_in _
def spW (K : PySem.W.Frag) (m : Nat) : Sp := fun vs H Q _ => ∃ (v : V) (dd : PyData) (j : Nat) (d : Addr) (t : List (Z × Int)) (key : Str) (body : Int), vs = [v, .ref d, .str key, .int body] ∧ j < m ∧ Rp K H v dd ∧ isE j dd = true ∧ H d = some (.dT (t.map ent)) ∧ TbOk t ∧ (-99 ≤ body ∧ body ≤ 99) ∧
  ∀ H', Same H H' → Q (.int (evE t key body j dd)) H'
section
variable {P : Program} {w : World} {K : PySem.W.Frag} {mg : Str → Option Value} {base : Heap}
theorem scW : FnScope ["_law_e_here", "_law_values", "_law_key", "_law_body", "_law_one", "_law_other", "_law_found"] ["_law_e_here", "_law_values", "_law_key", "_law_body"] (defScope sW) := ⟨rfl, rfl, rfl, by decide +kernel, rfl, by decide +kernel, by decide +kernel⟩
theorem ok_w {f : Addr} {fd : FuncData} (F : Fun K "_law_worth" "_law_worth" sW f fd) (TW : DefT K mg "_law_worth" f) (bW : Binds K fd ["_law_e_here", "_law_values", "_law_key", "_law_body"] []) : ∀ m, FnOk P w K mg base CX0 (m + 1) f fd ["_law_e_here", "_law_values", "_law_key", "_law_body"] (spW K m)
  | 0 => by
    refine F.ok scW (fun vs H Q E h => ?_) (fun cdv A outer s H vs Q E hr h => ?_)
    · obtain ⟨v, dd, j, d, t, key, body, rfl, _⟩ := h
      rfl
    · obtain ⟨v, dd, j, d, t, key, body, rfl, lt, _⟩ := h
      exact absurd lt (Nat.not_lt_zero _)
  | m + 1 => by
    have GW := ok_w F TW bW m
    refine F.ok scW (fun vs H Q E h => ?_) (fun cdv A outer s H vs Q E hr h => ?_)
    · obtain ⟨v, dd, j, d, t, key, body, rfl, _⟩ := h
      rfl
    · obtain ⟨v, dd, j, d, t, key, body, rfl, lt, r, he, hd, ht, ⟨b0, b1⟩, k⟩ := h
      have hu := hu_of hr
      refine ⟨_, (pss_cons (ps_if (pt_cmpR (KEq.op_eqS hu) (pe_ix ix_tup (pv 0) pe_int (fun _ _ => rfl)) pe_str (nomark _)) (pss_one (ps_ret (pe_ix ix_tup (pv 0) pe_int (fun _ _ => rfl)))) pss_nil)
      (pss_cons (ps_if (pt_cmpR (KEq.op_eqS hu) (pe_ix ix_tup (pv 0) pe_int (fun _ _ => rfl)) pe_str (nomark _)) (pss_one (ps_ret (pv 3))) pss_nil)
      (pss_cons (ps_if (pt_cmpR (KEq.op_eqS hu) (pe_ix ix_tup (pv 0) pe_int (fun _ _ => rfl)) pe_str (nomark _)) (pss_one (ps_ret (pe_dget2 hu (pv 1) (Ab.pe_tupA (pa_cons (pe_ix ix_tup (pv 0) pe_int (fun _ _ => rfl)) (pa_cons (pv 2) pa_nil))) pe_int ⟨by rfl, by rfl, by rfl, by rfl⟩))) pss_nil)
      (pss_cons (ps_par (i := 4) (j := 5) (by rfl) scW.nd rfl rfl (by decide) rfl rfl (pa_cons (pe_call GW (hr.mono (by omega)) rfl TW.mg TW.kp bW .nil pass0 (pa_cons (pe_ix ix_tup (pv 0) pe_int (fun _ _ => rfl)) (pa_cons (pv 1) (pa_cons (pv 2) (pa_cons (pv 3) pa_nil))))) (pa_cons (pe_call GW (hr.mono (by omega)) rfl TW.mg TW.kp bW .nil pass0 (pa_cons (pe_ix ix_tup (pv 0) pe_int (fun _ _ => rfl)) (pa_cons (pv 1) (pa_cons (pv 2) (pa_cons (pv 3) pa_nil))))) pa_nil)) (by rfl))
      (pss_cons (ps_set (i := 6) scW.nd rfl (Or.inl rfl) (pe_ifExp (pt_cmpR (KEq.op_eqS hu) (pe_ix ix_tup (pv 0) pe_int (fun _ _ => rfl)) pe_str (nomark _)) (pe_op op_add (pv 4) (pv 5)) (pe_ifExp (pt_cmpR (KEq.op_eqS hu) (pe_ix ix_tup (pv 0) pe_int (fun _ _ => rfl)) pe_str (nomark _)) (pe_op op_sub (pv 4) (pv 5)) (pe_op op_mul (pv 4) (pv 5)))))
      (pss_one (ps_ret (pe_ifExp (pt_cmpR op_gt (pv 6) pe_int (nomark _)) pe_int (pe_ifExp (pt_cmpR op_lt (pv 6) (pe_un un_neg pe_int) (nomark _)) (pe_un un_neg pe_int) (pv 6)))))))))), ?_⟩
      obtain ⟨n, hh, tl, rfl, rfl, q⟩ := e_cases he
      have kk := k
      cases r with
      | @tup a xs ds qa rr =>
        cases rr with
        | @cons hv xv h tl rh rt =>
          have ix0 : ∀ {G : Hp}, Same H G → SqT K G a (hv :: xv) := fun s => sqT_same s qa
          refine ⟨_, rfl, a, hv :: xv, 0, hv, rfl, rfl, ix0 (.refl _), atI_nat (j := 0) rfl, hh, _, rh, rfl, _, rfl, ite2 (fun i1 => ?_) (fun i1 => ?_)⟩
          · rcases q with ⟨_, i, rfl, _⟩ | ⟨z, _⟩ | ⟨z, _⟩ | ⟨z, _⟩
            · cases rt with
              | @cons x _ _ _ rx rn =>
                cases rn
                cases rx
                refine ⟨_, rfl, a, _, 1, _, rfl, rfl, ix0 (.refl _), atI_nat (j := 1) rfl, ?_⟩
                have kk := k _ (.refl _)
                unfold evE at kk
                rw [if_pos i1] at kk
                exact kk
            all_goals exact absurd i1 z
          refine ⟨_, rfl, a, hv :: xv, 0, hv, rfl, rfl, ix0 (.refl _), atI_nat (j := 0) rfl, hh, _, rh, rfl, _, rfl, ite2 (fun i2 => ?_) (fun i2 => ?_)⟩
          · have kk := k _ (.refl _)
            unfold evE at kk
            rw [if_neg i1, if_pos i2] at kk
            exact ⟨_, rfl, kk⟩
          refine ⟨_, rfl, a, hv :: xv, 0, hv, rfl, rfl, ix0 (.refl _), atI_nat (j := 0) rfl, hh, _, rh, rfl, _, rfl, ite2 (fun i3 => ?_) (fun i3 => ?_)⟩
          · rcases q with ⟨z, _⟩ | ⟨_, z, _⟩ | ⟨_, _, _, z, rfl, _⟩ | ⟨_, _, z, _⟩
            · exact absurd z i1
            · exact absurd z i2
            · cases rt with
              | @cons x _ _ _ rx rn =>
                cases rn
                cases rx
                refine ⟨_, rfl, d, rfl, .inr ⟨_, .inl hd⟩, ?_⟩
                refine ⟨_, rfl, a, _, 1, _, rfl, rfl, ix0 (.refl _), atI_nat (j := 1) rfl, _, rfl, sz (by simp), fun c G nc sc ec => ?_⟩
                have g : DGet G d (.ref c) ((lk t (z, key)).map V.int) := by
                  have q := DGet.t (k := kp (z, key)) (sc _ _ hd) ec
                  rw [val_ent] at q
                  exact q
                refine ⟨_, g, ?_⟩
                have kk := k _ sc
                unfold evE at kk
                rw [if_neg i1, if_neg i2, if_pos i3] at kk
                show Q (((lk t (z, key)).map V.int).getD (.int 0)) _
                cases q : lk t (z, key) with
                | none =>
                  have kk : Q (.int ((lk t (z, key)).getD 0)) G := kk
                  rw [q] at kk
                  exact kk
                | some v =>
                  have kk : Q (.int ((lk t (z, key)).getD 0)) G := kk
                  rw [q] at kk
                  exact kk
            · exact absurd i3 z
          rcases q with ⟨z, _⟩ | ⟨_, z, _⟩ | ⟨_, _, z, _⟩ | ⟨_, _, _, i4, da, db, rfl, ea, eb⟩
          · exact absurd z i1
          · exact absurd z i2
          · exact absurd z i3
          obtain ⟨x, y, da', db', rfl, e2, ra, rb⟩ := two_of rt (RpAll.len rt)
          cases e2
          have la : n < m := by omega
          refine ⟨_, rfl, a, _, 1, x, rfl, rfl, ix0 (.refl _), atI_nat (j := 1) rfl, _, rfl, _, rfl, _, rfl, x, da, n, d, t, key, body, rfl, la, ra, ea, hd, ht, ⟨b0, b1⟩, fun H1 s1 => ?_⟩
          refine ⟨_, rfl, a, _, 2, y, rfl, rfl, ix0 s1, atI_nat (j := 2) rfl, _, rfl, _, rfl, _, rfl, y, db, n, d, t, key, body, rfl, la, Rp.same s1 rb, eb, s1 _ _ hd, ht, ⟨b0, b1⟩, fun H2 s2 => ?_⟩
          have s12 := s1.trans s2
          have kk := k _ s12
          unfold evE at kk
          rw [if_neg i1, if_neg i2, if_neg i3] at kk
          have kk : Q (.int (cl (opE hh (evE t key body n da) (evE t key body n db)))) H2 := kk
          unfold opE at kk
          have a1 := ev_in (key := key) ht b0 b1 ea
          have rh2 := Rp.same s12 rh
          refine ⟨_, _, rfl, _, rfl, a, _, 0, _, rfl, rfl, ix0 s12, atI_nat (j := 0) rfl, hh, _, rh2, rfl, _, rfl, ite2 (fun p1 => ?_) (fun p1 => ?_)⟩
          · rw [if_pos p1] at kk
            refine ⟨_, rfl, _, rfl, _, _, rfl, rfl, ?_⟩
            refine ⟨_, rfl, _, _, rfl, rfl, _, rfl, ite2 (fun g1 => ?_) (fun g1 => ?_)⟩
            · have g1 : (99 : Int) < (evE t key body n da) + (evE t key body n db) := by simpa using g1
              have e : cl ((evE t key body n da) + (evE t key body n db)) = 99 := if_pos g1
              rw [e] at kk
              exact kk
            have g1 : ¬ (99 : Int) < (evE t key body n da) + (evE t key body n db) := by simpa using g1
            refine ⟨_, rfl, _, rfl, _, _, rfl, rfl, _, rfl, ite2 (fun g2 => ?_) (fun g2 => ?_)⟩
            · have g2 : (evE t key body n da) + (evE t key body n db) < -99 := by simpa using g2
              have e : cl ((evE t key body n da) + (evE t key body n db)) = -99 := (if_neg g1).trans (if_pos g2)
              rw [e] at kk
              exact ⟨_, rfl, kk⟩
            · have g2 : ¬ (evE t key body n da) + (evE t key body n db) < -99 := by simpa using g2
              have e : cl ((evE t key body n da) + (evE t key body n db)) = (evE t key body n da) + (evE t key body n db) := (if_neg g1).trans (if_neg g2)
              rw [e] at kk
              exact ⟨_, rfl, kk⟩

          rw [if_neg p1] at kk
          refine ⟨_, rfl, a, _, 0, _, rfl, rfl, ix0 s12, atI_nat (j := 0) rfl, hh, _, rh2, rfl, _, rfl, ite2 (fun p2 => ?_) (fun p2 => ?_)⟩
          · rw [if_pos p2] at kk
            refine ⟨_, rfl, _, rfl, _, _, rfl, rfl, ?_⟩
            refine ⟨_, rfl, _, _, rfl, rfl, _, rfl, ite2 (fun g1 => ?_) (fun g1 => ?_)⟩
            · have g1 : (99 : Int) < (evE t key body n da) - (evE t key body n db) := by simpa using g1
              have e : cl ((evE t key body n da) - (evE t key body n db)) = 99 := if_pos g1
              rw [e] at kk
              exact kk
            have g1 : ¬ (99 : Int) < (evE t key body n da) - (evE t key body n db) := by simpa using g1
            refine ⟨_, rfl, _, rfl, _, _, rfl, rfl, _, rfl, ite2 (fun g2 => ?_) (fun g2 => ?_)⟩
            · have g2 : (evE t key body n da) - (evE t key body n db) < -99 := by simpa using g2
              have e : cl ((evE t key body n da) - (evE t key body n db)) = -99 := (if_neg g1).trans (if_pos g2)
              rw [e] at kk
              exact ⟨_, rfl, kk⟩
            · have g2 : ¬ (evE t key body n da) - (evE t key body n db) < -99 := by simpa using g2
              have e : cl ((evE t key body n da) - (evE t key body n db)) = (evE t key body n da) - (evE t key body n db) := (if_neg g1).trans (if_neg g2)
              rw [e] at kk
              exact ⟨_, rfl, kk⟩

          · rw [if_neg p2] at kk
            refine ⟨_, rfl, _, rfl, _, _, rfl, rfl, .inl ⟨by omega, by omega⟩, ?_⟩
            refine ⟨_, rfl, _, _, rfl, rfl, _, rfl, ite2 (fun g1 => ?_) (fun g1 => ?_)⟩
            · have g1 : (99 : Int) < (evE t key body n da) * (evE t key body n db) := by simpa using g1
              have e : cl ((evE t key body n da) * (evE t key body n db)) = 99 := if_pos g1
              rw [e] at kk
              exact kk
            have g1 : ¬ (99 : Int) < (evE t key body n da) * (evE t key body n db) := by simpa using g1
            refine ⟨_, rfl, _, rfl, _, _, rfl, rfl, _, rfl, ite2 (fun g2 => ?_) (fun g2 => ?_)⟩
            · have g2 : (evE t key body n da) * (evE t key body n db) < -99 := by simpa using g2
              have e : cl ((evE t key body n da) * (evE t key body n db)) = -99 := (if_neg g1).trans (if_pos g2)
              rw [e] at kk
              exact ⟨_, rfl, kk⟩
            · have g2 : ¬ (evE t key body n da) * (evE t key body n db) < -99 := by simpa using g2
              have e : cl ((evE t key body n da) * (evE t key body n db)) = (evE t key body n da) * (evE t key body n db) := (if_neg g1).trans (if_neg g2)
              rw [e] at kk
              exact ⟨_, rfl, kk⟩
end
end Hd

set_option Elab.async false
set_option linter.all false
set_option maxRecDepth 100000
set_option maxHeartbeats 8000000
namespace Hd
open PySem L2 Pen RG Dat KEq
abbrev sH : Stmt := top 47
/-- whether a condition holds -/
def evC (t : List (Z × Int)) (key : Str) (body : Int) : Nat → PyData → Bool
  | n + 1, .tuple [h, a, b] => if isS h "and" = true then evC t key body n a && evC t key body n b else if isS h "or" = true then evC t key body n a || evC t key body n b
      else if isS h "<" = true then decide (evE t key body 6 a < evE t key body 6 b) else decide (evE t key body 6 a = evE t key body 6 b)
  | n + 1, .tuple [_, a] => !evC t key body n a
  | _, _ => false
theorem isS_is {d : PyData} {z : Str} (h : isS d z = true) : d = .str z := by
  cases d <;> first | cases h | skip
  rename_i x
  have h : decide (x = z) = true := h
  rw [of_decide_eq_true h]
/-- what a condition is -/
theorem c_cases {n : Nat} {d : PyData} (h : isC n d = true) : ∃ m, n = m + 1 ∧
    ((∃ (z : Str) (a b : PyData), (z = "<" ∨ z = "=") ∧ d = .tuple [.str z, a, b] ∧ isE 6 a = true ∧ isE 6 b = true) ∨ (∃ a, d = .tuple [.str "not", a] ∧ isC m a = true) ∨
     (∃ (z : Str) (a b : PyData), (z = "and" ∨ z = "or") ∧ d = .tuple [.str z, a, b] ∧ isC m a = true ∧ isC m b = true)) := by
  cases n with
  | zero => cases h
  | succ m =>
    refine ⟨m, rfl, ?_⟩
    cases d with
    | tuple ds =>
      cases ds with
      | nil => cases h
      | cons hd tl =>
        unfold isC at h
        by_cases h1 : ((["<", "="] : List Str).any fun z => isS hd z) = true
        · rw [if_pos h1] at h
          obtain ⟨a, b, rfl⟩ : ∃ a b, tl = [a, b] := by
            match tl, h with
            | [a, b], _ => exact ⟨a, b, rfl⟩
          have h : (isE 6 a && isE 6 b) = true := h
          rw [Bool.and_eq_true] at h
          obtain ⟨z, m1, m2⟩ := List.any_eq_true.mp h1
          rw [isS_is m2]
          exact .inl ⟨z, a, b, by simpa using m1, rfl, h⟩
        rw [if_neg h1] at h
        by_cases h2 : isS hd "not" = true
        · rw [if_pos h2] at h
          obtain ⟨a, rfl⟩ : ∃ a, tl = [a] := by
            match tl, h with
            | [a], _ => exact ⟨a, rfl⟩
          rw [isS_is h2]
          exact .inr (.inl ⟨a, rfl, h⟩)
        rw [if_neg h2] at h
        by_cases h3 : ((["and", "or"] : List Str).any fun z => isS hd z) = true
        · rw [if_pos h3] at h
          obtain ⟨a, b, rfl⟩ : ∃ a b, tl = [a, b] := by
            match tl, h with
            | [a, b], _ => exact ⟨a, b, rfl⟩
          have h : (isC m a && isC m b) = true := h
          rw [Bool.and_eq_true] at h
          obtain ⟨z, m1, m2⟩ := List.any_eq_true.mp h3
          rw [isS_is m2]
          exact .inr (.inr ⟨z, a, b, by simpa using m1, rfl, h⟩)
        · rw [if_neg h3] at h
          cases h
    | _ => cases h
def spH (K : PySem.W.Frag) (m : Nat) : Sp := fun vs H Q _ => ∃ (v : V) (dd : PyData) (j : Nat) (d : Addr) (t : List (Z × Int)) (key : Str) (body : Int), vs = [v, .ref d, .str key, .int body] ∧ j < m ∧ Rp K H v dd ∧ isC j dd = true ∧ H d = some (.dT (t.map ent)) ∧ TbOk t ∧ (-99 ≤ body ∧ body ≤ 99) ∧
  ∀ H', Same H H' → Q (.bl (evC t key body j dd)) H'
section
variable {P : Program} {w : World} {K : PySem.W.Frag} {mg : Str → Option Value} {base : Heap}
theorem scH : FnScope ["_law_c_here", "_law_values", "_law_key", "_law_body", "_law_one", "_law_other"] ["_law_c_here", "_law_values", "_law_key", "_law_body"] (defScope sH) := ⟨rfl, rfl, rfl, by decide +kernel, rfl, by decide +kernel, by decide +kernel⟩
theorem ok_h {f fW : Addr} {fd fdW : FuncData} (F : Fun K "_law_holds" "_law_holds" sH f fd) (TH : DefT K mg "_law_holds" f) (bH : Binds K fd ["_law_c_here", "_law_values", "_law_key", "_law_body"] [])
    (GW : FnOk P w K mg base CX0 8 fW fdW ["_law_e_here", "_law_values", "_law_key", "_law_body"] (spW K 7)) (TW : DefT K mg "_law_worth" fW) (bW : Binds K fdW ["_law_e_here", "_law_values", "_law_key", "_law_body"] []) : ∀ m, FnOk P w K mg base CX0 (m + 9) f fd ["_law_c_here", "_law_values", "_law_key", "_law_body"] (spH K m)
  | 0 => by
    refine F.ok scH (fun vs H Q E h => ?_) (fun cdv A outer s H vs Q E hr h => ?_)
    · obtain ⟨v, dd, j, d, t, key, body, rfl, _⟩ := h
      rfl
    · obtain ⟨v, dd, j, d, t, key, body, rfl, lt, _⟩ := h
      exact absurd lt (Nat.not_lt_zero _)
  | m + 1 => by
    have GH := ok_h F TH bH GW TW bW m
    refine F.ok scH (fun vs H Q E h => ?_) (fun cdv A outer s H vs Q E hr h => ?_)
    · obtain ⟨v, dd, j, d, t, key, body, rfl, _⟩ := h
      rfl
    · obtain ⟨v, dd, j, d, t, key, body, rfl, lt, r, he, hd, ht, ⟨b0, b1⟩, k⟩ := h
      have hu := hu_of hr
      refine ⟨_, (pss_cons (ps_if (pt_cmpR (KEq.op_eqS hu) (pe_ix ix_tup (pv 0) pe_int (fun _ _ => rfl)) pe_str (nomark _)) (pss_one (ps_ret (pe_not (pe_call GH (hr.mono (by omega)) rfl TH.mg TH.kp bH .nil pass0 (pa_cons (pe_ix ix_tup (pv 0) pe_int (fun _ _ => rfl)) (pa_cons (pv 1) (pa_cons (pv 2) (pa_cons (pv 3) pa_nil)))))))) pss_nil)
      (pss_cons (ps_if (pt_cmpR (KEq.op_eqS hu) (pe_ix ix_tup (pv 0) pe_int (fun _ _ => rfl)) pe_str (nomark _)) (pss_one (ps_ret (pe_and (pe_call GH (hr.mono (by omega)) rfl TH.mg TH.kp bH .nil pass0 (pa_cons (pe_ix ix_tup (pv 0) pe_int (fun _ _ => rfl)) (pa_cons (pv 1) (pa_cons (pv 2) (pa_cons (pv 3) pa_nil))))) (pe_one (pe_call GH (hr.mono (by omega)) rfl TH.mg TH.kp bH .nil pass0 (pa_cons (pe_ix ix_tup (pv 0) pe_int (fun _ _ => rfl)) (pa_cons (pv 1) (pa_cons (pv 2) (pa_cons (pv 3) pa_nil))))))))) pss_nil)
      (pss_cons (ps_if (pt_cmpR (KEq.op_eqS hu) (pe_ix ix_tup (pv 0) pe_int (fun _ _ => rfl)) pe_str (nomark _)) (pss_one (ps_ret (pe_or (pe_call GH (hr.mono (by omega)) rfl TH.mg TH.kp bH .nil pass0 (pa_cons (pe_ix ix_tup (pv 0) pe_int (fun _ _ => rfl)) (pa_cons (pv 1) (pa_cons (pv 2) (pa_cons (pv 3) pa_nil))))) (pe_one (pe_call GH (hr.mono (by omega)) rfl TH.mg TH.kp bH .nil pass0 (pa_cons (pe_ix ix_tup (pv 0) pe_int (fun _ _ => rfl)) (pa_cons (pv 1) (pa_cons (pv 2) (pa_cons (pv 3) pa_nil))))))))) pss_nil)
      (pss_cons (ps_par (i := 4) (j := 5) (by rfl) scH.nd rfl rfl (by decide) rfl rfl (pa_cons (pe_call GW (hr.mono (by omega)) rfl TW.mg TW.kp bW .nil pass0 (pa_cons (pe_ix ix_tup (pv 0) pe_int (fun _ _ => rfl)) (pa_cons (pv 1) (pa_cons (pv 2) (pa_cons (pv 3) pa_nil))))) (pa_cons (pe_call GW (hr.mono (by omega)) rfl TW.mg TW.kp bW .nil pass0 (pa_cons (pe_ix ix_tup (pv 0) pe_int (fun _ _ => rfl)) (pa_cons (pv 1) (pa_cons (pv 2) (pa_cons (pv 3) pa_nil))))) pa_nil)) (by rfl))
      (pss_one (ps_ret (pe_ifExp (pt_cmpR (KEq.op_eqS hu) (pe_ix ix_tup (pv 0) pe_int (fun _ _ => rfl)) pe_str (nomark _)) (pe_cmpR op_lt (pv 4) (pv 5) (nomark _)) (pe_cmpR op_eq (pv 4) (pv 5) (nomark _))))))))), ?_⟩
      obtain ⟨n, rfl, q⟩ := c_cases he
      have la : n < m := by omega
      rcases q with ⟨z, da, db, hz, rfl, ea, eb⟩ | ⟨da, rfl, ca⟩ | ⟨z, da, db, hz, rfl, ca, cb⟩
      · have kk := k
        cases r with
        | @tup a xs ds qa rr =>
          obtain ⟨hv, x, y, _, da', db', rfl, e2, rh, ra, rb⟩ := three_of rr (RpAll.len rr)
          cases e2
          refine ⟨_, rfl, a, _, 0, hv, rfl, rfl, qa, atI_nat (j := 0) rfl, _, _, rh, rfl, _, rfl, ite2 (fun i1 => ?_) (fun i1 => ?_)⟩
          · rcases hz with rfl | rfl <;> exact absurd i1 (by decide +kernel)
          refine ⟨_, rfl, a, _, 0, hv, rfl, rfl, qa, atI_nat (j := 0) rfl, _, _, rh, rfl, _, rfl, ite2 (fun i2 => ?_) (fun i2 => ?_)⟩
          · rcases hz with rfl | rfl <;> exact absurd i2 (by decide +kernel)
          refine ⟨_, rfl, a, _, 0, hv, rfl, rfl, qa, atI_nat (j := 0) rfl, _, _, rh, rfl, _, rfl, ite2 (fun i3 => ?_) (fun i3 => ?_)⟩
          · rcases hz with rfl | rfl <;> exact absurd i3 (by decide +kernel)
          refine ⟨_, rfl, a, _, 1, x, rfl, rfl, qa, atI_nat (j := 1) rfl, _, rfl, _, rfl, _, rfl, x, da, 6, d, t, key, body, rfl, (by decide), ra, ea, hd, ht, ⟨b0, b1⟩, fun H1 s1 => ?_⟩
          refine ⟨_, rfl, a, _, 2, y, rfl, rfl, sqT_same s1 qa, atI_nat (j := 2) rfl, _, rfl, _, rfl, _, rfl, y, db, 6, d, t, key, body, rfl, (by decide), (Rp.same s1 rb), eb, (s1 _ _ hd), ht, ⟨b0, b1⟩, fun H2 s2 => ?_⟩
          have kk := k _ (s1.trans s2)
          have rh2 := Rp.same (s1.trans s2) rh
          refine ⟨_, _, rfl, _, rfl, a, _, 0, _, rfl, rfl, sqT_same (s1.trans s2) qa, atI_nat (j := 0) rfl, _, _, rh2, rfl, _, rfl, ite2 (fun i4 => ?_) (fun i4 => ?_)⟩
          · obtain rfl : z = "<" := by
              rcases hz with rfl | rfl
              · rfl
              · exact absurd i4 (by decide +kernel)
            exact ⟨_, rfl, _, rfl, _, _, rfl, rfl, kk⟩
          · obtain rfl : z = "=" := by
              rcases hz with rfl | rfl
              · exact absurd (by decide +kernel) i4
              · rfl
            refine ⟨_, rfl, _, rfl, rfl, ?_⟩
            have e : decide (V.int (evE t key body 6 da) = V.int (evE t key body 6 db)) = decide (evE t key body 6 da = evE t key body 6 db) := decide_eq_decide.mpr ⟨fun h => V.int.inj h, fun h => by rw [h]⟩
            rw [e]
            exact kk
      · cases r with
        | @tup a xs ds qa rr =>
          obtain ⟨hv, x, _, da', rfl, e2, rh, ra⟩ := two_of rr (RpAll.len rr)
          cases e2
          refine ⟨_, rfl, a, _, 0, hv, rfl, rfl, qa, atI_nat (j := 0) rfl, _, _, rh, rfl, _, rfl, ite2 (fun i1 => ?_) (fun i1 => ?_)⟩
          · refine ⟨_, rfl, a, _, 1, x, rfl, rfl, qa, atI_nat (j := 1) rfl, _, rfl, _, rfl, _, rfl, x, da, n, d, t, key, body, rfl, la, ra, ca, hd, ht, ⟨b0, b1⟩, fun H1 s1 => ?_⟩
            exact ⟨_, rfl, k _ s1⟩
          · exact absurd (by decide +kernel) i1
      · cases r with
        | @tup a xs ds qa rr =>
          obtain ⟨hv, x, y, _, da', db', rfl, e2, rh, ra, rb⟩ := three_of rr (RpAll.len rr)
          cases e2
          refine ⟨_, rfl, a, _, 0, hv, rfl, rfl, qa, atI_nat (j := 0) rfl, _, _, rh, rfl, _, rfl, ite2 (fun i1 => ?_) (fun i1 => ?_)⟩
          · rcases hz with rfl | rfl <;> exact absurd i1 (by decide +kernel)
          refine ⟨_, rfl, a, _, 0, hv, rfl, rfl, qa, atI_nat (j := 0) rfl, _, _, rh, rfl, _, rfl, ite2 (fun i2 => ?_) (fun i2 => ?_)⟩
          · obtain rfl : z = "and" := by
              rcases hz with rfl | rfl
              · rfl
              · exact absurd i2 (by decide +kernel)
            refine ⟨_, rfl, a, _, 1, x, rfl, rfl, qa, atI_nat (j := 1) rfl, _, rfl, _, rfl, _, rfl, x, da, n, d, t, key, body, rfl, la, ra, ca, hd, ht, ⟨b0, b1⟩, fun H1 s1 => ?_⟩
            refine ⟨_, rfl, ite2 (fun c => ?_) (fun c => ?_)⟩
            · refine ⟨_, rfl, a, _, 2, y, rfl, rfl, sqT_same s1 qa, atI_nat (j := 2) rfl, _, rfl, _, rfl, _, rfl, y, db, n, d, t, key, body, rfl, la, (Rp.same s1 rb), cb, (s1 _ _ hd), ht, ⟨b0, b1⟩, fun H2 s2 => ?_⟩
              have kk := k _ (s1.trans s2)
              have e : evC t key body (n + 1) (.tuple [.str "and", da, db]) = (evC t key body n da && evC t key body n db) := if_pos (by decide +kernel)
              rw [e, c, Bool.true_and] at kk
              exact kk
            · have kk := k _ s1
              have e : evC t key body (n + 1) (.tuple [.str "and", da, db]) = (evC t key body n da && evC t key body n db) := if_pos (by decide +kernel)
              rw [e, show evC t key body n da = false by simpa using c, Bool.false_and] at kk
              exact kk
          refine ⟨_, rfl, a, _, 0, hv, rfl, rfl, qa, atI_nat (j := 0) rfl, _, _, rh, rfl, _, rfl, ite2 (fun i3 => ?_) (fun i3 => ?_)⟩
          · obtain rfl : z = "or" := by
              rcases hz with rfl | rfl
              · exact absurd (by decide +kernel) i2
              · rfl
            refine ⟨_, rfl, a, _, 1, x, rfl, rfl, qa, atI_nat (j := 1) rfl, _, rfl, _, rfl, _, rfl, x, da, n, d, t, key, body, rfl, la, ra, ca, hd, ht, ⟨b0, b1⟩, fun H1 s1 => ?_⟩
            refine ⟨_, rfl, ite2 (fun c => ?_) (fun c => ?_)⟩
            · have kk := k _ s1
              have e : evC t key body (n + 1) (.tuple [.str "or", da, db]) = (evC t key body n da || evC t key body n db) := (if_neg (by decide +kernel)).trans (if_pos (by decide +kernel))
              rw [e, c, Bool.true_or] at kk
              exact kk
            · refine ⟨_, rfl, a, _, 2, y, rfl, rfl, sqT_same s1 qa, atI_nat (j := 2) rfl, _, rfl, _, rfl, _, rfl, y, db, n, d, t, key, body, rfl, la, (Rp.same s1 rb), cb, (s1 _ _ hd), ht, ⟨b0, b1⟩, fun H2 s2 => ?_⟩
              have kk := k _ (s1.trans s2)
              have e : evC t key body (n + 1) (.tuple [.str "or", da, db]) = (evC t key body n da || evC t key body n db) := (if_neg (by decide +kernel)).trans (if_pos (by decide +kernel))
              rw [e, show evC t key body n da = false by simpa using c, Bool.false_or] at kk
              exact kk
          · rcases hz with rfl | rfl
            · exact absurd (by decide +kernel) i2
            · exact absurd (by decide +kernel) i3
end
end Hd

set_option Elab.async false
set_option linter.all false
set_option maxRecDepth 100000
set_option maxHeartbeats 8000000
namespace Hd
open PySem L2 Pen RG Dat KEq
abbrev sD : Stmt := top 48
/-- a run's state: the table, what is sent -/
structure Sta where
  t : List (Z × Int)
  ss : List (Str × Str × Int)
def strOf : PyData → Str
  | .str z => z
  | _ => tV
def keyOf (key : Str) : PyData → Str
  | .str z => z
  | _ => key
def runAll (f : PyData → Sta → Bool × Sta) : List PyData → Sta → Bool × Sta
  | [], s => (true, s)
  | d :: ds, s => if (f d s).1 = true then runAll f ds (f d s).2 else f d s
def tupOf : PyData → List PyData
  | .tuple ds => ds
  | _ => []
/-- one deed done -/
def deedE (key : Str) (body : Int) : Nat → PyData → Sta → Bool × Sta
  | _, .tuple [_, n, e], s => (true, ⟨tput s.t (strOf n, key) (evE s.t key body 6 e), s.ss⟩)
  | i, .tuple [h, a, b, c], s => if isS h "send" = true then (true, ⟨s.t, s.ss ++ [(strOf a, keyOf key b, evE s.t key body 6 c)]⟩) else
    match i with
    | 0 => (false, s)
    | i + 1 => runAll (deedE key body i) (tupOf (if evC s.t key body 6 a = true then b else c)) s
  | _, _, s => (false, s)
theorem key_is {d : PyData} (h : isKey d = true) : d = .none ∨ ∃ z, d = .str z := by
  cases d <;> first | exact .inl rfl | exact .inr ⟨_, rfl⟩ | cases h
/-- what a deed is -/
theorem deed_cases {i r r' : Nat} {d : PyData} (h : deedR i d r = some r') :
    (d = .tuple [.str "fail"] ∧ r' = r) ∨ (∃ n e, d = .tuple [.str "set", .str n, e] ∧ isWord (.str n) = true ∧ isE 6 e = true ∧ r' = r) ∨
    (∃ n k e, d = .tuple [.str "send", .str n, k, e] ∧ isWord (.str n) = true ∧ isKey k = true ∧ isE 6 e = true ∧ r' = r) ∨
    (∃ j c as bs r1, i = j + 1 ∧ d = .tuple [.str "if", c, .tuple as, .tuple bs] ∧ isC 6 c = true ∧ roomAll (deedR j) as r = some r1 ∧ roomAll (deedR j) bs r1 = some r') := by
  by_cases o : isOne d = true
  · rw [deed_one o] at h
    have e := (Option.some.inj h).symm
    cases d with
    | tuple ds =>
      cases ds with
      | nil => cases o
      | cons hd tl =>
        rw [one_cons] at o
        by_cases h1 : isS hd "set" = true
        · rw [if_pos h1] at o
          obtain ⟨a, b, rfl⟩ : ∃ a b, tl = [a, b] := by
            match tl, o with
            | [a, b], _ => exact ⟨a, b, rfl⟩
          have o : (isWord a && isE 6 b) = true := o
          rw [Bool.and_eq_true] at o
          obtain ⟨z, rfl⟩ := word_is o.1
          rw [isS_is h1]
          exact .inr (.inl ⟨z, b, rfl, o.1, o.2, e⟩)
        rw [if_neg h1] at o
        by_cases h2 : isS hd "send" = true
        · rw [if_pos h2] at o
          obtain ⟨a, b, c, rfl⟩ : ∃ a b c, tl = [a, b, c] := by
            match tl, o with
            | [a, b, c], _ => exact ⟨a, b, c, rfl⟩
          have o : (isWord a && (isKey b && isE 6 c)) = true := o
          rw [Bool.and_eq_true, Bool.and_eq_true] at o
          obtain ⟨z, rfl⟩ := word_is o.1
          rw [isS_is h2]
          exact .inr (.inr (.inl ⟨z, b, c, rfl, o.1, o.2.1, o.2.2, e⟩))
        rw [if_neg h2, Bool.and_eq_true] at o
        obtain rfl : tl = [] := by
          match tl, o with
          | [], _ => rfl
        rw [isS_is o.1]
        exact .inl ⟨rfl, e⟩
    | _ => cases o
  · cases i with
    | zero =>
      rw [deed_zero o] at h
      cases h
    | succ j =>
      by_cases h4 : isTof d 4 = false
      · rw [deed_ne o h4] at h
        cases h
      · obtain ⟨hd, c, a, b, rfl⟩ : ∃ hd c a b, d = .tuple [hd, c, a, b] := by
          cases d with
          | tuple ds =>
            rcases ds with _ | ⟨x1, _ | ⟨x2, _ | ⟨x3, _ | ⟨x4, _ | ⟨x5, t⟩⟩⟩⟩⟩
            · exact absurd rfl h4
            · exact absurd rfl h4
            · exact absurd rfl h4
            · exact absurd rfl h4
            · exact ⟨x1, x2, x3, x4, rfl⟩
            · refine absurd ?_ h4
              show decide (((x1 :: x2 :: x3 :: x4 :: x5 :: t).length : Int) = 4) = false
              exact decide_eq_false (by simp; omega)
          | _ => exact absurd rfl h4
        rw [deed_four o] at h
        by_cases h5 : isS hd "if" = true
        · rw [if_pos h5] at h
          by_cases h6 : isC 6 c = true
          · rw [if_pos h6] at h
            obtain ⟨r1, a1, a2⟩ := Option.bind_eq_some_iff.mp h
            rw [isS_is h5]
            cases a <;> first | cases a1 | skip
            cases b <;> first | cases a2 | skip
            exact .inr (.inr (.inr ⟨j, c, _, _, r1, rfl, rfl, h6, a1, a2⟩))
          · rw [if_neg h6] at h
            cases h
        · rw [if_neg h5] at h
          cases h
theorem roomAll_le {f : PyData → Nat → Option Nat} (hf : ∀ d r r', f d r = some r' → r' ≤ r) : ∀ {ds : List PyData} {r r' : Nat}, roomAll f ds r = some r' → r' ≤ r
  | [], r, r', h => Nat.le_of_eq (Option.some.inj h).symm
  | _ :: _, 0, _, h => by cases h
  | d :: ds, r + 1, r', h => by
    have h : (f d r).bind (roomAll f ds) = some r' := h
    obtain ⟨r1, a, b⟩ := Option.bind_eq_some_iff.mp h
    have := roomAll_le hf b
    have := hf _ _ _ a
    omega
theorem deedR_le : ∀ (i : Nat) (d : PyData) (r r' : Nat), deedR i d r = some r' → r' ≤ r
  | 0, d, r, r', h => by
    rcases deed_cases h with ⟨_, e⟩ | ⟨_, _, _, _, _, e⟩ | ⟨_, _, _, _, _, _, _, e⟩ | ⟨j, _, _, _, _, z, _⟩
    · omega
    · omega
    · omega
    · cases z
  | i + 1, d, r, r', h => by
    rcases deed_cases h with ⟨_, e⟩ | ⟨_, _, _, _, _, e⟩ | ⟨_, _, _, _, _, _, _, e⟩ | ⟨j, _, _, _, r1, z, _, _, a, b⟩
    · omega
    · omega
    · omega
    · cases z
      have := roomAll_le (deedR_le i) a
      have := roomAll_le (deedR_le i) b
      omega
/-- a message sent -/
def SndT (H : Hp) (e : Str × Str × Int) (r : Addr) : Prop := H r = some (.tup [.str e.1, .str e.2.1, .int e.2.2])
/-- the state at the table d and the list sl -/
structure StAt (G : Hp) (d sl : Addr) (st : Sta) : Prop where
  tab : G d = some (.dT (st.t.map ent))
  nd : (st.t.map (·.1)).Nodup
  ok : TbOk st.t
  lst : ∃ ts : List Addr, G sl = some (.lst (ts.map V.ref)) ∧ Paired (SndT G) st.ss ts
theorem cut_le {G : Hp} {a b : Addr} : Same (delp b (delp a G)) G := fun z o h => delp_le z o (delp_le z o h)
theorem Same.Y {G G' : Hp} {a b : Addr} (s : Same G G') : SameY a b G G' := fun z o _ _ h => s z o h
theorem noT_dT {kvs : List (List L2.Key × V)} : NoT (.dT kvs) := ⟨(fun _ z => nomatch z), (fun _ _ z => nomatch z)⟩
theorem snds_y {G G' : Hp} {a b : Addr} {oa ob : HO} (s : SameY a b G G') (ea : G a = some oa) (na : NoT oa) (eb : G b = some ob) (nb : NoT ob) : ∀ {L : List (Str × Str × Int)} {ts : List Addr}, Paired (SndT G) L ts → Paired (SndT G') L ts
  | _, _, .nil => .nil
  | _, _, .cons x r => .cons (s _ _ (ne_of x ea (fun z => na.1 _ z.symm)) (ne_of x eb (fun z => nb.1 _ z.symm)) x) (snds_y s ea na eb nb r)
theorem StAt.same {G G' : Hp} {d sl : Addr} {st : Sta} (s : Same G G') (x : StAt G d sl st) : StAt G' d sl st := by
  obtain ⟨a, b, c, ts, e, p⟩ := x
  exact ⟨s _ _ a, b, c, ts, s _ _ e, snds_y (Same.Y s) a noT_dT e noT_lst p⟩
theorem StAt.ne {G : Hp} {d sl : Addr} {st : Sta} (x : StAt G d sl st) : d ≠ sl := by
  obtain ⟨a, b, c, ts, e, p⟩ := x
  exact ne_of a e (by intro z; cases z)
theorem deed_fail {key : Str} {body : Int} {i : Nat} {s : Sta} : deedE key body i (.tuple [.str "fail"]) s = (false, s) := by cases i <;> rfl
theorem deed_set {key n : Str} {body : Int} {i : Nat} {s : Sta} {e : PyData} : deedE key body i (.tuple [.str "set", .str n, e]) s = (true, ⟨tput s.t (n, key) (evE s.t key body 6 e), s.ss⟩) := by cases i <;> rfl
theorem deed_send {key n : Str} {body : Int} {i : Nat} {s : Sta} {b e : PyData} : deedE key body i (.tuple [.str "send", .str n, b, e]) s = (true, ⟨s.t, s.ss ++ [(n, keyOf key b, evE s.t key body 6 e)]⟩) := by
  cases i <;> exact if_pos (by decide +kernel)
theorem deed_if {key : Str} {body : Int} {i : Nat} {s : Sta} {c : PyData} {as bs : List PyData} : deedE key body (i + 1) (.tuple [.str "if", c, .tuple as, .tuple bs]) s = runAll (deedE key body i) (if evC s.t key body 6 c = true then as else bs) s := by
  have e : deedE key body (i + 1) (.tuple [.str "if", c, .tuple as, .tuple bs]) s = runAll (deedE key body i) (tupOf (if evC s.t key body 6 c = true then .tuple as else .tuple bs)) s := if_neg (by decide +kernel)
  rw [e]
  split <;> rfl
theorem cut_same {G G' : Hp} {a b : Addr} (s : SameY a b G G') : Same (delp b (delp a G)) (delp b (delp a G')) := by
  intro c o h
  have n1 : c ≠ b := fun z => by
    rw [z] at h
    have h' : (if b = b then none else delp a G b) = some o := h
    rw [if_pos rfl] at h'
    cases h'
  rw [delp_ne n1] at h
  have n2 : c ≠ a := fun z => by
    rw [z] at h
    have h' : (if a = a then none else G a) = some o := h
    rw [if_pos rfl] at h'
    cases h'
  rw [delp_ne n2] at h
  rw [delp_ne n1, delp_ne n2]
  exact s c o n2 n1 h
def spD (K : PySem.W.Frag) (m : Nat) : Sp := fun vs H Q _ => ∃ (v : V) (ds : List PyData) (i : Nat) (d sl : Addr) (key : Str) (body : Int) (st : Sta) (r r' : Nat), vs = [v, .ref d, .ref sl, .str key, .int body] ∧ i < m ∧ Rp K (delp sl (delp d H)) v (.tuple ds) ∧ roomAll (deedR i) ds r = some r' ∧ StAt H d sl st ∧
  st.ss.length + r ≤ 100 ∧ st.t.length + r ≤ 900 ∧ isWord (.str key) = true ∧ (-99 ≤ body ∧ body ≤ 99) ∧
  ∀ H', StAt H' d sl (runAll (deedE key body i) ds st).2 → (runAll (deedE key body i) ds st).2.ss.length + r' ≤ st.ss.length + r → (runAll (deedE key body i) ds st).2.t.length + r' ≤ st.t.length + r → SameY d sl H H' → Q (.bl (runAll (deedE key body i) ds st).1) H'
section
variable {P : Program} {w : World} {K : PySem.W.Frag} {mg : Str → Option Value} {base : Heap}
theorem scD : FnScope ["_law_deeds_here", "_law_values", "_law_sends", "_law_key", "_law_body", "_law_deed_here"] ["_law_deeds_here", "_law_values", "_law_sends", "_law_key", "_law_body"] (defScope sD) := ⟨rfl, rfl, rfl, by decide +kernel, rfl, by decide +kernel, by decide +kernel⟩
theorem ok_d {f fW fH : Addr} {fd fdW fdH : FuncData} (F : Fun K "_law_did" "_law_did" sD f fd) (TD : DefT K mg "_law_did" f) (bD : Binds K fd ["_law_deeds_here", "_law_values", "_law_sends", "_law_key", "_law_body"] [])
    (GW : FnOk P w K mg base CX0 8 fW fdW ["_law_e_here", "_law_values", "_law_key", "_law_body"] (spW K 7)) (TW : DefT K mg "_law_worth" fW) (bW : Binds K fdW ["_law_e_here", "_law_values", "_law_key", "_law_body"] [])
    (GH : FnOk P w K mg base CX0 16 fH fdH ["_law_c_here", "_law_values", "_law_key", "_law_body"] (spH K 7)) (TH : DefT K mg "_law_holds" fH) (bH : Binds K fdH ["_law_c_here", "_law_values", "_law_key", "_law_body"] []) : ∀ m, FnOk P w K mg base CX0 (m + 17) f fd ["_law_deeds_here", "_law_values", "_law_sends", "_law_key", "_law_body"] (spD K m)
  | 0 => by
    refine F.ok scD (fun vs H Q E h => ?_) (fun cdv A outer s H vs Q E hr h => ?_)
    · obtain ⟨v, ds, i, d, sl, key, body, st, r, r', rfl, _⟩ := h
      rfl
    · obtain ⟨v, ds, i, d, sl, key, body, st, r, r', rfl, lt, _⟩ := h
      exact absurd lt (Nat.not_lt_zero _)
  | m + 1 => by
    have GD := ok_d F TD bD GW TW bW GH TH bH m
    refine F.ok scD (fun vs H Q E h => ?_) (fun cdv A outer s H vs Q E hr h => ?_)
    · obtain ⟨v, ds, i, d, sl, key, body, st, r, r', rfl, _⟩ := h
      rfl
    · obtain ⟨v, ds, i, d, sl, key, body, st, r, r', rfl, lt, rp, room, S0, bs, bt, wk, ⟨b0, b1⟩, k⟩ := h
      have hu := hu_of hr
      refine ⟨_, (pss_cons (ps_for PassesOwn.never rfl (pi_tup (pv 0)) (pg_name (i := 5) scD.nd rfl (Or.inl rfl)) (pss_cons (ps_if (pt_cmpR (KEq.op_eqS hu) (pe_ix ix_tup (pv 5) pe_int (fun _ _ => rfl)) pe_str (nomark _)) (pss_one (ps_ret pe_bl)) pss_nil)
      (pss_one (ps_if (pt_cmpR (KEq.op_eqS hu) (pe_ix ix_tup (pv 5) pe_int (fun _ _ => rfl)) pe_str (nomark _)) (pss_one (ps_dput hu (pv 1) (Ab.pe_tupA (pa_cons (pe_ix ix_tup (pv 5) pe_int (fun _ _ => rfl)) (pa_cons (pv 3) pa_nil))) (pe_call GW (hr.mono (by omega)) rfl TW.mg TW.kp bW .nil pass0 (pa_cons (pe_ix ix_tup (pv 5) pe_int (fun _ _ => rfl)) (pa_cons (pv 1) (pa_cons (pv 3) (pa_cons (pv 4) pa_nil))))) rfl)) (pss_one (ps_if (pt_cmpR (KEq.op_eqS hu) (pe_ix ix_tup (pv 5) pe_int (fun _ _ => rfl)) pe_str (nomark _)) (pss_one (ps_expr (pe_bm PySem.F.plainAttrs_list PySem.F.slot_list_append PySem.F.type_list_append mt_append (pv 2) (pa_cons (Ab.pe_tupA (pa_cons (pe_ix ix_tup (pv 5) pe_int (fun _ _ => rfl)) (pa_cons (pe_ifExp (pt_cmpR op_isN (pe_ix ix_tup (pv 5) pe_int (fun _ _ => rfl)) pe_non (nomark _)) (pv 3) (pe_ix ix_tup (pv 5) pe_int (fun _ _ => rfl))) (pa_cons (pe_call GW (hr.mono (by omega)) rfl TW.mg TW.kp bW .nil pass0 (pa_cons (pe_ix ix_tup (pv 5) pe_int (fun _ _ => rfl)) (pa_cons (pv 1) (pa_cons (pv 3) (pa_cons (pv 4) pa_nil))))) pa_nil)))) pa_nil)))) (pss_one (ps_if (pt_not (pt_val (pe_call GD (hr.mono (by omega)) rfl TD.mg TD.kp bD .nil pass0 (pa_cons (pe_ifExp (pt_val (pe_call GH (hr.mono (by omega)) rfl TH.mg TH.kp bH .nil pass0 (pa_cons (pe_ix ix_tup (pv 5) pe_int (fun _ _ => rfl)) (pa_cons (pv 1) (pa_cons (pv 3) (pa_cons (pv 4) pa_nil)))))) (pe_ix ix_tup (pv 5) pe_int (fun _ _ => rfl)) (pe_ix ix_tup (pv 5) pe_int (fun _ _ => rfl))) (pa_cons (pv 1) (pa_cons (pv 2) (pa_cons (pv 3) (pa_cons (pv 4) pa_nil)))))))) (pss_one (ps_ret pe_bl)) pss_nil))))))))
      (pss_one (ps_ret pe_bl))), ?_⟩
      cases rp with
      | @tup a xs ds qa rr =>
        refine ⟨_, rfl, a, rfl, ⟨_, sqT_same cut_le qa⟩, for_tup (xs := xs) (fun n σ G => σ.length = 6 ∧ σ[1]? = some (some (.ref d)) ∧ σ[2]? = some (some (.ref sl)) ∧ σ[3]? = some (some (.str key)) ∧ σ[4]? = some (some (.int body)) ∧
          SameY d sl H G ∧ ∃ (s1 : Sta) (r1 : Nat), StAt G d sl s1 ∧ runAll (deedE key body i) ds st = runAll (deedE key body i) (ds.drop n) s1 ∧ roomAll (deedR i) (ds.drop n) r1 = some r' ∧ s1.ss.length + r1 ≤ st.ss.length + r ∧ s1.t.length + r1 ≤ st.t.length + r) ⟨rfl, rfl, rfl, rfl, rfl, .refl, st, r, S0, rfl, room, Nat.le_refl _, Nat.le_refl _⟩ ?_ ?_ ?_⟩
        · intro n σ G _ ⟨_, _, _, _, _, sy, _⟩
          exact sqT_same (cut_le (a := d) (b := sl)) (sqT_same (cut_same sy) qa)
        · intro n x σ G hx ⟨l0, v1, v2, v3, v4, sy, s1, r1, S1, er, ro, c1, c2⟩
          obtain ⟨dd, hd, rd0⟩ := rp_get rr hx
          have rd := Rp.same (cut_same sy) rd0
          rw [drop_get hd] at er ro
          cases r1 with
          | zero => cases ro
          | succ r2 =>
          have ro : (deedR i dd r2).bind (roomAll (deedR i) (ds.drop (n + 1))) = some r' := ro
          obtain ⟨r3, q1, q2⟩ := Option.bind_eq_some_iff.mp ro
          have le3 := roomAll_le (deedR_le i) q2
          have le2 := deedR_le i _ _ _ q1
          have stop : ∀ G' s2, runAll (deedE key body i) ds st = (false, s2) → StAt G' d sl s2 → s2.ss.length + r' ≤ st.ss.length + r → s2.t.length + r' ≤ st.t.length + r → SameY d sl H G' → Q (.bl false) G' := by
            intro G' s2 e T1 T2 T3 T4
            have kk := k G'
            rw [e] at kk
            exact kk T1 T2 T3 T4
          have er : runAll (deedE key body i) ds st = if (deedE key body i dd s1).1 = true then runAll (deedE key body i) (ds.drop (n + 1)) (deedE key body i dd s1).2 else deedE key body i dd s1 := er
          have z1 : (σ.set 5 (some x))[1]? = some (some (V.ref d)) := by rw [List.getElem?_set_ne (by decide)]; exact v1
          have z2 : (σ.set 5 (some x))[2]? = some (some (V.ref sl)) := by rw [List.getElem?_set_ne (by decide)]; exact v2
          have z3 : (σ.set 5 (some x))[3]? = some (some (V.str key)) := by rw [List.getElem?_set_ne (by decide)]; exact v3
          have z4 : (σ.set 5 (some x))[4]? = some (some (V.int body)) := by rw [List.getElem?_set_ne (by decide)]; exact v4
          have z5 : (σ.set 5 (some x))[5]? = some (some x) := by simp [l0]
          have nds := S1.ne
          obtain ⟨tss, esl, pts⟩ := S1.lst
          rcases deed_cases q1 with ⟨rfl, e3⟩ | ⟨nm, ex, rfl, wn, xe, e3⟩ | ⟨nm, kd, ex, rfl, wn, xk, xe, e3⟩ | ⟨j, c, as, bs, rm, rfl, rfl, xc, ra1, ra2⟩
          · cases rd with
            | @tup a1 ys es qx rx =>
            obtain ⟨hv, _, rfl, e2, rh⟩ := one_of rx (RpAll.len rx)
            cases e2
            refine ⟨_, z5, a1, _, 0, hv, rfl, rfl, sqT_same cut_le qx, atI_nat (j := 0) rfl, _, _, Rp.same cut_le rh, rfl, _, rfl, ite2 (fun i1 => ?_) (fun i1 => absurd (by decide +kernel) i1)⟩
            rw [deed_fail] at er
            exact stop G _ er S1 (by omega) (by omega) sy
          · cases rd with
            | @tup a1 ys es qx rx =>
            obtain ⟨hv, xn, y, _, _, _, rfl, e2, rh, rn, ry⟩ := three_of rx (RpAll.len rx)
            cases e2
            refine ⟨_, z5, a1, _, 0, hv, rfl, rfl, sqT_same cut_le qx, atI_nat (j := 0) rfl, _, _, Rp.same cut_le rh, rfl, _, rfl, ite2 (fun i1 => absurd i1 (by decide +kernel)) (fun i1 => ?_)⟩
            refine ⟨_, z5, a1, _, 0, hv, rfl, rfl, sqT_same cut_le qx, atI_nat (j := 0) rfl, _, _, Rp.same cut_le rh, rfl, _, rfl, ite2 (fun i2 => ?_) (fun i2 => absurd (by decide +kernel) i2)⟩
            rw [deed_set] at er
            have er : runAll (deedE key body i) ds st = runAll (deedE key body i) (ds.drop (n + 1)) ⟨tput s1.t (nm, key) (evE s1.t key body 6 ex), s1.ss⟩ := er
            cases rn
            refine ⟨_, z5, a1, _, 2, y, rfl, rfl, sqT_same cut_le qx, atI_nat (j := 2) rfl, _, z1, _, z3, _, z4, y, ex, 6, d, s1.t, key, body, rfl, by decide, Rp.same cut_le ry, xe, S1.tab, S1.ok, ⟨b0, b1⟩, fun G1 sm => ?_⟩
            refine ⟨_, z1, _, z5, a1, _, 1, _, rfl, rfl, sqT_same cut_le (sqT_same (cut_same (Same.Y sm)) qx), atI_nat (j := 1) rfl, _, z3, sz (by simp), fun kt G4 n4 s4 e4 => ?_⟩
            have ed4 : G4 d = some (.dT (s1.t.map ent)) := s4 _ _ (sm _ _ S1.tab)
            have pd : DPut G4 d (.ref kt) (.int (evE s1.t key body 6 ex)) (upd G4 d (.dT ((tput s1.t (nm, key) (evE s1.t key body 6 ex)).map ent))) := by
              have g := DPut.t (k := kp (nm, key)) (v := .int (evE s1.t key body 6 ex)) ed4 e4 (by rw [List.length_map]; exact Nat.lt_of_le_of_lt (show s1.t.length ≤ 900 by omega) (by decide))
              rw [put_ent s1.t (nm, key) _ S1.nd] at g
              exact g
            have sy2 : SameY d sl G (upd G4 d (.dT ((tput s1.t (nm, key) (evE s1.t key body 6 ex)).map ent))) := fun z o nz nw hz => (upd_ne nz).trans (s4 _ _ (sm _ _ hz))
            have bd := ev_in (key := key) S1.ok b0 b1 xe
            refine ⟨d, _, rfl, pd, ?_⟩
            have tl := tput_len s1.t (nm, key) (evE s1.t key body 6 ex)
            refine ⟨by simp [l0], z1, z2, z3, z4, sy.trans sy2, ⟨tput s1.t (nm, key) (evE s1.t key body 6 ex), s1.ss⟩, r3, ⟨upd_same, tput_nodup S1.nd, S1.ok.put wn wk bd.1 bd.2, tss, (upd_ne nds.symm).trans (s4 _ _ (sm _ _ esl)), snds_y sy2 S1.tab noT_dT esl noT_lst pts⟩, er, q2, by show s1.ss.length + r3 ≤ _; omega, by show (tput s1.t (nm, key) (evE s1.t key body 6 ex)).length + r3 ≤ _; omega⟩
          · cases rd with
            | @tup a1 ys es qx rx =>
            obtain ⟨hv, xn, xkv, y, _, _, _, _, rfl, e2, rh, rn, rk, ry⟩ := four_of rx (by rfl)
            cases e2
            refine ⟨_, z5, a1, _, 0, hv, rfl, rfl, sqT_same cut_le qx, atI_nat (j := 0) rfl, _, _, Rp.same cut_le rh, rfl, _, rfl, ite2 (fun i1 => absurd i1 (by decide +kernel)) (fun i1 => ?_)⟩
            refine ⟨_, z5, a1, _, 0, hv, rfl, rfl, sqT_same cut_le qx, atI_nat (j := 0) rfl, _, _, Rp.same cut_le rh, rfl, _, rfl, ite2 (fun i2 => absurd i2 (by decide +kernel)) (fun i2 => ?_)⟩
            refine ⟨_, z5, a1, _, 0, hv, rfl, rfl, sqT_same cut_le qx, atI_nat (j := 0) rfl, _, _, Rp.same cut_le rh, rfl, _, rfl, ite2 (fun i3 => ?_) (fun i3 => absurd (by decide +kernel) i3)⟩
            rw [deed_send] at er
            have er : runAll (deedE key body i) ds st = runAll (deedE key body i) (ds.drop (n + 1)) ⟨s1.t, s1.ss ++ [(nm, keyOf key kd, evE s1.t key body 6 ex)]⟩ := er
            cases rn
            have kz : (xkv = V.non ∧ keyOf key kd = key) ∨ ∃ z, xkv = V.str z ∧ keyOf key kd = z := by
              rcases key_is xk with rfl | ⟨z, rfl⟩
              · cases rk
                exact .inl ⟨rfl, rfl⟩
              · cases rk
                exact .inr ⟨z, rfl, rfl⟩
            have fin : ∀ (zk : Str), keyOf key kd = zk → ∀ (G1 : Hp), Same G G1 → ∀ (G2 : Hp) (rr : Addr), G1 rr = none → Same G1 G2 → G2 rr = some (.tup [.str nm, .str zk, .int (evE s1.t key body 6 ex)]) → ∃ xs' : List V, G2 sl = some (.lst xs') ∧ xs'.length < sizeLine ∧ StAt (upd G2 sl (.lst (xs' ++ [.ref rr]))) d sl ⟨s1.t, s1.ss ++ [(nm, keyOf key kd, evE s1.t key body 6 ex)]⟩ ∧ SameY d sl G (upd G2 sl (.lst (xs' ++ [.ref rr]))) := by
              intro zk ek G1 sm G2 ar nr sr er2
              have s02 := sm.trans sr
              have sl2 := s02 _ _ esl
              have sy3 : SameY d sl G2 (upd G2 sl (.lst (tss.map V.ref ++ [.ref ar]))) := fun z o nz nw hz => (upd_ne nw).trans hz
              refine ⟨tss.map V.ref, sl2, ?_, ⟨(upd_ne nds).trans (s02 _ _ S1.tab), S1.nd, S1.ok, tss ++ [ar], ?_, ?_⟩, (Same.Y s02).trans sy3⟩
              · rw [List.length_map, ← paired_length pts]
                exact Nat.lt_of_le_of_lt (show s1.ss.length ≤ 100 by omega) (by decide)
              · rw [upd_same, List.map_append]
                rfl
              · refine paired_snoc ?_ (snds_y ((Same.Y s02).trans sy3) S1.tab noT_dT esl noT_lst pts)
                rw [ek]
                exact (upd_ne (ne_of er2 sl2 (by intro z; cases z))).trans er2
            have len : (s1.ss ++ [(nm, keyOf key kd, evE s1.t key body 6 ex)]).length = s1.ss.length + 1 := by simp
            refine ⟨_, z2, .inl ⟨rfl, _, SqL.of esl⟩, _, z5, a1, _, 1, _, rfl, rfl, sqT_same cut_le qx, atI_nat (j := 1) rfl, ?_⟩
            refine ⟨_, z5, a1, _, 2, _, rfl, rfl, sqT_same cut_le qx, atI_nat (j := 2) rfl, rfl, _, rfl, ite2 (fun k1 => ?_) (fun k1 => ?_)⟩
            · rcases kz with ⟨rfl, ek⟩ | ⟨z, rfl, ek⟩
              · refine ⟨_, z3, _, z5, a1, _, 3, y, rfl, rfl, sqT_same cut_le qx, atI_nat (j := 3) rfl, _, z1, _, z3, _, z4, y, ex, 6, d, s1.t, key, body, rfl, by decide, Rp.same cut_le ry, xe, S1.tab, S1.ok, ⟨b0, b1⟩, fun G1 sm => ?_⟩
                refine ⟨sz (by simp), fun ar G2 nr sr er2 => ?_⟩
                obtain ⟨xs', e1, e2, T1, T2⟩ := fin _ ek G1 sm G2 ar nr sr er2
                exact ⟨sl, xs', _, rfl, rfl, e1, e2, by simp [l0], z1, z2, z3, z4, sy.trans T2, _, r3, T1, er, q2, by rw [len]; omega, by show s1.t.length + r3 ≤ _; omega⟩
              · cases k1
            · rcases kz with ⟨rfl, ek⟩ | ⟨z, rfl, ek⟩
              · exact absurd rfl k1
              · refine ⟨_, z5, a1, _, 2, _, rfl, rfl, sqT_same cut_le qx, atI_nat (j := 2) rfl, ?_⟩
                refine ⟨_, z5, a1, _, 3, y, rfl, rfl, sqT_same cut_le qx, atI_nat (j := 3) rfl, _, z1, _, z3, _, z4, y, ex, 6, d, s1.t, key, body, rfl, by decide, Rp.same cut_le ry, xe, S1.tab, S1.ok, ⟨b0, b1⟩, fun G1 sm => ?_⟩
                refine ⟨sz (by simp), fun ar G2 nr sr er2 => ?_⟩
                obtain ⟨xs', e1, e2, T1, T2⟩ := fin _ ek G1 sm G2 ar nr sr er2
                exact ⟨sl, xs', _, rfl, rfl, e1, e2, by simp [l0], z1, z2, z3, z4, sy.trans T2, _, r3, T1, er, q2, by rw [len]; omega, by show s1.t.length + r3 ≤ _; omega⟩
          · cases rd with
            | @tup a1 ys es qx rx =>
            obtain ⟨hv, xcv, xa, xb, _, _, _, _, rfl, e2, rh, rxcv, rxa, rxb⟩ := four_of rx (by rfl)
            cases e2
            refine ⟨_, z5, a1, _, 0, hv, rfl, rfl, sqT_same cut_le qx, atI_nat (j := 0) rfl, _, _, Rp.same cut_le rh, rfl, _, rfl, ite2 (fun i1 => absurd i1 (by decide +kernel)) (fun i1 => ?_)⟩
            refine ⟨_, z5, a1, _, 0, hv, rfl, rfl, sqT_same cut_le qx, atI_nat (j := 0) rfl, _, _, Rp.same cut_le rh, rfl, _, rfl, ite2 (fun i2 => absurd i2 (by decide +kernel)) (fun i2 => ?_)⟩
            refine ⟨_, z5, a1, _, 0, hv, rfl, rfl, sqT_same cut_le qx, atI_nat (j := 0) rfl, _, _, Rp.same cut_le rh, rfl, _, rfl, ite2 (fun i3 => absurd i3 (by decide +kernel)) (fun i3 => ?_)⟩
            rw [deed_if] at er
            have lem := roomAll_le (deedR_le j) ra1
            have lem2 := roomAll_le (deedR_le j) ra2
            refine ⟨_, z5, a1, _, 1, xcv, rfl, rfl, sqT_same cut_le qx, atI_nat (j := 1) rfl, _, z1, _, z3, _, z4, xcv, c, 6, d, s1.t, key, body, rfl, by decide, Rp.same cut_le rxcv, xc, S1.tab, S1.ok, ⟨b0, b1⟩, fun G1 sm => ⟨_, rfl, ite2 (fun c1 => ?_) (fun c1 => ?_)⟩⟩
            · refine ⟨_, z5, a1, _, 2, xa, rfl, rfl, sqT_same cut_le (sqT_same (cut_same (Same.Y sm)) qx), atI_nat (j := 2) rfl, _, z1, _, z2, _, z3, _, z4, xa, as, j, d, sl, key, body, s1, r2, rm, rfl, by omega, Rp.same (cut_same (Same.Y sm)) rxa, ra1, S1.same sm, by omega, by omega, wk, ⟨b0, b1⟩, fun G2 T1 T2 T3 sy2 => ?_⟩
              rw [if_pos c1] at er
              refine ⟨_, rfl, ite2 (fun b1' => ?_) (fun b1' => ?_)⟩
              · have b2 : (runAll (deedE key body j) as s1).1 = false := by simpa using b1'
                rw [if_neg (by rw [b2]; decide)] at er
                have e2 : runAll (deedE key body j) as s1 = (false, (runAll (deedE key body j) as s1).2) := by rw [← b2]
                exact stop G2 _ (er.trans e2) T1 (by omega) (by omega) (sy.trans ((Same.Y sm).trans sy2))
              · have b2 : (runAll (deedE key body j) as s1).1 = true := by simpa using b1'
                rw [if_pos b2] at er
                exact ⟨by simp [l0], z1, z2, z3, z4, sy.trans ((Same.Y sm).trans sy2), _, r3, T1, er, q2, by omega, by omega⟩
            · refine ⟨_, z5, a1, _, 3, xb, rfl, rfl, sqT_same cut_le (sqT_same (cut_same (Same.Y sm)) qx), atI_nat (j := 3) rfl, _, z1, _, z2, _, z3, _, z4, xb, bs, j, d, sl, key, body, s1, rm, r3, rfl, by omega, Rp.same (cut_same (Same.Y sm)) rxb, ra2, S1.same sm, by omega, by omega, wk, ⟨b0, b1⟩, fun G2 T1 T2 T3 sy2 => ?_⟩
              rw [if_neg c1] at er
              refine ⟨_, rfl, ite2 (fun b1' => ?_) (fun b1' => ?_)⟩
              · have b2 : (runAll (deedE key body j) bs s1).1 = false := by simpa using b1'
                rw [if_neg (by rw [b2]; decide)] at er
                have e2 : runAll (deedE key body j) bs s1 = (false, (runAll (deedE key body j) bs s1).2) := by rw [← b2]
                exact stop G2 _ (er.trans e2) T1 (by omega) (by omega) (sy.trans ((Same.Y sm).trans sy2))
              · have b2 : (runAll (deedE key body j) bs s1).1 = true := by simpa using b1'
                rw [if_pos b2] at er
                exact ⟨by simp [l0], z1, z2, z3, z4, sy.trans ((Same.Y sm).trans sy2), _, r3, T1, er, q2, by omega, by omega⟩
        · intro σ G ⟨l0, v1, v2, v3, v4, sy, s1, r1, S1, er, ro, c1, c2⟩
          have e : ds.drop xs.length = [] := by rw [RpAll.len rr]; simp
          rw [e] at er ro
          obtain rfl : r1 = r' := Option.some.inj ro
          have kk := k G
          rw [er] at kk
          exact kk S1 c1 c2 sy
end
end Hd

set_option Elab.async false
set_option linter.all false
set_option maxRecDepth 100000
set_option maxHeartbeats 8000000
namespace Hd
open PySem L2 Pen RG Dat KEq
abbrev sU : Stmt := top 49
theorem units3 {k : Nat} {A : Around} (r : Room k A) : A.units + 3 < cLine := by have := r.un; omega
theorem rows_nodup {L : List (Z × Int)} (h : RowsOk L) : (L.map (·.1)).Nodup := by
  rw [List.nodup_iff_pairwise_ne, List.pairwise_map]
  refine h.up.imp fun {a b} x e => ?_
  rw [e] at x
  have n : KSrt.lt2 b.1 b.1 = false := by
    rw [KSrt.lt2_is]
    simp
  rw [n] at x
  cases x
theorem hand_is {d : PyData} (h : hOk d = true) : ∃ ds r', d = .tuple ds ∧ roomAll (deedR 3) ds 12 = some r' := by
  obtain ⟨r', e⟩ := Option.isSome_iff_exists.mp (show (roomR (deedR 3) d 12).isSome = true from h)
  cases d <;> first | cases e | skip
  exact ⟨_, r', rfl, e⟩
theorem fresh_cut {H G : Hp} {d sl : Addr} (s : Same H G) (h1 : H d = none) (h2 : H sl = none) : Same H (delp sl (delp d G)) := fun z o h => by
  rw [delp_ne (ne_of_none h h2), delp_ne (ne_of_none h h1)]
  exact s _ _ h
theorem pairT_of {K : PySem.W.Frag} {H : Hp} : ∀ {L : List (Z × Int)} {ts : List Addr}, Paired (RowT H) L ts → Paired (DpT.PairT K H) (L.map ent) ts
  | _, _, .nil => .nil
  | _, _, .cons x r => .cons (by
      obtain ⟨c, a1, a2⟩ := x
      exact ⟨c, SqT.of a1, a2⟩) (pairT_of r)
theorem ent_nodup {t : List (Z × Int)} (h : (t.map (·.1)).Nodup) : ((t.map ent).map (·.1)).Nodup := by
  rw [List.nodup_iff_pairwise_ne, List.map_map, List.pairwise_map]
  rw [List.nodup_iff_pairwise_ne, List.pairwise_map] at h
  exact h.imp fun {a b} n e => n (kp_inj e)
/-- what a run tells -/
inductive RunAt (H : Hp) (res : Addr) (x : Bool × Sta) : Prop
  | failed : x.1 = false → H res = some (.tup [.str "failed"]) → RunAt H res x
  | done (zs : List Z) (ra sa : Addr) (ts : List Addr) : x.1 = true → Srt (x.2.t.map (·.1)) zs → H res = some (.tup [.str "done", .ref ra, .ref sa]) → RowsAt H ra (rowsOf x.2.t zs) → DpT.TupF H sa (ts.map V.ref) → Paired (SndT H) x.2.ss ts → RunAt H res x
def spU (K : PySem.W.Frag) : Sp := fun vs H Q _ => ∃ (v : V) (dd : PyData) (ds : List PyData) (r' : Nat) (ra ma : Addr) (L : List (Z × Int)) (kd : V) (key : Str) (body : Int), vs = [v, .ref ra, .ref ma] ∧ Rp K H v (.tuple ds) ∧ roomAll (deedR 3) ds 12 = some r' ∧ RowsAt H ra L ∧ RowsOk L ∧ L.length ≤ 800 ∧
  SqT K H ma [kd, .str key, .int body] ∧ isWord (.str key) = true ∧ (-99 ≤ body ∧ body ≤ 99) ∧
  ∀ res H', RunAt H' res (runAll (deedE key body 3) ds ⟨L, []⟩) → Same H H' → Q (.ref res) H'
section
variable {P : Program} {w : World} {K : PySem.W.Frag} {mg : Str → Option Value} {base : Heap}
theorem scU : FnScope ["_law_handler_here", "_law_rows_here", "_law_message", "_law_values", "_law_sends"] ["_law_handler_here", "_law_rows_here", "_law_message"] (defScope sU) := ⟨rfl, rfl, rfl, by decide +kernel, rfl, by decide +kernel, by decide +kernel⟩
theorem ok_u {f fD fR : Addr} {fd fdD fdR : FuncData} (F : Fun K "_law_run" "_law_run" sU f fd) (T : TxtS mg) (TDi : mg "dict" = none)
    (GD : FnOk P w K mg base CX0 21 fD fdD ["_law_deeds_here", "_law_values", "_law_sends", "_law_key", "_law_body"] (spD K 4)) (TD : DefT K mg "_law_did" fD) (bD : Binds K fdD ["_law_deeds_here", "_law_values", "_law_sends", "_law_key", "_law_body"] [])
    (GRT : FnOk P w K mg base CX0 1 fR fdR ["_law_found"] spRT) (TRT : DefT K mg "_law_row_tuple" fR) (bRT : Binds K fdR ["_law_found"] []) : FnOk P w K mg base CX0 22 f fd ["_law_handler_here", "_law_rows_here", "_law_message"] (spU K) := by
  refine F.ok scU (fun vs H Q E h => ?_) (fun cdv A outer s H vs Q E hr h => ?_)
  · obtain ⟨v, dd, ds, r', ra, ma, L, kd, key, body, rfl, _⟩ := h
    rfl
  · obtain ⟨v, dd, ds, r', ra, ma, L, kd, key, body, rfl, rp, room, rows, rok, ll, qm, wk, ⟨b0, b1⟩, k⟩ := h
    have hu := hu_of hr
    refine ⟨_, (pss_cons (ps_par (i := 3) (j := 4) (by rfl) scU.nd rfl rfl (by decide) rfl rfl (pa_cons (pe_callTy (DpT.call_dictT (by rfl) (units3 hr)) (by rfl) TDi (by decide +kernel) (pa_cons (pv 1) pa_nil)) (pa_cons (pe_lst pa_nil) pa_nil)) (by rfl))
      (pss_cons (ps_if (pt_not (pt_val (pe_call GD (hr.mono (by decide)) rfl TD.mg TD.kp bD .nil pass0 (pa_cons (pv 0) (pa_cons (pv 3) (pa_cons (pv 4) (pa_cons (pe_ix ix_tup (pv 2) pe_int (fun _ _ => rfl)) (pa_cons (pe_ix ix_tup (pv 2) pe_int (fun _ _ => rfl)) pa_nil)))))))) (pss_one (ps_ret (Ab.pe_tupA (pa_cons pe_str pa_nil)))) pss_nil)
      (pss_one (ps_ret (Ab.pe_tupA (pa_cons pe_str (pa_cons (pe_call GRT (hr.mono (by decide)) rfl TRT.mg TRT.kp bRT .nil pass0 (pa_cons (pv 3) pa_nil)) (pa_cons (pe_callTy DpT.call_tupleF (by rfl) T.tuple (by decide +kernel) (pa_cons (pv 4) pa_nil)) pa_nil)))))))), ?_⟩
    obtain ⟨ts, tf, pr⟩ := rows
    refine ⟨_, rfl, ra, ts, L.map ent, rfl, tf, pairT_of pr, ent_nodup (rows_nodup rok), by rw [List.length_map]; omega, fun d nd => ?_⟩
    refine ⟨Nat.zero_le _, fun sl nsl => ⟨_, _, rfl, ?_⟩⟩
    have ne : d ≠ sl := ne_of_none upd_same nsl
    have s0 : Same H (upd H d (.dT (L.map ent))) := same_new nd
    have s1 : Same (upd H d (.dT (L.map ent))) (upd (upd H d (.dT (L.map ent))) sl (.lst [])) := same_new nsl
    have nsl0 : H sl = none := by rw [upd_ne ne.symm] at nsl; exact nsl
    have s01 := s0.trans s1
    refine ⟨_, rfl, _, rfl, _, rfl, _, rfl, ma, _, 1, _, rfl, rfl, sqT_same s01 qm, atI_nat (j := 1) rfl, _, rfl, ma, _, 2, _, rfl, rfl, sqT_same s01 qm, atI_nat (j := 2) rfl, v, ds, 3, d, sl, key, body, ⟨L, []⟩, 12, r', rfl, by decide,
      Rp.same (fresh_cut s01 nd nsl0) rp, room, ⟨(upd_ne ne).trans upd_same, rows_nodup rok, rok.ok, [], upd_same, .nil⟩, by show 0 + 12 ≤ 100; omega, by show L.length + 12 ≤ 900; omega, wk, ⟨b0, b1⟩, fun G S1 c1 c2 sy => ?_⟩
    have sG : Same H G := fun z o h => sy _ _ (ne_of_none h nd) (ne_of_none h nsl0) (s01 _ _ h)
    refine ⟨_, rfl, ite2 (fun b => ?_) (fun b => ?_)⟩
    · refine ⟨sz (by simp), fun r G2 nr sr er => ?_⟩
      exact k r G2 (.failed (by simpa using b) er) (sG.trans sr)
    · obtain ⟨tss, esl, pts⟩ := S1.lst
      have c2 : (runAll (deedE key body 3) ds ⟨L, []⟩).2.t.length + r' ≤ L.length + 12 := c2
      refine ⟨_, rfl, d, _, rfl, S1.tab, by omega, S1.nd, fun zs rr G1 srt s2 rows => ?_⟩
      refine ⟨_, rfl, sl, _, rfl, SqL.of (s2 _ _ esl), fun l o nl oc od => ?_⟩
      have s3 : Same G1 (upd G1 l (.frz o (.tup (tss.map V.ref)))) := same_new nl
      refine ⟨sz (by simp), fun r G2 nr sr er => ?_⟩
      have s34 := s3.trans sr
      have all := s2.trans s34
      exact k r G2 (.done zs rr l tss (by simpa using b) srt er (rows.same s34) ⟨o, oc, od, sr _ _ upd_same⟩ (snds_y (Same.Y all) S1.tab noT_dT esl noT_lst pts)) (sG.trans all)
end
end Hd

set_option Elab.async false
set_option linter.all false
set_option maxRecDepth 100000
set_option maxHeartbeats 8000000
namespace Hd
open PySem L2 Pen RG Dat KEq
abbrev sMs : Stmt := top 12
abbrev sRw : Stmt := top 13
abbrev rowD (e : Z × Int) : PyData := .tuple [.tuple [.str e.1.1, .str e.1.2], .int e.2]
theorem rp_row {K : PySem.W.Frag} {H : Hp} {e : Z × Int} {r : Addr} (x : RowT H e r) : Rp K H (.ref r) (rowD e) := by
  obtain ⟨c, a, b⟩ := x
  exact .tup (SqT.of a) (.cons (.tup (SqT.of b) (.cons (.str _) (.cons (.str _) .nil))) (.cons (.int _) .nil))
def spMs (K : PySem.W.Frag) : Sp := fun vs H Q _ => ∃ (ma : Addr) (k1 k2 : Str) (i : Int), vs = [.ref ma] ∧ SqT K H ma [.str k1, .str k2, .int i] ∧ isWord (.str k1) = true ∧ isWord (.str k2) = true ∧ (-99 ≤ i ∧ i ≤ 99) ∧ ∀ H', Same H H' → Q (.bl true) H'
def spRw : Sp := fun vs H Q _ => ∃ (r : Addr) (e : Z × Int), vs = [.ref r] ∧ RowT H e r ∧ isWord (.str e.1.1) = true ∧ isWord (.str e.1.2) = true ∧ (-99 ≤ e.2 ∧ e.2 ≤ 99) ∧ e.2 ≠ 0 ∧ ∀ H', Same H H' → Q (.bl true) H'
theorem val_of {i : Int} (h : -99 ≤ i ∧ i ≤ 99) : isVal (.int i) = true := by
  show (decide (-99 ≤ i) && decide (i ≤ 99)) = true
  rw [decide_eq_true h.1, decide_eq_true h.2]
  rfl
theorem word_sm {z : Str} (h : isWord (.str z) = true) : sm (.str z) = true := decide_eq_true (Nat.le_trans (word_len h) (by decide))
section
variable {P : Program} {w : World} {K : PySem.W.Frag} {mg : Str → Option Value} {base : Heap}
theorem scMs : FnScope ["value"] ["value"] (defScope sMs) := ⟨rfl, rfl, rfl, by decide +kernel, rfl, by decide +kernel, by decide +kernel⟩
theorem scRw : FnScope ["value", "name", "key", "held"] ["value"] (defScope sRw) := ⟨rfl, rfl, rfl, by decide +kernel, rfl, by decide +kernel, by decide +kernel⟩
theorem ok_ms {f fT fW fV : Addr} {fd fdT fdW fdV : FuncData} (F : Fun K "is_message" "is_message" sMs f fd)
    (GTof : FnOk P w K mg base CX0 1 fT fdT ["value", "length"] (spTof K)) (TTof : DefT K mg "is_tuple_of" fT) (bTof : Binds K fdT ["value", "length"] [])
    (GWord : FnOk P w K mg base CX0 1 fW fdW ["value"] (spWord K)) (TWord : DefT K mg "is_word" fW) (bWord : Binds K fdW ["value"] [])
    (GVal : FnOk P w K mg base CX0 2 fV fdV ["value"] (spVal K)) (TVal : DefT K mg "is_value" fV) (bVal : Binds K fdV ["value"] []) : FnOk P w K mg base CX0 3 f fd ["value"] (spMs K) := by
  refine F.ok scMs (fun vs H Q E h => ?_) (fun cdv A outer s H vs Q E hr h => ?_)
  · obtain ⟨ma, k1, k2, i, rfl, _⟩ := h
    rfl
  · obtain ⟨ma, k1, k2, i, rfl, qm, w1, w2, hv, k⟩ := h
    refine ⟨_, (pss_one (ps_ret (pe_and (pe_call GTof (hr.mono (by decide)) rfl TTof.mg TTof.kp bTof .nil pass0 (pa_cons (pv 0) (pa_cons pe_int pa_nil))) (pe_and (pe_call GWord (hr.mono (by decide)) rfl TWord.mg TWord.kp bWord .nil pass0 (pa_cons (pe_ix ix_tup (pv 0) pe_int (fun _ _ => rfl)) pa_nil)) (pe_and (pe_call GWord (hr.mono (by decide)) rfl TWord.mg TWord.kp bWord .nil pass0 (pa_cons (pe_ix ix_tup (pv 0) pe_int (fun _ _ => rfl)) pa_nil)) (pe_one (pe_call GVal (hr.mono (by decide)) rfl TVal.mg TVal.kp bVal .nil pass0 (pa_cons (pe_ix ix_tup (pv 0) pe_int (fun _ _ => rfl)) pa_nil)))))))), ?_⟩
    have rp : Rp K H (.ref ma) (.tuple [.str k1, .str k2, .int i]) := .tup qm (.cons (.str _) (.cons (.str _) (.cons (.int _) .nil)))
    refine ⟨_, rfl, _, _, 3, rfl, rp, true, rfl, iteT ?_⟩
    refine ⟨_, rfl, ma, _, 0, _, rfl, rfl, qm, atI_nat (j := 0) rfl, _, _, rfl, .str _, word_sm w1, fun H1 s1 => ?_⟩
    rw [w1]
    refine ⟨true, rfl, iteT ?_⟩
    refine ⟨_, rfl, ma, _, 1, _, rfl, rfl, sqT_same s1 qm, atI_nat (j := 1) rfl, _, _, rfl, .str _, word_sm w2, fun H2 s2 => ?_⟩
    rw [w2]
    refine ⟨true, rfl, iteT ?_⟩
    refine ⟨_, rfl, ma, _, 2, _, rfl, rfl, sqT_same (s1.trans s2) qm, atI_nat (j := 2) rfl, _, _, rfl, .int _, ?_⟩
    rw [val_of hv]
    exact k _ (s1.trans s2)
theorem ok_rw {f fT fW fV : Addr} {fd fdT fdW fdV : FuncData} (F : Fun K "is_row" "is_row" sRw f fd)
    (GTof : FnOk P w K mg base CX0 1 fT fdT ["value", "length"] (spTof K)) (TTof : DefT K mg "is_tuple_of" fT) (bTof : Binds K fdT ["value", "length"] [])
    (GWord : FnOk P w K mg base CX0 1 fW fdW ["value"] (spWord K)) (TWord : DefT K mg "is_word" fW) (bWord : Binds K fdW ["value"] [])
    (GVal : FnOk P w K mg base CX0 2 fV fdV ["value"] (spVal K)) (TVal : DefT K mg "is_value" fV) (bVal : Binds K fdV ["value"] []) : FnOk P w K mg base CX0 3 f fd ["value"] spRw := by
  refine F.ok scRw (fun vs H Q E h => ?_) (fun cdv A outer s H vs Q E hr h => ?_)
  · obtain ⟨r, e, rfl, _⟩ := h
    rfl
  · obtain ⟨r, e, rfl, row, w1, w2, hv, nz, k⟩ := h
    refine ⟨_, (pss_cons (ps_if (PW.pt (pw_or (pt_not (pt_val (pe_call GTof (hr.mono (by decide)) rfl TTof.mg TTof.kp bTof .nil pass0 (pa_cons (pv 0) (pa_cons pe_int pa_nil))))) (pw_or1 (pt_not (pt_val (pe_call GTof (hr.mono (by decide)) rfl TTof.mg TTof.kp bTof .nil pass0 (pa_cons (pe_ix ix_tup (pv 0) pe_int (fun _ _ => rfl)) (pa_cons pe_int pa_nil)))))))) (pss_one (ps_ret pe_bl)) pss_nil)
      (pss_cons (ps_asg (pv 0) (pg_tup (by rfl) (pgs_cons (pg_tup (by rfl) (pgs_cons (pg_name (i := 1) scRw.nd rfl (Or.inl rfl)) (pgs_cons (pg_name (i := 2) scRw.nd rfl (Or.inl rfl)) pgs_nil))) (pgs_cons (pg_name (i := 3) scRw.nd rfl (Or.inl rfl)) pgs_nil))))
      (pss_one (ps_ret (pe_and (pe_call GWord (hr.mono (by decide)) rfl TWord.mg TWord.kp bWord .nil pass0 (pa_cons (pv 1) pa_nil)) (pe_and (pe_call GWord (hr.mono (by decide)) rfl TWord.mg TWord.kp bWord .nil pass0 (pa_cons (pv 2) pa_nil)) (pe_and (pe_call GVal (hr.mono (by decide)) rfl TVal.mg TVal.kp bVal .nil pass0 (pa_cons (pv 3) pa_nil)) (pe_one (pe_cmpR op_ne (pv 3) pe_int (nomark _)))))))))), ?_⟩
    have rp : Rp K H (.ref r) (rowD e) := rp_row row
    obtain ⟨c, e1, e2⟩ := row
    refine ⟨_, rfl, _, _, 2, rfl, rp, true, rfl, iteF ?_⟩
    refine ⟨_, rfl, r, _, 0, _, rfl, rfl, SqT.of e1, atI_nat (j := 0) rfl, _, _, 2, rfl, .tup (SqT.of e2) (.cons (.str _) (.cons (.str _) .nil)), true, rfl, iteF ?_⟩
    refine ⟨_, rfl, r, _, rfl, SqT.of e1, rfl, _, _, rfl, c, _, rfl, SqT.of e2, rfl, _, _, rfl, _, _, rfl, rfl, _, _, rfl, rfl, ?_⟩
    refine ⟨_, rfl, _, _, rfl, .str _, word_sm w1, fun H1 s1 => ?_⟩
    rw [w1]
    refine ⟨true, rfl, iteT ?_⟩
    refine ⟨_, rfl, _, _, rfl, .str _, word_sm w2, fun H2 s2 => ?_⟩
    rw [w2]
    refine ⟨true, rfl, iteT ?_⟩
    refine ⟨_, rfl, _, _, rfl, .int _, ?_⟩
    rw [val_of hv]
    refine ⟨true, rfl, iteT ?_⟩
    refine ⟨_, rfl, rfl, ?_⟩
    have e : (!decide (V.int e.2 = V.int 0)) = true := by simpa using nz
    rw [e]
    exact k _ (s1.trans s2)
end
end Hd

set_option Elab.async false
set_option linter.all false
set_option maxRecDepth 100000
set_option maxHeartbeats 8000000
namespace Hd
open PySem L2 Pen RG Dat KEq
abbrev sRs : Stmt := top 14
theorem cut_from1 {xs : List V} {i : Nat} : cutV xs (some (i : Int)) none = xs.drop i := by
  unfold cutV
  rw [HT.sIx_none, HT.sIx_nat]
  by_cases h : i ≤ xs.length
  · rw [Nat.min_eq_left h]
    exact List.take_of_length_le (by rw [List.length_drop]; exact Nat.le_refl _)
  · rw [Nat.min_eq_right (by omega), List.drop_length, List.drop_eq_nil_of_le (by omega)]
    exact List.take_nil
/-- over zip(p, q), q no longer than p -/
theorem lc_zip {K : PySem.W.Frag} {a b : Addr} {xs ys : List V} {g : TG} {tt : TT} {te : TE} {vs : List Nat} {σ : L2.St} {H1 : Hp} {D : Addr} {Qd : Hp → Prop} (le : ys.length ≤ xs.length) (Pv : Nat → Hp → Prop) (h0 : Pv 0 (upd H1 D (.lst []))) (hl : ∀ i H, i ≤ ys.length → Pv i H → SqL K H a xs ∧ SqL K H b ys)
    (hs : ∀ i x y H t, xs[i]? = some x → ys[i]? = some y → Pv i H → H t = none → g (.ref t) (wipe σ vs) (upd H t (.tup [x, y])) fun σ2 H2 => wipe σ2 vs = wipe σ vs ∧ tt σ2 H2 fun b H3 =>
      if b = true then te σ2 H3 fun y H4 => ∃ acc, H4 D = some (.lst acc) ∧ acc.length < sizeLine ∧ Pv (i + 1) (upd H4 D (.lst (acc ++ [y]))) else Pv (i + 1) H3) (hd : ∀ H, Pv ys.length H → Qd H) :
    ∃ W : Nat → Nat → Hp → Prop, (∃ m, W 0 m (upd H1 D (.lst []))) ∧ ∀ i m H, W i m H →
      ((Itz K a b).stop i H ∧ Qd H) ∨ ((Itz K a b).go i H ∧ ∃ Nx : Hp → Prop, (∀ H', Nx H' → ∃ m', m' < m ∧ W (i + 1) m' H') ∧ ∀ x H', (Itz K a b).yld i H x H' → g x (wipe σ vs) H' fun σ2 H2 => wipe σ2 vs = wipe σ vs ∧ tt σ2 H2 fun b H3 =>
        if b = true then te σ2 H3 fun y H4 => ∃ acc, H4 D = some (.lst acc) ∧ acc.length < sizeLine ∧ Nx (upd H4 D (.lst (acc ++ [y]))) else Nx H3) := by
  refine ⟨fun i m H => m = ys.length - i ∧ i ≤ ys.length ∧ Pv i H, ⟨ys.length, by simp, Nat.zero_le _, h0⟩, ?_⟩
  rintro i m H ⟨rfl, hi, p⟩
  obtain ⟨q1, q2⟩ := hl i H hi p
  by_cases hlt : i < ys.length
  · have hlx : i < xs.length := Nat.lt_of_lt_of_le hlt le
    refine .inr ⟨⟨xs, ys, xs[i], ys[i], q1, q2, by simp [hlx], by simp [hlt]⟩, Pv (i + 1), fun H' p' => ⟨ys.length - (i + 1), by omega, rfl, hlt, p'⟩, fun x H' y => ?_⟩
    obtain ⟨t, x1, y1, rfl, nt, rfl, e1, e2⟩ := y
    exact hs i x1 y1 H t (e1 xs q1) (e2 ys q2) p nt
  · have e : i = ys.length := by omega
    subst e
    exact .inl ⟨⟨xs, ys, q1, q2, .inr (Nat.le_refl _)⟩, hd H p⟩
abbrev rowsD (L : List (Z × Int)) : PyData := .tuple (L.map rowD)
theorem rp_rowsAll {K : PySem.W.Frag} {H : Hp} : ∀ {L : List (Z × Int)} {ts : List Addr}, Paired (RowT H) L ts → RpAll K H (ts.map V.ref) (L.map rowD)
  | _, _, .nil => .nil
  | _, _, .cons x r => .cons (rp_row x) (rp_rowsAll r)
theorem rp_rows {K : PySem.W.Frag} {H : Hp} {L : List (Z × Int)} {r : Addr} (x : RowsAt H r L) : Rp K H (.ref r) (rowsD L) := by
  obtain ⟨ts, tf, pr⟩ := x
  exact .tup tf.sq (rp_rowsAll pr)
/-- the rows L at r, a tuple -/
def RowsQ (K : PySem.W.Frag) (H : Hp) (r : Addr) (L : List (Z × Int)) : Prop := ∃ ts : List Addr, SqT K H r (ts.map V.ref) ∧ Paired (RowT H) L ts
theorem RowsQ.same {K : PySem.W.Frag} {H G : Hp} {r : Addr} {L : List (Z × Int)} (s : Same H G) (x : RowsQ K H r L) : RowsQ K G r L := by
  obtain ⟨ts, a, p⟩ := x
  exact ⟨ts, sqT_same s a, rows_same s p⟩
theorem RowsAt.q {K : PySem.W.Frag} {H : Hp} {r : Addr} {L : List (Z × Int)} (x : RowsAt H r L) : RowsQ K H r L := by
  obtain ⟨ts, a, p⟩ := x
  exact ⟨ts, a.sq, p⟩
def KeyT (H : Hp) (e : Z × Int) (c : Addr) : Prop := H c = some (.tup [.str e.1.1, .str e.1.2])
def spRs (K : PySem.W.Frag) : Sp := fun vs H Q _ => ∃ (r : Addr) (L : List (Z × Int)), vs = [.ref r] ∧ RowsQ K H r L ∧ RowsOk L ∧ L.length ≤ 900 ∧ ∀ H', Same H H' → Q (.bl true) H'
section
variable {P : Program} {w : World} {K : PySem.W.Frag} {mg : Str → Option Value} {base : Heap}
theorem scRs : FnScope ["value", "places", "row", "one", "other"] ["value"] (defScope sRs) := ⟨rfl, rfl, rfl, by decide +kernel, rfl, by decide +kernel, by decide +kernel⟩
theorem ok_rs {f fR : Addr} {fd fdR : FuncData} (F : Fun K "is_rows" "is_rows" sRs f fd) (T : TxtH mg) (TZ : mg "zip" = none)
    (GRw : FnOk P w K mg base CX0 3 fR fdR ["value"] spRw) (TRw : DefT K mg "is_row" fR) (bRw : Binds K fdR ["value"] []) : FnOk P w K mg base CX0 4 f fd ["value"] (spRs K) := by
  refine F.ok scRs (fun vs H Q E h => ?_) (fun cdv A outer s H vs Q E hr h => ?_)
  · obtain ⟨r, L, rfl, _⟩ := h
    rfl
  · obtain ⟨r, L, rfl, rows, rok, ll, k⟩ := h
    have hu := hu_of hr
    refine ⟨_, (pss_cons (ps_if (PW.pt (pw_or (pt_not (pt_val (pe_callB call_isi (by rfl) T.isinstance (by decide +kernel) (pa_cons (pv 0) (pa_cons (pe_bltn (v := V.ty "tuple") (by rfl) T.tuple (by decide +kernel) rfl) pa_nil))))) (pw_or1 (pt_not (pt_val (pe_callB (cr_all rfl) (by rfl) T.all (by decide +kernel) (pa_cons (pe_lc (own := [("row", 2)]) (g := gName 2) (tt := tYes) (te := (tCall spRw [] E0 (tCons (tVar 2) tNil))) rfl scRs.nd (pi_tup (pv 0)) (blkOk_by (N := ["value", "places", "row", "one", "other"]) (sc := defScope sRs) (by decide +kernel)) (fun _ _ _ _ _ => by exact (pg_name (i := 2) scRs.nd rfl (Or.inl rfl))) (fun _ _ _ _ _ => by exact pts_nil) (fun _ _ _ _ _ => by exact (pe_call GRw (hr.mono (by decide)) rfl TRw.mg TRw.kp bRw .nil pass0 (pa_cons (pv 2) pa_nil)))) pa_nil))))))) (pss_one (ps_ret pe_bl)) pss_nil)
      (pss_cons (ps_setLc (i := 1) (own := [("row", 2)]) (g := gName 2) (tt := tYes) (te := (tOp (rIxT K) (tVar 2) (tC (.int 0)))) rfl scRs.nd rfl rfl (by rfl) (pi_tup (pv 0)) (blkOk_by (N := ["value", "places", "row", "one", "other"]) (sc := defScope sRs) (by decide +kernel)) (fun _ _ _ _ _ => by exact (pg_name (i := 2) scRs.nd rfl (Or.inl rfl))) (fun _ _ _ _ _ => by exact pts_nil) (fun _ _ _ _ _ => by exact (pe_ix ix_tup (pv 2) pe_int (fun _ _ => rfl))))
      (pss_one (ps_ret (pe_callB (cr_all rfl) (by rfl) T.all (by decide +kernel) (pa_cons (pe_lc (own := [("one", 3), ("other", 4)]) (g := gTup K 2 (gCons (gName 3) (gCons (gName 4) gNil))) (tt := tYes) (te := (tOp (KSrt.rLt2 K) (tVar 3) (tVar 4))) rfl scRs.nd (pi_zip (by rfl) TZ (pa_cons (pv 1) (pa_cons (pe_slice sl_list (pv 1) (po_some pe_int) po_none) pa_nil))) (blkOk_by (N := ["value", "places", "row", "one", "other"]) (sc := defScope sRs) (by decide +kernel)) (fun _ _ _ _ _ => by exact (pg_tup (by rfl) (pgs_cons (pg_name (i := 3) scRs.nd rfl (Or.inl rfl)) (pgs_cons (pg_name (i := 4) scRs.nd rfl (Or.inl rfl)) pgs_nil)))) (fun _ _ _ _ _ => by exact pts_nil) (fun _ _ _ _ _ => by exact (pe_cmpR (KSrt.op_lt2 (Nat.lt_of_succ_lt hu)) (pv 3) (pv 4) (nomark _)))) pa_nil)))))), ?_⟩
    obtain ⟨ts, tf, pr⟩ := rows
    have rp : Rp K H (.ref r) (rowsD L) := .tup tf (rp_rowsAll pr)
    have len : L.length = ts.length := paired_length pr
    have sq := tf
    refine ⟨_, rfl, .ref r, .ty "tuple", _, _, _, rfl, .ty _, rp_ty rp, kit_tup _, _, rfl, ite2 (fun h1 => absurd (show false = true from h1) (by decide)) (fun _ => ?_)⟩
    refine ⟨_, rfl, r, rfl, ⟨_, sq⟩, fun D hD => lc_tup (xs := ts.map V.ref) (fun i G => G D = some (.lst ((List.replicate i true).map V.bl)) ∧ Same H G) ⟨upd_same, same_new hD⟩ (fun i G _ h => sqT_same h.2 sq) (fun i x G hx h => ?_) (fun G h => ?_)⟩
    · obtain ⟨e, s1⟩ := h
      obtain ⟨c, hc, rfl⟩ : ∃ c, ts[i]? = some c ∧ V.ref c = x := by
        rw [List.getElem?_map] at hx
        obtain ⟨c, a, b⟩ := Option.map_eq_some_iff.mp hx
        exact ⟨c, a, b⟩
      obtain ⟨e0, he, row⟩ := pget pr hc
      have m := List.mem_of_getElem? he
      have ilt : i < 900 := by
        have := (List.getElem?_eq_some_iff.mp he).1
        omega
      obtain ⟨w1, w2, v0, v1⟩ := rok.ok e0 m
      refine ⟨rfl, ?_⟩
      unfold tYes
      simp only [↓reduceIte]
      refine ⟨_, rfl, c, e0, rfl, RowT.same s1 row, w1, w2, ⟨v0, v1⟩, rok.nz e0 m, fun G2 s2 => ⟨_, s2 _ _ e, ?_, ?_, fun b o q => ?_⟩⟩
      · rw [List.length_map, List.length_replicate]
        exact Nat.lt_trans ilt (by decide)
      · rw [upd_same, List.replicate_succ', List.map_append]
        rfl
      · rw [upd_ne (ne_of_none q hD)]
        exact s2 _ _ (s1 _ _ q)
    obtain ⟨eD, s1⟩ := h
    refine ⟨D, _, rfl, SqL.of eD, ?_⟩
    rw [show ∀ n, (List.replicate n true).all id = true from fun n => by simp]
    refine ⟨true, rfl, iteF ?_⟩
    refine ⟨_, rfl, r, rfl, ⟨_, sqT_same s1 sq⟩, fun D2 hD2 => lc_tup (xs := ts.map V.ref) (fun i G2 => ∃ cs : List Addr, G2 D2 = some (.lst (cs.map V.ref)) ∧ Paired (KeyT H) (L.take i) cs ∧ Same G G2) ⟨[], upd_same, .nil, same_new hD2⟩ (fun i G2 _ h => by
      obtain ⟨_, _, _, s2⟩ := h
      exact sqT_same (s1.trans s2) sq) (fun i x G2 hx h => ?_) (fun G2 h => ?_)⟩
    · obtain ⟨cs, e, pk, s2⟩ := h
      obtain ⟨t, ht, rfl⟩ : ∃ c, ts[i]? = some c ∧ V.ref c = x := by
        rw [List.getElem?_map] at hx
        obtain ⟨c, a, b⟩ := Option.map_eq_some_iff.mp hx
        exact ⟨c, a, b⟩
      obtain ⟨e0, he, c, r1, r2⟩ := pget pr ht
      refine ⟨rfl, ?_⟩
      unfold tYes
      simp only [↓reduceIte]
      refine ⟨_, rfl, t, _, 0, .ref c, rfl, rfl, SqT.of (s2 _ _ (s1 _ _ r1)), atI_nat (j := 0) rfl, _, e, ?_, cs ++ [c], ?_, ?_, fun b o q => ?_⟩
      · have q := paired_length pk
        rw [List.length_map, ← q, List.length_take]
        exact Nat.lt_of_le_of_lt (show min i L.length ≤ 900 by omega) (by decide)
      · rw [upd_same, List.map_append]
        rfl
      · rw [take_more he]
        exact paired_snoc (F := KeyT H) r2 pk
      · rw [upd_ne (ne_of_none q hD2)]
        exact s2 _ _ q
    obtain ⟨cs, e, pk, s2⟩ := h
    rw [List.length_map, ← len, List.take_length] at pk
    have lc := paired_length pk
    refine ⟨_, rfl, _, rfl, 1, rfl, D2, _, rfl, SqL.of e, fun p np => ?_⟩
    have ec : cutV (cs.map V.ref) (some 1) none = (cs.map V.ref).drop 1 := cut_from1 (i := 1)
    rw [ec]
    have s3 : Same G2 (upd G2 p (.lst ((cs.map V.ref).drop 1))) := same_new np
    refine ⟨D2, p, _, _, rfl, SqL.of (s3 _ _ e), SqL.of upd_same, fun D3 hD3 => ?_⟩
    have s4 := (s1.trans s2).trans s3
    refine lc_zip (a := D2) (b := p) (xs := cs.map V.ref) (ys := (cs.map V.ref).drop 1) (by rw [List.length_drop]; omega) (fun i G3 => G3 D3 = some (.lst ((List.replicate i true).map V.bl)) ∧ Same (upd G2 p (.lst ((cs.map V.ref).drop 1))) G3) ⟨upd_same, same_new hD3⟩ (fun i G3 _ h => ⟨SqL.of (h.2 _ _ (s3 _ _ e)), SqL.of (h.2 _ _ upd_same)⟩) (fun i x y G3 t hx hy h nt => ?_) (fun G3 h => ?_)
    · obtain ⟨c1, h1, rfl⟩ : ∃ c, cs[i]? = some c ∧ V.ref c = x := by
        rw [List.getElem?_map] at hx
        obtain ⟨c, a, b⟩ := Option.map_eq_some_iff.mp hx
        exact ⟨c, a, b⟩
      obtain ⟨c2, h2, rfl⟩ : ∃ c, cs[1 + i]? = some c ∧ V.ref c = y := by
        rw [List.getElem?_drop, List.getElem?_map] at hy
        obtain ⟨c, a, b⟩ := Option.map_eq_some_iff.mp hy
        exact ⟨c, a, b⟩
      obtain ⟨e1, he1, k1⟩ := pget pk h1
      obtain ⟨e2, he2, k2⟩ := pget pk h2
      have lt : KSrt.lt2 e1.1 e2.1 = true := by
        obtain ⟨l1, q1⟩ := List.getElem?_eq_some_iff.mp he1
        obtain ⟨l2, q2⟩ := List.getElem?_eq_some_iff.mp he2
        have := List.pairwise_iff_getElem.mp rok.up i (1 + i) l1 l2 (by omega)
        rw [q1, q2] at this
        exact this
      have ilt : i < 900 := by
        have := (List.getElem?_eq_some_iff.mp he1).1
        omega
      have s5 : Same H (upd G3 t (.tup [.ref c1, .ref c2])) := (s4.trans h.2).trans (same_new nt)
      refine ⟨t, _, rfl, SqT.of upd_same, rfl, _, _, rfl, _, _, rfl, rfl, rfl, ?_⟩
      unfold tYes
      simp only [↓reduceIte]
      refine ⟨_, rfl, _, rfl, c1, c2, e1.1, e2.1, rfl, rfl, SqT.of (s5 _ _ k1), SqT.of (s5 _ _ k2), _, same_new nt _ _ h.1, ?_, ?_, fun b o q => ?_⟩
      · rw [List.length_map, List.length_replicate]
        exact Nat.lt_trans ilt (by decide)
      · rw [upd_same, lt, List.replicate_succ', List.map_append]
        rfl
      · rw [upd_ne (ne_of_none q hD3)]
        exact same_new nt _ _ (h.2 _ _ q)
    · obtain ⟨eD, s6⟩ := h
      refine ⟨D3, _, rfl, SqL.of eD, ?_⟩
      rw [show ∀ n, (List.replicate n true).all id = true from fun n => by simp]
      exact k _ (s4.trans s6)
end
end Hd

set_option Elab.async false
set_option linter.all false
set_option maxRecDepth 100000
set_option maxHeartbeats 8000000
namespace Hd
open PySem L2 Pen RG Dat KEq
abbrev sCb : Stmt := top 16
theorem cl_mm (i : Int) : (if (if i < 99 then i else 99) > -99 then (if i < 99 then i else 99) else -99) = cl i := by
  unfold cl
  by_cases h1 : i > 99
  · rw [if_pos h1, if_neg (show ¬ i < 99 by omega)]
    rfl
  · rw [if_neg h1]
    by_cases h2 : i < -99
    · rw [if_pos h2, if_pos (show i < 99 by omega), if_neg (show ¬ i > -99 by omega)]
    · rw [if_neg h2]
      by_cases h3 : i < 99
      · rw [if_pos h3]
        by_cases h4 : i > -99
        · rw [if_pos h4]
        · rw [if_neg h4]
          omega
      · rw [if_neg h3]
        show (99 : Int) = i
        omega
def spCb (K : PySem.W.Frag) : Sp := fun vs H Q _ => ∃ (v : V) (hh : PyData) (a b : Int), vs = [v, .int a, .int b] ∧ Rp K H v hh ∧ (-99 ≤ a ∧ a ≤ 99) ∧ (-99 ≤ b ∧ b ≤ 99) ∧ Q (.int (cl (opE hh a b))) H
section
variable {P : Program} {w : World} {K : PySem.W.Frag} {mg : Str → Option Value} {base : Heap}
theorem scCb : FnScope ["sign", "left", "right", "result"] ["sign", "left", "right"] (defScope sCb) := ⟨rfl, rfl, rfl, by decide +kernel, rfl, by decide +kernel, by decide +kernel⟩
theorem ok_cb {f : Addr} {fd : FuncData} (F : Fun K "combined" "combined" sCb f fd) (T : TxtH mg) (Tmin : mg "min" = none) (Tmax : mg "max" = none) : FnOk P w K mg base CX0 1 f fd ["sign", "left", "right"] (spCb K) := by
  refine F.ok scCb (fun vs H Q E h => ?_) (fun cdv A outer s H vs Q E hr h => ?_)
  · obtain ⟨v, hh, a, b, rfl, _⟩ := h
    rfl
  · obtain ⟨v, hh, a, b, rfl, rp, ⟨a0, a1⟩, ⟨b0, b1⟩, k⟩ := h
    have hu := hu_of hr
    refine ⟨_, (pss_cons (ps_if (pt_cmpR (KEq.op_eqS hu) (pv 0) pe_str (nomark _)) (pss_one (ps_set (i := 3) scCb.nd rfl (Or.inl rfl) (pe_op op_add (pv 1) (pv 2)))) (pss_one (ps_if (pt_cmpR (KEq.op_eqS hu) (pv 0) pe_str (nomark _)) (pss_one (ps_set (i := 3) scCb.nd rfl (Or.inl rfl) (pe_op op_sub (pv 1) (pv 2)))) (pss_one (ps_set (i := 3) scCb.nd rfl (Or.inl rfl) (pe_op op_mul (pv 1) (pv 2)))))))
      (pss_one (ps_ret (pe_callB (call_max2 rfl) (by rfl) Tmax (by decide +kernel) (pa_cons (pe_un un_neg (pe_glob (v := V.int 99) (by rfl) T.BOUND.choose_spec ⟨_, rfl⟩)) (pa_cons (pe_callB (call_min2 rfl) (by rfl) Tmin (by decide +kernel) (pa_cons (pe_glob (v := V.int 99) (by rfl) T.BOUND.choose_spec ⟨_, rfl⟩) (pa_cons (pv 3) pa_nil))) pa_nil)))))), ?_⟩
    unfold opE at k
    refine ⟨_, rfl, hh, _, rp, rfl, _, rfl, ite2 (fun i1 => ?_) (fun i1 => ?_)⟩
    · rw [if_pos i1] at k
      refine ⟨_, rfl, _, rfl, _, _, rfl, rfl, ?_⟩
      refine ⟨_, rfl, _, rfl, _, _, rfl, _, _, rfl, ?_⟩
      rw [← cl_mm] at k
      exact k
    rw [if_neg i1] at k
    refine ⟨_, rfl, hh, _, rp, rfl, _, rfl, ite2 (fun i2 => ?_) (fun i2 => ?_)⟩
    · rw [if_pos i2] at k
      refine ⟨_, rfl, _, rfl, _, _, rfl, rfl, ?_⟩
      refine ⟨_, rfl, _, rfl, _, _, rfl, _, _, rfl, ?_⟩
      rw [← cl_mm] at k
      exact k
    · rw [if_neg i2] at k
      refine ⟨_, rfl, _, rfl, _, _, rfl, rfl, .inl ⟨by omega, by omega⟩, ?_⟩
      refine ⟨_, rfl, _, rfl, _, _, rfl, _, _, rfl, ?_⟩
      rw [← cl_mm] at k
      exact k
end
end Hd

set_option Elab.async false
set_option linter.all false
set_option maxRecDepth 100000
set_option maxHeartbeats 8000000
namespace Hd
open PySem L2 Pen RG Dat KEq
/-- a statement of a class's body -/
def inCl : Stmt → Nat → Stmt
  | .ClassDef _ _ _ b .., j => b.getD j (.Pass default)
  | s, _ => s
abbrev cRun : Stmt := top 17
abbrev sRe : Stmt := inCl cRun 3
/-- the class Run -/
structure RunC (K : PySem.W.Frag) (C : Addr) : Prop where
  cls : Cls K C
  key : NoAttr K C "key"
  body : NoAttr K C "body"
  table : NoAttr K C "table"
  sends : NoAttr K C "sends"
  failed : NoAttr K C "failed"
  reads : NoAttr K C "reads"
  writes : NoAttr K C "writes"
abbrev mrk (z : Z) : List L2.Key × V := (kp z, .bl true)
def mput (R : List Z) (z : Z) : List Z := if z ∈ R then R else R ++ [z]
theorem mput_len (R : List Z) (z : Z) : (mput R z).length ≤ R.length + 1 := by
  unfold mput
  split
  · omega
  · rw [List.length_append, List.length_singleton]
    exact Nat.le_refl _
theorem mput_nodup {R : List Z} {z : Z} (h : R.Nodup) : (mput R z).Nodup := by
  unfold mput
  split
  · exact h
  · next q =>
    rw [List.nodup_append]
    refine ⟨h, List.nodup_cons.mpr ⟨List.not_mem_nil, List.nodup_nil⟩, fun a ha b hb e => ?_⟩
    rw [List.mem_singleton] at hb
    rw [e, hb] at ha
    exact q ha
theorem val_mrk : ∀ (R : List Z) (z : Z), valV (R.map mrk) (kp z) = if z ∈ R then some (.bl true) else none
  | [], z => rfl
  | x :: R, z => by
    by_cases h : x = z
    · rw [List.map_cons, valV_pos (show (mrk x).1 = kp z by rw [← h]), if_pos (by rw [h]; exact List.mem_cons_self)]
    · rw [List.map_cons, valV_neg (fun y => h (kp_inj y)), val_mrk R z]
      by_cases q : z ∈ R
      · rw [if_pos q, if_pos (List.mem_cons_of_mem _ q)]
      · rw [if_neg q, if_neg (fun y => (List.mem_cons.mp y).elim (fun e => h e.symm) q)]
theorem put_mrk (R : List Z) (z : Z) : putK (R.map mrk) (kp z) (.bl true) = (mput R z).map mrk := by
  unfold putK mput
  rw [valV_any, val_mrk]
  by_cases h : z ∈ R
  · rw [if_pos h, if_pos h, Option.isSome_some, if_pos rfl, List.map_map]
    refine List.map_congr_left fun x _ => ?_
    show (if kp x = kp z then (kp x, V.bl true) else mrk x) = mrk x
    split <;> rfl
  · rw [if_neg h, if_neg h, Option.isSome_none, if_neg (by decide), List.map_append]
    rfl
/-- a run under way: the object at o, its table at d, what is sent at sl, what is read at rd, written at wd -/
structure RunS (C : Addr) (H : Hp) (o d sl rd wd : Addr) (key : Str) (body : Int) (fb : Bool) (st : Sta) (R W : List Z) : Prop where
  obj : ∃ dx, H o = some (.ins C dx [("key", .str key), ("body", .int body), ("table", .ref d), ("sends", .ref sl), ("failed", .bl fb), ("reads", .ref rd), ("writes", .ref wd)])
  sta : StAt H d sl st
  rds : H rd = some (.dT (R.map mrk))
  wds : H wd = some (.dT (W.map mrk))
  nR : R.Nodup
  nW : W.Nodup
  d1 : d ≠ rd
  d2 : d ≠ wd
  d3 : rd ≠ wd
/-- the fields of a run, read -/
theorem RunS.fresh {C : Addr} {H H' : Hp} {o d sl rd wd : Addr} {key : Str} {body : Int} {fb : Bool} {st : Sta} {R W : List Z} (x : RunS C H o d sl rd wd key body fb st R W) (s : Same H H') : RunS C H' o d sl rd wd key body fb st R W := by
  obtain ⟨⟨dx, a⟩, b, c, e, f, g, h, i, j⟩ := x
  exact ⟨⟨dx, s _ _ a⟩, b.same s, s _ _ c, s _ _ e, f, g, h, i, j⟩
theorem RunS.or {C : Addr} {H : Hp} {o d sl rd wd : Addr} {key : Str} {body : Int} {fb : Bool} {st : Sta} {R W : List Z} (x : RunS C H o d sl rd wd key body fb st R W) : o ≠ rd := by
  obtain ⟨⟨dx, a⟩, b, c, e, f, g, h, i, j⟩ := x
  exact ne_of a c (by intro z; cases z)
theorem RunS.slr {C : Addr} {H : Hp} {o d sl rd wd : Addr} {key : Str} {body : Int} {fb : Bool} {st : Sta} {R W : List Z} (x : RunS C H o d sl rd wd key body fb st R W) : sl ≠ rd := by
  obtain ⟨⟨dx, a⟩, ⟨b1, b2, b3, ts, b4, b5⟩, c, e, f, g, h, i, j⟩ := x
  exact ne_of b4 c (by intro z; cases z)
theorem RunS.putR {C : Addr} {H : Hp} {o d sl rd wd : Addr} {key : Str} {body : Int} {fb : Bool} {st : Sta} {R W : List Z} {z : Z} (x : RunS C H o d sl rd wd key body fb st R W) : RunS C (upd H rd (.dT ((mput R z).map mrk))) o d sl rd wd key body fb st (mput R z) W := by
  have n1 := x.or
  have n2 := x.slr
  have sy : SameY rd rd H (upd H rd (.dT ((mput R z).map mrk))) := fun a o h1 _ h => (upd_ne h1).trans h
  obtain ⟨⟨dx, a⟩, ⟨b1, b2, b3, ts, b4, b5⟩, c, e, f, g, h, i, j⟩ := x
  exact ⟨⟨dx, (upd_ne n1).trans a⟩, ⟨(upd_ne h).trans b1, b2, b3, ts, (upd_ne n2).trans b4, snds_y sy c noT_dT c noT_dT b5⟩, upd_same, (upd_ne j.symm).trans e, mput_nodup f, g, h, i, j⟩
def spRe (C : Addr) : Sp := fun vs H Q _ => ∃ (o d sl rd wd pl : Addr) (key : Str) (body : Int) (fb : Bool) (st : Sta) (R W : List Z) (z : Z), vs = [.ref o, .ref pl] ∧ RunS C H o d sl rd wd key body fb st R W ∧ H pl = some (.tup [.str z.1, .str z.2]) ∧ R.length < 500000 ∧
  ∀ R' H', RunS C H' o d sl rd wd key body fb st R' W → R'.length ≤ R.length + 1 → SameX rd H H' → Q (.int ((lk st.t z).getD 0)) H'
section
variable {P : Program} {w : World} {K : PySem.W.Frag} {mg : Str → Option Value} {base : Heap}
theorem scRe : FnScope ["self", "place"] ["self", "place"] (defScope sRe) := ⟨rfl, rfl, rfl, by decide +kernel, rfl, by decide +kernel, by decide +kernel⟩
theorem ok_re {f C : Addr} {fd : FuncData} (F : Fun K "read" "Run.read" sRe f fd) (c : RunC K C) : FnOk P w K mg base CX0 1 f fd ["self", "place"] (spRe C) := by
  refine F.ok scRe (fun vs H Q E h => ?_) (fun cdv A outer s H vs Q E hr h => ?_)
  · obtain ⟨o, d, sl, rd, wd, pl, key, body, fb, st, R, W, z, rfl, _⟩ := h
    rfl
  · obtain ⟨o, d, sl, rd, wd, pl, key, body, fb, st, R, W, z, rfl, S, hp, hR, k⟩ := h
    have hu := hu_of hr
    refine ⟨_, (pss_cons (ps_if (pt_cmp (pc_dnotin hu (pv 1) (pe_fld (pv 0) (by rfl)))) (pss_one (ps_dput hu (pe_fld (pv 0) (by rfl)) (pv 1) pe_bl rfl)) pss_nil)
      (pss_one (ps_ret (pe_dget2 hu (pe_fld (pv 0) (by rfl)) (pv 1) pe_int ⟨by rfl, by rfl, by rfl, by rfl⟩)))), ?_⟩
    obtain ⟨dx, ob⟩ := S.obj
    have gw : DGet H wd (.ref pl) (if z ∈ W then some (.bl true) else none) := by
      have q := DGet.t (k := kp z) S.wds hp
      rw [val_mrk] at q
      exact q
    have tail : ∀ (G : Hp) (R' : List Z), RunS C G o d sl rd wd key body fb st R' W → G pl = some (.tup [.str z.1, .str z.2]) → R'.length ≤ R.length + 1 → SameX rd H G →
        DGet G d (.ref pl) ((lk st.t z).map V.int) ∧ Q (((lk st.t z).map V.int).getD (.int 0)) G := by
      intro G R' S' hp' hl sx
      constructor
      · have q := DGet.t (k := kp z) S'.sta.tab hp'
        rw [val_ent] at q
        exact q
      · have e : ((lk st.t z).map V.int).getD (.int 0) = .int ((lk st.t z).getD 0) := by cases lk st.t z <;> rfl
        rw [e]
        exact k R' G S' hl sx
    refine ⟨_, rfl, _, rfl, o, C, dx, _, .ref wd, rfl, ob, c.cls, c.writes, rfl, wd, _, rfl, gw, _, rfl, ite2 (fun h1 => ?_) (fun h1 => ?_)⟩
    · have nw : z ∉ W := fun m => by
        rw [if_pos m] at h1
        cases h1
      have pd : DPut H rd (.ref pl) (.bl true) (upd H rd (.dT ((mput R z).map mrk))) := by
        have g := DPut.t (k := kp z) (v := .bl true) S.rds hp (by rw [List.length_map]; exact Nat.lt_trans hR (by decide))
        rw [put_mrk] at g
        exact g
      refine ⟨_, rfl, o, C, dx, _, .ref rd, rfl, ob, c.cls, c.reads, rfl, _, rfl, rd, _, rfl, pd, ?_⟩
      have S2 := S.putR (z := z)
      obtain ⟨dx2, ob2⟩ := S2.obj
      have nprd : pl ≠ rd := ne_of hp S.rds (by intro y; cases y)
      obtain ⟨t1, t2⟩ := tail _ _ S2 ((upd_ne nprd).trans hp) (mput_len R z) (fun a oo n h => (upd_ne n).trans h)
      exact ⟨_, rfl, o, C, dx2, _, .ref d, rfl, ob2, c.cls, c.table, rfl, d, rfl, .inr ⟨_, .inl S2.sta.tab⟩, _, rfl, _, t1, t2⟩
    · obtain ⟨t1, t2⟩ := tail H R S hp (Nat.le_succ _) SameX.refl
      exact ⟨_, rfl, o, C, dx, _, .ref d, rfl, ob, c.cls, c.table, rfl, d, rfl, .inr ⟨_, .inl S.sta.tab⟩, _, rfl, _, t1, t2⟩
end
end Hd

set_option Elab.async false
set_option linter.all false
set_option maxRecDepth 100000
set_option maxHeartbeats 8000000
namespace Hd
open PySem L2 Pen RG Dat KEq
abbrev sWo : Stmt := inCl cRun 4
def spWo (K : PySem.W.Frag) (C : Addr) (m : Nat) : Sp := fun vs H Q _ => ∃ (o d sl rd wd : Addr) (key : Str) (body : Int) (fb : Bool) (st : Sta) (R W : List Z) (v : V) (dd : PyData) (j : Nat), vs = [.ref o, v] ∧ j < m ∧ RunS C H o d sl rd wd key body fb st R W ∧ Rp K (delp rd H) v dd ∧ isE j dd = true ∧ R.length + 2 ^ j < 500000 ∧ (-99 ≤ body ∧ body ≤ 99) ∧
  ∀ R' H', RunS C H' o d sl rd wd key body fb st R' W → R'.length ≤ R.length + 2 ^ j → SameX rd H H' → Q (.int (evE st.t key body j dd)) H'
section
variable {P : Program} {w : World} {K : PySem.W.Frag} {mg : Str → Option Value} {base : Heap}
theorem scWo : FnScope ["self", "expression", "head"] ["self", "expression"] (defScope sWo) := ⟨rfl, rfl, rfl, by decide +kernel, rfl, by decide +kernel, by decide +kernel⟩
theorem ok_wo {f C fRe fCb : Addr} {fd fdRe fdCb : FuncData} (F : Fun K "worth" "Run.worth" sWo f fd) (c : RunC K C) (mWo : Meth K C "worth" f) (bWo : Binds K fd ["self", "expression"] [])
    (GRe : FnOk P w K mg base CX0 1 fRe fdRe ["self", "place"] (spRe C)) (mRe : Meth K C "read" fRe) (bRe : Binds K fdRe ["self", "place"] [])
    (GCb : FnOk P w K mg base CX0 1 fCb fdCb ["sign", "left", "right"] (spCb K)) (TCb : DefT K mg "combined" fCb) (bCb : Binds K fdCb ["sign", "left", "right"] []) : ∀ m, FnOk P w K mg base CX0 (m + 2) f fd ["self", "expression"] (spWo K C m)
  | 0 => by
    refine F.ok scWo (fun vs H Q E h => ?_) (fun cdv A outer s H vs Q E hr h => ?_)
    · obtain ⟨o, d, sl, rd, wd, key, body, fb, st, R, W, v, dd, j, rfl, _⟩ := h
      rfl
    · obtain ⟨o, d, sl, rd, wd, key, body, fb, st, R, W, v, dd, j, rfl, lt, _⟩ := h
      exact absurd lt (Nat.not_lt_zero _)
  | m + 1 => by
    have GWo := ok_wo F c mWo bWo GRe mRe bRe GCb TCb bCb m
    refine F.ok scWo (fun vs H Q E h => ?_) (fun cdv A outer s H vs Q E hr h => ?_)
    · obtain ⟨o, d, sl, rd, wd, key, body, fb, st, R, W, v, dd, j, rfl, _⟩ := h
      rfl
    · obtain ⟨o, d, sl, rd, wd, key, body, fb, st, R, W, v, dd, j, rfl, lt, S, r, he, hR, ⟨b0, b1⟩, k⟩ := h
      have hu := hu_of hr
      refine ⟨_, (pss_cons (ps_set (i := 2) scWo.nd rfl (Or.inl rfl) (pe_ix ix_tup (pv 1) pe_int (fun _ _ => rfl)))
      (pss_cons (ps_if (pt_cmpR (KEq.op_eqS hu) (pv 2) pe_str (nomark _)) (pss_one (ps_ret (pe_ix ix_tup (pv 1) pe_int (fun _ _ => rfl)))) pss_nil)
      (pss_cons (ps_if (pt_cmpR (KEq.op_eqS hu) (pv 2) pe_str (nomark _)) (pss_one (ps_ret (pe_fld (pv 0) (by rfl)))) pss_nil)
      (pss_cons (ps_if (pt_cmpR (KEq.op_eqS hu) (pv 2) pe_str (nomark _)) (pss_one (ps_ret (pe_meth (pv 0) c.cls mRe GRe (hr.mono (by omega)) bRe .nil pass0 (pa_cons (Ab.pe_tupA (pa_cons (pe_ix ix_tup (pv 1) pe_int (fun _ _ => rfl)) (pa_cons (pe_fld (pv 0) (by rfl)) pa_nil))) pa_nil) (by rfl) (by rfl)))) pss_nil)
      (pss_one (ps_ret (pe_call GCb (hr.mono (by omega)) rfl TCb.mg TCb.kp bCb .nil pass0 (pa_cons (pv 2) (pa_cons (pe_meth (pv 0) c.cls mWo GWo (hr.mono (by omega)) bWo .nil pass0 (pa_cons (pe_ix ix_tup (pv 1) pe_int (fun _ _ => rfl)) pa_nil) (by rfl) (by rfl)) (pa_cons (pe_meth (pv 0) c.cls mWo GWo (hr.mono (by omega)) bWo .nil pass0 (pa_cons (pe_ix ix_tup (pv 1) pe_int (fun _ _ => rfl)) pa_nil) (by rfl) (by rfl)) pa_nil)))))))))), ?_⟩
      obtain ⟨n, hh, tl, rfl, rfl, q⟩ := e_cases he
      obtain ⟨dx, ob⟩ := S.obj
      have ge1 : 1 ≤ 2 ^ (n + 1) := Nat.one_le_two_pow
      cases r with
      | @tup a xs ds qa rr =>
        cases rr with
        | @cons hv xv h tl rh rt =>
          have up : ∀ {G : Hp}, SameX rd H G → SqT K G a (hv :: xv) := fun s => sqT_same delp_le (sqT_same (delp_same s) qa)
          refine ⟨_, rfl, a, hv :: xv, 0, hv, rfl, rfl, up SameX.refl, atI_nat (j := 0) rfl, ?_⟩
          refine ⟨_, rfl, hh, _, Rp.same delp_le rh, rfl, _, rfl, ite2 (fun i1 => ?_) (fun i1 => ?_)⟩
          · rcases q with ⟨_, i, rfl, _⟩ | ⟨z, _⟩ | ⟨z, _⟩ | ⟨z, _⟩
            · cases rt with
              | @cons x _ _ _ rx rn =>
                cases rn
                cases rx
                refine ⟨_, rfl, a, _, 1, _, rfl, rfl, up SameX.refl, atI_nat (j := 1) rfl, ?_⟩
                have kk := k R H S (Nat.le_add_right _ _) SameX.refl
                unfold evE at kk
                rw [if_pos i1] at kk
                exact kk
            all_goals exact absurd i1 z
          refine ⟨_, rfl, hh, _, Rp.same delp_le rh, rfl, _, rfl, ite2 (fun i2 => ?_) (fun i2 => ?_)⟩
          · have kk := k R H S (Nat.le_add_right _ _) SameX.refl
            unfold evE at kk
            rw [if_neg i1, if_pos i2] at kk
            exact ⟨_, rfl, o, C, dx, _, .int body, rfl, ob, c.cls, c.body, rfl, kk⟩
          refine ⟨_, rfl, hh, _, Rp.same delp_le rh, rfl, _, rfl, ite2 (fun i3 => ?_) (fun i3 => ?_)⟩
          · rcases q with ⟨z, _⟩ | ⟨_, z, _⟩ | ⟨_, _, _, z, rfl, _⟩ | ⟨_, _, z, _⟩
            · exact absurd z i1
            · exact absurd z i2
            · cases rt with
              | @cons x _ _ _ rx rn =>
                cases rn
                cases rx
                refine ⟨_, rfl, o, dx, _, rfl, ob, rfl, ?_⟩
                refine ⟨_, rfl, a, _, 1, _, rfl, rfl, up SameX.refl, atI_nat (j := 1) rfl, _, rfl, o, C, dx, _, .str key, rfl, ob, c.cls, c.key, rfl, sz (by simp), fun pl G np sp ep => ?_⟩
                refine ⟨o, d, sl, rd, wd, pl, key, body, fb, st, R, W, (z, key), rfl, S.fresh sp, ep, by omega, fun R' G2 S2 l2 x2 => ?_⟩
                have kk := k R' G2 S2 (by omega) ((Same.X sp).trans x2)
                unfold evE at kk
                rw [if_neg i1, if_neg i2, if_pos i3] at kk
                exact kk
            · exact absurd i3 z
          rcases q with ⟨z, _⟩ | ⟨_, z, _⟩ | ⟨_, _, z, _⟩ | ⟨_, _, _, i4, da, db, rfl, ea, eb⟩
          · exact absurd z i1
          · exact absurd z i2
          · exact absurd z i3
          obtain ⟨x, y, da', db', rfl, e2, ra, rb⟩ := two_of rt (RpAll.len rt)
          cases e2
          have la : n < m := by omega
          have p2 : 2 ^ (n + 1) = 2 ^ n + 2 ^ n := by omega
          have pn : 1 ≤ 2 ^ n := Nat.one_le_two_pow
          refine ⟨_, rfl, _, rfl, o, dx, _, rfl, ob, rfl, _, rfl, a, _, 1, x, rfl, rfl, up SameX.refl, atI_nat (j := 1) rfl, o, d, sl, rd, wd, key, body, fb, st, R, W, x, da, n, rfl, la, S, ra, ea, by omega, ⟨b0, b1⟩, fun R1 H1 S1 l1 s1 => ?_⟩
          obtain ⟨dx1, ob1⟩ := S1.obj
          refine ⟨_, rfl, o, dx1, _, rfl, ob1, rfl, _, rfl, a, _, 2, y, rfl, rfl, up s1, atI_nat (j := 2) rfl, o, d, sl, rd, wd, key, body, fb, st, R1, W, y, db, n, rfl, la, S1, Rp.same (delp_same s1) rb, eb, by omega, ⟨b0, b1⟩, fun R2 H2 S2 l2 s2 => ?_⟩
          have kk := k R2 H2 S2 (by omega) (s1.trans s2)
          unfold evE at kk
          rw [if_neg i1, if_neg i2, if_neg i3] at kk
          exact ⟨_, hh, _, _, rfl, Rp.same delp_le (Rp.same (delp_same (s1.trans s2)) rh), ev_in S.sta.ok b0 b1 ea, ev_in S.sta.ok b0 b1 eb, kk⟩
end
end Hd

set_option Elab.async false
set_option linter.all false
set_option maxRecDepth 100000
set_option maxHeartbeats 8000000
namespace Hd
open PySem L2 Pen RG Dat KEq
abbrev sHo : Stmt := inCl cRun 5
theorem RunS.putL {C : Addr} {G : Hp} {o d sl rd wd D : Addr} {key : Str} {body : Int} {fb : Bool} {st : Sta} {R W : List Z} {acc acc' : List V} (x : RunS C G o d sl rd wd key body fb st R W) (e : G D = some (.lst acc)) (n : sl ≠ D) : RunS C (upd G D (.lst acc')) o d sl rd wd key body fb st R W := by
  have sy : SameY D D G (upd G D (.lst acc')) := fun a o h1 _ h => (upd_ne h1).trans h
  obtain ⟨⟨dx, a⟩, ⟨b1, b2, b3, ts, b4, b5⟩, c, f0, f, g, h, i, j⟩ := x
  exact ⟨⟨dx, (upd_ne (ne_of a e (by intro z; cases z))).trans a⟩, ⟨(upd_ne (ne_of b1 e (by intro z; cases z))).trans b1, b2, b3, ts, (upd_ne n).trans b4, snds_y sy e noT_lst e noT_lst b5⟩, (upd_ne (ne_of c e (by intro z; cases z))).trans c, (upd_ne (ne_of f0 e (by intro z; cases z))).trans f0, f, g, h, i, j⟩
def spHo (K : PySem.W.Frag) (C : Addr) (m : Nat) : Sp := fun vs H Q _ => ∃ (o d sl rd wd : Addr) (key : Str) (body : Int) (fb : Bool) (st : Sta) (R W : List Z) (v : V) (dd : PyData) (j : Nat), vs = [.ref o, v] ∧ j < m ∧ RunS C H o d sl rd wd key body fb st R W ∧ Rp K (delp rd H) v dd ∧ isC j dd = true ∧ R.length + 2 ^ (j + 7) < 500000 ∧ (-99 ≤ body ∧ body ≤ 99) ∧
  ∀ R' H', RunS C H' o d sl rd wd key body fb st R' W → R'.length ≤ R.length + 2 ^ (j + 7) → SameX rd H H' → Q (.bl (evC st.t key body j dd)) H'
section
variable {P : Program} {w : World} {K : PySem.W.Frag} {mg : Str → Option Value} {base : Heap}
theorem scHo : FnScope ["self", "condition", "head", "parts", "part"] ["self", "condition"] (defScope sHo) := ⟨rfl, rfl, rfl, by decide +kernel, rfl, by decide +kernel, by decide +kernel⟩
theorem ok_ho {f C fWo : Addr} {fd fdWo : FuncData} (F : Fun K "holds" "Run.holds" sHo f fd) (T : TxtH mg) (TAny : mg "any" = none) (c : RunC K C) (mHo : Meth K C "holds" f) (bHo : Binds K fd ["self", "condition"] [])
    (GWo : FnOk P w K mg base CX0 9 fWo fdWo ["self", "expression"] (spWo K C 7)) (mWo : Meth K C "worth" fWo) (bWo : Binds K fdWo ["self", "expression"] []) : ∀ m, FnOk P w K mg base CX0 (m + 10) f fd ["self", "condition"] (spHo K C m)
  | 0 => by
    refine F.ok scHo (fun vs H Q E h => ?_) (fun cdv A outer s H vs Q E hr h => ?_)
    · obtain ⟨o, d, sl, rd, wd, key, body, fb, st, R, W, v, dd, j, rfl, _⟩ := h
      rfl
    · obtain ⟨o, d, sl, rd, wd, key, body, fb, st, R, W, v, dd, j, rfl, lt, _⟩ := h
      exact absurd lt (Nat.not_lt_zero _)
  | m + 1 => by
    have GHo := ok_ho F T TAny c mHo bHo GWo mWo bWo m
    refine F.ok scHo (fun vs H Q E h => ?_) (fun cdv A outer s H vs Q E hr h => ?_)
    · obtain ⟨o, d, sl, rd, wd, key, body, fb, st, R, W, v, dd, j, rfl, _⟩ := h
      rfl
    · obtain ⟨o, d, sl, rd, wd, key, body, fb, st, R, W, v, dd, j, rfl, lt, S, r, he, hR, ⟨b0, b1⟩, k⟩ := h
      have hu := hu_of hr
      refine ⟨_, (pss_cons (ps_set (i := 2) scHo.nd rfl (Or.inl rfl) (pe_ix ix_tup (pv 1) pe_int (fun _ _ => rfl)))
      (pss_cons (ps_if (pt_cmpR (KEq.op_eqS hu) (pv 2) pe_str (nomark _)) (pss_one (ps_ret (pe_cmpR op_lt (pe_meth (pv 0) c.cls mWo GWo (hr.mono (by omega)) bWo .nil pass0 (pa_cons (pe_ix ix_tup (pv 1) pe_int (fun _ _ => rfl)) pa_nil) (by rfl) (by rfl)) (pe_meth (pv 0) c.cls mWo GWo (hr.mono (by omega)) bWo .nil pass0 (pa_cons (pe_ix ix_tup (pv 1) pe_int (fun _ _ => rfl)) pa_nil) (by rfl) (by rfl)) (nomark _)))) pss_nil)
      (pss_cons (ps_if (pt_cmpR (KEq.op_eqS hu) (pv 2) pe_str (nomark _)) (pss_one (ps_ret (pe_cmpR op_eq (pe_meth (pv 0) c.cls mWo GWo (hr.mono (by omega)) bWo .nil pass0 (pa_cons (pe_ix ix_tup (pv 1) pe_int (fun _ _ => rfl)) pa_nil) (by rfl) (by rfl)) (pe_meth (pv 0) c.cls mWo GWo (hr.mono (by omega)) bWo .nil pass0 (pa_cons (pe_ix ix_tup (pv 1) pe_int (fun _ _ => rfl)) pa_nil) (by rfl) (by rfl)) (nomark _)))) pss_nil)
      (pss_cons (ps_setLc (i := 3) (own := [("part", 4)]) (g := gName 4) (tt := tYes) (te := (tMeth C "holds" (spHo K C m) [] E0 (tVar 0) (tCons (tVar 4) tNil))) rfl scHo.nd rfl rfl (by rfl) (pi_tup (pe_slice sl_tup (pv 1) (po_some pe_int) po_none)) (blkOk_by (N := ["self", "condition", "head", "parts", "part"]) (sc := defScope sHo) (by decide +kernel)) (fun _ _ _ _ _ => by exact (pg_name (i := 4) scHo.nd rfl (Or.inl rfl))) (fun _ _ _ _ _ => by exact pts_nil) (fun _ _ _ _ _ => by exact (pe_meth (pv 0) c.cls mHo GHo (hr.mono (by omega)) bHo .nil pass0 (pa_cons (pv 4) pa_nil) (by rfl) (by rfl))))
      (pss_cons (ps_if (pt_cmpR (KEq.op_eqS hu) (pv 2) pe_str (nomark _)) (pss_one (ps_ret (pe_not (pe_ix ix_list (pv 3) pe_int (fun _ _ => rfl))))) pss_nil)
      (pss_cons (ps_if (pt_cmpR (KEq.op_eqS hu) (pv 2) pe_str (nomark _)) (pss_one (ps_ret (pe_callB (cr_all rfl) (by rfl) T.all (by decide +kernel) (pa_cons (pv 3) pa_nil)))) pss_nil)
      (pss_one (ps_ret (pe_callB (cr_any rfl) (by rfl) TAny (by decide +kernel) (pa_cons (pv 3) pa_nil)))))))))), ?_⟩
      obtain ⟨n, rfl, q⟩ := c_cases he
      have la : n < m := by omega
      obtain ⟨dx, ob⟩ := S.obj
      have p7 : 2 ^ 7 ≤ 2 ^ (n + 1 + 7) := Nat.pow_le_pow_right (by decide) (by omega)
      have p8 : 2 ^ (n + 1 + 7) = 2 ^ (n + 7) + 2 ^ (n + 7) := by
        rw [show n + 1 + 7 = (n + 7) + 1 by omega]
        omega
      obtain ⟨ds0, rfl⟩ : ∃ ds0, dd = .tuple ds0 := by
        rcases q with ⟨_, _, _, _, e, _⟩ | ⟨_, e, _⟩ | ⟨_, _, _, _, e, _⟩ <;> exact ⟨_, e⟩
      cases r with
      | @tup a xs ds qa rr =>
      have qaH : SqT K H a xs := sqT_same delp_le qa
      rcases q with ⟨zz, da, db, hz, e1, ea, eb⟩ | ⟨da, e1, ca⟩ | ⟨zz, da, db, hz, e1, ca, cb⟩
      · cases e1
        obtain ⟨hv, x, y, _, da', db', rfl, e2, rh, ra, rb⟩ := three_of rr (RpAll.len rr)
        cases e2
        cases rh
        have up : ∀ {G : Hp}, SameX rd H G → SqT K G a [.str zz, x, y] := fun s => sqT_same delp_le (sqT_same (delp_same s) qa)
        have two : ∀ (Want : VK), (∀ R2 H2, RunS C H2 o d sl rd wd key body fb st R2 W → R2.length ≤ R.length + 2 ^ 7 → SameX rd H H2 → True) → True := fun _ _ => trivial
        refine ⟨_, rfl, a, _, 0, _, rfl, rfl, qaH, atI_nat (j := 0) rfl, ?_⟩
        refine ⟨_, rfl, .str zz, _, .str _, rfl, _, rfl, ite2 (fun i1 => ?_) (fun i1 => ?_)⟩
        · obtain rfl : zz = "<" := by
            rcases hz with rfl | rfl
            · rfl
            · exact absurd i1 (by decide +kernel)
          refine ⟨_, rfl, o, dx, _, rfl, ob, rfl, _, rfl, a, _, 1, x, rfl, rfl, up SameX.refl, atI_nat (j := 1) rfl, o, d, sl, rd, wd, key, body, fb, st, R, W, x, da, 6, rfl, by decide, S, ra, ea, by omega, ⟨b0, b1⟩, fun R1 H1 S1 l1 s1 => ?_⟩
          obtain ⟨dx1, ob1⟩ := S1.obj
          refine ⟨_, rfl, o, dx1, _, rfl, ob1, rfl, _, rfl, a, _, 2, y, rfl, rfl, up s1, atI_nat (j := 2) rfl, o, d, sl, rd, wd, key, body, fb, st, R1, W, y, db, 6, rfl, by decide, S1, Rp.same (delp_same s1) rb, eb, by omega, ⟨b0, b1⟩, fun R2 H2 S2 l2 s2 => ?_⟩
          exact ⟨_, _, rfl, rfl, k R2 H2 S2 (by omega) (s1.trans s2)⟩
        refine ⟨_, rfl, .str zz, _, .str _, rfl, _, rfl, ite2 (fun i2 => ?_) (fun i2 => ?_)⟩
        · obtain rfl : zz = "=" := by
            rcases hz with rfl | rfl
            · exact absurd (by decide +kernel) i1
            · rfl
          refine ⟨_, rfl, o, dx, _, rfl, ob, rfl, _, rfl, a, _, 1, x, rfl, rfl, up SameX.refl, atI_nat (j := 1) rfl, o, d, sl, rd, wd, key, body, fb, st, R, W, x, da, 6, rfl, by decide, S, ra, ea, by omega, ⟨b0, b1⟩, fun R1 H1 S1 l1 s1 => ?_⟩
          obtain ⟨dx1, ob1⟩ := S1.obj
          refine ⟨_, rfl, o, dx1, _, rfl, ob1, rfl, _, rfl, a, _, 2, y, rfl, rfl, up s1, atI_nat (j := 2) rfl, o, d, sl, rd, wd, key, body, fb, st, R1, W, y, db, 6, rfl, by decide, S1, Rp.same (delp_same s1) rb, eb, by omega, ⟨b0, b1⟩, fun R2 H2 S2 l2 s2 => ?_⟩
          have kk := k R2 H2 S2 (by omega) (s1.trans s2)
          refine ⟨rfl, ?_⟩
          have e : decide (V.int (evE st.t key body 6 da) = V.int (evE st.t key body 6 db)) = decide (evE st.t key body 6 da = evE st.t key body 6 db) := decide_eq_decide.mpr ⟨fun h => V.int.inj h, fun h => by rw [h]⟩
          rw [e]
          exact kk
        · rcases hz with rfl | rfl
          · exact absurd (by decide +kernel) i1
          · exact absurd (by decide +kernel) i2
      · cases e1
        obtain ⟨hv, x, _, da', rfl, e2, rh, ra⟩ := two_of rr (RpAll.len rr)
        cases e2
        cases rh
        obtain ⟨zz, hzz⟩ : ∃ zz : Str, zz = "not" := ⟨_, rfl⟩
        rw [← hzz] at qa qaH k
        refine ⟨_, rfl, a, _, 0, _, rfl, rfl, qaH, atI_nat (j := 0) rfl, ?_⟩
        refine ⟨_, rfl, .str zz, _, .str _, rfl, _, rfl, ite2 (fun i1 => ?_) (fun i1 => ?_)⟩
        · subst hzz
          exact absurd i1 (by decide +kernel)
        refine ⟨_, rfl, .str zz, _, .str _, rfl, _, rfl, ite2 (fun i2 => ?_) (fun i2 => ?_)⟩
        · subst hzz
          exact absurd i2 (by decide +kernel)
        · have rys : RpAll K (delp rd H) [x] [da] := .cons ra .nil
          have cs : ∀ e ∈ [da], isC n e = true := fun e he => by rw [List.mem_singleton.mp he]; exact ca
          have ec : cutV [V.str zz, x] (some 1) none = [x] := cut_from1 (i := 1)
          refine ⟨_, rfl, 1, rfl, a, _, rfl, qaH, by rw [show (1 : Int) = ((1 : Nat) : Int) from rfl, HT.sIx_nat]; exact fun h => absurd h.1 (by simp), fun p np => ?_⟩
          rw [ec]
          have npr : p ≠ rd := (ne_of_none S.rds np).symm
          have sp : Same H (upd H p (.tup [x])) := same_new np
          have S0 := S.fresh sp
          refine ⟨p, rfl, ⟨_, SqT.of upd_same⟩, fun D hD => ?_⟩
          have nD : D ≠ rd := (ne_of_none S0.rds hD).symm
          obtain ⟨_, _, _, tss, esl, _⟩ := S0.sta
          have nsl : sl ≠ D := ne_of_none esl hD
          refine lc_tup (xs := [x]) (fun i G => ∃ R', RunS C G o d sl rd wd key body fb st R' W ∧ R'.length ≤ R.length + i * 2 ^ (n + 7) ∧ SameX rd (upd H p (.tup [x])) G ∧ G D = some (.lst ((([da] : List PyData).take i).map fun e => V.bl (evC st.t key body n e)))) ⟨R, S0.fresh (same_new hD), by omega, Same.X (same_new hD), upd_same⟩ (fun i G _ h => ?_) (fun i x' G hx h => ?_) (fun G h => ?_)
          · obtain ⟨_, _, _, sx, _⟩ := h
            exact SqT.of (sx _ _ npr upd_same)
          · obtain ⟨R1, S1, l1, sx, eD⟩ := h
            obtain ⟨e, he1, re⟩ := rp_get rys hx
            obtain ⟨dx1, ob1⟩ := S1.obj
            have hce := cs e (List.mem_of_getElem? he1)
            have i2 : i < 1 := (List.getElem?_eq_some_iff.mp he1).1
            have im : i * 2 ^ (n + 7) + 2 ^ (n + 7) ≤ 2 * 2 ^ (n + 7) := by
              have := Nat.mul_le_mul_right (2 ^ (n + 7)) (show i + 1 ≤ 2 by omega)
              rw [Nat.add_mul, Nat.one_mul] at this
              exact this
            refine ⟨rfl, ?_⟩
            unfold tYes
            simp only [↓reduceIte]
            refine ⟨_, rfl, o, dx1, _, rfl, ob1, rfl, _, rfl, o, d, sl, rd, wd, key, body, fb, st, R1, W, x', e, n, rfl, la, S1, Rp.same (delp_same ((Same.X sp).trans sx)) re, hce, by omega, ⟨b0, b1⟩, fun R2 G2 S2 l2 s2 => ?_⟩
            refine ⟨_, s2 _ _ nD eD, ?_, R2, S2.putL (s2 _ _ nD eD) nsl, ?_, fun b o' n1 h => ?_, ?_⟩
            · rw [List.length_map]
              exact Nat.lt_of_le_of_lt (show _ ≤ 2 from Nat.le_trans (List.length_take_le' _ _) (by simp)) (by decide)
            · rw [Nat.add_mul, Nat.one_mul]
              omega
            · rw [upd_ne (ne_of_none h hD)]
              exact s2 _ _ n1 (sx _ _ n1 h)
            · rw [upd_same, take_more he1, List.map_append]
              rfl
          obtain ⟨R1, S1, l1, sx, eD⟩ := h
          have sx := (Same.X sp).trans sx
          have kk := k R1 G S1 (by show R1.length ≤ _; have l1 : R1.length ≤ R.length + 1 * 2 ^ (n + 7) := l1; omega) sx
          have eD : G D = some (.lst (([da] : List PyData).map fun e => V.bl (evC st.t key body n e))) := eD
          refine ⟨_, rfl, .str zz, _, .str _, rfl, _, rfl, ite2 (fun i3 => ?_) (fun i3 => ?_)⟩
          · subst hzz
            exact ⟨_, rfl, D, _, 0, _, rfl, rfl, SqL.of eD, atI_nat (j := 0) rfl, _, rfl, kk⟩
          · subst hzz
            exact absurd (by decide +kernel) i3
      · cases e1
        obtain ⟨hv, x, y, _, da', db', rfl, e2, rh, ra, rb⟩ := three_of rr (RpAll.len rr)
        cases e2
        cases rh
        refine ⟨_, rfl, a, _, 0, _, rfl, rfl, qaH, atI_nat (j := 0) rfl, ?_⟩
        refine ⟨_, rfl, .str zz, _, .str _, rfl, _, rfl, ite2 (fun i1 => ?_) (fun i1 => ?_)⟩
        · rcases hz with rfl | rfl <;> exact absurd i1 (by decide +kernel)
        refine ⟨_, rfl, .str zz, _, .str _, rfl, _, rfl, ite2 (fun i2 => ?_) (fun i2 => ?_)⟩
        · rcases hz with rfl | rfl <;> exact absurd i2 (by decide +kernel)
        · have rys : RpAll K (delp rd H) [x, y] [da, db] := .cons ra (.cons rb .nil)
          have cs : ∀ e ∈ [da, db], isC n e = true := fun e he => by
            rcases List.mem_cons.mp he with h | h
            · rw [h]; exact ca
            · rw [List.mem_singleton.mp h]; exact cb
          have ec : cutV [V.str zz, x, y] (some 1) none = [x, y] := cut_from1 (i := 1)
          refine ⟨_, rfl, 1, rfl, a, _, rfl, qaH, by rw [show (1 : Int) = ((1 : Nat) : Int) from rfl, HT.sIx_nat]; exact fun h => absurd h.1 (by simp), fun p np => ?_⟩
          rw [ec]
          have npr : p ≠ rd := (ne_of_none S.rds np).symm
          have sp : Same H (upd H p (.tup [x, y])) := same_new np
          have S0 := S.fresh sp
          refine ⟨p, rfl, ⟨_, SqT.of upd_same⟩, fun D hD => ?_⟩
          have nD : D ≠ rd := (ne_of_none S0.rds hD).symm
          obtain ⟨_, _, _, tss, esl, _⟩ := S0.sta
          have nsl : sl ≠ D := ne_of_none esl hD
          refine lc_tup (xs := [x, y]) (fun i G => ∃ R', RunS C G o d sl rd wd key body fb st R' W ∧ R'.length ≤ R.length + i * 2 ^ (n + 7) ∧ SameX rd (upd H p (.tup [x, y])) G ∧ G D = some (.lst ((([da, db] : List PyData).take i).map fun e => V.bl (evC st.t key body n e)))) ⟨R, S0.fresh (same_new hD), by omega, Same.X (same_new hD), upd_same⟩ (fun i G _ h => ?_) (fun i x' G hx h => ?_) (fun G h => ?_)
          · obtain ⟨_, _, _, sx, _⟩ := h
            exact SqT.of (sx _ _ npr upd_same)
          · obtain ⟨R1, S1, l1, sx, eD⟩ := h
            obtain ⟨e, he1, re⟩ := rp_get rys hx
            obtain ⟨dx1, ob1⟩ := S1.obj
            have hce := cs e (List.mem_of_getElem? he1)
            have i2 : i < 2 := (List.getElem?_eq_some_iff.mp he1).1
            have im : i * 2 ^ (n + 7) + 2 ^ (n + 7) ≤ 2 * 2 ^ (n + 7) := by
              have := Nat.mul_le_mul_right (2 ^ (n + 7)) (show i + 1 ≤ 2 by omega)
              rw [Nat.add_mul, Nat.one_mul] at this
              exact this
            refine ⟨rfl, ?_⟩
            unfold tYes
            simp only [↓reduceIte]
            refine ⟨_, rfl, o, dx1, _, rfl, ob1, rfl, _, rfl, o, d, sl, rd, wd, key, body, fb, st, R1, W, x', e, n, rfl, la, S1, Rp.same (delp_same ((Same.X sp).trans sx)) re, hce, by omega, ⟨b0, b1⟩, fun R2 G2 S2 l2 s2 => ?_⟩
            refine ⟨_, s2 _ _ nD eD, ?_, R2, S2.putL (s2 _ _ nD eD) nsl, ?_, fun b o' n1 h => ?_, ?_⟩
            · rw [List.length_map]
              exact Nat.lt_of_le_of_lt (show _ ≤ 2 from Nat.le_trans (List.length_take_le' _ _) (by simp)) (by decide)
            · rw [Nat.add_mul, Nat.one_mul]
              omega
            · rw [upd_ne (ne_of_none h hD)]
              exact s2 _ _ n1 (sx _ _ n1 h)
            · rw [upd_same, take_more he1, List.map_append]
              rfl
          obtain ⟨R1, S1, l1, sx, eD⟩ := h
          have sx := (Same.X sp).trans sx
          have kk := k R1 G S1 (by show R1.length ≤ _; have l1 : R1.length ≤ R.length + 2 * 2 ^ (n + 7) := l1; omega) sx
          have eD : G D = some (.lst (([da, db] : List PyData).map fun e => V.bl (evC st.t key body n e))) := eD
          refine ⟨_, rfl, .str zz, _, .str _, rfl, _, rfl, ite2 (fun i3 => ?_) (fun i3 => ?_)⟩
          · rcases hz with rfl | rfl <;> exact absurd i3 (by decide +kernel)
          refine ⟨_, rfl, .str zz, _, .str _, rfl, _, rfl, ite2 (fun i4 => ?_) (fun i4 => ?_)⟩
          · obtain rfl : zz = "and" := by
              rcases hz with rfl | rfl
              · rfl
              · exact absurd i4 (by decide +kernel)
            refine ⟨_, rfl, D, [evC st.t key body n da, evC st.t key body n db], rfl, SqL.of eD, ?_⟩
            have e : evC st.t key body (n + 1) (.tuple [.str "and", da, db]) = (evC st.t key body n da && evC st.t key body n db) := if_pos (by decide +kernel)
            rw [e] at kk
            rw [show ([evC st.t key body n da, evC st.t key body n db] : List Bool).all id = (evC st.t key body n da && evC st.t key body n db) by simp]
            exact kk
          · obtain rfl : zz = "or" := by
              rcases hz with rfl | rfl
              · exact absurd (by decide +kernel) i4
              · rfl
            refine ⟨_, rfl, D, [evC st.t key body n da, evC st.t key body n db], rfl, SqL.of eD, ?_⟩
            have e : evC st.t key body (n + 1) (.tuple [.str "or", da, db]) = (evC st.t key body n da || evC st.t key body n db) := (if_neg (by decide +kernel)).trans (if_pos (by decide +kernel))
            rw [e] at kk
            rw [show ([evC st.t key body n da, evC st.t key body n db] : List Bool).any id = (evC st.t key body n da || evC st.t key body n db) by simp]
            exact kk
end
end Hd

set_option Elab.async false
set_option linter.all false
set_option maxRecDepth 100000
set_option maxHeartbeats 8000000
namespace Hd
open PySem L2 Pen RG Dat KEq
abbrev sDa : Stmt := inCl cRun 6
abbrev sDo : Stmt := inCl cRun 7
/-- all but four -/
def Same4 (a b c e : Addr) (H H' : Hp) : Prop := ∀ x o, x ≠ a → x ≠ b → x ≠ c → x ≠ e → H x = some o → H' x = some o
theorem Same4.refl {a b c e : Addr} {H : Hp} : Same4 a b c e H H := fun _ _ _ _ _ _ h => h
theorem Same4.trans {a b c e : Addr} {H H1 H2 : Hp} (s : Same4 a b c e H H1) (t : Same4 a b c e H1 H2) : Same4 a b c e H H2 := fun x o n1 n2 n3 n4 h => t x o n1 n2 n3 n4 (s x o n1 n2 n3 n4 h)
theorem Same4.of {a b c e : Addr} {H H1 : Hp} (s : Same H H1) : Same4 a b c e H H1 := fun x o _ _ _ _ h => s x o h
theorem Same4.ofX {a b c e : Addr} {H H1 : Hp} (s : SameX c H H1) : Same4 a b c e H H1 := fun x o _ _ n _ h => s x o n h
def cut4 (a b c e : Addr) (H : Hp) : Hp := fun x => if x = a ∨ x = b ∨ x = c ∨ x = e then none else H x
theorem cut4_le {a b c e : Addr} {H : Hp} : Same (cut4 a b c e H) H := fun x o h => by
  unfold cut4 at h
  split at h
  · cases h
  · exact h
theorem cut4_same {a b c e : Addr} {H H' : Hp} (s : Same4 a b c e H H') : Same (cut4 a b c e H) (cut4 a b c e H') := fun x o h => by
  unfold cut4 at h ⊢
  split at h
  · cases h
  · next n =>
    rw [if_neg n]
    simp only [not_or] at n
    exact s x o n.1 n.2.1 n.2.2.1 n.2.2.2 h
theorem cut4_rd {a b c e : Addr} {H : Hp} : Same (cut4 a b c e H) (delp c H) := fun x o h => by
  unfold cut4 at h
  split at h
  · cases h
  · next n =>
    simp only [not_or] at n
    exact (delp_ne n.2.2.1).trans h
theorem RunS.putW {C : Addr} {H : Hp} {o d sl rd wd : Addr} {key : Str} {body : Int} {fb : Bool} {st : Sta} {R W : List Z} {z : Z} (x : RunS C H o d sl rd wd key body fb st R W) : RunS C (upd H wd (.dT ((mput W z).map mrk))) o d sl rd wd key body fb st R (mput W z) := by
  have sy : SameY wd wd H (upd H wd (.dT ((mput W z).map mrk))) := fun a o h1 _ h => (upd_ne h1).trans h
  obtain ⟨⟨dx, a⟩, ⟨b1, b2, b3, ts, b4, b5⟩, c, e, f, g, h, i, j⟩ := x
  exact ⟨⟨dx, (upd_ne (ne_of a e (by intro z; cases z))).trans a⟩, ⟨(upd_ne i).trans b1, b2, b3, ts, (upd_ne (ne_of b4 e (by intro z; cases z))).trans b4, snds_y sy e noT_dT e noT_dT b5⟩, (upd_ne j).trans c, upd_same, f, mput_nodup g, h, i, j⟩
theorem RunS.putS {C : Addr} {G : Hp} {o d sl rd wd ar : Addr} {key : Str} {body : Int} {fb : Bool} {st : Sta} {R W : List Z} {ts : List Addr} {e : Str × Str × Int} (x : RunS C G o d sl rd wd key body fb st R W) (h : G sl = some (.lst (ts.map V.ref))) (p : Paired (SndT G) st.ss ts) (er : G ar = some (.tup [.str e.1, .str e.2.1, .int e.2.2])) :
    RunS C (upd G sl (.lst (ts.map V.ref ++ [.ref ar]))) o d sl rd wd key body fb ⟨st.t, st.ss ++ [e]⟩ R W := by
  have sy : SameY sl sl G (upd G sl (.lst (ts.map V.ref ++ [.ref ar]))) := fun a o h1 _ h => (upd_ne h1).trans h
  obtain ⟨⟨dx, a⟩, ⟨b1, b2, b3, _, _, _⟩, c, f0, f, g, i1, i, j⟩ := x
  have n : ∀ {q : Addr} {oo : HO}, G q = some oo → (∀ xs, oo ≠ .lst xs) → q ≠ sl := fun hq ne => ne_of hq h (ne _)
  refine ⟨⟨dx, (upd_ne (n a (fun _ z => nomatch z))).trans a⟩, ⟨(upd_ne (n b1 (fun _ z => nomatch z))).trans b1, b2, b3, ts ++ [ar], ?_, ?_⟩, (upd_ne (n c (fun _ z => nomatch z))).trans c, (upd_ne (n f0 (fun _ z => nomatch z))).trans f0, f, g, i1, i, j⟩
  · rw [upd_same, List.map_append]
    rfl
  · exact paired_snoc (F := SndT _) ((upd_ne (n er (fun _ z => nomatch z))).trans er) (snds_y sy h noT_lst h noT_lst p)
/-- what deeds have done -/
structure Aft (C : Addr) (o d sl rd wd : Addr) (key : Str) (body : Int) (fb : Bool) (st : Sta) (R W : List Z) (r r' : Nat) (H : Hp) (x : Bool × Sta) (H' : Hp) : Prop where
  ex : ∃ R' W', RunS C H' o d sl rd wd key body fb x.2 R' W' ∧ R'.length + 16384 * r' ≤ R.length + 16384 * r ∧ W'.length + r' ≤ W.length + r
  ss : x.2.ss.length + r' ≤ st.ss.length + r
  t : x.2.t.length + r' ≤ st.t.length + r
  fr : Same4 d sl rd wd H H'
/-- there is room -/
structure Bd (st : Sta) (R W : List Z) (r : Nat) (key : Str) (body : Int) : Prop where
  cR : R.length + 16384 * r < 400000
  cW : W.length + r ≤ 1000
  cS : st.ss.length + r ≤ 100
  cT : st.t.length + r ≤ 900
  ck : isWord (.str key) = true
  b0 : -99 ≤ body
  b1 : body ≤ 99
def spDa (K : PySem.W.Frag) (C : Addr) (m : Nat) : Sp := fun vs H Q _ => ∃ (o d sl rd wd : Addr) (key : Str) (body : Int) (fb : Bool) (st : Sta) (R W : List Z) (v : V) (ds : List PyData) (i r r' : Nat), vs = [.ref o, v] ∧ i < m ∧ RunS C H o d sl rd wd key body fb st R W ∧ Rp K (cut4 d sl rd wd H) v (.tuple ds) ∧ roomAll (deedR i) ds r = some r' ∧ Bd st R W r key body ∧
  ∀ H', Aft C o d sl rd wd key body fb st R W r r' H (runAll (deedE key body i) ds st) H' → Q (.bl (runAll (deedE key body i) ds st).1) H'
def spDo (K : PySem.W.Frag) (C : Addr) (m : Nat) : Sp := fun vs H Q _ => ∃ (o d sl rd wd : Addr) (key : Str) (body : Int) (fb : Bool) (st : Sta) (R W : List Z) (v : V) (dd : PyData) (i r r' : Nat), vs = [.ref o, v] ∧ i < m ∧ RunS C H o d sl rd wd key body fb st R W ∧ Rp K (cut4 d sl rd wd H) v dd ∧ deedR i dd r = some r' ∧ Bd st R W (r + 1) key body ∧
  ∀ H', Aft C o d sl rd wd key body fb st R W (r + 1) r' H (deedE key body i dd st) H' → Q (.bl (deedE key body i dd st).1) H'
section
variable {P : Program} {w : World} {K : PySem.W.Frag} {mg : Str → Option Value} {base : Heap}
theorem scDa : FnScope ["self", "deeds", "deed"] ["self", "deeds"] (defScope sDa) := ⟨rfl, rfl, rfl, by decide +kernel, rfl, by decide +kernel, by decide +kernel⟩
theorem scDo : FnScope ["self", "deed", "head", "place", "key"] ["self", "deed"] (defScope sDo) := ⟨rfl, rfl, rfl, by decide +kernel, rfl, by decide +kernel, by decide +kernel⟩
theorem ok_da {f C fDo : Addr} {fd fdDo : FuncData} (F : Fun K "do_all" "Run.do_all" sDa f fd) (c : RunC K C) (m n : Nat)
    (GDo : FnOk P w K mg base CX0 n fDo fdDo ["self", "deed"] (spDo K C m)) (mDo : Meth K C "do_one" fDo) (bDo : Binds K fdDo ["self", "deed"] []) : FnOk P w K mg base CX0 (n + 1) f fd ["self", "deeds"] (spDa K C m) := by
  refine F.ok scDa (fun vs H Q E h => ?_) (fun cdv A outer s H vs Q E hr h => ?_)
  · obtain ⟨o, d, sl, rd, wd, key, body, fb, st, R, W, v, ds, i, r, r', rfl, _⟩ := h
    rfl
  · obtain ⟨o, d, sl, rd, wd, key, body, fb, st, R, W, v, ds, i, r, r', rfl, lt, S, rp, room, bd, k⟩ := h
    refine ⟨_, (pss_cons (ps_for PassesOwn.never rfl (pi_tup (pv 1)) (pg_name (i := 2) scDa.nd rfl (Or.inl rfl)) (pss_one (ps_if (pt_not (pt_val (pe_meth (pv 0) c.cls mDo GDo (hr.mono (by omega)) bDo .nil pass0 (pa_cons (pv 2) pa_nil) (by rfl) (by rfl)))) (pss_one (ps_ret pe_bl)) pss_nil)))
      (pss_one (ps_ret pe_bl))), ?_⟩
    cases rp with
    | @tup a xs ds qa rr =>
      refine ⟨_, rfl, a, rfl, ⟨_, sqT_same cut4_le qa⟩, for_tup (xs := xs) (fun n σ G => σ.length = 3 ∧ σ[0]? = some (some (.ref o)) ∧ ∃ (s1 : Sta) (r1 : Nat), Aft C o d sl rd wd key body fb st R W r r1 H (true, s1) G ∧ runAll (deedE key body i) ds st = runAll (deedE key body i) (ds.drop n) s1 ∧ roomAll (deedR i) (ds.drop n) r1 = some r') ⟨rfl, rfl, st, r, ⟨⟨R, W, S, Nat.le_refl _, Nat.le_refl _⟩, Nat.le_refl _, Nat.le_refl _, Same4.refl⟩, rfl, room⟩ ?_ ?_ ?_⟩
      · intro n σ G _ ⟨_, _, s1, r1, A1, _⟩
        exact sqT_same cut4_le (sqT_same (cut4_same A1.fr) qa)
      · intro n x σ G hx ⟨l0, v0, s1, r1, A1, er, ro⟩
        obtain ⟨⟨R1, W1, S1, cR, cW⟩, cs, ct, fr⟩ := A1
        obtain ⟨dd, hd, rd0⟩ := rp_get rr hx
        rw [drop_get hd] at er ro
        cases r1 with
        | zero => cases ro
        | succ r2 =>
        have ro : (deedR i dd r2).bind (roomAll (deedR i) (ds.drop (n + 1))) = some r' := ro
        obtain ⟨r3, q1, q2⟩ := Option.bind_eq_some_iff.mp ro
        have le3 := roomAll_le (deedR_le i) q2
        have le2 := deedR_le i _ _ _ q1
        have er : runAll (deedE key body i) ds st = if (deedE key body i dd s1).1 = true then runAll (deedE key body i) (ds.drop (n + 1)) (deedE key body i dd s1).2 else deedE key body i dd s1 := er
        have z0 : (σ.set 2 (some x))[0]? = some (some (V.ref o)) := by rw [List.getElem?_set_ne (by decide)]; exact v0
        have z2 : (σ.set 2 (some x))[2]? = some (some x) := by simp [l0]
        obtain ⟨dx1, ob1⟩ := S1.obj
        have cs : s1.ss.length + (r2 + 1) ≤ st.ss.length + r := cs
        have ct : s1.t.length + (r2 + 1) ≤ st.t.length + r := ct
        obtain ⟨bR, bW, bS, bT, bK, bb0, bb1⟩ := bd
        refine ⟨_, z0, o, dx1, _, rfl, ob1, rfl, _, z2, o, d, sl, rd, wd, key, body, fb, s1, R1, W1, x, dd, i, r2, r3, rfl, lt, S1, Rp.same (cut4_same fr) rd0, q1, ⟨by omega, by omega, by omega, by omega, bK, bb0, bb1⟩, fun G2 A2 => ?_⟩
        obtain ⟨⟨R2, W2, S2, cR2, cW2⟩, cs2, ct2, fr2⟩ := A2
        refine ⟨_, rfl, ite2 (fun b1 => ?_) (fun b1 => ?_)⟩
        · have b2 : (deedE key body i dd s1).1 = false := by simpa using b1
          rw [if_neg (by rw [b2]; decide)] at er
          have kk := k G2
          rw [er, b2] at kk
          exact kk ⟨⟨R2, W2, S2, by omega, by omega⟩, by omega, by omega, fr.trans fr2⟩
        · have b2 : (deedE key body i dd s1).1 = true := by simpa using b1
          rw [if_pos b2] at er
          exact ⟨by simp [l0], z0, _, r3, ⟨⟨R2, W2, S2, by omega, by omega⟩, by show (deedE key body i dd s1).2.ss.length + r3 ≤ _; omega, by show (deedE key body i dd s1).2.t.length + r3 ≤ _; omega, fr.trans fr2⟩, er, q2⟩
      · intro σ G ⟨l0, v0, s1, r1, A1, er, ro⟩
        have e : ds.drop xs.length = [] := by rw [RpAll.len rr]; simp
        rw [e] at er ro
        obtain rfl : r1 = r' := Option.some.inj ro
        have kk := k G
        rw [er] at kk
        exact kk A1
theorem ok_do {f C fWo fHo fDa : Addr} {fd fdWo fdHo fdDa : FuncData} (F : Fun K "do_one" "Run.do_one" sDo f fd) (c : RunC K C) (m n : Nat) (hn : 17 ≤ n)
    (GWo : FnOk P w K mg base CX0 9 fWo fdWo ["self", "expression"] (spWo K C 7)) (mWo : Meth K C "worth" fWo) (bWo : Binds K fdWo ["self", "expression"] [])
    (GHo : FnOk P w K mg base CX0 17 fHo fdHo ["self", "condition"] (spHo K C 7)) (mHo : Meth K C "holds" fHo) (bHo : Binds K fdHo ["self", "condition"] [])
    (GDa : FnOk P w K mg base CX0 n fDa fdDa ["self", "deeds"] (spDa K C m)) (mDa : Meth K C "do_all" fDa) (bDa : Binds K fdDa ["self", "deeds"] []) : FnOk P w K mg base CX0 (n + 1) f fd ["self", "deed"] (spDo K C (m + 1)) := by
  refine F.ok scDo (fun vs H Q E h => ?_) (fun cdv A outer s H vs Q E hr h => ?_)
  · obtain ⟨o, d, sl, rd, wd, key, body, fb, st, R, W, v, dd, i, r, r', rfl, _⟩ := h
    rfl
  · obtain ⟨o, d, sl, rd, wd, key, body, fb, st, R, W, v, dd, i, r, r', rfl, lt, S, rp, room, bd, k⟩ := h
    have hu := hu_of hr
    refine ⟨_, (pss_cons (ps_set (i := 2) scDo.nd rfl (Or.inl rfl) (pe_ix ix_tup (pv 1) pe_int (fun _ _ => rfl)))
      (pss_cons (ps_if (pt_cmpR (KEq.op_eqS hu) (pv 2) pe_str (nomark _)) (pss_one (ps_ret pe_bl)) pss_nil)
      (pss_cons (ps_if (pt_cmpR (KEq.op_eqS hu) (pv 2) pe_str (nomark _)) (pss_one (ps_ret (pe_meth (pv 0) c.cls mDa GDa (hr.mono (by omega)) bDa .nil pass0 (pa_cons (pe_ifExp (pt_val (pe_meth (pv 0) c.cls mHo GHo (hr.mono (by omega)) bHo .nil pass0 (pa_cons (pe_ix ix_tup (pv 1) pe_int (fun _ _ => rfl)) pa_nil) (by rfl) (by rfl))) (pe_ix ix_tup (pv 1) pe_int (fun _ _ => rfl)) (pe_ix ix_tup (pv 1) pe_int (fun _ _ => rfl))) pa_nil) (by rfl) (by rfl)))) pss_nil)
      (pss_cons (ps_if (pt_cmpR (KEq.op_eqS hu) (pv 2) pe_str (nomark _)) (pss_cons (ps_set (i := 3) scDo.nd rfl (Or.inl rfl) (Ab.pe_tupA (pa_cons (pe_ix ix_tup (pv 1) pe_int (fun _ _ => rfl)) (pa_cons (pe_fld (pv 0) (by rfl)) pa_nil))))
      (pss_cons (ps_dput hu (pe_fld (pv 0) (by rfl)) (pv 3) (pe_meth (pv 0) c.cls mWo GWo (hr.mono (by omega)) bWo .nil pass0 (pa_cons (pe_ix ix_tup (pv 1) pe_int (fun _ _ => rfl)) pa_nil) (by rfl) (by rfl)) rfl)
      (pss_one (ps_dput hu (pe_fld (pv 0) (by rfl)) (pv 3) pe_bl rfl)))) (pss_cons (ps_set (i := 4) scDo.nd rfl (Or.inl rfl) (pe_ifExp (pt_cmpR op_isN (pe_ix ix_tup (pv 1) pe_int (fun _ _ => rfl)) pe_non (nomark _)) (pe_fld (pv 0) (by rfl)) (pe_ix ix_tup (pv 1) pe_int (fun _ _ => rfl))))
      (pss_one (ps_expr (pe_bm PySem.F.plainAttrs_list PySem.F.slot_list_append PySem.F.type_list_append mt_append (pe_fld (pv 0) (by rfl)) (pa_cons (Ab.pe_tupA (pa_cons (pe_ix ix_tup (pv 1) pe_int (fun _ _ => rfl)) (pa_cons (pv 4) (pa_cons (pe_meth (pv 0) c.cls mWo GWo (hr.mono (by omega)) bWo .nil pass0 (pa_cons (pe_ix ix_tup (pv 1) pe_int (fun _ _ => rfl)) pa_nil) (by rfl) (by rfl)) pa_nil)))) pa_nil))))))
      (pss_one (ps_ret pe_bl)))))), ?_⟩
    obtain ⟨bR, bW, bS, bT, bK, bb0, bb1⟩ := bd
    obtain ⟨dx, ob⟩ := S.obj
    have nds := S.sta.ne
    obtain ⟨tss, esl, pts⟩ := S.sta.lst
    have d1 := S.d1
    have d2 := S.d2
    have d3 := S.d3
    have nor := S.or
    have nod : o ≠ d := ne_of ob S.sta.tab (by intro z; cases z)
    have now : o ≠ wd := ne_of ob S.wds (by intro z; cases z)
    have nos : o ≠ sl := ne_of ob esl (by intro z; cases z)
    have nsr := S.slr
    have nsw : sl ≠ wd := ne_of esl S.wds (by intro z; cases z)
    rcases deed_cases room with ⟨rfl, e3⟩ | ⟨nm, ex, rfl, wn, xe, e3⟩ | ⟨nm, kd, ex, rfl, wn, xk, xe, e3⟩ | ⟨j, cc, as, bs, rm, rfl, rfl, xc, ra1, ra2⟩
    · cases rp with
      | @tup a1 ys es qx rx =>
      obtain ⟨hv, _, rfl, e2, rh⟩ := one_of rx (RpAll.len rx)
      cases e2
      cases rh
      refine ⟨_, rfl, a1, _, 0, _, rfl, rfl, sqT_same cut4_le qx, atI_nat (j := 0) rfl, ?_⟩
      refine ⟨_, rfl, .str _, _, .str _, rfl, _, rfl, ite2 (fun i1 => ?_) (fun i1 => absurd (by decide +kernel) i1)⟩
      rw [deed_fail] at k
      exact k H ⟨⟨R, W, S, by omega, by omega⟩, by show st.ss.length + r' ≤ _; omega, by show st.t.length + r' ≤ _; omega, Same4.refl⟩
    · cases rp with
      | @tup a1 ys es qx rx =>
      obtain ⟨hv, xn, y, _, _, _, rfl, e2, rh, rn, ry⟩ := three_of rx (RpAll.len rx)
      cases e2
      cases rh
      cases rn
      have up : ∀ {G : Hp}, Same4 d sl rd wd H G → SqT K G a1 [.str "set", .str nm, y] := fun s => sqT_same cut4_le (sqT_same (cut4_same s) qx)
      refine ⟨_, rfl, a1, _, 0, _, rfl, rfl, up Same4.refl, atI_nat (j := 0) rfl, ?_⟩
      refine ⟨_, rfl, .str _, _, .str _, rfl, _, rfl, ite2 (fun i1 => absurd i1 (by decide +kernel)) (fun i1 => ?_)⟩
      refine ⟨_, rfl, .str _, _, .str _, rfl, _, rfl, ite2 (fun i2 => absurd i2 (by decide +kernel)) (fun i2 => ?_)⟩
      refine ⟨_, rfl, .str _, _, .str _, rfl, _, rfl, ite2 (fun i3 => ?_) (fun i3 => absurd (by decide +kernel) i3)⟩
      rw [deed_set] at k
      refine ⟨_, rfl, a1, _, 1, _, rfl, rfl, up Same4.refl, atI_nat (j := 1) rfl, _, rfl, o, C, dx, _, .str key, rfl, ob, c.cls, c.key, rfl, sz (by simp), fun pl G np sp ep => ?_⟩
      have S1 := S.fresh sp
      obtain ⟨dx1, ob1⟩ := S1.obj
      refine ⟨_, rfl, o, dx1, _, rfl, ob1, rfl, _, rfl, a1, _, 2, y, rfl, rfl, up (Same4.of sp), atI_nat (j := 2) rfl, o, d, sl, rd, wd, key, body, fb, st, R, W, y, ex, 6, rfl, by decide, S1, Rp.same cut4_rd (Rp.same (cut4_same (Same4.of sp)) ry), xe, by omega, ⟨bb0, bb1⟩, fun R2 G2 S2 l2 x2 => ?_⟩
      obtain ⟨dx2, ob2⟩ := S2.obj
      have nplr : pl ≠ rd := (ne_of_none S.rds np).symm
      have nplw : pl ≠ wd := (ne_of_none S.wds np).symm
      have npld : pl ≠ d := (ne_of_none S.sta.tab np).symm
      have ep2 : G2 pl = some (.tup [.str nm, .str key]) := x2 _ _ nplr ep
      have pd : DPut G2 d (.ref pl) (.int (evE st.t key body 6 ex)) (upd G2 d (.dT ((tput st.t (nm, key) (evE st.t key body 6 ex)).map ent))) := by
        have g := DPut.t (k := kp (nm, key)) (v := .int (evE st.t key body 6 ex)) S2.sta.tab ep2 (by rw [List.length_map]; exact Nat.lt_of_le_of_lt (show st.t.length ≤ 900 by omega) (by decide))
        rw [put_ent st.t (nm, key) _ S2.sta.nd] at g
        exact g
      refine ⟨_, rfl, o, C, dx2, _, .ref d, rfl, ob2, c.cls, c.table, rfl, _, rfl, d, _, rfl, pd, ?_⟩
      have bd := ev_in (key := key) S.sta.ok bb0 bb1 xe
      have S3 : RunS C (upd G2 d (.dT ((tput st.t (nm, key) (evE st.t key body 6 ex)).map ent))) o d sl rd wd key body fb ⟨tput st.t (nm, key) (evE st.t key body 6 ex), st.ss⟩ R2 W := by
        have sy : SameY d d G2 (upd G2 d (.dT ((tput st.t (nm, key) (evE st.t key body 6 ex)).map ent))) := fun a o h1 _ h => (upd_ne h1).trans h
        obtain ⟨tss2, esl2, pts2⟩ := S2.sta.lst
        exact ⟨⟨dx2, (upd_ne nod).trans ob2⟩, ⟨upd_same, tput_nodup S2.sta.nd, S2.sta.ok.put wn bK bd.1 bd.2, tss2, (upd_ne nds.symm).trans esl2, snds_y sy S2.sta.tab noT_dT S2.sta.tab noT_dT pts2⟩, (upd_ne d1.symm).trans S2.rds, (upd_ne d2.symm).trans S2.wds, S2.nR, S2.nW, d1, d2, d3⟩
      obtain ⟨dx3, ob3⟩ := S3.obj
      have ep3 : (upd G2 d (.dT ((tput st.t (nm, key) (evE st.t key body 6 ex)).map ent))) pl = some (.tup [.str nm, .str key]) := (upd_ne npld).trans ep2
      have pw : DPut (upd G2 d (.dT ((tput st.t (nm, key) (evE st.t key body 6 ex)).map ent))) wd (.ref pl) (.bl true) (upd (upd G2 d (.dT ((tput st.t (nm, key) (evE st.t key body 6 ex)).map ent))) wd (.dT ((mput W (nm, key)).map mrk))) := by
        have g := DPut.t (k := kp (nm, key)) (v := .bl true) S3.wds ep3 (by rw [List.length_map]; exact Nat.lt_of_le_of_lt (show W.length ≤ 1000 by omega) (by decide))
        rw [put_mrk] at g
        exact g
      refine ⟨_, rfl, o, C, dx3, _, .ref wd, rfl, ob3, c.cls, c.writes, rfl, _, rfl, wd, _, rfl, pw, ?_⟩
      have tl := tput_len st.t (nm, key) (evE st.t key body 6 ex)
      have ml := mput_len W (nm, key)
      exact k _ ⟨⟨R2, mput W (nm, key), S3.putW, by omega, by omega⟩, by show st.ss.length + r' ≤ _; omega, by show (tput st.t (nm, key) (evE st.t key body 6 ex)).length + r' ≤ _; omega, fun x oo n1 n2 n3 n4 h => (upd_ne n4).trans ((upd_ne n1).trans (x2 _ _ n3 (sp _ _ h)))⟩
    · cases rp with
      | @tup a1 ys es qx rx =>
      obtain ⟨hv, xn, xkv, y, _, _, _, _, rfl, e2, rh, rn, rk, ry⟩ := four_of rx (by rfl)
      cases e2
      cases rh
      cases rn
      have up : ∀ {G : Hp}, Same4 d sl rd wd H G → SqT K G a1 [.str "send", .str nm, xkv, y] := fun s => sqT_same cut4_le (sqT_same (cut4_same s) qx)
      refine ⟨_, rfl, a1, _, 0, _, rfl, rfl, up Same4.refl, atI_nat (j := 0) rfl, ?_⟩
      refine ⟨_, rfl, .str _, _, .str _, rfl, _, rfl, ite2 (fun i1 => absurd i1 (by decide +kernel)) (fun i1 => ?_)⟩
      refine ⟨_, rfl, .str _, _, .str _, rfl, _, rfl, ite2 (fun i2 => absurd i2 (by decide +kernel)) (fun i2 => ?_)⟩
      refine ⟨_, rfl, .str _, _, .str _, rfl, _, rfl, ite2 (fun i3 => absurd i3 (by decide +kernel)) (fun i3 => ?_)⟩
      rw [deed_send] at k
      have kz : (xkv = V.non ∧ keyOf key kd = key) ∨ ∃ z, xkv = V.str z ∧ keyOf key kd = z := by
        rcases key_is xk with rfl | ⟨z, rfl⟩
        · cases rk
          exact .inl ⟨rfl, rfl⟩
        · cases rk
          exact .inr ⟨z, rfl, rfl⟩
      have fin : ∀ (zk : Str), keyOf key kd = zk → ∀ (R2 : List Z) (G2 : Hp), RunS C G2 o d sl rd wd key body fb st R2 W → R2.length ≤ R.length + 2 ^ 6 → SameX rd H G2 → ∀ (G3 : Hp) (ar : Addr), Same G2 G3 → G3 ar = some (.tup [.str nm, .str zk, .int (evE st.t key body 6 ex)]) →
          ∃ xs' : List V, G3 sl = some (.lst xs') ∧ xs'.length < sizeLine ∧ Q (.bl true) (upd G3 sl (.lst (xs' ++ [.ref ar]))) := by
        intro zk ek R2 G2 S2 l2 x2 G3 ar sr er
        have S3 := S2.fresh sr
        obtain ⟨ts3, e3', p3⟩ := S3.sta.lst
        refine ⟨ts3.map V.ref, e3', ?_, ?_⟩
        · rw [List.length_map, ← paired_length p3]
          exact Nat.lt_of_le_of_lt (show st.ss.length ≤ 100 by omega) (by decide)
        · have S4 := S3.putS (e := (nm, zk, evE st.t key body 6 ex)) e3' p3 er
          have len : (st.ss ++ [(nm, zk, evE st.t key body 6 ex)]).length = st.ss.length + 1 := by simp
          rw [ek] at k
          exact k _ ⟨⟨R2, W, S4, by omega, by omega⟩, by show (st.ss ++ [(nm, zk, evE st.t key body 6 ex)]).length + r' ≤ _; omega, by show st.t.length + r' ≤ _; omega, fun x oo n1 n2 n3 n4 h => (upd_ne n2).trans (sr _ _ (x2 _ _ n3 h))⟩
      refine ⟨_, rfl, a1, _, 2, _, rfl, rfl, up Same4.refl, atI_nat (j := 2) rfl, rfl, _, rfl, ite2 (fun k1 => ?_) (fun k1 => ?_)⟩
      · rcases kz with ⟨rfl, ek⟩ | ⟨z, rfl, ek⟩
        · refine ⟨_, rfl, o, C, dx, _, .str key, rfl, ob, c.cls, c.key, rfl, ?_⟩
          refine ⟨_, rfl, o, C, dx, _, .ref sl, rfl, ob, c.cls, c.sends, rfl, .inl ⟨rfl, _, SqL.of esl⟩, _, rfl, a1, _, 1, _, rfl, rfl, up Same4.refl, atI_nat (j := 1) rfl, _, rfl, _, rfl, o, dx, _, rfl, ob, rfl, _, rfl, a1, _, 3, y, rfl, rfl, up Same4.refl, atI_nat (j := 3) rfl, o, d, sl, rd, wd, key, body, fb, st, R, W, y, ex, 6, rfl, by decide, S, Rp.same cut4_rd ry, xe, by omega, ⟨bb0, bb1⟩, fun R2 G2 S2 l2 x2 => ⟨sz (by simp), fun ar G3 nr sr er => ?_⟩⟩
          obtain ⟨xs', e1, e2, q⟩ := fin _ ek R2 G2 S2 l2 x2 G3 ar sr er
          exact ⟨sl, xs', _, rfl, rfl, e1, e2, q⟩
        · cases k1
      · rcases kz with ⟨rfl, ek⟩ | ⟨z, rfl, ek⟩
        · exact absurd rfl k1
        · refine ⟨_, rfl, a1, _, 2, _, rfl, rfl, up Same4.refl, atI_nat (j := 2) rfl, ?_⟩
          refine ⟨_, rfl, o, C, dx, _, .ref sl, rfl, ob, c.cls, c.sends, rfl, .inl ⟨rfl, _, SqL.of esl⟩, _, rfl, a1, _, 1, _, rfl, rfl, up Same4.refl, atI_nat (j := 1) rfl, _, rfl, _, rfl, o, dx, _, rfl, ob, rfl, _, rfl, a1, _, 3, y, rfl, rfl, up Same4.refl, atI_nat (j := 3) rfl, o, d, sl, rd, wd, key, body, fb, st, R, W, y, ex, 6, rfl, by decide, S, Rp.same cut4_rd ry, xe, by omega, ⟨bb0, bb1⟩, fun R2 G2 S2 l2 x2 => ⟨sz (by simp), fun ar G3 nr sr er => ?_⟩⟩
          obtain ⟨xs', e1, e2, q⟩ := fin _ ek R2 G2 S2 l2 x2 G3 ar sr er
          exact ⟨sl, xs', _, rfl, rfl, e1, e2, q⟩
    · cases rp with
      | @tup a1 ys es qx rx =>
      obtain ⟨hv, xcv, xa, xb, _, _, _, _, rfl, e2, rh, rxcv, rxa, rxb⟩ := four_of rx (by rfl)
      cases e2
      cases rh
      have up : ∀ {G : Hp}, Same4 d sl rd wd H G → SqT K G a1 [.str "if", xcv, xa, xb] := fun s => sqT_same cut4_le (sqT_same (cut4_same s) qx)
      have lem := roomAll_le (deedR_le j) ra1
      have lem2 := roomAll_le (deedR_le j) ra2
      refine ⟨_, rfl, a1, _, 0, _, rfl, rfl, up Same4.refl, atI_nat (j := 0) rfl, ?_⟩
      refine ⟨_, rfl, .str _, _, .str _, rfl, _, rfl, ite2 (fun i1 => absurd i1 (by decide +kernel)) (fun i1 => ?_)⟩
      refine ⟨_, rfl, .str _, _, .str _, rfl, _, rfl, ite2 (fun i2 => ?_) (fun i2 => absurd (by decide +kernel) i2)⟩
      rw [deed_if] at k
      refine ⟨_, rfl, o, dx, _, rfl, ob, rfl, _, rfl, o, dx, _, rfl, ob, rfl, _, rfl, a1, _, 1, xcv, rfl, rfl, up Same4.refl, atI_nat (j := 1) rfl, o, d, sl, rd, wd, key, body, fb, st, R, W, xcv, cc, 6, rfl, by decide, S, Rp.same cut4_rd rxcv, xc, by omega, ⟨bb0, bb1⟩, fun R1 H1 S1 l1 s1 => ⟨_, rfl, ite2 (fun c1 => ?_) (fun c1 => ?_)⟩⟩
      · rw [if_pos c1] at k
        refine ⟨_, rfl, a1, _, 2, xa, rfl, rfl, up (Same4.ofX s1), atI_nat (j := 2) rfl, o, d, sl, rd, wd, key, body, fb, st, R1, W, xa, as, j, r, rm, rfl, by omega, S1, Rp.same (cut4_same (Same4.ofX s1)) rxa, ra1, ⟨by omega, by omega, by omega, by omega, bK, bb0, bb1⟩, fun G2 A => ?_⟩
        obtain ⟨⟨R2, W2, S2, cR2, cW2⟩, cs2, ct2, fr2⟩ := A
        exact k G2 ⟨⟨R2, W2, S2, by omega, by omega⟩, by omega, by omega, (Same4.ofX s1).trans fr2⟩
      · rw [if_neg c1] at k
        refine ⟨_, rfl, a1, _, 3, xb, rfl, rfl, up (Same4.ofX s1), atI_nat (j := 3) rfl, o, d, sl, rd, wd, key, body, fb, st, R1, W, xb, bs, j, rm, r', rfl, by omega, S1, Rp.same (cut4_same (Same4.ofX s1)) rxb, ra2, ⟨by omega, by omega, by omega, by omega, bK, bb0, bb1⟩, fun G2 A => ?_⟩
        obtain ⟨⟨R2, W2, S2, cR2, cW2⟩, cs2, ct2, fr2⟩ := A
        exact k G2 ⟨⟨R2, W2, S2, by omega, by omega⟩, by omega, by omega, (Same4.ofX s1).trans fr2⟩
theorem ok_dos {{f C fWo fHo fDa : Addr}} {{fd fdWo fdHo fdDa : FuncData}} (F : Fun K "do_one" "Run.do_one" sDo f fd) (FA : Fun K "do_all" "Run.do_all" sDa fDa fdDa) (c : RunC K C)
    (GWo : FnOk P w K mg base CX0 9 fWo fdWo ["self", "expression"] (spWo K C 7)) (mWo : Meth K C "worth" fWo) (bWo : Binds K fdWo ["self", "expression"] [])
    (GHo : FnOk P w K mg base CX0 17 fHo fdHo ["self", "condition"] (spHo K C 7)) (mHo : Meth K C "holds" fHo) (bHo : Binds K fdHo ["self", "condition"] [])
    (mDo : Meth K C "do_one" f) (bDo : Binds K fd ["self", "deed"] []) (mDa : Meth K C "do_all" fDa) (bDa : Binds K fdDa ["self", "deeds"] []) : ∀ m, FnOk P w K mg base CX0 (2 * m + 19) fDa fdDa ["self", "deeds"] (spDa K C m)
  | 0 => by
    refine FA.ok scDa (fun vs H Q E h => ?_) (fun cdv A outer s H vs Q E hr h => ?_)
    · obtain ⟨o, d, sl, rd, wd, key, body, fb, st, R, W, v, ds, i, r, r', rfl, _⟩ := h
      rfl
    · obtain ⟨o, d, sl, rd, wd, key, body, fb, st, R, W, v, ds, i, r, r', rfl, lt, _⟩ := h
      exact absurd lt (Nat.not_lt_zero _)
  | m + 1 => ok_da FA c (m + 1) (2 * m + 20) (ok_do F c m (2 * m + 19) (by omega) GWo mWo bWo GHo mHo bHo (ok_dos F FA c GWo mWo bWo GHo mHo bHo mDo bDo mDa bDa m) mDa bDa) mDo bDo
end
end Hd

set_option Elab.async false
set_option linter.all false
set_option maxRecDepth 100000
set_option maxHeartbeats 8000000
namespace Hd
open PySem L2 Pen RG Dat KEq
abbrev sIn : Stmt := inCl cRun 0
theorem tput_new : ∀ {t : List (Z × Int)} {z : Z} {v : Int}, z ∉ t.map (·.1) → tput t z v = t ++ [(z, v)]
  | [], _, _, _ => rfl
  | e :: t, z, v, h => by
    rw [List.map_cons, List.mem_cons] at h
    rw [show tput (e :: t) z v = e :: tput t z v from if_neg fun y => h (.inl y.symm), tput_new fun y => h (.inr y)]
    rfl
theorem dcT_tup {K : PySem.W.Frag} {a : Addr} {xs : List V} {g : TG} {tt : TT} {tk tv : TE} {vs : List Nat} {σ : L2.St} {H1 : Hp} {D : Addr} {Qd : Hp → Prop} (Pv : Nat → Hp → Prop) (h0 : Pv 0 (upd H1 D (.dT []))) (hl : ∀ i H, i ≤ xs.length → Pv i H → SqT K H a xs)
    (hs : ∀ i x H, xs[i]? = some x → Pv i H → g x (wipe σ vs) H fun σ2 H2 => wipe σ2 vs = wipe σ vs ∧ tt σ2 H2 fun b H3 =>
      if b = true then tk σ2 H3 fun y H4 => tv σ2 H4 fun z H5 => ∃ kvs k b, y = .ref b ∧ H5 b = some (.tup (k.map kV)) ∧ H5 D = some (.dT kvs) ∧ kvs.length < sizeLine ∧ Pv (i + 1) (upd H5 D (.dT (putK kvs k z))) else Pv (i + 1) H3) (hd : ∀ H, Pv xs.length H → Qd H) :
    ∃ W : Nat → Nat → Hp → Prop, (∃ m, W 0 m (upd H1 D (.dT []))) ∧ ∀ i m H, W i m H →
      ((Itt K a).stop i H ∧ Qd H) ∨ ((Itt K a).go i H ∧ ∃ N1 : Hp → Prop, (∀ Hz, N1 Hz → ∃ mz, mz < m ∧ W (i + 1) mz Hz) ∧ ∀ x Hy, (Itt K a).yld i H x Hy → g x (wipe σ vs) Hy fun σ2 H2 => wipe σ2 vs = wipe σ vs ∧ tt σ2 H2 fun b H3 =>
        if b = true then tk σ2 H3 fun y H4 => tv σ2 H4 fun z H5 => ∃ kvs k b, y = .ref b ∧ H5 b = some (.tup (k.map kV)) ∧ H5 D = some (.dT kvs) ∧ kvs.length < sizeLine ∧ N1 (upd H5 D (.dT (putK kvs k z))) else N1 H3) := by
  refine ⟨fun i m H => m = xs.length - i ∧ i ≤ xs.length ∧ Pv i H, ⟨xs.length, by simp, Nat.zero_le _, h0⟩, ?_⟩
  rintro i m H ⟨rfl, hi, p⟩
  have q := hl i H hi p
  by_cases hlt : i < xs.length
  · refine .inr ⟨⟨xs, xs[i], q, by simp [hlt]⟩, Pv (i + 1), fun H' p' => ⟨xs.length - (i + 1), by omega, rfl, hlt, p'⟩, fun x H' y => ?_⟩
    obtain ⟨e, y⟩ := y
    subst e
    exact hs i x _ (y xs q) p
  · have e : i = xs.length := by omega
    subst e
    exact .inl ⟨⟨xs, q, Nat.le_refl _⟩, hd H p⟩
theorem sqT_ins {K : PySem.W.Frag} {H : Hp} {o a C dx : Addr} {fs gs : List (Str × V)} {xs : List V} (ho : H o = some (.ins C dx fs)) (h : SqT K H a xs) : SqT K (upd H o (.ins C dx gs)) a xs := by
  rcases h with (h | ⟨q, h⟩) | h
  · exact .inl (.inl ((upd_ne (ne_of h ho (by intro z; cases z))).trans h))
  · exact .inl (.inr ⟨q, (upd_ne (ne_of h ho (by intro z; cases z))).trans h⟩)
  · exact .inr h
theorem none_of {o a : Addr} {H G : Hp} (s : SameX o H G) (n : G a = none) (h : a ≠ o) : H a = none := by
  cases e : H a with
  | none => rfl
  | some v =>
    rw [s a v h e] at n
    cases n
theorem sameX_upd {o : Addr} {H G : Hp} {q : HO} (s : SameX o H G) : SameX o H (upd G o q) := fun x v n h => (upd_ne n).trans (s x v n h)
def spIn (K : PySem.W.Frag) (C : Addr) : Sp := fun vs H Q _ => ∃ (o dx ra ma : Addr) (L : List (Z × Int)) (kd : V) (key : Str) (body : Int), vs = [.ref o, .ref ra, .ref ma] ∧ H o = some (.ins C dx []) ∧ RowsQ K H ra L ∧ RowsOk L ∧ L.length ≤ 800 ∧ SqT K H ma [kd, .str key, .int body] ∧
  ∀ d sl rd wd H', RunS C H' o d sl rd wd key body false ⟨L, []⟩ [] [] → H d = none → H sl = none → H rd = none → H wd = none → SameX o H H' → Q .non H'
section
variable {P : Program} {w : World} {K : PySem.W.Frag} {mg : Str → Option Value} {base : Heap}
theorem scIn : FnScope ["self", "rows", "message", "place", "value"] ["self", "rows", "message"] (defScope sIn) := ⟨rfl, rfl, rfl, by decide +kernel, rfl, by decide +kernel, by decide +kernel⟩
theorem ok_in {f C : Addr} {fd : FuncData} (F : Fun K "__init__" "Run.__init__" sIn f fd) (c : RunC K C) : FnOk P w K mg base CX0 1 f fd ["self", "rows", "message"] (spIn K C) := by
  refine F.ok scIn (fun vs H Q E h => ?_) (fun cdv A outer s H vs Q E hr h => ?_)
  · obtain ⟨o, dx, ra, ma, L, kd, key, body, rfl, _⟩ := h
    rfl
  · obtain ⟨o, dx, ra, ma, L, kd, key, body, rfl, ho, rows, rok, ll, qm, k⟩ := h
    have hu := hu_of hr
    refine ⟨_, (pss_cons (ps_fld (pv 0) (pe_ix ix_tup (pv 2) pe_int (fun _ _ => rfl)) (by rfl))
      (pss_cons (ps_fld (pv 0) (pe_ix ix_tup (pv 2) pe_int (fun _ _ => rfl)) (by rfl))
      (pss_cons (ps_fld (pv 0) (DcT.pe_dcT (own := [("place", 3), ("value", 4)]) (g := gTup K 2 (gCons (gName 3) (gCons (gName 4) gNil))) (tt := tYes) (tk := (tVar 3)) (tv := (tVar 4)) rfl scIn.nd (Nat.lt_of_succ_lt hu) (pi_tup (pv 1)) (blkOk_by (N := ["self", "rows", "message", "place", "value"]) (sc := defScope sIn) (by decide +kernel)) (fun _ _ _ _ _ => ⟨(pg_tup (by rfl) (pgs_cons (pg_name (i := 3) scIn.nd rfl (Or.inl rfl)) (pgs_cons (pg_name (i := 4) scIn.nd rfl (Or.inl rfl)) pgs_nil))), pts_nil, (pv 3), (pv 4)⟩) (fun _ => rfl)) (by rfl))
      (pss_cons (ps_fld (pv 0) (pe_lst pa_nil) (by rfl))
      (pss_cons (ps_fld (pv 0) pe_bl (by rfl))
      (pss_cons (ps_fld (pv 0) pe_dnewT (by rfl))
      (pss_one (ps_fld (pv 0) pe_dnewT (by rfl))))))))), ?_⟩
    obtain ⟨ts, tf, pr⟩ := rows
    have len := paired_length pr
    refine ⟨_, rfl, ma, _, 1, _, rfl, rfl, qm, atI_nat (j := 1) rfl, _, rfl, o, C, dx, _, rfl, ho, c.cls, c.key, by simp, ?_⟩
    have x1 : SameX o H (upd H o (.ins C dx [("key", .str key)])) := sameX_upd SameX.refl
    refine ⟨_, rfl, ma, _, 2, _, rfl, rfl, sqT_ins ho qm, atI_nat (j := 2) rfl, _, rfl, o, C, dx, _, rfl, upd_same, c.cls, c.body, by simp [putF], ?_⟩
    have x2 : SameX o H (upd (upd H o (.ins C dx [("key", .str key)])) o (.ins C dx [("key", .str key), ("body", .int body)])) := sameX_upd x1
    generalize h2e : upd (upd H o (.ins C dx [("key", .str key)])) o (.ins C dx [("key", .str key), ("body", .int body)]) = H2 at x2
    have o2 : H2 o = some (.ins C dx [("key", .str key), ("body", .int body)]) := by rw [← h2e]; exact upd_same
    have tf2 : SqT K H2 ra (ts.map V.ref) := by
      rw [← h2e]
      exact sqT_ins upd_same (sqT_ins ho tf)
    have pr2 : Paired (RowT H2) L ts := by
      have one : ∀ {L : List (Z × Int)} {ts : List Addr}, Paired (RowT H) L ts → Paired (RowT H2) L ts := by
        intro L ts p
        induction p with
        | nil => exact .nil
        | cons x _ ih =>
          refine .cons ?_ ih
          obtain ⟨cc, a1, a2⟩ := x
          exact ⟨cc, x2 _ _ (ne_of a1 ho (by intro z; cases z)) a1, x2 _ _ (ne_of a2 ho (by intro z; cases z)) a2⟩
      exact one pr
    have e2 : upd (upd H o (.ins C dx (putF "key" (.str key) []))) o (.ins C dx (putF "body" (.int body) (putF "key" (.str key) []))) = H2 := h2e
    rw [e2]
    clear e2 h2e
    have nodup := rows_nodup rok
    refine ⟨_, rfl, ra, rfl, ⟨_, tf2⟩, fun D hD => dcT_tup (xs := ts.map V.ref) (fun i G => G D = some (.dT ((L.take i).map ent)) ∧ Same H2 G) ⟨upd_same, same_new hD⟩ (fun i G _ h => sqT_same h.2 tf2) (fun i x G hx h => ?_) (fun G h => ?_)⟩
    · obtain ⟨eD, s2⟩ := h
      obtain ⟨t, ht, rfl⟩ : ∃ c, ts[i]? = some c ∧ V.ref c = x := by
        rw [List.getElem?_map] at hx
        obtain ⟨c, a, b⟩ := Option.map_eq_some_iff.mp hx
        exact ⟨c, a, b⟩
      obtain ⟨e, he, cc, a1, a2⟩ := pget pr2 ht
      have ilt : i < L.length := (List.getElem?_eq_some_iff.mp he).1
      refine ⟨t, _, rfl, SqT.of (s2 _ _ a1), rfl, _, _, rfl, _, _, rfl, rfl, rfl, ?_⟩
      unfold tYes
      simp only [↓reduceIte]
      refine ⟨_, rfl, _, rfl, _, kp e.1, cc, rfl, s2 _ _ a2, eD, ?_, ?_, fun b oo q => ?_⟩
      · rw [List.length_map, List.length_take]
        exact Nat.lt_of_le_of_lt (show min i L.length ≤ 800 by omega) (by decide)
      · have tk : L.take (i + 1) = L.take i ++ [e] := take_more he
        have nn : (((L.take i ++ [e])).map (·.1)).Nodup := by
          rw [← tk, List.map_take]
          exact nodup.sublist (List.take_sublist _ _)
        rw [List.map_append, List.nodup_append] at nn
        have ni : e.1 ∉ (L.take i).map (·.1) := fun m => nn.2.2 _ m _ List.mem_cons_self rfl
        have pe := put_ent (L.take i) e.1 e.2 nn.1
        rw [tput_new ni] at pe
        rw [upd_same, tk]
        exact congrArg (fun q => some (HO.dT q)) pe
      · rw [upd_ne (ne_of_none q hD)]
        exact s2 _ _ q
    obtain ⟨eD, s2⟩ := h
    rw [List.length_map, ← len, List.take_length] at eD
    have oD : o ≠ D := ne_of_none o2 hD
    refine ⟨_, rfl, o, C, dx, _, rfl, s2 _ _ o2, c.cls, c.table, by show 2 < 1000; decide, ?_⟩
    refine ⟨Nat.zero_le _, fun sl nsl => ⟨_, rfl, o, C, dx, _, rfl, (upd_ne (ne_of_none upd_same nsl)).trans upd_same, c.cls, c.sends, by show 3 < 1000; decide, ?_⟩⟩
    refine ⟨_, rfl, o, C, dx, _, rfl, upd_same, c.cls, c.failed, by show 4 < 1000; decide, ?_⟩
    intro rd nrd
    refine ⟨_, rfl, o, C, dx, _, rfl, (upd_ne (ne_of_none upd_same nrd)).trans upd_same, c.cls, c.reads, by show 5 < 1000; decide, ?_⟩
    intro wd nwd
    refine ⟨_, rfl, o, C, dx, _, rfl, (upd_ne (ne_of_none upd_same nwd)).trans upd_same, c.cls, c.writes, by show 6 < 1000; decide, ?_⟩
    have osl : o ≠ sl := ne_of_none upd_same nsl
    have ord : o ≠ rd := ne_of_none upd_same nrd
    have owd : o ≠ wd := ne_of_none upd_same nwd
    have nsl : (upd G o (.ins C dx [("key", .str key), ("body", .int body), ("table", .ref D)])) sl = none := nsl
    have nrd : (upd (upd (upd (upd G o (.ins C dx [("key", .str key), ("body", .int body), ("table", .ref D)])) sl (.lst [])) o (.ins C dx [("key", .str key), ("body", .int body), ("table", .ref D), ("sends", .ref sl)])) o (.ins C dx [("key", .str key), ("body", .int body), ("table", .ref D), ("sends", .ref sl), ("failed", .bl false)])) rd = none := nrd
    have nwd : (upd (upd (upd (upd (upd (upd G o (.ins C dx [("key", .str key), ("body", .int body), ("table", .ref D)])) sl (.lst [])) o (.ins C dx [("key", .str key), ("body", .int body), ("table", .ref D), ("sends", .ref sl)])) o (.ins C dx [("key", .str key), ("body", .int body), ("table", .ref D), ("sends", .ref sl), ("failed", .bl false)])) rd (.dT [])) o (.ins C dx [("key", .str key), ("body", .int body), ("table", .ref D), ("sends", .ref sl), ("failed", .bl false), ("reads", .ref rd)])) wd = none := nwd
    have D3 : (upd G o (.ins C dx [("key", .str key), ("body", .int body), ("table", .ref D)])) D = some (.dT (L.map ent)) := (upd_ne oD.symm).trans eD
    have Dsl : D ≠ sl := ne_of_none D3 nsl
    have D5 : (upd (upd (upd (upd G o (.ins C dx [("key", .str key), ("body", .int body), ("table", .ref D)])) sl (.lst [])) o (.ins C dx [("key", .str key), ("body", .int body), ("table", .ref D), ("sends", .ref sl)])) o (.ins C dx [("key", .str key), ("body", .int body), ("table", .ref D), ("sends", .ref sl), ("failed", .bl false)])) D = some (.dT (L.map ent)) := (upd_ne oD.symm).trans ((upd_ne oD.symm).trans ((upd_ne Dsl).trans D3))
    have Drd : D ≠ rd := ne_of_none D5 nrd
    have D6 : (upd (upd (upd (upd (upd (upd G o (.ins C dx [("key", .str key), ("body", .int body), ("table", .ref D)])) sl (.lst [])) o (.ins C dx [("key", .str key), ("body", .int body), ("table", .ref D), ("sends", .ref sl)])) o (.ins C dx [("key", .str key), ("body", .int body), ("table", .ref D), ("sends", .ref sl), ("failed", .bl false)])) rd (.dT [])) o (.ins C dx [("key", .str key), ("body", .int body), ("table", .ref D), ("sends", .ref sl), ("failed", .bl false), ("reads", .ref rd)])) D = some (.dT (L.map ent)) := (upd_ne oD.symm).trans ((upd_ne Drd).trans D5)
    have Dwd : D ≠ wd := ne_of_none D6 nwd
    have S5 : (upd (upd (upd (upd G o (.ins C dx [("key", .str key), ("body", .int body), ("table", .ref D)])) sl (.lst [])) o (.ins C dx [("key", .str key), ("body", .int body), ("table", .ref D), ("sends", .ref sl)])) o (.ins C dx [("key", .str key), ("body", .int body), ("table", .ref D), ("sends", .ref sl), ("failed", .bl false)])) sl = some (.lst []) := (upd_ne osl.symm).trans ((upd_ne osl.symm).trans upd_same)
    have slrd : sl ≠ rd := ne_of_none S5 nrd
    have S6 : (upd (upd (upd (upd (upd (upd G o (.ins C dx [("key", .str key), ("body", .int body), ("table", .ref D)])) sl (.lst [])) o (.ins C dx [("key", .str key), ("body", .int body), ("table", .ref D), ("sends", .ref sl)])) o (.ins C dx [("key", .str key), ("body", .int body), ("table", .ref D), ("sends", .ref sl), ("failed", .bl false)])) rd (.dT [])) o (.ins C dx [("key", .str key), ("body", .int body), ("table", .ref D), ("sends", .ref sl), ("failed", .bl false), ("reads", .ref rd)])) sl = some (.lst []) := (upd_ne osl.symm).trans ((upd_ne slrd).trans S5)
    have slwd : sl ≠ wd := ne_of_none S6 nwd
    have R6 : (upd (upd (upd (upd (upd (upd G o (.ins C dx [("key", .str key), ("body", .int body), ("table", .ref D)])) sl (.lst [])) o (.ins C dx [("key", .str key), ("body", .int body), ("table", .ref D), ("sends", .ref sl)])) o (.ins C dx [("key", .str key), ("body", .int body), ("table", .ref D), ("sends", .ref sl), ("failed", .bl false)])) rd (.dT [])) o (.ins C dx [("key", .str key), ("body", .int body), ("table", .ref D), ("sends", .ref sl), ("failed", .bl false), ("reads", .ref rd)])) rd = some (.dT []) := (upd_ne ord.symm).trans upd_same
    have rdwd : rd ≠ wd := ne_of_none R6 nwd
    have xG : SameX o H G := fun z v n h => s2 _ _ (x2 z v n h)
    have x3 : SameX o H (upd G o (.ins C dx [("key", .str key), ("body", .int body), ("table", .ref D)])) := sameX_upd xG
    have x4 : SameX o H (upd (upd G o (.ins C dx [("key", .str key), ("body", .int body), ("table", .ref D)])) sl (.lst [])) := fun z v n h => (upd_ne (ne_of_none (x3 z v n h) nsl)).trans (x3 z v n h)
    have x5 : SameX o H (upd (upd (upd (upd G o (.ins C dx [("key", .str key), ("body", .int body), ("table", .ref D)])) sl (.lst [])) o (.ins C dx [("key", .str key), ("body", .int body), ("table", .ref D), ("sends", .ref sl)])) o (.ins C dx [("key", .str key), ("body", .int body), ("table", .ref D), ("sends", .ref sl), ("failed", .bl false)])) := sameX_upd (sameX_upd x4)
    have x6a : SameX o H (upd (upd (upd (upd (upd G o (.ins C dx [("key", .str key), ("body", .int body), ("table", .ref D)])) sl (.lst [])) o (.ins C dx [("key", .str key), ("body", .int body), ("table", .ref D), ("sends", .ref sl)])) o (.ins C dx [("key", .str key), ("body", .int body), ("table", .ref D), ("sends", .ref sl), ("failed", .bl false)])) rd (.dT [])) := fun z v n h => (upd_ne (ne_of_none (x5 z v n h) nrd)).trans (x5 z v n h)
    have x6 : SameX o H (upd (upd (upd (upd (upd (upd G o (.ins C dx [("key", .str key), ("body", .int body), ("table", .ref D)])) sl (.lst [])) o (.ins C dx [("key", .str key), ("body", .int body), ("table", .ref D), ("sends", .ref sl)])) o (.ins C dx [("key", .str key), ("body", .int body), ("table", .ref D), ("sends", .ref sl), ("failed", .bl false)])) rd (.dT [])) o (.ins C dx [("key", .str key), ("body", .int body), ("table", .ref D), ("sends", .ref sl), ("failed", .bl false), ("reads", .ref rd)])) := sameX_upd x6a
    have x7a : SameX o H (upd (upd (upd (upd (upd (upd (upd G o (.ins C dx [("key", .str key), ("body", .int body), ("table", .ref D)])) sl (.lst [])) o (.ins C dx [("key", .str key), ("body", .int body), ("table", .ref D), ("sends", .ref sl)])) o (.ins C dx [("key", .str key), ("body", .int body), ("table", .ref D), ("sends", .ref sl), ("failed", .bl false)])) rd (.dT [])) o (.ins C dx [("key", .str key), ("body", .int body), ("table", .ref D), ("sends", .ref sl), ("failed", .bl false), ("reads", .ref rd)])) wd (.dT [])) := fun z v n h => (upd_ne (ne_of_none (x6 z v n h) nwd)).trans (x6 z v n h)
    exact k D sl rd wd (upd (upd (upd (upd (upd (upd (upd (upd G o (.ins C dx [("key", .str key), ("body", .int body), ("table", .ref D)])) sl (.lst [])) o (.ins C dx [("key", .str key), ("body", .int body), ("table", .ref D), ("sends", .ref sl)])) o (.ins C dx [("key", .str key), ("body", .int body), ("table", .ref D), ("sends", .ref sl), ("failed", .bl false)])) rd (.dT [])) o (.ins C dx [("key", .str key), ("body", .int body), ("table", .ref D), ("sends", .ref sl), ("failed", .bl false), ("reads", .ref rd)])) wd (.dT [])) o (.ins C dx [("key", .str key), ("body", .int body), ("table", .ref D), ("sends", .ref sl), ("failed", .bl false), ("reads", .ref rd), ("writes", .ref wd)])) ⟨⟨dx, upd_same⟩, ⟨(upd_ne oD.symm).trans ((upd_ne Dwd).trans D6), nodup, rok.ok, [], (upd_ne osl.symm).trans ((upd_ne slwd).trans S6), .nil⟩, (upd_ne ord.symm).trans ((upd_ne rdwd).trans R6), (upd_ne owd.symm).trans upd_same, List.nodup_nil, List.nodup_nil, Drd, Dwd, rdwd⟩
      (none_of x2 hD oD.symm) (none_of x3 nsl osl.symm) (none_of x5 nrd ord.symm) (none_of x6 nwd owd.symm) (sameX_upd x7a)
end
end Hd

set_option Elab.async false
set_option linter.all false
set_option maxRecDepth 100000
set_option maxHeartbeats 8000000
namespace Hd
open PySem L2 Pen RG Dat KEq
abbrev sRws : Stmt := inCl cRun 1
abbrev sTd : Stmt := inCl cRun 2
abbrev sRo : Stmt := top 18
theorem RunS.setF {C : Addr} {G : Hp} {o d sl rd wd dx : Addr} {key : Str} {body : Int} {fb fb' : Bool} {st : Sta} {R W : List Z} {fs : List (Str × V)} (x : RunS C G o d sl rd wd key body fb st R W) (ho : G o = some (.ins C dx fs)) :
    RunS C (upd G o (.ins C dx [("key", .str key), ("body", .int body), ("table", .ref d), ("sends", .ref sl), ("failed", .bl fb'), ("reads", .ref rd), ("writes", .ref wd)])) o d sl rd wd key body fb' st R W := by
  have n : ∀ {q : Addr} {oo : HO}, G q = some oo → (∀ C dx fs, oo ≠ .ins C dx fs) → q ≠ o := fun hq ne => ne_of hq ho (ne _ _ _)
  have ni : NoT (.ins C dx fs) := ⟨(fun _ z => nomatch z), (fun _ _ z => nomatch z)⟩
  obtain ⟨_, ⟨b1, b2, b3, ts, b4, b5⟩, c, e, f, g, h, i, j⟩ := x
  exact ⟨⟨dx, upd_same⟩, ⟨(upd_ne (n b1 (fun _ _ _ z => nomatch z))).trans b1, b2, b3, ts, (upd_ne (n b4 (fun _ _ _ z => nomatch z))).trans b4, snds_y (a := o) (b := o) (fun a oo h1 _ h => (upd_ne h1).trans h) ho ni ho ni b5⟩, (upd_ne (n c (fun _ _ _ z => nomatch z))).trans c, (upd_ne (n e (fun _ _ _ z => nomatch z))).trans e, f, g, h, i, j⟩
def spRws (C : Addr) : Sp := fun vs H Q _ => ∃ (o d sl rd wd : Addr) (key : Str) (body : Int) (fb : Bool) (st : Sta) (R W : List Z), vs = [.ref o] ∧ RunS C H o d sl rd wd key body fb st R W ∧ st.t.length ≤ 900 ∧
  ∀ zs r H', Srt (st.t.map (·.1)) zs → Same H H' → RowsAt H' r (rowsOf st.t zs) → Q (.ref r) H'
def spTd (C : Addr) : Sp := fun vs H Q _ => ∃ (o d sl rd wd : Addr) (key : Str) (body : Int) (st : Sta) (R W : List Z), vs = [.ref o] ∧ RunS C H o d sl rd wd key body false st R W ∧
  ∀ r (ts : List Addr) H', DpT.TupF H' r (ts.map V.ref) → Paired (SndT H') st.ss ts → Same H H' → Q (.ref r) H'
def spRo (K : PySem.W.Frag) (C : Addr) : Sp := fun vs H Q _ => ∃ (v : V) (ds : List PyData) (r' : Nat) (ra ma : Addr) (L : List (Z × Int)) (kd : V) (key : Str) (body : Int), vs = [v, .ref ra, .ref ma] ∧ Rp K H v (.tuple ds) ∧ roomAll (deedR 3) ds 12 = some r' ∧ RowsQ K H ra L ∧ RowsOk L ∧ L.length ≤ 800 ∧
  SqT K H ma [kd, .str key, .int body] ∧ isWord (.str key) = true ∧ (-99 ≤ body ∧ body ≤ 99) ∧
  ∀ o d sl rd wd R W H', RunS C H' o d sl rd wd key body (!(runAll (deedE key body 3) ds ⟨L, []⟩).1) (runAll (deedE key body 3) ds ⟨L, []⟩).2 R W → (runAll (deedE key body 3) ds ⟨L, []⟩).2.t.length ≤ 900 → Same H H' → Q (.ref o) H'
section
variable {P : Program} {w : World} {K : PySem.W.Frag} {mg : Str → Option Value} {base : Heap}
theorem scRws : FnScope ["self", "places", "place"] ["self"] (defScope sRws) := ⟨rfl, rfl, rfl, by decide +kernel, rfl, by decide +kernel, by decide +kernel⟩
theorem scTd : FnScope ["self"] ["self"] (defScope sTd) := ⟨rfl, rfl, rfl, by decide +kernel, rfl, by decide +kernel, by decide +kernel⟩
theorem scRo : FnScope ["handler", "rows", "message", "run"] ["handler", "rows", "message"] (defScope sRo) := ⟨rfl, rfl, rfl, by decide +kernel, rfl, by decide +kernel, by decide +kernel⟩
theorem ok_td {f C : Addr} {fd : FuncData} (F : Fun K "told" "Run.told" sTd f fd) (T : TxtS mg) (c : RunC K C) : FnOk P w K mg base CX0 1 f fd ["self"] (spTd C) := by
  refine F.ok scTd (fun vs H Q E h => ?_) (fun cdv A outer s H vs Q E hr h => ?_)
  · obtain ⟨o, d, sl, rd, wd, key, body, st, R, W, rfl, _⟩ := h
    rfl
  · obtain ⟨o, d, sl, rd, wd, key, body, st, R, W, rfl, S, k⟩ := h
    refine ⟨_, (pss_one (ps_ret (pe_ifExp (pt_val (pe_fld (pv 0) (by rfl))) (Ab.pe_tupA pa_nil) (pe_callTy DpT.call_tupleF (by rfl) T.tuple (by decide +kernel) (pa_cons (pe_fld (pv 0) (by rfl)) pa_nil))))), ?_⟩
    obtain ⟨dx, ob⟩ := S.obj
    obtain ⟨ts, esl, p⟩ := S.sta.lst
    refine ⟨_, rfl, o, C, dx, _, .bl false, rfl, ob, c.cls, c.failed, rfl, _, rfl, ite2 (fun h1 => by cases h1) (fun _ => ?_)⟩
    refine ⟨_, rfl, o, C, dx, _, .ref sl, rfl, ob, c.cls, c.sends, rfl, sl, _, rfl, SqL.of esl, fun l q nl oc od => ?_⟩
    exact k l ts _ ⟨q, oc, od, upd_same⟩ (snds_y (Same.Y (a := sl) (b := sl) (same_new nl)) esl noT_lst esl noT_lst p) (same_new nl)
theorem ok_rws {f C : Addr} {fd : FuncData} (F : Fun K "rows" "Run.rows" sRws f fd) (T : TxtS mg) (c : RunC K C) : FnOk P w K mg base CX0 1 f fd ["self"] (spRws C) := by
  refine F.ok scRws (fun vs H Q E h => ?_) (fun cdv A outer s H vs Q E hr h => ?_)
  · obtain ⟨o, d, sl, rd, wd, key, body, fb, st, R, W, rfl, _⟩ := h
    rfl
  · obtain ⟨o, d, sl, rd, wd, key, body, fb, st, R, W, rfl, S, hl, k⟩ := h
    have hu := hu_of hr
    refine ⟨_, (pss_cons (ps_set (i := 1) scRws.nd rfl (Or.inl rfl) (pe_callB (KSrt.call_sortedT rfl) (by rfl) T.sorted (by decide +kernel) (pa_cons (pe_fld (pv 0) (by rfl)) pa_nil)))
      (pss_one (ps_ret (pe_callTy DpT.call_tupleF (by rfl) T.tuple (by decide +kernel) (pa_cons (pe_lc (own := [("place", 2)]) (g := gName 2) (tt := (tTest (tOp rNe (tDGet (tFld K (tVar 0) "table") (tVar 2)) (tC (.int 0))))) (te := (Ab.tTupA (tCons (tVar 2) (tCons (tDGet (tFld K (tVar 0) "table") (tVar 2)) tNil)))) rfl scRws.nd (pi_list (pv 1)) (blkOk_by (N := ["self", "places", "place"]) (sc := defScope sRws) (by decide +kernel)) (fun _ _ _ _ _ => by exact (pg_name (i := 2) scRws.nd rfl (Or.inl rfl))) (fun _ _ _ _ _ => by exact pts_one (pt_cmpR op_ne (pe_dget hu (pe_fld (pv 0) (by rfl)) (pv 2) (fun _ _ => rfl)) pe_int (nomark _))) (fun _ _ _ _ _ => by exact (Ab.pe_tupA (pa_cons (pv 2) (pa_cons (pe_dget hu (pe_fld (pv 0) (by rfl)) (pv 2) (fun _ _ => rfl)) pa_nil))))) pa_nil))))), ?_⟩
    obtain ⟨dx, ob⟩ := S.obj
    have hd := S.sta.tab
    have nd := S.sta.nd
    refine ⟨_, rfl, o, C, dx, _, .ref d, rfl, ob, c.cls, c.table, rfl, d, st.t.map ent, st.t.map (·.1), rfl, .inl hd, keys_ent st.t, by rw [List.length_map]; omega, fun p zs cs np pm nds up pr => ?_⟩
    have s0 : Same H (upd H p (.lst (cs.map V.ref))) := same_new np
    have lz : zs.length = st.t.length := by rw [pm.length_eq, List.length_map]
    have lc : zs.length = cs.length := paired_length pr
    refine ⟨_, rfl, p, rfl, ⟨_, SqL.of upd_same⟩, fun D hD => ?_⟩
    refine lc_list (K := K) (a := p) (xs := cs.map V.ref) (fun i G => ∃ ts : List Addr, G D = some (.lst (ts.map V.ref)) ∧ Paired (RowT G) (rowsOf st.t (zs.take i)) ts ∧ Same (upd H p (.lst (cs.map V.ref))) G) ⟨[], upd_same, .nil, same_new hD⟩ (fun i G _ h => ?_) (fun i x G hx h => ?_) (fun G h => ?_)
    · obtain ⟨ts, _, _, s1⟩ := h
      exact SqL.of (s1 _ _ upd_same)
    · obtain ⟨ts, eD, rows, s1⟩ := h
      obtain ⟨cc, hc, rfl⟩ : ∃ c, cs[i]? = some c ∧ V.ref c = x := by
        rw [List.getElem?_map] at hx
        obtain ⟨c, a, b⟩ := Option.map_eq_some_iff.mp hx
        exact ⟨c, a, b⟩
      obtain ⟨z, hz, hcz⟩ := pget pr hc
      have ec : G cc = some (.tup [.str z.1, .str z.2]) := s1 _ _ (s0 _ _ hcz)
      have ed : G d = some (.dT (st.t.map ent)) := s1 _ _ (s0 _ _ hd)
      have eo := s1 _ _ (s0 _ _ ob)
      obtain ⟨v, hv, _⟩ := lk_some (t := st.t) (z := z) (pm.mem_iff.mp (List.mem_of_getElem? hz))
      have dg : ∀ {G2 : Hp}, Same G G2 → DGet G2 d (.ref cc) (some (.int v)) := fun {G2} s2 => by
        have q := DGet.t (k := kp z) (s2 _ _ ed) (s2 _ _ ec)
        rw [val_ent, hv] at q
        exact q
      have tk : zs.take (i + 1) = zs.take i ++ [z] := take_more hz
      have il : i < 1000 := by
        have := (List.getElem?_eq_some_iff.mp hz).1
        omega
      have tl : ts.length ≤ 1000 := by
        have a := rowsOf_len st.t (zs.take i)
        rw [paired_length rows, List.length_take] at a
        omega
      refine ⟨rfl, _, rfl, o, C, dx, _, .ref d, rfl, eo, c.cls, c.table, rfl, _, rfl, d, _, rfl, dg (.refl G), rfl, _, rfl, ite2 (fun h1 => ?_) (fun h1 => ?_)⟩
      · have nz : (lk st.t z).getD 0 ≠ 0 := by
          rw [hv]
          intro e
          have e : v = 0 := e
          rw [e] at h1
          exact absurd h1 (by simp)
        refine ⟨_, rfl, _, rfl, o, C, dx, _, .ref d, rfl, eo, c.cls, c.table, rfl, _, rfl, d, _, rfl, dg (.refl G), sz (by simp), fun r G2 n2 s2 e2 => ⟨ts.map V.ref, s2 _ _ eD, ?_, ts ++ [r], ?_, ?_, ?_⟩⟩
        · rw [List.length_map]
          exact Nat.lt_of_le_of_lt tl (by decide)
        · rw [upd_same, List.map_append]
          rfl
        · rw [tk, rowsOf_snoc, if_pos nz]
          refine paired_snoc ?_ (rows_put (s2 _ _ eD) (rows_same s2 rows))
          rw [hv]
          exact ⟨cc, (upd_ne (ne_of e2 (s2 _ _ eD) (by intro y; cases y))).trans e2, (upd_ne (ne_of (s2 _ _ ec) (s2 _ _ eD) (by intro y; cases y))).trans (s2 _ _ ec)⟩
        · intro b oo y
          rw [upd_ne (ne_of_none y hD)]
          exact s2 _ _ (s1 _ _ y)
      · have nz : ¬ (lk st.t z).getD 0 ≠ 0 := by
          rw [hv]
          intro e
          have e : v ≠ 0 := e
          exact h1 (by simpa using e)
        exact ⟨ts, eD, by rw [tk, rowsOf_snoc, if_neg nz]; exact rows, s1⟩
    · obtain ⟨ts, eD, rows, s1⟩ := h
      rw [List.length_map, ← lc, List.take_length] at rows
      refine ⟨D, ts.map V.ref, rfl, SqL.of eD, fun l q nl oc od => k zs l _ ⟨pm, nds, up⟩ (s0.trans (s1.trans (same_new nl))) ⟨ts, ⟨q, oc, od, upd_same⟩, rows_same (same_new nl) rows⟩⟩
theorem ok_ro {f fIn fDa C : Addr} {fd fdIn fdDa : FuncData} (F : Fun K "run_of" "run_of" sRo f fd) (c : RunC K C) (mgR : mg "Run" = some (.ref C)) (mkI : Mk K C fIn)
    (GIn : FnOk P w K mg base CX0 1 fIn fdIn ["self", "rows", "message"] (spIn K C)) (bIn : Binds K fdIn ["self", "rows", "message"] [])
    (GDa : FnOk P w K mg base CX0 27 fDa fdDa ["self", "deeds"] (spDa K C 4)) (mDa : Meth K C "do_all" fDa) (bDa : Binds K fdDa ["self", "deeds"] []) : FnOk P w K mg base CX0 28 f fd ["handler", "rows", "message"] (spRo K C) := by
  refine F.ok scRo (fun vs H Q E h => ?_) (fun cdv A outer s H vs Q E hr h => ?_)
  · obtain ⟨v, ds, r', ra, ma, L, kd, key, body, rfl, _⟩ := h
    rfl
  · obtain ⟨v, ds, r', ra, ma, L, kd, key, body, rfl, rp, room, rows, rok, ll, qm, wk, ⟨b0, b1⟩, k⟩ := h
    refine ⟨_, (pss_cons (ps_set (i := 3) scRo.nd rfl (Or.inl rfl) (pe_make mkI GIn (hr.mono (by decide)) rfl mgR bIn .nil pass0 (pa_cons (pv 1) (pa_cons (pv 2) pa_nil))))
      (pss_cons (ps_fld (pv 3) (pe_not (pe_meth (pv 3) c.cls mDa GDa (hr.mono (by omega)) bDa .nil pass0 (pa_cons (pv 0) pa_nil) (by rfl) (by rfl))) (by rfl))
      (pss_one (ps_ret (pv 3))))), ?_⟩
    refine ⟨_, rfl, _, rfl, fun x dx nx ndx ne => ?_⟩
    have s0 : Same H (upd (upd H dx (.own x)) x (.ins C dx [])) := fun b oo q => (upd_ne (ne_of_none q nx)).trans ((upd_ne (ne_of_none q ndx)).trans q)
    refine ⟨x, dx, ra, ma, L, kd, key, body, rfl, upd_same, rows.same s0, rok, ll, sqT_same s0 qm, fun d sl rd wd G1 S1 nd nsl nrd nwd sx => ⟨rfl, ?_⟩⟩
    have far : ∀ z oo, H z = some oo → z ≠ x ∧ z ≠ d ∧ z ≠ sl ∧ z ≠ rd ∧ z ≠ wd := fun z oo h => ⟨ne_of_none h nx, ne_of_none (s0 _ _ h) nd, ne_of_none (s0 _ _ h) nsl, ne_of_none (s0 _ _ h) nrd, ne_of_none (s0 _ _ h) nwd⟩
    have s1 : Same H G1 := fun z oo h => sx z oo (far z oo h).1 (s0 _ _ h)
    have sc : Same H (cut4 d sl rd wd G1) := fun z oo h => by
      obtain ⟨_, n1, n2, n3, n4⟩ := far z oo h
      unfold cut4
      rw [if_neg (by simp only [not_or]; exact ⟨n1, n2, n3, n4⟩)]
      exact s1 _ _ h
    obtain ⟨dx1, ob1⟩ := S1.obj
    refine ⟨_, rfl, x, dx1, _, rfl, ob1, rfl, _, rfl, x, d, sl, rd, wd, key, body, false, ⟨L, []⟩, [], [], v, ds, 3, 12, r', rfl, by decide, S1, Rp.same sc rp, room, ⟨by show 0 + 16384 * 12 < 400000; decide, by show 0 + 12 ≤ 1000; decide, by show 0 + 12 ≤ 100; decide, by show L.length + 12 ≤ 900; omega, wk, b0, b1⟩, fun G2 A => ?_⟩
    obtain ⟨⟨R2, W2, S2, _, _⟩, _, ct, fr⟩ := A
    have ct : (runAll (deedE key body 3) ds ⟨L, []⟩).2.t.length + r' ≤ L.length + 12 := ct
    obtain ⟨dx2, ob2⟩ := S2.obj
    refine ⟨_, rfl, _, rfl, x, C, dx2, _, rfl, ob2, c.cls, c.failed, by show 7 < 1000; decide, ?_⟩
    refine ⟨_, rfl, ?_⟩
    refine k x d sl rd wd R2 W2 _ (S2.setF ob2) (by omega) (fun z oo h => ?_)
    obtain ⟨n0, n1, n2, n3, n4⟩ := far z oo h
    exact (upd_ne n0).trans (fr z oo n1 n2 n3 n4 (s1 _ _ h))
end
end Hd

set_option Elab.async false
set_option linter.all false
set_option maxRecDepth 100000
set_option maxHeartbeats 8000000
namespace Hd
open PySem L2 Pen RG Dat KEq
abbrev sRh : Stmt := top 31
theorem ps_no {X : Cx} {st : Stmt} : PS X st (fun _ _ _ => False) := ⟨fun _ _ _ _ _ _ h => h.elim⟩
def spRh (K : PySem.W.Frag) : Sp := fun vs H Q _ => ∃ (v : V) (ds : List PyData) (r' : Nat) (ra ma : Addr) (L : List (Z × Int)) (kd key : Str) (body : Int), vs = [v, .ref ra, .ref ma] ∧ Rp K H v (.tuple ds) ∧ sm (.tuple ds) = true ∧ roomAll (deedR 3) ds 12 = some r' ∧ RowsQ K H ra L ∧ RowsOk L ∧ L.length ≤ 800 ∧
  SqT K H ma [.str kd, .str key, .int body] ∧ isWord (.str kd) = true ∧ isWord (.str key) = true ∧ (-99 ≤ body ∧ body ≤ 99) ∧
  ∀ res H', RunAt H' res (runAll (deedE key body 3) ds ⟨L, []⟩) → Same H H' → Q (.ref res) H'
section
variable {P : Program} {w : World} {K : PySem.W.Frag} {mg : Str → Option Value} {base : Heap}
theorem scRh : FnScope ["handler", "rows", "message", "run"] ["handler", "rows", "message"] (defScope sRh) := ⟨rfl, rfl, rfl, by decide +kernel, rfl, by decide +kernel, by decide +kernel⟩
theorem ok_rh {f fH fR fM fO fRw fT C : Addr} {fd fdH fdR fdM fdO fdRw fdT : FuncData} (F : Fun K "run_handler" "run_handler" sRh f fd) (c : RunC K C)
    (GHand : FnOk P w K mg base CX0 27 fH fdH ["value"] (spHand K)) (THand : DefT K mg "is_handler" fH) (bHand : Binds K fdH ["value"] [])
    (GRs : FnOk P w K mg base CX0 4 fR fdR ["value"] (spRs K)) (TRs : DefT K mg "is_rows" fR) (bRs : Binds K fdR ["value"] [])
    (GMs : FnOk P w K mg base CX0 3 fM fdM ["value"] (spMs K)) (TMs : DefT K mg "is_message" fM) (bMs : Binds K fdM ["value"] [])
    (GRo : FnOk P w K mg base CX0 28 fO fdO ["handler", "rows", "message"] (spRo K C)) (TRo : DefT K mg "run_of" fO) (bRo : Binds K fdO ["handler", "rows", "message"] [])
    (GRws : FnOk P w K mg base CX0 1 fRw fdRw ["self"] (spRws C)) (mRws : Meth K C "rows" fRw) (bRws : Binds K fdRw ["self"] [])
    (GTd : FnOk P w K mg base CX0 1 fT fdT ["self"] (spTd C)) (mTd : Meth K C "told" fT) (bTd : Binds K fdT ["self"] []) : FnOk P w K mg base CX0 29 f fd ["handler", "rows", "message"] (spRh K) := by
  refine F.ok scRh (fun vs H Q E h => ?_) (fun cdv A outer s H vs Q E hr h => ?_)
  · obtain ⟨v, ds, r', ra, ma, L, kd, key, body, rfl, _⟩ := h
    rfl
  · obtain ⟨v, ds, r', ra, ma, L, kd, key, body, rfl, rp, small, room, rows, rok, ll, qm, w1, wk, ⟨b0, b1⟩, k⟩ := h
    have hu := hu_of hr
    refine ⟨_, (pss_cons (ps_if (pt_not (pt_val (pe_call GHand (hr.mono (by decide)) rfl THand.mg THand.kp bHand .nil pass0 (pa_cons (pv 0) pa_nil)))) (pss_one ps_no) pss_nil)
      (pss_cons (ps_if (pt_not (pt_val (pe_call GRs (hr.mono (by decide)) rfl TRs.mg TRs.kp bRs .nil pass0 (pa_cons (pv 1) pa_nil)))) (pss_one ps_no) pss_nil)
      (pss_cons (ps_if (pt_not (pt_val (pe_call GMs (hr.mono (by decide)) rfl TMs.mg TMs.kp bMs .nil pass0 (pa_cons (pv 2) pa_nil)))) (pss_one ps_no) pss_nil)
      (pss_cons (ps_set (i := 3) scRh.nd rfl (Or.inl rfl) (pe_call GRo (hr.mono (by decide)) rfl TRo.mg TRo.kp bRo .nil pass0 (pa_cons (pv 0) (pa_cons (pv 1) (pa_cons (pv 2) pa_nil)))))
      (pss_cons (ps_if (pt_val (pe_fld (pv 3) (by rfl))) (pss_one (ps_ret (Ab.pe_tupA (pa_cons pe_str pa_nil)))) pss_nil)
      (pss_one (ps_ret (Ab.pe_tupA (pa_cons pe_str (pa_cons (pe_meth0 (pv 3) c.cls mRws GRws (hr.mono (by decide)) bRws .nil pass0 (by rfl)) (pa_cons (pe_meth0 (pv 3) c.cls mTd GTd (hr.mono (by decide)) bTd .nil pass0 (by rfl)) pa_nil))))))))))), ?_⟩
    have hok : hOk (.tuple ds) = true := by
      show (roomAll (deedR 3) ds 12).isSome = true
      rw [room]
      rfl
    refine ⟨_, rfl, v, _, rfl, rp, small, fun H1 s1 => ⟨_, rfl, ?_⟩⟩
    rw [hok]
    refine iteF ?_
    refine ⟨_, rfl, ra, L, rfl, rows.same s1, rok, by omega, fun H2 s2 => ⟨_, rfl, iteF ?_⟩⟩
    have s12 := s1.trans s2
    refine ⟨_, rfl, ma, kd, key, body, rfl, sqT_same s12 qm, w1, wk, ⟨b0, b1⟩, fun H3 s3 => ⟨_, rfl, iteF ?_⟩⟩
    have s13 := s12.trans s3
    refine ⟨_, rfl, _, rfl, _, rfl, v, ds, r', ra, ma, L, .str kd, key, body, rfl, Rp.same s13 rp, room, rows.same s13, rok, ll, sqT_same s13 qm, wk, ⟨b0, b1⟩, fun o d sl rd wd R W H4 S hl s4 => ?_⟩
    have s14 := s13.trans s4
    obtain ⟨dx, ob⟩ := S.obj
    refine ⟨_, rfl, o, C, dx, _, _, rfl, ob, c.cls, c.failed, rfl, _, rfl, ite2 (fun h1 => ?_) (fun h1 => ?_)⟩
    · refine ⟨sz (by simp), fun r G nr sr er => ?_⟩
      exact k r G (.failed (by simpa using h1) er) (s14.trans sr)
    · have hx : (runAll (deedE key body 3) ds ⟨L, []⟩).1 = true := by simpa using h1
      refine ⟨_, rfl, o, dx, _, rfl, ob, rfl, o, d, sl, rd, wd, key, body, _, _, R, W, rfl, S, hl, fun zs rr G1 srt s5 rws => ?_⟩
      have S5 := S.fresh s5
      rw [hx] at S5
      obtain ⟨dx5, ob5⟩ := S5.obj
      refine ⟨_, rfl, o, dx5, _, rfl, ob5, rfl, o, d, sl, rd, wd, key, body, _, R, W, rfl, S5, fun l ts G2 tf ps s6 => ?_⟩
      refine ⟨sz (by simp), fun r G nr sr er => ?_⟩
      have ps' : Paired (SndT G) (runAll (deedE key body 3) ds ⟨L, []⟩).2.ss ts := by
        have one : ∀ {A : List (Str × Str × Int)} {B : List Addr}, Paired (SndT G2) A B → Paired (SndT G) A B := by
          intro A B p
          induction p with
          | nil => exact .nil
          | cons x _ ih => exact .cons (sr _ _ x) ih
        exact one ps
      have tf' : DpT.TupF G l (ts.map V.ref) := by
        obtain ⟨q, a1, a2, a3⟩ := tf
        exact ⟨q, a1, a2, sr _ _ a3⟩
      exact k r G (.done zs rr l ts hx srt er (rws.same (s6.trans sr)) tf' ps') (((s14.trans s5).trans s6).trans sr)
end
end Hd

set_option Elab.async false
set_option linter.all false
set_option maxRecDepth 100000
set_option maxHeartbeats 8000000
namespace Hd
open PySem L2 Pen RG Dat KEq
/-- to be shown: short leaves, not much -/
structure Sml (n : Nat) (d : PyData) : Prop where
  l : d.leavesShort 13 = true
  s : d.showable = true
  b : d.bulk ≤ n
structure SmlAll (n : Nat) (ds : List PyData) : Prop where
  l : PyData.leavesShortAll 13 ds = true
  s : PyData.showableAll ds = true
  b : PyData.bulkAll ds ≤ n
theorem Sml.mono {n m : Nat} {d : PyData} (x : Sml n d) (h : n ≤ m) : Sml m d := ⟨x.l, x.s, Nat.le_trans x.b h⟩
theorem SmlAll.mono {n m : Nat} {d : List PyData} (x : SmlAll n d) (h : n ≤ m) : SmlAll m d := ⟨x.l, x.s, Nat.le_trans x.b h⟩
theorem SmlAll.nil : SmlAll 0 [] := ⟨by simp only [PyData.leavesShortAll], by simp only [PyData.showableAll], by simp only [PyData.bulkAll]; exact Nat.le_refl _⟩
theorem SmlAll.cons {n m : Nat} {d : PyData} {ds : List PyData} (x : Sml n d) (y : SmlAll m ds) : SmlAll (n + 1 + m) (d :: ds) := by
  refine ⟨?_, ?_, ?_⟩
  · simp only [PyData.leavesShortAll, x.l, y.l, Bool.and_self]
  · simp only [PyData.showableAll, x.s, y.s, Bool.and_self]
  · have := x.b
    have := y.b
    simp only [PyData.bulkAll]
    omega
theorem Sml.tup {n : Nat} {ds : List PyData} (x : SmlAll n ds) : Sml n (.tuple ds) := ⟨by simp only [PyData.leavesShort]; exact x.l, by simp only [PyData.showable]; exact x.s, by simp only [PyData.bulk]; exact x.b⟩
theorem Sml.lst {n : Nat} {ds : List PyData} (x : SmlAll n ds) : Sml n (.list ds) := ⟨by simp only [PyData.leavesShort]; exact x.l, by simp only [PyData.showable]; exact x.s, by simp only [PyData.bulk]; exact x.b⟩
theorem small_int : ((List.range 199).all fun (k : Nat) => (PyData.int ((k : Int) - 99)).leavesShort 13 && (PyData.int ((k : Int) - 99)).showable) = true := by decide +kernel
theorem Sml.int {i : Int} (h0 : -99 ≤ i) (h1 : i ≤ 99) : Sml 0 (.int i) := by
  have := List.all_eq_true.mp small_int (i + 99).toNat (List.mem_range.mpr (by omega))
  rw [Bool.and_eq_true, show (((i + 99).toNat : Nat) : Int) - 99 = i by omega] at this
  exact ⟨this.1, this.2, by simp only [PyData.bulk]; exact Nat.le_refl _⟩
theorem Sml.str {z : Str} {n : Nat} (h : (z.cps.toList.all fun c => decide (c < 16 ^ 8)) = true) (l : z.cps.size ≤ n) : Sml n (.str z) := ⟨by simp only [PyData.leavesShort]; exact h, by simp only [PyData.showable], by simp only [PyData.bulk]; exact l⟩
theorem abc_small : (abc.cps.toList.all fun c => decide (c < 16 ^ 8)) = true := by decide +kernel
theorem Sml.word {z : Str} (h : isWord (.str z) = true) : Sml 6 (.str z) := by
  have a : (decide (1 ≤ z.length) && decide (z.length ≤ 6) && z.cps.toList.all fun c => decide (c ∈ abc.cps.toList)) = true := h
  rw [Bool.and_eq_true] at a
  refine .str (List.all_eq_true.mpr fun c hc => ?_) (word_len h)
  have m := List.all_eq_true.mp a.2 c hc
  exact List.all_eq_true.mp abc_small c (of_decide_eq_true m)
theorem Sml.non : Sml 0 .none := ⟨by simp only [PyData.leavesShort], by simp only [PyData.showable], by simp only [PyData.bulk]; exact Nat.le_refl _⟩
theorem sml_e : ∀ (n : Nat) {d : PyData}, isE (n + 1) d = true → Sml (15 * 2 ^ n - 4) d ∧ 15 ≤ 15 * 2 ^ n
  | n, d, h => by
    have p1 : 1 ≤ 2 ^ n := Nat.one_le_two_pow
    refine ⟨?_, by omega⟩
    obtain ⟨m, hd, tl, e, rfl, q⟩ := e_cases h
    have e : m = n := by omega
    subst e
    rcases q with ⟨h1, i, rfl, i0, i1⟩ | ⟨_, h1, rfl⟩ | ⟨_, _, h1, z, rfl, wz⟩ | ⟨_, _, _, h1, a, b, rfl, ea, eb⟩
    · rw [isS_is h1]
      exact (Sml.tup (.cons (Sml.str (n := 5) (by decide +kernel) (by decide +kernel)) (.cons (.int i0 i1) .nil))).mono (by omega)
    · rw [isS_is h1]
      exact (Sml.tup (.cons (Sml.str (n := 4) (by decide +kernel) (by decide +kernel)) .nil)).mono (by omega)
    · rw [isS_is h1]
      exact (Sml.tup (.cons (Sml.str (n := 3) (by decide +kernel) (by decide +kernel)) (.cons (.word wz) .nil))).mono (by omega)
    · obtain ⟨z, m1, m2⟩ := List.any_eq_true.mp h1
      rw [isS_is m2]
      cases m with
      | zero => cases ea
      | succ m =>
        obtain ⟨sa, pa⟩ := sml_e m ea
        obtain ⟨sb, _⟩ := sml_e m eb
        have hz : Sml 1 (.str z) := by
          simp only [ops, List.mem_cons, List.not_mem_nil, or_false] at m1
          rcases m1 with e | e | e <;> subst e <;> exact .str (by decide +kernel) (by decide +kernel)
        exact (Sml.tup (.cons hz (.cons sa (.cons sb .nil)))).mono (by rw [Nat.pow_succ]; omega)
theorem sml_c : ∀ (n : Nat) {d : PyData}, isC (n + 1) d = true → Sml (970 * 2 ^ n - 6) d ∧ 970 ≤ 970 * 2 ^ n
  | n, d, h => by
    have p1 : 1 ≤ 2 ^ n := Nat.one_le_two_pow
    refine ⟨?_, by omega⟩
    obtain ⟨m, e, q⟩ := c_cases h
    have e : m = n := by omega
    subst e
    rcases q with ⟨z, a, b, hz, rfl, ea, eb⟩ | ⟨a, rfl, ca⟩ | ⟨z, a, b, hz, rfl, ca, cb⟩
    · obtain ⟨sa, _⟩ := sml_e 5 ea
      obtain ⟨sb, _⟩ := sml_e 5 eb
      have hz : Sml 1 (.str z) := by rcases hz with rfl | rfl <;> exact .str (by decide +kernel) (by decide +kernel)
      exact (Sml.tup (.cons hz (.cons sa (.cons sb .nil)))).mono (by omega)
    · cases m with
      | zero => cases ca
      | succ m =>
        obtain ⟨sa, pa⟩ := sml_c m ca
        exact (Sml.tup (.cons (Sml.str (n := 3) (by decide +kernel) (by decide +kernel)) (.cons sa .nil))).mono (by rw [Nat.pow_succ]; omega)
    · cases m with
      | zero => cases ca
      | succ m =>
        obtain ⟨sa, pa⟩ := sml_c m ca
        obtain ⟨sb, _⟩ := sml_c m cb
        have hz : Sml 3 (.str z) := by rcases hz with rfl | rfl <;> exact .str (by decide +kernel) (by decide +kernel)
        exact (Sml.tup (.cons hz (.cons sa (.cons sb .nil)))).mono (by rw [Nat.pow_succ]; omega)
theorem sml_all {f : PyData → Nat → Option Nat} (hf : ∀ d r r', f d r = some r' → r' ≤ r ∧ Sml (32000 * (r + 1) - 32000 * r' - 1) d) : ∀ {ds : List PyData} {r r' : Nat}, roomAll f ds r = some r' → r' ≤ r ∧ SmlAll (32000 * r - 32000 * r') ds
  | [], r, r', h => by
    have e : r = r' := Option.some.inj h
    subst e
    exact ⟨Nat.le_refl _, SmlAll.nil.mono (Nat.zero_le _)⟩
  | _ :: _, 0, _, h => by cases h
  | d :: ds, r + 1, r', h => by
    have h : (f d r).bind (roomAll f ds) = some r' := h
    obtain ⟨r1, a, b⟩ := Option.bind_eq_some_iff.mp h
    obtain ⟨l1, s1⟩ := hf _ _ _ a
    obtain ⟨l2, s2⟩ := sml_all hf b
    exact ⟨by omega, (SmlAll.cons s1 s2).mono (by omega)⟩
theorem sml_d : ∀ (i : Nat) (d : PyData) (r r' : Nat), deedR i d r = some r' → r' ≤ r ∧ Sml (32000 * (r + 1) - 32000 * r' - 1) d
  | i, d, r, r', h => by
    rcases deed_cases h with ⟨rfl, e⟩ | ⟨n, ex, rfl, wn, xe, e⟩ | ⟨n, kd, ex, rfl, wn, xk, xe, e⟩ | ⟨j, c, as, bs, r1, e, rfl, xc, ra, rb⟩
    · exact ⟨by omega, (Sml.tup (.cons (Sml.str (n := 4) (by decide +kernel) (by decide +kernel)) .nil)).mono (by omega)⟩
    · exact ⟨by omega, (Sml.tup (.cons (Sml.str (n := 3) (by decide +kernel) (by decide +kernel)) (.cons (.word wn) (.cons (sml_e 5 xe).1 .nil)))).mono (by omega)⟩
    · have k : Sml 6 kd := by
        cases kd with
        | none => exact Sml.non.mono (by decide)
        | str z => exact .word xk
        | _ => cases xk
      exact ⟨by omega, (Sml.tup (.cons (Sml.str (n := 4) (by decide +kernel) (by decide +kernel)) (.cons (.word wn) (.cons k (.cons (sml_e 5 xe).1 .nil))))).mono (by omega)⟩
    · cases i with
      | zero => cases e
      | succ i =>
        have e : j = i := by omega
        rw [e] at ra rb
        obtain ⟨l1, s1⟩ := sml_all (sml_d i) ra
        obtain ⟨l2, s2⟩ := sml_all (sml_d i) rb
        exact ⟨by omega, (Sml.tup (.cons (Sml.str (n := 2) (by decide +kernel) (by decide +kernel)) (.cons (sml_c 5 xc).1 (.cons (.tup s1) (.cons (.tup s2) .nil))))).mono (by omega)⟩
theorem sml_h {ds : List PyData} {r' : Nat} (h : roomAll (deedR 3) ds 12 = some r') : Sml 384000 (.tuple ds) := .tup ((sml_all (sml_d 3) h).2.mono (by omega))
theorem sml_rows : ∀ {L : List (Z × Int)}, TbOk L → SmlAll (L.length * 17) (L.map rowD)
  | [], _ => SmlAll.nil
  | e :: L, h => by
    obtain ⟨w1, w2, v0, v1⟩ := h e List.mem_cons_self
    have t := sml_rows (L := L) fun x hx => h x (List.mem_cons_of_mem _ hx)
    exact (SmlAll.cons (Sml.tup (.cons (.tup (.cons (.word w1) (.cons (.word w2) .nil))) (.cons (.int v0 v1) .nil))) t).mono (by rw [List.length_cons]; omega)
/-- what a small thing's text is -/
theorem Sml.fits {n : Nat} {d : PyData} (x : Sml n d) (h : n ≤ 2 ^ 20) : d.shown.length ≤ sizeLine := PyData.shown_fits_bulk (by decide) (by decide) x.l (Nat.le_trans x.b h)
end Hd

set_option Elab.async false
set_option linter.all false
set_option maxRecDepth 100000
set_option maxHeartbeats 8000000
namespace Hd
open PySem L2 Pen RG Dat KEq
/-- a state of words and values within the bounds -/
structure StOk (st : Sta) : Prop where
  t : TbOk st.t
  s : ∀ e ∈ st.ss, isWord (.str e.1) = true ∧ isWord (.str e.2.1) = true ∧ -99 ≤ e.2.2 ∧ e.2.2 ≤ 99
structure Grow (st : Sta) (r : Nat) (x : Sta) (r' : Nat) : Prop where
  ok : StOk x
  t : x.t.length + r' ≤ st.t.length + r
  s : x.ss.length + r' ≤ st.ss.length + r
theorem grow_all {f : PyData → Sta → Bool × Sta} {g : PyData → Nat → Option Nat} (hg : ∀ d r r', g d r = some r' → r' ≤ r) (hf : ∀ d r r' st, g d r = some r' → StOk st → Grow st (r + 1) (f d st).2 r') : ∀ {ds : List PyData} {r r' : Nat} {st : Sta}, roomAll g ds r = some r' → StOk st → Grow st r (runAll f ds st).2 r'
  | [], r, r', st, h, o => by
    have e : r = r' := Option.some.inj h
    subst e
    exact ⟨o, Nat.le_refl _, Nat.le_refl _⟩
  | _ :: _, 0, _, _, h, _ => by cases h
  | d :: ds, r + 1, r', st, h, o => by
    have h : (g d r).bind (roomAll g ds) = some r' := h
    obtain ⟨r1, a, b⟩ := Option.bind_eq_some_iff.mp h
    have x := hf _ _ _ st a o
    have le := roomAll_le hg b
    show Grow st (r + 1) (if (f d st).1 = true then runAll f ds (f d st).2 else f d st).2 r'
    by_cases c : (f d st).1 = true
    · rw [if_pos c]
      have y := grow_all hg hf (st := (f d st).2) b x.ok
      have := x.t
      have := x.s
      have := y.t
      have := y.s
      exact ⟨y.ok, by omega, by omega⟩
    · rw [if_neg c]
      have := x.t
      have := x.s
      exact ⟨x.ok, by omega, by omega⟩
theorem grow_d {key : Str} {body : Int} (wk : isWord (.str key) = true) (b0 : -99 ≤ body) (b1 : body ≤ 99) : ∀ (i : Nat) (d : PyData) (r r' : Nat) (st : Sta), deedR i d r = some r' → StOk st → Grow st (r + 1) (deedE key body i d st).2 r'
  | i, d, r, r', st, h, o => by
    have le := deedR_le i _ _ _ h
    rcases deed_cases h with ⟨rfl, e⟩ | ⟨n, ex, rfl, wn, xe, e⟩ | ⟨n, kd, ex, rfl, wn, xk, xe, e⟩ | ⟨j, c, as, bs, r1, e, rfl, xc, ra, rb⟩
    · rw [deed_fail]
      exact ⟨o, by show st.t.length + r' ≤ _; omega, by show st.ss.length + r' ≤ _; omega⟩
    · rw [deed_set]
      have bd := ev_in (key := key) o.t b0 b1 xe
      have tl := tput_len st.t (n, key) (evE st.t key body 6 ex)
      exact ⟨⟨o.t.put wn wk bd.1 bd.2, o.s⟩, by show (tput st.t (n, key) (evE st.t key body 6 ex)).length + r' ≤ _; omega, by show st.ss.length + r' ≤ _; omega⟩
    · rw [deed_send]
      have bd := ev_in (key := key) o.t b0 b1 xe
      have wkk : isWord (.str (keyOf key kd)) = true := by
        rcases key_is xk with rfl | ⟨z, rfl⟩
        · exact wk
        · exact xk
      refine ⟨⟨o.t, fun e he => ?_⟩, by show st.t.length + r' ≤ _; omega, ?_⟩
      · rcases List.mem_append.mp he with he | he
        · exact o.s e he
        · rw [List.mem_singleton.mp he]
          exact ⟨wn, wkk, bd.1, bd.2⟩
      · show (st.ss ++ [(n, keyOf key kd, evE st.t key body 6 ex)]).length + r' ≤ _
        rw [List.length_append, List.length_singleton]
        omega
    · cases i with
      | zero => cases e
      | succ i =>
        have e : j = i := by omega
        rw [e] at ra rb
        have l1 := roomAll_le (deedR_le i) ra
        have l2 := roomAll_le (deedR_le i) rb
        rw [deed_if]
        by_cases c1 : evC st.t key body 6 c = true
        · rw [if_pos c1]
          have y := grow_all (deedR_le i) (grow_d wk b0 b1 i) ra o
          have := y.t
          have := y.s
          exact ⟨y.ok, by omega, by omega⟩
        · rw [if_neg c1]
          have y := grow_all (deedR_le i) (grow_d wk b0 b1 i) rb o
          have := y.t
          have := y.s
          exact ⟨y.ok, by omega, by omega⟩
theorem grow_h {key : Str} {body : Int} {ds : List PyData} {r' : Nat} {L : List (Z × Int)} (wk : isWord (.str key) = true) (b0 : -99 ≤ body) (b1 : body ≤ 99) (h : roomAll (deedR 3) ds 12 = some r') (o : TbOk L) : Grow ⟨L, []⟩ 12 (runAll (deedE key body 3) ds ⟨L, []⟩).2 r' :=
  grow_all (deedR_le 3) (grow_d wk b0 b1 3) h ⟨o, fun e he => by cases he⟩
/-! ### what is told, as data -/
abbrev sndD (e : Str × Str × Int) : PyData := .tuple [.str e.1, .str e.2.1, .int e.2.2]
theorem rp_snds {K : PySem.W.Frag} {H : Hp} : ∀ {L : List (Str × Str × Int)} {ts : List Addr}, Paired (SndT H) L ts → RpAll K H (ts.map V.ref) (L.map sndD)
  | _, _, .nil => .nil
  | _, _, .cons x r => .cons (.tup (SqT.of x) (.cons (.str _) (.cons (.str _) (.cons (.int _) .nil)))) (rp_snds r)
def resD (x : Bool × Sta) (zs : List Z) : PyData := if x.1 = true then .tuple [.str "done", rowsD (rowsOf x.2.t zs), .tuple (x.2.ss.map sndD)] else .tuple [.str "failed"]
theorem sml_snds : ∀ {L : List (Str × Str × Int)}, (∀ e ∈ L, isWord (.str e.1) = true ∧ isWord (.str e.2.1) = true ∧ -99 ≤ e.2.2 ∧ e.2.2 ≤ 99) → SmlAll (L.length * 20) (L.map sndD)
  | [], _ => SmlAll.nil
  | e :: L, h => by
    obtain ⟨w1, w2, v0, v1⟩ := h e List.mem_cons_self
    have t := sml_snds (L := L) fun x hx => h x (List.mem_cons_of_mem _ hx)
    exact (SmlAll.cons (Sml.tup (.cons (.word w1) (.cons (.word w2) (.cons (.int v0 v1) .nil)))) t).mono (by rw [List.length_cons]; omega)
theorem dp_rows : ∀ L : List (Z × Int), PyData.depthAll (L.map rowD) ≤ 2
  | [] => Nat.zero_le _
  | e :: L => Nat.max_le.mpr ⟨by show max (max 0 (max 0 0) + 1) (max 0 0) + 1 ≤ 2; decide, dp_rows L⟩
theorem dp_snds : ∀ L : List (Str × Str × Int), PyData.depthAll (L.map sndD) ≤ 1
  | [] => Nat.zero_le _
  | e :: L => Nat.max_le.mpr ⟨by show max 0 (max 0 (max 0 0)) + 1 ≤ 1; decide, dp_snds L⟩
/-- what a run tells, as data, the keys sorted: short -/
theorem res_fine {x : Bool × Sta} {zs : List Z} (ok : StOk x.2) (srt : Srt (x.2.t.map (·.1)) zs) (l1 : x.2.t.length ≤ 900) (l2 : x.2.ss.length ≤ 100) : Sml 20000 (resD x zs) ∧ (resD x zs).depth ≤ 4 := by
  unfold resD
  split
  · have ro := rows_ok ok.t srt
    have rl := rowsOf_len x.2.t zs
    have zl := srt.perm.length_eq
    rw [List.length_map] at zl
    have s1 := sml_rows ro.ok
    have s2 := sml_snds ok.s
    refine ⟨(Sml.tup (.cons (Sml.str (n := 4) (by decide +kernel) (by decide +kernel)) (.cons (.tup s1) (.cons (.tup s2) .nil)))).mono (by omega), ?_⟩
    have d1 := dp_rows (rowsOf x.2.t zs)
    have d2 := dp_snds x.2.ss
    show max 0 (max (PyData.depthAll ((rowsOf x.2.t zs).map rowD) + 1) (max (PyData.depthAll (x.2.ss.map sndD) + 1) 0)) + 1 ≤ 4
    omega
  · exact ⟨(Sml.tup (.cons (Sml.str (n := 6) (by decide +kernel) (by decide +kernel)) .nil)).mono (by omega), by show max 0 0 + 1 ≤ 4; decide⟩
/-- the data at what a run tells -/
theorem RunAt.rp {K : PySem.W.Frag} {H : Hp} {res : Addr} {x : Bool × Sta} {zs : List Z} (a : RunAt H res x) (srt : Srt (x.2.t.map (·.1)) zs) : Rp K H (.ref res) (resD x zs) := by
  unfold resD
  cases a with
  | failed h e =>
    rw [if_neg (by rw [h]; decide)]
    exact .tup (SqT.of e) (.cons (.str _) .nil)
  | done zs2 ra sa ts h s e r tf ps =>
    rw [if_pos h, srt.one s]
    exact .tup (SqT.of e) (.cons (.str _) (.cons (rp_rows r) (.cons (.tup tf.sq (rp_snds ps)) .nil)))
end Hd

set_option Elab.async false
set_option linter.all false
set_option maxRecDepth 100000
set_option maxHeartbeats 8000000
namespace Hd
open PySem L2 Pen RG Dat KEq
abbrev sLaw : Stmt := top 50
theorem RunAt.two {K : PySem.W.Frag} {H H2 : Hp} {res res2 : Addr} {x : Bool × Sta} (a : RunAt H res x) (b : RunAt H2 res2 x) (ok : StOk x.2) (l1 : x.2.t.length ≤ 900) (l2 : x.2.ss.length ≤ 100) :
    ∃ D, Rp K H (.ref res) D ∧ Rp K H2 (.ref res2) D ∧ Sml 20000 D ∧ D.depth ≤ 4 := by
  cases a with
  | failed h e =>
    cases b with
    | failed h2 e2 => exact ⟨.tuple [.str "failed"], .tup (SqT.of e) (.cons (.str _) .nil), .tup (SqT.of e2) (.cons (.str _) .nil), (Sml.tup (.cons (Sml.str (n := 6) (by decide +kernel) (by decide +kernel)) .nil)).mono (by omega), by show max 0 0 + 1 ≤ 4; decide⟩
    | done zs2 ra sa ts h2 => rw [h] at h2; cases h2
  | done zs ra sa ts h s e r tf ps =>
    have f := res_fine ok s l1 l2
    exact ⟨resD x zs, RunAt.rp (.done zs ra sa ts h s e r tf ps) s, RunAt.rp b s, f.1, f.2⟩
theorem RowsAt.sameX {H G : Hp} {p r : Addr} {L : List (Z × Int)} {kvs : List (L2.Key × V)} (x : RowsAt H r L) (hp : H p = some (.dK kvs)) (s : SameX p H G) : RowsAt G r L := by
  obtain ⟨ts, ⟨o, a, b, e⟩, pr⟩ := x
  refine ⟨ts, ⟨o, a, b, s _ _ (ne_of e hp (by intro z; cases z)) e⟩, ?_⟩
  clear e
  induction pr with
  | nil => exact .nil
  | cons x _ ih =>
    refine .cons ?_ ih
    obtain ⟨c, e1, e2⟩ := x
    exact ⟨c, s _ _ (ne_of e1 hp (by intro z; cases z)) e1, s _ _ (ne_of e2 hp (by intro z; cases z)) e2⟩
theorem list13 {α : Type} {τ : List α} (h : τ.length = 13) : ∃ x0 x1 x2 x3 x4 x5 x6 x7 x8 x9 x10 x11 x12, τ = [x0, x1, x2, x3, x4, x5, x6, x7, x8, x9, x10, x11, x12] := by
  match τ, h with
  | [x0, x1, x2, x3, x4, x5, x6, x7, x8, x9, x10, x11, x12], _ => exact ⟨x0, x1, x2, x3, x4, x5, x6, x7, x8, x9, x10, x11, x12, rfl⟩
def spLaw (K : PySem.W.Frag) : Sp := fun vs H Q _ => ∃ (a : Addr) (ns : List Int), vs = [.ref a] ∧ SqL K H a (ns.map V.int) ∧ ns.length ≤ 63 ∧ ∀ G', Q (.bl true) G'
section
variable {P : Program} {w : World} {K : PySem.W.Frag} {mg : Str → Option Value} {base : Heap}
theorem scLaw : FnScope ["_law_script", "_law_pen_here", "_law_turn", "_law_names", "_law_keys", "_law_kinds", "_law_handler_here", "_law_rows_here", "_law_again", "_law_message", "_law_first_told", "_law_told", "_law_due"] ["_law_script"] (defScope sLaw) := ⟨rfl, rfl, rfl, by decide +kernel, rfl, by decide +kernel, by decide +kernel⟩
theorem ok_law {fL fPen fWd fHn fRows fPick fNm fRh fU : Addr} {dL dPen dWd dHn dRows dPick dNm dRh dU : FuncData} (F : Fun K "law" "law" sLaw fL dL) (TR : mg "range" = none) (TRp : mg "repr" = none)
    (GPen : FnOk P w K mg base CX0 1 fPen dPen ["_law_script"] (spPen K)) (TPen : DefT K mg "_law_pen" fPen) (bPen : Binds K dPen ["_law_script"] [])
    (GWd : FnOk P w K mg base CX0 3 fWd dWd ["_law_pen_here", "_law_many"] spWd) (TWd : DefT K mg "_law_words" fWd) (bWd : Binds K dWd ["_law_pen_here", "_law_many"] [])
    (GHn : FnOk P w K mg base CX0 25 fHn dHn ["_law_pen_here", "_law_names", "_law_keys", "_law_kinds", "_law_sends"] (spHn K)) (THn : DefT K mg "_law_handler" fHn) (bHn : Binds K dHn ["_law_pen_here", "_law_names", "_law_keys", "_law_kinds", "_law_sends"] [])
    (GRows : FnOk P w K mg base CX0 4 fRows dRows ["_law_pen_here", "_law_names", "_law_keys"] spRows) (TRows : DefT K mg "_law_rows" fRows) (bRows : Binds K dRows ["_law_pen_here", "_law_names", "_law_keys"] [])
    (GPick : FnOk P w K mg base CX0 2 fPick dPick ["_law_pen_here", "_law_items"] (spPick K)) (TPick : DefT K mg "_law_pick" fPick) (bPick : Binds K dPick ["_law_pen_here", "_law_items"] [])
    (GNm : FnOk P w K mg base CX0 3 fNm dNm ["_law_pen_here"] spNm) (TNm : DefT K mg "_law_number" fNm) (bNm : Binds K dNm ["_law_pen_here"] [])
    (GRh : FnOk P w K mg base CX0 29 fRh dRh ["handler", "rows", "message"] (spRh K)) (TRh : DefT K mg "run_handler" fRh) (bRh : Binds K dRh ["handler", "rows", "message"] [])
    (GU : FnOk P w K mg base CX0 22 fU dU ["_law_handler_here", "_law_rows_here", "_law_message"] (spU K)) (TU : DefT K mg "_law_run" fU) (bU : Binds K dU ["_law_handler_here", "_law_rows_here", "_law_message"] []) : FnG P w K mg base CX0 41 fL dL ["_law_script"] (spLaw K) := by
  refine okG (n := 40) F scLaw (fun ys G Want Err h => ?_) (fun cd B up st G ys Want Err hg hr told => ?_)
  · obtain ⟨a, ns, rfl, _⟩ := h
    rfl
  · obtain ⟨a, ns, rfl, hS, hlen, kk⟩ := told
    have hu := hu_of hr
    refine ⟨_, (pss_cons (ps_set (i := 1) scLaw.nd rfl (Or.inl rfl) (pe_call GPen (hr.mono (by decide)) rfl TPen.mg TPen.kp bPen .nil pass0 (pa_cons (pv 0) pa_nil)))
      (pss_cons (ps_for PassesOwn.never rfl (pi_range1 (by rfl) TR (pa_cons pe_int pa_nil)) (pg_name (i := 2) scLaw.nd rfl (Or.inl rfl)) (pss_cons (ps_par3 (i := 3) (j := 4) (l := 5) (by rfl) scLaw.nd rfl rfl rfl (by decide) (by decide) (by decide) rfl rfl rfl (pa_cons (pe_call GWd (hr.mono (by decide)) rfl TWd.mg TWd.kp bWd .nil pass0 (pa_cons (pv 1) (pa_cons pe_int pa_nil))) (pa_cons (pe_call GWd (hr.mono (by decide)) rfl TWd.mg TWd.kp bWd .nil pass0 (pa_cons (pv 1) (pa_cons pe_int pa_nil))) (pa_cons (pe_call GWd (hr.mono (by decide)) rfl TWd.mg TWd.kp bWd .nil pass0 (pa_cons (pv 1) (pa_cons pe_int pa_nil))) pa_nil))) (by rfl))
      (pss_cons (ps_set (i := 6) scLaw.nd rfl (Or.inl rfl) (pe_call GHn (hr.mono (by decide)) rfl THn.mg THn.kp bHn .nil pass0 (pa_cons (pv 1) (pa_cons (pv 3) (pa_cons (pv 4) (pa_cons (pv 5) (pa_cons pe_int pa_nil)))))))
      (pss_cons (ps_set (i := 7) scLaw.nd rfl (Or.inl rfl) (pe_call GRows (hr.mono (by decide)) rfl TRows.mg TRows.kp bRows .nil pass0 (pa_cons (pv 1) (pa_cons (pv 3) (pa_cons (pv 4) pa_nil)))))
      (pss_one (ps_for PassesOwn.never rfl (pi_range1 (by rfl) TR (pa_cons pe_int pa_nil)) (pg_name (i := 8) scLaw.nd rfl (Or.inl rfl)) (pss_cons (ps_set (i := 9) scLaw.nd rfl (Or.inl rfl) (Ab.pe_tupA (pa_cons (pe_call GPick (hr.mono (by decide)) rfl TPick.mg TPick.kp bPick .nil pass0 (pa_cons (pv 1) (pa_cons (pv 5) pa_nil))) (pa_cons (pe_call GPick (hr.mono (by decide)) rfl TPick.mg TPick.kp bPick .nil pass0 (pa_cons (pv 1) (pa_cons (pv 4) pa_nil))) (pa_cons (pe_call GNm (hr.mono (by decide)) rfl TNm.mg TNm.kp bNm .nil pass0 (pa_cons (pv 1) pa_nil)) pa_nil)))))
      (pss_cons (ps_set (i := 10) scLaw.nd rfl (Or.inl rfl) (pe_callB (call_repr hg hr) (by rfl) TRp (by decide +kernel) (pa_cons (Ab.pe_lstA (pa_cons (pv 6) (pa_cons (pv 7) (pa_cons (pv 9) pa_nil)))) pa_nil)))
      (pss_cons (ps_par (i := 11) (j := 12) (by rfl) scLaw.nd rfl rfl (by decide) rfl rfl (pa_cons (pe_call GRh (hr.mono (by decide)) rfl TRh.mg TRh.kp bRh .nil pass0 (pa_cons (pv 6) (pa_cons (pv 7) (pa_cons (pv 9) pa_nil)))) (pa_cons (pe_call GU (hr.mono (by decide)) rfl TU.mg TU.kp bU .nil pass0 (pa_cons (pv 6) (pa_cons (pv 7) (pa_cons (pv 9) pa_nil)))) pa_nil)) (by rfl))
      (pss_cons (ps_if (PW.pt (pw_or (pt_cmpR op_ne (pe_callB (call_repr hg hr) (by rfl) TRp (by decide +kernel) (pa_cons (pv 11) pa_nil)) (pe_callB (call_repr hg hr) (by rfl) TRp (by decide +kernel) (pa_cons (pv 12) pa_nil)) (nomark _)) (pw_or1 (pt_cmpR op_ne (pe_callB (call_repr hg hr) (by rfl) TRp (by decide +kernel) (pa_cons (Ab.pe_lstA (pa_cons (pv 6) (pa_cons (pv 7) (pa_cons (pv 9) pa_nil)))) pa_nil)) (pv 10) (nomark _))))) (pss_one (ps_ret pe_bl)) pss_nil)
      (pss_one (ps_set (i := 7) scLaw.nd rfl (Or.inl rfl) (pe_ifExp (pt_cmpR (KEq.op_eqS hu) (pe_ix ix_tup (pv 12) pe_int (fun _ _ => rfl)) pe_str (nomark _)) (pe_ix ix_tup (pv 12) pe_int (fun _ _ => rfl)) (pv 7))))))))))))))
      (pss_one (ps_ret (pe_cmpR (op_eqD hr.units) (pe_call GRh (hr.mono (by decide)) rfl TRh.mg TRh.kp bRh .nil pass0 (pa_cons (Ab.pe_tupA pa_nil) (pa_cons (Ab.pe_tupA pa_nil) (pa_cons (Ab.pe_tupA (pa_cons pe_str (pa_cons pe_str (pa_cons pe_int pa_nil)))) pa_nil)))) (Ab.pe_tupA (pa_cons pe_str (pa_cons (Ab.pe_tupA pa_nil) (pa_cons (Ab.pe_tupA pa_nil) pa_nil)))) (nomark _)))))), ?_⟩
    refine ⟨_, rfl, a, ns, rfl, hS, hlen, fun p c H1 np Pn s1 => ?_⟩
    refine ⟨20, rfl, by decide, by decide, for_range (n := 20) (fun i σ H => σ.length = 13 ∧ σ[1]? = some (some (.ref p)) ∧ PenAt H p c ns (2 ^ 28 * i)) ⟨rfl, rfl, Pn⟩ ?_ ?_⟩
    · intro i σ G hi ⟨L0, v1, P0⟩
      have z1 : (σ.set 2 (some (V.int (0 + (i : Int)))))[1]? = some (some (.ref p)) := by simp [v1]
      refine ⟨_, z1, p, c, ns, _, 2, rfl, P0, hlen, by omega, by omega, by omega, fun la Ga fa na Pa xa => ?_⟩
      refine ⟨_, z1, p, c, ns, _, 2, rfl, Pa, hlen, by omega, by omega, by omega, fun lb Gb fb nb Pb xb => ?_⟩
      refine ⟨_, z1, p, c, ns, _, 3, rfl, Pb, hlen, by omega, by omega, by omega, fun lc Gc fc nc Pc xc => ?_⟩
      have na2 := (na.same Pa xb).same Pb xc
      have nb2 := nb.same Pb xc
      refine ⟨_, _, _, rfl, ?_⟩
      generalize hσ : (((σ.set 2 (some (V.int (0 + (i : Int))))).set 3 (some (V.ref la))).set 4 (some (V.ref lb))).set 5 (some (V.ref lc)) = ρ
      have r0 : ρ.length = 13 := by rw [← hσ]; simp [L0]
      have r1 : ρ[1]? = some (some (V.ref p)) := by rw [← hσ]; simp [v1]
      have r3 : ρ[3]? = some (some (V.ref la)) := by rw [← hσ]; simp [L0]
      have r4 : ρ[4]? = some (some (V.ref lb)) := by rw [← hσ]; simp [L0]
      have r5 : ρ[5]? = some (some (V.ref lc)) := by rw [← hσ]; simp [L0]
      clear hσ
      refine ⟨_, r1, _, r3, _, r4, _, r5, p, c, ns, _, la, lb, lc, 3, rfl, Pc, hlen, by omega, na2, nb2, nc, fun hv hds Gd hn wd hl5 va h12 Pd xd => ?_⟩
      have q1 : (ρ.set 6 (some hv))[1]? = some (some (V.ref p)) := by rw [List.getElem?_set_ne (by decide)]; exact r1
      have q3 : (ρ.set 6 (some hv))[3]? = some (some (V.ref la)) := by rw [List.getElem?_set_ne (by decide)]; exact r3
      have q4 : (ρ.set 6 (some hv))[4]? = some (some (V.ref lb)) := by rw [List.getElem?_set_ne (by decide)]; exact r4
      have q5 : (ρ.set 6 (some hv))[5]? = some (some (V.ref lc)) := by rw [List.getElem?_set_ne (by decide)]; exact r5
      have q6 : (ρ.set 6 (some hv))[6]? = some (some hv) := by simp [r0]
      have na3 := na2.same Pc xd
      have nb3 := nb2.same Pc xd
      have nc3 := nc.same Pc xd
      refine ⟨_, q1, _, q3, _, q4, p, c, ns, _, la, lb, rfl, Pd, hlen, by omega, na3, nb3, fun ra L Ge rows rok l200 Pe xe => ?_⟩
      obtain ⟨_, hr', hde, room⟩ := hand_is (va.ok h12)
      cases hde
      have small := sml_h room
      have wdep : (PyData.tuple hds).depth ≤ 16 := wd.2.2.1
      refine ⟨4, rfl, by decide, by decide, for_range (n := 4) (fun j τ H => τ.length = 13 ∧ τ[1]? = some (some (.ref p)) ∧ τ[4]? = some (some (.ref lb)) ∧ τ[5]? = some (some (.ref lc)) ∧ τ[6]? = some (some hv) ∧ (∃ (ra : Addr) (L : List (Z × Int)), τ[7]? = some (some (.ref ra)) ∧ RowsAt H ra L ∧ RowsOk L ∧ L.length ≤ 200 + 12 * j) ∧
        Names H lb ∧ Names H lc ∧ Dw K p H 16 hv (.tuple hds) ∧ PenAt H p c ns (2 ^ 28 * i + 2 ^ 27 + 20 * j))
        ⟨by simp [r0], by rw [List.getElem?_set_ne (by decide)]; exact q1, by rw [List.getElem?_set_ne (by decide)]; exact q4, by rw [List.getElem?_set_ne (by decide)]; exact q5, by rw [List.getElem?_set_ne (by decide)]; exact q6, ⟨ra, L, by simp [r0], rows, rok, by omega⟩, nb3.same Pd xe, nc3.same Pd xe, wd.same xe, Pe.mono (by omega)⟩ ?_ ?_⟩
      · intro j τ H hj ⟨t0, t1, t4, t5, t6, ⟨ra, L, t7, rows, rok, ll⟩, nb, nc, wh, P7⟩
        obtain ⟨y0, y1, y2, y3, y4, y5, y6, y7, y8, y9, y10, y11, y12, rfl⟩ := list13 t0
        obtain rfl : y1 = _ := Option.some.inj t1
        obtain rfl : y4 = _ := Option.some.inj t4
        obtain rfl : y5 = _ := Option.some.inj t5
        obtain rfl : y6 = _ := Option.some.inj t6
        obtain rfl : y7 = _ := Option.some.inj t7
        clear t0 t1 t4 t5 t6 t7
        obtain ⟨zc, ec, c0, c10, cw⟩ := id nc
        refine ⟨_, rfl, _, rfl, p, c, ns, _, lc, _, rfl, P7, hlen, by omega, ec, by rw [List.length_map]; exact c0, by rw [List.length_map]; omega, fun w1 Ha hw1 Pa2 xa2 => ?_⟩
        obtain ⟨kd, hkd, rfl⟩ := text_of hw1
        have wkd := cw _ hkd
        have nb' := nb.same P7 xa2
        obtain ⟨zb, eb, d0, d10, dw⟩ := id nb'
        refine ⟨_, rfl, _, rfl, p, c, ns, _, lb, _, rfl, Pa2, hlen, by omega, eb, by rw [List.length_map]; exact d0, by rw [List.length_map]; omega, fun w2 Hb hw2 Pb2 xb2 => ?_⟩
        obtain ⟨key, hkey, rfl⟩ := text_of hw2
        have wkey := dw _ hkey
        refine ⟨_, rfl, p, c, ns, _, rfl, Pb2, hlen, by omega, fun body Hc bb Pc2 xc2 => ⟨sz (by simp), fun ma Hd nm sm em => ?_⟩⟩
        have x4 := ((xa2.trans xb2).trans xc2).trans (Same.X sm)
        have Pd2 := Pc2.same sm
        obtain ⟨pa, pr, hp, _⟩ := P7.ex
        have rows4 : RowsAt Hd ra L := rows.sameX hp x4
        have wh4 := wh.same x4
        have rph : Rp K Hd hv (.tuple hds) := Rp.same delp_le wh4.1
        have nb4 := nb.same P7 x4
        have nc4 := nc.same P7 x4
        refine ⟨_, rfl, _, rfl, _, rfl, sz (by simp), fun l1 He fl nl sl el => ?_⟩
        have smsg : Sml 15 (.tuple [.str kd, .str key, .int body]) := (Sml.tup (.cons (.word wkd) (.cons (.word wkey) (.cons (.int bb.1 bb.2) .nil)))).mono (by omega)
        have srows : Sml 17000 (rowsD L) := (Sml.tup (sml_rows rok.ok)).mono (by omega)
        have sall : Sml 500000 (.list [.tuple hds, rowsD L, .tuple [.str kd, .str key, .int body]]) := (Sml.lst (.cons small (.cons srows (.cons smsg .nil)))).mono (by omega)
        have dall : (PyData.list [.tuple hds, rowsD L, .tuple [.str kd, .str key, .int body]]).depth ≤ 64 := by
          have d1 := dp_rows L
          show max (PyData.tuple hds).depth (max (PyData.depthAll (L.map rowD) + 1) (max (max 0 (max 0 (max 0 0)) + 1) 0)) + 1 ≤ 64
          omega
        have rpl : ∀ {H2 : Hp} {l : Addr}, Same Hd H2 → H2 l = some (.lst [hv, .ref ra, .ref ma]) → l ≠ sysModules → Rp K H2 (.ref l) (.list [.tuple hds, rowsD L, .tuple [.str kd, .str key, .int body]]) := fun s e n =>
          .lst (SqL.of e) (.cons (Rp.same s rph) (.cons (Rp.same s (rp_rows rows4)) (.cons (.tup (SqT.of (s _ _ em)) (.cons (.str _) (.cons (.str _) (.cons (.int _) .nil)))) .nil))) n
        generalize hT : PyData.list [.tuple hds, rowsD L, .tuple [.str kd, .str key, .int body]] = T at sall dall rpl
        refine ⟨.ref l1, T, rfl, rpl sl el nl, sall.s, dall, sall.fits (by decide), ?_⟩
        generalize hX : T.shown = X
        refine ⟨_, rfl, _, rfl, _, rfl, hv, hds, hr', ra, ma, L, kd, key, body, rfl, Rp.same sl rph, wh.2.1, room, (rows4.same sl).q, rok, by omega, SqT.of (sl _ _ em), wkd, wkey, bb, fun res1 Hf A1 sf => ?_⟩
        have slf := sl.trans sf
        refine ⟨_, rfl, _, rfl, _, rfl, hv, .tuple hds, hds, hr', ra, ma, L, .str kd, key, body, rfl, Rp.same slf rph, room, rows4.same slf, rok, by omega, SqT.of (slf _ _ em), wkey, bb, fun res2 Hg A2 sg => ⟨_, _, rfl, ?_⟩⟩
        have slg := slf.trans sg
        have gr := grow_h (ds := hds) wkey bb.1 bb.2 room rok.ok
        have gt : (runAll (deedE key body 3) hds ⟨L, []⟩).2.t.length + hr' ≤ L.length + 12 := gr.t
        have gs : (runAll (deedE key body 3) hds ⟨L, []⟩).2.ss.length + hr' ≤ 0 + 12 := gr.s
        obtain ⟨D, rp1, rp2, sD, dD⟩ := RunAt.two (K := K) A1 A2 gr.ok (by omega) (by omega)
        refine ⟨_, rfl, .ref res1, D, rfl, Rp.same sg rp1, sD.s, by omega, sD.fits (by decide), _, rfl, .ref res2, D, rfl, rp2, sD.s, by omega, sD.fits (by decide), rfl, false, by simp, iteF ?_⟩
        refine ⟨_, rfl, _, rfl, _, rfl, sz (by simp), fun l2 Hh fl2 nl2 sl2 el2 => ⟨.ref l2, T, rfl, rpl (slg.trans sl2) el2 nl2, sall.s, dall, sall.fits (by decide), _, rfl, rfl, false, by simp [hX], iteF ?_⟩⟩
        have sdh := slg.trans sl2
        have Ph := Pd2.same sdh
        have nb5 := nb4.same Pd2 (Same.X sdh)
        have nc5 := nc4.same Pd2 (Same.X sdh)
        have wh5 := wh4.same (Same.X sdh)
        have Pz := Ph.mono (b' := 2 ^ 28 * i + 2 ^ 27 + 20 * (j + 1)) (by omega)
        cases A2 with
        | failed h e =>
          refine ⟨_, rfl, res2, _, 0, _, rfl, rfl, SqT.of (sl2 _ _ e), atI_nat (j := 0) rfl, .str "failed", _, .str _, rfl, _, rfl, ite2 (fun z => absurd z (by decide +kernel)) (fun _ => ⟨_, rfl, ?_⟩)⟩
          exact ⟨rfl, rfl, rfl, rfl, rfl, ⟨ra, L, rfl, rows4.same sdh, rok, by omega⟩, nb5, nc5, wh5, Pz⟩
        | done zs rr sa ts h srt e rws tf ps =>
          have a1 := rowsOf_len (runAll (deedE key body 3) hds ⟨L, []⟩).2.t zs
          have a2 := srt.perm.length_eq
          rw [List.length_map] at a2
          refine ⟨_, rfl, res2, _, 0, _, rfl, rfl, SqT.of (sl2 _ _ e), atI_nat (j := 0) rfl, .str "done", _, .str _, rfl, _, rfl, ite2 (fun _ => ?_) (fun z => absurd (by decide +kernel) z)⟩
          refine ⟨_, rfl, res2, _, 1, _, rfl, rfl, SqT.of (sl2 _ _ e), atI_nat (j := 1) rfl, ?_⟩
          exact ⟨rfl, rfl, rfl, rfl, rfl, ⟨rr, _, rfl, rws.same sl2, rows_ok gr.ok.t srt, by omega⟩, nb5, nc5, wh5, Pz⟩
      · intro τ H ⟨t0, t1, _, _, _, _, _, _, _, P7⟩
        exact ⟨t0, t1, P7.mono (by omega)⟩
    · intro σ G ⟨L0, v1, P0⟩
      refine ⟨sz (by simp), fun h0 G1 n1 s1' e1 => ⟨sz (by simp), fun h1 G2 n2 s2 e2 => ⟨sz (by simp), fun h2 G3 n3 s3 e3 => ?_⟩⟩⟩
      refine ⟨.ref h0, [], 12, h1, h2, [], "a", "a", 0, rfl, .tup (SqT.of (s3 _ _ (s2 _ _ e1))) .nil, rfl, rfl, ⟨[], SqT.of (s3 _ _ e2), .nil⟩, ⟨fun _ h => (by cases h), fun _ h => (by cases h), .nil⟩, Nat.zero_le _, SqT.of e3, by decide +kernel, by decide +kernel, ⟨by decide, by decide⟩, fun res G4 A s4 => ?_⟩
      cases A with
      | failed h e => exact absurd h (by decide)
      | done zs rr sa ts h srt e rws tf ps =>
        have ez : zs = [] := List.Perm.eq_nil srt.perm
        subst ez
        cases ps
        obtain ⟨ts2, tf2, pr2⟩ := rws
        have pr2 : Paired (RowT G4) [] ts2 := pr2
        cases pr2
        refine ⟨sz (by simp), fun u1 G5 m1 q1 f1 => ⟨sz (by simp), fun u2 G6 m2 q2 f2 => ⟨sz (by simp), fun u3 G7 m3 q3 f3 => ?_⟩⟩⟩
        have q := (q1.trans q2).trans q3
        refine ⟨.tuple [.str "done", .tuple [], .tuple []], .tuple [.str "done", .tuple [], .tuple []], .tup (SqT.of (q _ _ e)) (.cons (.str _) (.cons (.tup (sqT_same q tf2.sq) .nil) (.cons (.tup (sqT_same q tf.sq) .nil) .nil))), .tup (SqT.of f3) (.cons (.str _) (.cons (.tup (SqT.of (q3 _ _ (q2 _ _ f1))) .nil) (.cons (.tup (SqT.of (q3 _ _ f2)) .nil) .nil))), by decide +kernel, by decide +kernel, ?_⟩
        have ev : PyData.eqv (.tuple [.str "done", .tuple [], .tuple []]) (.tuple [.str "done", .tuple [], .tuple []]) = true := by decide +kernel
        rw [ev]
        exact kk _
end
end Hd

set_option Elab.async false
set_option linter.all false
set_option maxRecDepth 100000
set_option maxHeartbeats 8000000
namespace Hd
open PySem L2 Pen RG Dat KEq
theorem all_mk {l : PySem.W.OpenLaw} {w : World} {K : PySem.W.Frag} {h : Heap} {mg : Str → Option Value} {fa C g0 g1 g2 g3 g4 g5 g6 g7 g8 g9 g10 g11 g12 g13 g14 g15 g16 g17 g18 g19 g20 g21 g22 g23 g24 g25 g26 g27 g28 g29 g30 g31 g32 g33 g34 g35 g36 g37 g38 g39 g40 g41 g42 dt9 dt10 : Addr} {god0 gan0 god1 gan1 god2 gan2 god3 gan3 god4 gan4 god5 gan5 god6 gan6 god7 gan7 god8 gan8 god9 gan9 god10 gan10 god11 gan11 god12 gan12 god13 gan13 god14 gan14 god15 gan15 god16 gan16 god17 gan17 god18 gan18 god19 gan19 god20 gan20 god21 gan21 god22 gan22 god23 gan23 god24 gan24 god25 gan25 god26 gan26 god27 gan27 god28 gan28 god29 gan29 god30 gan30 god31 gan31 god32 gan32 god33 gan33 god34 gan34 god35 gan35 god36 gan36 god37 gan37 god38 gan38 god39 gan39 god40 gan40 god41 gan41 god42 gan42 dod9 dod10 : Option Addr} {goc0 gkV0 gdc0 gpm0 gcd0 gct0 goc1 gkV1 gdc1 gpm1 gcd1 gct1 goc2 gkV2 gdc2 gpm2 gcd2 gct2 goc3 gkV3 gdc3 gpm3 gcd3 gct3 goc4 gkV4 gdc4 gpm4 gcd4 gct4 goc5 gkV5 gdc5 gpm5 gcd5 gct5 goc6 gkV6 gdc6 gpm6 gcd6 gct6 goc7 gkV7 gdc7 gpm7 gcd7 gct7 goc8 gkV8 gdc8 gpm8 gcd8 gct8 goc9 gkV9 gdc9 gpm9 gcd9 gct9 goc10 gkV10 gdc10 gpm10 gcd10 gct10 goc11 gkV11 gdc11 gpm11 gcd11 gct11 goc12 gkV12 gdc12 gpm12 gcd12 gct12 goc13 gkV13 gdc13 gpm13 gcd13 gct13 goc14 gkV14 gdc14 gpm14 gcd14 gct14 goc15 gkV15 gdc15 gpm15 gcd15 gct15 goc16 gkV16 gdc16 gpm16 gcd16 gct16 goc17 gkV17 gdc17 gpm17 gcd17 gct17 goc18 gkV18 gdc18 gpm18 gcd18 gct18 goc19 gkV19 gdc19 gpm19 gcd19 gct19 goc20 gkV20 gdc20 gpm20 gcd20 gct20 goc21 gkV21 gdc21 gpm21 gcd21 gct21 goc22 gkV22 gdc22 gpm22 gcd22 gct22 goc23 gkV23 gdc23 gpm23 gcd23 gct23 goc24 gkV24 gdc24 gpm24 gcd24 gct24 goc25 gkV25 gdc25 gpm25 gcd25 gct25 goc26 gkV26 gdc26 gpm26 gcd26 gct26 goc27 gkV27 gdc27 gpm27 gcd27 gct27 goc28 gkV28 gdc28 gpm28 gcd28 gct28 goc29 gkV29 gdc29 gpm29 gcd29 gct29 goc30 gkV30 gdc30 gpm30 gcd30 gct30 goc31 gkV31 gdc31 gpm31 gcd31 gct31 goc32 gkV32 gdc32 gpm32 gcd32 gct32 goc33 gkV33 gdc33 gpm33 gcd33 gct33 goc34 gkV34 gdc34 gpm34 gcd34 gct34 goc35 gkV35 gdc35 gpm35 gcd35 gct35 goc36 gkV36 gdc36 gpm36 gcd36 gct36 goc37 gkV37 gdc37 gpm37 gcd37 gct37 goc38 gkV38 gdc38 gpm38 gcd38 gct38 goc39 gkV39 gdc39 gpm39 gcd39 gct39 goc40 gkV40 gdc40 gpm40 gcd40 gct40 goc41 gkV41 gdc41 gpm41 gcd41 gct41 goc42 gkV42 gdc42 gpm42 gcd42 gct42 doc9 doc10 : Value} {gsl0 gsl1 gsl2 gsl3 gsl4 gsl5 gsl6 gsl7 gsl8 gsl9 gsl10 gsl11 gsl12 gsl13 gsl14 gsl15 gsl16 gsl17 gsl18 gsl19 gsl20 gsl21 gsl22 gsl23 gsl24 gsl25 gsl26 gsl27 gsl28 gsl29 gsl30 gsl31 gsl32 gsl33 gsl34 gsl35 gsl36 gsl37 gsl38 gsl39 gsl40 gsl41 gsl42 dsl9 dsl10 : Array (Option Value)} {tB1 tB2 tB3 tB4 tB5 dtk9 dtk10 : Tok} {dn9 dn10 : Nat} (X : K.In h) (G : h.Ns mainGlobals mg) (hfa : mg "law" = some (.ref fa))
    (z_isinstance : PySem.W.nsIn K mainGlobals "isinstance" = some none)
    (z_len : PySem.W.nsIn K mainGlobals "len" = some none)
    (z_all : PySem.W.nsIn K mainGlobals "all" = some none)
    (z_int : PySem.W.nsIn K mainGlobals "int" = some none)
    (z_bool : PySem.W.nsIn K mainGlobals "bool" = some none)
    (z_str : PySem.W.nsIn K mainGlobals "str" = some none)
    (z_tuple : PySem.W.nsIn K mainGlobals "tuple" = some none)
    (z_abs : PySem.W.nsIn K mainGlobals "abs" = some none)
    (z_list : PySem.W.nsIn K mainGlobals "list" = some none)
    (z_range : PySem.W.nsIn K mainGlobals "range" = some none)
    (z_repr : PySem.W.nsIn K mainGlobals "repr" = some none)
    (z_zip : PySem.W.nsIn K mainGlobals "zip" = some none)
    (z_min : PySem.W.nsIn K mainGlobals "min" = some none)
    (z_max : PySem.W.nsIn K mainGlobals "max" = some none)
    (z_any : PySem.W.nsIn K mainGlobals "any" = some none)
    (z_sorted : PySem.W.nsIn K mainGlobals "sorted" = some none)
    (z_dict : PySem.W.nsIn K mainGlobals "dict" = some none)
    (cB : PySem.W.nsIn K mainGlobals "BOUND" = some (some (.int 99 tB1)))
    (cL : PySem.W.nsIn K mainGlobals "LONGEST_WORD" = some (some (.int 6 tB2)))
    (cA : PySem.W.nsIn K mainGlobals "LETTERS" = some (some (.str abc tB3)))
    (cM : PySem.W.nsIn K mainGlobals "MOST_DEEDS" = some (some (.int 12 tB4)))
    (cI : PySem.W.nsIn K mainGlobals "MOST_IFS" = some (some (.int 3 tB5)))
    (aD0 : PySem.W.nsIn K mainGlobals "is_number" = some (some (.ref g0)))
    (lD0 : K.lookup g0 = some ⟨goc0, god0, .func (PySem.W.fnOf "is_number" "is_number" (defArgs sNum) (defBody sNum) (defScope sNum) .none gkV0 gdc0 gpm0 gan0 gcd0 gct0), gsl0⟩)
    (cD0 : PySem.W.codeIn K gcd0 "is_number" = true)
    (kD0 : PySem.W.keepIn K (.ref g0) = true)
    (aD1 : PySem.W.nsIn K mainGlobals "is_value" = some (some (.ref g1)))
    (lD1 : K.lookup g1 = some ⟨goc1, god1, .func (PySem.W.fnOf "is_value" "is_value" (defArgs sVal) (defBody sVal) (defScope sVal) .none gkV1 gdc1 gpm1 gan1 gcd1 gct1), gsl1⟩)
    (cD1 : PySem.W.codeIn K gcd1 "is_value" = true)
    (kD1 : PySem.W.keepIn K (.ref g1) = true)
    (aD2 : PySem.W.nsIn K mainGlobals "is_word" = some (some (.ref g2)))
    (lD2 : K.lookup g2 = some ⟨goc2, god2, .func (PySem.W.fnOf "is_word" "is_word" (defArgs sWord) (defBody sWord) (defScope sWord) .none gkV2 gdc2 gpm2 gan2 gcd2 gct2), gsl2⟩)
    (cD2 : PySem.W.codeIn K gcd2 "is_word" = true)
    (kD2 : PySem.W.keepIn K (.ref g2) = true)
    (aD3 : PySem.W.nsIn K mainGlobals "is_tuple_of" = some (some (.ref g3)))
    (lD3 : K.lookup g3 = some ⟨goc3, god3, .func (PySem.W.fnOf "is_tuple_of" "is_tuple_of" (defArgs sTof) (defBody sTof) (defScope sTof) .none gkV3 gdc3 gpm3 gan3 gcd3 gct3), gsl3⟩)
    (cD3 : PySem.W.codeIn K gcd3 "is_tuple_of" = true)
    (kD3 : PySem.W.keepIn K (.ref g3) = true)
    (aD4 : PySem.W.nsIn K mainGlobals "is_message" = some (some (.ref g4)))
    (lD4 : K.lookup g4 = some ⟨goc4, god4, .func (PySem.W.fnOf "is_message" "is_message" (defArgs sMs) (defBody sMs) (defScope sMs) .none gkV4 gdc4 gpm4 gan4 gcd4 gct4), gsl4⟩)
    (cD4 : PySem.W.codeIn K gcd4 "is_message" = true)
    (kD4 : PySem.W.keepIn K (.ref g4) = true)
    (aD5 : PySem.W.nsIn K mainGlobals "is_row" = some (some (.ref g5)))
    (lD5 : K.lookup g5 = some ⟨goc5, god5, .func (PySem.W.fnOf "is_row" "is_row" (defArgs sRw) (defBody sRw) (defScope sRw) .none gkV5 gdc5 gpm5 gan5 gcd5 gct5), gsl5⟩)
    (cD5 : PySem.W.codeIn K gcd5 "is_row" = true)
    (kD5 : PySem.W.keepIn K (.ref g5) = true)
    (aD6 : PySem.W.nsIn K mainGlobals "is_rows" = some (some (.ref g6)))
    (lD6 : K.lookup g6 = some ⟨goc6, god6, .func (PySem.W.fnOf "is_rows" "is_rows" (defArgs sRs) (defBody sRs) (defScope sRs) .none gkV6 gdc6 gpm6 gan6 gcd6 gct6), gsl6⟩)
    (cD6 : PySem.W.codeIn K gcd6 "is_rows" = true)
    (kD6 : PySem.W.keepIn K (.ref g6) = true)
    (aD7 : PySem.W.nsIn K mainGlobals "combined" = some (some (.ref g7)))
    (lD7 : K.lookup g7 = some ⟨goc7, god7, .func (PySem.W.fnOf "combined" "combined" (defArgs sCb) (defBody sCb) (defScope sCb) .none gkV7 gdc7 gpm7 gan7 gcd7 gct7), gsl7⟩)
    (cD7 : PySem.W.codeIn K gcd7 "combined" = true)
    (kD7 : PySem.W.keepIn K (.ref g7) = true)
    (aD8 : PySem.W.nsIn K mainGlobals "run_of" = some (some (.ref g8)))
    (lD8 : K.lookup g8 = some ⟨goc8, god8, .func (PySem.W.fnOf "run_of" "run_of" (defArgs sRo) (defBody sRo) (defScope sRo) .none gkV8 gdc8 gpm8 gan8 gcd8 gct8), gsl8⟩)
    (cD8 : PySem.W.codeIn K gcd8 "run_of" = true)
    (kD8 : PySem.W.keepIn K (.ref g8) = true)
    (aD9 : PySem.W.nsIn K mainGlobals "is_expression" = some (some (.ref g9)))
    (lD9 : K.lookup g9 = some ⟨goc9, god9, .func (PySem.W.fnOf "is_expression" "is_expression" (defArgs sExp) (defBody sExp) (defScope sExp) (.ref dt9) gkV9 gdc9 gpm9 gan9 gcd9 gct9), gsl9⟩)
    (cD9 : PySem.W.codeIn K gcd9 "is_expression" = true)
    (kD9 : PySem.W.keepIn K (.ref g9) = true)
    (aD10 : PySem.W.nsIn K mainGlobals "is_condition" = some (some (.ref g10)))
    (lD10 : K.lookup g10 = some ⟨goc10, god10, .func (PySem.W.fnOf "is_condition" "is_condition" (defArgs sCon) (defBody sCon) (defScope sCon) (.ref dt10) gkV10 gdc10 gpm10 gan10 gcd10 gct10), gsl10⟩)
    (cD10 : PySem.W.codeIn K gcd10 "is_condition" = true)
    (kD10 : PySem.W.keepIn K (.ref g10) = true)
    (aD11 : PySem.W.nsIn K mainGlobals "is_handler" = some (some (.ref g11)))
    (lD11 : K.lookup g11 = some ⟨goc11, god11, .func (PySem.W.fnOf "is_handler" "is_handler" (defArgs sHand) (defBody sHand) (defScope sHand) .none gkV11 gdc11 gpm11 gan11 gcd11 gct11), gsl11⟩)
    (cD11 : PySem.W.codeIn K gcd11 "is_handler" = true)
    (kD11 : PySem.W.keepIn K (.ref g11) = true)
    (aD12 : PySem.W.nsIn K mainGlobals "room_after" = some (some (.ref g12)))
    (lD12 : K.lookup g12 = some ⟨goc12, god12, .func (PySem.W.fnOf "room_after" "room_after" (defArgs sRoom) (defBody sRoom) (defScope sRoom) .none gkV12 gdc12 gpm12 gan12 gcd12 gct12), gsl12⟩)
    (cD12 : PySem.W.codeIn K gcd12 "room_after" = true)
    (kD12 : PySem.W.keepIn K (.ref g12) = true)
    (aD13 : PySem.W.nsIn K mainGlobals "room_after_deed" = some (some (.ref g13)))
    (lD13 : K.lookup g13 = some ⟨goc13, god13, .func (PySem.W.fnOf "room_after_deed" "room_after_deed" (defArgs sDeed) (defBody sDeed) (defScope sDeed) .none gkV13 gdc13 gpm13 gan13 gcd13 gct13), gsl13⟩)
    (cD13 : PySem.W.codeIn K gcd13 "room_after_deed" = true)
    (kD13 : PySem.W.keepIn K (.ref g13) = true)
    (aD14 : PySem.W.nsIn K mainGlobals "is_single_deed" = some (some (.ref g14)))
    (lD14 : K.lookup g14 = some ⟨goc14, god14, .func (PySem.W.fnOf "is_single_deed" "is_single_deed" (defArgs sOne) (defBody sOne) (defScope sOne) .none gkV14 gdc14 gpm14 gan14 gcd14 gct14), gsl14⟩)
    (cD14 : PySem.W.codeIn K gcd14 "is_single_deed" = true)
    (kD14 : PySem.W.keepIn K (.ref g14) = true)
    (aD15 : PySem.W.nsIn K mainGlobals "is_key" = some (some (.ref g15)))
    (lD15 : K.lookup g15 = some ⟨goc15, god15, .func (PySem.W.fnOf "is_key" "is_key" (defArgs sKey) (defBody sKey) (defScope sKey) .none gkV15 gdc15 gpm15 gan15 gcd15 gct15), gsl15⟩)
    (cD15 : PySem.W.codeIn K gcd15 "is_key" = true)
    (kD15 : PySem.W.keepIn K (.ref g15) = true)
    (aD16 : PySem.W.nsIn K mainGlobals "run_handler" = some (some (.ref g16)))
    (lD16 : K.lookup g16 = some ⟨goc16, god16, .func (PySem.W.fnOf "run_handler" "run_handler" (defArgs sRh) (defBody sRh) (defScope sRh) .none gkV16 gdc16 gpm16 gan16 gcd16 gct16), gsl16⟩)
    (cD16 : PySem.W.codeIn K gcd16 "run_handler" = true)
    (kD16 : PySem.W.keepIn K (.ref g16) = true)
    (aD17 : PySem.W.nsIn K mainGlobals "_law_pen" = some (some (.ref g17)))
    (lD17 : K.lookup g17 = some ⟨goc17, god17, .func (PySem.W.fnOf "_law_pen" "_law_pen" (defArgs sPen) (defBody sPen) (defScope sPen) .none gkV17 gdc17 gpm17 gan17 gcd17 gct17), gsl17⟩)
    (cD17 : PySem.W.codeIn K gcd17 "_law_pen" = true)
    (kD17 : PySem.W.keepIn K (.ref g17) = true)
    (aD18 : PySem.W.nsIn K mainGlobals "_law_draw" = some (some (.ref g18)))
    (lD18 : K.lookup g18 = some ⟨goc18, god18, .func (PySem.W.fnOf "_law_draw" "_law_draw" (defArgs sDraw) (defBody sDraw) (defScope sDraw) .none gkV18 gdc18 gpm18 gan18 gcd18 gct18), gsl18⟩)
    (cD18 : PySem.W.codeIn K gcd18 "_law_draw" = true)
    (kD18 : PySem.W.keepIn K (.ref g18) = true)
    (aD19 : PySem.W.nsIn K mainGlobals "_law_pick" = some (some (.ref g19)))
    (lD19 : K.lookup g19 = some ⟨goc19, god19, .func (PySem.W.fnOf "_law_pick" "_law_pick" (defArgs sPick) (defBody sPick) (defScope sPick) .none gkV19 gdc19 gpm19 gan19 gcd19 gct19), gsl19⟩)
    (cD19 : PySem.W.codeIn K gcd19 "_law_pick" = true)
    (kD19 : PySem.W.keepIn K (.ref g19) = true)
    (aD20 : PySem.W.nsIn K mainGlobals "_law_words" = some (some (.ref g20)))
    (lD20 : K.lookup g20 = some ⟨goc20, god20, .func (PySem.W.fnOf "_law_words" "_law_words" (defArgs sWd) (defBody sWd) (defScope sWd) .none gkV20 gdc20 gpm20 gan20 gcd20 gct20), gsl20⟩)
    (cD20 : PySem.W.codeIn K gcd20 "_law_words" = true)
    (kD20 : PySem.W.keepIn K (.ref g20) = true)
    (aD21 : PySem.W.nsIn K mainGlobals "_law_number" = some (some (.ref g21)))
    (lD21 : K.lookup g21 = some ⟨goc21, god21, .func (PySem.W.fnOf "_law_number" "_law_number" (defArgs sNm) (defBody sNm) (defScope sNm) .none gkV21 gdc21 gpm21 gan21 gcd21 gct21), gsl21⟩)
    (cD21 : PySem.W.codeIn K gcd21 "_law_number" = true)
    (kD21 : PySem.W.keepIn K (.ref g21) = true)
    (aD22 : PySem.W.nsIn K mainGlobals "_law_leaf" = some (some (.ref g22)))
    (lD22 : K.lookup g22 = some ⟨goc22, god22, .func (PySem.W.fnOf "_law_leaf" "_law_leaf" (defArgs sLeaf) (defBody sLeaf) (defScope sLeaf) .none gkV22 gdc22 gpm22 gan22 gcd22 gct22), gsl22⟩)
    (cD22 : PySem.W.codeIn K gcd22 "_law_leaf" = true)
    (kD22 : PySem.W.keepIn K (.ref g22) = true)
    (aD23 : PySem.W.nsIn K mainGlobals "_law_e" = some (some (.ref g23)))
    (lD23 : K.lookup g23 = some ⟨goc23, god23, .func (PySem.W.fnOf "_law_e" "_law_e" (defArgs sE) (defBody sE) (defScope sE) .none gkV23 gdc23 gpm23 gan23 gcd23 gct23), gsl23⟩)
    (cD23 : PySem.W.codeIn K gcd23 "_law_e" = true)
    (kD23 : PySem.W.keepIn K (.ref g23) = true)
    (aD24 : PySem.W.nsIn K mainGlobals "_law_c" = some (some (.ref g24)))
    (lD24 : K.lookup g24 = some ⟨goc24, god24, .func (PySem.W.fnOf "_law_c" "_law_c" (defArgs sC) (defBody sC) (defScope sC) .none gkV24 gdc24 gpm24 gan24 gcd24 gct24), gsl24⟩)
    (cD24 : PySem.W.codeIn K gcd24 "_law_c" = true)
    (kD24 : PySem.W.keepIn K (.ref g24) = true)
    (aD25 : PySem.W.nsIn K mainGlobals "_law_deed" = some (some (.ref g25)))
    (lD25 : K.lookup g25 = some ⟨goc25, god25, .func (PySem.W.fnOf "_law_deed" "_law_deed" (defArgs sDd) (defBody sDd) (defScope sDd) .none gkV25 gdc25 gpm25 gan25 gcd25 gct25), gsl25⟩)
    (cD25 : PySem.W.codeIn K gcd25 "_law_deed" = true)
    (kD25 : PySem.W.keepIn K (.ref g25) = true)
    (aD26 : PySem.W.nsIn K mainGlobals "_law_deeds" = some (some (.ref g26)))
    (lD26 : K.lookup g26 = some ⟨goc26, god26, .func (PySem.W.fnOf "_law_deeds" "_law_deeds" (defArgs sDs) (defBody sDs) (defScope sDs) .none gkV26 gdc26 gpm26 gan26 gcd26 gct26), gsl26⟩)
    (cD26 : PySem.W.codeIn K gcd26 "_law_deeds" = true)
    (kD26 : PySem.W.keepIn K (.ref g26) = true)
    (aD27 : PySem.W.nsIn K mainGlobals "_law_handler" = some (some (.ref g27)))
    (lD27 : K.lookup g27 = some ⟨goc27, god27, .func (PySem.W.fnOf "_law_handler" "_law_handler" (defArgs sHn) (defBody sHn) (defScope sHn) .none gkV27 gdc27 gpm27 gan27 gcd27 gct27), gsl27⟩)
    (cD27 : PySem.W.codeIn K gcd27 "_law_handler" = true)
    (kD27 : PySem.W.keepIn K (.ref g27) = true)
    (aD28 : PySem.W.nsIn K mainGlobals "_law_rows" = some (some (.ref g28)))
    (lD28 : K.lookup g28 = some ⟨goc28, god28, .func (PySem.W.fnOf "_law_rows" "_law_rows" (defArgs sRows) (defBody sRows) (defScope sRows) .none gkV28 gdc28 gpm28 gan28 gcd28 gct28), gsl28⟩)
    (cD28 : PySem.W.codeIn K gcd28 "_law_rows" = true)
    (kD28 : PySem.W.keepIn K (.ref g28) = true)
    (aD29 : PySem.W.nsIn K mainGlobals "_law_row_tuple" = some (some (.ref g29)))
    (lD29 : K.lookup g29 = some ⟨goc29, god29, .func (PySem.W.fnOf "_law_row_tuple" "_law_row_tuple" (defArgs sRT) (defBody sRT) (defScope sRT) .none gkV29 gdc29 gpm29 gan29 gcd29 gct29), gsl29⟩)
    (cD29 : PySem.W.codeIn K gcd29 "_law_row_tuple" = true)
    (kD29 : PySem.W.keepIn K (.ref g29) = true)
    (aD30 : PySem.W.nsIn K mainGlobals "_law_worth" = some (some (.ref g30)))
    (lD30 : K.lookup g30 = some ⟨goc30, god30, .func (PySem.W.fnOf "_law_worth" "_law_worth" (defArgs sW) (defBody sW) (defScope sW) .none gkV30 gdc30 gpm30 gan30 gcd30 gct30), gsl30⟩)
    (cD30 : PySem.W.codeIn K gcd30 "_law_worth" = true)
    (kD30 : PySem.W.keepIn K (.ref g30) = true)
    (aD31 : PySem.W.nsIn K mainGlobals "_law_holds" = some (some (.ref g31)))
    (lD31 : K.lookup g31 = some ⟨goc31, god31, .func (PySem.W.fnOf "_law_holds" "_law_holds" (defArgs sH) (defBody sH) (defScope sH) .none gkV31 gdc31 gpm31 gan31 gcd31 gct31), gsl31⟩)
    (cD31 : PySem.W.codeIn K gcd31 "_law_holds" = true)
    (kD31 : PySem.W.keepIn K (.ref g31) = true)
    (aD32 : PySem.W.nsIn K mainGlobals "_law_did" = some (some (.ref g32)))
    (lD32 : K.lookup g32 = some ⟨goc32, god32, .func (PySem.W.fnOf "_law_did" "_law_did" (defArgs sD) (defBody sD) (defScope sD) .none gkV32 gdc32 gpm32 gan32 gcd32 gct32), gsl32⟩)
    (cD32 : PySem.W.codeIn K gcd32 "_law_did" = true)
    (kD32 : PySem.W.keepIn K (.ref g32) = true)
    (aD33 : PySem.W.nsIn K mainGlobals "_law_run" = some (some (.ref g33)))
    (lD33 : K.lookup g33 = some ⟨goc33, god33, .func (PySem.W.fnOf "_law_run" "_law_run" (defArgs sU) (defBody sU) (defScope sU) .none gkV33 gdc33 gpm33 gan33 gcd33 gct33), gsl33⟩)
    (cD33 : PySem.W.codeIn K gcd33 "_law_run" = true)
    (kD33 : PySem.W.keepIn K (.ref g33) = true)
    (aD34 : PySem.W.nsIn K mainGlobals "law" = some (some (.ref g34)))
    (lD34 : K.lookup g34 = some ⟨goc34, god34, .func (PySem.W.fnOf "law" "law" (defArgs sLaw) (defBody sLaw) (defScope sLaw) .none gkV34 gdc34 gpm34 gan34 gcd34 gct34), gsl34⟩)
    (cD34 : PySem.W.codeIn K gcd34 "law" = true)
    (kD34 : PySem.W.keepIn K (.ref g34) = true)
    (td9 : K.lookup dt9 = some ⟨doc9, dod9, .seq #[.int 6 dtk9] dn9, dsl9⟩)
    (td10 : K.lookup dt10 = some ⟨doc10, dod10, .seq #[.int 6 dtk10] dn10, dsl10⟩)
    (aR : PySem.W.nsIn K mainGlobals "Run" = some (some (.ref C)))
    (aD35 : PySem.W.findIn K (.ref C) "__init__" = some (some (.ref g35)))
    (iD35 : PySem.W.isFn K (.ref g35) = true)
    (lD35 : K.lookup g35 = some ⟨goc35, god35, .func (PySem.W.fnOf "__init__" "Run.__init__" (defArgs sIn) (defBody sIn) (defScope sIn) .none gkV35 gdc35 gpm35 gan35 gcd35 gct35), gsl35⟩)
    (cD35 : PySem.W.codeIn K gcd35 "Run.__init__" = true)
    (kD35 : PySem.W.keepIn K (.ref g35) = true)
    (aD36 : PySem.W.findIn K (.ref C) "rows" = some (some (.ref g36)))
    (iD36 : PySem.W.isFn K (.ref g36) = true)
    (lD36 : K.lookup g36 = some ⟨goc36, god36, .func (PySem.W.fnOf "rows" "Run.rows" (defArgs sRws) (defBody sRws) (defScope sRws) .none gkV36 gdc36 gpm36 gan36 gcd36 gct36), gsl36⟩)
    (cD36 : PySem.W.codeIn K gcd36 "Run.rows" = true)
    (kD36 : PySem.W.keepIn K (.ref g36) = true)
    (aD37 : PySem.W.findIn K (.ref C) "told" = some (some (.ref g37)))
    (iD37 : PySem.W.isFn K (.ref g37) = true)
    (lD37 : K.lookup g37 = some ⟨goc37, god37, .func (PySem.W.fnOf "told" "Run.told" (defArgs sTd) (defBody sTd) (defScope sTd) .none gkV37 gdc37 gpm37 gan37 gcd37 gct37), gsl37⟩)
    (cD37 : PySem.W.codeIn K gcd37 "Run.told" = true)
    (kD37 : PySem.W.keepIn K (.ref g37) = true)
    (aD38 : PySem.W.findIn K (.ref C) "read" = some (some (.ref g38)))
    (iD38 : PySem.W.isFn K (.ref g38) = true)
    (lD38 : K.lookup g38 = some ⟨goc38, god38, .func (PySem.W.fnOf "read" "Run.read" (defArgs sRe) (defBody sRe) (defScope sRe) .none gkV38 gdc38 gpm38 gan38 gcd38 gct38), gsl38⟩)
    (cD38 : PySem.W.codeIn K gcd38 "Run.read" = true)
    (kD38 : PySem.W.keepIn K (.ref g38) = true)
    (aD39 : PySem.W.findIn K (.ref C) "worth" = some (some (.ref g39)))
    (iD39 : PySem.W.isFn K (.ref g39) = true)
    (lD39 : K.lookup g39 = some ⟨goc39, god39, .func (PySem.W.fnOf "worth" "Run.worth" (defArgs sWo) (defBody sWo) (defScope sWo) .none gkV39 gdc39 gpm39 gan39 gcd39 gct39), gsl39⟩)
    (cD39 : PySem.W.codeIn K gcd39 "Run.worth" = true)
    (kD39 : PySem.W.keepIn K (.ref g39) = true)
    (aD40 : PySem.W.findIn K (.ref C) "holds" = some (some (.ref g40)))
    (iD40 : PySem.W.isFn K (.ref g40) = true)
    (lD40 : K.lookup g40 = some ⟨goc40, god40, .func (PySem.W.fnOf "holds" "Run.holds" (defArgs sHo) (defBody sHo) (defScope sHo) .none gkV40 gdc40 gpm40 gan40 gcd40 gct40), gsl40⟩)
    (cD40 : PySem.W.codeIn K gcd40 "Run.holds" = true)
    (kD40 : PySem.W.keepIn K (.ref g40) = true)
    (aD41 : PySem.W.findIn K (.ref C) "do_all" = some (some (.ref g41)))
    (iD41 : PySem.W.isFn K (.ref g41) = true)
    (lD41 : K.lookup g41 = some ⟨goc41, god41, .func (PySem.W.fnOf "do_all" "Run.do_all" (defArgs sDa) (defBody sDa) (defScope sDa) .none gkV41 gdc41 gpm41 gan41 gcd41 gct41), gsl41⟩)
    (cD41 : PySem.W.codeIn K gcd41 "Run.do_all" = true)
    (kD41 : PySem.W.keepIn K (.ref g41) = true)
    (aD42 : PySem.W.findIn K (.ref C) "do_one" = some (some (.ref g42)))
    (iD42 : PySem.W.isFn K (.ref g42) = true)
    (lD42 : K.lookup g42 = some ⟨goc42, god42, .func (PySem.W.fnOf "do_one" "Run.do_one" (defArgs sDo) (defBody sDo) (defScope sDo) .none gkV42 gdc42 gpm42 gan42 gcd42 gct42), gsl42⟩)
    (cD42 : PySem.W.codeIn K gcd42 "Run.do_one" = true)
    (kD42 : PySem.W.keepIn K (.ref g42) = true)
    (pg : PySem.W.plainGet K C Str.empty = true)
    (hd : PySem.W.hasDictIn K C = true)
    (po : PySem.W.plainOver K C = true)
    (sa : PySem.W.findIn K (.ref C) "__setattr__" = some (some (.builtin "object.__setattr__")))
    (mk : PySem.W.makesIn K C = true)
    (kc : PySem.W.keepIn K (.ref C) = true)
    (n_key : PySem.W.findIn K (.ref C) "key" = some none)
    (n_body : PySem.W.findIn K (.ref C) "body" = some none)
    (n_table : PySem.W.findIn K (.ref C) "table" = some none)
    (n_sends : PySem.W.findIn K (.ref C) "sends" = some none)
    (n_failed : PySem.W.findIn K (.ref C) "failed" = some none)
    (n_reads : PySem.W.findIn K (.ref C) "reads" = some none)
    (n_writes : PySem.W.findIn K (.ref C) "writes" = some none) :
    ∃ fd : FuncData, (∀ (s : Shared) (v : Value), BindsTo s fd ⟨[v], []⟩ [("_law_script", v)]) ∧ ∀ base : Heap, K.In base → base.Ns mainGlobals mg → FnG l.prog w K mg base CX0 41 fa fd ["_law_script"] (spLaw K) := by
  have e := hfa.symm.trans (PySem.W.mg_of X G aD34)
  cases e
  have F0 := fun_mk (st := sNum) lD0 cD0 kD0
  have b0 := F0.binds (ps := ["value"]) fun _ _ _ _ _ _ us hl => match us, hl with | [_], _ => rfl
  have T0 : DefT K mg "is_number" g0 := ⟨PySem.W.mg_of X G aD0, kD0⟩
  have F1 := fun_mk (st := sVal) lD1 cD1 kD1
  have b1 := F1.binds (ps := ["value"]) fun _ _ _ _ _ _ us hl => match us, hl with | [_], _ => rfl
  have T1 : DefT K mg "is_value" g1 := ⟨PySem.W.mg_of X G aD1, kD1⟩
  have F2 := fun_mk (st := sWord) lD2 cD2 kD2
  have b2 := F2.binds (ps := ["value"]) fun _ _ _ _ _ _ us hl => match us, hl with | [_], _ => rfl
  have T2 : DefT K mg "is_word" g2 := ⟨PySem.W.mg_of X G aD2, kD2⟩
  have F3 := fun_mk (st := sTof) lD3 cD3 kD3
  have b3 := F3.binds (ps := ["value", "length"]) fun _ _ _ _ _ _ us hl => match us, hl with | [_, _], _ => rfl
  have T3 : DefT K mg "is_tuple_of" g3 := ⟨PySem.W.mg_of X G aD3, kD3⟩
  have F4 := fun_mk (st := sMs) lD4 cD4 kD4
  have b4 := F4.binds (ps := ["value"]) fun _ _ _ _ _ _ us hl => match us, hl with | [_], _ => rfl
  have T4 : DefT K mg "is_message" g4 := ⟨PySem.W.mg_of X G aD4, kD4⟩
  have F5 := fun_mk (st := sRw) lD5 cD5 kD5
  have b5 := F5.binds (ps := ["value"]) fun _ _ _ _ _ _ us hl => match us, hl with | [_], _ => rfl
  have T5 : DefT K mg "is_row" g5 := ⟨PySem.W.mg_of X G aD5, kD5⟩
  have F6 := fun_mk (st := sRs) lD6 cD6 kD6
  have b6 := F6.binds (ps := ["value"]) fun _ _ _ _ _ _ us hl => match us, hl with | [_], _ => rfl
  have T6 : DefT K mg "is_rows" g6 := ⟨PySem.W.mg_of X G aD6, kD6⟩
  have F7 := fun_mk (st := sCb) lD7 cD7 kD7
  have b7 := F7.binds (ps := ["sign", "left", "right"]) fun _ _ _ _ _ _ us hl => match us, hl with | [_, _, _], _ => rfl
  have T7 : DefT K mg "combined" g7 := ⟨PySem.W.mg_of X G aD7, kD7⟩
  have F8 := fun_mk (st := sRo) lD8 cD8 kD8
  have b8 := F8.binds (ps := ["handler", "rows", "message"]) fun _ _ _ _ _ _ us hl => match us, hl with | [_, _, _], _ => rfl
  have T8 : DefT K mg "run_of" g8 := ⟨PySem.W.mg_of X G aD8, kD8⟩
  have F9 : FunD K "is_expression" "is_expression" (defArgs sExp) (defBody sExp) (defScope sExp) [V.int 6] [] g9 _ := ⟨⟨_, _, _, _, _, _, _, _, _, _, rfl, lD9, cD9, .inr ⟨by simp, dt9, _, [.int 6 dtk9], _, rfl, td9, rfl, .cons ⟨_, rfl⟩ .nil⟩, .inl rfl⟩, kD9⟩
  obtain ⟨e9, v9, b9⟩ := F9.binds1 (ps := ["value", "deep"]) 2 1 (by simp) rfl (fun T kV doc pm an cdv ct us its h1 h2 => match us, its, h1, h2 with | [_, _], [_], _, _ => ⟨_, rfl, rfl⟩)
  cases v9
  obtain ⟨e9x, v9x, b9x⟩ := F9.binds1 (ps := ["value", "deep"]) 1 0 (by simp) rfl (fun T kV doc pm an cdv ct us its h1 h2 => match us, its, h1, h2 with | [_], [_], _, _ => ⟨_, rfl, rfl⟩)
  obtain ⟨u9x, rfl, w9x⟩ := vals1 v9x
  obtain ⟨t9x, rfl⟩ := w9x
  have T9 : DefT K mg "is_expression" g9 := ⟨PySem.W.mg_of X G aD9, kD9⟩
  have F10 : FunD K "is_condition" "is_condition" (defArgs sCon) (defBody sCon) (defScope sCon) [V.int 6] [] g10 _ := ⟨⟨_, _, _, _, _, _, _, _, _, _, rfl, lD10, cD10, .inr ⟨by simp, dt10, _, [.int 6 dtk10], _, rfl, td10, rfl, .cons ⟨_, rfl⟩ .nil⟩, .inl rfl⟩, kD10⟩
  obtain ⟨e10, v10, b10⟩ := F10.binds1 (ps := ["value", "deep"]) 2 1 (by simp) rfl (fun T kV doc pm an cdv ct us its h1 h2 => match us, its, h1, h2 with | [_, _], [_], _, _ => ⟨_, rfl, rfl⟩)
  cases v10
  obtain ⟨e10x, v10x, b10x⟩ := F10.binds1 (ps := ["value", "deep"]) 1 0 (by simp) rfl (fun T kV doc pm an cdv ct us its h1 h2 => match us, its, h1, h2 with | [_], [_], _, _ => ⟨_, rfl, rfl⟩)
  obtain ⟨u10x, rfl, w10x⟩ := vals1 v10x
  obtain ⟨t10x, rfl⟩ := w10x
  have T10 : DefT K mg "is_condition" g10 := ⟨PySem.W.mg_of X G aD10, kD10⟩
  have F11 := fun_mk (st := sHand) lD11 cD11 kD11
  have b11 := F11.binds (ps := ["value"]) fun _ _ _ _ _ _ us hl => match us, hl with | [_], _ => rfl
  have T11 : DefT K mg "is_handler" g11 := ⟨PySem.W.mg_of X G aD11, kD11⟩
  have F12 := fun_mk (st := sRoom) lD12 cD12 kD12
  have b12 := F12.binds (ps := ["deeds", "room", "ifs"]) fun _ _ _ _ _ _ us hl => match us, hl with | [_, _, _], _ => rfl
  have T12 : DefT K mg "room_after" g12 := ⟨PySem.W.mg_of X G aD12, kD12⟩
  have F13 := fun_mk (st := sDeed) lD13 cD13 kD13
  have b13 := F13.binds (ps := ["deed", "room", "ifs"]) fun _ _ _ _ _ _ us hl => match us, hl with | [_, _, _], _ => rfl
  have T13 : DefT K mg "room_after_deed" g13 := ⟨PySem.W.mg_of X G aD13, kD13⟩
  have F14 := fun_mk (st := sOne) lD14 cD14 kD14
  have b14 := F14.binds (ps := ["value"]) fun _ _ _ _ _ _ us hl => match us, hl with | [_], _ => rfl
  have T14 : DefT K mg "is_single_deed" g14 := ⟨PySem.W.mg_of X G aD14, kD14⟩
  have F15 := fun_mk (st := sKey) lD15 cD15 kD15
  have b15 := F15.binds (ps := ["value"]) fun _ _ _ _ _ _ us hl => match us, hl with | [_], _ => rfl
  have T15 : DefT K mg "is_key" g15 := ⟨PySem.W.mg_of X G aD15, kD15⟩
  have F16 := fun_mk (st := sRh) lD16 cD16 kD16
  have b16 := F16.binds (ps := ["handler", "rows", "message"]) fun _ _ _ _ _ _ us hl => match us, hl with | [_, _, _], _ => rfl
  have T16 : DefT K mg "run_handler" g16 := ⟨PySem.W.mg_of X G aD16, kD16⟩
  have F17 := fun_mk (st := sPen) lD17 cD17 kD17
  have b17 := F17.binds (ps := ["_law_script"]) fun _ _ _ _ _ _ us hl => match us, hl with | [_], _ => rfl
  have T17 : DefT K mg "_law_pen" g17 := ⟨PySem.W.mg_of X G aD17, kD17⟩
  have F18 := fun_mk (st := sDraw) lD18 cD18 kD18
  have b18 := F18.binds (ps := ["_law_pen_here", "_law_many"]) fun _ _ _ _ _ _ us hl => match us, hl with | [_, _], _ => rfl
  have T18 : DefT K mg "_law_draw" g18 := ⟨PySem.W.mg_of X G aD18, kD18⟩
  have F19 := fun_mk (st := sPick) lD19 cD19 kD19
  have b19 := F19.binds (ps := ["_law_pen_here", "_law_items"]) fun _ _ _ _ _ _ us hl => match us, hl with | [_, _], _ => rfl
  have T19 : DefT K mg "_law_pick" g19 := ⟨PySem.W.mg_of X G aD19, kD19⟩
  have F20 := fun_mk (st := sWd) lD20 cD20 kD20
  have b20 := F20.binds (ps := ["_law_pen_here", "_law_many"]) fun _ _ _ _ _ _ us hl => match us, hl with | [_, _], _ => rfl
  have T20 : DefT K mg "_law_words" g20 := ⟨PySem.W.mg_of X G aD20, kD20⟩
  have F21 := fun_mk (st := sNm) lD21 cD21 kD21
  have b21 := F21.binds (ps := ["_law_pen_here"]) fun _ _ _ _ _ _ us hl => match us, hl with | [_], _ => rfl
  have T21 : DefT K mg "_law_number" g21 := ⟨PySem.W.mg_of X G aD21, kD21⟩
  have F22 := fun_mk (st := sLeaf) lD22 cD22 kD22
  have b22 := F22.binds (ps := ["_law_pen_here", "_law_names"]) fun _ _ _ _ _ _ us hl => match us, hl with | [_, _], _ => rfl
  have T22 : DefT K mg "_law_leaf" g22 := ⟨PySem.W.mg_of X G aD22, kD22⟩
  have F23 := fun_mk (st := sE) lD23 cD23 kD23
  have b23 := F23.binds (ps := ["_law_pen_here", "_law_names", "_law_deep"]) fun _ _ _ _ _ _ us hl => match us, hl with | [_, _, _], _ => rfl
  have T23 : DefT K mg "_law_e" g23 := ⟨PySem.W.mg_of X G aD23, kD23⟩
  have F24 := fun_mk (st := sC) lD24 cD24 kD24
  have b24 := F24.binds (ps := ["_law_pen_here", "_law_names", "_law_deep"]) fun _ _ _ _ _ _ us hl => match us, hl with | [_, _, _], _ => rfl
  have T24 : DefT K mg "_law_c" g24 := ⟨PySem.W.mg_of X G aD24, kD24⟩
  have F25 := fun_mk (st := sDd) lD25 cD25 kD25
  have b25 := F25.binds (ps := ["_law_pen_here", "_law_place", "_law_ifs"]) fun _ _ _ _ _ _ us hl => match us, hl with | [_, _, _], _ => rfl
  have T25 : DefT K mg "_law_deed" g25 := ⟨PySem.W.mg_of X G aD25, kD25⟩
  have F26 := fun_mk (st := sDs) lD26 cD26 kD26
  have b26 := F26.binds (ps := ["_law_pen_here", "_law_place", "_law_ifs"]) fun _ _ _ _ _ _ us hl => match us, hl with | [_, _, _], _ => rfl
  have T26 : DefT K mg "_law_deeds" g26 := ⟨PySem.W.mg_of X G aD26, kD26⟩
  have F27 := fun_mk (st := sHn) lD27 cD27 kD27
  have b27 := F27.binds (ps := ["_law_pen_here", "_law_names", "_law_keys", "_law_kinds", "_law_sends"]) fun _ _ _ _ _ _ us hl => match us, hl with | [_, _, _, _, _], _ => rfl
  have T27 : DefT K mg "_law_handler" g27 := ⟨PySem.W.mg_of X G aD27, kD27⟩
  have F28 := fun_mk (st := sRows) lD28 cD28 kD28
  have b28 := F28.binds (ps := ["_law_pen_here", "_law_names", "_law_keys"]) fun _ _ _ _ _ _ us hl => match us, hl with | [_, _, _], _ => rfl
  have T28 : DefT K mg "_law_rows" g28 := ⟨PySem.W.mg_of X G aD28, kD28⟩
  have F29 := fun_mk (st := sRT) lD29 cD29 kD29
  have b29 := F29.binds (ps := ["_law_found"]) fun _ _ _ _ _ _ us hl => match us, hl with | [_], _ => rfl
  have T29 : DefT K mg "_law_row_tuple" g29 := ⟨PySem.W.mg_of X G aD29, kD29⟩
  have F30 := fun_mk (st := sW) lD30 cD30 kD30
  have b30 := F30.binds (ps := ["_law_e_here", "_law_values", "_law_key", "_law_body"]) fun _ _ _ _ _ _ us hl => match us, hl with | [_, _, _, _], _ => rfl
  have T30 : DefT K mg "_law_worth" g30 := ⟨PySem.W.mg_of X G aD30, kD30⟩
  have F31 := fun_mk (st := sH) lD31 cD31 kD31
  have b31 := F31.binds (ps := ["_law_c_here", "_law_values", "_law_key", "_law_body"]) fun _ _ _ _ _ _ us hl => match us, hl with | [_, _, _, _], _ => rfl
  have T31 : DefT K mg "_law_holds" g31 := ⟨PySem.W.mg_of X G aD31, kD31⟩
  have F32 := fun_mk (st := sD) lD32 cD32 kD32
  have b32 := F32.binds (ps := ["_law_deeds_here", "_law_values", "_law_sends", "_law_key", "_law_body"]) fun _ _ _ _ _ _ us hl => match us, hl with | [_, _, _, _, _], _ => rfl
  have T32 : DefT K mg "_law_did" g32 := ⟨PySem.W.mg_of X G aD32, kD32⟩
  have F33 := fun_mk (st := sU) lD33 cD33 kD33
  have b33 := F33.binds (ps := ["_law_handler_here", "_law_rows_here", "_law_message"]) fun _ _ _ _ _ _ us hl => match us, hl with | [_, _, _], _ => rfl
  have T33 : DefT K mg "_law_run" g33 := ⟨PySem.W.mg_of X G aD33, kD33⟩
  have F34 := fun_mk (st := sLaw) lD34 cD34 kD34
  have F35 := fun_mk (st := sIn) lD35 cD35 kD35
  have b35 := F35.binds (ps := ["self", "rows", "message"]) fun _ _ _ _ _ _ us hl => match us, hl with | [_, _, _], _ => rfl
  have F36 := fun_mk (st := sRws) lD36 cD36 kD36
  have b36 := F36.binds (ps := ["self"]) fun _ _ _ _ _ _ us hl => match us, hl with | [_], _ => rfl
  have m36 : Meth K C "rows" g36 := ⟨aD36, iD36, kD36⟩
  have F37 := fun_mk (st := sTd) lD37 cD37 kD37
  have b37 := F37.binds (ps := ["self"]) fun _ _ _ _ _ _ us hl => match us, hl with | [_], _ => rfl
  have m37 : Meth K C "told" g37 := ⟨aD37, iD37, kD37⟩
  have F38 := fun_mk (st := sRe) lD38 cD38 kD38
  have b38 := F38.binds (ps := ["self", "place"]) fun _ _ _ _ _ _ us hl => match us, hl with | [_, _], _ => rfl
  have m38 : Meth K C "read" g38 := ⟨aD38, iD38, kD38⟩
  have F39 := fun_mk (st := sWo) lD39 cD39 kD39
  have b39 := F39.binds (ps := ["self", "expression"]) fun _ _ _ _ _ _ us hl => match us, hl with | [_, _], _ => rfl
  have m39 : Meth K C "worth" g39 := ⟨aD39, iD39, kD39⟩
  have F40 := fun_mk (st := sHo) lD40 cD40 kD40
  have b40 := F40.binds (ps := ["self", "condition"]) fun _ _ _ _ _ _ us hl => match us, hl with | [_, _], _ => rfl
  have m40 : Meth K C "holds" g40 := ⟨aD40, iD40, kD40⟩
  have F41 := fun_mk (st := sDa) lD41 cD41 kD41
  have b41 := F41.binds (ps := ["self", "deeds"]) fun _ _ _ _ _ _ us hl => match us, hl with | [_, _], _ => rfl
  have m41 : Meth K C "do_all" g41 := ⟨aD41, iD41, kD41⟩
  have F42 := fun_mk (st := sDo) lD42 cD42 kD42
  have b42 := F42.binds (ps := ["self", "deed"]) fun _ _ _ _ _ _ us hl => match us, hl with | [_, _], _ => rfl
  have m42 : Meth K C "do_one" g42 := ⟨aD42, iD42, kD42⟩
  have TH : TxtH mg := ⟨PySem.W.mg_none_of X G z_isinstance, PySem.W.mg_none_of X G z_len, PySem.W.mg_none_of X G z_all, PySem.W.mg_none_of X G z_int, PySem.W.mg_none_of X G z_bool, PySem.W.mg_none_of X G z_str, PySem.W.mg_none_of X G z_tuple, ⟨_, PySem.W.mg_of X G cB⟩, ⟨_, PySem.W.mg_of X G cL⟩, ⟨_, PySem.W.mg_of X G cA⟩⟩
  have TM : TxtM mg := ⟨⟨_, PySem.W.mg_of X G cM⟩, ⟨_, PySem.W.mg_of X G cI⟩⟩
  have TP : TxtP mg := ⟨PySem.W.mg_none_of X G z_int, PySem.W.mg_none_of X G z_len, PySem.W.mg_none_of X G z_abs, PySem.W.mg_none_of X G z_list⟩
  have TS : TxtS mg := ⟨PySem.W.mg_none_of X G z_tuple, PySem.W.mg_none_of X G z_sorted⟩
  have TR := PySem.W.mg_none_of X G z_range
  have TRp := PySem.W.mg_none_of X G z_repr
  have c : RunC K C := ⟨⟨pg, hd, po, sa⟩, n_key, n_body, n_table, n_sends, n_failed, n_reads, n_writes⟩
  refine ⟨PySem.W.fnOf "law" "law" (defArgs sLaw) (defBody sLaw) (defScope sLaw) .none gkV34 gdc34 gpm34 gan34 gcd34 gct34, fun s v => .of_eq rfl, fun base _ _ => ?_⟩
  have Gnum := ok_num (P := l.prog) (w := w) (base := base) F0 TH
  have Gval := ok_val F1 TH Gnum T0 b0
  have Gword := ok_word (P := l.prog) (w := w) (base := base) F2 TH
  have Gtof := ok_tof (P := l.prog) (w := w) (base := base) F3 TH
  have Gkey := ok_key F15 Gword T2 b2
  have Gexp := ok_exp F9 TH T9 b9 Gval T1 b1 Gword T2 b2 7
  have Gcon := ok_con F10 TH T10 b10 Gexp T9 b9x 7
  have Gone := ok_one F14 TH Gexp T9 b9x Gword T2 b2 Gkey T15 b15
  have Grm := ok_rooms F12 TH F13 T13 b13 T12 b12 Gone T14 b14 Gtof T3 b3 Gcon T10 b10x 4
  have Ghand := ok_hand F11 TM Grm T12 b12
  have Gms := ok_ms F4 Gtof T3 b3 Gword T2 b2 Gval T1 b1
  have Grw := ok_rw F5 Gtof T3 b3 Gword T2 b2 Gval T1 b1
  have Grs := ok_rs F6 TH (PySem.W.mg_none_of X G z_zip) Grw T5 b5
  have Gcb := ok_cb (P := l.prog) (w := w) (base := base) F7 TH (PySem.W.mg_none_of X G z_min) (PySem.W.mg_none_of X G z_max)
  have Gre := ok_re (mg := mg) (P := l.prog) (w := w) (base := base) F38 c
  have Gwo := ok_wo F39 c m39 b39 Gre m38 b38 Gcb T7 b7 7
  have Gho := ok_ho F40 TH (PySem.W.mg_none_of X G z_any) c m40 b40 Gwo m39 b39 7
  have Gda := ok_dos F42 F41 c Gwo m39 b39 Gho m40 b40 m42 b42 m41 b41 4
  have Gin := ok_in (mg := mg) (P := l.prog) (w := w) (base := base) F35 c
  have Gtd := ok_td (P := l.prog) (w := w) (base := base) F37 TS c
  have Grws := ok_rws (P := l.prog) (w := w) (base := base) F36 TS c
  have Gro := ok_ro F8 c (PySem.W.mg_of X G aR) ⟨mk, aD35, iD35, kc⟩ Gin b35 Gda m41 b41
  have Grh := ok_rh F16 c Ghand T11 b11 Grs T6 b6 Gms T4 b4 Gro T8 b8 Grws m36 b36 Gtd m37 b37
  have Gpen := ok_pen (P := l.prog) (w := w) (base := base) F17 TP
  have Gdraw := ok_draw (P := l.prog) (w := w) (base := base) F18 TP
  have Gpick := ok_pick (P := l.prog) (w := w) (base := base) F19 TP F18 T18 b18
  have GpickS := ok_pickS F19 TH Gdraw T18 b18
  have Gnm := ok_nm F21 Gdraw T18 b18 Gpick T19 b19
  have Glf := ok_leaf F22 Gnm T21 b21 Gpick T19 b19
  have Ge := ok_e F23 T23 b23 Gdraw T18 b18 Gpick T19 b19 Glf T22 b22 5
  have Gc := ok_c F24 T24 b24 Gdraw T18 b18 Ge T23 b23 5
  have Gwd := ok_wd F20 TH TR Gdraw T18 b18 GpickS Gpick T19 b19
  have Gds := ok_dss F26 F25 TH TR Gdraw T18 b18 Gpick T19 b19 Ge T23 b23 Gc T24 b24 T26 b26 T25 b25 4
  have Ghn := ok_hn F27 Gdraw T18 b18 Gpick T19 b19 Ge T23 b23 Gds T26 b26
  have Grt := ok_rt (P := l.prog) (w := w) (base := base) F29 TS
  have Grows := ok_rows F28 Gdraw T18 b18 Gnm T21 b21 Grt T29 b29
  have Gw := ok_w (P := l.prog) (w := w) (base := base) F30 T30 b30 7
  have Gh := ok_h F31 T31 b31 Gw T30 b30 7
  have Gd := ok_d F32 T32 b32 Gw T30 b30 Gh T31 b31 4
  have Gu := ok_u F33 TS (PySem.W.mg_none_of X G z_dict) Gd T32 b32 Grt T29 b29
  exact ok_law F34 TR TRp Gpen T17 b17 Gwd T20 b20 Ghn T27 b27 Grows T28 b28 Gpick T19 b19 Gnm T21 b21 Grh T16 b16 Gu T33 b33
end Hd

set_option Elab.async false
set_option linter.all false
set_option maxRecDepth 100000
open L2

open PySem PySem.W PyProof.Rows
set_option maxRecDepth 100000 in
set_option maxHeartbeats 0 in
theorem PySem.Challenge.cw_oncepost_k01_runs_of_handlers_holds : PySem.Challenge.rw_oncepost_k01_runs_of_handlers.Holds := by
  w_on; o_law; k_head; (case hw => w_witness2)
  k_fill
  refine RG.walkG (l := PySem.Challenge.rw_oncepost_k01_runs_of_handlers) (n := 41) (x := "_law_script") (CX := CX0) (sp := Hd.spLaw) rfl (by decide) rfl ⟨rfl, by decide, by decide⟩ (fun w h Y => PySem.W.kIn_of Y) ?F ?tl ?qu
  case F =>
    intro w mg fa h KX G hmg
    refine' Hd.all_mk KX G hmg ?z_isinstance ?z_len ?z_all ?z_int ?z_bool ?z_str ?z_tuple ?z_abs ?z_list ?z_range ?z_repr ?z_zip ?z_min ?z_max ?z_any ?z_sorted ?z_dict ?cB ?cL ?cA ?cM ?cI ?aD0 ?lD0 ?cD0 ?kD0 ?aD1 ?lD1 ?cD1 ?kD1 ?aD2 ?lD2 ?cD2 ?kD2 ?aD3 ?lD3 ?cD3 ?kD3 ?aD4 ?lD4 ?cD4 ?kD4 ?aD5 ?lD5 ?cD5 ?kD5 ?aD6 ?lD6 ?cD6 ?kD6 ?aD7 ?lD7 ?cD7 ?kD7 ?aD8 ?lD8 ?cD8 ?kD8 ?aD9 ?lD9 ?cD9 ?kD9 ?aD10 ?lD10 ?cD10 ?kD10 ?aD11 ?lD11 ?cD11 ?kD11 ?aD12 ?lD12 ?cD12 ?kD12 ?aD13 ?lD13 ?cD13 ?kD13 ?aD14 ?lD14 ?cD14 ?kD14 ?aD15 ?lD15 ?cD15 ?kD15 ?aD16 ?lD16 ?cD16 ?kD16 ?aD17 ?lD17 ?cD17 ?kD17 ?aD18 ?lD18 ?cD18 ?kD18 ?aD19 ?lD19 ?cD19 ?kD19 ?aD20 ?lD20 ?cD20 ?kD20 ?aD21 ?lD21 ?cD21 ?kD21 ?aD22 ?lD22 ?cD22 ?kD22 ?aD23 ?lD23 ?cD23 ?kD23 ?aD24 ?lD24 ?cD24 ?kD24 ?aD25 ?lD25 ?cD25 ?kD25 ?aD26 ?lD26 ?cD26 ?kD26 ?aD27 ?lD27 ?cD27 ?kD27 ?aD28 ?lD28 ?cD28 ?kD28 ?aD29 ?lD29 ?cD29 ?kD29 ?aD30 ?lD30 ?cD30 ?kD30 ?aD31 ?lD31 ?cD31 ?kD31 ?aD32 ?lD32 ?cD32 ?kD32 ?aD33 ?lD33 ?cD33 ?kD33 ?aD34 ?lD34 ?cD34 ?kD34 ?td9 ?td10 ?aR ?aD35 ?iD35 ?lD35 ?cD35 ?kD35 ?aD36 ?iD36 ?lD36 ?cD36 ?kD36 ?aD37 ?iD37 ?lD37 ?cD37 ?kD37 ?aD38 ?iD38 ?lD38 ?cD38 ?kD38 ?aD39 ?iD39 ?lD39 ?cD39 ?kD39 ?aD40 ?iD40 ?lD40 ?cD40 ?kD40 ?aD41 ?iD41 ?lD41 ?cD41 ?kD41 ?aD42 ?iD42 ?lD42 ?cD42 ?kD42 ?pg ?hd ?po ?sa ?mk ?kc ?n_key ?n_body ?n_table ?n_sends ?n_failed ?n_reads ?n_writes
    (case z_isinstance => k_is); (case z_len => k_is); (case z_all => k_is); (case z_int => k_is)
    (case z_bool => k_is); (case z_str => k_is); (case z_tuple => k_is); (case z_abs => k_is)
    (case z_list => k_is); (case z_range => k_is); (case z_repr => k_is); (case z_zip => k_is)
    (case z_min => k_is); (case z_max => k_is); (case z_any => k_is); (case z_sorted => k_is)
    (case z_dict => k_is); (case cB => k_is); (case cL => k_is); (case cA => k_is)
    (case cM => k_is); (case cI => k_is); (case aD0 => k_is); (case lD0 => k_is)
    (case cD0 => k_is); (case kD0 => k_is); (case aD1 => k_is); (case lD1 => k_is)
    (case cD1 => k_is); (case kD1 => k_is); (case aD2 => k_is); (case lD2 => k_is)
    (case cD2 => k_is); (case kD2 => k_is); (case aD3 => k_is); (case lD3 => k_is)
    (case cD3 => k_is); (case kD3 => k_is); (case aD4 => k_is); (case lD4 => k_is)
    (case cD4 => k_is); (case kD4 => k_is); (case aD5 => k_is); (case lD5 => k_is)
    (case cD5 => k_is); (case kD5 => k_is); (case aD6 => k_is); (case lD6 => k_is)
    (case cD6 => k_is); (case kD6 => k_is); (case aD7 => k_is); (case lD7 => k_is)
    (case cD7 => k_is); (case kD7 => k_is); (case aD8 => k_is); (case lD8 => k_is)
    (case cD8 => k_is); (case kD8 => k_is); (case aD9 => k_is); (case lD9 => k_is)
    (case cD9 => k_is); (case kD9 => k_is); (case aD10 => k_is); (case lD10 => k_is)
    (case cD10 => k_is); (case kD10 => k_is); (case aD11 => k_is); (case lD11 => k_is)
    (case cD11 => k_is); (case kD11 => k_is); (case aD12 => k_is); (case lD12 => k_is)
    (case cD12 => k_is); (case kD12 => k_is); (case aD13 => k_is); (case lD13 => k_is)
    (case cD13 => k_is); (case kD13 => k_is); (case aD14 => k_is); (case lD14 => k_is)
    (case cD14 => k_is); (case kD14 => k_is); (case aD15 => k_is); (case lD15 => k_is)
    (case cD15 => k_is); (case kD15 => k_is); (case aD16 => k_is); (case lD16 => k_is)
    (case cD16 => k_is); (case kD16 => k_is); (case aD17 => k_is); (case lD17 => k_is)
    (case cD17 => k_is); (case kD17 => k_is); (case aD18 => k_is); (case lD18 => k_is)
    (case cD18 => k_is); (case kD18 => k_is); (case aD19 => k_is); (case lD19 => k_is)
    (case cD19 => k_is); (case kD19 => k_is); (case aD20 => k_is); (case lD20 => k_is)
    (case cD20 => k_is); (case kD20 => k_is); (case aD21 => k_is); (case lD21 => k_is)
    (case cD21 => k_is); (case kD21 => k_is); (case aD22 => k_is); (case lD22 => k_is)
    (case cD22 => k_is); (case kD22 => k_is); (case aD23 => k_is); (case lD23 => k_is)
    (case cD23 => k_is); (case kD23 => k_is); (case aD24 => k_is); (case lD24 => k_is)
    (case cD24 => k_is); (case kD24 => k_is); (case aD25 => k_is); (case lD25 => k_is)
    (case cD25 => k_is); (case kD25 => k_is); (case aD26 => k_is); (case lD26 => k_is)
    (case cD26 => k_is); (case kD26 => k_is); (case aD27 => k_is); (case lD27 => k_is)
    (case cD27 => k_is); (case kD27 => k_is); (case aD28 => k_is); (case lD28 => k_is)
    (case cD28 => k_is); (case kD28 => k_is); (case aD29 => k_is); (case lD29 => k_is)
    (case cD29 => k_is); (case kD29 => k_is); (case aD30 => k_is); (case lD30 => k_is)
    (case cD30 => k_is); (case kD30 => k_is); (case aD31 => k_is); (case lD31 => k_is)
    (case cD31 => k_is); (case kD31 => k_is); (case aD32 => k_is); (case lD32 => k_is)
    (case cD32 => k_is); (case kD32 => k_is); (case aD33 => k_is); (case lD33 => k_is)
    (case cD33 => k_is); (case kD33 => k_is); (case aD34 => k_is); (case lD34 => k_is)
    (case cD34 => k_is); (case kD34 => k_is); (case td9 => k_is); (case td10 => k_is)
    (case aR => k_is); (case aD35 => k_is); (case iD35 => k_is); (case lD35 => k_is)
    (case cD35 => k_is); (case kD35 => k_is); (case aD36 => k_is); (case iD36 => k_is)
    (case lD36 => k_is); (case cD36 => k_is); (case kD36 => k_is); (case aD37 => k_is)
    (case iD37 => k_is); (case lD37 => k_is); (case cD37 => k_is); (case kD37 => k_is)
    (case aD38 => k_is); (case iD38 => k_is); (case lD38 => k_is); (case cD38 => k_is)
    (case kD38 => k_is); (case aD39 => k_is); (case iD39 => k_is); (case lD39 => k_is)
    (case cD39 => k_is); (case kD39 => k_is); (case aD40 => k_is); (case iD40 => k_is)
    (case lD40 => k_is); (case cD40 => k_is); (case kD40 => k_is); (case aD41 => k_is)
    (case iD41 => k_is); (case lD41 => k_is); (case cD41 => k_is); (case kD41 => k_is)
    (case aD42 => k_is); (case iD42 => k_is); (case lD42 => k_is); (case cD42 => k_is)
    (case kD42 => k_is); (case pg => k_is); (case hd => k_is); (case po => k_is)
    (case sa => k_is); (case mk => k_is); (case kc => k_is); (case n_key => k_is)
    (case n_body => k_is); (case n_table => k_is); (case n_sends => k_is); (case n_failed => k_is)
    (case n_reads => k_is); (case n_writes => k_is)
  case tl =>
    intro K G a ns hl ho hS
    exact ⟨a, ns, rfl, hS, hl, fun _ => rfl⟩
  case qu =>
    intro G s e s' z
    exact z
