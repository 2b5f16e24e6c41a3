import PyProof.Rows.All
import Wide.All
import OpenK.AllK
import Wide.FinOn
import PyProof.ReprRoads
import PyProof.EqAt
import PyProof.EqKinds
import PyProof.TupleCall
import HandS.ForMost
import HandS.Wide
import PyProof.NeKinds
import PyProof.FactsAll.dict_1
import HandS.IsInst
import HandS.ClsMeth
import HandS.Defaults
import PySem.Challenge.RW_oncepost_k69_account_of_great_numbers
import HandS.Style
import HandS.ListItems
import HandS.TupAny
set_option Elab.async false
set_option linter.all false
set_option maxRecDepth 100000
/-! Promises of defs where no repr runs around (A.guards = some []); repr of data; the law's end by such a promise. -/
namespace RG
open PySem PySem.Spec PyProof.Rows L2
/-- a def's promise, to be used where nothing of repr runs around -/
structure FnG (P : Program) (w : World) (K : PySem.W.Frag) (mg : Str → Option Value) (base : Heap) (CX : CXT) (n : Nat) (fn : Addr) (data : FuncData) (pars : List Str) (sp : Sp) : Prop where
  count : ∀ ys G Want Err, sp ys G Want Err → ys.length = pars.length
  go : ∀ (B : Around) (up : List Env) (st : Shared) (G : Hp) (given : Args) (ws : List Value) (ys : List V) (Want : VK) (Err : XK),
    B.guards = some [] → Room n B → Env0 P w K mg base B up st G → BindsTo st data given (pars.zip ws) → Vals ys ws → sp ys G Want Err →
      codeAny (model P w) B (.call (.ref fn) given) (CR CX up P w G st Want Err) st
section
variable {P : Program} {w : World} {K : PySem.W.Frag} {mg : Str → Option Value} {base : Heap} {CX : CXT} {n m : Nat} {fn : Addr} {data : FuncData} {pars : List Str} {sp : Sp}
theorem FnG.of (F : FnOk P w K mg base CX n fn data pars sp) : FnG P w K mg base CX n fn data pars sp :=
  ⟨F.len, fun B up st G given ws ys Want Err _ => F.run B up st G given ws ys Want Err⟩
theorem FnG.mono (F : FnG P w K mg base CX n fn data pars sp) (h : n ≤ m) : FnG P w K mg base CX m fn data pars sp :=
  ⟨F.count, fun B up st G given ws ys Want Err hg hr => F.go B up st G given ws ys Want Err hg (hr.mono h)⟩
/-- the rule for a def of the text: its body, run where nothing of repr is around -/
theorem okG {x qual : Str} {text : Stmt} {N : List Str} (F : Fun K x qual text fn data) (S : FnScope N pars (defScope text)) (count : ∀ ys G Want Err, sp ys G Want Err → ys.length = pars.length)
    (body : ∀ (cd : Value) (B : Around) (up : List Env) (st : Shared) (G : Hp) (ys : List V) (Want : VK) (Err : XK),
      (B.deeper (envOfC qual (defScope text) st.heap.objs.size fn cd)).guards = some [] → Room n (B.deeper (envOfC qual (defScope text) st.heap.objs.size fn cd)) → sp ys G Want Err →
      ∃ t, PSs (cxOf CX P w K mg base N qual (defScope text) fn cd B up st G Err).nox (defBody text) t ∧ t { nx := fun _ G' => Want .non G', rt := Want } (start N ys) G) :
    FnG P w K mg base CX (n + 1) fn data pars sp := by
  obtain ⟨oc, od, kV, doc, pm, an, cd, ct, osl, rfl, at_, hcd⟩ := F.ex
  constructor
  · exact count
  intro B up st G given ws ys Want Err hg hr e0 hb rel told
  have inK : K.In st.heap := e0.mod.kin.keeps (fun b o e => And.left (e0.bs b o e))
  have lim : st.heap.NoLimit := e0.mod.nolimit.keeps (fun b o e => And.left (e0.bs b o e))
  have kinds : ∀ y ∈ pars.zip ws, (defScope text).names.lookup y.1 = some .local ∨ ((defScope text).names.lookup y.1 = some .cell ∧ ((cellsFrom (st.heap.objs.size + 1) (defScope text).names []).lookup y.1).isSome = true) := by
    intro ⟨name, val⟩ hy
    refine (S.par name (List.of_mem_zip hy).1).imp id fun q => ?_
    exact ⟨q, PySem.W.cellsFrom_some _ _ _ (.inl q)⟩
  apply codeAny_call_function hr.depth (inK _ _ at_) rfl S.co S.gen rfl (PySem.W.codeRec_of inK hcd)
  apply hb
  refine wpAny_newFunctionEnv_cells S.kind kinds fun env same s1 inside => ?_
  cases same
  refine ⟨lim.keeps inside.toInCall.keep, codeAny_func ?_⟩
  obtain ⟨t, derived, reading⟩ := body cd B up st G ys Want Err hg (hr.deeper _) told
  have I0 := inv_start (CX := CX) (E := Err) (w := w) (P := P) S hr.hd e0 (count _ _ _ _ told) rel inside
  have back : ∀ {σ1 : L2.St} {G1 : Hp} {y : V} {u : Value} {st1 : Shared}, Inv (cxOf CX P w K mg base N qual (defScope text) fn cd B up st G Err) [] σ1 G1 st1 → RelV y u → Want y G1 → CE up P w G st Want u st1 := by
    intro σ1 G1 y u st1 J ry q
    exact ⟨y, G1, J.os, J.bare, J.base, J.hok, ry, q⟩
  refine wpAny_mono (derived.nox.run [] s1 (start N ys) G _ I0 reading) (fun flow st1 told1 => ?_) (fun _ _ z => z)
  match flow, told1 with
  | .ret u, ⟨y, σ1, G1, J, ry, q⟩ => exact back J ry q
  | .next, ⟨σ1, G1, J, q⟩ => exact back (y := V.non) (u := Value.none) J rfl q
  | .brk, ⟨_, _, _, q⟩ => exact q.elim
  | .cont, ⟨_, _, _, q⟩ => exact q.elim
end
section
variable {X : Cx} {CX : CXT} {n : Nat} {fn : Addr} {data : FuncData} {pars : List Str} {sp : Sp} {dvs : List V} {ds : List Value} {Err : XK}
theorem runG {pins : List (Addr × Obj)} {σ : L2.St} {G : Hp} {st : Shared} {Want : VK} {ws : List Value} {ys : List V} (F : FnG X.prog X.w X.K X.mg X.base CX n fn data pars sp) (hg : X.A.guards = some []) (hr : Room n X.A) (hb : Binds X.K data pars ds) (hd : Vals dvs ds)
    (hx : Passes CX X Err) (I : Inv X pins σ G st) (rel : Vals ys ws) (told : sp (ys ++ dvs) G Want Err) : wpAny (model X.prog X.w) X.A (call (.ref fn) ws) (EP X pins σ Want) X.xe st := by
  have both : Vals (ys ++ dvs) (ws ++ ds) := rel.append hd
  have size : (ws ++ ds).length = pars.length := (Vals.length both).symm.trans (F.count _ _ _ _ told)
  apply wpAny_call
  apply codeAny_mono (F.go X.A X.stack st G ⟨ws, []⟩ (ws ++ ds) (ys ++ dvs) Want Err hg hr I.env0 (hb st ws I.kIn size) both told)
  intro res st1 hq
  match res, hq with
  | .ok (.ret u), hq => exact I.after hq
  | .error e, hq => exact hx pins σ G st e st1 I hq
  | .ok .next, hq => exact hq.elim
  | .ok .brk, hq => exact hq.elim
  | .ok .cont, hq => exact hq.elim
/-- f(..), f by such a promise -/
theorem pe_callg {x : Str} {p pos : Pos} {e : Expr} {es : List Expr} {t : TA} (F : FnG X.prog X.w X.K X.mg X.base CX n fn data pars sp) (gd : X.A.guards = some []) (hr : Room n X.A) (hg : Gl X x) (hm : X.mg x = some (.ref fn)) (hk : PySem.W.keepIn X.K (.ref fn) = true)
    (hb : Binds X.K data pars ds) (hd : Vals dvs ds) (hx : Passes CX X Err) (ha : PA X (e :: es) t) (hdb : (x == ("__debug__" : Str)) = false := by decide)
    (he : starEach (e :: es) X.env = (false, eval e X.env) :: starEach es X.env := by rfl) (hpl : (backTo pos (starEach es X.env)).any (·.1) = false := by rfl) :
    PE X (.Call (.Name x p) (e :: es) [] pos) (tCall sp dvs Err t) := by
  constructor
  intro pins st σ G Want I told
  refine wpAny_Call_Name_kw (ld_glob I hg hm (PySem.W.callWith_K (h₀ := X.base) I.ok.mod.kin hk ?_ he hpl) hdb)
  refine thn (ha.run pos pins st σ G _ I told) fun ws st1 behind => ?_
  obtain ⟨ys, G1, I1, rel, q⟩ := behind
  exact ⟨I1.kIn, runG F gd hr hb hd hx I1 rel q⟩
end
end RG
namespace RG
open PySem PySem.Spec PyProof.Rows L2
section
variable {P : Program} {w : World} {K : PySem.W.Frag} {mg mb : Str → Option Value} {CX : CXT} {n : Nat} {fn script : Addr} {data : FuncData} {x : Str} {sp : Sp} {st : Shared} {items : List Value} {ns : List Int}
/-- only the script is tracked -/
def scriptAt (a : Addr) (items : List Value) (ns : List Int) : Hp := fun b => if b = a then some (.frz { cls := .type "list", data := .seq items.toArray } (.lst (ns.map V.int))) else none
theorem scriptAt_same {a : Addr} {items : List Value} {ns : List Int} : scriptAt a items ns a = some (.frz { cls := .type "list", data := .seq items.toArray } (.lst (ns.map V.int))) := if_pos rfl
theorem scriptAt_ne {a b : Addr} {items : List Value} {ns : List Int} (h : b ≠ a) : scriptAt a items ns b = none := if_neg h
/-- the law's call, from a heap in which nothing but the script may be tracked -/
theorem lawG_at (G : Hp) (inK : K.In st.heap) (glob : st.heap.Ns mainGlobals mg) (blt : st.heap.Ns builtinsNs mb) (are : ∀ y : Str, y ≠ "__name__" → mb y = bootBuiltins y) (lim : st.heap.NoLimit) (nogen : st.gens = #[])
    (there : st.heap.get? script = some { cls := .type "list", data := .seq items.toArray }) (room : Room n callerA)
    (F : ∀ base : Heap, K.In base → base.Ns mainGlobals mg → FnG P w K mg base CX n fn data [x] sp) (binds : ∀ (s : Shared) (u : Value), BindsTo s data ⟨[u], []⟩ [(x, u)])
    (told : sp [.ref script] G (fun v _ => v = .bl true) fun _ _ _ => False) (quiet : ∀ e s', CX [] G st (fun _ _ _ => False) e s' → False)
    (only : Only G) (held : HOk P w G st.heap) (one : ∀ b, G b ≠ none → b = script) (apart : G script ≠ none → K.lookup script = none) :
    codeAny (model P w) callerA (.call (.ref fn) ⟨[.ref script], []⟩) (fun r s' => r = .ok (.ret (.bool true)) ∧ OldK st.heap s'.heap ∧ s'.os = st.os ∧ AllBare s'.gens) st := by
  have free_of : ∀ {b : Addr}, b ≠ script → G b = none := by
    intro b hb
    apply Classical.byContradiction
    intro q
    exact hb (one b q)
  have dict_free : ∀ {b : Addr} {o : Obj} {es : Array DictEntry} {ep : Nat}, st.heap.get? b = some o → o.data = .dict es ep → G b = none := by
    intro b o es ep e d
    apply free_of
    intro z
    subst z
    rw [there] at e
    injection e with e
    subst e
    exact nomatch d
  have ns_in : ∀ {b : Addr} {m : Str → Option Value}, st.heap.Ns b m → (hidT st.heap G).Ns b m := by
    intro b m h
    obtain ⟨o, es, ep, e, d, more⟩ := h
    exact ⟨o, es, ep, hidT_get e (dict_free e d), d, more⟩
  have inB : K.In (hidT st.heap G) := by
    intro b o e
    refine hidT_get (inK b o e) ?_
    by_cases hb : b = script
    · subst hb
      apply Classical.byContradiction
      intro q
      rw [apart q] at e
      exact nomatch e
    · exact free_of hb
  have ground : Mod K mg (hidT st.heap G) := by
    obtain ⟨mc, l1, l2⟩ := lim
    exact ⟨inB, ns_in glob, ⟨mb, ns_in blt, are⟩, ⟨mc, ns_in l1, l2⟩⟩
  have e0 : Env0 P w K mg (hidT st.heap G) callerA [] st G :=
    ⟨rfl, ground, fun b o => of_hidT, Nat.le_of_eq (hidT_size _ _), True.intro, fun b z => (List.not_mem_nil z).elim, held, .of_eq nogen⟩
  apply codeAny_mono ((F _ inB (ns_in glob)).go callerA [] st G ⟨[.ref script], []⟩ [.ref script] [.ref script] _ _ rfl room e0 (binds st (.ref script)) (.cons rfl .nil) told)
  intro r s' h
  match r, h with
  | .error e, h => exact (quiet e s' h).elim
  | .ok .next, h => exact h.elim
  | .ok .brk, h => exact h.elim
  | .ok .cont, h => exact h.elim
  | .ok (.ret u), ⟨v, G', sameOs, bare, un, held', rv, yes⟩ =>
    subst yes
    cases (show u = Value.bool true from rv)
    refine ⟨rfl, OldK.of_keep ?_, sameOs, bare⟩
    intro b o e
    rcases only b with q | ⟨ob, xs, q⟩
    · exact un.keep b o e q List.not_mem_nil List.not_mem_nil
    · have h1 := (held b _ q).1
      have h2 := (held' b _ (un.frzs b ob _ q)).1
      rw [h2]
      exact h1.symm.trans e
theorem lawG (inK : K.In st.heap) (glob : st.heap.Ns mainGlobals mg) (blt : st.heap.Ns builtinsNs mb) (are : ∀ y : Str, y ≠ "__name__" → mb y = bootBuiltins y) (lim : st.heap.NoLimit) (nogen : st.gens = #[])
    (there : st.heap.get? script = some { cls := .type "list", data := .seq items.toArray }) (wholes : IntsAre items ns) (line : ns.length ≤ sizeLine) (room : Room n callerA)
    (F : ∀ base : Heap, K.In base → base.Ns mainGlobals mg → FnG P w K mg base CX n fn data [x] sp) (binds : ∀ (s : Shared) (u : Value), BindsTo s data ⟨[u], []⟩ [(x, u)])
    (told : ∀ G : Hp, Only G → SqL K G script (ns.map V.int) → sp [.ref script] G (fun v _ => v = .bl true) fun _ _ _ => False) (quiet : ∀ G e s', CX [] G st (fun _ _ _ => False) e s' → False) :
    codeAny (model P w) callerA (.call (.ref fn) ⟨[.ref script], []⟩) (fun r s' => r = .ok (.ret (.bool true)) ∧ OldK st.heap s'.heap ∧ s'.os = st.os ∧ AllBare s'.gens) st := by
  have rel := vals_ints wholes
  cases own : K.lookup script with
  | none =>
    have only : Only (scriptAt script items ns) := by
      intro b
      by_cases hb : b = script
      · rw [hb]
        exact .inr ⟨_, _, scriptAt_same⟩
      · exact .inl (scriptAt_ne hb)
    refine lawG_at _ inK glob blt are lim nogen there room F binds (told _ only (.inl (.inr ⟨_, scriptAt_same⟩))) (quiet _) only ?_ ?_ (fun _ => own)
    · intro b u z
      by_cases hb : b = script
      · rw [hb, scriptAt_same] at z
        cases z
        rw [hb]
        exact ⟨there, by rw [List.length_map]; exact line, items, _, rel, there⟩
      · exact nomatch (scriptAt_ne hb).symm.trans z
    · intro b z
      apply Classical.byContradiction
      intro hb
      exact z (scriptAt_ne hb)
  | some o =>
    cases (inK script o own).symm.trans there
    have only : Only (fun _ => none) := fun _ => .inl rfl
    refine lawG_at _ inK glob blt are lim nogen there room F binds (told _ only (.inr ?_)) (quiet _) only (fun _ _ z => nomatch z) (fun _ z => (z rfl).elim) (fun z => (z rfl).elim)
    have size := wholes.length
    exact ⟨_, items.toArray, _, own, rfl, rfl, rfl, by rw [List.size_toArray, size]; exact line, by simpa using rel⟩
end
/-- the goal that the head leaves, from the law's promise -/
theorem walkG {l : PySem.W.OpenLaw} {most n : Nat} {q : Program} {loose : List Str} {XP : (Str → Option Value) → Heap → Prop} {YP : World → Heap → Prop} {d : DefRec} {K : Params → PySem.W.Frag} {CX : CXT} {sp : PySem.W.Frag → Sp} {x : Str}
    (hm : l.most = some most) (hl : most ≤ sizeLine) (hdf : d.params.defaults = []) (room : Room n callerA) (hY : ∀ (w : World) (h : Heap), YP w h → (K w.params).In h)
    (F : ∀ (w : World) (mg : Str → Option Value) (fn : Addr) (h : Heap), (K w.params).In h → h.Ns mainGlobals mg → mg d.name = some (.ref fn) →
      ∃ data : FuncData, (∀ (s : Shared) (u : Value), BindsTo s data ⟨[u], []⟩ [(x, u)]) ∧ ∀ base : Heap, (K w.params).In base → base.Ns mainGlobals mg → FnG l.prog w (K w.params) mg base CX n fn data [x] (sp (K w.params)))
    (told : ∀ (K : PySem.W.Frag) (G : Hp) (a : Addr) (ns : List Int), ns.length ≤ most → Only G → SqL K G a (ns.map V.int) → sp K [.ref a] G (fun v _ => v = .bl true) fun _ _ _ => False)
    (quiet : ∀ (G : Hp) (s : Shared) (e : Value) (s' : Shared), CX [] G s (fun _ _ _ => False) e s' → False) : PySem.W.WalkO q loose XP YP l.row.toRowW d [] (fun f vs => PySem.call f vs) := by
  apply Att.attach_call hm hdf
  intro w s₀ st mg mb fn o pm cd doc a items ns ground more _ _ _ named there wholes short nogen
  obtain ⟨data, binds, ok⟩ := F w mg fn _ (hY w _ more) ground.T.g named
  exact lawG (hY w _ more) ground.T.g ground.T.b ground.T.builtins ground.T.nolimit nogen there wholes (Nat.le_trans short hl) room ok binds (fun G => told _ G a ns short) (fun G e s' => quiet G st e s')
end RG
namespace RG
open PySem PySem.Spec PyProof.Rows L2
/-! ### repr of data -/
def keyD : Key → PyData
  | .inl i => .int i
  | .inr x => .str x
mutual
/-- v is data, as repr reads it -/
inductive Rp (K : PySem.W.Frag) (G : Hp) : V → PyData → Prop
  | non : Rp K G .non .none
  | bl (b : Bool) : Rp K G (.bl b) (.bool b)
  | int (i : Int) : Rp K G (.int i) (.int i)
  | str (x : Str) : Rp K G (.str x) (.str x)
  | lst {a : Addr} {xs : List V} {ds : List PyData} : SqL K G a xs → RpAll K G xs ds → a ≠ sysModules → Rp K G (.ref a) (.list ds)
  | tup {a : Addr} {xs : List V} {ds : List PyData} : SqT K G a xs → RpAll K G xs ds → Rp K G (.ref a) (.tuple ds)
  | dic {a : Addr} {kvs : List (Key × V)} {ps : List (PyData × PyData)} : G a = some (.dK kvs) → ps.map (·.1) = kvs.map (fun p => keyD p.1) → RpAll K G (kvs.map (·.2)) (ps.map (·.2)) → Rp K G (.ref a) (.dict ps)
inductive RpAll (K : PySem.W.Frag) (G : Hp) : List V → List PyData → Prop
  | nil : RpAll K G [] []
  | cons {v : V} {vs : List V} {d : PyData} {ds : List PyData} : Rp K G v d → RpAll K G vs ds → RpAll K G (v :: vs) (d :: ds)
end
section
variable {X : Cx} {pins : List (Addr × Obj)} {σ : L2.St} {G : Hp} {st : Shared}
theorem key_reads {h : Heap} {k : Key} {u : Value} (q : keyIs k u = true) : Reads h u (keyD k) [] := by
  rcases keyIs_shape q with ⟨i, t, rfl, rfl⟩ | ⟨x, t, rfl, rfl⟩
  · exact .int i t
  · exact .str x t
theorem keys_read {P : Program} {w : World} {h : Heap} : ∀ {es : List DictEntry} {kvs : List (Key × V)} {vs : List (Key × Value)}, KV kvs vs → Pairs (mixKind P w) es vs → ReadsAll h (es.map (·.key)) (kvs.map fun p => keyD p.1) []
  | [], _, _, r, .nil => by
    cases r
    exact .nil
  | e :: es, _, _, r, .cons hk _ more => by
    cases r with
    | cons r0 r1 =>
      rename_i kv kvs'
      have q := keys_read (h := h) r1 more
      have q0 : Reads h e.key (keyD kv.1) [] := by
        rw [r0.1]
        exact key_reads hk
      exact ReadsAll.cons q0 q
theorem vals_read {P : Program} {w : World} : ∀ {es : List DictEntry} {kvs : List (Key × V)} {vs : List (Key × Value)}, KV kvs vs → Pairs (mixKind P w) es vs → Vals (kvs.map (·.2)) (es.map (·.val))
  | [], _, _, r, .nil => by
    cases r
    exact .nil
  | e :: es, _, _, r, .cons _ hv more => by
    cases r with
    | cons r0 r1 =>
      refine .cons ?_ (vals_read r1 more)
      show L2.RelV _ e.val
      rw [hv]
      exact r0.2
mutual
theorem Rp.reads (I : Inv X pins σ G st) : ∀ (d : PyData) (v : V) (u : Value), Rp X.K G v d → RelV v u → ∃ as, Reads st.heap u d as ∧ sysModules ∉ as
  | .none, _, _, h, r => by
    cases h
    cases r
    exact ⟨_, .none, List.not_mem_nil⟩
  | .bool b, _, _, h, r => by
    cases h
    cases r
    exact ⟨_, .bool b, List.not_mem_nil⟩
  | .int i, _, _, h, r => by
    cases h
    obtain ⟨t, rfl⟩ := r
    exact ⟨_, .int i t, List.not_mem_nil⟩
  | .str x, _, _, h, r => by
    cases h
    obtain ⟨t, rfl⟩ := r
    exact ⟨_, .str x t, List.not_mem_nil⟩
  | .list ds, _, _, h, r => by
    cases h with
    | lst hs ha hn =>
      cases r
      obtain ⟨its, rv, ⟨o, n, ho, hc, _, hd⟩, _⟩ := I.list hs
      obtain ⟨as, q, out⟩ := Rp.readsAll I ds _ its ha rv
      refine ⟨_, .list ho hc hd q, fun m => ?_⟩
      rcases List.mem_cons.mp m with e | m
      · exact hn e.symm
      · exact out m
  | .tuple ds, _, _, h, r => by
    cases h with
    | tup hs ha =>
      cases r
      obtain ⟨its, rv, ⟨o, ho, hc, n, hd⟩, _⟩ := I.tuple hs
      obtain ⟨as, q, out⟩ := Rp.readsAll I ds _ its ha rv
      exact ⟨_, .tuple ho hc hd q, out⟩
  | .dict ps, _, _, h, r => by
    cases h with
    | dic hs hk ha =>
      rename_i a kvs
      cases r
      obtain ⟨_, low, vs, rel, o, es, ep, ho, hc, hd, _, prs, _⟩ := dk_of I.hok hs
      obtain ⟨bs, q, out⟩ := Rp.readsVals I ps _ _ ha (vals_read rel prs)
      have q1 := keys_read (h := st.heap) rel prs
      rw [← hk] at q1
      refine ⟨_, .dict ho hc.1 hd q1 q, fun m => ?_⟩
      have m' : sysModules = a ∨ sysModules ∈ bs := by simpa using m
      rcases m' with e | m'
      · rw [e] at low
        simp at low
      · exact out m'
theorem Rp.readsAll (I : Inv X pins σ G st) : ∀ (ds : List PyData) (vs : List V) (us : List Value), RpAll X.K G vs ds → Vals vs us → ∃ as, ReadsAll st.heap us ds as ∧ sysModules ∉ as
  | [], _, _, h, r => by
    cases h
    cases r
    exact ⟨_, .nil, List.not_mem_nil⟩
  | d :: ds, _, _, h, r => by
    cases h with
    | cons h1 h2 =>
      cases r with
      | cons r1 r2 =>
        obtain ⟨as, q1, o1⟩ := Rp.reads I d _ _ h1 r1
        obtain ⟨bs, q2, o2⟩ := Rp.readsAll I ds _ _ h2 r2
        refine ⟨_, .cons q1 q2, fun m => ?_⟩
        rcases List.mem_append.mp m with m | m
        · exact o1 m
        · exact o2 m
theorem Rp.readsVals (I : Inv X pins σ G st) : ∀ (ps : List (PyData × PyData)) (vs : List V) (us : List Value), RpAll X.K G vs (ps.map (·.2)) → Vals vs us → ∃ as, ReadsAll st.heap us (ps.map (·.2)) as ∧ sysModules ∉ as
  | [], _, _, h, r => by
    cases h
    cases r
    exact ⟨_, .nil, List.not_mem_nil⟩
  | (k, d) :: ps, _, _, h, r => by
    cases h with
    | cons h1 h2 =>
      cases r with
      | cons r1 r2 =>
        obtain ⟨as, q1, o1⟩ := Rp.reads I d _ _ h1 r1
        obtain ⟨bs, q2, o2⟩ := Rp.readsVals I ps _ _ h2 r2
        refine ⟨_, .cons q1 q2, fun m => ?_⟩
        rcases List.mem_append.mp m with m | m
        · exact o1 m
        · exact o2 m
end
end
section
variable {X : Cx} {k : Nat}
/-- repr(x), x data, where nothing of repr runs around -/
theorem call_repr (hg : X.A.guards = some []) (hr : Room k X.A) : CallR X (.builtin "repr") (fun xs G Want => ∃ v d, xs = [v] ∧ Rp X.K G v d ∧ d.showable = true ∧ d.depth ≤ 64 ∧ d.shown.length ≤ sizeLine ∧ Want (.str d.shown) G) := by
  intro pins st σ G ys ws Want I rel told
  obtain ⟨v, d, rfl, hd, sh, dp, sz, q⟩ := told
  obtain ⟨u, rfl, ru⟩ := vals1 rel
  have room := hr.un
  cases hd with
  | non =>
    cases ru
    refine PySem.P.repr_of_none ⟨.str _, G, I.tok _, ⟨_, rfl⟩, ?_⟩
    simpa only [PyData.shown] using q
  | bl b =>
    cases ru
    refine PySem.P.repr_of_bool ⟨.str _, G, I.tok _, ⟨_, rfl⟩, ?_⟩
    simpa only [PyData.shown] using q
  | int i =>
    obtain ⟨t, rfl⟩ := ru
    have small : i.natAbs.log2 < 1920 := by simpa [PyData.showable] using sh
    refine PySem.P.repr_of_int small ⟨.str _, G, I.tok _, ⟨_, rfl⟩, ?_⟩
    simpa only [PyData.shown] using q
  | str x =>
    obtain ⟨t, rfl⟩ := ru
    have short : (reprText x).length ≤ sizeLine := by simpa only [PyData.shown] using sz
    refine PySem.P.repr_of_str ⟨.str _, G, I.tok _, ⟨_, rfl⟩, ?_⟩ short
    simpa only [PyData.shown] using q
  | lst a b c =>
    cases ru
    obtain ⟨as, rd, out⟩ := Rp.reads I _ _ _ (.lst a b c) rfl
    exact repr_of_reads' rd sh (fun _ => out) hg (by omega) (fun _ _ z => z) (fun h' t tk keep => ⟨.str _, G, I.kept keep, ⟨_, rfl⟩, q⟩) sz
  | tup a b =>
    cases ru
    obtain ⟨as, rd, out⟩ := Rp.reads I _ _ _ (.tup a b) rfl
    exact repr_of_reads' rd sh (fun _ => out) hg (by omega) (fun _ _ z => z) (fun h' t tk keep => ⟨.str _, G, I.kept keep, ⟨_, rfl⟩, q⟩) sz
  | dic a b c =>
    cases ru
    obtain ⟨as, rd, out⟩ := Rp.reads I _ _ _ (.dic a b c) rfl
    exact repr_of_reads' rd sh (fun _ => out) hg (by omega) (fun _ _ z => z) (fun h' t tk keep => ⟨.str _, G, I.kept keep, ⟨_, rfl⟩, q⟩) sz
/-- a list that is laid stands behind the modules' dict -/
def tLstB (t : TA) : TE := fun σ G Want => t σ G fun xs G1 => xs.length ≤ sizeLine ∧ ∀ p, G1 p = none → p ≠ sysModules → Want (.ref p) (upd G1 p (.lst xs))
theorem pe_lstB {es : List Expr} {t : TA} {pos : Pos} (h : PA X es t) : PE X (.List es pos) (tLstB t) := by
  constructor
  intro pins st σ G Want I told
  apply wpAny_List_spliced
  refine thn (h.run pos pins st σ G _ I told) fun ws s1 behind => ?_
  obtain ⟨xs, G1, I1, rel, line, q⟩ := behind
  refine ⟨by rw [← rel.length]; exact line, ?_⟩
  have free := I1.hok.fresh (Nat.le_refl s1.heap.objs.size)
  have laid : ObjOk X.prog X.w (upd G1 s1.heap.objs.size (.lst xs)) (s1.heap.push { cls := .type "list", data := .seq ws.toArray }) s1.heap.objs.size (.lst xs) := ⟨line, ws, 0, rel, Heap.get?_push_size _ rfl⟩
  exact ⟨.ref s1.heap.objs.size, _, I1.laid (t' := s1.toks) (fun _ _ z => Heap.get?_push_of_some _ z) (Nat.le_refl _) laid, rfl, q _ free (Nat.ne_of_gt I1.big)⟩
end
end RG

set_option Elab.async false
set_option linter.all false
set_option maxRecDepth 100000
/-! New lists and tuples over a heap that is not written out. -/
namespace Ab
open PySem PySem.Spec L2
/-- (e, ..), [e, ..], a + b: what is laid stands at p, all else as before -/
def tTupA (ta : TA) : TE := fun σ G Want => ta σ G fun xs G1 => xs.length ≤ sizeLine ∧ ∀ p G2, G1 p = none → Same G1 G2 → G2 p = some (.tup xs) → Want (.ref p) G2
def tLstA (ta : TA) : TE := fun σ G Want => ta σ G fun xs G1 => xs.length ≤ sizeLine ∧ ∀ p G2, G1 p = none → p ≠ sysModules → Same G1 G2 → G2 p = some (.lst xs) → Want (.ref p) G2
theorem same_up {G : Hp} {p : Addr} {o : HO} (h : G p = none) : Same G (upd G p o) := fun b u q => by
  rw [upd_ne (ne_of_none q h)]
  exact q
section
variable {X : Cx} {es : List Expr} {ta : TA} {pos : Pos}
theorem pe_tupA {k} (h : PA X es ta) : PE X (.Tuple es k pos) (tTupA ta) := by
  constructor
  intro pins st σ G Want I told
  apply wpAny_Tuple_spliced
  refine thn (h.run pos pins st σ G _ I told) fun ws s1 behind => ?_
  obtain ⟨xs, G1, I1, rel, line, q⟩ := behind
  refine ⟨by rw [← rel.length]; exact line, ?_⟩
  have free := I1.hok.fresh (Nat.le_refl s1.heap.objs.size)
  have laid : ObjOk X.prog X.w (upd G1 s1.heap.objs.size (.tup xs)) (s1.heap.push { cls := .type "tuple", data := .seq ws.toArray }) s1.heap.objs.size (.tup xs) := ⟨line, ws, rel, ⟨_, Heap.get?_push_size _ rfl, rfl, _, rfl⟩⟩
  exact ⟨.ref s1.heap.objs.size, _, I1.laid (t' := s1.toks) (fun _ _ z => Heap.get?_push_of_some _ z) (Nat.le_refl _) laid, rfl, q _ _ free (same_up free) upd_same⟩
theorem pe_lstA (h : PA X es ta) : PE X (.List es pos) (tLstA ta) := by
  constructor
  intro pins st σ G Want I told
  apply wpAny_List_spliced
  refine thn (h.run pos pins st σ G _ I told) fun ws s1 behind => ?_
  obtain ⟨xs, G1, I1, rel, line, q⟩ := behind
  refine ⟨by rw [← rel.length]; exact line, ?_⟩
  have free := I1.hok.fresh (Nat.le_refl s1.heap.objs.size)
  have laid : ObjOk X.prog X.w (upd G1 s1.heap.objs.size (.lst xs)) (s1.heap.push { cls := .type "list", data := .seq ws.toArray }) s1.heap.objs.size (.lst xs) := ⟨line, ws, 0, rel, Heap.get?_push_size _ rfl⟩
  exact ⟨.ref s1.heap.objs.size, _, I1.laid (t' := s1.toks) (fun _ _ z => Heap.get?_push_of_some _ z) (Nat.le_refl _) laid, rfl, q _ _ free (Nat.ne_of_gt I1.big) (same_up free) upd_same⟩
end
/-- {}: abstract -/
def tDicA : TE := fun _ G Want => ∀ p G2, G p = none → Same G G2 → G2 p = some (.dK []) → Want (.ref p) G2
theorem pe_dicA {X : Cx} {pos : Pos} : PE X (.Dict [] [] pos) tDicA := ⟨fun pins st σ G Want I told => (pe_dnewK (X := X) (pos := pos)).run pins st σ G Want I fun p h => told p _ h (same_up h) upd_same⟩
/-- xs + ys, two lists -/
def rCatA : R2 := fun x y G Want => ∃ l b xs zs, x = .ref l ∧ y = .ref b ∧ G l = some (.lst xs) ∧ G b = some (.lst zs) ∧ xs.length + zs.length ≤ sizeLine ∧ ∀ p G2, G p = none → Same G G2 → G2 p = some (.lst (xs ++ zs)) → Want (.ref p) G2
theorem op_catA {X : Cx} : OpR X (binaryOp .Add) rCatA := fun pins st σ G x y v u Want I rx ry ⟨l, b, xs, zs, ex, ey, hl, hb, hz, q⟩ =>
  op_cat pins st σ G x y v u Want I rx ry ⟨l, b, xs, zs, ex, ey, hl, hb, hz, fun p h => q p _ h (same_up h) upd_same⟩
end Ab

set_option Elab.async false
set_option linter.all false
set_option maxRecDepth 100000
/-! The pen: a dict of a list, a place and a rest; a draw is some int from 0 to many - 1. -/
namespace Pen
open PySem L2
/-! ### the pen's pairs -/
abbrev kC : Key := Sum.inr ("cells" : Str)
abbrev kA : Key := Sum.inr ("begun" : Str)
abbrev kR : Key := Sum.inr ("rest" : Str)
def pk (c : Addr) (a r : Int) : List (Key × V) := [(kC, .ref c), (kA, .int a), (kR, .int r)]
theorem nCA : ¬ (kC = kA) := by decide +kernel
theorem nCR : ¬ (kC = kR) := by decide +kernel
theorem nAR : ¬ (kA = kR) := by decide +kernel
theorem nAC : ¬ (kA = kC) := by decide +kernel
theorem nRC : ¬ (kR = kC) := by decide +kernel
theorem nRA : ¬ (kR = kA) := by decide +kernel
theorem pk_c (c : Addr) (a r : Int) : valV (pk c a r) kC = some (.ref c) := valV_pos rfl
theorem pk_a (c : Addr) (a r : Int) : valV (pk c a r) kA = some (.int a) := (valV_neg nCA).trans (valV_pos rfl)
theorem pk_r (c : Addr) (a r : Int) : valV (pk c a r) kR = some (.int r) := ((valV_neg nCR).trans (valV_neg nAR)).trans (valV_pos rfl)
theorem sCA : ¬ (("cells" : Str) = "begun") := by decide +kernel
theorem sCR : ¬ (("cells" : Str) = "rest") := by decide +kernel
theorem sRA : ¬ (("rest" : Str) = "begun") := by decide +kernel
theorem sAR : ¬ (("begun" : Str) = "rest") := by decide +kernel
theorem pk_putA (c : Addr) (a r x : Int) : putK (pk c a r) kA (.int x) = pk c x r := by
  unfold putK pk
  simp [sCA, sRA]
theorem pk_putR (c : Addr) (a r x : Int) : putK (pk c a r) kR (.int x) = pk c a x := by
  unfold putK pk
  simp [sCR, sAR]
theorem pk_len (c : Addr) (a r : Int) : (pk c a r).length < sizeLine := by show 3 < sizeLine; decide
structure PenAt (H : Hp) (p c : Addr) (ns : List Int) (b : Nat) : Prop where
  ex : ∃ a r : Int, H p = some (.dK (pk c a r)) ∧ 0 ≤ a ∧ a ≤ b ∧ 0 ≤ r
  ce : H c = some (.lst (ns.map V.int))
/-- all but p is as it was -/
def SameX (p : Addr) (H H' : Hp) : Prop := ∀ x o, x ≠ p → H x = some o → H' x = some o
theorem SameX.refl {p : Addr} {H : Hp} : SameX p H H := fun _ _ _ h => h
theorem SameX.trans {p : Addr} {H H1 H2 : Hp} (a : SameX p H H1) (b : SameX p H1 H2) : SameX p H H2 := fun x o n h => b x o n (a x o n h)
theorem Same.X {p : Addr} {H H' : Hp} (a : Same H H') : SameX p H H' := fun x o _ h => a x o h
theorem SameX.upd {p : Addr} {H H' : Hp} {o : HO} (a : SameX p H H') : SameX p H (upd H' p o) := fun x u n h => by
  rw [upd_ne n]
  exact a x u n h
theorem same_new {H : Hp} {l : Addr} {o : HO} (h : H l = none) : Same H (L2.upd H l o) := fun x u e => by
  rw [upd_ne (ne_of_none e h)]
  exact e
theorem PenAt.same {H H' : Hp} {p c : Addr} {ns : List Int} {b : Nat} (P : PenAt H p c ns b) (s : Same H H') : PenAt H' p c ns b := by
  obtain ⟨⟨a, r, h, q⟩, ce⟩ := P
  exact ⟨⟨a, r, s _ _ h, q⟩, s _ _ ce⟩
theorem PenAt.mono {H : Hp} {p c : Addr} {ns : List Int} {b b' : Nat} (P : PenAt H p c ns b) (h : b ≤ b') : PenAt H p c ns b' := by
  obtain ⟨⟨a, r, h0, h1, h2, h3⟩, ce⟩ := P
  exact ⟨⟨a, r, h0, h1, by omega, h3⟩, ce⟩
theorem PenAt.ne {H : Hp} {p c : Addr} {ns : List Int} {b : Nat} (P : PenAt H p c ns b) : p ≠ c := by
  obtain ⟨⟨a, r, h0, _⟩, ce⟩ := P
  exact ne_of h0 ce (by intro z; cases z)
/-! ### promises -/
def spPen (K : PySem.W.Frag) : Sp := fun vs H Q _ => ∃ (a : Addr) (ns : List Int), vs = [.ref a] ∧ SqL K H a (ns.map V.int) ∧ ns.length ≤ 63 ∧
  ∀ (p c : Addr) (H' : Hp), H p = none → PenAt H' p c ns 0 → Same H H' → Q (.ref p) H'
def spDraw : Sp := fun vs H Q _ => ∃ (p c : Addr) (ns : List Int) (b : Nat) (m : Int), vs = [.ref p, .int m] ∧ PenAt H p c ns b ∧ ns.length ≤ 63 ∧ b < 2 ^ 40 ∧ 0 < m ∧ m < 2 ^ 200 ∧
  ∀ (r : Int) (H' : Hp), 0 ≤ r → r < m → PenAt H' p c ns (b + 1) → SameX p H H' → Q (.int r) H'
def spPick (K : PySem.W.Frag) : Sp := fun vs H Q _ => ∃ (p c : Addr) (ns : List Int) (b : Nat) (l : Addr) (xs : List V), vs = [.ref p, .ref l] ∧ PenAt H p c ns b ∧ ns.length ≤ 63 ∧ b < 2 ^ 40 ∧
  H l = some (.lst xs) ∧ 0 < xs.length ∧ xs.length ≤ 1000 ∧
  ∀ (v : V) (H' : Hp), v ∈ xs → PenAt H' p c ns (b + 1) → SameX p H H' → Q v H'
/-! ### numbers -/
theorem fmod_lo {i m : Int} (h : 0 < m) : 0 ≤ i.fmod m := by rw [Int.fmod_eq_emod_of_nonneg i (by omega)]; exact Int.emod_nonneg _ (by omega)
theorem fmod_hi {i m : Int} (h : 0 < m) : i.fmod m < m := by rw [Int.fmod_eq_emod_of_nonneg i (by omega)]; exact Int.emod_lt_of_pos _ h
theorem fdiv_lo {i m : Int} (h : 0 < m) (hi : 0 ≤ i) : 0 ≤ i / m := Int.ediv_nonneg hi (by omega)
theorem div_ok {i m : Int} (h : 0 < m) (h2 : m < 2 ^ 200) : CDivW i m := wide_div h (b := 200) (by omega) (by decide) (by decide)
theorem atI_mod {ns : List Int} {a : Int} (h : ns ≠ []) : ∃ z, atI (ns.map V.int) (a.fmod (ns.length : Int)) = some (.int z) := by
  have hl : 0 < ns.length := List.length_pos_iff.mpr h
  have h1 := fmod_lo (i := a) (m := (ns.length : Int)) (by omega)
  have h2 := fmod_hi (i := a) (m := (ns.length : Int)) (by omega)
  have h3 : (a.fmod (ns.length : Int)).toNat < ns.length := by omega
  refine ⟨ns[(a.fmod (ns.length : Int)).toNat], ?_⟩
  have e : a.fmod (ns.length : Int) = ((a.fmod (ns.length : Int)).toNat : Int) := by omega
  refine at_of e ?_
  rw [List.getElem?_map, List.getElem?_eq_getElem h3]
  rfl
theorem at_mem {xs : List V} {r : Int} (h0 : 0 ≤ r) (h : r < (xs.length : Int)) : ∃ v, v ∈ xs ∧ atI xs r = some v := by
  have h3 : r.toNat < xs.length := by omega
  refine ⟨xs[r.toNat], List.getElem_mem _, ?_⟩
  have e : r = ((r.toNat : Nat) : Int) := by omega
  exact at_of e (List.getElem?_eq_getElem h3)
/-- the names that the pen's defs read -/
structure TxtP (mg : Str → Option Value) : Prop where
  int : mg "int" = none
  len : mg "len" = none
  abs : mg "abs" = none
  list : mg "list" = none
end Pen
namespace Pen
open PySem L2
/-! ### the pen read and written -/
theorem getC {H : Hp} {p c : Addr} {a r : Int} (h : H p = some (.dK (pk c a r))) : DGet H p (.str "cells") (some (.ref c)) := by
  have q := DGet.k (k := kC) h
  rw [pk_c] at q
  exact q
theorem getA {H : Hp} {p c : Addr} {a r : Int} (h : H p = some (.dK (pk c a r))) : DGet H p (.str "begun") (some (.int a)) := by
  have q := DGet.k (k := kA) h
  rw [pk_a] at q
  exact q
theorem getR {H : Hp} {p c : Addr} {a r : Int} (h : H p = some (.dK (pk c a r))) : DGet H p (.str "rest") (some (.int r)) := by
  have q := DGet.k (k := kR) h
  rw [pk_r] at q
  exact q
theorem putA {H : Hp} {p c : Addr} {a r x : Int} (h : H p = some (.dK (pk c a r))) : DPut H p (.str "begun") (.int x) (upd H p (.dK (pk c x r))) := by
  have q := DPut.k (k := kA) (v := .int x) h (pk_len c a r)
  rw [pk_putA] at q
  exact q
theorem putR {H : Hp} {p c : Addr} {a r x : Int} (h : H p = some (.dK (pk c a r))) : DPut H p (.str "rest") (.int x) (upd H p (.dK (pk c a x))) := by
  have q := DPut.k (k := kR) (v := .int x) h (pk_len c a r)
  rw [pk_putR] at q
  exact q
theorem dps {K : PySem.W.Frag} {H : Hp} : ∀ ns : List Int, DpAll K H (ns.map V.int) (ns.map PyData.int)
  | [] => .nil
  | _ :: ns => .cons (.int _) (dps ns)
theorem dp_ints {K : PySem.W.Frag} {H : Hp} {c : Addr} {ns : List Int} (h : H c = some (.lst (ns.map V.int))) : Dp K H (.ref c) (.list (ns.map PyData.int)) := .lst (SqL.of h) (dps ns)
end Pen
namespace Pen
open PySem L2
theorem cut63 {ns : List Int} (h : ns.length ≤ 63) : cutV (ns.map V.int) none (some 63) = ns.map V.int := by
  unfold cutV
  rw [HT.sIx_none, show (some (63 : Int)) = some (((63 : Nat) : Int)) from rfl, HT.sIx_nat]
  rw [List.drop_zero, List.length_map, Nat.min_eq_right h, Nat.sub_zero]
  exact List.take_of_length_le (by rw [List.length_map]; exact Nat.le_refl _)
theorem merge_pk (c : Addr) : mergeK [] [(kC, .ref c), (kA, .int 0), (kR, .int 0)] = pk c 0 0 := by
  have e1 : putK [] kC (V.ref c) = [(kC, V.ref c)] := putK_new _ rfl
  have e2 : putK [(kC, V.ref c)] kA (V.int 0) = [(kC, V.ref c), (kA, V.int 0)] := putK_new _ (valV_neg nCA)
  have e3 : putK [(kC, V.ref c), (kA, V.int 0)] kR (V.int 0) = [(kC, V.ref c), (kA, V.int 0), (kR, V.int 0)] := putK_new _ ((valV_neg nCR).trans (valV_neg nAR))
  show putK (putK (putK [] kC (V.ref c)) kA (V.int 0)) kR (V.int 0) = _
  rw [e1, e2, e3]
  rfl
theorem canLay_ints : ∀ ns : List Int, PyData.canLay0 (.list (ns.map PyData.int)) = true := by
  intro ns
  induction ns with
  | nil => rfl
  | cons n ns ih =>
    simp only [List.map_cons, PyData.canLay0, PyData.canLayAll0] at ih ⊢
    first | exact ih | simpa using ih
theorem depth_ints : ∀ ns : List Int, PyData.depth (.list (ns.map PyData.int)) ≤ 64 := by
  have h : ∀ ns : List Int, PyData.depthAll (ns.map PyData.int) ≤ 1 := by
    intro ns
    induction ns with
    | nil => simp [PyData.depthAll]
    | cons n ns ih => simp only [List.map_cons, PyData.depthAll, PyData.depth]; omega
  intro ns
  have := h ns
  simp only [PyData.depth]
  omega
theorem shaped_ints (ns : List Int) : SeqAt.shaped (.list (ns.map PyData.int)) = true := by
  unfold SeqAt.shaped
  rw [canLay_ints, decide_eq_true (depth_ints ns)]
  rfl
end Pen

set_option Elab.async false
set_option linter.all false
set_option maxRecDepth 100000
/-! Data that stand beside the pen. -/
namespace Dat
open PySem PySem.Spec L2 RG Pen
theorem sz {n : Nat} (h : n ≤ 99) : n ≤ sizeLine := Nat.le_trans h (by decide)
theorem szl {n : Nat} (h : n ≤ 99) : n < sizeLine := Nat.lt_of_le_of_lt h (by decide)
def delp (p : Addr) (G : Hp) : Hp := fun b => if b = p then none else G b
theorem delp_ne {p b : Addr} {G : Hp} (h : b ≠ p) : delp p G b = G b := if_neg h
theorem delp_same {p : Addr} {G G1 : Hp} (s : SameX p G G1) : Same (delp p G) (delp p G1) := fun b o h => by
  by_cases hb : b = p
  · subst hb
    have h' : (if b = b then none else G b) = some o := h
    rw [if_pos rfl] at h'
    cases h'
  · rw [delp_ne hb] at h ⊢
    exact s b o hb h
theorem delp_le {p : Addr} {G : Hp} : Same (delp p G) G := fun b o h => by
  by_cases hb : b = p
  · have h' : (if b = p then none else G b) = some o := h
    rw [if_pos hb] at h'
    cases h'
  · rw [delp_ne hb] at h
    exact h
theorem sqT_same {K : PySem.W.Frag} {G G1 : Hp} {a : Addr} {xs : List V} (s : Same G G1) (h : SqT K G a xs) : SqT K G1 a xs := by
  rcases h with (h | ⟨o, h⟩) | h
  · exact .inl (.inl (s _ _ h))
  · exact .inl (.inr ⟨o, s _ _ h⟩)
  · exact .inr h
mutual
theorem Rp.same {K : PySem.W.Frag} {G G1 : Hp} (s : Same G G1) : ∀ {d : PyData} {v : V}, Rp K G v d → Rp K G1 v d
  | .none, _, .non => .non
  | .bool _, _, .bl b => .bl b
  | .int _, _, .int i => .int i
  | .str _, _, .str x => .str x
  | .list _, _, .lst h r n => .lst (s.seq h) (RpAll.same s r) n
  | .tuple _, _, .tup h r => .tup (sqT_same s h) (RpAll.same s r)
  | .dict ps, _, .dic h k r => .dic (s _ _ h) k (RpAll.sameV s (ps := ps) r)
theorem RpAll.same {K : PySem.W.Frag} {G G1 : Hp} (s : Same G G1) : ∀ {ds : List PyData} {vs : List V}, RpAll K G vs ds → RpAll K G1 vs ds
  | [], _, .nil => .nil
  | _ :: _, _, .cons h r => .cons (Rp.same s h) (RpAll.same s r)
theorem RpAll.sameV {K : PySem.W.Frag} {G G1 : Hp} (s : Same G G1) : ∀ {ps : List (PyData × PyData)} {vs : List V}, RpAll K G vs (ps.map (·.2)) → RpAll K G1 vs (ps.map (·.2))
  | [], _, .nil => .nil
  | (_, _) :: _, _, .cons h r => .cons (Rp.same s h) (RpAll.sameV s r)
end
theorem RpAll.append {K : PySem.W.Frag} {G : Hp} : ∀ {vs ws : List V} {ds es : List PyData}, RpAll K G vs ds → RpAll K G ws es → RpAll K G (vs ++ ws) (ds ++ es)
  | _, _, _, _, .nil, r => r
  | _, _, _, _, .cons h t, r => .cons h (RpAll.append t r)
theorem RpAll.mem {K : PySem.W.Frag} {G : Hp} {v : V} : ∀ {vs : List V} {ds : List PyData}, RpAll K G vs ds → v ∈ vs → ∃ d, d ∈ ds ∧ Rp K G v d
  | _, _, .nil, h => by cases h
  | _, _, .cons h t, m => by
    rcases List.mem_cons.mp m with e | m
    · subst e
      exact ⟨_, List.mem_cons_self .., h⟩
    · obtain ⟨d, hd, r⟩ := RpAll.mem t m
      exact ⟨d, List.mem_cons_of_mem _ hd, r⟩
end Dat

set_option Elab.async false
set_option linter.all false
set_option maxRecDepth 100000
set_option maxHeartbeats 1000000
/-! Any data beside a text: ==, !=, in. -/
namespace KEq
open PySem PySem.Spec L2 RG Pen Dat PySem.SeqAt PySem.MeetsSeq
open AutoSeq1 (wpAny_loadPart')
theorem dict_eq_no (l : Addr) (es : Array DictEntry) (ep : Nat) (dd : Option Addr) (sl : Array (Option Value)) (b : Str) (u : Tok) :
    Meets (Builtin.«dict.__eq__» ⟨[.ref l, .str b u], []⟩) (fun _ R s => s.heap.get? l = some { cls := .type "dict", dict := dd, data := .dict es ep, slots := sl } ∧ R (.ok (.ret .notImplemented)) s) :=
  .of_wp fun prog w A R s h => by
    obtain ⟨hp, g, d, tk, os⟩ := s
    obtain ⟨hl, h⟩ := h
    have f1 := F.sub_str_dict
    wp_walk using wpAny_loadPart' hl, wpAny_load hl
    exact ⟨_, rfl, h⟩
theorem str_eq_dict (b : Str) (u : Tok) (l : Addr) (es : Array DictEntry) (ep : Nat) (dd : Option Addr) (sl : Array (Option Value)) :
    Meets (Builtin.«str.__eq__» ⟨[.str b u, .ref l], []⟩) (fun _ R s => s.heap.get? l = some { cls := .type "dict", dict := dd, data := .dict es ep, slots := sl } ∧ R (.ok (.ret .notImplemented)) s) :=
  .of_wp fun prog w A R s h => by
    obtain ⟨hp, g, d, tk, os⟩ := s
    obtain ⟨hl, h⟩ := h
    wp_walk using wpAny_loadPart' hl, wpAny_load hl
    exact ⟨_, rfl, h⟩
theorem dict_ne_no (l : Addr) (es : Array DictEntry) (ep : Nat) (dd : Option Addr) (sl : Array (Option Value)) (b : Str) (u : Tok) :
    Meets (Builtin.«dict.__ne__» ⟨[.ref l, .str b u], []⟩) (fun _ R s => s.heap.get? l = some { cls := .type "dict", dict := dd, data := .dict es ep, slots := sl } ∧ R (.ok (.ret .notImplemented)) s) :=
  .of_wp fun prog w A R s h => by
    obtain ⟨hp, g, d, tk, os⟩ := s
    obtain ⟨hl, h⟩ := h
    have f1 := F.sub_str_dict
    wp_walk using wpAny_loadPart' hl, wpAny_load hl
    exact ⟨_, rfl, h⟩
theorem str_ne_dict (b : Str) (u : Tok) (l : Addr) (es : Array DictEntry) (ep : Nat) (dd : Option Addr) (sl : Array (Option Value)) :
    Meets (Builtin.«str.__ne__» ⟨[.str b u, .ref l], []⟩) (fun _ R s => s.heap.get? l = some { cls := .type "dict", dict := dd, data := .dict es ep, slots := sl } ∧ R (.ok (.ret .notImplemented)) s) :=
  .of_wp fun prog w A R s h => by
    obtain ⟨hp, g, d, tk, os⟩ := s
    obtain ⟨hl, h⟩ := h
    wp_walk using wpAny_loadPart' hl, wpAny_load hl
    exact ⟨_, rfl, h⟩
section
variable {A : Around} {s : Shared} {l : Addr} {es : Array DictEntry} {ep : Nat} {dd : Option Addr} {sl : Array (Option Value)}
theorem rc_dict_str (b : Str) (u : Tok) (ho : s.heap.get? l = some { cls := .type "dict", dict := dd, data := .dict es ep, slots := sl }) (hu : A.units < cLine) : RcAt A s (.ref l) (.str b u) false := fun prog w E Q h =>
  rc_eq_decline_or (k := false) ⟨_, ho, rfl⟩ (typeIs_str s b u) (by decide) F.sub_str_dict F.slot_dict_eq F.slot_str_eq_refl
    (fun _ hq => call_meets F.slot_dict_eq ⟨_, ho, rfl⟩ F.entry_dict_eq (F.args_dict_eq_2 _ _) (dict_eq_no l es ep dd sl b u) ⟨ho, hq⟩)
    (fun _ hq => call_meets F.slot_str_eq_refl (typeIs_str s b u) F.entry_str_eq (F.args_str_eq_2 _ _) (str_eq_dict b u l es ep dd sl) ⟨ho, hq⟩)
    (fun _ hq => wpAny_of_eq (rfl : isSame (.ref l) (.str b u) = pure false) hq) (.inr hu) h
theorem rc_str_dict (b : Str) (u : Tok) (ho : s.heap.get? l = some { cls := .type "dict", dict := dd, data := .dict es ep, slots := sl }) (hu : A.units < cLine) : RcAt A s (.str b u) (.ref l) false := fun prog w E Q h =>
  rc_eq_decline_or (k := false) (typeIs_str s b u) ⟨_, ho, rfl⟩ (by decide) F.sub_dict_str F.slot_str_eq F.slot_dict_eq_refl
    (fun _ hq => call_meets F.slot_str_eq (typeIs_str s b u) F.entry_str_eq (F.args_str_eq_2 _ _) (str_eq_dict b u l es ep dd sl) ⟨ho, hq⟩)
    (fun _ hq => call_meets F.slot_dict_eq_refl ⟨_, ho, rfl⟩ F.entry_dict_eq (F.args_dict_eq_2 _ _) (dict_eq_no l es ep dd sl b u) ⟨ho, hq⟩)
    (fun _ hq => wpAny_of_eq (rfl : isSame (.str b u) (.ref l) = pure false) hq) (.inr hu) h
theorem at_str_dict (b : Str) (u : Tok) (ho : s.heap.get? l = some { cls := .type "dict", dict := dd, data := .dict es ep, slots := sl }) (hu : A.units < cLine) : EqAt A s (.str b u) (.ref l) false := fun prog w E Q h => by
  unfold eqBool
  refine wpAny_holding ?_
  refine wpAny_ite_split (fun hab => absurd (eq_of_beq hab) nofun) (fun _ => ?_)
  exact wpAny_bind (rc_str_dict b u ho hu prog w E _ (wpAny_truthy_bool h))
theorem ne_dict_str (b : Str) (u : Tok) (ho : s.heap.get? l = some { cls := .type "dict", dict := dd, data := .dict es ep, slots := sl }) (hu : A.units < cLine) : RcNeAt A s (.ref l) (.str b u) true := fun prog w E Q h =>
  rc_ne_decline_or (k := false) ⟨_, ho, rfl⟩ (typeIs_str s b u) (by decide) F.sub_str_dict F.slot_dict_ne F.slot_str_ne_refl
    (fun _ hq => call_meets F.slot_dict_ne ⟨_, ho, rfl⟩ F.entry_dict_ne (F.args_dict_ne_2 _ _) (dict_ne_no l es ep dd sl b u) ⟨ho, hq⟩)
    (fun _ hq => call_meets F.slot_str_ne_refl (typeIs_str s b u) F.entry_str_ne (F.args_str_ne_2 _ _) (str_ne_dict b u l es ep dd sl) ⟨ho, hq⟩)
    (fun _ hq => wpAny_of_eq (rfl : isSame (.ref l) (.str b u) = pure false) hq) (.inr hu) h
end
/-- the text z -/
def isS : PyData → Str → Bool
  | .str x, z => x == z
  | _, _ => false
section
variable {X : Cx} {pins : List (Addr × Obj)} {σ : L2.St} {G : Hp} {st : Shared}
theorem dict_at {a : Addr} {kvs : List (Key × V)} (I : Inv X pins σ G st) (e : G a = some (.dK kvs)) : ∃ dd es ep sl, st.heap.get? a = some { cls := .type "dict", dict := dd, data := .dict es ep, slots := sl } := by
  obtain ⟨_, _, vs, _, o, es, ep, h1, h2, h3, _⟩ := (show ObjOk X.prog X.w G st.heap a (.dK kvs) from I.hok a _ e)
  obtain ⟨oc, od, dt, sl⟩ := o
  have h4 : oc = .type "dict" := h2.1
  have h5 : dt = .dict es ep := h3
  subst h4 h5
  exact ⟨_, _, _, _, h1⟩
theorem rp_rc {A : Around} (hu : A.units < cLine) (I : Inv X pins σ G st) {v : V} {u : Value} {d : PyData} (r : Rp X.K G v d) (ru : RelV v u) (z : Str) (t : Tok) : RcAt A st u (.str z t) (isS d z) := by
  cases r with
  | non =>
    cases ru
    exact RcAt.none_str z t
  | bl b =>
    cases ru
    exact RcAt.bool_str b z t
  | int i =>
    obtain ⟨t2, rfl⟩ := ru
    exact RcAt.int_str i t2 z t
  | str x =>
    obtain ⟨t2, rfl⟩ := ru
    exact RcAt.str_str x t2 z t
  | lst a b c =>
    cases ru
    obtain ⟨its, r, pl, hz⟩ := I.list a
    exact RcAt.list_str z t pl.isList hu
  | tup a b =>
    cases ru
    obtain ⟨its, r, pl, hz⟩ := I.tuple a
    exact RcAt.tuple_str z t pl hu
  | dic a b c =>
    cases ru
    obtain ⟨dd, es, ep, sl, o⟩ := dict_at I a
    exact rc_dict_str z t o hu
theorem rp_ne {A : Around} (hu : A.units < cLine) (I : Inv X pins σ G st) {v : V} {u : Value} {d : PyData} (r : Rp X.K G v d) (ru : RelV v u) (z : Str) (t : Tok) : RcNeAt A st u (.str z t) (!isS d z) := by
  cases r with
  | non =>
    cases ru
    exact RcNeAt.none_str z t
  | bl b =>
    cases ru
    exact RcNeAt.bool_str b z t
  | int i =>
    obtain ⟨t2, rfl⟩ := ru
    exact RcNeAt.int_str i t2 z t
  | str x =>
    obtain ⟨t2, rfl⟩ := ru
    exact RcNeAt.str_str x t2 z t
  | lst a b c =>
    cases ru
    obtain ⟨its, r, pl, hz⟩ := I.list a
    exact RcNeAt.list_str z t pl.isList hu
  | tup a b =>
    cases ru
    obtain ⟨its, r, pl, hz⟩ := I.tuple a
    exact RcNeAt.tuple_str z t pl hu
  | dic a b c =>
    cases ru
    obtain ⟨dd, es, ep, sl, o⟩ := dict_at I a
    exact ne_dict_str z t o hu
theorem beq_swap (x z : Str) : (z == x) = (x == z) := by
  rw [Bool.eq_iff_iff, beq_iff_eq, beq_iff_eq]
  exact eq_comm
theorem rp_at {A : Around} (hu : A.units < cLine) (I : Inv X pins σ G st) {v : V} {u : Value} {d : PyData} (r : Rp X.K G v d) (ru : RelV v u) (z : Str) (t : Tok) : EqAt A st (.str z t) u (isS d z) := by
  cases r with
  | non =>
    cases ru
    exact EqAt.str_none z t
  | bl b =>
    cases ru
    exact EqAt.str_bool z t b
  | int i =>
    obtain ⟨t2, rfl⟩ := ru
    exact EqAt.str_int z t i t2
  | str x =>
    obtain ⟨t2, rfl⟩ := ru
    have := EqAt.str_str (A := A) (s := st) z t x t2
    rw [beq_swap] at this
    exact this
  | lst a b c =>
    cases ru
    obtain ⟨its, r, pl, hz⟩ := I.list a
    exact EqAt.str_list z t pl.isList hu
  | tup a b =>
    cases ru
    obtain ⟨its, r, pl, hz⟩ := I.tuple a
    exact EqAt.str_tuple z t pl hu
  | dic a b c =>
    cases ru
    obtain ⟨dd, es, ep, sl, o⟩ := dict_at I a
    exact at_str_dict z t o hu
end
/-- d == 'z', d != 'z' -/
def rEqS (K : PySem.W.Frag) : R2 := fun x y G Want => ∃ d z, Rp K G x d ∧ y = .str z ∧ Want (.bl (isS d z)) G
def rNeS (K : PySem.W.Frag) : R2 := fun x y G Want => ∃ d z, Rp K G x d ∧ y = .str z ∧ Want (.bl (!isS d z)) G
theorem op_eqS {X : Cx} (hu : X.A.units + 1 < cLine) : OpR X (compareOp .Eq) (rEqS X.K) := by
  intro pins st σ G x y v u Want I rx ry h
  obtain ⟨d, z, r, rfl, q⟩ := h
  obtain ⟨t, rfl⟩ := ry
  exact rp_rc (Nat.lt_of_succ_lt hu) I r rx z t _ _ _ _ ⟨.bl _, G, I, rfl, q⟩
theorem op_neS {X : Cx} (hu : X.A.units + 1 < cLine) : OpR X (compareOp .NotEq) (rNeS X.K) := by
  intro pins st σ G x y v u Want I rx ry h
  obtain ⟨d, z, r, rfl, q⟩ := h
  obtain ⟨t, rfl⟩ := ry
  exact rp_ne (Nat.lt_of_succ_lt hu) I r rx z t _ _ _ _ ⟨.bl _, G, I, rfl, q⟩
/-- d in a tuple of texts -/
def rInS (K : PySem.W.Frag) : R2 := fun x y G Want => ∃ (d : PyData) (p : Addr) (zs : List Str), Rp K G x d ∧ y = .ref p ∧ SqT K G p (zs.map V.str) ∧ Want (.bl (zs.any fun z => isS d z)) G
theorem any_texts {d : PyData} : ∀ {zs : List Str} {us : List Value}, Vals (zs.map V.str) us → (us.any fun u => match u with | .str z _ => isS d z | _ => false) = zs.any fun z => isS d z
  | [], _, .nil => rfl
  | z :: zs, _, .cons r t => by
    obtain ⟨k, rfl⟩ := r
    rw [List.any_cons, List.any_cons, any_texts t]
theorem texts_are : ∀ {zs : List Str} {us : List Value}, Vals (zs.map V.str) us → ∀ u ∈ us, ∃ z t, u = .str z t
  | [], _, .nil => fun u hu => by cases hu
  | z :: zs, _, .cons r t => fun u hu => by
    obtain ⟨k, rfl⟩ := r
    rcases List.mem_cons.mp hu with e | m
    · exact ⟨z, k, e⟩
    · exact texts_are t u m
theorem op_inS {X : Cx} (hu : X.A.units + 1 < cLine) : OpR X (compareOp .In) (rInS X.K) := by
  intro pins st σ G x y v u Want I rx ry h
  obtain ⟨d, p, zs, r, rfl, hq, q⟩ := h
  cases ry
  obtain ⟨its, rl, pl, hz⟩ := I.tuple hq
  refine SeqAt.in_tupleAt (fun u => match u with | .str z _ => isS d z | _ => false) pl (fun w hw => ?_) ⟨.bl _, G, I, rfl, ?_⟩
  · obtain ⟨z, t, rfl⟩ := texts_are rl w (by simpa using hw)
    exact rp_at (A := X.A.in1) (show X.A.units + 1 < cLine from hu) I r rx z t
  · rw [show its.toArray.any (fun u => match u with | .str z _ => isS d z | _ => false) = its.any (fun u => match u with | .str z _ => isS d z | _ => false) by simp, any_texts rl]
    exact q

end KEq

set_option Elab.async false
set_option linter.all false
set_option maxRecDepth 100000
set_option maxHeartbeats 1000000
namespace KEq
open PySem PySem.Spec L2 RG Pen Dat
/-! ### what kind a value is -/
def typeD : PyData → String
  | .none => "NoneType" | .bool _ => "bool" | .int _ => "int" | .str _ => "str" | .list _ => "list" | .tuple _ => "tuple" | .dict _ => "dict"
def isTup : PyData → Bool
  | .tuple _ => true
  | _ => false
def isStr : PyData → Bool
  | .str _ => true
  | _ => false
def isInt : PyData → Bool
  | .int _ => true | .bool _ => true
  | _ => false
def isBool : PyData → Bool
  | .bool _ => true
  | _ => false
theorem kit_tup {K : PySem.W.Frag} : ∀ d, PySem.W.kitOne K (.type (typeD d)) (.type "tuple") = some (isTup d)
  | .none => kit_ty (show kitB "NoneType" "tuple" = some false by decide +kernel)
  | .bool _ => kit_ty (show kitB "bool" "tuple" = some false by decide +kernel)
  | .int _ => kit_ty (show kitB "int" "tuple" = some false by decide +kernel)
  | .str _ => kit_ty (show kitB "str" "tuple" = some false by decide +kernel)
  | .list _ => kit_ty (show kitB "list" "tuple" = some false by decide +kernel)
  | .tuple _ => kit_ty (show kitB "tuple" "tuple" = some true by decide +kernel)
  | .dict _ => kit_ty (show kitB "dict" "tuple" = some false by decide +kernel)
theorem kit_str {K : PySem.W.Frag} : ∀ d, PySem.W.kitOne K (.type (typeD d)) (.type "str") = some (isStr d)
  | .none => kit_ty (show kitB "NoneType" "str" = some false by decide +kernel)
  | .bool _ => kit_ty (show kitB "bool" "str" = some false by decide +kernel)
  | .int _ => kit_ty (show kitB "int" "str" = some false by decide +kernel)
  | .str _ => kit_ty (show kitB "str" "str" = some true by decide +kernel)
  | .list _ => kit_ty (show kitB "list" "str" = some false by decide +kernel)
  | .tuple _ => kit_ty (show kitB "tuple" "str" = some false by decide +kernel)
  | .dict _ => kit_ty (show kitB "dict" "str" = some false by decide +kernel)
theorem kit_int {K : PySem.W.Frag} : ∀ d, PySem.W.kitOne K (.type (typeD d)) (.type "int") = some (isInt d)
  | .none => kit_ty (show kitB "NoneType" "int" = some false by decide +kernel)
  | .bool _ => kit_ty (show kitB "bool" "int" = some true by decide +kernel)
  | .int _ => kit_ty (show kitB "int" "int" = some true by decide +kernel)
  | .str _ => kit_ty (show kitB "str" "int" = some false by decide +kernel)
  | .list _ => kit_ty (show kitB "list" "int" = some false by decide +kernel)
  | .tuple _ => kit_ty (show kitB "tuple" "int" = some false by decide +kernel)
  | .dict _ => kit_ty (show kitB "dict" "int" = some false by decide +kernel)
theorem kit_bool {K : PySem.W.Frag} : ∀ d, PySem.W.kitOne K (.type (typeD d)) (.type "bool") = some (isBool d)
  | .none => kit_ty (show kitB "NoneType" "bool" = some false by decide +kernel)
  | .bool _ => kit_ty (show kitB "bool" "bool" = some true by decide +kernel)
  | .int _ => kit_ty (show kitB "int" "bool" = some false by decide +kernel)
  | .str _ => kit_ty (show kitB "str" "bool" = some false by decide +kernel)
  | .list _ => kit_ty (show kitB "list" "bool" = some false by decide +kernel)
  | .tuple _ => kit_ty (show kitB "tuple" "bool" = some false by decide +kernel)
  | .dict _ => kit_ty (show kitB "dict" "bool" = some false by decide +kernel)
theorem rp_ty {K : PySem.W.Frag} {G : Hp} {v : V} {d : PyData} (r : Rp K G v d) : TyX K G v (.type (typeD d)) := by
  cases r with
  | non => exact .base .non
  | bl b => exact .base (.bl b)
  | int i => exact .base (.int i)
  | str x => exact .base (.str x)
  | lst a b c =>
    rcases a with (a | ⟨o, a⟩) | ⟨o, _, _, a, b, _⟩
    · exact .base (.lst a)
    · exact .base (.frz a)
    · exact .kList a b
  | tup a b =>
    rcases a with (a | ⟨o, a⟩) | ⟨o, _, _, a, b, _⟩
    · exact .base (.tup a)
    · exact .fTuple a
    · exact .kTuple a b
  | dic a b c => exact .base (.dK a)
/-! ### [.. for c in a text] -/
theorem lc_txt {x : Str} {g : TG} {tt : TT} {te : TE} {vs : List Nat} {σ : L2.St} {H1 : Hp} {D : Addr} {Qd : Hp → Prop} (Pv : Nat → Hp → Prop) (h0 : Pv 0 (upd H1 D (.lst [])))
    (hs : ∀ i c H, x.cps[i]? = some c → Pv i H → g (.str ⟨#[c]⟩) (wipe σ vs) H fun σ2 H2 => wipe σ2 vs = wipe σ vs ∧ tt σ2 H2 fun b H3 =>
      if b = true then te σ2 H3 fun y H4 => ∃ acc, H4 D = some (.lst acc) ∧ acc.length < sizeLine ∧ Pv (i + 1) (upd H4 D (.lst (acc ++ [y]))) else Pv (i + 1) H3) (hd : ∀ H, Pv x.cps.size H → Qd H) :
    ∃ W : Nat → Nat → Hp → Prop, (∃ m, W 0 m (upd H1 D (.lst []))) ∧ ∀ i m H, W i m H →
      ((Its x).stop i H ∧ Qd H) ∨ ((Its x).go i H ∧ ∃ Nx : Hp → Prop, (∀ H', Nx H' → ∃ m', m' < m ∧ W (i + 1) m' H') ∧ ∀ y H', (Its x).yld i H y H' → g y (wipe σ vs) H' fun σ2 H2 => wipe σ2 vs = wipe σ vs ∧ tt σ2 H2 fun b H3 =>
        if b = true then te σ2 H3 fun y H4 => ∃ acc, H4 D = some (.lst acc) ∧ acc.length < sizeLine ∧ Nx (upd H4 D (.lst (acc ++ [y]))) else Nx H3) := by
  refine ⟨fun i m H => m = x.cps.size - i ∧ i ≤ x.cps.size ∧ Pv i H, ⟨x.cps.size, by simp, Nat.zero_le _, h0⟩, ?_⟩
  rintro i m H ⟨rfl, hi, p⟩
  by_cases hlt : i < x.cps.size
  · refine .inr ⟨hlt, Pv (i + 1), fun H' p' => ⟨x.cps.size - (i + 1), by omega, rfl, hlt, p'⟩, fun y H' q => ?_⟩
    obtain ⟨e, c, hc, rfl⟩ := q
    subst e
    exact hs i c _ hc p
  · have e : i = x.cps.size := by omega
    subst e
    exact .inl ⟨Nat.le_refl _, hd H p⟩
end KEq

set_option Elab.async false
set_option linter.all false
set_option maxRecDepth 100000
set_option maxHeartbeats 2000000
/-! A list comprehension of any number of clauses. -/
namespace CN
open PySem PySem.Spec PyProof.Rows L2
/-- what stands behind the tests of a clause: the next clause's source and start, or the element's way into the list -/
def act (elt : Expr) (cs : List Comprehension) (scope : Scope) (pos : Pos) (k : Nat) (acc : Value) (env : Env) : Sem Unit :=
  match cs[k]? with
  | some c => do
    let x ← eval c.iter env
    standAt c.iter.pos
    let y ← foldedSetIterable c.iter env x
    let _ ← runOwn (.compStart (.ListComp elt cs scope pos) k (← holding [y] (pyIter y)) acc env) env
  | none => do let _ ← call (.builtin "list.append") [acc, ← eval elt env]
def testsOf (ifs : List Expr) (env : Env) : Sem Bool := forIn ifs true fun c r => if r = true then do let ok ← isTrue c env (eval c env); pure (ForInStep.yield ok) else pure (ForInStep.yield r)
def turnAt (elt : Expr) (cs : List Comprehension) (scope : Scope) (pos : Pos) (k : Nat) (c : Comprehension) (it acc : Value) (env : Env) : Sem Fin := do
  standAt c.iter.pos
  match ← pyNext it with
  | none => pure (.done .next)
  | some v =>
    letOwnedTupleGo c.target it v
    assign c.target env v
    let ok ← testsOf c.ifs env
    if ok then act elt cs scope pos (k + 1) acc env
    again (.compLoop (.ListComp elt cs scope pos) k it acc env)
theorem turn_at (elt : Expr) (cs : List Comprehension) (scope : Scope) (pos : Pos) (k : Nat) (c : Comprehension) (it acc : Value) (env : Env) (hk : cs[k]? = some c) (ha : c.is_async = 0) (hn : ∀ d, cs[k + 1]? = some d → d.is_async = 0) :
    compTurn (.ListComp elt cs scope pos) k it acc env = turnAt elt cs scope pos k c it acc env := by
  unfold compTurn turnAt act testsOf
  simp only [hk, ha]
  cases e : cs[k + 1]? with
  | none =>
    simp only [bne_self_eq_false, Bool.false_eq_true, if_false, bind_assoc, pure_bind]
    rfl
  | some d =>
    simp only [hn d e, bne_self_eq_false, Bool.false_eq_true, if_false, bind_assoc, pure_bind]
    rfl
/-! ### one clause's loop -/
/-- what is reached from clause k on: of the list's place, slots, heap -/
abbrev TN := Addr → L2.St → Hp → (Hp → Prop) → Prop
structure PIn (B : Cx) (elt : Expr) (cs : List Comprehension) (scope : Scope) (pos : Pos) (k : Nat) (vs : List Nat) (t : TN) : Prop where
  run : ∀ (pins : List (Addr × Obj)) (s : Shared) (σ : L2.St) (H : Hp) (D : Addr) (Nx : Hp → Prop), Inv B pins σ H s → t D σ H Nx →
    wpAny (model B.prog B.w) B.A (act elt cs scope pos k (.ref D) B.env) (fun _ z => ∃ Hz, Inv B pins (wipe σ vs) Hz z ∧ Nx Hz) (fun _ _ => False) s
def tEmit (te : TE) : TN := fun D σ H Nx => te σ H fun y H1 => ∃ acc, H1 D = some (.lst acc) ∧ acc.length < sizeLine ∧ Nx (upd H1 D (.lst (acc ++ [y])))
/-- a walk J with its measure W: it stops and Nx holds, or a turn runs the target's store, the tests, and what is within -/
def Goes (J : It) (W : Nat → Nat → Hp → Prop) (g : TG) (tt : TT) (vs : List Nat) (ti : TN) (D : Addr) (σ : L2.St) (Nx : Hp → Prop) : Prop := ∀ i m H, W i m H →
  (J.stop i H ∧ Nx H) ∨ (J.go i H ∧ ∃ N1 : Hp → Prop, (∀ Hz, N1 Hz → ∃ mz, mz < m ∧ W (i + 1) mz Hz) ∧ ∀ x Hy, J.yld i H x Hy → g x (wipe σ vs) Hy fun σ2 H2 => wipe σ2 vs = wipe σ vs ∧ tt σ2 H2 fun b H3 => if b = true then ti D σ2 H3 N1 else N1 H3)
def tNext (wi : TI) (g : TG) (tt : TT) (vs : List Nat) (ti : TN) : TN := fun D σ H Nx => wi σ H fun J H1 => ∃ W : Nat → Nat → Hp → Prop, (∃ m, W 0 m H1) ∧ Goes J W g tt vs ti D σ Nx
section
variable {B : Cx} {elt : Expr} {cs : List Comprehension} {scope : Scope} {pos : Pos} {k : Nat} {c : Comprehension} {vs vs2 : List Nat} {te : TE} {wi : TI} {g : TG} {tt : TT} {ti : TN}
theorem pin_emit (hx : B.xe = fun _ _ => False) (hk : cs[k]? = none) (he : PE B elt te) : PIn B elt cs scope pos k [] (tEmit te) := by
  refine ⟨fun pins s σ H D Nx I h => ?_⟩
  unfold act
  rw [hk]
  have q := he.run pins s σ H _ I h
  rw [hx] at q
  refine wpAny_bind (wpAny_mono q (fun x s1 z => ?_) (fun _ _ z => z))
  obtain ⟨y, H1, I1, r, acc, hD, hz, nx⟩ := z
  exact wpAny_bind (app_ok I1 hD hz r fun s2 I2 => wpAny_pure ⟨_, I2, nx⟩)
theorem loop_ok {pins : List (Addr × Obj)} {fp : List Addr} {it D : Addr} {tn : Nat → Heap → Prop} {J : It} {σ : L2.St} {W : Nat → Nat → Hp → Prop} {Nx : Hp → Prop} (hx : B.xe = fun _ _ => False) (hc : B.calm = true)
    (hk : cs[k]? = some c) (ha : c.is_async = 0) (hn : ∀ d, cs[k + 1]? = some d → d.is_async = 0) (pg : PG B c.target g) (pt : PTs B c.ifs tt) (pn : PIn B elt cs scope pos (k + 1) vs2 ti) (hv : ∀ i ∈ vs2, i ∈ vs)
    (T : Turn B.prog B.w B.K c.target J fp it tn) {H0 : Hp} (fs : ∀ b ∈ fp, FpOk B pins H0 b) (turn : Goes J W g tt vs ti D σ Nx) {m : Nat} {s : Shared} {H : Hp} (I : Inv B pins (wipe σ vs) H s) (st : tn 0 s.heap) (n0 : ∀ b ∈ fp, H b = none) (w0 : W 0 m H) :
    codeAny (model B.prog B.w) B.A (.compLoop (.ListComp elt cs scope pos) k (.ref it) (.ref D) B.env) (fun r z => match r with
      | .ok f => f = .next ∧ ∃ Hz, Inv B pins (wipe σ vs) Hz z ∧ Nx Hz
      | .error _ => False) s := by
  have stat : ∀ {Hz : Hp}, (∀ b ∈ fp, Hz b = none) → ∀ b ∈ fp, FpOk B pins Hz b := fun n b hb => ⟨n b hb, (fs b hb).2⟩
  refine codeAny_loop rfl (fun n z => ∃ i Hz, Inv B pins (wipe σ vs) Hz z ∧ tn i z.heap ∧ (∀ b ∈ fp, Hz b = none) ∧ W i n Hz) (fun n s1 hI => ?_) m ⟨0, H, I, st, n0, w0⟩
  obtain ⟨i, H1, I1, st1, n1, w1⟩ := hI
  show wpAny _ _ ((compTurn (.ListComp elt cs scope pos) k (.ref it) (.ref D) B.env).onRaise _) _ _ s1
  refine wpAny_noted (wpAny_mono (E := fun _ _ => False) (Q := fun fin z => match fin with
    | .done f => f = .next ∧ ∃ Hz, Inv B pins (wipe σ vs) Hz z ∧ Nx Hz
    | .again cc => cc = .compLoop (.ListComp elt cs scope pos) k (.ref it) (.ref D) B.env ∧ ∃ mz, mz < n ∧ ∃ i Hz, Inv B pins (wipe σ vs) Hz z ∧ tn i z.heap ∧ (∀ b ∈ fp, Hz b = none) ∧ W i mz Hz) ?_ (fun fin z q => ?_) (fun _ _ z => z.elim))
  case refine_2 =>
    cases fin with
    | done f => exact q
    | again cc => exact q
  rw [turn_at elt cs scope pos k c _ _ _ hk ha hn]
  unfold turnAt
  refine wpAny_bind (wpAny_standAt (wpAny_bind ?_))
  rcases turn i n H1 w1 with ⟨stop, nx⟩ | ⟨go, N1, hN, step⟩
  · refine thn (T.done B rfl rfl rfl hc i pins s1 _ H1 (fun _ _ => False) I1 (stat n1) st1 stop) fun r s2 z => ?_
    obtain ⟨hr, I2⟩ := z
    subst hr
    exact wpAny_pure ⟨rfl, H1, I2, nx⟩
  · refine thn (T.item B rfl rfl rfl hc i pins s1 _ H1 (fun _ _ => False) I1 (stat n1) st1 go) fun r s2 z => ?_
    obtain ⟨u, hr, h2⟩ := z
    subst hr
    refine wpAny_bind (thn h2 fun _ s3 z => ?_)
    obtain ⟨x, H3, I3, r3, y3, st3, n3⟩ := z
    have qg := pg.run _ s3 _ H3 x u _ (I3.pinned (stat n3) (T.obj _ _ st3)) r3 (step x H3 y3)
    rw [hx] at qg
    refine wpAny_bind (thn qg fun _ s4 z => ?_)
    obtain ⟨σ4, H4, I4, hw4, q4⟩ := z
    have qt := pt.run _ s4 σ4 H4 _ I4 q4
    rw [hx] at qt
    refine wpAny_bind (thn qt fun b s5 z => ?_)
    obtain ⟨H5, I5, q5⟩ := z
    have fin : ∀ {σz : L2.St} {z : Shared} {Hz : Hp}, Inv B (pins ++ pinsAt fp s3.heap) σz Hz z → (wipe σ vs).length = σz.length → (∀ (j : Nat) v, (wipe σ vs)[j]? = some (some v) → σz[j]? = some (some v)) → N1 Hz →
        ∃ mz, mz < n ∧ ∃ i Hy, Inv B pins (wipe σ vs) Hy z ∧ tn i z.heap ∧ (∀ b ∈ fp, Hy b = none) ∧ W i mz Hy := by
      intro σz z Hz Iz hl hw nz
      obtain ⟨mz, hm, wz⟩ := hN Hz nz
      have pin : ∀ b ∈ fp, ∀ o, s3.heap.get? b = some o → z.heap.get? b = some o ∧ Hz b = none := by
        intro b hb o e
        have a := Iz.pin (b, o) (List.mem_append_right _ (List.mem_append_right _ (mem_pinsAt hb e)))
        exact ⟨a.1, a.2.1⟩
      refine ⟨mz, hm, i + 1, Hz, Iz.unpinned.weak hl hw, T.keep _ _ _ st3 (fun b hb o e => (pin b hb o e).1), fun b hb => ?_, wz⟩
      obtain ⟨o, e, _⟩ := T.obj _ _ st3 b hb
      exact (pin b hb o e).2
    have hl4 : (wipe σ vs).length = σ4.length := by rw [← hw4, wipe_length]
    cases b with
    | false => exact wpAny_pure ⟨rfl, fin I5 hl4 (fun j v e => (wipe_some (by rw [hw4]; exact e)).1) q5⟩
    | true =>
      refine wpAny_bind (thn (pn.run _ s5 σ4 H5 D N1 I5 q5) fun _ s6 z => ?_)
      obtain ⟨H6, I6, nz⟩ := z
      refine wpAny_pure ⟨rfl, fin I6 (hl4.trans (wipe_length σ4 vs2).symm) (fun j v e => ?_) nz⟩
      obtain ⟨e1, e2⟩ := wipe_some (σ := σ4) (vs := vs) (by rw [hw4]; exact e)
      rw [wipe_out fun z => e2 (hv j z)]
      exact e1
theorem start_ok {prog : Program} {w : World} {A : Around} {R : Result → Shared → Prop} {s : Shared} {it : Addr} {acc : Value} {env : Env} (hk : cs[k]? = some c) (ha : c.is_async = 0)
    (self : ∀ (Q E : Value → Shared → Prop), Q (.ref it) s → wpAny (model prog w) A (pyIter (.ref it)) Q E s) (h : codeAny (model prog w) A (.compLoop (.ListComp elt cs scope pos) k (.ref it) acc env) R s) :
    codeAny (model prog w) A (.compStart (.ListComp elt cs scope pos) k (.ref it) acc env) R s := by
  refine codeAny_of_tree (M := model prog w) ?_
  show wpAny _ _ ((compStart (.ListComp elt cs scope pos) k (.ref it) acc env).onRaise _) _ _ s
  refine wpAny_notedAt (M := model prog w) ?_
  have e : clausesOf (.ListComp elt cs scope pos) = cs := rfl
  unfold compStart
  simp only [e, hk, ha, Option.elim, bne_self_eq_false, Bool.false_eq_true, if_false]
  refine wpAny_bind (wpAny_askSetting (wpAny_ite ?_))
  split
  · exact wpAny_pure (And.intro rfl h)
  · exact wpAny_bind (wpAny_rule (wpAny_bind (wpAny_standAt (wpAny_bind (self _ _ (wpAny_pure (And.intro rfl h)))))))
theorem pin_next (hx : B.xe = fun _ _ => False) (hc : B.calm = true) (hk : cs[k]? = some c) (ha : c.is_async = 0) (hn : ∀ d, cs[k + 1]? = some d → d.is_async = 0) (hi : PI B c.target c.iter wi) (pg : PG B c.target g) (pt : PTs B c.ifs tt)
    (pn : PIn B elt cs scope pos (k + 1) vs2 ti) (hv : ∀ i ∈ vs2, i ∈ vs) (hs : ∀ env x, foldedSetIterable c.iter env x = pure x) : PIn B elt cs scope pos k vs (tNext wi g tt vs ti) := by
  refine ⟨fun pins s σ H D Nx I h => ?_⟩
  unfold act
  rw [hk]
  have q := hi.run pins s σ H _ I h
  rw [hx] at q
  refine wpAny_bind (thn q fun x s1 q1 => wpAny_bind (wpAny_standAt (wpAny_bind (wpAny_of_eq (hs _ x) (wpAny_bind (wpAny_holding (thn q1 fun z s2 q2 => ?_)))))))
  obtain ⟨it, fp, tn, J, H2, e, I2, T, st2, f2, W, ⟨m, w0⟩, turn⟩ := q2
  subst e
  have lp := loop_ok hx hc hk ha hn pg pt pn hv T f2 turn (I2.weak (wipe_length σ vs) fun j v e => (wipe_some e).1) st2 (fun b hb => (f2 b hb).1) w0
  rw [← Around.mark_none (A := B.A)] at lp
  refine wpAny_bind (wpAny_runOwn (codeAny_mono (start_ok hk ha (fun Q E hq => T.self _ 0 _ Q E st2 hq) lp) fun r s3 hr => ?_))
  cases r with
  | ok f => exact wpAny_pure hr.2
  | error e => exact hr.elim
end
/-! ### the whole -/
section
variable {X : Cx} {elt tg iter : Expr} {ifs : List Expr} {rest : List Comprehension} {scope : Scope} {pos : Pos} {own : List (Str × Nat)} {vs2 : List Nat} {wi : TI} {g : TG} {tt : TT} {ti : TN}
/-- D: the new list -/
def tLcN (wi : TI) (g : TG) (tt : TT) (vs : List Nat) (ti : TN) : TE := fun σ H Q => wi σ H fun J H1 => ∀ D, H1 D = none → ∃ W : Nat → Nat → Hp → Prop, (∃ m, W 0 m (upd H1 D (.lst []))) ∧ Goes J W g tt vs ti D σ (Q (.ref D))
theorem pe_lcN (hc : X.calm = true) (hN : X.N.Nodup) (hi : PI X tg iter wi) (ok : BlkOk X.N X.env.scope scope own)
    (hg : ∀ (s : Shared) (H : Hp) (C : Addr) (cl : List (Str × Addr)) (fp : List Addr), PG (X.blk s H scope (compEnvC scope cl C X.env) fp) tg g ∧ PTs (X.blk s H scope (compEnvC scope cl C X.env) fp) ifs tt ∧ PIn (X.blk s H scope (compEnvC scope cl C X.env) fp) elt (⟨tg, iter, ifs, 0⟩ :: rest) scope pos 1 vs2 ti)
    (hv : ∀ i ∈ vs2, i ∈ own.map (·.2)) (hn : ∀ d, rest[0]? = some d → d.is_async = 0) (hs : ∀ x, foldedSetIterable iter X.env x = pure x) : PE X (.ListComp elt (⟨tg, iter, ifs, 0⟩ :: rest) scope pos) (tLcN wi g tt (own.map (·.2)) ti) := by
  refine ⟨fun pins s σ H Q I h => ?_⟩
  rw [eval_ListComp]
  have hf : ∀ y ∈ scope.names, y.2 = .free → ∃ c, X.env.cells.lookup y.1 = some c := fun y hy e => (ok.free y hy e).elim (fun z => I.ok.has _ (.inl z)) fun z => I.ok.has _ (.inr z)
  refine wpAny_comprehension_free (use := none) rfl hs (closure_ok hf) ok.kind (fun y hy e => by rw [ok.uniq y hy, e]) (thn (hi.run pins s σ H _ I h) fun xv s1 q1 => thn q1 fun itv s2 q2 => ?_)
  obtain ⟨it, fp, tn, J, H2, e, I2, T, st2, f2, q⟩ := q2
  subst e
  refine wpAny_newObj_type (newEnv_comp ?_) (show 0 ≤ sizeLine by decide)
  generalize hD : s2.heap.objs.size = D
  have fresh := I2.hok.fresh (Nat.le_of_eq hD)
  obtain ⟨W, ⟨m0, w0⟩, turn⟩ := q D fresh
  generalize hs3 : ({ s2 with heap := s2.heap.push { cls := .type "list", data := .seq ([] : List Value).toArray } } : Shared) = s3
  have h3 : s3.heap = s2.heap.push { cls := .type "list", data := .seq ([] : List Value).toArray } := by subst hs3; rfl
  have k3 : ∀ b o, s2.heap.get? b = some o → s3.heap.get? b = some o := fun b o z => by rw [h3]; exact Heap.get?_push_of_some _ z
  have I3 : Inv X pins σ (upd H2 D (.lst [])) s3 := by
    subst hs3
    exact I2.laid (t' := s2.toks) k3 (Nat.le_of_eq hD) ⟨Nat.zero_le _, [], 0, .nil, by rw [← hD]; exact Heap.get?_push_size _ rfl⟩
  have lt2 : ∀ b ∈ fp, b < s2.heap.objs.size := fun b hb => (T.obj _ _ st2 b hb).elim fun o z => Heap.lt_size z.1
  have f3 : ∀ b ∈ fp, FpOk X pins (upd H2 D (.lst [])) b ∧ b < s3.heap.objs.size := fun b hb => by
    have l := lt2 b hb
    exact ⟨⟨(upd_ne (by rw [← hD]; exact Nat.ne_of_lt l)).trans (f2 b hb).1, (f2 b hb).2⟩, by rw [h3, Heap.size_push]; exact Nat.lt_succ_of_lt l⟩
  have I4 := block_start I3 ok hN f3
  obtain ⟨pg, pt, pn⟩ := hg s3 (upd H2 D (.lst [])) s3.heap.objs.size (cellsFrom (s3.heap.objs.size + 1) scope.names (cloFrom X.env.cells scope.names [])) fp
  show codeAny _ _ (.compStart (.ListComp elt (⟨tg, iter, ifs, 0⟩ :: rest) scope pos) 0 (.ref it) (.ref D) (compEnvC scope (cellsFrom (s3.heap.objs.size + 1) scope.names (cloFrom X.env.cells scope.names [])) s3.heap.objs.size X.env)) _ { s3 with heap := pushCells (s3.heap.push { cls := .type "dict", data := .dict #[] }) scope.names }
  generalize hce : compEnvC scope (cellsFrom (s3.heap.objs.size + 1) scope.names (cloFrom X.env.cells scope.names [])) s3.heap.objs.size X.env = ce at I4 pg pt pn ⊢
  have cL : ce.locals = s3.heap.objs.size := by subst hce; rfl
  generalize hH3 : upd H2 D (.lst []) = H3 at I3 I4 pg pt pn w0 f3
  generalize hs4 : ({ s3 with heap := pushCells (s3.heap.push { cls := .type "dict", data := .dict #[] }) scope.names } : Shared) = s4 at I4 ⊢
  have st4 : tn 0 s4.heap := T.keep _ _ _ st2 fun b _ o z => by subst hs4; exact pushCells_keeps _ _ _ _ (Heap.get?_push_of_some _ (k3 b o z))
  have fB : ∀ b ∈ fp, FpOk (X.blk s3 H3 scope ce fp) [] H3 b := fun b hb =>
    ⟨(f3 b hb).1.1, (I4.ok.exf b hb).1, I4.ok.exfs b hb, .inl hb, fun x c z => (I4.ok.exf b hb).2 x c z, fun p hp => absurd (show p ∈ ([] : List (Addr × Obj)) ++ [] from hp) (by simp)⟩
  have lp := codeAny_mono (loop_ok (B := X.blk s3 H3 scope ce fp) (k := 0) (c := ⟨tg, iter, ifs, 0⟩) rfl hc rfl rfl (fun d z => hn d z) pg pt pn hv T fB turn I4 st4 (fun b hb => (f3 b hb).1.1) w0) (R' := compPost (model X.prog X.w) X.A X.xe none (EP X pins σ Q) (.ref D) s3.heap.objs.size) fun r s6 z => ?_
  · exact codeAny_compStart_list lp (T.self X.A 0 _ _ _ st4 lp)
  · cases r with
    | error e => exact z.elim
    | ok f =>
      obtain ⟨e, Hz, I6, qq⟩ := z
      subst e
      have I7 : Inv X pins σ Hz s6 := I3.call' (ch := fp) I6.os I6.base I6.hok I6.bare fun b hb => ⟨(f3 b hb).1.2.2.2.1, (f3 b hb).1.2.1, (f3 b hb).1.2.2.2.2.1, (f3 b hb).1.2.2.2.2.2⟩
      have nC : Hz s3.heap.objs.size = none := by rw [← cL]; exact I6.free
      obtain ⟨mm, hnn, _⟩ := I6.loc
      have hnn : s6.heap.Ns s3.heap.objs.size mm := by rw [← cL]; exact hnn
      obtain ⟨f0, f1, f2, f3, f4, f5⟩ := I3.fpOk (Nat.le_refl _) nC
      exact ⟨mm, hnn, fun hh sb => ⟨.ref D, Hz, I7.turned (t' := s6.toks) (fun b o hb z => (sb.2 b hb).trans z) f0 f1 f3 f4 f5, rfl, qq⟩⟩
end
end CN

set_option Elab.async false
set_option linter.all false
set_option maxRecDepth 100000
set_option maxHeartbeats 2000000
/-! C.m() of a staticmethod; f(k = v, ..) without a positional argument. -/
namespace SC
open PySem PySem.Spec PyProof.Rows L2
/-- C.m is a staticmethod: its record at p, its def at g -/
structure SMet (K : PySem.W.Frag) (C : Addr) (mc : Value) (m : Str) (p g : Addr) : Prop where
  at_ : PySem.W.findCls K (.ref C) mc m = some (.get (.builtin "staticmethod.__get__") (.ref p) .none (.ref C))
  rc : ∃ rest, PySem.W.recIn K p "staticmethod" = some (.ref g :: rest)
  kp : PySem.W.keepIn K (.ref g) = true
def tSMeth0 (C : Addr) (sp : Sp) (E : XK) (ta : TE) : TE := fun σ H Q => ta σ H fun x H1 => x = .ref C ∧ sp [] H1 Q E
def tCallK (m : Nat) (sp : Sp) (gV : List V → List V) (E : XK) (tk : TA) : TE := fun σ H Q => tk σ H fun zs H2 => zs.length = m ∧ sp (gV zs) H2 Q E
section
variable {X : Cx} {CX : CXT} {k : Nat} {C p g f : Addr} {mc : Value} {fd : FuncData} {ps ks : List Str} {sp : Sp} {E : XK} {o : Expr} {m x : Str} {pos apos pn : Pos} {ta : TE} {tk : TA} {kws : List Keyword} {gg : List Value → List Value → List Value} {gV : List V → List V → List V}
theorem pe_smeth0 {pl : Sem Bool} (he : PE X o ta) (r : ClX.CRead X.K C mc) (c : SMet X.K C mc m p g) (F : FnOk X.prog X.w X.K X.mg X.base CX k g fd ps sp) (hr : Room k X.A) (hb : Binds X.K fd ps []) (hx : Passes CX X E)
    (ht : eval (.Call (.Attribute o m apos) [] [] pos) X.env = (eval o X.env >>= fun ov => standAt apos.atName >>= fun _ => holding [ov] (getMethod ov m pl) >>= fun z => callWith pos z.1 z.2 (backTo pos (starEach [] X.env)) (backToKw pos (keywordEach [] X.env))) := by rfl) :
    PE X (.Call (.Attribute o m apos) [] [] pos) (tSMeth0 C sp E ta) := by
  refine ⟨fun pins s σ H Q I h => ?_⟩
  refine PySem.W.methodCall_KW (pl := pl) (thn (he.run pins s σ H _ I h) fun u s1 z => ?_) ht
  obtain ⟨x, H1, I1, rx, ex, q⟩ := z
  subst ex
  obtain rfl : u = Value.ref C := rx
  obtain ⟨rest, hp⟩ := c.rc
  refine PySem.W.method_cls I1.kIn r.ga (PySem.W.cls_bind I1.kIn r.rd c.at_ (wpAny_call (PySem.W.sm_get (s := { s1 with toks := s1.toks + 1 }) I1.kIn hp (PySem.W.handed_on rfl ?_))))
  have I2 := I1.tok (s1.toks + 1)
  exact PySem.W.callWith_K0 I2.kIn c.kp (run_fn (us := []) (vs := []) (dvs := []) F hr hb .nil hx I2 .nil q)
theorem pe_callK0 (F : FnOk X.prog X.w X.K X.mg X.base CX k f fd ps sp) (hr : Room k X.A) (hg : Gl X x) (hm : X.mg x = some (.ref f)) (hk : PySem.W.keepIn X.K (.ref f) = true) (hb : KBn X.K fd ps 0 ks gg gV) (hx : Passes CX X E)
    (hkw : PK X kws tk) (hall : (backToKw pos (keywordEach kws X.env)).all (·.1.isSome) = true := by rfl) (hks : (backToKw pos (keywordEach kws X.env)).filterMap (·.1) = ks := by rfl) (hdb : (x == ("__debug__" : Str)) = false := by decide)
    (hpl : ((backTo pos (starEach [] X.env)).any (·.1) || (backToKw pos (keywordEach kws X.env)).any (·.1.isNone)) = false := by rfl) : PE X (.Call (.Name x pn) [] kws pos) (tCallK ks.length sp (gV []) E tk) := by
  refine ⟨fun pins s σ H Q I h => wpAny_Call_Name_kw (ld_glob I hg hm ?_ hdb)⟩
  refine PySem.W.callWith_KW0 (h₀ := X.base) I.ok.mod.kin hk hall (thn (hkw.run pos pins s σ H _ I h) fun ws s2 z => ?_) hpl
  obtain ⟨zs, H2, I2, rz, l1, q2⟩ := z
  refine ⟨I2.kIn, ?_⟩
  rw [hks]
  exact run_fnN (us := []) (vs := []) F hr hb hx I2 .nil rz rfl l1 q2
end
end SC

set_option Elab.async false
set_option linter.all false
set_option maxRecDepth 100000
namespace K69
open PySem L2 Pen
def top (i : Nat) : Stmt := PySem.Challenge.pw_oncepost_k69_account_of_great_numbers.main.body.getD i (.Pass ⟨0, 0, 0, 0⟩)
def inClass (s : Stmt) (i : Nat) : Stmt := match s with
  | .ClassDef (body := b) .. => b.getD i (.Pass ⟨0, 0, 0, 0⟩)
  | _ => .Pass ⟨0, 0, 0, 0⟩
structure DefT (K : PySem.W.Frag) (mg : Str → Option Value) (x : Str) (f : Addr) : Prop where
  mg : mg x = some (.ref f)
  kp : PySem.W.keepIn K (.ref f) = true
/-- the built-in names that the defs read -/
structure Txt (mg : Str → Option Value) : Prop where
  int : mg "int" = none
  len : mg "len" = none
  abs : mg "abs" = none
  list : mg "list" = none
  dict : mg "dict" = none
  min : mg "min" = none
  max : mg "max" = none
  range : mg "range" = none
  repr : mg "repr" = none
abbrev sTape : Stmt := top 12
abbrev sDraw : Stmt := top 13
abbrev sPick : Stmt := top 14
abbrev sCom : Stmt := top 15
abbrev sPB : Stmt := top 16
abbrev sPA : Stmt := top 17
abbrev sNum : Stmt := top 18
abbrev sLaw : Stmt := top 19
abbrev cWays : Stmt := top 6
abbrev sAcc : Stmt := top 9
abbrev sIsWay : Stmt := top 7
abbrev sIsNum : Stmt := top 4
abbrev sRuns : Stmt := top 10
abbrev sEvery : Stmt := inClass cWays 5
end K69

set_option Elab.async false
set_option linter.all false
set_option maxRecDepth 100000
set_option maxHeartbeats 4000000
namespace K69
open PySem L2 Pen
section
variable {P : Program} {w : World} {K : PySem.W.Frag} {mg : Str → Option Value} {base : Heap}
theorem scTape : FnScope ["_law_script"] ["_law_script"] (defScope sTape) := ⟨rfl, rfl, rfl, by decide +kernel, rfl, by decide +kernel, by decide +kernel⟩
theorem ok_tape {f : Addr} {fd : FuncData} (F : Fun K "_law_tape" "_law_tape" sTape f fd) (T : Txt mg) : FnOk P w K mg base CX0 1 f fd ["_law_script"] (spPen K) := by
  refine F.ok scTape (fun vs H Q E h => ?_) (fun cdv A outer s H vs Q E hr h => ?_)
  · obtain ⟨a, ns, rfl, _⟩ := h
    rfl
  · obtain ⟨a, ns, rfl, hS, hl, k⟩ := h
    have hu := hu_of hr
    refine ⟨_, (pss_one (ps_ret (pe_disp (pps_cons pe_str (pe_callTy call_list_of (by rfl) T.list PyProof.Rows.boot_list (pa_cons (pe_slice sl_list (pv 0) po_none (po_some pe_int)) pa_nil)) (pps_cons pe_str pe_int (pps_cons pe_str pe_int pps_nil))) (by decide +kernel) rfl (by simp) (by decide)))), ?_⟩
    intro p hp
    refine ⟨_, rfl, 63, rfl, a, _, rfl, (same_new hp).seq hS, fun l1 h1 => ⟨l1, _, rfl, .inl (SqL.of upd_same), fun l h2 => ?_⟩⟩
    have n1 : l1 ≠ p := fun e => by rw [e, upd_same] at h1; cases h1
    have n2 : l ≠ l1 := fun e => by rw [e, upd_same] at h2; cases h2
    have n3 : l ≠ p := fun e => by rw [e, upd_ne n1.symm, upd_same] at h2; cases h2
    have hp' : (upd (upd (upd H p (.dK [])) l1 (.lst (cutV (ns.map V.int) none (some 63)))) l (.lst (cutV (ns.map V.int) none (some 63)))) p = some (.dK []) := by
      rw [upd_ne n3.symm, upd_ne n1.symm, upd_same]
    refine ⟨hp', [(kC, .ref l), (kA, .int 0), (kR, .int 0)], rfl, (by simp), ?_⟩
    rw [merge_pk, cut63 hl]
    refine k p l _ hp ⟨⟨0, 0, upd_same, by decide, by decide, by decide⟩, by rw [upd_ne n3, upd_same]⟩ fun b o e => ?_
    have b1 : b ≠ p := ne_of_none e hp
    rw [upd_ne b1]
    have e1 : (upd H p (.dK [])) b = some o := by rw [upd_ne b1]; exact e
    have b2 : b ≠ l1 := ne_of_none e1 h1
    have e2 : (upd (upd H p (.dK [])) l1 (.lst (cutV (ns.map V.int) none (some 63)))) b = some o := by rw [upd_ne b2]; exact e1
    have b3 : b ≠ l := ne_of_none e2 h2
    rw [upd_ne b3, upd_ne b2, upd_ne b1]
    exact e
theorem scDraw : FnScope ["_law_tape_here", "_law_many", "_law_digit", "_law_begun", "_law_size", "_law_cell", "_law_blend"] ["_law_tape_here", "_law_many"] (defScope sDraw) := ⟨rfl, rfl, rfl, by decide +kernel, rfl, by decide +kernel, by decide +kernel⟩
theorem mod_lt {m : Int} (h : 0 < m) (i : Int) : 0 ≤ i % m ∧ i % m < m := ⟨Int.emod_nonneg i (by omega), Int.emod_lt_of_pos i h⟩
theorem ok_draw {f : Addr} {fd : FuncData} (F : Fun K "_law_draw" "_law_draw" sDraw f fd) (T : Txt mg) : FnOk P w K mg base CX0 1 f fd ["_law_tape_here", "_law_many"] spDraw := by
  refine F.ok scDraw (fun vs H Q E h => ?_) (fun cdv A outer s H vs Q E hr h => ?_)
  · obtain ⟨p, c, ns, b, m, rfl, _⟩ := h
    rfl
  · obtain ⟨p, c, ns, b, m, rfl, Pn, hl, hb, hm, hm2, k⟩ := h
    have hu := hu_of hr
    obtain ⟨⟨a, r, hp, ha0, ha, hr0⟩, hc⟩ := id Pn
    have npc : p ≠ c := Pn.ne
    have cp : ∀ o, (upd H p o) c = some (.lst (ns.map V.int)) := fun o => by rw [upd_ne npc.symm]; exact hc
    refine ⟨_, (pss_cons (ps_if (pt_cmpR op_gt (pe_dget hu (pv 0) pe_str (fun _ _ => rfl)) pe_int (nomark _)) (pss_cons (ps_set (i := 2) scDraw.nd rfl (Or.inl rfl) (pe_op op_modN (pe_callTy call_int1 (by rfl) T.int PyProof.Rows.boot_int (pa_cons (pe_dget hu (pv 0) pe_str (fun _ _ => rfl)) pa_nil)) (pv 1)))
      (pss_cons (ps_dput hu (pv 0) pe_str (pe_op op_fdivW (pe_dget hu (pv 0) pe_str (fun _ _ => rfl)) (pv 1)) rfl)
      (pss_one (ps_ret (pv 2))))) pss_nil)
      (pss_cons (ps_par (i := 3) (j := 4) (by rfl) scDraw.nd rfl rfl (by decide) rfl rfl (pa_cons (pe_dget hu (pv 0) pe_str (fun _ _ => rfl)) (pa_cons (pe_callB call_len_seq (by rfl) T.len PySem.boot_len (pa_cons (pe_dget hu (pv 0) pe_str (fun _ _ => rfl)) pa_nil)) pa_nil)) (by rfl))
      (pss_cons (ps_dput hu (pv 0) pe_str (pe_op op_add (pv 3) pe_int) rfl)
      (pss_cons (ps_set (i := 5) scDraw.nd rfl (Or.inl rfl) (pe_ifExp (pt_cmpR op_gt (pv 4) pe_int (nomark _)) (pe_ix ix_list (pe_dget hu (pv 0) pe_str (fun _ _ => rfl)) (pe_op op_modN (pe_callTy call_int1 (by rfl) T.int PyProof.Rows.boot_int (pa_cons (pv 3) pa_nil)) (pv 4)) (fun _ _ => rfl)) (pe_op op_add (pe_op op_mul pe_int (pv 3)) pe_int)))
      (pss_cons (ps_if (PW.pt (pw_and (pt_cmpR op_lt (pv 3) (pv 4) (nomark _)) (pw_and1 (pt_cmpR op_ge (pe_callB call_abs (by rfl) T.abs PyProof.Rows.boot_abs (pa_cons (pv 5) pa_nil)) (pe_op op_pow pe_int pe_int) (nomark _))))) (pss_cons (ps_dput hu (pv 0) pe_str (pe_op op_fdivW (pe_op op_sub (pe_callB call_abs (by rfl) T.abs PyProof.Rows.boot_abs (pa_cons (pv 5) pa_nil)) (pe_op op_pow pe_int pe_int)) (pv 1)) rfl)
      (pss_one (ps_ret (pe_op op_modN (pe_callTy call_int1 (by rfl) T.int PyProof.Rows.boot_int (pa_cons (pe_op op_sub (pe_callB call_abs (by rfl) T.abs PyProof.Rows.boot_abs (pa_cons (pv 5) pa_nil)) (pe_op op_pow pe_int pe_int)) pa_nil)) (pv 1))))) pss_nil)
      (pss_cons (ps_set (i := 6) scDraw.nd rfl (Or.inl rfl) (pe_op op_mod (pe_callTy call_int1 (by rfl) T.int PyProof.Rows.boot_int (pa_cons (pe_op op_add (pe_op op_add (pe_op op_add (pe_op op_mul (pe_op op_mod (pe_callTy call_int1 (by rfl) T.int PyProof.Rows.boot_int (pa_cons (pv 5) pa_nil)) pe_int) pe_int) (pe_op op_mul (pe_op op_mul pe_int (pv 3)) (pv 3))) (pe_op op_mul pe_int (pv 3))) pe_int) pa_nil)) pe_int))
      (pss_cons (ps_set (i := 6) scDraw.nd rfl (Or.inl rfl) (pe_op op_mod (pe_callTy call_int1 (by rfl) T.int PyProof.Rows.boot_int (pa_cons (pe_op op_add (pe_op op_add (pe_op op_add (pe_op op_mul (pv 6) (pv 6)) (pe_op op_mul pe_int (pv 6))) (pe_op op_mul pe_int (pv 3))) pe_int) pa_nil)) pe_int))
      (pss_one (ps_ret (pe_op op_modN (pe_callTy call_int1 (by rfl) T.int PyProof.Rows.boot_int (pa_cons (pe_op op_fdiv (pe_op op_mod (pe_callTy call_int1 (by rfl) T.int PyProof.Rows.boot_int (pa_cons (pe_op op_mul (pv 6) (pe_op op_add (pv 6) pe_int)) pa_nil)) pe_int) pe_int) pa_nil)) (pv 1))))))))))), ?_⟩
    refine ⟨_, rfl, p, _, rfl, getR hp, _, _, rfl, rfl, _, rfl, ite2 (fun h => ?_) (fun _ => ?_)⟩
    · -- the rest's next digit
      refine ⟨_, rfl, p, _, rfl, getR hp, .inl ⟨_, rfl, _, rfl, _, _, rfl, rfl, (by omega), ?_⟩⟩
      refine ⟨_, rfl, p, _, rfl, getR hp, _, rfl, _, _, rfl, rfl, div_ok hm hm2, _, rfl, p, _, rfl, putR hp, _, rfl, ?_⟩
      exact k _ _ (fmod_lo hm) (fmod_hi hm) ⟨⟨a, _, upd_same, ha0, by omega, fdiv_lo hm hr0⟩, cp _⟩ (SameX.upd SameX.refl)
    · refine ⟨_, rfl, p, _, rfl, getA hp, _, rfl, p, _, rfl, getC hp, c, _, rfl, .inl (SqL.of hc), _, _, rfl, ?_⟩
      refine ⟨_, rfl, _, _, rfl, rfl, _, rfl, p, _, rfl, putA hp, ?_⟩
      have c1 := cp (.dK (pk c (a + 1) r))
      have x1 : (upd H p (.dK (pk c (a + 1) r))) p = some (.dK (pk c (a + 1) r)) := upd_same
      have s1 : SameX p H (upd H p (.dK (pk c (a + 1) r))) := SameX.upd (H' := H) SameX.refl
      have s3 : ∀ x : Int, SameX p H (upd (upd H p (.dK (pk c (a + 1) r))) p (.dK (pk c (a + 1) x))) := fun x => SameX.upd s1
      have c3 : ∀ x : Int, (upd (upd H p (.dK (pk c (a + 1) r))) p (.dK (pk c (a + 1) x))) c = some (.lst (ns.map V.int)) := fun x => by rw [upd_ne npc.symm]; exact c1
      refine ⟨_, rfl, _, _, rfl, rfl, _, rfl, ite2 (fun h0 => ?ix) (fun _ => ?bl)⟩
      case ix =>
        have hne : ns ≠ [] := fun e => by
          rw [e] at h0
          have h9 : decide ((0 : Int) < (0 : Nat)) = true := h0
          exact absurd (of_decide_eq_true h9) (by decide)
        obtain ⟨z, hz⟩ := atI_mod (ns := ns) (a := a) hne
        have hz' : atI (ns.map V.int) (a.fmod ((ns.map V.int).length : Int)) = some (.int z) := by rw [List.length_map]; exact hz
        have h8 : ((ns.map V.int).length : Int) ≠ 0 := fun e => hne (by
          rw [List.length_map] at e
          exact List.length_eq_zero_iff.mp (by omega))
        refine ⟨_, rfl, p, _, rfl, getC x1, _, rfl, .inl ⟨_, rfl, _, rfl, _, _, rfl, rfl, h8, c, _, _, _, rfl, rfl, SqL.of c1, hz', ?_⟩⟩
        refine ⟨_, rfl, _, rfl, _, _, rfl, rfl, _, rfl, ite2 (fun h1 => ⟨_, rfl, _, rfl, _, _, rfl, rfl, ⟨by decide, by decide, by decide⟩, _, _, rfl, rfl, _, rfl, ite2 (fun h2 => ?bb) (fun _ => ?rr1)⟩) (fun _ => iteF ?rr2)⟩
        case bb =>
          refine ⟨_, rfl, _, rfl, _, _, rfl, rfl, ⟨by decide, by decide, by decide⟩, _, _, rfl, rfl, _, rfl, _, _, rfl, rfl, div_ok hm hm2, _, rfl, p, _, rfl, putR x1, _, rfl, _, rfl, _, _, rfl, rfl, ⟨by decide, by decide, by decide⟩, _, _, rfl, rfl, .inl ⟨_, rfl, _, rfl, _, _, rfl, rfl, (by omega), ?_⟩⟩
          exact k _ _ (fmod_lo hm) (fmod_hi hm) ⟨⟨a + 1, _, upd_same, by omega, by omega, fdiv_lo hm (by have := of_decide_eq_true h2; omega)⟩, c3 _⟩ (s3 _)
        all_goals
          refine ⟨_, rfl, .inl ⟨_, rfl, _, _, rfl, rfl, (by show (0 : Int) < 4294967291; decide), ?_⟩⟩
          have m1 := mod_lt (m := 4294967291) (by decide) z
          refine ⟨_, _, rfl, rfl, .inl ⟨by omega, by omega⟩, _, rfl, _, _, rfl, rfl, .inl ⟨by decide, by decide⟩, _, rfl, _, _, rfl, rfl, .inl ⟨by omega, by omega⟩, _, _, rfl, rfl, _, rfl, _, _, rfl, rfl, .inl ⟨by decide, by decide⟩, _, _, rfl, rfl, _, _, rfl, rfl, ?_⟩
          refine .inl ⟨_, rfl, _, _, rfl, rfl, (by show (0 : Int) < 4294967279; decide), ?_⟩
          have m2 := mod_lt (m := 4294967279) (by decide)
          refine ⟨_, rfl, _, rfl, _, _, rfl, rfl, .inl ⟨Int.lt_of_lt_of_le (by decide) (m2 _).1, Int.lt_trans (m2 _).2 (by decide)⟩, _, rfl, _, _, rfl, rfl, .inl ⟨by decide, by decide⟩, _, _, rfl, rfl, _, rfl, _, _, rfl, rfl, .inl ⟨by decide, by decide⟩, _, _, rfl, rfl, _, _, rfl, rfl, ?_⟩
          refine .inl ⟨_, rfl, _, _, rfl, rfl, (by show (0 : Int) < 4294967231; decide), ?_⟩
          have m3 := mod_lt (m := 4294967231) (by decide)
          refine ⟨_, rfl, _, rfl, _, _, rfl, rfl, _, _, rfl, rfl, .inl ⟨Int.lt_of_lt_of_le (by decide) (m3 _).1, Int.lt_trans (m3 _).2 (by decide)⟩, ?_⟩
          refine .inl ⟨_, rfl, _, _, rfl, rfl, (by show (0 : Int) < 4294967197; decide), _, _, rfl, rfl, ⟨by decide, by decide⟩, ?_⟩
          refine .inl ⟨_, rfl, _, rfl, _, _, rfl, rfl, (by omega), ?_⟩
          exact k _ _ (fmod_lo hm) (fmod_hi hm) ⟨⟨a + 1, r, x1, by omega, by omega, hr0⟩, c1⟩ s1
      case bl =>
        refine ⟨_, rfl, _, _, rfl, rfl, .inl ⟨by decide, by decide⟩, _, _, rfl, rfl, ?_⟩
        generalize hzz : 59 * a + 31 = z
        refine ⟨_, rfl, _, rfl, _, _, rfl, rfl, _, rfl, ite2 (fun h1 => ⟨_, rfl, _, rfl, _, _, rfl, rfl, ⟨by decide, by decide, by decide⟩, _, _, rfl, rfl, _, rfl, ite2 (fun h2 => ?bb2) (fun _ => ?rr3)⟩) (fun _ => iteF ?rr4)⟩
        case bb2 =>
          refine ⟨_, rfl, _, rfl, _, _, rfl, rfl, ⟨by decide, by decide, by decide⟩, _, _, rfl, rfl, _, rfl, _, _, rfl, rfl, div_ok hm hm2, _, rfl, p, _, rfl, putR x1, _, rfl, _, rfl, _, _, rfl, rfl, ⟨by decide, by decide, by decide⟩, _, _, rfl, rfl, .inl ⟨_, rfl, _, rfl, _, _, rfl, rfl, (by omega), ?_⟩⟩
          exact k _ _ (fmod_lo hm) (fmod_hi hm) ⟨⟨a + 1, _, upd_same, by omega, by omega, fdiv_lo hm (by have := of_decide_eq_true h2; omega)⟩, c3 _⟩ (s3 _)
        all_goals
          refine ⟨_, rfl, .inl ⟨_, rfl, _, _, rfl, rfl, (by show (0 : Int) < 4294967291; decide), ?_⟩⟩
          have m1 := mod_lt (m := 4294967291) (by decide) z
          refine ⟨_, _, rfl, rfl, .inl ⟨by omega, by omega⟩, _, rfl, _, _, rfl, rfl, .inl ⟨by decide, by decide⟩, _, rfl, _, _, rfl, rfl, .inl ⟨by omega, by omega⟩, _, _, rfl, rfl, _, rfl, _, _, rfl, rfl, .inl ⟨by decide, by decide⟩, _, _, rfl, rfl, _, _, rfl, rfl, ?_⟩
          refine .inl ⟨_, rfl, _, _, rfl, rfl, (by show (0 : Int) < 4294967279; decide), ?_⟩
          have m2 := mod_lt (m := 4294967279) (by decide)
          refine ⟨_, rfl, _, rfl, _, _, rfl, rfl, .inl ⟨Int.lt_of_lt_of_le (by decide) (m2 _).1, Int.lt_trans (m2 _).2 (by decide)⟩, _, rfl, _, _, rfl, rfl, .inl ⟨by decide, by decide⟩, _, _, rfl, rfl, _, rfl, _, _, rfl, rfl, .inl ⟨by decide, by decide⟩, _, _, rfl, rfl, _, _, rfl, rfl, ?_⟩
          refine .inl ⟨_, rfl, _, _, rfl, rfl, (by show (0 : Int) < 4294967231; decide), ?_⟩
          have m3 := mod_lt (m := 4294967231) (by decide)
          refine ⟨_, rfl, _, rfl, _, _, rfl, rfl, _, _, rfl, rfl, .inl ⟨Int.lt_of_lt_of_le (by decide) (m3 _).1, Int.lt_trans (m3 _).2 (by decide)⟩, ?_⟩
          refine .inl ⟨_, rfl, _, _, rfl, rfl, (by show (0 : Int) < 4294967197; decide), _, _, rfl, rfl, ⟨by decide, by decide⟩, ?_⟩
          refine .inl ⟨_, rfl, _, rfl, _, _, rfl, rfl, (by omega), ?_⟩
          exact k _ _ (fmod_lo hm) (fmod_hi hm) ⟨⟨a + 1, r, x1, by omega, by omega, hr0⟩, c1⟩ s1
theorem scPick : FnScope ["_law_tape_here", "_law_options"] ["_law_tape_here", "_law_options"] (defScope sPick) := ⟨rfl, rfl, rfl, by decide +kernel, rfl, by decide +kernel, by decide +kernel⟩
theorem ok_pick {f fD : Addr} {fd fdD : FuncData} (F : Fun K "_law_pick" "_law_pick" sPick f fd) (T : Txt mg) (GD : FnOk P w K mg base CX0 1 fD fdD ["_law_tape_here", "_law_many"] spDraw) (TD : DefT K mg "_law_draw" fD) (bD : Binds K fdD ["_law_tape_here", "_law_many"] []) :
    FnOk P w K mg base CX0 2 f fd ["_law_tape_here", "_law_options"] (spPick K) := by
  refine F.ok scPick (fun vs H Q E h => ?_) (fun cdv A outer s H vs Q E hr h => ?_)
  · obtain ⟨p, c, ns, b, l, xs, rfl, _⟩ := h
    rfl
  · obtain ⟨p, c, ns, b, l, xs, rfl, Pn, hn, hb, hl, h0, h1, k⟩ := h
    refine ⟨_, (pss_one (ps_ret (pe_ix ix_list (pv 1) (pe_call GD (hr.mono (by decide)) rfl TD.mg TD.kp bD .nil pass0 (pa_cons (pv 0) (pa_cons (pe_callB call_len_seq (by rfl) T.len PySem.boot_len (pa_cons (pv 1) pa_nil)) pa_nil))) (fun _ _ => rfl)))), ?_⟩
    have big : ((xs.length : Nat) : Int) < 2 ^ 200 := Int.lt_of_le_of_lt (Int.ofNat_le.mpr h1) (by decide +kernel)
    refine ⟨_, rfl, _, rfl, _, rfl, l, xs, rfl, .inl (SqL.of hl), p, c, ns, b, _, rfl, Pn, hn, hb, by omega, big, fun r H' r0 r1 P' sx => ?_⟩
    have hp : l ≠ p := by
      obtain ⟨⟨a, r, hp, _⟩, _⟩ := Pn
      exact ne_of hl hp (by intro z; cases z)
    obtain ⟨v, hv, ha⟩ := at_mem r0 r1
    exact ⟨l, xs, r, v, rfl, rfl, SqL.of (sx l _ hp hl), ha, k v H' hv P' sx⟩
end
end K69

set_option Elab.async false
set_option linter.all false
set_option maxRecDepth 100000
set_option maxHeartbeats 4000000
namespace K69
open PySem L2 Pen
theorem sz {n : Nat} (h : n ≤ 99) : n ≤ sizeLine := Nat.le_trans h (by decide)
def great : Int := 10 ^ 100
def spNum : Sp := fun vs H Q _ => ∃ (p c : Addr) (ns : List Int) (b : Nat), vs = [.ref p] ∧ PenAt H p c ns b ∧ ns.length ≤ 63 ∧ b < 2 ^ 39 ∧
  ∀ (i : Int) (H' : Hp), 0 ≤ i → i ≤ great → PenAt H' p c ns (b + 10) → SameX p H H' → Q (.int i) H'
section
variable {P : Program} {w : World} {K : PySem.W.Frag} {mg : Str → Option Value} {base : Heap}
theorem scNum : FnScope ["_law_tape_here", "_law_great", "_law_some"] ["_law_tape_here"] (defScope sNum) := ⟨rfl, rfl, rfl, by decide +kernel, rfl, by decide +kernel, by decide +kernel⟩
theorem ok_num {f fD fP : Addr} {fd fdD fdP : FuncData} (F : Fun K "_law_number" "_law_number" sNum f fd) (GD : FnOk P w K mg base CX0 1 fD fdD ["_law_tape_here", "_law_many"] spDraw) (TD : DefT K mg "_law_draw" fD) (bD : Binds K fdD ["_law_tape_here", "_law_many"] [])
    (GP : FnOk P w K mg base CX0 2 fP fdP ["_law_tape_here", "_law_options"] (spPick K)) (TP : DefT K mg "_law_pick" fP) (bP : Binds K fdP ["_law_tape_here", "_law_options"] []) : FnOk P w K mg base CX0 3 f fd ["_law_tape_here"] spNum := by
  refine F.ok scNum (fun vs H Q E h => ?_) (fun cdv A outer s H vs Q E hr h => ?_)
  · obtain ⟨p, c, ns, b, rfl, _⟩ := h
    rfl
  · obtain ⟨p, c, ns, b, rfl, Pn, hn, hb, k⟩ := h
    refine ⟨_, (pss_cons (ps_set (i := 1) scNum.nd rfl (Or.inl rfl) (pe_op op_mulW (pe_op op_pow pe_int pe_int) (pe_op op_pow pe_int pe_int)))
      (pss_cons (ps_set (i := 2) scNum.nd rfl (Or.inl rfl) (Ab.pe_lstA (pa_cons (pe_call GD (hr.mono (by decide)) rfl TD.mg TD.kp bD .nil pass0 (pa_cons (pv 0) (pa_cons pe_int pa_nil))) (pa_cons (pe_call GD (hr.mono (by decide)) rfl TD.mg TD.kp bD .nil pass0 (pa_cons (pv 0) (pa_cons pe_int pa_nil))) (pa_cons (pe_op op_add (pe_op op_pow pe_int pe_int) (pe_call GD (hr.mono (by decide)) rfl TD.mg TD.kp bD .nil pass0 (pa_cons (pv 0) (pa_cons pe_int pa_nil)))) (pa_cons (pe_op op_sub (pv 1) (pe_call GD (hr.mono (by decide)) rfl TD.mg TD.kp bD .nil pass0 (pa_cons (pv 0) (pa_cons pe_int pa_nil)))) pa_nil))))))
      (pss_one (ps_ret (pe_call GP (hr.mono (by decide)) rfl TP.mg TP.kp bP .nil pass0 (pa_cons (pv 0) (pa_cons (pe_op Ab.op_catA (pv 2) (Ab.pe_lstA (pa_cons (pe_op op_add (pe_op op_mulW (pe_call GD (hr.mono (by decide)) rfl TD.mg TD.kp bD .nil pass0 (pa_cons (pv 0) (pa_cons (pe_op op_pow pe_int pe_int) pa_nil))) (pe_op op_pow pe_int pe_int)) (pe_call GD (hr.mono (by decide)) rfl TD.mg TD.kp bD .nil pass0 (pa_cons (pv 0) (pa_cons (pe_op op_pow pe_int pe_int) pa_nil)))) (pa_cons (pv 1) pa_nil)))) pa_nil))))))), ?_⟩
    have pw : ∀ n : Nat, n ≤ 100 → ((10 : Int) ^ n).natAbs < 2 ^ 400 := fun n hn => by
      rw [Int.natAbs_pow]
      exact Nat.lt_of_le_of_lt (Nat.pow_le_pow_right (by decide) hn) (by decide +kernel)
    have nn : ∀ l : Addr, ∀ {G : Hp} {m : Nat}, PenAt G p c ns m → G l = none → l ≠ p := fun l G m Pg e => by
      obtain ⟨⟨_, _, q, _⟩, _⟩ := Pg
      exact (ne_of_none q e).symm
    refine ⟨_, _, rfl, rfl, ⟨by decide, by decide, by decide⟩, _, _, rfl, rfl, ⟨by decide, by decide, by decide⟩, _, _, rfl, rfl, wide_mul (pw 50 (by decide)) (pw 50 (by decide)) (by decide) (by decide) (by decide), ?_⟩
    have k2 : ∀ m : Nat, m < 100 → b + m < 2 ^ 40 := fun m hm => by omega
    refine ⟨_, rfl, p, c, ns, b, 4, rfl, Pn, hn, k2 0 (by decide), by decide, by decide +kernel, fun r1 H1 a1 b1 P1 s1 => ?_⟩
    refine ⟨_, rfl, p, c, ns, b + 1, 100, rfl, P1, hn, k2 1 (by decide), by decide, by decide +kernel, fun r2 H2 a2 b2 P2 s2 => ?_⟩
    refine ⟨_, _, rfl, rfl, ⟨by decide, by decide, by decide⟩, _, rfl, p, c, ns, b + 2, 100, rfl, P2, hn, k2 2 (by decide), by decide, by decide +kernel, fun r3 H3 a3 b3 P3 s3 => ⟨_, _, rfl, rfl, ?_⟩⟩
    refine ⟨_, rfl, _, rfl, p, c, ns, b + 3, 100, rfl, P3, hn, k2 3 (by decide), by decide, by decide +kernel, fun r4 H4 a4 b4 P4 s4 => ⟨_, _, rfl, rfl, ?_⟩⟩
    refine ⟨sz (by simp), fun l H5 nl _ s5 e5 => ?_⟩
    have lp : l ≠ p := nn l P4 nl
    refine ⟨_, rfl, _, rfl, _, rfl, _, _, rfl, rfl, ⟨by decide, by decide, by decide⟩, p, c, ns, b + 4, _, rfl, P4.same s5, hn, k2 4 (by decide), by decide +kernel, by decide +kernel, fun r6 H6 a6 b6 P6 s6 => ?_⟩
    refine ⟨_, _, rfl, rfl, ⟨by decide, by decide, by decide⟩, _, _, rfl, rfl, wide_mul (wide_le (j := 10 ^ 60) a6 (Int.le_of_lt b6) (pw 60 (by decide))) (pw 40 (by decide)) (by decide) (by decide) (by decide), ?_⟩
    refine ⟨_, rfl, _, _, rfl, rfl, ⟨by decide, by decide, by decide⟩, p, c, ns, b + 5, _, rfl, P6, hn, k2 5 (by decide), by decide +kernel, by decide +kernel, fun r7 H7 a7 b7 P7 s7 => ⟨_, _, rfl, rfl, _, rfl, ?_⟩⟩
    refine ⟨sz (by simp), fun l2 H8 nl2 _ s8 e8 => ?_⟩
    have el : H8 l = some _ := s8 _ _ (s7 _ _ lp (s6 _ _ lp e5))
    refine ⟨l, l2, _, _, rfl, rfl, el, e8, sz (by simp), fun l3 H9 nl3 s9 e9 => ?_⟩
    refine ⟨p, c, ns, b + 6, l3, _, rfl, (P7.same s8).same s9, hn, k2 6 (by decide), e9, by simp, by simp, fun v H10 hv P10 s10 => ?_⟩
    have fine : ∀ i : Int, 0 ≤ i → i ≤ great → Q (.int i) H10 := fun i i0 i1 => k i H10 i0 i1 (P10.mono (by omega))
      (s1.trans (s2.trans (s3.trans (s4.trans ((Same.X s5).trans (s6.trans (s7.trans ((Same.X s8).trans ((Same.X s9).trans s10)))))))))
    have e40 : (10 : Int) ^ Int.toNat 40 = 10 ^ 40 := rfl
    have e50 : (10 : Int) ^ Int.toNat 50 * 10 ^ Int.toNat 50 = great := by decide +kernel
    have e60 : (10 : Int) ^ Int.toNat 60 = 10 ^ 60 := rfl
    simp only [List.cons_append, List.nil_append, List.mem_cons, List.not_mem_nil, or_false] at hv
    rcases hv with e | e | e | e | e | e <;> subst e
    · exact fine _ a1 (Int.le_trans (Int.le_of_lt b1) (by decide +kernel))
    · exact fine _ a2 (Int.le_trans (Int.le_of_lt b2) (by decide +kernel))
    · exact fine _ (Int.add_nonneg (by decide +kernel) a3) (Int.le_trans (Int.add_le_add_left (Int.le_of_lt b3) _) (by decide +kernel))
    · refine fine _ ?_ ?_
      · exact Int.sub_nonneg_of_le (Int.le_trans (Int.le_of_lt b4) (by decide +kernel))
      · refine Int.le_trans (Int.sub_le_self _ a4) (by decide +kernel)
    · refine fine _ (Int.add_nonneg (Int.mul_nonneg a6 (by decide +kernel)) a7) ?_
      have h1 : r6 ≤ 10 ^ 60 - 1 := Int.le_sub_one_of_lt b6
      refine Int.le_trans (Int.add_le_add (Int.mul_le_mul_of_nonneg_right h1 (by decide +kernel)) (Int.le_of_lt b7)) (by decide +kernel)
    · exact fine _ (by decide +kernel) (by decide +kernel)
end
end K69

set_option Elab.async false
set_option linter.all false
set_option maxRecDepth 100000
set_option maxHeartbeats 4000000
namespace K69
open PySem L2 Pen
def mx (i j : Int) : Int := if j > i then j else i
def mn (i j : Int) : Int := if j < i then j else i
def one (b : Bool) : Int := if b = true then 1 else 0
/-- a row of three, by the keeping -/
def sel {α : Type} (k : Str) (x y z : α) : α := if k = "inbox" then x else if k = "late" then y else z
structure IsRoad (p k a m : Str) : Prop where
  p : p = "outbox" ∨ p = "after" ∨ p = "before"
  k : k = "inbox" ∨ k = "late" ∨ k = "plain"
  a : a = "behind" ∨ a = "ahead"
  m : m = "behind" ∨ m = "ahead"
def comT (k a : Str) (n f : Int) : Int × Int := if a = "behind" then sel k (1, 1) (1, 1 + f) (n, n + f) else sel k (one (decide (f < n)), 1) (one (decide (f < n)), mn n (1 + f)) (mx 0 (n - f), n)
/-- a new tuple of two ints -/
def Two (K : PySem.W.Frag) (H : Hp) (v : V) (z : Int × Int) : Prop := ∃ t, v = .ref t ∧ SqT K H t [.int z.1, .int z.2]
abbrev kI : Key := Sum.inr ("inbox" : Str)
abbrev kL : Key := Sum.inr ("late" : Str)
abbrev kP : Key := Sum.inr ("plain" : Str)
theorem merge3 (x y z : V) : mergeK [] [(kI, x), (kL, y), (kP, z)] = [(kI, x), (kL, y), (kP, z)] := by
  have nIL : ¬ (kI = kL) := by decide +kernel
  have nIP : ¬ (kI = kP) := by decide +kernel
  have nLP : ¬ (kL = kP) := by decide +kernel
  have e1 : putK [] kI x = [(kI, x)] := putK_new _ rfl
  have e2 : putK [(kI, x)] kL y = [(kI, x), (kL, y)] := putK_new _ (valV_neg nIL)
  have e3 : putK [(kI, x), (kL, y)] kP z = [(kI, x), (kL, y), (kP, z)] := putK_new _ ((valV_neg nIP).trans (valV_neg nLP))
  show putK (putK (putK [] kI x) kL y) kP z = _
  rw [e1, e2, e3]
theorem get3 {H : Hp} {p : Addr} {x y z : V} {k : Str} (h : H p = some (.dK [(kI, x), (kL, y), (kP, z)])) (hk : k = "inbox" ∨ k = "late" ∨ k = "plain") : DGet H p (.str k) (some (sel k x y z)) := by
  have nLI : ¬ (("late" : Str) = "inbox") := by decide +kernel
  have nPI : ¬ (("plain" : Str) = "inbox") := by decide +kernel
  have nPL : ¬ (("plain" : Str) = "late") := by decide +kernel
  have nIL : ¬ (kI = kL) := by decide +kernel
  have nIP : ¬ (kI = kP) := by decide +kernel
  have nLP : ¬ (kL = kP) := by decide +kernel
  rcases hk with e | e | e <;> subst e
  · have q := DGet.k (k := kI) h
    rw [valV_pos rfl] at q
    exact q
  · have q := DGet.k (k := kL) h
    rw [valV_neg nIL, valV_pos rfl] at q
    unfold sel
    rw [if_neg nLI, if_pos rfl]
    exact q
  · have q := DGet.k (k := kP) h
    rw [valV_neg nIP, valV_neg nLP, valV_pos rfl] at q
    unfold sel
    rw [if_neg nPI, if_neg nPL]
    exact q
/-- road: the tuple of the four words at r -/
def Road (K : PySem.W.Frag) (H : Hp) (r : Addr) (p k a m : Str) : Prop := SqT K H r [.str p, .str k, .str a, .str m] ∧ IsRoad p k a m
def spCom (K : PySem.W.Frag) : Sp := fun vs H Q _ => ∃ (r : Addr) (p k a m : Str) (n f : Int), vs = [.ref r, .int n, .int f] ∧ Road K H r p k a m ∧ ∀ v H', Same H H' → Two K H' v (comT k a n f) → Q v H'
theorem sel_two {K : PySem.W.Frag} {H : Hp} {k : Str} {t1 t2 t3 : Addr} {x1 x2 x3 : Int × Int} (h1 : SqT K H t1 [.int x1.1, .int x1.2]) (h2 : SqT K H t2 [.int x2.1, .int x2.2]) (h3 : SqT K H t3 [.int x3.1, .int x3.2]) : Two K H (sel k (.ref t1) (.ref t2) (.ref t3)) (sel k x1 x2 x3) := by
  unfold sel
  split
  · exact ⟨_, rfl, h1⟩
  · split
    · exact ⟨_, rfl, h2⟩
    · exact ⟨_, rfl, h3⟩
theorem same_put {H : Hp} {p : Addr} {o : HO} (h : H p = none) {G : Hp} {o2 : HO} (s : Same (upd H p o) G) : Same H (upd G p o2) := fun b u e => by
  have n : b ≠ p := ne_of_none e h
  rw [upd_ne n]
  exact s b u (by rw [upd_ne n]; exact e)
theorem tup_put {K : PySem.W.Frag} {G : Hp} {p t : Addr} {xs : List V} {o o2 : HO} (hp : G p = some o) (no : ∀ ys, o ≠ .tup ys) (h : G t = some (.tup xs)) : SqT K (upd G p o2) t xs := by
  have n : t ≠ p := fun e => by
    rw [e, hp] at h
    exact no _ (Option.some.inj h)
  exact .of (by rw [upd_ne n]; exact h)
theorem fin3 {K : PySem.W.Frag} {H G1 G2 G3 : Hp} {d t1 t2 t3 : Addr} {x1 x2 x3 : List V} (o : HO) (hd : H d = none) (s1 : Same (upd H d (.dK [])) G1) (e1 : G1 t1 = some (.tup x1)) (s2 : Same G1 G2) (e2 : G2 t2 = some (.tup x2)) (s3 : Same G2 G3) (e3 : G3 t3 = some (.tup x3)) :
    G3 d = some (.dK []) ∧ Same H (upd G3 d o) ∧ SqT K (upd G3 d o) t1 x1 ∧ SqT K (upd G3 d o) t2 x2 ∧ SqT K (upd G3 d o) t3 x3 := by
  have z : G3 d = some (.dK []) := s3 _ _ (s2 _ _ (s1 _ _ upd_same))
  exact ⟨z, same_put hd (s1.trans (s2.trans s3)), tup_put z (fun _ => by intro y; cases y) (s3 _ _ (s2 _ _ e1)), tup_put z (fun _ => by intro y; cases y) (s3 _ _ e2), tup_put z (fun _ => by intro y; cases y) e3⟩
section
variable {P : Program} {w : World} {K : PySem.W.Frag} {mg : Str → Option Value} {base : Heap}
theorem scCom : FnScope ["_law_road", "_law_many", "_law_falls", "_law_least", "_law_short"] ["_law_road", "_law_many", "_law_falls"] (defScope sCom) := ⟨rfl, rfl, rfl, by decide +kernel, rfl, by decide +kernel, by decide +kernel⟩
theorem ok_com {f : Addr} {fd : FuncData} (F : Fun K "_law_commits" "_law_commits" sCom f fd) (T : Txt mg) : FnOk P w K mg base CX0 1 f fd ["_law_road", "_law_many", "_law_falls"] (spCom K) := by
  refine F.ok scCom (fun vs H Q E h => ?_) (fun cdv A outer s H vs Q E hr h => ?_)
  · obtain ⟨r, p, k, a, m, n, f, rfl, _⟩ := h
    rfl
  · obtain ⟨r, p, k, a, m, n, f, rfl, ⟨hR, iR⟩, kQ⟩ := h
    have hu := hu_of hr
    refine ⟨_, (pss_cons (ps_par (i := 3) (j := 4) (by rfl) scCom.nd rfl rfl (by decide) rfl rfl (pa_cons (pe_callTy call_int1 (by rfl) T.int PyProof.Rows.boot_int (pa_cons (pe_cmpR op_lt (pv 2) (pv 1) (nomark _)) pa_nil)) (pa_cons (pe_callB (call_min2 rfl) (by rfl) T.min (by decide +kernel) (pa_cons (pv 1) (pa_cons (pe_op op_add pe_int (pv 2)) pa_nil))) pa_nil)) (by rfl))
      (pss_cons (ps_if (pt_cmpR op_eq (pe_ix ix_tup (pv 0) pe_int (fun _ _ => rfl)) pe_str (nomark _)) (pss_one (ps_ret (pe_dget hu (pe_disp (pps_cons pe_str (Ab.pe_tupA (pa_cons pe_int (pa_cons pe_int pa_nil))) (pps_cons pe_str (Ab.pe_tupA (pa_cons pe_int (pa_cons (pe_op op_add pe_int (pv 2)) pa_nil))) (pps_cons pe_str (Ab.pe_tupA (pa_cons (pv 1) (pa_cons (pe_op op_add (pv 1) (pv 2)) pa_nil))) pps_nil))) (by decide +kernel) rfl (by simp) (by decide)) (pe_ix ix_tup (pv 0) pe_int (fun _ _ => rfl)) (fun _ _ => rfl)))) pss_nil)
      (pss_one (ps_ret (pe_dget hu (pe_disp (pps_cons pe_str (Ab.pe_tupA (pa_cons (pv 3) (pa_cons pe_int pa_nil))) (pps_cons pe_str (Ab.pe_tupA (pa_cons (pv 3) (pa_cons (pv 4) pa_nil))) (pps_cons pe_str (Ab.pe_tupA (pa_cons (pe_callB (call_max2 rfl) (by rfl) T.max (by decide +kernel) (pa_cons pe_int (pa_cons (pe_op op_sub (pv 1) (pv 2)) pa_nil))) (pa_cons (pv 1) pa_nil))) pps_nil))) (by decide +kernel) rfl (by simp) (by decide)) (pe_ix ix_tup (pv 0) pe_int (fun _ _ => rfl)) (fun _ _ => rfl)))))), ?_⟩
    refine ⟨_, rfl, _, rfl, _, _, rfl, rfl, .inr ⟨_, rfl, _, rfl, _, rfl, _, _, rfl, rfl, _, _, rfl, _, _, rfl, ?_⟩⟩
    refine ⟨_, rfl, r, _, 2, _, rfl, rfl, hR, rfl, rfl, _, rfl, ite2 (fun h1 => ?yes) (fun h1 => ?no)⟩
    case yes =>
      have ea : a = "behind" := V.str.inj (of_decide_eq_true h1)
      intro d hd
      refine ⟨sz (by simp), fun t1 G1 n1 s1 e1 => ⟨_, rfl, _, _, rfl, rfl, sz (by simp), fun t2 G2 n2 s2 e2 => ⟨_, rfl, _, rfl, _, rfl, _, _, rfl, rfl, sz (by simp), fun t3 G3 n3 s3 e3 => ?_⟩⟩⟩
      obtain ⟨z, sm, q1, q2, q3⟩ := fin3 (K := K) (.dK [(kI, .ref t1), (kL, .ref t2), (kP, .ref t3)]) hd s1 e1 s2 e2 s3 e3
      refine ⟨z, [(kI, .ref t1), (kL, .ref t2), (kP, .ref t3)], rfl, (by simp), ?_⟩
      rw [merge3]
      refine ⟨_, rfl, r, _, 1, _, rfl, rfl, (Dat.sqT_same sm hR), rfl, d, _, rfl, get3 upd_same iR.k, kQ _ _ sm ?_⟩
      unfold comT
      rw [if_pos ea]
      exact sel_two q1 q2 q3
    case no =>
      have ea : ¬ a = "behind" := fun e => h1 (decide_eq_true (congrArg V.str e))
      intro d hd
      refine ⟨_, rfl, sz (by simp), fun t1 G1 n1 s1 e1 => ⟨_, rfl, _, rfl, sz (by simp), fun t2 G2 n2 s2 e2 => ⟨_, rfl, _, rfl, _, _, rfl, rfl, _, _, rfl, _, rfl, sz (by simp), fun t3 G3 n3 s3 e3 => ?_⟩⟩⟩
      obtain ⟨z, sm, q1, q2, q3⟩ := fin3 (K := K) (.dK [(kI, .ref t1), (kL, .ref t2), (kP, .ref t3)]) hd s1 e1 s2 e2 s3 e3
      refine ⟨z, [(kI, .ref t1), (kL, .ref t2), (kP, .ref t3)], rfl, (by simp), ?_⟩
      rw [merge3]
      refine ⟨_, rfl, r, _, 1, _, rfl, rfl, (Dat.sqT_same sm hR), rfl, d, _, rfl, get3 upd_same iR.k, kQ _ _ sm ?_⟩
      unfold comT
      rw [if_neg ea]
      exact sel_two q1 q2 q3
end
end K69

set_option Elab.async false
set_option linter.all false
set_option maxRecDepth 100000
set_option maxHeartbeats 4000000
namespace K69
open PySem L2 Pen
theorem fin {K : PySem.W.Frag} {H G : Hp} {d : Addr} (o : HO) (hd : H d = none) (s : Same (upd H d (.dK [])) G) : G d = some (.dK []) ∧ Same H (upd G d o) ∧ ∀ t xs, G t = some (.tup xs) → SqT K (upd G d o) t xs := by
  have z : G d = some (.dK []) := s _ _ upd_same
  exact ⟨z, same_put hd s, fun t xs h => tup_put z (fun _ => by intro y; cases y) h⟩
theorem yes {x y : Str} (h : decide (V.str x = V.str y) = true) : x = y := V.str.inj (of_decide_eq_true h)
theorem no {x y : Str} (h : ¬ decide (V.str x = V.str y) = true) : ¬ x = y := fun e => h (decide_eq_true (congrArg V.str e))
def pbT (p k m : Str) (n f l : Int) : Int × Int :=
  if p = "outbox" ∧ m = "behind" then sel k (1, 1 + (f + l)) (1, 1 + f + (f + l)) (n, n + f + (f + l))
  else if p = "outbox" then sel k (mx 0 (1 - f), 1 + l) (mx 0 (1 - f), 1 + (f + l)) (mx 0 (n - f), n + (f + l))
  else sel k (if p = "after" then (mx 0 (1 - f), 1 + l) else (1, 1 + (f + l))) (1, 1 + (f + l)) (n, n + (f + l))
def spPosts (K : PySem.W.Frag) (tab : Str → Str → Str → Int → Int → Int → Int × Int) : Sp := fun vs H Q _ => ∃ (r : Addr) (p k a m : Str) (n f l : Int), vs = [.ref r, .int n, .int f, .int l] ∧ Road K H r p k a m ∧ ∀ v H', Same H H' → Two K H' v (tab p k m n f l) → Q v H'
section
variable {P : Program} {w : World} {K : PySem.W.Frag} {mg : Str → Option Value} {base : Heap}
theorem scPB : FnScope ["_law_road", "_law_many", "_law_falls", "_law_lost", "_law_once", "_law_more", "_law_first"] ["_law_road", "_law_many", "_law_falls", "_law_lost"] (defScope sPB) := ⟨rfl, rfl, rfl, by decide +kernel, rfl, by decide +kernel, by decide +kernel⟩
theorem ok_pb {f : Addr} {fd : FuncData} (F : Fun K "_law_posts_behind" "_law_posts_behind" sPB f fd) (T : Txt mg) : FnOk P w K mg base CX0 1 f fd ["_law_road", "_law_many", "_law_falls", "_law_lost"] (spPosts K pbT) := by
  refine F.ok scPB (fun vs H Q E h => ?_) (fun cdv A outer s H vs Q E hr h => ?_)
  · obtain ⟨r, p, k, a, m, n, f, l, rfl, _⟩ := h
    rfl
  · obtain ⟨r, p, k, a, m, n, f, l, rfl, ⟨hR, iR⟩, kQ⟩ := h
    have hu := hu_of hr
    refine ⟨_, (pss_cons (ps_par (i := 4) (j := 5) (by rfl) scPB.nd rfl rfl (by decide) rfl rfl (pa_cons (Ab.pe_tupA (pa_cons (pe_callB (call_max2 rfl) (by rfl) T.max (by decide +kernel) (pa_cons pe_int (pa_cons (pe_op op_sub pe_int (pv 2)) pa_nil))) (pa_cons (pe_op op_add pe_int (pv 3)) pa_nil))) (pa_cons (pe_op op_add (pv 2) (pv 3)) pa_nil)) (by rfl))
      (pss_cons (ps_if (PW.pt (pw_and (pt_cmpR op_eq (pe_ix ix_tup (pv 0) pe_int (fun _ _ => rfl)) pe_str (nomark _)) (pw_and1 (pt_cmpR op_eq (pe_ix ix_tup (pv 0) pe_int (fun _ _ => rfl)) pe_str (nomark _))))) (pss_one (ps_ret (pe_dget hu (pe_disp (pps_cons pe_str (Ab.pe_tupA (pa_cons pe_int (pa_cons (pe_op op_add pe_int (pv 5)) pa_nil))) (pps_cons pe_str (Ab.pe_tupA (pa_cons pe_int (pa_cons (pe_op op_add (pe_op op_add pe_int (pv 2)) (pv 5)) pa_nil))) (pps_cons pe_str (Ab.pe_tupA (pa_cons (pv 1) (pa_cons (pe_op op_add (pe_op op_add (pv 1) (pv 2)) (pv 5)) pa_nil))) pps_nil))) (by decide +kernel) rfl (by simp) (by decide)) (pe_ix ix_tup (pv 0) pe_int (fun _ _ => rfl)) (fun _ _ => rfl)))) pss_nil)
      (pss_cons (ps_if (pt_cmpR op_eq (pe_ix ix_tup (pv 0) pe_int (fun _ _ => rfl)) pe_str (nomark _)) (pss_one (ps_ret (pe_dget hu (pe_disp (pps_cons pe_str (pv 4) (pps_cons pe_str (Ab.pe_tupA (pa_cons (pe_ix ix_tup (pv 4) pe_int (fun _ _ => rfl)) (pa_cons (pe_op op_add pe_int (pv 5)) pa_nil))) (pps_cons pe_str (Ab.pe_tupA (pa_cons (pe_callB (call_max2 rfl) (by rfl) T.max (by decide +kernel) (pa_cons pe_int (pa_cons (pe_op op_sub (pv 1) (pv 2)) pa_nil))) (pa_cons (pe_op op_add (pv 1) (pv 5)) pa_nil))) pps_nil))) (by decide +kernel) rfl (by simp) (by decide)) (pe_ix ix_tup (pv 0) pe_int (fun _ _ => rfl)) (fun _ _ => rfl)))) pss_nil)
      (pss_cons (ps_set (i := 6) scPB.nd rfl (Or.inl rfl) (pe_ifExp (pt_cmpR op_eq (pe_ix ix_tup (pv 0) pe_int (fun _ _ => rfl)) pe_str (nomark _)) (pv 4) (Ab.pe_tupA (pa_cons pe_int (pa_cons (pe_op op_add pe_int (pv 5)) pa_nil)))))
      (pss_one (ps_ret (pe_dget hu (pe_disp (pps_cons pe_str (pv 6) (pps_cons pe_str (Ab.pe_tupA (pa_cons pe_int (pa_cons (pe_op op_add pe_int (pv 5)) pa_nil))) (pps_cons pe_str (Ab.pe_tupA (pa_cons (pv 1) (pa_cons (pe_op op_add (pv 1) (pv 5)) pa_nil))) pps_nil))) (by decide +kernel) rfl (by simp) (by decide)) (pe_ix ix_tup (pv 0) pe_int (fun _ _ => rfl)) (fun _ _ => rfl)))))))), ?_⟩
    refine ⟨_, rfl, _, _, rfl, rfl, _, _, rfl, _, rfl, _, _, rfl, rfl, sz (by simp), fun tO G0 n0 s0 e0 => ⟨_, rfl, _, rfl, _, _, rfl, rfl, _, _, rfl, ?_⟩⟩
    have hR0 : SqT K G0 r _ := Dat.sqT_same s0 hR
    refine ⟨_, rfl, r, _, 0, _, rfl, rfl, hR0, rfl, rfl, _, rfl, ite2 (fun h1 => ⟨_, rfl, r, _, 3, _, rfl, rfl, hR0, rfl, rfl, _, rfl, ite2 (fun h2 => ?A) (fun h2 => ?B)⟩) (fun h1 => iteF ?C)⟩
    case A =>
      intro d hd
      refine ⟨_, rfl, _, _, rfl, rfl, sz (by simp), fun t1 G1 n1 s1 e1 => ?_⟩
      refine ⟨_, rfl, _, _, rfl, rfl, _, rfl, _, _, rfl, rfl, sz (by simp), fun t2 G2 n2 s2 e2 => ?_⟩
      refine ⟨_, rfl, _, rfl, _, rfl, _, _, rfl, rfl, _, rfl, _, _, rfl, rfl, sz (by simp), fun t3 G3 n3 s3 e3 => ?_⟩
      obtain ⟨z, sm, q⟩ := fin (K := K) (.dK [(kI, .ref t1), (kL, .ref t2), (kP, .ref t3)]) hd (Same.trans (Same.trans s1 s2) s3)
      refine ⟨z, [(kI, .ref t1), (kL, .ref t2), (kP, .ref t3)], rfl, (by simp), ?_⟩
      rw [merge3]
      refine ⟨_, rfl, r, _, 1, _, rfl, rfl, Dat.sqT_same (Same.trans s0 sm) hR, rfl, d, _, rfl, get3 upd_same iR.k, kQ _ _ (Same.trans s0 sm) ?_⟩
      unfold pbT
      rw [if_pos ⟨yes h1, yes h2⟩]
      exact sel_two (q _ _ (s3 _ _ (s2 _ _ e1))) (q _ _ (s3 _ _ e2)) (q _ _ e3)
    case B =>
      refine ⟨_, rfl, r, _, 0, _, rfl, rfl, hR0, rfl, rfl, _, rfl, ite2 (fun h3 => ?_) (fun h3 => absurd h1 h3)⟩
      intro d hd
      refine ⟨_, rfl, ?_⟩
      refine ⟨_, rfl, tO, _, 0, _, rfl, rfl, .of (same_new hd _ _ e0), rfl, _, rfl, _, _, rfl, rfl, sz (by simp), fun t2 G2 n2 s2 e2 => ?_⟩
      refine ⟨_, rfl, _, rfl, _, _, rfl, rfl, _, _, rfl, _, rfl, _, rfl, _, _, rfl, rfl, sz (by simp), fun t3 G3 n3 s3 e3 => ?_⟩
      obtain ⟨z, sm, q⟩ := fin (K := K) (.dK [(kI, .ref tO), (kL, .ref t2), (kP, .ref t3)]) hd (Same.trans s2 s3)
      refine ⟨z, [(kI, .ref tO), (kL, .ref t2), (kP, .ref t3)], rfl, (by simp), ?_⟩
      rw [merge3]
      refine ⟨_, rfl, r, _, 1, _, rfl, rfl, Dat.sqT_same (Same.trans s0 sm) hR, rfl, d, _, rfl, get3 upd_same iR.k, kQ _ _ (Same.trans s0 sm) ?_⟩
      unfold pbT
      rw [if_neg (fun z => no h2 z.2), if_pos (yes h1)]
      exact sel_two (q _ _ (s3 _ _ (s2 _ _ (same_new hd _ _ e0)))) (q _ _ (s3 _ _ e2)) (q _ _ e3)
    case C =>
      refine ⟨_, rfl, r, _, 0, _, rfl, rfl, hR0, rfl, rfl, _, rfl, ite2 (fun h3 => absurd h3 h1) (fun _ => ?_)⟩
      refine ⟨_, rfl, r, _, 0, _, rfl, rfl, hR0, rfl, rfl, _, rfl, ite2 (fun h4 => ⟨_, rfl, ?D⟩) (fun h4 => ⟨_, rfl, _, _, rfl, rfl, sz (by simp), fun tF GF nF sF eF => ?E⟩)⟩
      case D =>
        intro d hd
        refine ⟨_, rfl, ?_⟩
        refine ⟨_, rfl, _, _, rfl, rfl, sz (by simp), fun t2 G2 n2 s2 e2 => ?_⟩
        refine ⟨_, rfl, _, rfl, _, rfl, _, _, rfl, rfl, sz (by simp), fun t3 G3 n3 s3 e3 => ?_⟩
        obtain ⟨z, sm, q⟩ := fin (K := K) (.dK [(kI, .ref tO), (kL, .ref t2), (kP, .ref t3)]) hd (Same.trans s2 s3)
        refine ⟨z, [(kI, .ref tO), (kL, .ref t2), (kP, .ref t3)], rfl, (by simp), ?_⟩
        rw [merge3]
        refine ⟨_, rfl, r, _, 1, _, rfl, rfl, Dat.sqT_same (Same.trans s0 sm) hR, rfl, d, _, rfl, get3 upd_same iR.k, kQ _ _ (Same.trans s0 sm) ?_⟩
        unfold pbT
        rw [if_neg (fun z => no h1 z.1), if_neg (no h1), if_pos (yes h4)]
        exact sel_two (q _ _ (s3 _ _ (s2 _ _ (same_new hd _ _ e0)))) (q _ _ (s3 _ _ e2)) (q _ _ e3)
      case E =>
        intro d hd
        refine ⟨_, rfl, ?_⟩
        refine ⟨_, rfl, _, _, rfl, rfl, sz (by simp), fun t2 G2 n2 s2 e2 => ?_⟩
        refine ⟨_, rfl, _, rfl, _, rfl, _, _, rfl, rfl, sz (by simp), fun t3 G3 n3 s3 e3 => ?_⟩
        obtain ⟨z, sm, q⟩ := fin (K := K) (.dK [(kI, .ref tF), (kL, .ref t2), (kP, .ref t3)]) hd (Same.trans s2 s3)
        refine ⟨z, [(kI, .ref tF), (kL, .ref t2), (kP, .ref t3)], rfl, (by simp), ?_⟩
        rw [merge3]
        refine ⟨_, rfl, r, _, 1, _, rfl, rfl, Dat.sqT_same (Same.trans (Same.trans s0 sF) sm) hR, rfl, d, _, rfl, get3 upd_same iR.k, kQ _ _ (Same.trans (Same.trans s0 sF) sm) ?_⟩
        unfold pbT
        rw [if_neg (fun z => no h1 z.1), if_neg (no h1), if_neg (no h4)]
        exact sel_two (q _ _ (s3 _ _ (s2 _ _ (same_new hd _ _ eF)))) (q _ _ (s3 _ _ e2)) (q _ _ e3)
end
end K69

set_option Elab.async false
set_option linter.all false
set_option maxRecDepth 100000
set_option maxHeartbeats 4000000
namespace K69
open PySem L2 Pen
def paT (p k m : Str) (n f l : Int) : Int × Int :=
  if p = "outbox" ∧ m = "behind" then sel k (one (decide (f < n)), 1 + f + l) (one (decide (f < n)), mn n (1 + f) + l + f) (mx 0 (n - f), n + f + l)
  else if p = "outbox" then sel k (mx 0 (1 - f), 1 + l) (mx 0 (1 - f), mn n (1 + f) + l) (mx 0 (mx 0 (n - f) - f), n + l)
  else sel k (if p = "after" then (mx 0 (1 - f), 1 + l) else (one (decide (f < n)), mn n (1 + f) + l)) (one (decide (f < n)), mn n (1 + f) + l) (mx 0 (n - f), n + l)
theorem merge2 (x y : V) : mergeK [] [(kI, x), (kL, y)] = [(kI, x), (kL, y)] := by
  have nIL : ¬ (kI = kL) := by decide +kernel
  have e1 : putK [] kI x = [(kI, x)] := putK_new _ rfl
  have e2 : putK [(kI, x)] kL y = [(kI, x), (kL, y)] := putK_new _ (valV_neg nIL)
  show putK (putK [] kI x) kL y = _
  rw [e1, e2]
section
variable {P : Program} {w : World} {K : PySem.W.Frag} {mg : Str → Option Value} {base : Heap}
theorem scPA : FnScope ["_law_road", "_law_many", "_law_falls", "_law_lost", "_law_least", "_law_short", "_law_fewer", "_law_once", "_law_rows", "_law_first"] ["_law_road", "_law_many", "_law_falls", "_law_lost"] (defScope sPA) := ⟨rfl, rfl, rfl, by decide +kernel, rfl, by decide +kernel, by decide +kernel⟩
theorem ok_pa {f : Addr} {fd : FuncData} (F : Fun K "_law_posts_ahead" "_law_posts_ahead" sPA f fd) (T : Txt mg) : FnOk P w K mg base CX0 1 f fd ["_law_road", "_law_many", "_law_falls", "_law_lost"] (spPosts K paT) := by
  refine F.ok scPA (fun vs H Q E h => ?_) (fun cdv A outer s H vs Q E hr h => ?_)
  · obtain ⟨r, p, k, a, m, n, f, l, rfl, _⟩ := h
    rfl
  · obtain ⟨r, p, k, a, m, n, f, l, rfl, ⟨hR, iR⟩, kQ⟩ := h
    have hu := hu_of hr
    refine ⟨_, (pss_cons (ps_par3 (i := 4) (j := 5) (l := 6) (by rfl) scPA.nd rfl rfl rfl (by decide) (by decide) (by decide) rfl rfl rfl (pa_cons (pe_callTy call_int1 (by rfl) T.int PyProof.Rows.boot_int (pa_cons (pe_cmpR op_lt (pv 2) (pv 1) (nomark _)) pa_nil)) (pa_cons (pe_op op_add (pe_callB (call_min2 rfl) (by rfl) T.min (by decide +kernel) (pa_cons (pv 1) (pa_cons (pe_op op_add pe_int (pv 2)) pa_nil))) (pv 3)) (pa_cons (pe_callB (call_max2 rfl) (by rfl) T.max (by decide +kernel) (pa_cons pe_int (pa_cons (pe_op op_sub (pv 1) (pv 2)) pa_nil))) pa_nil))) (by rfl))
      (pss_cons (ps_set (i := 7) scPA.nd rfl (Or.inl rfl) (Ab.pe_tupA (pa_cons (pe_callB (call_max2 rfl) (by rfl) T.max (by decide +kernel) (pa_cons pe_int (pa_cons (pe_op op_sub pe_int (pv 2)) pa_nil))) (pa_cons (pe_op op_add pe_int (pv 3)) pa_nil))))
      (pss_cons (ps_if (PW.pt (pw_and (pt_cmpR op_eq (pe_ix ix_tup (pv 0) pe_int (fun _ _ => rfl)) pe_str (nomark _)) (pw_and1 (pt_cmpR op_eq (pe_ix ix_tup (pv 0) pe_int (fun _ _ => rfl)) pe_str (nomark _))))) (pss_cons (ps_set (i := 8) scPA.nd rfl (Or.inl rfl) (pe_disp (pps_cons pe_str (Ab.pe_tupA (pa_cons (pv 4) (pa_cons (pe_op op_add (pe_op op_add pe_int (pv 2)) (pv 3)) pa_nil))) (pps_cons pe_str (Ab.pe_tupA (pa_cons (pv 4) (pa_cons (pe_op op_add (pv 5) (pv 2)) pa_nil))) pps_nil)) (by decide +kernel) rfl (by simp) (by decide)))
      (pss_one (ps_ret (pe_dget hu (pe_callTy (call_dictP (by rfl)) (by rfl) T.dict (by decide +kernel) (pa_cons (pe_op Ab.op_catA (LiI.pe_listItems (by rfl) (pv 8) (by rfl) T.list PyProof.Rows.boot_list) (Ab.pe_lstA (pa_cons (Ab.pe_tupA (pa_cons pe_str (pa_cons (Ab.pe_tupA (pa_cons (pv 6) (pa_cons (pe_op op_add (pe_op op_add (pv 1) (pv 2)) (pv 3)) pa_nil))) pa_nil))) pa_nil))) pa_nil)) (pe_ix ix_tup (pv 0) pe_int (fun _ _ => rfl)) (fun _ _ => rfl))))) pss_nil)
      (pss_cons (ps_if (pt_cmpR op_eq (pe_ix ix_tup (pv 0) pe_int (fun _ _ => rfl)) pe_str (nomark _)) (pss_one (ps_ret (pe_dget hu (pe_disp (pps_cons pe_str (pv 7) (pps_cons pe_str (Ab.pe_tupA (pa_cons (pe_ix ix_tup (pv 7) pe_int (fun _ _ => rfl)) (pa_cons (pv 5) pa_nil))) (pps_cons pe_str (Ab.pe_tupA (pa_cons (pe_callB (call_max2 rfl) (by rfl) T.max (by decide +kernel) (pa_cons pe_int (pa_cons (pe_op op_sub (pv 6) (pv 2)) pa_nil))) (pa_cons (pe_op op_add (pv 1) (pv 3)) pa_nil))) pps_nil))) (by decide +kernel) rfl (by simp) (by decide)) (pe_ix ix_tup (pv 0) pe_int (fun _ _ => rfl)) (fun _ _ => rfl)))) pss_nil)
      (pss_cons (ps_set (i := 9) scPA.nd rfl (Or.inl rfl) (pe_ifExp (pt_cmpR op_eq (pe_ix ix_tup (pv 0) pe_int (fun _ _ => rfl)) pe_str (nomark _)) (pv 7) (Ab.pe_tupA (pa_cons (pv 4) (pa_cons (pv 5) pa_nil)))))
      (pss_one (ps_ret (pe_dget hu (pe_disp (pps_cons pe_str (pv 9) (pps_cons pe_str (Ab.pe_tupA (pa_cons (pv 4) (pa_cons (pv 5) pa_nil))) (pps_cons pe_str (Ab.pe_tupA (pa_cons (pv 6) (pa_cons (pe_op op_add (pv 1) (pv 3)) pa_nil))) pps_nil))) (by decide +kernel) rfl (by simp) (by decide)) (pe_ix ix_tup (pv 0) pe_int (fun _ _ => rfl)) (fun _ _ => rfl))))))))), ?_⟩
    refine ⟨_, rfl, _, rfl, _, _, rfl, rfl, .inr ⟨_, rfl, _, rfl, _, rfl, _, _, rfl, rfl, _, _, rfl, _, rfl, _, _, rfl, rfl, _, rfl, _, rfl, _, _, rfl, rfl, _, _, rfl, _, _, _, rfl, ?_⟩⟩
    refine ⟨_, rfl, _, _, rfl, rfl, _, _, rfl, _, rfl, _, _, rfl, rfl, sz (by simp), fun tO G0 n0 s0 e0 => ?_⟩
    have hR0 : SqT K G0 r _ := Dat.sqT_same s0 hR
    refine ⟨_, rfl, r, _, 0, _, rfl, rfl, hR0, rfl, rfl, _, rfl, ite2 (fun h1 => ⟨_, rfl, r, _, 3, _, rfl, rfl, hR0, rfl, rfl, _, rfl, ite2 (fun h2 => ?A) (fun h2 => ?B)⟩) (fun h1 => iteF ?C)⟩
    case A =>
      intro d hd
      refine ⟨_, rfl, _, rfl, _, _, rfl, rfl, _, rfl, _, _, rfl, rfl, sz (by simp), fun t1 G1 n1 s1 e1 => ⟨_, rfl, _, rfl, _, rfl, _, _, rfl, rfl, sz (by simp), fun t2 G2 n2 s2 e2 => ?_⟩⟩
      obtain ⟨z, sm, q⟩ := fin (K := K) (.dK [(kI, .ref t1), (kL, .ref t2)]) hd (Same.trans s1 s2)
      refine ⟨z, [(kI, .ref t1), (kL, .ref t2)], rfl, (by simp), ?_⟩
      rw [merge2]
      refine ⟨_, rfl, d, _, rfl, upd_same, fun GL pl ts sL nl nts np hl pr => ?_⟩
      have sL : Same (upd G2 d (.dK [(kI, .ref t1), (kL, .ref t2)])) GL := sL
      cases pr with
      | cons p1 pr =>
        cases pr with
        | cons p2 pr =>
          cases pr
          rename_i a1 a2
          refine ⟨_, rfl, _, rfl, _, rfl, _, _, rfl, rfl, _, rfl, _, _, rfl, rfl, sz (by simp), fun t3 G3 n3 s3 e3 => ⟨sz (by simp), fun tp G4 n4 s4 e4 => ⟨sz (by simp), fun l2 G5 n5 _ s5 e5 => ?_⟩⟩⟩
          refine ⟨pl, l2, _, _, rfl, rfl, s5 _ _ (s4 _ _ (s3 _ _ hl)), e5, sz (by simp), fun l3 G6 n6 s6 e6 => ?_⟩
          have s36 : Same GL G6 := Same.trans s3 (Same.trans s4 (Same.trans s5 s6))
          refine ⟨l3, [a1, a2, tp], [(kI, .ref t1), (kL, .ref t2), (kP, .ref t3)], rfl, SqL.of e6, .cons (.of (s36 _ _ p1)) (.cons (.of (s36 _ _ p2)) (.cons (.of (s6 _ _ (s5 _ _ e4))) .nil)), fun dd ndd => ?_⟩
          rw [merge3]
          have sE : Same G6 (upd G6 dd (.dK [(kI, .ref t1), (kL, .ref t2), (kP, .ref t3)])) := same_new ndd
          have sA : Same H (upd G6 dd (.dK [(kI, .ref t1), (kL, .ref t2), (kP, .ref t3)])) := Same.trans s0 (Same.trans sm (Same.trans sL (Same.trans s36 sE)))
          refine ⟨_, rfl, r, _, 1, _, rfl, rfl, Dat.sqT_same sA hR, rfl, dd, _, rfl, get3 upd_same iR.k, kQ _ _ sA ?_⟩
          unfold paT
          rw [if_pos ⟨yes h1, yes h2⟩]
          have s6E := Same.trans sL (Same.trans s36 sE)
          exact sel_two (Dat.sqT_same s6E (q _ _ (s2 _ _ e1))) (Dat.sqT_same s6E (q _ _ e2)) (.of (sE _ _ (s6 _ _ (s5 _ _ (s4 _ _ e3)))))
    case B =>
      refine ⟨_, rfl, r, _, 0, _, rfl, rfl, hR0, rfl, rfl, _, rfl, ite2 (fun h3 => ?_) (fun h3 => absurd h1 h3)⟩
      intro d hd
      refine ⟨_, rfl, ?_⟩
      refine ⟨_, rfl, tO, _, 0, _, rfl, rfl, .of (same_new hd _ _ e0), rfl, _, rfl, sz (by simp), fun t2 G2 n2 s2 e2 => ?_⟩
      refine ⟨_, rfl, _, rfl, _, _, rfl, rfl, _, _, rfl, _, rfl, _, rfl, _, _, rfl, rfl, sz (by simp), fun t3 G3 n3 s3 e3 => ?_⟩
      obtain ⟨z, sm, q⟩ := fin (K := K) (.dK [(kI, .ref tO), (kL, .ref t2), (kP, .ref t3)]) hd (Same.trans s2 s3)
      refine ⟨z, [(kI, .ref tO), (kL, .ref t2), (kP, .ref t3)], rfl, (by simp), ?_⟩
      rw [merge3]
      refine ⟨_, rfl, r, _, 1, _, rfl, rfl, Dat.sqT_same (Same.trans s0 sm) hR, rfl, d, _, rfl, get3 upd_same iR.k, kQ _ _ (Same.trans s0 sm) ?_⟩
      unfold paT
      rw [if_neg (fun z => no h2 z.2), if_pos (yes h1)]
      exact sel_two (q _ _ (s3 _ _ (s2 _ _ (same_new hd _ _ e0)))) (q _ _ (s3 _ _ e2)) (q _ _ e3)
    case C =>
      refine ⟨_, rfl, r, _, 0, _, rfl, rfl, hR0, rfl, rfl, _, rfl, ite2 (fun h3 => absurd h3 h1) (fun _ => ?_)⟩
      refine ⟨_, rfl, r, _, 0, _, rfl, rfl, hR0, rfl, rfl, _, rfl, ite2 (fun h4 => ⟨_, rfl, ?D⟩) (fun h4 => ⟨_, rfl, _, rfl, sz (by simp), fun tF GF nF sF eF => ?E⟩)⟩
      case D =>
        intro d hd
        refine ⟨_, rfl, ?_⟩
        refine ⟨_, rfl, _, rfl, sz (by simp), fun t2 G2 n2 s2 e2 => ?_⟩
        refine ⟨_, rfl, _, rfl, _, rfl, _, _, rfl, rfl, sz (by simp), fun t3 G3 n3 s3 e3 => ?_⟩
        obtain ⟨z, sm, q⟩ := fin (K := K) (.dK [(kI, .ref tO), (kL, .ref t2), (kP, .ref t3)]) hd (Same.trans s2 s3)
        refine ⟨z, [(kI, .ref tO), (kL, .ref t2), (kP, .ref t3)], rfl, (by simp), ?_⟩
        rw [merge3]
        refine ⟨_, rfl, r, _, 1, _, rfl, rfl, Dat.sqT_same (Same.trans s0 sm) hR, rfl, d, _, rfl, get3 upd_same iR.k, kQ _ _ (Same.trans s0 sm) ?_⟩
        unfold paT
        rw [if_neg (fun z => no h1 z.1), if_neg (no h1), if_pos (yes h4)]
        exact sel_two (q _ _ (s3 _ _ (s2 _ _ (same_new hd _ _ e0)))) (q _ _ (s3 _ _ e2)) (q _ _ e3)
      case E =>
        intro d hd
        refine ⟨_, rfl, ?_⟩
        refine ⟨_, rfl, _, rfl, sz (by simp), fun t2 G2 n2 s2 e2 => ?_⟩
        refine ⟨_, rfl, _, rfl, _, rfl, _, _, rfl, rfl, sz (by simp), fun t3 G3 n3 s3 e3 => ?_⟩
        obtain ⟨z, sm, q⟩ := fin (K := K) (.dK [(kI, .ref tF), (kL, .ref t2), (kP, .ref t3)]) hd (Same.trans s2 s3)
        refine ⟨z, [(kI, .ref tF), (kL, .ref t2), (kP, .ref t3)], rfl, (by simp), ?_⟩
        rw [merge3]
        refine ⟨_, rfl, r, _, 1, _, rfl, rfl, Dat.sqT_same (Same.trans (Same.trans s0 sF) sm) hR, rfl, d, _, rfl, get3 upd_same iR.k, kQ _ _ (Same.trans (Same.trans s0 sF) sm) ?_⟩
        unfold paT
        rw [if_neg (fun z => no h1 z.1), if_neg (no h1), if_neg (no h4)]
        exact sel_two (q _ _ (s3 _ _ (s2 _ _ (same_new hd _ _ eF)))) (q _ _ (s3 _ _ e2)) (q _ _ e3)
end
end K69

set_option Elab.async false
set_option linter.all false
set_option maxRecDepth 100000
set_option maxHeartbeats 4000000
namespace K69
open PySem L2 Pen
def cls : List Comprehension := match defBody sEvery with
  | [.Return (some (.ListComp _ cs _ _)) _] => cs
  | _ => []
def cl (i : Nat) : Comprehension := cls.getD i ⟨.Constant .none 0 ⟨0, 0, 0, 0⟩, .Constant .none 0 ⟨0, 0, 0, 0⟩, [], 0⟩
/-- the class Ways: its constants -/
structure WaysT (K : PySem.W.Frag) (mg : Str → Option Value) (C : Addr) (mc : Value) (t0 t1 t2 t3 : Addr) : Prop where
  at_ : mg "Ways" = some (.ref C)
  rd : ClX.CRead K C mc
  c0 : ClX.CVal K C mc "POSTING" (.ref t0) (.ref t0)
  c1 : ClX.CVal K C mc "KEEPING" (.ref t1) (.ref t1)
  c2 : ClX.CVal K C mc "ANSWERING" (.ref t2) (.ref t2)
  c3 : ClX.CVal K C mc "MARKING" (.ref t3) (.ref t3)
  h0 : ∀ H, SqT K H t0 [.str "outbox", .str "after", .str "before"]
  h1 : ∀ H, SqT K H t1 [.str "inbox", .str "late", .str "plain"]
  h2 : ∀ H, SqT K H t2 [.str "behind", .str "ahead"]
  h3 : ∀ H, SqT K H t3 [.str "behind", .str "ahead"]
/-- roads alone -/
def Rds (H : Hp) (xs : List V) : Prop := ∀ v ∈ xs, ∃ t p k a m, v = .ref t ∧ H t = some (.tup [.str p, .str k, .str a, .str m]) ∧ IsRoad p k a m
def spEvery : Sp := fun vs H Q _ => vs = [] ∧ ∀ l xs H', Same H H' → H l = none → H' l = some (.lst xs) → xs.length = 36 → Rds H' xs → Q (.ref l) H'
/-- the list at D grows; all else stays -/
def Gr (H0 : Hp) (D : Addr) (n : Nat) (H : Hp) : Prop := ∃ acc, H D = some (.lst acc) ∧ acc.length = n ∧ (∀ b o, H0 b = some o → H b = some o) ∧ Rds H acc
theorem goes_tup {K : PySem.W.Frag} {a D : Addr} {xs : List V} {g : TG} {tt : TT} {vs : List Nat} {ti : CN.TN} {σ : L2.St} {Nx : Hp → Prop} (Pv : Nat → Hp → Prop) (hl : ∀ H, SqT K H a xs)
    (hs : ∀ i x H, xs[i]? = some x → Pv i H → g x (wipe σ vs) H fun σ2 H2 => wipe σ2 vs = wipe σ vs ∧ tt σ2 H2 fun b H3 => if b = true then ti D σ2 H3 (Pv (i + 1)) else Pv (i + 1) H3) (hd : ∀ H, Pv xs.length H → Nx H) :
    CN.Goes (Itt K a) (fun i m H => m = xs.length - i ∧ i ≤ xs.length ∧ Pv i H) g tt vs ti D σ Nx := by
  rintro i m H ⟨rfl, hi, p⟩
  by_cases lt : i < xs.length
  · refine .inr ⟨⟨xs, xs[i], hl H, List.getElem?_eq_getElem lt⟩, Pv (i + 1), fun Hz pz => ⟨xs.length - (i + 1), by omega, rfl, lt, pz⟩, fun x Hy y => ?_⟩
    obtain ⟨e, y⟩ := y
    subst e
    exact hs i x _ (y xs (hl _)) p
  · have e : i = xs.length := by omega
    subst e
    exact .inl ⟨⟨xs, hl H, Nat.le_refl _⟩, hd H p⟩
theorem Gr.start {H : Hp} {D : Addr} (h : H D = none) : Gr H D 0 (upd H D (.lst [])) := ⟨[], upd_same, rfl, fun b o e => by rw [upd_ne (ne_of_none e h)]; exact e, fun v hv => by cases hv⟩
theorem Gr.step {H G G1 : Hp} {D t : Addr} {n : Nat} {p k a m : Str} (g : Gr H D n G) (s : Same G G1) (h : H D = none) (e : G1 t = some (.tup [.str p, .str k, .str a, .str m])) (r : IsRoad p k a m) :
    ∃ acc, G1 D = some (.lst acc) ∧ acc.length = n ∧ Gr H D (n + 1) (upd G1 D (.lst (acc ++ [.ref t]))) := by
  obtain ⟨acc, e1, l, fr, rd⟩ := g
  have e2 := s _ _ e1
  have off : ∀ {u : Addr} {xs : List V}, G1 u = some (.tup xs) → (upd G1 D (.lst (acc ++ [.ref t]))) u = some (.tup xs) := fun {u xs} z => by
    have n : u ≠ D := fun y => by
      rw [y, e2] at z
      cases z
    rw [upd_ne n]
    exact z
  refine ⟨acc, e2, l, acc ++ [.ref t], upd_same, by rw [List.length_append, l]; rfl, fun b o z => ?_, fun v hv => ?_⟩
  · rw [upd_ne (ne_of_none z h)]
    exact s _ _ (fr b o z)
  · rcases List.mem_append.mp hv with hv | hv
    · obtain ⟨u, p', k', a', m', ev, eu, ru⟩ := rd v hv
      exact ⟨u, p', k', a', m', ev, off (s _ _ eu), ru⟩
    · have ev : v = .ref t := by simpa using hv
      exact ⟨t, p, k, a, m, ev, off e, r⟩
theorem pick3 {a b c : Str} {i : Nat} {x : V} (h : [V.str a, V.str b, V.str c][i]? = some x) : ∃ p, x = .str p ∧ (p = a ∨ p = b ∨ p = c) := by
  match i, h with
  | 0, h => exact ⟨a, (Option.some.inj h).symm, .inl rfl⟩
  | 1, h => exact ⟨b, (Option.some.inj h).symm, .inr (.inl rfl)⟩
  | 2, h => exact ⟨c, (Option.some.inj h).symm, .inr (.inr rfl)⟩
theorem pick2 {a b : Str} {i : Nat} {x : V} (h : [V.str a, V.str b][i]? = some x) : ∃ p, x = .str p ∧ (p = a ∨ p = b) := by
  match i, h with
  | 0, h => exact ⟨a, (Option.some.inj h).symm, .inl rfl⟩
  | 1, h => exact ⟨b, (Option.some.inj h).symm, .inr rfl⟩
section
variable {P : Program} {w : World} {K : PySem.W.Frag} {mg : Str → Option Value} {base : Heap}
theorem scEv : FnScope ["posting", "keeping", "answering", "marking"] [] (defScope sEvery) := ⟨rfl, rfl, rfl, by decide +kernel, rfl, by decide +kernel, by decide +kernel⟩
theorem pi_w {B : Cx} {tg : Expr} {n : Str} {p1 p2 : Pos} {C : Addr} (hg : Gl B "Ways") (hm : B.mg "Ways" = some (.ref C)) (hb : attributeBase (.Name "Ways" p1) n B.env (eval (.Name "Ways" p1) B.env) = eval (.Name "Ways" p1) B.env) :
    PI B tg (.Attribute (.Name "Ways" p1) n p2) (iTup B.K (ClX.tCVal B.K (tC (.ref C)) n)) := pi_tup (ClX.pe_cval (pe_glob (v := V.ref C) hg hm rfl) hb)
theorem ok_every {f C t0 t1 t2 t3 : Addr} {mc : Value} {fd : FuncData} (F : Fun K "every" "Ways.every" sEvery f fd) (T : WaysT K mg C mc t0 t1 t2 t3) : FnOk P w K mg base CX0 1 f fd [] spEvery := by
  refine F.ok scEv (fun vs H Q E h => ?_) (fun cdv A outer s H vs Q E hr h => ?_)
  · obtain ⟨rfl, _⟩ := h
    rfl
  · obtain ⟨rfl, kQ⟩ := h
    refine ⟨_, (pss_one (ps_ret (CN.pe_lcN (own := [("posting", 0), ("keeping", 1), ("answering", 2), ("marking", 3)]) (g := gName 0) (tt := tYes) (vs2 := [1, 2, 3]) (ti := (CN.tNext (iTup K (ClX.tCVal K (tC (.ref C)) "KEEPING")) (gName 1) tYes [1, 2, 3] (CN.tNext (iTup K (ClX.tCVal K (tC (.ref C)) "ANSWERING")) (gName 2) tYes [2, 3] (CN.tNext (iTup K (ClX.tCVal K (tC (.ref C)) "MARKING")) (gName 3) tYes [3] (CN.tEmit (Ab.tTupA (tCons (tVar 0) (tCons (tVar 1) (tCons (tVar 2) (tCons (tVar 3) tNil)))))))))) rfl scEv.nd (pi_w (n := "POSTING") (by rfl) T.at_ (by rfl)) (blkOk_by (N := ["posting", "keeping", "answering", "marking"]) (sc := defScope sEvery) (by decide +kernel)) (fun _ _ _ _ _ => by exact ⟨pg_name (i := 0) scEv.nd rfl (Or.inl rfl), pts_nil, (CN.pin_next (c := cl 1) (vs := [1, 2, 3]) (g := gName 1) (tt := tYes) rfl rfl rfl rfl (by intro d z; cases z <;> rfl) (pi_w (n := "KEEPING") (by rfl) T.at_ (by rfl)) (pg_name (i := 1) scEv.nd rfl (Or.inl rfl)) pts_nil (CN.pin_next (c := cl 2) (vs := [2, 3]) (g := gName 2) (tt := tYes) rfl rfl rfl rfl (by intro d z; cases z <;> rfl) (pi_w (n := "ANSWERING") (by rfl) T.at_ (by rfl)) (pg_name (i := 2) scEv.nd rfl (Or.inl rfl)) pts_nil (CN.pin_next (c := cl 3) (vs := [3]) (g := gName 3) (tt := tYes) rfl rfl rfl rfl (by intro d z; cases z <;> rfl) (pi_w (n := "MARKING") (by rfl) T.at_ (by rfl)) (pg_name (i := 3) scEv.nd rfl (Or.inl rfl)) pts_nil (CN.pin_emit rfl rfl (Ab.pe_tupA (pa_cons (pv 0) (pa_cons (pv 1) (pa_cons (pv 2) (pa_cons (pv 3) pa_nil)))))) (by decide) (fun _ _ => rfl)) (by decide) (fun _ _ => rfl)) (by decide) (fun _ _ => rfl))⟩) (by decide) (by intro d z; cases z <;> rfl) (fun _ => rfl)))), ?_⟩
    refine ⟨C, mc, _, _, rfl, T.rd, T.c0, t0, rfl, ⟨_, T.h0 _⟩, fun D hD => ?_⟩
    refine ⟨_, ⟨_, rfl, Nat.zero_le _, Gr.start hD⟩, goes_tup (xs := [.str "outbox", .str "after", .str "before"]) (fun i G => Gr H D (12 * i) G) T.h0 (fun i x G hx g0 => ?_) (fun G g0 => ?_)⟩
    · have b0 : i < 3 := (List.getElem?_eq_some_iff.mp hx).1
      obtain ⟨p, rfl, hp⟩ := pick3 hx
      refine ⟨rfl, ⟨C, mc, _, _, rfl, T.rd, T.c1, t1, rfl, ⟨_, T.h1 _⟩, _, ⟨_, rfl, Nat.zero_le _, g0⟩, goes_tup (xs := [.str "inbox", .str "late", .str "plain"]) (fun j G => Gr H D (12 * i + 4 * j) G) T.h1 (fun j x G hx g0 => ?_) (fun G g0 => g0)⟩⟩
      have b1 : j < 3 := (List.getElem?_eq_some_iff.mp hx).1
      obtain ⟨k, rfl, hk⟩ := pick3 hx
      refine ⟨rfl, ⟨C, mc, _, _, rfl, T.rd, T.c2, t2, rfl, ⟨_, T.h2 _⟩, _, ⟨_, rfl, Nat.zero_le _, g0⟩, goes_tup (xs := [.str "behind", .str "ahead"]) (fun l G => Gr H D (12 * i + 4 * j + 2 * l) G) T.h2 (fun l x G hx g0 => ?_) (fun G g0 => g0)⟩⟩
      have b2 : l < 2 := (List.getElem?_eq_some_iff.mp hx).1
      obtain ⟨a, rfl, ha⟩ := pick2 hx
      refine ⟨rfl, ⟨C, mc, _, _, rfl, T.rd, T.c3, t3, rfl, ⟨_, T.h3 _⟩, _, ⟨_, rfl, Nat.zero_le _, g0⟩, goes_tup (xs := [.str "behind", .str "ahead"]) (fun y G => Gr H D (12 * i + 4 * j + 2 * l + y) G) T.h3 (fun y x G hx g0 => ?_) (fun G g0 => g0)⟩⟩
      obtain ⟨m, rfl, hm⟩ := pick2 hx
      have b3 : y < 2 := (List.getElem?_eq_some_iff.mp hx).1
      refine ⟨rfl, _, rfl, _, rfl, _, rfl, _, rfl, sz (by simp), fun t G1 n1 s1 e1 => ?_⟩
      obtain ⟨acc, ea, la, g1⟩ := g0.step s1 hD e1 ⟨hp, hk, ha, hm⟩
      exact ⟨acc, ea, by rw [la]; exact Nat.lt_of_lt_of_le (m := 100) (by omega) (by decide), g1⟩
    · obtain ⟨acc, e1, l, fr, rd⟩ := g0
      exact kQ D acc G fr hD e1 l rd
end
end K69

set_option Elab.async false
set_option linter.all false
set_option maxRecDepth 100000
set_option maxHeartbeats 8000000
namespace K69
open PySem L2 Pen RG
def pT (p k a m : Str) (n f l : Int) : Int × Int := if a = "behind" then pbT p k m n f l else paT p k m n f l
def four (p k a m : Str) (n f l : Int) : List V := [.int (comT k a n f).1, .int (comT k a n f).2, .int (pT p k a m n f l).1, .int (pT p k a m n f l).2]
/-- account's promise -/
def spAcc (K : PySem.W.Frag) : Sp := fun vs H Q _ => ∃ (r : Addr) (p k a m : Str) (c f l : Int), vs = [.ref r, .int c, .int f, .int l] ∧ Road K H r p k a m ∧ (0 ≤ c ∧ c ≤ great) ∧ (0 ≤ f ∧ f ≤ great) ∧ (0 ≤ l ∧ l ≤ great) ∧
  ∀ t H', Same H H' → SqT K H' t (four p k a m (c + 1) f l) → Q (.ref t) H'
def spLaw (K : PySem.W.Frag) : Sp := fun vs H Q _ => ∃ (a : Addr) (ns : List Int), vs = [.ref a] ∧ SqL K H a (ns.map V.int) ∧ ns.length ≤ 63 ∧ ∀ G', Q (.bl true) G'
theorem tup_off {H : Hp} {p c t : Addr} {ns : List Int} {b : Nat} {xs : List V} (Pn : PenAt H p c ns b) (h : H t = some (.tup xs)) : t ≠ p := by
  obtain ⟨⟨a, r, hp, _⟩, _⟩ := Pn
  exact ne_of h hp (by intro z; cases z)
theorem great_lt : 4 * great + 2 < 2 ^ 400 := by decide +kernel
theorem com_bd {k a : Str} {c f : Int} (h0 : 0 ≤ c) (h1 : c ≤ great) (f0 : 0 ≤ f) (f1 : f ≤ great) : (0 ≤ (comT k a (c + 1) f).1 ∧ (comT k a (c + 1) f).1 ≤ 4 * great + 2) ∧ 0 ≤ (comT k a (c + 1) f).2 ∧ (comT k a (c + 1) f).2 ≤ 4 * great + 2 := by
  unfold comT sel mx mn one
  generalize decide (f < c + 1) = bb
  repeat' split
  all_goals (refine ⟨⟨?_, ?_⟩, ?_, ?_⟩ <;> simp only <;> omega)
theorem post_bd {p k a m : Str} {c f l : Int} (h0 : 0 ≤ c) (h1 : c ≤ great) (f0 : 0 ≤ f) (f1 : f ≤ great) (l0 : 0 ≤ l) (l1 : l ≤ great) : (0 ≤ (pT p k a m (c + 1) f l).1 ∧ (pT p k a m (c + 1) f l).1 ≤ 4 * great + 2) ∧ 0 ≤ (pT p k a m (c + 1) f l).2 ∧ (pT p k a m (c + 1) f l).2 ≤ 4 * great + 2 := by
  unfold pT pbT paT sel mx mn one
  generalize decide (f < c + 1) = bb
  repeat' split
  all_goals (refine ⟨⟨?_, ?_⟩, ?_, ?_⟩ <;> simp only <;> omega)
def dat (x y z u : Int) : PyData := .tuple [.int x, .int y, .int z, .int u]
theorem int_sh {x : Int} (h0 : 0 ≤ x) (h : x ≤ 4 * great + 2) : x.natAbs.log2 < 400 := by
  have g := great_lt
  have e : ((2 : Int) ^ 400) = ((2 ^ 400 : Nat) : Int) := by norm_cast
  exact PySem.Flt.log2_lt_of (by decide) (by omega)
theorem int_len {x : Int} (h0 : 0 ≤ x) (h : x ≤ 4 * great + 2) : (PyData.int x).shown.length ≤ 401 := by
  have e := int_text_length_le (k := 400) (by decide) (int_sh h0 h)
  show (Str.ofString (toString x)).length ≤ 401
  rw [ofString_length]
  exact e
theorem dat_ok {x y z u : Int} (x0 : 0 ≤ x) (x1 : x ≤ 4 * great + 2) (y0 : 0 ≤ y) (y1 : y ≤ 4 * great + 2) (z0 : 0 ≤ z) (z1 : z ≤ 4 * great + 2) (u0 : 0 ≤ u) (u1 : u ≤ 4 * great + 2) :
    (dat x y z u).showable = true ∧ (dat x y z u).depth ≤ 64 ∧ (dat x y z u).shown.length ≤ sizeLine := by
  have sh : ∀ {i : Int}, 0 ≤ i → i ≤ 4 * great + 2 → (PyData.int i).showable = true := fun a b => decide_eq_true (Nat.lt_trans (int_sh a b) (by decide))
  refine ⟨?_, by simp [dat, PyData.depth, PyData.depthAll], ?_⟩
  · show ((PyData.int x).showable && ((PyData.int y).showable && ((PyData.int z).showable && ((PyData.int u).showable && true)))) = true
    rw [sh x0 x1, sh y0 y1, sh z0 z1, sh u0 u1]
    rfl
  · have q := tupleText_len_le [(PyData.int x).shown, (PyData.int y).shown, (PyData.int z).shown, (PyData.int u).shown]
    have a1 := int_len x0 x1
    have a2 := int_len y0 y1
    have a3 := int_len z0 z1
    have a4 := int_len u0 u1
    have e : (dat x y z u).shown.length ≤ 5000 := by
      refine Nat.le_trans q ?_
      simp only [List.map_cons, List.map_nil, List.sum_cons, List.sum_nil, List.length_cons, List.length_nil]
      omega
    exact Nat.le_trans e (by decide)
theorem rp_four {K : PySem.W.Frag} {H : Hp} {t : Addr} {x y z u : Int} (h : SqT K H t [.int x, .int y, .int z, .int u]) : Rp K H (.ref t) (dat x y z u) := .tup h (.cons (.int x) (.cons (.int y) (.cons (.int z) (.cons (.int u) .nil))))
theorem dp_four {K : PySem.W.Frag} {H : Hp} {t : Addr} {x y z u : Int} (h : SqT K H t [.int x, .int y, .int z, .int u]) : Dp K H (.ref t) (dat x y z u) := .tup h (.cons (.int x) (.cons (.int y) (.cons (.int z) (.cons (.int u) .nil))))
theorem eqv_four (x y z u : Int) : PyData.eqv (dat x y z u) (dat x y z u) = true := by simp [dat, PyData.eqv, PyData.eqvAll]
theorem shaped_four (x y z u : Int) : SeqAt.shaped (dat x y z u) = true := by simp [dat, SeqAt.shaped, PyData.canLay0, PyData.canLayAll0, PyData.depth, PyData.depthAll]
section
variable {P : Program} {w : World} {K : PySem.W.Frag} {mg : Str → Option Value} {base : Heap}
theorem scLaw : FnScope ["_law_script", "_law_tape_here", "_law_great", "_law_turn", "_law_road", "_law_extra", "_law_lost", "_law_near", "_law_close", "_law_falls", "_law_due"] ["_law_script"] (defScope sLaw) := ⟨rfl, rfl, rfl, by decide +kernel, rfl, by decide +kernel, by decide +kernel⟩
theorem ok_law {fL fT fD fP fN fC fB fH fA fE C t0 t1 t2 t3 pE : Addr} {mc : Value} {dL dT dD dP dN dC dB dH dA dE : FuncData} (F : Fun K "law" "law" sLaw fL dL) (T : Txt mg)
    (GT : FnOk P w K mg base CX0 1 fT dT ["_law_script"] (spPen K)) (TT : DefT K mg "_law_tape" fT) (bT : Binds K dT ["_law_script"] [])
    (GD : FnOk P w K mg base CX0 1 fD dD ["_law_tape_here", "_law_many"] spDraw) (TD : DefT K mg "_law_draw" fD) (bD : Binds K dD ["_law_tape_here", "_law_many"] [])
    (GP : FnOk P w K mg base CX0 2 fP dP ["_law_tape_here", "_law_options"] (spPick K)) (TP : DefT K mg "_law_pick" fP) (bP : Binds K dP ["_law_tape_here", "_law_options"] [])
    (GN : FnOk P w K mg base CX0 3 fN dN ["_law_tape_here"] spNum) (TN : DefT K mg "_law_number" fN) (bN : Binds K dN ["_law_tape_here"] [])
    (GC : FnOk P w K mg base CX0 1 fC dC ["_law_road", "_law_many", "_law_falls"] (spCom K)) (TC : DefT K mg "_law_commits" fC) (bC : Binds K dC ["_law_road", "_law_many", "_law_falls"] [])
    (GB : FnOk P w K mg base CX0 1 fB dB ["_law_road", "_law_many", "_law_falls", "_law_lost"] (spPosts K pbT)) (TB : DefT K mg "_law_posts_behind" fB) (bB : Binds K dB ["_law_road", "_law_many", "_law_falls", "_law_lost"] [])
    (GH : FnOk P w K mg base CX0 1 fH dH ["_law_road", "_law_many", "_law_falls", "_law_lost"] (spPosts K paT)) (TH : DefT K mg "_law_posts_ahead" fH) (bH : Binds K dH ["_law_road", "_law_many", "_law_falls", "_law_lost"] [])
    (GA : FnOk P w K mg base CX0 2 fA dA ["way", "copies", "crashes", "losses"] (spAcc K)) (TA : DefT K mg "account" fA) (bA : Binds K dA ["way", "copies", "crashes", "losses"] []) (kA : KBn K dA ["way", "copies", "crashes", "losses"] 0 ["losses", "crashes", "copies", "way"] (fun _ ws => ws.reverse) (fun _ zs => zs.reverse))
    (TW : WaysT K mg C mc t0 t1 t2 t3) (SM : SC.SMet K C mc "every" pE fE) (GEv : FnOk P w K mg base CX0 1 fE dE [] spEvery) (bEv : Binds K dE [] []) : FnG P w K mg base CX0 24 fL dL ["_law_script"] (spLaw K) := by
  refine okG (n := 23) F scLaw (fun ys G Want Err h => ?_) (fun cd B up st G ys Want Err hg hr told => ?_)
  · obtain ⟨a, ns, rfl, _⟩ := h
    rfl
  · obtain ⟨sa, ns, rfl, hS, hlen, kk⟩ := told
    refine ⟨_, (pss_cons (ps_set (i := 1) scLaw.nd rfl (Or.inl rfl) (pe_call GT (hr.mono (by decide)) rfl TT.mg TT.kp bT .nil pass0 (pa_cons (pv 0) pa_nil)))
      (pss_cons (ps_set (i := 2) scLaw.nd rfl (Or.inl rfl) (pe_op op_mulW (pe_op op_pow pe_int pe_int) (pe_op op_pow pe_int pe_int)))
      (pss_cons (ps_for PassesOwn.never rfl (pi_range1 (by rfl) T.range (pa_cons (pe_op op_add pe_int (pe_callB (call_min2 rfl) (by rfl) T.min (by decide +kernel) (pa_cons pe_int (pa_cons (pe_callB call_len_seq (by rfl) T.len PySem.boot_len (pa_cons (pv 0) pa_nil)) pa_nil)))) pa_nil)) (pg_name (i := 3) scLaw.nd rfl (Or.inl rfl)) (pss_cons (ps_set (i := 4) scLaw.nd rfl (Or.inl rfl) (pe_call GP (hr.mono (by decide)) rfl TP.mg TP.kp bP .nil pass0 (pa_cons (pv 1) (pa_cons (SC.pe_smeth0 (pe_glob (v := V.ref C) (by rfl) TW.at_ rfl) TW.rd SM GEv (hr.mono (by decide)) bEv pass0) pa_nil))))
      (pss_cons (ps_par (i := 5) (j := 6) (by rfl) scLaw.nd rfl rfl (by decide) rfl rfl (pa_cons (pe_call GN (hr.mono (by decide)) rfl TN.mg TN.kp bN .nil pass0 (pa_cons (pv 1) pa_nil)) (pa_cons (pe_call GN (hr.mono (by decide)) rfl TN.mg TN.kp bN .nil pass0 (pa_cons (pv 1) pa_nil)) pa_nil)) (by rfl))
      (pss_cons (ps_set (i := 7) scLaw.nd rfl (Or.inl rfl) (pe_op op_sub (pe_call GD (hr.mono (by decide)) rfl TD.mg TD.kp bD .nil pass0 (pa_cons (pv 1) (pa_cons pe_int pa_nil))) pe_int))
      (pss_cons (ps_set (i := 8) scLaw.nd rfl (Or.inl rfl) (pe_callB (call_min2 rfl) (by rfl) T.min (by decide +kernel) (pa_cons (pv 2) (pa_cons (pe_callB (call_max2 rfl) (by rfl) T.max (by decide +kernel) (pa_cons pe_int (pa_cons (pe_op op_add (pv 5) (pv 7)) pa_nil))) pa_nil))))
      (pss_cons (ps_set (i := 9) scLaw.nd rfl (Or.inl rfl) (pe_call GP (hr.mono (by decide)) rfl TP.mg TP.kp bP .nil pass0 (pa_cons (pv 1) (pa_cons (Ab.pe_lstA (pa_cons (pe_call GN (hr.mono (by decide)) rfl TN.mg TN.kp bN .nil pass0 (pa_cons (pv 1) pa_nil)) (pa_cons (pv 8) (pa_cons (pe_op op_add (pe_op op_fdiv (pv 5) pe_int) (pe_callB (call_max2 rfl) (by rfl) T.max (by decide +kernel) (pa_cons pe_int (pa_cons (pv 7) pa_nil)))) pa_nil)))) pa_nil))))
      (pss_cons (ps_set (i := 10) scLaw.nd rfl (Or.inl rfl) (pe_call GC (hr.mono (by decide)) rfl TC.mg TC.kp bC .nil pass0 (pa_cons (pv 4) (pa_cons (pe_op op_add (pv 5) pe_int) (pa_cons (pv 9) pa_nil)))))
      (pss_cons (ps_if (pt_cmpR op_eq (pe_ix ix_tup (pv 4) pe_int (fun _ _ => rfl)) pe_str (nomark _)) (pss_one (ps_set (i := 10) scLaw.nd rfl (Or.inl rfl) (pe_op L2.op_catA (pv 10) (pe_call GB (hr.mono (by decide)) rfl TB.mg TB.kp bB .nil pass0 (pa_cons (pv 4) (pa_cons (pe_op op_add (pv 5) pe_int) (pa_cons (pv 9) (pa_cons (pv 6) pa_nil)))))))) (pss_one (ps_set (i := 10) scLaw.nd rfl (Or.inl rfl) (pe_op L2.op_catA (pv 10) (pe_call GH (hr.mono (by decide)) rfl TH.mg TH.kp bH .nil pass0 (pa_cons (pv 4) (pa_cons (pe_op op_add (pv 5) pe_int) (pa_cons (pv 9) (pa_cons (pv 6) pa_nil)))))))))
      (pss_cons (ps_if (pt_cmpR op_ne (pe_callB (call_repr hg hr) (by rfl) T.repr (by decide +kernel) (pa_cons (pe_call GA (hr.mono (by decide)) rfl TA.mg TA.kp bA .nil pass0 (pa_cons (pv 4) (pa_cons (pv 5) (pa_cons (pv 9) (pa_cons (pv 6) pa_nil))))) pa_nil)) (pe_callB (call_repr hg hr) (by rfl) T.repr (by decide +kernel) (pa_cons (pv 10) pa_nil)) (nomark _)) (pss_one (ps_ret pe_bl)) pss_nil)
      (pss_one (ps_if (pt_cmpR (op_neD hr.units) (SC.pe_callK0 GA (hr.mono (by decide)) rfl TA.mg TA.kp kA pass0 (pk_cons (pv 6) (pk_cons (pv 9) (pk_cons (pv 5) (pk_cons (pv 4) pk_nil))))) (pv 10) (nomark _)) (pss_one (ps_ret pe_bl)) pss_nil)))))))))))
      (pss_one (ps_ret pe_bl))))), ?_⟩
    have e50 : (10 : Int) ^ Int.toNat 50 * 10 ^ Int.toNat 50 = great := by decide +kernel
    have pw : ((10 : Int) ^ Int.toNat 50).natAbs < 2 ^ 400 := by decide +kernel
    refine ⟨_, rfl, sa, ns, rfl, hS, hlen, fun p c H1 np Pn s1 => ?_⟩
    refine ⟨_, _, rfl, rfl, ⟨by decide, by decide, by decide⟩, _, _, rfl, rfl, ⟨by decide, by decide, by decide⟩, _, _, rfl, rfl, wide_mul pw pw (by decide) (by decide) (by decide), ?_⟩
    refine ⟨_, rfl, sa, _, rfl, .inl (s1.seq hS), _, _, rfl, _, _, rfl, rfl, _, rfl, ?lo, ?hi, for_range (n := _) (fun i σ H => σ.length = 11 ∧ σ[1]? = some (some (.ref p)) ∧ σ[2]? = some (some (.int great)) ∧ PenAt H p c ns (100 * i)) ⟨rfl, rfl, congrArg (fun z => some (some (V.int z))) e50, Pn⟩ (fun i σ G0 hi h => ?_) (fun σ G0 h => ?_)⟩
    case lo => split <;> omega
    case hi => split <;> omega
    · obtain ⟨L0, v1, v2, P0⟩ := h
      have hi' : i < 25 := by
        refine Nat.lt_of_lt_of_le hi ?_
        split <;> omega
      refine ⟨.ref p, by simp [v1], rfl, rfl, fun l xs G1 s1 nl el len rd => ?_⟩
      refine ⟨p, c, ns, _, l, xs, rfl, P0.same s1, hlen, by omega, el, by omega, by omega, fun v G2 hv P2 x2 => ?_⟩
      obtain ⟨r, q, k, a, m, rfl, er, ir⟩ := rd v hv
      have rp : r ≠ p := tup_off (P0.same s1) er
      refine ⟨.ref p, by simp [v1], p, c, ns, _, rfl, P2, hlen, by omega, fun e G3 e0 e1 P3 x3 => ⟨.ref p, by simp [v1], p, c, ns, _, rfl, P3, hlen, by omega, fun lo G4 l0 l1 P4 x4 => ⟨_, _, rfl, ?_⟩⟩⟩
      refine ⟨.ref p, by simp [v1], p, c, ns, _, 5, rfl, P4, hlen, by omega, by decide, by decide +kernel, fun d G5 d0 d1 P5 x5 => ⟨_, _, rfl, rfl, ?_⟩⟩
      refine ⟨.int great, by simp [v2], .int e, by simp [L0], .int (d - 2), by simp [L0], _, _, rfl, rfl, _, _, rfl, _, _, rfl, ?_⟩
      have cl : ∀ x : Int, 0 ≤ (if (if e + (d - 2) > 0 then e + (d - 2) else 0) < great then (if e + (d - 2) > 0 then e + (d - 2) else 0) else great) ∧ (if (if e + (d - 2) > 0 then e + (d - 2) else 0) < great then (if e + (d - 2) > 0 then e + (d - 2) else 0) else great) ≤ great := fun _ => by
        have : 0 ≤ great := by decide +kernel
        repeat' split
        all_goals omega
      obtain ⟨z0, z1⟩ := cl 0
      generalize (if (if e + (d - 2) > 0 then e + (d - 2) else 0) < great then (if e + (d - 2) > 0 then e + (d - 2) else 0) else great) = z at z0 z1 ⊢
      refine ⟨.ref p, by simp [v1], .ref p, by simp [v1], p, c, ns, _, rfl, P5, hlen, by omega, fun q1 G6 q0 q2 P6 x6 => ?_⟩
      refine ⟨.int z, by simp [L0], .int e, by simp [L0], _, _, rfl, rfl, ⟨by decide, by decide⟩, .int (d - 2), by simp [L0], _, _, rfl, _, _, rfl, rfl, ?_⟩
      have hh : 0 ≤ e / 2 + (if d - 2 > 0 then d - 2 else 0) ∧ e / 2 + (if d - 2 > 0 then d - 2 else 0) ≤ great := by
        have : 1000 ≤ great := by decide +kernel
        split <;> omega
      refine ⟨sz (by simp), fun l2 G7 nl2 _ s7 e7 => ?_⟩
      refine ⟨p, c, ns, _, l2, _, rfl, P6.same s7, hlen, by omega, e7, by simp, by simp, fun v G8 hv P8 x8 => ?_⟩
      have hf : ∃ f : Int, v = .int f ∧ 0 ≤ f ∧ f ≤ great := by
        simp only [List.mem_cons, List.not_mem_nil, or_false] at hv
        rcases hv with hv | hv | hv
        · exact ⟨_, hv, q0, q2⟩
        · exact ⟨_, hv, z0, z1⟩
        · exact ⟨_, hv, hh.1, hh.2⟩
      obtain ⟨f, rfl, f0, f1⟩ := hf
      have er8 : G8 r = some (.tup [.str q, .str k, .str a, .str m]) := x8 _ _ rp (s7 _ _ (x6 _ _ rp (x5 _ _ rp (x4 _ _ rp (x3 _ _ rp (x2 _ _ rp er))))))
      refine ⟨.ref r, by simp [L0], .int e, by simp [L0], _, _, rfl, rfl, .int f, by simp [L0], r, q, k, a, m, _, _, rfl, ⟨.of er8, ir⟩, fun v G9 s9 two => ?_⟩
      obtain ⟨t1, rfl, h1⟩ := two
      refine ⟨.ref r, by simp [L0], r, _, 2, _, rfl, rfl, .of (s9 _ _ er8), rfl, rfl, _, rfl, ite2 (fun ha => ?yes) (fun ha => ?no)⟩
      case yes =>
        refine ⟨.ref t1, by simp [L0], .ref r, by simp [L0], .int e, by simp [L0], _, _, rfl, rfl, .int f, by simp [L0], .int lo, by simp [L0], r, q, k, a, m, _, _, _, rfl, ⟨.of (s9 _ _ er8), ir⟩, fun v G10 s10 two2 => ?_⟩
        obtain ⟨t2, rfl, h2⟩ := two2
        refine ⟨t1, t2, _, _, rfl, rfl, Dat.sqT_same s10 h1, h2, sz (by simp), fun z => absurd z (by simp), fun _ z => absurd z (by simp), fun _ _ t nt => ?_⟩
        have e11 : (upd G10 t (.tup ([V.int (comT k a (e + 1) f).1, V.int (comT k a (e + 1) f).2] ++ [V.int (pbT q k m (e + 1) f lo).1, V.int (pbT q k m (e + 1) f lo).2]))) t = some (.tup (four q k a m (e + 1) f lo)) := by
          rw [upd_same]
          unfold four pT
          rw [if_pos (yes ha)]
          rfl
        have s11 : Same G8 (upd G10 t (.tup ([V.int (comT k a (e + 1) f).1, V.int (comT k a (e + 1) f).2] ++ [V.int (pbT q k m (e + 1) f lo).1, V.int (pbT q k m (e + 1) f lo).2]))) := Same.trans s9 (Same.trans s10 (same_new nt))
        generalize (upd G10 t (.tup ([V.int (comT k a (e + 1) f).1, V.int (comT k a (e + 1) f).2] ++ [V.int (pbT q k m (e + 1) f lo).1, V.int (pbT q k m (e + 1) f lo).2]))) = G11 at e11 s11 ⊢
        have rr : ∀ {Hx : Hp}, Same G8 Hx → Road K Hx r q k a m := fun sx => ⟨.of (sx _ _ er8), ir⟩
        obtain ⟨cb1, cb2⟩ := com_bd (k := k) (a := a) e0 e1 f0 f1
        obtain ⟨pb1, pb2⟩ := post_bd (p := q) (k := k) (a := a) (m := m) e0 e1 f0 f1 l0 l1
        obtain ⟨sh1, sh2, sh3⟩ := dat_ok cb1.1 cb1.2 cb2.1 cb2.2 pb1.1 pb1.2 pb2.1 pb2.2
        refine ⟨.ref r, by simp [L0], .int e, by simp [L0], .int f, by simp [L0], .int lo, by simp [L0], r, q, k, a, m, e, f, lo, rfl, rr s11, ⟨e0, e1⟩, ⟨f0, f1⟩, ⟨l0, l1⟩, fun t3 G12 s12 h3 => ?_⟩
        refine ⟨.ref t3, _, rfl, rp_four h3, sh1, sh2, sh3, .ref t, by simp [L0], .ref t, _, rfl, rp_four (.of (s12 _ _ e11)), sh1, sh2, sh3, rfl, false, by simp, iteF ?_⟩
        refine ⟨.int lo, by simp [L0], .int f, by simp [L0], .int e, by simp [L0], .ref r, by simp [L0], rfl, r, q, k, a, m, e, f, lo, rfl, rr (Same.trans s11 s12), ⟨e0, e1⟩, ⟨f0, f1⟩, ⟨l0, l1⟩, fun t4 G13 s13 h4 => ?_⟩
        refine ⟨.ref t, by simp [L0], _, _, dp_four h4, dp_four (.of (s13 _ _ (s12 _ _ e11))), shaped_four _ _ _ _, shaped_four _ _ _ _, false, by rw [eqv_four]; rfl, iteF ?_⟩
        exact ⟨by simp [L0], by simp [v1], by simp [v2], (((P8.same s11).same s12).same s13).mono (by omega)⟩
      case no =>
        refine ⟨.ref t1, by simp [L0], .ref r, by simp [L0], .int e, by simp [L0], _, _, rfl, rfl, .int f, by simp [L0], .int lo, by simp [L0], r, q, k, a, m, _, _, _, rfl, ⟨.of (s9 _ _ er8), ir⟩, fun v G10 s10 two2 => ?_⟩
        obtain ⟨t2, rfl, h2⟩ := two2
        refine ⟨t1, t2, _, _, rfl, rfl, Dat.sqT_same s10 h1, h2, sz (by simp), fun z => absurd z (by simp), fun _ z => absurd z (by simp), fun _ _ t nt => ?_⟩
        have e11 : (upd G10 t (.tup ([V.int (comT k a (e + 1) f).1, V.int (comT k a (e + 1) f).2] ++ [V.int (paT q k m (e + 1) f lo).1, V.int (paT q k m (e + 1) f lo).2]))) t = some (.tup (four q k a m (e + 1) f lo)) := by
          rw [upd_same]
          unfold four pT
          rw [if_neg (K69.no ha)]
          rfl
        have s11 : Same G8 (upd G10 t (.tup ([V.int (comT k a (e + 1) f).1, V.int (comT k a (e + 1) f).2] ++ [V.int (paT q k m (e + 1) f lo).1, V.int (paT q k m (e + 1) f lo).2]))) := Same.trans s9 (Same.trans s10 (same_new nt))
        generalize (upd G10 t (.tup ([V.int (comT k a (e + 1) f).1, V.int (comT k a (e + 1) f).2] ++ [V.int (paT q k m (e + 1) f lo).1, V.int (paT q k m (e + 1) f lo).2]))) = G11 at e11 s11 ⊢
        have rr : ∀ {Hx : Hp}, Same G8 Hx → Road K Hx r q k a m := fun sx => ⟨.of (sx _ _ er8), ir⟩
        obtain ⟨cb1, cb2⟩ := com_bd (k := k) (a := a) e0 e1 f0 f1
        obtain ⟨pb1, pb2⟩ := post_bd (p := q) (k := k) (a := a) (m := m) e0 e1 f0 f1 l0 l1
        obtain ⟨sh1, sh2, sh3⟩ := dat_ok cb1.1 cb1.2 cb2.1 cb2.2 pb1.1 pb1.2 pb2.1 pb2.2
        refine ⟨.ref r, by simp [L0], .int e, by simp [L0], .int f, by simp [L0], .int lo, by simp [L0], r, q, k, a, m, e, f, lo, rfl, rr s11, ⟨e0, e1⟩, ⟨f0, f1⟩, ⟨l0, l1⟩, fun t3 G12 s12 h3 => ?_⟩
        refine ⟨.ref t3, _, rfl, rp_four h3, sh1, sh2, sh3, .ref t, by simp [L0], .ref t, _, rfl, rp_four (.of (s12 _ _ e11)), sh1, sh2, sh3, rfl, false, by simp, iteF ?_⟩
        refine ⟨.int lo, by simp [L0], .int f, by simp [L0], .int e, by simp [L0], .ref r, by simp [L0], rfl, r, q, k, a, m, e, f, lo, rfl, rr (Same.trans s11 s12), ⟨e0, e1⟩, ⟨f0, f1⟩, ⟨l0, l1⟩, fun t4 G13 s13 h4 => ?_⟩
        refine ⟨.ref t, by simp [L0], _, _, dp_four h4, dp_four (.of (s13 _ _ (s12 _ _ e11))), shaped_four _ _ _ _, shaped_four _ _ _ _, false, by rw [eqv_four]; rfl, iteF ?_⟩
        exact ⟨by simp [L0], by simp [v1], by simp [v2], (((P8.same s11).same s12).same s13).mono (by omega)⟩
    · exact kk _
end
end K69

set_option Elab.async false
set_option linter.all false
set_option maxRecDepth 100000
set_option maxHeartbeats 8000000
namespace K69
open PySem L2 Pen RG KEq
structure TxtI (mg : Str → Option Value) : Prop where
  isinstance : mg "isinstance" = none
  tuple : mg "tuple" = none
  int : mg "int" = none
  bool : mg "bool" = none
def spWay (K : PySem.W.Frag) : Sp := fun vs H Q _ => ∃ (r : Addr) (p k a m : Str), vs = [.ref r] ∧ Road K H r p k a m ∧ Q (.bl true) H
section
variable {P : Program} {w : World} {K : PySem.W.Frag} {mg : Str → Option Value} {base : Heap}
theorem scWay : FnScope ["value", "posting", "keeping", "answering", "marking"] ["value"] (defScope sIsWay) := ⟨rfl, rfl, rfl, by decide +kernel, rfl, by decide +kernel, by decide +kernel⟩
theorem ok_way {f C t0 t1 t2 t3 : Addr} {mc : Value} {fd : FuncData} (F : Fun K "is_way" "is_way" sIsWay f fd) (T : Txt mg) (TI : TxtI mg) (TW : WaysT K mg C mc t0 t1 t2 t3) : FnOk P w K mg base CX0 1 f fd ["value"] (spWay K) := by
  refine F.ok scWay (fun vs H Q E h => ?_) (fun cdv A outer s H vs Q E hr h => ?_)
  · obtain ⟨r, p, k, a, m, rfl, _⟩ := h
    rfl
  · obtain ⟨r, p, k, a, m, rfl, ⟨hR, iR⟩, kQ⟩ := h
    refine ⟨_, (pss_cons (ps_if (PW.pt (pw_or (pt_not (pt_val (pe_callB call_isi (by rfl) TI.isinstance (by decide +kernel) (pa_cons (pv 0) (pa_cons (pe_bltn (v := V.ty "tuple") (by rfl) TI.tuple (by decide +kernel) rfl) pa_nil))))) (pw_or1 (pt_cmpR op_ne (pe_callB call_len_seq (by rfl) T.len PySem.boot_len (pa_cons (pv 0) pa_nil)) pe_int (nomark _))))) (pss_one (ps_ret pe_bl)) pss_nil)
      (pss_cons (ps_asg (pv 0) (pg_tup (by rfl) (pgs_cons (pg_name (i := 1) scWay.nd rfl (Or.inl rfl)) (pgs_cons (pg_name (i := 2) scWay.nd rfl (Or.inl rfl)) (pgs_cons (pg_name (i := 3) scWay.nd rfl (Or.inl rfl)) (pgs_cons (pg_name (i := 4) scWay.nd rfl (Or.inl rfl)) pgs_nil))))))
      (pss_cons (ps_if (PW.pt (pw_or (pt_cmpR op_notIn_seq (pv 1) (ClX.pe_cval (f := "POSTING") (pe_glob (v := V.ref C) (by rfl) TW.at_ rfl)) rfl) (pw_or1 (pt_cmpR op_notIn_seq (pv 2) (ClX.pe_cval (f := "KEEPING") (pe_glob (v := V.ref C) (by rfl) TW.at_ rfl)) rfl)))) (pss_one (ps_ret pe_bl)) pss_nil)
      (pss_one (ps_ret (pe_and (pe_cmpR op_in_seq (pv 3) (ClX.pe_cval (f := "ANSWERING") (pe_glob (v := V.ref C) (by rfl) TW.at_ rfl)) rfl) (pe_one (pe_cmpR op_in_seq (pv 4) (ClX.pe_cval (f := "MARKING") (pe_glob (v := V.ref C) (by rfl) TW.at_ rfl)) rfl)))))))), ?_⟩
    have i1 : inV (.str p) [.str "outbox", .str "after", .str "before"] = true := by rcases iR.p with e | e | e <;> subst e <;> decide +kernel
    have i2 : inV (.str k) [.str "inbox", .str "late", .str "plain"] = true := by rcases iR.k with e | e | e <;> subst e <;> decide +kernel
    have i3 : inV (.str a) [.str "behind", .str "ahead"] = true := by rcases iR.a with e | e <;> subst e <;> decide +kernel
    have i4 : inV (.str m) [.str "behind", .str "ahead"] = true := by rcases iR.m with e | e <;> subst e <;> decide +kernel
    have rp : Rp K H (.ref r) (.tuple [.str p, .str k, .str a, .str m]) := .tup hR (.cons (.str p) (.cons (.str k) (.cons (.str a) (.cons (.str m) .nil))))
    refine ⟨_, rfl, .ref r, .ty "tuple", _, _, _, rfl, .ty _, rp_ty rp, kit_tup _, _, rfl, iteF ?_⟩
    refine ⟨_, rfl, r, _, rfl, .inr hR, rfl, false, by simp, iteF ?_⟩
    refine ⟨_, rfl, r, _, rfl, hR, rfl, _, _, rfl, _, _, rfl, _, _, rfl, _, _, rfl, rfl, ?_⟩
    refine ⟨_, rfl, C, mc, _, _, rfl, TW.rd, TW.c0, t0, _, rfl, .inr (TW.h0 _), rfl, rfl, false, by simp [i1], iteF ?_⟩
    refine ⟨_, rfl, C, mc, _, _, rfl, TW.rd, TW.c1, t1, _, rfl, .inr (TW.h1 _), rfl, rfl, false, by simp [i2], iteF ?_⟩
    refine ⟨_, rfl, C, mc, _, _, rfl, TW.rd, TW.c2, t2, _, rfl, .inr (TW.h2 _), rfl, rfl, true, by simp [i3], iteT ?_⟩
    refine ⟨_, rfl, C, mc, _, _, rfl, TW.rd, TW.c3, t3, _, rfl, .inr (TW.h3 _), rfl, rfl, ?_⟩
    have e4 : V.bl (if false = true then !inV (.str m) [.str "behind", .str "ahead"] else inV (.str m) [.str "behind", .str "ahead"]) = .bl true := by simp [i4]
    rw [e4]
    exact kQ
end
end K69

set_option Elab.async false
set_option linter.all false
set_option maxRecDepth 100000
set_option maxHeartbeats 8000000
namespace K69
open PySem L2 Pen RG KEq
theorem ps_no {X : Cx} {st : Stmt} : PS X st (fun _ _ _ => False) := ⟨fun _ _ _ _ _ _ h => h.elim⟩
def spIsNum (K : PySem.W.Frag) : Sp := fun vs H Q _ => ∃ i : Int, vs = [.int i] ∧ Q (.bl true) H
/-- the fewest and the most runs -/
def lr (k a : Str) (n f : Int) : Int × Int :=
  if a = "behind" then (if k = "plain" then n else 1, (if k = "plain" then n else 1) + f)
  else if k = "plain" then (mx 0 (n - f), n) else (if f ≥ n then 0 else 1, mn n (f + 1))
def spRuns (K : PySem.W.Frag) : Sp := fun vs H Q _ => ∃ (r : Addr) (p k a m : Str) (n f : Int), vs = [.ref r, .int n, .int f] ∧ Road K H r p k a m ∧ ∀ v H', Same H H' → Two K H' v (lr k a n f) → Q v H'
/-- the commits, and all four numbers -/
def cmP (k a : Str) (n f : Int) : Int := if k = "inbox" then 1 else (lr k a n f).2
def accP (p k a m : Str) (n f l : Int) : List V :=
  if p = "before" then [.int (lr k a n f).1, .int (cmP k a n f), .int (lr k a n f).1, .int ((lr k a n f).2 + l)]
  else if p = "after" then [.int (lr k a n f).1, .int (cmP k a n f), .int (if k = "inbox" then mx 0 (1 - f) else (lr k a n f).1), .int (cmP k a n f + l)]
  else if m = "behind" then [.int (lr k a n f).1, .int (cmP k a n f), .int (lr k a n f).1, .int (cmP k a n f + f + l)]
  else [.int (lr k a n f).1, .int (cmP k a n f), .int (mx 0 ((lr k a n f).1 - f)), .int (cmP k a n f + l)]
theorem four_cong {a b c d a2 b2 c2 d2 : Int} (h1 : a = a2) (h2 : b = b2) (h3 : c = c2) (h4 : d = d2) : [V.int a, V.int b, V.int c, V.int d] = [V.int a2, V.int b2, V.int c2, V.int d2] := by rw [h1, h2, h3, h4]
theorem acc_eq {p k a m : Str} (iR : IsRoad p k a m) {c f l : Int} (hc : 0 ≤ c) (hf : 0 ≤ f) (hl : 0 ≤ l) : four p k a m (c + 1) f l = accP p k a m (c + 1) f l := by
  obtain ⟨hp, hk, ha, hm⟩ := iR
  have n1 : (("outbox" : Str) = "after") = False := by decide +kernel
  have n2 : (("outbox" : Str) = "before") = False := by decide +kernel
  have n3 : (("after" : Str) = "before") = False := by decide +kernel
  have n4 : (("after" : Str) = "outbox") = False := by decide +kernel
  have n5 : (("before" : Str) = "outbox") = False := by decide +kernel
  have n6 : (("before" : Str) = "after") = False := by decide +kernel
  have n7 : (("late" : Str) = "inbox") = False := by decide +kernel
  have n8 : (("plain" : Str) = "inbox") = False := by decide +kernel
  have n9 : (("plain" : Str) = "late") = False := by decide +kernel
  have n10 : (("late" : Str) = "plain") = False := by decide +kernel
  have n11 : (("inbox" : Str) = "plain") = False := by decide +kernel
  have n12 : (("ahead" : Str) = "behind") = False := by decide +kernel
  rcases hp with rfl | rfl | rfl <;> rcases hk with rfl | rfl | rfl <;> rcases ha with rfl | rfl <;> rcases hm with rfl | rfl <;>
    simp only [four, accP, cmP, lr, comT, pT, pbT, paT, sel, mx, mn, one, n1, n2, n3, n4, n5, n6, n7, n8, n9, n10, n11, n12, if_true, if_false, and_true, true_and, and_false, false_and, decide_eq_true_eq] <;>
    (refine four_cong ?_ ?_ ?_ ?_) <;> (repeat' split) <;> omega
theorem iteT' {b : Bool} {A B : Prop} (h : b = true) (a : A) : if b = true then A else B := by rw [if_pos h]; exact a
theorem iteF' {b : Bool} {A B : Prop} (h : ¬ b = true) (a : B) : if b = true then A else B := by rw [if_neg h]; exact a
section
variable {P : Program} {w : World} {K : PySem.W.Frag} {mg : Str → Option Value} {base : Heap}
theorem scIsNum : FnScope ["value"] ["value"] (defScope sIsNum) := ⟨rfl, rfl, rfl, by decide +kernel, rfl, by decide +kernel, by decide +kernel⟩
theorem ok_isnum {f : Addr} {fd : FuncData} (F : Fun K "is_number" "is_number" sIsNum f fd) (TI : TxtI mg) : FnOk P w K mg base CX0 1 f fd ["value"] (spIsNum K) := by
  refine F.ok scIsNum (fun vs H Q E h => ?_) (fun cdv A outer s H vs Q E hr h => ?_)
  · obtain ⟨i, rfl, _⟩ := h
    rfl
  · obtain ⟨i, rfl, k⟩ := h
    refine ⟨_, (pss_one (ps_ret (pe_and (pe_callB call_isi (by rfl) TI.isinstance (by decide +kernel) (pa_cons (pv 0) (pa_cons (pe_bltn (v := V.ty "int") (by rfl) TI.int (by decide +kernel) rfl) pa_nil))) (pe_one (pe_not (pe_callB call_isi (by rfl) TI.isinstance (by decide +kernel) (pa_cons (pv 0) (pa_cons (pe_bltn (v := V.ty "bool") (by rfl) TI.bool (by decide +kernel) rfl) pa_nil)))))))), ?_⟩
    have r : Rp K H (.int i) (.int i) := .int i
    refine ⟨_, rfl, .int i, .ty "int", _, _, _, rfl, .ty _, rp_ty r, kit_int _, _, rfl, iteT ?_⟩
    exact ⟨_, rfl, .int i, .ty "bool", _, _, _, rfl, .ty _, rp_ty r, kit_bool _, _, rfl, k⟩
theorem scRuns : FnScope ["way", "entries", "crashes", "_", "keeping", "answering", "least"] ["way", "entries", "crashes"] (defScope sRuns) := ⟨rfl, rfl, rfl, by decide +kernel, rfl, by decide +kernel, by decide +kernel⟩
theorem ok_runs {f : Addr} {fd : FuncData} (F : Fun K "runs_of" "runs_of" sRuns f fd) (T : Txt mg) : FnOk P w K mg base CX0 1 f fd ["way", "entries", "crashes"] (spRuns K) := by
  refine F.ok scRuns (fun vs H Q E h => ?_) (fun cdv A outer s H vs Q E hr h => ?_)
  · obtain ⟨r, p, k, a, m, n, f, rfl, _⟩ := h
    rfl
  · obtain ⟨r, p, k, a, m, n, f, rfl, ⟨hR, iR⟩, kQ⟩ := h
    refine ⟨_, (pss_cons (ps_asg (pv 0) (pg_tup (by rfl) (pgs_cons (pg_name (i := 3) scRuns.nd rfl (Or.inl rfl)) (pgs_cons (pg_name (i := 4) scRuns.nd rfl (Or.inl rfl)) (pgs_cons (pg_name (i := 5) scRuns.nd rfl (Or.inl rfl)) (pgs_cons (pg_name (i := 3) scRuns.nd rfl (Or.inl rfl)) pgs_nil))))))
      (pss_cons (ps_if (pt_cmpR op_eq (pv 5) pe_str (nomark _)) (pss_cons (ps_set (i := 6) scRuns.nd rfl (Or.inl rfl) (pe_ifExp (pt_cmpR op_eq (pv 4) pe_str (nomark _)) (pv 1) pe_int))
      (pss_one (ps_ret (Ab.pe_tupA (pa_cons (pv 6) (pa_cons (pe_op op_add (pv 6) (pv 2)) pa_nil)))))) pss_nil)
      (pss_cons (ps_if (pt_cmpR op_eq (pv 4) pe_str (nomark _)) (pss_one (ps_ret (Ab.pe_tupA (pa_cons (pe_callB (call_max2 rfl) (by rfl) T.max (by decide +kernel) (pa_cons pe_int (pa_cons (pe_op op_sub (pv 1) (pv 2)) pa_nil))) (pa_cons (pv 1) pa_nil))))) pss_nil)
      (pss_one (ps_ret (Ab.pe_tupA (pa_cons (pe_ifExp (pt_cmpR op_ge (pv 2) (pv 1) (nomark _)) pe_int pe_int) (pa_cons (pe_callB (call_min2 rfl) (by rfl) T.min (by decide +kernel) (pa_cons (pv 1) (pa_cons (pe_op op_add (pv 2) pe_int) pa_nil))) pa_nil)))))))), ?_⟩
    have fin : ∀ {t : Addr} {G : Hp} {x y : Int}, Same H G → G t = some (.tup [.int x, .int y]) → lr k a n f = (x, y) → Q (.ref t) G := fun sg eg el => kQ _ _ sg ⟨_, rfl, by rw [el]; exact .of eg⟩
    have str : ∀ {x y : Str}, decide (V.str x = V.str y) = true → x = y := fun h => V.str.inj (of_decide_eq_true h)
    have nstr : ∀ {x y : Str}, ¬ decide (V.str x = V.str y) = true → ¬ x = y := fun h e => h (decide_eq_true (congrArg V.str e))
    refine ⟨_, rfl, r, _, rfl, hR, rfl, _, _, rfl, _, _, rfl, _, _, rfl, _, _, rfl, rfl, ?_⟩
    refine ⟨_, rfl, rfl, _, rfl, ite2 (fun h1 => ⟨_, rfl, rfl, _, rfl, ite2 (fun h2 => ?A) (fun h2 => ?B)⟩) (fun h1 => ⟨_, rfl, rfl, _, rfl, ite2 (fun h2 => ?C) (fun h2 => ?D)⟩)⟩
    case A =>
      refine ⟨_, rfl, _, rfl, _, rfl, _, rfl, _, _, rfl, rfl, sz (by simp), fun t G nt st et => fin st et ?_⟩
      unfold lr
      rw [if_pos (str h1), if_pos (str h2)]
    case B =>
      refine ⟨_, rfl, _, rfl, _, rfl, _, _, rfl, rfl, sz (by simp), fun t G nt st et => fin st et ?_⟩
      unfold lr
      rw [if_pos (str h1), if_neg (nstr h2)]
    case C =>
      refine ⟨_, rfl, _, rfl, _, _, rfl, rfl, _, _, rfl, _, rfl, sz (by simp), fun t G nt st et => fin st et ?_⟩
      unfold lr mx
      rw [if_neg (nstr h1), if_pos (str h2)]
    case D =>
      refine ⟨_, rfl, _, rfl, _, _, rfl, rfl, _, rfl, ite2 (fun h3 => ?E) (fun h3 => ?F)⟩
      case E =>
        refine ⟨_, rfl, _, rfl, _, _, rfl, rfl, _, _, rfl, sz (by simp), fun t G nt st et => fin st et ?_⟩
        unfold lr mn
        rw [if_neg (nstr h1), if_neg (nstr h2), if_pos (of_decide_eq_true h3)]
      case F =>
        refine ⟨_, rfl, _, rfl, _, _, rfl, rfl, _, _, rfl, sz (by simp), fun t G nt st et => fin st et ?_⟩
        unfold lr mn
        rw [if_neg (nstr h1), if_neg (nstr h2), if_neg (fun z => h3 (decide_eq_true z))]
theorem scAcc : FnScope ["way", "copies", "crashes", "losses", "most", "value", "posting", "keeping", "_", "marking", "least", "runs", "commits"] ["way", "copies", "crashes", "losses"] (defScope sAcc) := ⟨rfl, rfl, rfl, by decide +kernel, rfl, by decide +kernel, by decide +kernel⟩
theorem ok_acc {f fW fJ fR : Addr} {fd dW dJ dR : FuncData} (F : Fun K "account" "account" sAcc f fd) (T : Txt mg)
    (GY : FnOk P w K mg base CX0 1 fW dW ["value"] (spWay K)) (TY : DefT K mg "is_way" fW) (bY : Binds K dW ["value"] [])
    (GJ : FnOk P w K mg base CX0 1 fJ dJ ["value"] (spIsNum K)) (TJ : DefT K mg "is_number" fJ) (bJ : Binds K dJ ["value"] [])
    (GR : FnOk P w K mg base CX0 1 fR dR ["way", "entries", "crashes"] (spRuns K)) (TR : DefT K mg "runs_of" fR) (bR : Binds K dR ["way", "entries", "crashes"] []) : FnOk P w K mg base CX0 2 f fd ["way", "copies", "crashes", "losses"] (spAcc K) := by
  refine F.ok scAcc (fun vs H Q E h => ?_) (fun cdv A outer s H vs Q E hr h => ?_)
  · obtain ⟨r, p, k, a, m, c, f, l, rfl, _⟩ := h
    rfl
  · obtain ⟨r, p, k, a, m, c, f, l, rfl, hRoad, hc, hf, hl, kQ⟩ := h
    refine ⟨_, (pss_cons (ps_if (pt_not (pt_val (pe_call GY (hr.mono (by decide)) rfl TY.mg TY.kp bY .nil pass0 (pa_cons (pv 0) pa_nil)))) (pss_one ps_no) pss_nil)
      (pss_cons (ps_set (i := 4) scAcc.nd rfl (Or.inl rfl) (pe_op op_mulW (pe_op op_pow pe_int pe_int) (pe_op op_pow pe_int pe_int)))
      (pss_cons (ps_for PassesOwn.never rfl (pi_tup (Ab.pe_tupA (pa_cons (pv 1) (pa_cons (pv 2) (pa_cons (pv 3) pa_nil))))) (pg_name (i := 5) scAcc.nd rfl (Or.inl rfl)) (pss_one (ps_if (PW.pt (pw_or (pt_not (pt_val (pe_call GJ (hr.mono (by decide)) rfl TJ.mg TJ.kp bJ .nil pass0 (pa_cons (pv 5) pa_nil)))) (pw_or1 (pt_not (pt_chain op_le op_le pe_int (pv 5) (pv 4)))))) (pss_one ps_no) pss_nil)))
      (pss_cons (ps_asg (pv 0) (pg_tup (by rfl) (pgs_cons (pg_name (i := 6) scAcc.nd rfl (Or.inl rfl)) (pgs_cons (pg_name (i := 7) scAcc.nd rfl (Or.inl rfl)) (pgs_cons (pg_name (i := 8) scAcc.nd rfl (Or.inl rfl)) (pgs_cons (pg_name (i := 9) scAcc.nd rfl (Or.inl rfl)) pgs_nil))))))
      (pss_cons (ps_asg (pe_call GR (hr.mono (by decide)) rfl TR.mg TR.kp bR .nil pass0 (pa_cons (pv 0) (pa_cons (pe_op op_add (pv 1) pe_int) (pa_cons (pv 2) pa_nil)))) (pg_tup (by rfl) (pgs_cons (pg_name (i := 10) scAcc.nd rfl (Or.inl rfl)) (pgs_cons (pg_name (i := 11) scAcc.nd rfl (Or.inl rfl)) pgs_nil))))
      (pss_cons (ps_set (i := 12) scAcc.nd rfl (Or.inl rfl) (pe_ifExp (pt_cmpR op_eq (pv 7) pe_str (nomark _)) pe_int (pv 11)))
      (pss_cons (ps_if (pt_cmpR op_eq (pv 6) pe_str (nomark _)) (pss_one (ps_ret (Ab.pe_tupA (pa_cons (pv 10) (pa_cons (pv 12) (pa_cons (pv 10) (pa_cons (pe_op op_add (pv 11) (pv 3)) pa_nil))))))) pss_nil)
      (pss_cons (ps_if (pt_cmpR op_eq (pv 6) pe_str (nomark _)) (pss_one (ps_ret (Ab.pe_tupA (pa_cons (pv 10) (pa_cons (pv 12) (pa_cons (pe_ifExp (pt_cmpR op_eq (pv 7) pe_str (nomark _)) (pe_callB (call_max2 rfl) (by rfl) T.max (by decide +kernel) (pa_cons pe_int (pa_cons (pe_op op_sub pe_int (pv 2)) pa_nil))) (pv 10)) (pa_cons (pe_op op_add (pv 12) (pv 3)) pa_nil))))))) pss_nil)
      (pss_cons (ps_if (pt_cmpR op_eq (pv 9) pe_str (nomark _)) (pss_one (ps_ret (Ab.pe_tupA (pa_cons (pv 10) (pa_cons (pv 12) (pa_cons (pv 10) (pa_cons (pe_op op_add (pe_op op_add (pv 12) (pv 2)) (pv 3)) pa_nil))))))) pss_nil)
      (pss_one (ps_ret (Ab.pe_tupA (pa_cons (pv 10) (pa_cons (pv 12) (pa_cons (pe_callB (call_max2 rfl) (by rfl) T.max (by decide +kernel) (pa_cons pe_int (pa_cons (pe_op op_sub (pv 10) (pv 2)) pa_nil))) (pa_cons (pe_op op_add (pv 12) (pv 3)) pa_nil)))))))))))))))), ?_⟩
    have e50 : (10 : Int) ^ Int.toNat 50 * 10 ^ Int.toNat 50 = great := by decide +kernel
    have pw : ((10 : Int) ^ Int.toNat 50).natAbs < 2 ^ 400 := by decide +kernel
    refine ⟨_, rfl, r, p, k, a, m, rfl, hRoad, _, rfl, iteF ?_⟩
    refine ⟨_, _, rfl, rfl, ⟨by decide, by decide, by decide⟩, _, _, rfl, rfl, ⟨by decide, by decide, by decide⟩, _, _, rfl, rfl, wide_mul pw pw (by decide) (by decide) (by decide), ?_⟩
    refine ⟨_, rfl, _, rfl, _, rfl, sz (by simp), fun tt G0 nt s0 et => ⟨tt, rfl, ⟨_, SqT.of et⟩, for_tup (xs := [V.int c, V.int f, V.int l]) (fun i σ H' => (σ.length = 13 ∧ σ[0]? = some (some (.ref r)) ∧ σ[1]? = some (some (.int c)) ∧ σ[2]? = some (some (.int f)) ∧ σ[3]? = some (some (.int l)) ∧ σ[4]? = some (some (.int great))) ∧ H' = G0) ⟨⟨rfl, rfl, rfl, rfl, rfl, congrArg (fun z => some (some (V.int z))) e50⟩, rfl⟩ ?_ ?_ ?_⟩⟩
    · rintro i σ H' _ ⟨_, rfl⟩
      exact .of et
    · rintro i x σ H' hx ⟨⟨v, v0, v1, v2, v3, v4⟩, rfl⟩
      have hx' : ∃ z : Int, x = .int z ∧ 0 ≤ z ∧ z ≤ great := by
        match i, hx with
        | 0, hx => exact ⟨c, (Option.some.inj hx).symm, hc⟩
        | 1, hx => exact ⟨f, (Option.some.inj hx).symm, hf⟩
        | 2, hx => exact ⟨l, (Option.some.inj hx).symm, hl⟩
      obtain ⟨z, rfl, z0, z1⟩ := hx'
      have y0 : (σ.set 5 (some (V.int z)))[5]? = some (some (V.int z)) := by simp [v]
      have y4 : (σ.set 5 (some (V.int z)))[4]? = some (some (V.int great)) := by
        rw [List.getElem?_set_ne (by decide)]
        exact v4
      have c1 : decide (0 ≤ z) = true := decide_eq_true z0
      have c2 : decide (z ≤ great) = true := decide_eq_true z1
      refine ⟨_, y0, z, rfl, _, rfl, iteF ?_⟩
      refine ⟨_, y0, _, _, rfl, rfl, _, rfl, iteT' c1 ⟨_, y4, _, _, rfl, rfl, _, rfl, ?_⟩⟩
      rw [c2]
      exact ⟨⟨by simp [v], (List.getElem?_set_ne (by omega)).trans v0, (List.getElem?_set_ne (by omega)).trans v1, (List.getElem?_set_ne (by omega)).trans v2, (List.getElem?_set_ne (by omega)).trans v3, y4⟩, rfl⟩
    · rintro σ H' ⟨⟨v, v0, v1, v2, v3, v4⟩, rfl⟩
      obtain ⟨x0, x1, x2, x3, x4, x5, x6, x7, x8, x9, x10, x11, x12, rfl⟩ : ∃ x0 x1 x2 x3 x4 x5 x6 x7 x8 x9 x10 x11 x12, σ = [x0, x1, x2, x3, x4, x5, x6, x7, x8, x9, x10, x11, x12] := by
        match σ, v with
        | [x0, x1, x2, x3, x4, x5, x6, x7, x8, x9, x10, x11, x12], _ => exact ⟨x0, x1, x2, x3, x4, x5, x6, x7, x8, x9, x10, x11, x12, rfl⟩
      obtain rfl : x0 = _ := Option.some.inj v0
      obtain rfl : x1 = _ := Option.some.inj v1
      obtain rfl : x2 = _ := Option.some.inj v2
      obtain rfl : x3 = _ := Option.some.inj v3
      clear v v0 v1 v2 v3 v4
      have hR : SqT K H' r [V.str p, V.str k, V.str a, V.str m] := Dat.sqT_same s0 hRoad.1
      have iR := hRoad.2
      have fin : ∀ {t : Addr} {G : Hp} {xs : List V}, Same H' G → G t = some (.tup xs) → accP p k a m (c + 1) f l = xs → Q (.ref t) G := fun sg eg el => kQ _ _ (s0.trans sg) (by rw [acc_eq iR hc.1 hf.1 hl.1, el]; exact .of eg)
      have str : ∀ {x y : Str}, decide (V.str x = V.str y) = true → x = y := fun h => V.str.inj (of_decide_eq_true h)
      have nstr : ∀ {x y : Str}, ¬ decide (V.str x = V.str y) = true → ¬ x = y := fun h e => h (decide_eq_true (congrArg V.str e))
      refine ⟨_, rfl, r, _, rfl, hR, rfl, _, _, rfl, _, _, rfl, _, _, rfl, _, _, rfl, rfl, ?_⟩
      refine ⟨_, rfl, _, rfl, _, _, rfl, rfl, _, rfl, r, p, k, a, m, _, _, rfl, ⟨hR, iR⟩, fun v G1 s1 tw => ?_⟩
      obtain ⟨t1, rfl, q1⟩ := tw
      refine ⟨t1, _, rfl, q1, rfl, _, _, rfl, _, _, rfl, rfl, ?_⟩
      have cmy : k = "inbox" → cmP k a (c + 1) f = 1 := fun e => if_pos e
      have cmn : ¬ k = "inbox" → cmP k a (c + 1) f = (lr k a (c + 1) f).2 := fun e => if_neg e
      refine ⟨_, rfl, rfl, _, rfl, ite2 (fun hk => ?A) (fun hk => ⟨_, rfl, ?B⟩)⟩
      case' A => have ek := cmy (str hk)
      case' B => have ek := cmn (nstr hk)
      case' A => have em : (if k = "inbox" then mx 0 (1 - f) else (lr k a (c + 1) f).1) = mx 0 (1 - f) := if_pos (str hk)
      case' B => have em : (if k = "inbox" then mx 0 (1 - f) else (lr k a (c + 1) f).1) = (lr k a (c + 1) f).1 := if_neg (nstr hk)
      all_goals
        refine ⟨_, rfl, rfl, _, rfl, ite2 (fun h1 => ?_) (fun h1 => ⟨_, rfl, rfl, _, rfl, ite2 (fun h2 => ?_) (fun h2 => ⟨_, rfl, rfl, _, rfl, ite2 (fun h3 => ?_) (fun h3 => ?_)⟩)⟩)⟩
        · refine ⟨_, rfl, _, rfl, _, rfl, _, rfl, _, rfl, _, _, rfl, rfl, sz (by simp), fun t G nt st et => fin (s1.trans st) et ?_⟩
          unfold accP
          rw [if_pos (str h1), ek]
        · first
            | (refine ⟨_, rfl, _, rfl, _, rfl, rfl, _, rfl, iteT' hk ⟨_, rfl, _, _, rfl, rfl, _, _, rfl, _, rfl, _, rfl, _, _, rfl, rfl, sz (by simp), fun t G nt st et => fin (s1.trans st) et ?_⟩⟩; skip)
            | (refine ⟨_, rfl, _, rfl, _, rfl, rfl, _, rfl, iteF' hk ⟨_, rfl, _, rfl, _, rfl, _, _, rfl, rfl, sz (by simp), fun t G nt st et => fin (s1.trans st) et ?_⟩⟩; skip)
          unfold accP
          rw [if_neg (nstr h1), if_pos (str h2), ek, em]
          try rfl
        · refine ⟨_, rfl, _, rfl, _, rfl, _, rfl, _, rfl, _, _, rfl, rfl, _, rfl, _, _, rfl, rfl, sz (by simp), fun t G nt st et => fin (s1.trans st) et ?_⟩
          unfold accP
          rw [if_neg (nstr h1), if_neg (nstr h2), if_pos (str h3), ek]
        · refine ⟨_, rfl, _, rfl, _, rfl, _, rfl, _, _, rfl, rfl, _, _, rfl, _, rfl, _, rfl, _, _, rfl, rfl, sz (by simp), fun t G nt st et => fin (s1.trans st) et ?_⟩
          unfold accP
          rw [if_neg (nstr h1), if_neg (nstr h2), if_neg (nstr h3), ek]
          rfl
end
end K69

set_option Elab.async false
set_option linter.all false
set_option maxRecDepth 100000
set_option maxHeartbeats 8000000
namespace K69
open PySem L2 Pen RG KEq
theorem kwd_rev {vs : List V} {us : List Value} (r : Vals vs us) : Vals vs.reverse us.reverse := by
  induction r with
  | nil => exact .nil
  | cons a r ih =>
    rw [List.reverse_cons, List.reverse_cons]
    exact Vals.append ih (.cons a .nil)
theorem all_mk {l : PySem.W.OpenLaw} {w : World} {K : PySem.W.Frag} {h : Heap} {mg : Str → Option Value} {C pE t0 t1 t2 t3 fa g0 g1 g2 g3 g4 g5 g6 g7 g8 g9 g10 g11 g12 : Addr} {goc0 gkV0 gdc0 gpm0 gcd0 gct0 goc1 gkV1 gdc1 gpm1 gcd1 gct1 goc2 gkV2 gdc2 gpm2 gcd2 gct2 goc3 gkV3 gdc3 gpm3 gcd3 gct3 goc4 gkV4 gdc4 gpm4 gcd4 gct4 goc5 gkV5 gdc5 gpm5 gcd5 gct5 goc6 gkV6 gdc6 gpm6 gcd6 gct6 goc7 gkV7 gdc7 gpm7 gcd7 gct7 goc8 gkV8 gdc8 gpm8 gcd8 gct8 goc9 gkV9 gdc9 gpm9 gcd9 gct9 goc10 gkV10 gdc10 gpm10 gcd10 gct10 goc11 gkV11 gdc11 gpm11 gcd11 gct11 goc12 gkV12 gdc12 gpm12 gcd12 gct12 : Value} {god0 gan0 god1 gan1 god2 gan2 god3 gan3 god4 gan4 god5 gan5 god6 gan6 god7 gan7 god8 gan8 god9 gan9 god10 gan10 god11 gan11 god12 gan12 tod0 tod1 tod2 tod3 : Option Addr} {gsl0 gsl1 gsl2 gsl3 gsl4 gsl5 gsl6 gsl7 gsl8 gsl9 gsl10 gsl11 gsl12 tsl0 tsl1 tsl2 tsl3 : Array (Option Value)} {tk00 tk01 tk02 tk10 tk11 tk12 tk20 tk21 tk30 tk31 : Tok} {tn0 tn1 tn2 tn3 : Nat} {rest : List Value} (X : K.In h) (G : h.Ns mainGlobals mg) (hfa : mg "law" = some (.ref fa))
    (z_int : PySem.W.nsIn K mainGlobals "int" = some none)
    (z_len : PySem.W.nsIn K mainGlobals "len" = some none)
    (z_abs : PySem.W.nsIn K mainGlobals "abs" = some none)
    (z_list : PySem.W.nsIn K mainGlobals "list" = some none)
    (z_dict : PySem.W.nsIn K mainGlobals "dict" = some none)
    (z_min : PySem.W.nsIn K mainGlobals "min" = some none)
    (z_max : PySem.W.nsIn K mainGlobals "max" = some none)
    (z_range : PySem.W.nsIn K mainGlobals "range" = some none)
    (z_repr : PySem.W.nsIn K mainGlobals "repr" = some none)
    (z_isinstance : PySem.W.nsIn K mainGlobals "isinstance" = some none)
    (z_tuple : PySem.W.nsIn K mainGlobals "tuple" = some none)
    (z_bool : PySem.W.nsIn K mainGlobals "bool" = some none)
    (aD0 : PySem.W.nsIn K mainGlobals "_law_tape" = some (some (.ref g0)))
    (lD0 : K.lookup g0 = some ⟨goc0, god0, .func (PySem.W.fnOf "_law_tape" "_law_tape" (defArgs sTape) (defBody sTape) (defScope sTape) .none gkV0 gdc0 gpm0 gan0 gcd0 gct0), gsl0⟩)
    (cD0 : PySem.W.codeIn K gcd0 "_law_tape" = true)
    (kD0 : PySem.W.keepIn K (.ref g0) = true)
    (aD1 : PySem.W.nsIn K mainGlobals "_law_draw" = some (some (.ref g1)))
    (lD1 : K.lookup g1 = some ⟨goc1, god1, .func (PySem.W.fnOf "_law_draw" "_law_draw" (defArgs sDraw) (defBody sDraw) (defScope sDraw) .none gkV1 gdc1 gpm1 gan1 gcd1 gct1), gsl1⟩)
    (cD1 : PySem.W.codeIn K gcd1 "_law_draw" = true)
    (kD1 : PySem.W.keepIn K (.ref g1) = true)
    (aD2 : PySem.W.nsIn K mainGlobals "_law_pick" = some (some (.ref g2)))
    (lD2 : K.lookup g2 = some ⟨goc2, god2, .func (PySem.W.fnOf "_law_pick" "_law_pick" (defArgs sPick) (defBody sPick) (defScope sPick) .none gkV2 gdc2 gpm2 gan2 gcd2 gct2), gsl2⟩)
    (cD2 : PySem.W.codeIn K gcd2 "_law_pick" = true)
    (kD2 : PySem.W.keepIn K (.ref g2) = true)
    (aD3 : PySem.W.nsIn K mainGlobals "_law_number" = some (some (.ref g3)))
    (lD3 : K.lookup g3 = some ⟨goc3, god3, .func (PySem.W.fnOf "_law_number" "_law_number" (defArgs sNum) (defBody sNum) (defScope sNum) .none gkV3 gdc3 gpm3 gan3 gcd3 gct3), gsl3⟩)
    (cD3 : PySem.W.codeIn K gcd3 "_law_number" = true)
    (kD3 : PySem.W.keepIn K (.ref g3) = true)
    (aD4 : PySem.W.nsIn K mainGlobals "_law_commits" = some (some (.ref g4)))
    (lD4 : K.lookup g4 = some ⟨goc4, god4, .func (PySem.W.fnOf "_law_commits" "_law_commits" (defArgs sCom) (defBody sCom) (defScope sCom) .none gkV4 gdc4 gpm4 gan4 gcd4 gct4), gsl4⟩)
    (cD4 : PySem.W.codeIn K gcd4 "_law_commits" = true)
    (kD4 : PySem.W.keepIn K (.ref g4) = true)
    (aD5 : PySem.W.nsIn K mainGlobals "_law_posts_behind" = some (some (.ref g5)))
    (lD5 : K.lookup g5 = some ⟨goc5, god5, .func (PySem.W.fnOf "_law_posts_behind" "_law_posts_behind" (defArgs sPB) (defBody sPB) (defScope sPB) .none gkV5 gdc5 gpm5 gan5 gcd5 gct5), gsl5⟩)
    (cD5 : PySem.W.codeIn K gcd5 "_law_posts_behind" = true)
    (kD5 : PySem.W.keepIn K (.ref g5) = true)
    (aD6 : PySem.W.nsIn K mainGlobals "_law_posts_ahead" = some (some (.ref g6)))
    (lD6 : K.lookup g6 = some ⟨goc6, god6, .func (PySem.W.fnOf "_law_posts_ahead" "_law_posts_ahead" (defArgs sPA) (defBody sPA) (defScope sPA) .none gkV6 gdc6 gpm6 gan6 gcd6 gct6), gsl6⟩)
    (cD6 : PySem.W.codeIn K gcd6 "_law_posts_ahead" = true)
    (kD6 : PySem.W.keepIn K (.ref g6) = true)
    (aD7 : PySem.W.nsIn K mainGlobals "account" = some (some (.ref g7)))
    (lD7 : K.lookup g7 = some ⟨goc7, god7, .func (PySem.W.fnOf "account" "account" (defArgs sAcc) (defBody sAcc) (defScope sAcc) .none gkV7 gdc7 gpm7 gan7 gcd7 gct7), gsl7⟩)
    (cD7 : PySem.W.codeIn K gcd7 "account" = true)
    (kD7 : PySem.W.keepIn K (.ref g7) = true)
    (aD8 : PySem.W.nsIn K mainGlobals "is_way" = some (some (.ref g8)))
    (lD8 : K.lookup g8 = some ⟨goc8, god8, .func (PySem.W.fnOf "is_way" "is_way" (defArgs sIsWay) (defBody sIsWay) (defScope sIsWay) .none gkV8 gdc8 gpm8 gan8 gcd8 gct8), gsl8⟩)
    (cD8 : PySem.W.codeIn K gcd8 "is_way" = true)
    (kD8 : PySem.W.keepIn K (.ref g8) = true)
    (aD9 : PySem.W.nsIn K mainGlobals "is_number" = some (some (.ref g9)))
    (lD9 : K.lookup g9 = some ⟨goc9, god9, .func (PySem.W.fnOf "is_number" "is_number" (defArgs sIsNum) (defBody sIsNum) (defScope sIsNum) .none gkV9 gdc9 gpm9 gan9 gcd9 gct9), gsl9⟩)
    (cD9 : PySem.W.codeIn K gcd9 "is_number" = true)
    (kD9 : PySem.W.keepIn K (.ref g9) = true)
    (aD10 : PySem.W.nsIn K mainGlobals "runs_of" = some (some (.ref g10)))
    (lD10 : K.lookup g10 = some ⟨goc10, god10, .func (PySem.W.fnOf "runs_of" "runs_of" (defArgs sRuns) (defBody sRuns) (defScope sRuns) .none gkV10 gdc10 gpm10 gan10 gcd10 gct10), gsl10⟩)
    (cD10 : PySem.W.codeIn K gcd10 "runs_of" = true)
    (kD10 : PySem.W.keepIn K (.ref g10) = true)
    (aD11 : PySem.W.nsIn K mainGlobals "law" = some (some (.ref g11)))
    (lD11 : K.lookup g11 = some ⟨goc11, god11, .func (PySem.W.fnOf "law" "law" (defArgs sLaw) (defBody sLaw) (defScope sLaw) .none gkV11 gdc11 gpm11 gan11 gcd11 gct11), gsl11⟩)
    (cD11 : PySem.W.codeIn K gcd11 "law" = true)
    (kD11 : PySem.W.keepIn K (.ref g11) = true)
    (aW : PySem.W.nsIn K mainGlobals "Ways" = some (some (.ref C)))
    (rW : PySem.W.readsIn K C (.type "type") = true)
    (gW : PySem.W.specialIn K (.ref C) "__getattribute__" = some (some (.builtin "type.__getattribute__")))
    (fW0 : PySem.W.findCls K (.ref C) (.type "type") "POSTING" = some (.val (.ref t0)))
    (tW0 : K.lookup t0 = some ⟨.type "tuple", tod0, .seq #[.str "outbox" tk00, .str "after" tk01, .str "before" tk02] tn0, tsl0⟩)
    (fW1 : PySem.W.findCls K (.ref C) (.type "type") "KEEPING" = some (.val (.ref t1)))
    (tW1 : K.lookup t1 = some ⟨.type "tuple", tod1, .seq #[.str "inbox" tk10, .str "late" tk11, .str "plain" tk12] tn1, tsl1⟩)
    (fW2 : PySem.W.findCls K (.ref C) (.type "type") "ANSWERING" = some (.val (.ref t2)))
    (tW2 : K.lookup t2 = some ⟨.type "tuple", tod2, .seq #[.str "behind" tk20, .str "ahead" tk21] tn2, tsl2⟩)
    (fW3 : PySem.W.findCls K (.ref C) (.type "type") "MARKING" = some (.val (.ref t3)))
    (tW3 : K.lookup t3 = some ⟨.type "tuple", tod3, .seq #[.str "behind" tk30, .str "ahead" tk31] tn3, tsl3⟩)
    (sE : PySem.W.findCls K (.ref C) (.type "type") "every" = some (.get (.builtin "staticmethod.__get__") (.ref pE) .none (.ref C)))
    (aD12 : PySem.W.recIn K pE "staticmethod" = some (.ref g12 :: rest))
    (lD12 : K.lookup g12 = some ⟨goc12, god12, .func (PySem.W.fnOf "every" "Ways.every" (defArgs sEvery) (defBody sEvery) (defScope sEvery) .none gkV12 gdc12 gpm12 gan12 gcd12 gct12), gsl12⟩)
    (cD12 : PySem.W.codeIn K gcd12 "Ways.every" = true)
    (kD12 : PySem.W.keepIn K (.ref g12) = true) :
    ∃ fd : FuncData, (∀ (s : Shared) (v : Value), BindsTo s fd ⟨[v], []⟩ [("_law_script", v)]) ∧ ∀ base : Heap, K.In base → base.Ns mainGlobals mg → FnG l.prog w K mg base CX0 24 fa fd ["_law_script"] (spLaw K) := by
  have e := hfa.symm.trans (PySem.W.mg_of X G aD11)
  cases e
  have FT := fun_mk (st := sTape) lD0 cD0 kD0
  have bT := FT.binds (ps := ["_law_script"]) fun _ _ _ _ _ _ us hl => match us, hl with | [_], _ => rfl
  have TT : DefT K mg "_law_tape" g0 := ⟨PySem.W.mg_of X G aD0, kD0⟩
  have FD := fun_mk (st := sDraw) lD1 cD1 kD1
  have bD := FD.binds (ps := ["_law_tape_here", "_law_many"]) fun _ _ _ _ _ _ us hl => match us, hl with | [_, _], _ => rfl
  have TD : DefT K mg "_law_draw" g1 := ⟨PySem.W.mg_of X G aD1, kD1⟩
  have FP := fun_mk (st := sPick) lD2 cD2 kD2
  have bP := FP.binds (ps := ["_law_tape_here", "_law_options"]) fun _ _ _ _ _ _ us hl => match us, hl with | [_, _], _ => rfl
  have TP : DefT K mg "_law_pick" g2 := ⟨PySem.W.mg_of X G aD2, kD2⟩
  have FN := fun_mk (st := sNum) lD3 cD3 kD3
  have bN := FN.binds (ps := ["_law_tape_here"]) fun _ _ _ _ _ _ us hl => match us, hl with | [_], _ => rfl
  have TN : DefT K mg "_law_number" g3 := ⟨PySem.W.mg_of X G aD3, kD3⟩
  have FC := fun_mk (st := sCom) lD4 cD4 kD4
  have bC := FC.binds (ps := ["_law_road", "_law_many", "_law_falls"]) fun _ _ _ _ _ _ us hl => match us, hl with | [_, _, _], _ => rfl
  have TC : DefT K mg "_law_commits" g4 := ⟨PySem.W.mg_of X G aD4, kD4⟩
  have FB := fun_mk (st := sPB) lD5 cD5 kD5
  have bB := FB.binds (ps := ["_law_road", "_law_many", "_law_falls", "_law_lost"]) fun _ _ _ _ _ _ us hl => match us, hl with | [_, _, _, _], _ => rfl
  have TB : DefT K mg "_law_posts_behind" g5 := ⟨PySem.W.mg_of X G aD5, kD5⟩
  have FH := fun_mk (st := sPA) lD6 cD6 kD6
  have bH := FH.binds (ps := ["_law_road", "_law_many", "_law_falls", "_law_lost"]) fun _ _ _ _ _ _ us hl => match us, hl with | [_, _, _, _], _ => rfl
  have TH : DefT K mg "_law_posts_ahead" g6 := ⟨PySem.W.mg_of X G aD6, kD6⟩
  have FA := fun_mk (st := sAcc) lD7 cD7 kD7
  have bA := FA.binds (ps := ["way", "copies", "crashes", "losses"]) fun _ _ _ _ _ _ us hl => match us, hl with | [_, _, _, _], _ => rfl
  have TA : DefT K mg "account" g7 := ⟨PySem.W.mg_of X G aD7, kD7⟩
  have FY := fun_mk (st := sIsWay) lD8 cD8 kD8
  have bY := FY.binds (ps := ["value"]) fun _ _ _ _ _ _ us hl => match us, hl with | [_], _ => rfl
  have TY : DefT K mg "is_way" g8 := ⟨PySem.W.mg_of X G aD8, kD8⟩
  have FJ := fun_mk (st := sIsNum) lD9 cD9 kD9
  have bJ := FJ.binds (ps := ["value"]) fun _ _ _ _ _ _ us hl => match us, hl with | [_], _ => rfl
  have TJ : DefT K mg "is_number" g9 := ⟨PySem.W.mg_of X G aD9, kD9⟩
  have FR := fun_mk (st := sRuns) lD10 cD10 kD10
  have bR := FR.binds (ps := ["way", "entries", "crashes"]) fun _ _ _ _ _ _ us hl => match us, hl with | [_, _, _], _ => rfl
  have TR : DefT K mg "runs_of" g10 := ⟨PySem.W.mg_of X G aD10, kD10⟩
  have FL := fun_mk (st := sLaw) lD11 cD11 kD11
  have FEv := fun_mk (st := sEvery) lD12 cD12 kD12
  have bEv := FEv.binds (ps := []) fun _ _ _ _ _ _ us hl => match us, hl with | [], _ => rfl
  have T : Txt mg := ⟨PySem.W.mg_none_of X G z_int, PySem.W.mg_none_of X G z_len, PySem.W.mg_none_of X G z_abs, PySem.W.mg_none_of X G z_list, PySem.W.mg_none_of X G z_dict, PySem.W.mg_none_of X G z_min, PySem.W.mg_none_of X G z_max, PySem.W.mg_none_of X G z_range, PySem.W.mg_none_of X G z_repr⟩
  have TI : TxtI mg := ⟨PySem.W.mg_none_of X G z_isinstance, PySem.W.mg_none_of X G z_tuple, PySem.W.mg_none_of X G z_int, PySem.W.mg_none_of X G z_bool⟩
  have tw : ∀ {t : Addr} {od : Option Addr} {its : Array Value} {n : Nat} {sl : Array (Option Value)} {xs : List V}, K.lookup t = some ⟨.type "tuple", od, .seq its n, sl⟩ → its.size ≤ 99 → Vals xs its.toList → ∀ H, SqT K H t xs := fun l z v H => .inr ⟨_, _, _, l, rfl, rfl, Nat.le_trans z (by decide), v⟩
  have TW : WaysT K mg C (.type "type") t0 t1 t2 t3 := ⟨PySem.W.mg_of X G aW, ⟨rW, gW⟩, ⟨fW0, rfl⟩, ⟨fW1, rfl⟩, ⟨fW2, rfl⟩, ⟨fW3, rfl⟩, tw tW0 (by simp) (.cons ⟨_, rfl⟩ (.cons ⟨_, rfl⟩ (.cons ⟨_, rfl⟩ .nil))), tw tW1 (by simp) (.cons ⟨_, rfl⟩ (.cons ⟨_, rfl⟩ (.cons ⟨_, rfl⟩ .nil))), tw tW2 (by simp) (.cons ⟨_, rfl⟩ (.cons ⟨_, rfl⟩ .nil)), tw tW3 (by simp) (.cons ⟨_, rfl⟩ (.cons ⟨_, rfl⟩ .nil))⟩
  have SM : SC.SMet K C (.type "type") "every" pE g12 := ⟨sE, ⟨rest, aD12⟩, kD12⟩
  refine ⟨PySem.W.fnOf "law" "law" (defArgs sLaw) (defBody sLaw) (defScope sLaw) .none gkV11 gdc11 gpm11 gan11 gcd11 gct11, fun s v => .of_eq rfl, fun base _ _ => ?_⟩
  have GT := ok_tape (P := l.prog) (w := w) (base := base) FT T
  have GD := ok_draw (P := l.prog) (w := w) (base := base) FD T
  have GP := ok_pick (P := l.prog) (w := w) (base := base) FP T GD TD bD
  have GN := ok_num (P := l.prog) (w := w) (base := base) FN GD TD bD GP TP bP
  have GC := ok_com (P := l.prog) (w := w) (base := base) FC T
  have GB := ok_pb (P := l.prog) (w := w) (base := base) FB T
  have GH := ok_pa (P := l.prog) (w := w) (base := base) FH T
  have GEv := ok_every (P := l.prog) (w := w) (base := base) FEv TW
  have GY := ok_way (P := l.prog) (w := w) (base := base) FY T TI TW
  have GJ := ok_isnum (P := l.prog) (w := w) (base := base) FJ TI
  have GR := ok_runs (P := l.prog) (w := w) (base := base) FR T
  have GA : FnOk l.prog w K mg base CX0 2 g7 (PySem.W.fnOf "account" "account" (defArgs sAcc) (defBody sAcc) (defScope sAcc) .none gkV7 gdc7 gpm7 gan7 gcd7 gct7) ["way", "copies", "crashes", "losses"] (spAcc K) := ok_acc FA T GY TY bY GJ TJ bJ GR TR bR
  have kA : KBn K (PySem.W.fnOf "account" "account" (defArgs sAcc) (defBody sAcc) (defScope sAcc) .none gkV7 gdc7 gpm7 gan7 gcd7 gct7) ["way", "copies", "crashes", "losses"] 0 ["losses", "crashes", "copies", "way"] (fun _ ws => ws.reverse) (fun _ zs => zs.reverse) := ⟨fun s us ws _ h1 h2 => match us, ws, h1, h2 with | [], [_, _, _, _], _, _ => .of_eq rfl, fun _ r => kwd_rev r⟩
  exact ok_law FL T GT TT bT GD TD bD GP TP bP GN TN bN GC TC bC GB TB bB GH TH bH GA TA bA kA TW SM GEv bEv
end K69

set_option Elab.async false
set_option linter.all false
set_option maxRecDepth 100000
open L2

open PySem PySem.W PyProof.Rows
set_option maxRecDepth 100000 in
set_option maxHeartbeats 0 in
theorem PySem.Challenge.cw_oncepost_k69_account_of_great_numbers_holds : PySem.Challenge.rw_oncepost_k69_account_of_great_numbers.Holds := by
  w_on; o_law; k_head; (case hw => w_witness2)
  k_fill
  refine RG.walkG (l := PySem.Challenge.rw_oncepost_k69_account_of_great_numbers) (n := 24) (x := "_law_script") (CX := CX0) (sp := K69.spLaw) rfl (by decide) rfl ⟨rfl, by decide, by decide⟩ (fun w h Y => PySem.W.kIn_of Y) ?F ?tl ?qu
  case F =>
    intro w mg fa h KX G hmg
    refine' K69.all_mk KX G hmg ?z_int ?z_len ?z_abs ?z_list ?z_dict ?z_min ?z_max ?z_range ?z_repr ?z_isinstance ?z_tuple ?z_bool ?aD0 ?lD0 ?cD0 ?kD0 ?aD1 ?lD1 ?cD1 ?kD1 ?aD2 ?lD2 ?cD2 ?kD2 ?aD3 ?lD3 ?cD3 ?kD3 ?aD4 ?lD4 ?cD4 ?kD4 ?aD5 ?lD5 ?cD5 ?kD5 ?aD6 ?lD6 ?cD6 ?kD6 ?aD7 ?lD7 ?cD7 ?kD7 ?aD8 ?lD8 ?cD8 ?kD8 ?aD9 ?lD9 ?cD9 ?kD9 ?aD10 ?lD10 ?cD10 ?kD10 ?aD11 ?lD11 ?cD11 ?kD11 ?aW ?rW ?gW ?fW0 ?tW0 ?fW1 ?tW1 ?fW2 ?tW2 ?fW3 ?tW3 ?sE ?aD12 ?lD12 ?cD12 ?kD12
    (case z_int => k_is); (case z_len => k_is); (case z_abs => k_is); (case z_list => k_is)
    (case z_dict => k_is); (case z_min => k_is); (case z_max => k_is); (case z_range => k_is)
    (case z_repr => k_is); (case z_isinstance => k_is); (case z_tuple => k_is); (case z_bool => k_is)
    (case aD0 => k_is); (case lD0 => k_is); (case cD0 => k_is); (case kD0 => k_is)
    (case aD1 => k_is); (case lD1 => k_is); (case cD1 => k_is); (case kD1 => k_is)
    (case aD2 => k_is); (case lD2 => k_is); (case cD2 => k_is); (case kD2 => k_is)
    (case aD3 => k_is); (case lD3 => k_is); (case cD3 => k_is); (case kD3 => k_is)
    (case aD4 => k_is); (case lD4 => k_is); (case cD4 => k_is); (case kD4 => k_is)
    (case aD5 => k_is); (case lD5 => k_is); (case cD5 => k_is); (case kD5 => k_is)
    (case aD6 => k_is); (case lD6 => k_is); (case cD6 => k_is); (case kD6 => k_is)
    (case aD7 => k_is); (case lD7 => k_is); (case cD7 => k_is); (case kD7 => k_is)
    (case aD8 => k_is); (case lD8 => k_is); (case cD8 => k_is); (case kD8 => k_is)
    (case aD9 => k_is); (case lD9 => k_is); (case cD9 => k_is); (case kD9 => k_is)
    (case aD10 => k_is); (case lD10 => k_is); (case cD10 => k_is); (case kD10 => k_is)
    (case aD11 => k_is); (case lD11 => k_is); (case cD11 => k_is); (case kD11 => k_is)
    (case aW => k_is); (case rW => k_is); (case gW => k_is); (case fW0 => k_is)
    (case tW0 => k_is); (case fW1 => k_is); (case tW1 => k_is); (case fW2 => k_is)
    (case tW2 => k_is); (case fW3 => k_is); (case tW3 => k_is); (case sE => k_is)
    (case aD12 => k_is); (case lD12 => k_is); (case cD12 => k_is); (case kD12 => k_is)
  case tl =>
    intro K G a ns hl ho hS
    exact ⟨a, ns, rfl, hS, hl, fun _ => rfl⟩
  case qu =>
    intro G s e s' z
    exact z
